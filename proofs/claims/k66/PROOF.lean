import PyProof.Rows.All
import KE.KDictSum
import PyProof.Rows.RuleC_int
import PyProof.FactsAll.tuple_1
import KE.KEqDict
import PyProof.Rows.TupTab
import PyProof.AttrMissSeq
import KE.KDictOf
import KE.KPairComp
import PyProof.DictWalks
import PyProof.DictValues
import PyProof.DictItems
import PyProof.Rows.SetFrom
import KE.KRevIter
import PyProof.InstStoreFacts
import PyProof.ExcInit
import PyProof.IsiBase
import PyProof.ExcAttrAll.ValueError
import OpenK.KDescr
import KE.KIsAll
import PyProof.Rows.CatchOwn
import PyProof.RulesTry
import PyProof.RulesAs
import PyProof.RulesDel
import OpenK.KOwn
import PyProof.ExcBaseAll.ValueError
import PyProof.StationsW
import Wide.All
import OpenK.AllK
import Wide.FinOn
import Lean
import PyProof.EqAt
import PyProof.EqKinds
import PyProof.NeKinds
import PyProof.TupleCall
import PySem.Challenge.RW_wakeorder_k66_best_in_their_order
open Option renaming some→a_, none→d_, isSome_iff_exists→E2, map_some→Fo, map_eq_some_iff→Kd, isSome_map→Lj, getD_none→LJ, bind_some→LL, map_none→L3
open PySem renaming wpAny_bind→b_, wpAny_pure→e_, Addr→h_, Value→i_, starEach→j_, sizeLine→n_, wpAny→s_, Shared→t_, model→w_, eval→Cf, wpAny_newObj_type→Ck, Program→Cn, Str→Cy, wpAny_call_entry→CD, Heap→CQ, mainGlobals→CS, wpAny_callSpecial?_slot→CY, backTo→CZ, boot_len→Df, wpAny_setField→Dh, wpAny_mono→Di, wpAny_holding→Dj, compareOp→Dp, Expr→Dr, rawInt→Ds, Stmt→Dt, sizeLine_eq→Du, World→Dv, swapsWith→Dx, codeAny_builtin→DF, attributeBase→DH, mem_of_lookup→DK, sysModules→DO, DictEntry→DX, Around→D0, bootBuiltins→D5, cellsFrom→D7, cLine→D8, wpAny_Call_Name_kw→Em, assignEach→En, intKind→Ep, codeAny_mono→Er, wpAny_field→EB, binaryOp→EC, wpAny_truthy_bool→EF, keywordEach→ES, wpAny_isInstance→ET, FuncData→EZ, wpAny_of_eq→E7, foldedSetIterable→E8, ExcAttrBase→E9, wpAny_attempt→Fh, plainId_quiet→Fi, wpAny_seqItems→Ft, wpAny_fieldsOf→Fu, wpAny_typeNameOfWhole_valiter→FA, wpAny_typeNameOfWhole_keyiter→FC, pyNext→FF, codeAny→FG, wpAny_passesOwn→FK, SetTable→FN, NameKind→FO, wpAny_setState_of→FW, wpAny_dictEntries→FX, wpAny_askSetting→Ge, holding→Gf, call→Gg, wpAny_setEntries_of→Gi, backToKw→Gk, wpAny_specialOf→Gm, wpAny_execs_nil→Gn, wpAny_dictEpoch→Gp, Keyword→Gs, Paired→Gv, scanBound→Gw, wpAny_pyIter_enum→GA, wpAny_loadPart_at→GB, builtinLookup_eq_fast→GI, wpAny_rule→GN, eqBool→GO, assign→GP, Within→GQ, behindInMarks→GU, sliceBounds→GV, codeAny_call_builtin→GW, Obj→GX, wpAny_updateSeq→G2, wpAny_typeOf→G9, reduceHash→Hg, firstArgMember→Hh, wpAny_pyIter_slot→Hu, wpAny_pyIter_list→Hv, wpAny_standAt→HA, wpAny_handled→HB, wpAny_load→Ig, wpAny_call→Ih, standAt→Ii, ExcBaseFacts→Im, BindsTo→Io, typeLookup_type→Iq, letOwnedTupleGo→Ir, wpAny_isOneOf_valiter→Iz, wpAny_throw→II, wpAny_runValue→IJ, pyHash→IL, isSubtype_stop→IM, excClassObj→IP, bindArgs→IQ, setFlight→IX, pickOrder→IY, getMethod→IZ, wpAny_newList→Jj, swapsWithSole→Jk, swappedStores→Jl, wpAny_tupleItemsOf→Jq, wpAny_pyIter_tuple→Jr, isInstance→Js, Result→Jv, wpAny_setEpoch_of→JC, relayAll→JD, concat_meets→JF, callerA→JG, Scope→JK, plainObj_wpAny_Assign_Attribute→JO, wpAny_forIn_list→JU, wpAny_execs_cons→JV, pyIter→JW, noFill_tuple_add→JX, checkBuiltinCall→JY, IsPart→J5, Env→J8, numAt→J_, Model→Kb, pushCells_keeps→Ke, codeAny_of_tree→Kf, setNext→Kq, getAttr→Kr, collect→Ks, ItemsOf→Ku, wpAny_loadPart→Ky, wpAny_letOwnedTupleGo_enum→Kz, setsByText→KA, setField→KC, raiseNew→KD, newTuple→KG, newFunctionEnv→KH, newExc→KI, isSubtype_type→KJ, intKind_is→KL, callWith→KN, GenState→KS, wpAny_comprehension_free→K9, seq_tuple_add→K_, rangeSize_one→La, nums_intItems→Lb, updateSeq→Lq, seqItems?→Lr, noteFrame→Lu, lastMarks→Lv, eqIsQuiet→Lw, bindL→Lx, bindC→Ly, Walks→Lz, PassesOwn→LF, wpAny_Assign_Subscript→LP, seqIndex_neg→LQ, newList→LR, isTrue→LS, getItem→LU, IsPair→LV, ElemsOf→LW, wpAny_notOrdered_dict→L9, wpAny_isOneOf_keyiter→L_, isSubtype_tuple_tuple→Ma, Sem→Mb, unbindBehindTheSuite→Mn, seqIndex_of→Mo, numAt_eq→Mp, intItems_at→Mr, codeAny_extend_loopS→Ms, atKey→Mt, wpAny_isSubtype_exc→ML, call_enumerate_list→MM, wpAny_setItem_heap→MU, wpAny_Name→MV, typeLookup→MW, tupleKind_room_in1→MX, truthy→MY, checkCount→MZ, call_meets→M0, builtinsNs→M3, Fin→M5, wpAny_storeSet_of→Na, wpAny_assign_Name→Nb, wpAny_Assign_Name→Nc, unaryOp→Nd, storedH→Nf, slot_list_getitem→Ng, setItem→Nh, setAttr→Ni, leaving→Nj, hashInt→Nk, fits_of_scanBound→Nl, call_sum_walkAnyS→Nm, Pos→Nu, OwnTail→Nv, Drawn→NA, wpAny_pyIter_zip→NG, wpAny_lookBehind→NH, wpAny_Dict_empty→NI, small_one→NJ, pastItsLine_dict→NK, getAttrBy→NL, drawOrder→NM
open Bool renaming false→c_, true→f_, and_eq_true→u_, false_ne_true→CI, false_eq_true→Dd, not_true→Gd, or_eq_true→HG, false_and→Ib, and_false→Ic, true_and→IG, or_true→Kx, eq_iff_iff→MJ, not_false→MS, or_false→M9, and_true→M_
open PySem.Heap renaming get?_push_of_some→g_, get?_push_size→k_, lt_size→o_, get?_update_other→Ce, get?_update_self→CJ, size_push→CN, SameBut→Ea, size_update→FY, get?_none_of_le→HU, ExtBut→HV
open Nat renaming le_refl→m_, ne_of_lt→Cd, lt_of_lt_of_le→Cq, le_trans→C9, lt_irrefl→C_, zero_le→Dg, lt_succ_self→DD, ne_of_gt→Eb, le_succ→Ee, lt_succ_of_lt→Ey, le_of_lt→EL, zero_add→F9, succ_ne_self→Hr, le_add_right→Ht, lt_trans→HE, lt_trichotomy→Jg, le_of_eq→Jh, not_lt_zero→JN, not_lt→J9, add_assoc→Kn, lt_of_le_of_lt→L4, le_of_succ_le→Mg, min_eq_right→MH, min_eq_left→MP, sub_zero→NS, le_total→NT
open List renaming getElem?_set_ne→q_, mem_cons→r_, length_map→v_, getElem?_eq_some_iff→y_, size_toArray→z_, map_cons→A_, getElem?_set_self→B_, range→Cc, map_map→Cg, length_cons→Ci, lookup_cons→Cp, getElem?_eq_getElem→Cr, mem_cons_of_mem→Cw, mem_cons_self→Cz, mem_map→CA, length_set→CB, getElem?_map→CC, mem_range→CO, length_append→CP, not_mem_nil→CT, mem_filter→Dc, mem_append_right→Dk, replicate→Dl, getD_eq_getElem?_getD→Dm, mem_append→Dw, getElem?_append_left→DJ, lookup→D1, getElem_mem→D2, getElem?_cons_succ→D3, append_nil→Ed, getElem?_eq_none→Eg, pairwise_cons→Ej, length_range→Eu, append_assoc→Ew, range_succ→Ez, set_cons_zero→EN, set_cons_succ→EO, drop_eq_getElem_cons→EY, reverse_cons→E3, mem_of_getElem?→E4, map_congr_left→E_, filterMap_cons→Fb, filter_cons_of_pos→Fd, filter_cons_of_neg→Fe, take_of_length_le→Fp, mem_filterMap→Fq, map_nil→Fs, map_append→Fz, length_replicate→FE, pairwise_append→FR, length_take→FZ, countP_cons→F7, all_eq_true→F8, length_eq_zero_iff→Gj, drop_zero→Gu, drop_length→Gz, nodup_cons→GK, foldl_cons→GL, length_reverse→GR, getElem?_range→GS, mem_singleton→G0, pairwise_iff_getElem→G8, length_drop→Hl, eraseIdx_cons_succ→Hm, range_succ_eq_map→Hy, getElem_cons_succ→Hz, mem_iff_getElem?→HJ, length_singleton→HK, length_filter_le→HL, range_eq_range'→HZ, range'→H9, length_eraseIdx→H_, length→Ia, mem_map_of_mem→Iv, getElem_of_mem→Iw, findSome?_cons→Iy, pairwise_map→Ja, ext_getElem?→Jb, exists_of_findSome?_eq_some→Jc, take_length→Jn, range'_succ→Jo, sum_append→Jx, of_mem_zip→Jy, nil_append→Jz, length_nil→JA, find?_cons→JB, getElem?_append_right→JS, forIn_nil→JT, getElem?_replicate→Ko, getElem?_cons_zero→Kp, pairwise_lt_range→Kv, drop_of_length_le→Kw, getElem?_toArray→K3, mem_append_left→K7, toList_toArray→Lk, countP_pos_iff→Ll, map_replicate→LM, getElem?_drop→LN, contains_cons→LO, take_sublist→L5, foldl_append→L6, flatMap_cons→L7, mem_flatMap→Mh, filter_cons→Mi, ext_getElem→Mj, forIn_cons→MI, take_succ→MQ, nodup_nil→MR, toArray→ND, map_set→NF
open PySem.Value renaming ref→x_, none→CG, type→DL, int→FU, builtin→Ga, isInt→GF, bool→ID, isInt_shape→IT, str→Ka, float→KQ, bytes→Nt
open Decidable renaming decide→Ca
open PySem.W renaming findIn→Cm, kitOne→CW, emptyDict→Dn, mroIn→DM, InstAt→Et, instObj→EJ, kas_sort→EM, kas_place→EU, kia_one→E1, hasDictIn→Fc, cellsFrom_some→Fj, plainGet→Fv, keepIn→FH, looks_findIn→FL, makesIn→Gq, kas_rev→Gr, kas_desc→GC, isFn→GD, lookIn→G3, plainGet_of→G6, kas_asc→G_, methodCall_KW→Hn, methodObj→IA, kitx_list→IB, kitx_dict→IC, OpenLaw→IS, specialIn→I9, handedIn→Je, fnOf→Jf, notCls→Jt, callWith_K→Ju, kas_descPart→JI, typeIn→JZ, codeIn→J0, clsIn→J1, looks_clsIn→Kg, findObj_own→Kh, any_some→Ki, kas_bin→Kt, kitx_tuple→KO, isNs_of_in→KP, kitx_none→K5, kitx_bool→K6, kitx_str→Ld, kitx_int→Le, WalkO→Lf, plainOver→LA, kia_tup→LB, kas_tail3→LC, kas_count→LD, nsIn→Mu, Frag→Mv, kitAny→M4, takesIn→Nn, set_plain→Np, make_core→Nq, get_value→Nr, makes_of→NO, InitBack→NP
open PySem.NameKind renaming free→Co, cell→Ef
open Array renaming length_toList→Ct, getElem?_toList→CU, getElem?_eq_getElem→Dq, getD_eq_getD_getElem?→D4, getElem?_eq_some_iff→D_, getElem?_eq_none→EE, perm_iff_toList_perm→GY, toList_push→IV, toList→IW, forIn_toList→Ln, find?_toList→Lo, append_assoc→Lp
open Option.some renaming inj→Cu, injEq→Dy
open PyProof.Rows renaming callWith_type1→CF, boot_list→DY, seqObj→D6, boot_isinstance→EK, boot_tuple→EX, IntsAre→E6, slot_tuple_getitem→Fm, envOfC→FV, AllBare→Hx, boot_max→HQ, callWith_builtin1→HX, entry_list_sort→Km, slot_list_sort→KZ, boot_range→K0, args_list_sort→K1, Call_→K2, listUpdate_at→Li, subscriptTail_builtinR→LX, plain_sorted→LY, entry_sorted→LZ, args_sorted1→L0, seqEpoch_at→MD, kind_sorted→ME, boot_sorted→MF, boot_min→MG, IsTup→NC
open PySem.Builtin.Tuple renaming tupleHashOf→CH, tupleExact→GH, tupleItemsOf→IE
open PySem.Heap.SameBut renaming update→CM
open Ne renaming symm→CV
open PySem.Obj renaming mapSeq→C8, mapFields→DQ, data_mapFields→DZ, isFreed_of_fields→Eh, cls_mapFields→Hc, putSet→IU
open PySem.Around renaming under_plainId→De
open Except renaming ok→Dz, error→Ek, bind→M8
open PySem.F renaming slot_dict_valueiterator_next→DB, slot_dict_keyiterator_next→DR, slot_tuple_iterator_next→EV, plain_list_iadd→FP, called_set→Gb, args_tuple_add_2→G4, plainAttrs_list→Ha, entry_tuple_add→Hb, slot_tuple_add→Hi, slot_tuple_hash→Hk, plain_min_loop→HC, args_dict_valueiterator_next_1→HD, entry_dict_valueiterator_next→HI, args_dict_keyiterator_next_1→HN, entry_dict_keyiterator_next→HW, plain_proto_collect→Ij, entry_proto_collect→Ik, args_tuple_iterator_next_1→Il, entry_tuple_iterator_next→Iu, slot_dict_values_iter→I_, entry_list_iadd→Jw, slot_dict_values→JL, slot_list_count→JP, plainAttrs_dict→JQ, slot_tuple_eq→J6, slot_dict_iter→J7, slot_dict_get→Kc, args_object_init_2→Kl, slot_list_extend→KU, slot_list_append→KW, typeOf_object_class→LG, plain_extend_loop→Mc, entry_min_loop→M6, slot_set_iter→Nx, plain_set_new→Ny, entry_bexc_ga→Nz
open Pure renaming pure→DC
open Int renaming toNat_natCast→DN, le_refl→Eo, le_trans→HF, emod_nonneg→HM, zero_add→K4, mul_one→Lm, emod_lt_of_pos→L8, lt_trichotomy→Ml
open False renaming elim→DV
open PySem.SetTable renaming below→D9, grown→FD
open PySem.Builtin.Dict_items renaming ownsTuple→Ec, newIterator→Me, dictOf→Mf
open List.Perm renaming refl→Ei, swap→Ji
open PySem.Str renaming ofString→El, empty→Mw
open True renaming intro→Ex
open Except.ok renaming inj→EA
open PySem.Builtin.Dict renaming showsAll→ED
open LawfulBEq renaming eq_of_beq→EG
open PySem.Builtin.SmallTypes renaming nextOf→Fl
open Function renaming comp→Fn
open PySem.Shared renaming TypeIs→Fw
open PySem.Builtin.Slice renaming slicePlaces→Fx, sliceAdjust→GG, sliceApplied→IF, slicePartIndex→NQ, sliceFields→NR
open PyProof.Rows.F renaming plain_set_update_loop→Fy, entry_set_update_loop→Hd
open PySem.Builtin.List renaming listSameRef→FJ, listExtendWith→Gx, listTooLong→GJ
open PySem.Builtin.Range renaming rangeSize→FQ, small→Hj
open List.Pairwise renaming nil→F_
open PySem.Calls renaming spliced_cons→Gh, call_function_entry→G5, callWith_builtin→Hq, Name_function_global→JM, evalArgs_plain→KY, spliced_nil→LH
open Array.Perm renaming refl→Gy
open PySem.AutoSeq1 renaming wpAny_loadPart'→GZ
open PySem.Paired renaming length→G7
open List.cons renaming injEq→He
open ForInStep renaming yield→Hf
open PySem.SeqAt renaming EqAt→Ho, ne_of_list_tuple→Kj, RcNeAt→Kk, RcAt→Lh
open PySem.EntryCells renaming newEntry→Hw
open PySem.Builtin.Builtins renaming bindParams→HP
open PySem.W.KasT renaming ret→HR
open Prod.mk renaming injEq→HY
open Sum renaming inl→Ip, inr→Jd
open PySem.Code renaming quiet_builtin→IH
open PyProof.Rows.IntsAre renaming int_at→Jm, length→LI
open PySem.pickOrder renaming go→JE
open PySem.Walks renaming list→JH
open PySem.SetTable.below renaming go→JJ
open Prod renaming ext→JR
open PySem.Heap.Ns1 renaming of_empty→KR
open PySem.Within renaming cons→Lc
open PySem.W.Looks renaming here→Lg
open PyProof.Rows.IsTup renaming new→L1
open PySem.Builtin.ObjectAttr renaming storeInOwnDict→Md
open PySem.SetTable.probe renaming go→Mx
open PySem.Builtin.Frozenset renaming updateFrom→My, slot0→Mz, sizeOf→MA, newClass→MB, addrOf→MC
open PySem.Moved renaming eq_with→MN
open PySem.ItemsOf renaming nil→MO
open PySem.Challenge renaming pw_wakeorder_k66_best_in_their_order→M7
open PySem.Heap.IsSliceOf renaming new→Nw
open PyProof.Rows.SortSt renaming mk'→NB
abbrev l_:=@if_neg
abbrev p_:=@if_pos
noncomputable abbrev Cj:=@absurd
abbrev CK:=@decide_eq_true_eq
abbrev DU:=@decide_eq_false
abbrev EI:=@beq_iff_eq
abbrev ER:=@if_false
abbrev EW:=@of_decide_eq_true
abbrev E5:=@beq_eq_false_iff_ne
abbrev Ff:=@decide_eq_true
abbrev FT:=@or_false
abbrev G1:=@congrArg
abbrev Ie:=@of_decide_eq_false
abbrev Jp:=@if_true
abbrev K8:=@bne_self_eq_false
abbrev Mm:=@DecidableEq
abbrev MK:=@trivial
abbrev MT:=@not_or
set_option Elab.async false
set_option linter.all false
set_option maxRecDepth 100000
set_option maxHeartbeats 4000000
open PySem.W (plainOver takerIn typeIn specialIn keepIn takesIn kitOne kia_one callWith_K fnOf codeIn nsIn mg_of kitAny)
abbrev Fg:=Mv
abbrev Pn:=List (h_×GX)
abbrev Vp:=i_->t_->Prop
abbrev Mq:=Cy->Option i_
noncomputable section
theorem Jq0(_:True:=by rfl):True:=trivial
local macro_rules|`(~~~$t)=>`(autoParam $t Jq0._auto_1)
theorem Jq1(_:True:=by decide):True:=trivial
local macro_rules|`($t⁻¹)=>`(autoParam $t Jq1._auto_1)
theorem Jq2_(_:True:=by k_is):True:=trivial
def Jq2:Lean.Syntax:=Jq2_._auto_1
theorem Jq8{a b c:Prop}(h:b):a∨b∨c:=.inr (.inl h)
theorem Jq9{a b c:Prop}(h:c):a∨b∨c:=.inr (.inr h)
theorem Jq3_(_:True:=by first|exact Or.inl rfl|exact Jq8 rfl|exact Jq9 rfl):True:=trivial
def Jq3:Lean.Syntax:=Jq3_._auto_1
theorem Jq4_(_:True:=by first|exact .inl rfl|exact .inr rfl|assumption):True:=trivial
def Jq4:Lean.Syntax:=Jq4_._auto_1
theorem Jq5_(_:True:=by intro _;rfl):True:=trivial
def Jq5:Lean.Syntax:=Jq5_._auto_1
theorem Jq6_(_:True:=by first|exact Or.inl rfl|exact Or.inr rfl):True:=trivial
def Jq6:Lean.Syntax:=Jq6_._auto_1
namespace L2
open PySem PySem.Spec PyProof.Rows
variable {κ:Type} {a b dx C:h_} {w:Dv} {h h':CQ} {x name m qual:Cy} {e c tg:Dr} {pins:Pn} {s s':t_} {g':Array KS} {ch fp:List h_} {N ps:List Cy} {i j k n:Nat} {A:D0} {E:Vp} {u:i_} {Q:Unit->t_->Prop} {pos pos' p apos:Nu} {K:Fg} {es:List Dr} {g:Int->Int->Int} {body:List Dt} {op op':CmpOp} {us:List i_} {mA mg:Mq} {prog:Cn} {pl:Mb Bool} {kw:List (Cy×i_)} {outer:List J8} {fd:EZ} {scope:JK}
noncomputable abbrev Key:=Sum Int Cy
noncomputable def keyIs:Key->i_->Bool
 |.inl k,v=>GF k v
 |.inr x,v=>Value.isStrOf x v
noncomputable def keyH (w:Dv):Key->Int
 |.inl k=>Nk k
 |.inr x=>hashStr w x
theorem bP:∀{k:Key} {v:i_},keyIs k v=f_->(∃i t,k=Ip i/\v=FU i t)\/(∃x t,k=Jd x/\v=Ka x t)
 |.inl i,v,h=>by
  obtain ⟨t,e⟩:=IT (k:=i) (v:=v) h;exact .inl ⟨i,t,rfl,e⟩
 |.inr x,v,h=>by
  obtain ⟨t,e⟩:=Value.isStrOf_shape (x:=x) (v:=v) h;exact .inr ⟨x,t,rfl,e⟩
theorem key_ll (a b:Int):Ca ((Ip a:Key)=Ip b)=(a==b):=by
 by_cases e:a=b
 ·subst e;simp
 ·have h:¬(Ip a:Key)=Ip b:=fun q=>e (Sum.inl.inj q);rw [DU h];exact (E5.mpr e).symm
theorem key_rr (a b:Cy):Ca ((Jd a:Key)=Jd b)=Ca (a=b):=by
 by_cases e:a=b
 ·subst e;simp
 ·have h:¬(Jd a:Key)=Jd b:=fun q=>e (Sum.inr.inj q);rw [DU h,DU e]
theorem key_lr (a:Int) (b:Cy):Ca ((Ip a:Key)=Jd b)=c_:=DU (fun q=>nomatch q)
theorem key_rl (a:Cy) (b:Int):Ca ((Jd a:Key)=Ip b)=c_:=DU (fun q=>nomatch q)
def vh (prog:Cn) (w:Dv):PySem.KeyKind prog w Key where
 is:=keyIs
 hash:=keyH w
 inj:=fun v a b U J=>by
  rcases bP U with ⟨i,t,rfl,rfl⟩|⟨x,t,rfl,rfl⟩
  ·rcases bP J with ⟨j,u,rfl,e⟩|⟨y,u,rfl,e⟩
   ·injection e with e1 _;rw [e1]
   ·exact nomatch e
  ·rcases bP J with ⟨j,u,rfl,e⟩|⟨y,u,rfl,e⟩
   ·exact nomatch e
   ·injection e with e1 _;rw [e1]
 byValue:=fun k v h=>by
  rcases bP h with ⟨i,t,rfl,rfl⟩|⟨x,t,rfl,rfl⟩<;>rfl
 pyHash:=fun hv h=>by
  rcases bP hv with ⟨i,t,rfl,rfl⟩|⟨x,t,rfl,rfl⟩
  ·exact wpAny_pyHash_int h
  ·exact wpAny_pyHash_str h
 eqBool:=fun S hv h=>by
  rcases bP S with ⟨i,t,rfl,rfl⟩|⟨x,t,rfl,rfl⟩
  ·rcases bP hv with ⟨j,u,rfl,rfl⟩|⟨y,u,rfl,rfl⟩
   ·rw [key_ll] at h;exact wpAny_eqBool_int h
   ·rw [key_lr] at h;exact SeqAt.EqAt.int_str i t y u _ _ _ _ h
  ·rcases bP hv with ⟨j,u,rfl,rfl⟩|⟨y,u,rfl,rfl⟩
   ·rw [key_rl] at h;exact SeqAt.EqAt.str_int x t j u _ _ _ _ h
   ·rw [key_rr] at h;exact wpAny_eqBool_str h
 «strs»:=fun k x t v h=>by
  rcases bP h with ⟨i,u,rfl,e⟩|⟨y,u,rfl,e⟩
  ·exact nomatch e
  ·injection e with e1 _
   subst e1;cases v<;>rfl
inductive V where
 |non|bl (b:Bool)|int (i:Int)|str (x:Cy)|byt (b:Array UInt8)|flt (b:UInt64)|ref (a:h_)|ty (n:String)
 deriving DecidableEq
variable {v y:V} {xs vs:List V}
def RelV:V->i_->Prop
 |.non,u=>u=CG
 |.bl b,u=>u=ID b
 |.int i,u=>∃t,u=FU i t
 |.str x,u=>∃t,u=Ka x t
 |.byt b,u=>∃t,u=Nt b t
 |.flt b,u=>∃t,u=KQ b t
 |.ref a,u=>u=x_ a
 |.ty n,u=>u=DL n
abbrev Vals:List V->List i_->Prop:=Gv RelV
theorem Vals.length {xs:List V} {us:List i_} (r:Vals xs us):xs.length=us.length:=G7 r
theorem Vals.get:∀{xs:List V} {us:List i_} {i:Nat} {x:V},Vals xs us->xs[i]? =a_ x->∃u,us[i]? =a_ u/\RelV x u
 |_,_,_,_,.nil,e=>by simp at e
 |_,_,0,_,.cons r _,e=>by simp at e;subst e;exact ⟨_,rfl,r⟩
 |_,_,i+1,x,.cons _ t,e=>by
  obtain ⟨u,h1,h2⟩:=Vals.get (i:=i) (x:=x) t (by simpa using e);exact ⟨u,by simpa using h1,h2⟩
theorem Vals.set {x:V} {u:i_} (r:RelV x u):∀{xs:List V} {us:List i_} (i:Nat),Vals xs us->Vals (xs.set i x) (us.set i u)
 |_,_,_,.nil=>.nil
 |_,_,0,.cons _ t=>.cons r t
 |_,_,i+1,.cons q t=>.cons q (Vals.set r i t)
theorem Vals.append:∀{xs ys:List V} {us J:List i_},Vals xs us->Vals ys J->Vals (xs++ys) (us++J)
 |_,_,_,_,.nil,s=>s
 |_,_,_,_,.cons r t,s=>.cons r (Vals.append t s)
theorem Vals.take:∀{xs:List V} {us:List i_} (n:Nat),Vals xs us->Vals (xs.take n) (us.take n)
 |_,_,0,_=>.nil
 |_,_,_+1,.nil=>.nil
 |_,_,n+1,.cons r t=>.cons r (Vals.take n t)
theorem Vals.drop:∀{xs:List V} {us:List i_} (n:Nat),Vals xs us->Vals (xs.drop n) (us.drop n)
 |_,_,0,r=>r
 |_,_,_+1,.nil=>.nil
 |_,_,n+1,.cons _ t=>Vals.drop n t
def pF:Option V->Option i_->Prop
 |some v,a_ u=>RelV v u
 |none,d_=>True
 |_,_=>False
def KV:List (κ×V)->List (κ×i_)->Prop:=Gv fun (p:κ×V) (q:κ×i_)=>p.1=q.1/\RelV p.2 q.2
noncomputable def kV:Key->V
 |.inl i=>.int i
 |.inr x=>.str x
inductive HO where
  |lst (xs:List V)
  |tup (xs:List V)
  |dK (kvs:List (Key×V))|dT (kvs:List (List Key×V))
  |set (S:Int->Bool) (n:Nat)
  |ins (C dx:h_) (fs:List (Cy×V))
  |own (x:h_)
  |xd (fs:List (Cy×V))
  |met (f x:h_)
  |rng (lo hi:Int)
  |frz (o:GX) (u:HO)
  |tbl (ps:Array i_)
  |ext (φ:CQ->Prop)
variable {o:HO}
noncomputable abbrev Hp:=h_->Option HO
variable {H H':Hp}
noncomputable def upd (H:Hp) (a:h_) (o:HO):Hp:=fun b=>if b=a then a_ o else H b
theorem ao:upd H a o a=a_ o:=by unfold upd;rw [p_ rfl]
theorem aq (h:b≠a):upd H a o b=H b:=by unfold upd;rw [l_ h]
theorem aF (h:H a=a_ o) (h':H b=d_):a≠b:=by
 intro e;subst e;rw [h] at h';cases h'
section
variable (P:Cn) (w:Dv)
def bK (H:Hp) (h:CQ) (a:h_):HO->Prop
 |.lst xs=>xs.length<=n_/\∃(its:List i_) (n:Nat),Vals xs its/\h.get? a=a_ {cls:=.type "list",data:=.seq its.toArray n}
 |.tup xs=>xs.length<=n_/\∃its:List i_,Vals xs its/\NC h a its.toArray
 |.dK J=>J.length<=n_/\(a==DO)=c_/\∃vs,KV J vs/\h.DictOf (vh P w) a vs
 |.dT J=>J.length<=n_/\(a==DO)=c_/\∃xs:List (List Key×h_×i_),
   Gv (fun (p:List Key×V) (q:List Key×h_×i_)=>p.1=q.1/\H q.2.1=a_ (.tup (p.1.map kV))/\RelV p.2 q.2.2) J xs /\
   ∃o es ep,h.get? a=a_ o/\o.ExactDict/\o.data=.dict es ep/\es.toList=xs.map (entryOfKey (tupleKind (vh P w)))/\(xs.map (·.1)).Nodup
 |.set S n=>h.SetOf (Ep P w) a S n
 |.ins C dx fs=>H dx=a_ (.own a)/\fs.length<=1000/\dx≠a/\h.get? a=a_ (EJ C dx) /\
   ∃mA,h.Ns1 dx mA/\(∀f,pF (fs.lookup f) (mA f))/\GQ mA (fs.map (·.1))
 |.own _=>∃o,h.get? a=a_ o
 |.xd fs=>∃mA,h.Ns1 a mA/\∀f,pF (fs.lookup f) (mA f)
 |.rng lo hi=>∃t u v,h.get? a=a_ {cls:=.type "range",data:=.fields #[.int lo t,.int hi u,.int 1 v]}
 |.frz o u=>h.get? a=a_ o/\bK H h a u
 |.tbl ps=>h.get? a=a_ {cls:=.none,data:=.fields ps}
 |.met f x=>h.get? a=a_ (IA (.ref f) (.ref x))
 |.ext U=>U h/\(∃o,h.get? a=a_ o)/\∀h1 h2:CQ,U h1->(∀o,h1.get? a=a_ o->h2.get? a=a_ o)->U h2
def HOk (H:Hp) (h:CQ):Prop:=∀a o,H a=a_ o->bK P w H h a o
end
section
variable {P:Cn} 
theorem bK.lt (x:bK P w H h a o):a<h.objs.size:=by
 cases o with
 |lst xs=>obtain ⟨_,_,_,_,e⟩:=x;exact o_ e
 |tup xs=>obtain ⟨_,_,_,p⟩:=x;exact p.lt
 |dK J=>obtain ⟨_,_,_,_,o,_,_,e,_⟩:=x;exact o_ e
 |dT J=>obtain ⟨_,_,_,_,o,_,_,e,_⟩:=x;exact o_ e
 |set S n=>obtain ⟨o,_,_,_,e,_⟩:=x;exact o_ e
 |ins C dx fs=>obtain ⟨_,_,_,e,_⟩:=x;exact o_ e
 |own y=>obtain ⟨_,e⟩:=x;exact o_ e
 |xd fs=>obtain ⟨_,⟨_,_,_,e,_⟩,_⟩:=x;exact o_ e
 |rng lo hi=>obtain ⟨_,_,_,e⟩:=x;exact o_ e
 |frz Y u=>obtain ⟨e,_⟩:=x;exact o_ e
 |tbl ps=>exact o_ (show h.get? a=a_ _ from x)
 |met f y=>exact o_ (show h.get? a=a_ _ from x)
 |ext U=>obtain ⟨_,⟨_,e⟩,_⟩:=x;exact o_ e
theorem Paired.mapP {α β:Type} {F G:α->β->Prop}:∀{S:List α} {J:List β},Gv F S J->(∀a b,F a b->G a b)->Gv G S J
 |_,_,.nil,_=>.nil
 |_,_,.cons r t,f=>.cons (f _ _ r) (Paired.mapP t f)
theorem bK.uz (x:bK P w H h a o) (k:∀b u,(b=a\/H b=a_ (.own a))->h.get? b=a_ u->h'.get? b=a_ u)
  (j:∀b,H b=a_ (.own a)->H' b=a_ (.own a)) (i:∀b xs,H b=a_ (.tup xs)->H' b=a_ (.tup xs)):bK P w H' h' a o:=by
 induction o with
 |lst xs=>obtain ⟨z,its,n,r,e⟩:=x;exact ⟨z,its,n,r,k _ _ (.inl rfl) e⟩
 |tup xs=>obtain ⟨z,its,r,J,e,c⟩:=x;exact ⟨z,its,r,J,k _ _ (.inl rfl) e,c⟩
 |dK U=>obtain ⟨z,y,vs,r,J,es,ep,e,c⟩:=x;exact ⟨z,y,vs,r,J,es,ep,k _ _ (.inl rfl) e,c⟩
 |dT U=>
  obtain ⟨z,y,xs,r,J,es,ep,e,c⟩:=x;exact ⟨z,y,xs,Paired.mapP r fun p q z=>⟨z.1,i _ _ z.2.1,z.2.2⟩,J,es,ep,k _ _ (.inl rfl) e,c⟩
 |set S n=>obtain ⟨J,es,ep,t,e,c⟩:=x;exact ⟨J,es,ep,t,k _ _ (.inl rfl) e,c⟩
 |ins C dx fs=>
  obtain ⟨d,z,Y,e,mA,⟨od,es,ep,e2,c⟩,r⟩:=x;exact ⟨j _ d,z,Y,k _ _ (.inl rfl) e,mA,⟨od,es,ep,k _ _ (.inr d) e2,c⟩,r⟩
 |own y=>obtain ⟨J,e⟩:=x;exact ⟨J,k _ _ (.inl rfl) e⟩
 |xd fs=>obtain ⟨mA,⟨od,es,ep,e,c⟩,r⟩:=x;exact ⟨mA,⟨od,es,ep,k _ _ (.inl rfl) e,c⟩,r⟩
 |rng lo hi=>obtain ⟨t,u,v,e⟩:=x;exact ⟨t,u,v,k _ _ (.inl rfl) e⟩
 |frz J u g=>obtain ⟨e,q⟩:=x;exact ⟨k _ _ (.inl rfl) e,g q⟩
 |tbl ps=>
  have e:h.get? a=a_ {cls:=.none,data:=.fields ps}:=x;show h'.get? a=a_ {cls:=.none,data:=.fields ps};exact k a _ (.inl rfl) e
 |met f y=>
  have e:h.get? a=a_ (IA (.ref f) (.ref y)):=x;show h'.get? a=a_ (IA (.ref f) (.ref y));exact k a _ (.inl rfl) e
 |ext l=>obtain ⟨p,⟨o,e⟩,st⟩:=x;exact ⟨st _ _ p fun o q=>k _ _ (.inl rfl) q,⟨o,k _ _ (.inl rfl) e⟩,st⟩
theorem HOk.lt (x:HOk P w H h) (e:H a=a_ o):a<h.objs.size:=(x a o e).lt
theorem HOk.fresh (x:HOk P w H h) (e:h.objs.size<=a):H a=d_:=by
 cases q:H a with
 |none=>rfl
 |some u=>exact Cj (Cq (x.lt q) e) (C_ _)
theorem HOk.kept (x:HOk P w H h) (k:∀b u,h.get? b=a_ u->h'.get? b=a_ u):HOk P w H h':=fun a o e=>
 (x a o e).uz (fun b u _ q=>k b u q) (fun _ q=>q) fun _ _ q=>q
theorem HOk.laid (x:HOk P w H h) (k:∀b u,h.get? b=a_ u->h'.get? b=a_ u) (Y:h.objs.size<=a) (J:bK P w (upd H a o) h' a o):HOk P w (upd H a o) h':=fun b u e=>by
 have S:=x.fresh Y;by_cases U:b=a
 ·subst U;rw [ao] at e;cases e;exact J
 ·rw [aq U] at e;exact (x b u e).uz (fun c v _ q=>k c v q) (fun c q=>by rw [aq (aF q S)];exact q) fun c xs q=>by rw [aq (aF q S)];exact q
end
def Rd (H:Hp) (a:h_) (u:HO):Prop:=H a=a_ u\/∃o,H a=a_ (.frz o u)
theorem Rd.ok {P:Cn} {u:HO} (r:Rd H a u) (x:HOk P w H h):bK P w H h a u:=by
 rcases r with r|⟨o,r⟩
 ·exact x a u r
 ·obtain ⟨_,q⟩:=x a _ r;exact q
def Mut:Option HO->Prop
 |some (.lst _)=>True
 |some (.dK _)=>True
 |some (.dT _)=>True
 |some (.set _ _)=>True
 |some (.ins _ _ _)=>True
 |some (.ext _)=>True
 |_=>False
section
variable {P:Cn} {x e:h_} {o':HO}
theorem HOk.write (l:HOk P w H h) (Y:Mut (H x)) (j:e=x\/H e=a_ (.own x)) (k:∀b u,b≠e->h.get? b=a_ u->h'.get? b=a_ u) (g:∃u,h'.get? e=a_ u)
  (f:bK P w (upd H x o') h' x o'):HOk P w (upd H x o') h':=fun b u q=>by
 have S:∀c y,H c=a_ (.own y)->c≠x:=fun c y r z=>by subst z;rw [r] at Y;exact Y
 have U:∀c xs,H c=a_ (.tup xs)->c≠x:=fun c xs r z=>by subst z;rw [r] at Y;exact Y
 by_cases d:b=x
 ·subst d;rw [ao] at q;cases q;exact f
 ·rw [aq d] at q;by_cases J:b=e
  ·have i:H b=a_ (.own x):=by
    rcases j with z|z
    ·exact Cj (J.trans z) d
    ·rw [J];exact z
   rw [q] at i;cases i;obtain ⟨v,hv⟩:=g;exact ⟨v,by rw [J];exact hv⟩
  ·refine (l b u q).uz (fun c v a r=>k c v ?_ r) (fun c r=>by rw [aq (S c b r)];exact r) fun c xs r=>by rw [aq (U c xs r)];exact r
   rcases a with rfl|a
   ·exact J
   ·rintro rfl;rcases j with z|z
    ·exact S c b a z
    ·rw [a] at z;cases z;exact d rfl
end
structure Un (fs ex:List h_) (H H':Hp) (h h':CQ):Prop where
 keep:∀b o,h.get? b=a_ o->H b=d_->b∉fs->b∉ex->h'.get? b=a_ o
 slot:∀b o,h.get? b=a_ o->H b=d_->b∈fs->b∉ex->∃sl,h'.get? b=a_ {o with slots:=sl}
 free:∀b o,h.get? b=a_ o->H b=d_->b∉ex->H' b=d_
 there:∀b o,h.get? b=a_ o->b∉ex->∃o',h'.get? b=a_ o'
 tups:∀b xs,H b=a_ (.tup xs)->H' b=a_ (.tup xs)
 frzs:∀b o u,H b=a_ (.frz o u)->H' b=a_ (.frz o u)
 tbls:∀b ps,H b=a_ (.tbl ps)->∃more,H' b=a_ (.tbl (ps++more))
section
variable {fs ex:List h_} {H1 H2:Hp} {h1 h2:CQ} {x e:h_} 
theorem Un.any (u:Un fs ex H H1 h h1) {J:GX} (q:h.get? b=a_ J) (n:H b=d_) (S:b∉ex):∃sl,h1.get? b=a_ {J with slots:=sl}:=by
 by_cases U:b∈fs
 ·exact u.slot b J q n U S
 ·exact ⟨J.slots,u.keep b J q n U S⟩
theorem Un.trans (a:Un fs ex H H1 h h1) (b:Un fs ex H1 H2 h1 h2):Un fs ex H H2 h h2 where
 keep:=fun c J q n U S=>b.keep c J (a.keep c J q n U S) (a.free c J q n S) U S
 slot:=fun c J q n U S=>by
  obtain ⟨sl,e1⟩:=a.slot c J q n U S;obtain ⟨Y,e2⟩:=b.slot c _ e1 (a.free c J q n S) U S;exact ⟨Y,e2⟩
 free:=fun c J q n S=>by
  obtain ⟨o',e1⟩:=a.there c J q S;exact b.free c o' e1 (a.free c J q n S) S
 there:=fun c J q S=>by
  obtain ⟨o',e1⟩:=a.there c J q S;exact b.there c o' e1 S
 tups:=fun c xs q=>b.tups c xs (a.tups c xs q)
 frzs:=fun c J xs q=>b.frzs c J xs (a.frzs c J xs q)
 tbls:=fun c ps q=>by
  obtain ⟨e,e1⟩:=a.tbls c ps q;obtain ⟨d,e2⟩:=b.tbls c _ e1;exact ⟨e++d,by rw [e2,Lp]⟩
theorem Un.kept (k:∀b u,h.get? b=a_ u->h'.get? b=a_ u):Un fs ex H H h h':=
 ⟨fun b J q _ _ _=>k b J q,fun b J q _ _ _=>⟨J.slots,k b J q⟩,fun _ _ _ n _=>n,fun b J q _=>⟨J,k b J q⟩,fun _ _ q=>q,fun _ _ _ q=>q,fun _ ps q=>⟨#[],by rw [q];simp⟩⟩
theorem Un.refl:Un fs ex H H h h:=Un.kept fun _ _ q=>q
theorem Un.laid (k:∀b u,h.get? b=a_ u->h'.get? b=a_ u) (S:h.objs.size<=a) (J:H a=d_):Un fs ex H (upd H a o) h h' where
 keep:=fun b u q _ _ _=>k b u q
 slot:=fun b u q _ _ _=>⟨u.slots,k b u q⟩
 free:=fun b u q n _=>by rw [aq (Cd (Cq (o_ q) S))];exact n
 there:=fun b u q _=>⟨u,k b u q⟩
 tups:=fun b xs q=>by rw [aq (aF q J)];exact q
 frzs:=fun b u xs q=>by rw [aq (aF q J)];exact q
 tbls:=fun b ps q=>⟨#[],by rw [aq (aF q J),q];simp⟩
theorem Un.write (S:Mut (H x)) (d:e=x\/H e=a_ (.own x)) (k:∀b u,b≠e->h.get? b=a_ u->h'.get? b=a_ u) (Y:∃u,h'.get? e=a_ u):Un fs ex H (upd H x o) h h':=by
 have a:∀b,H b=d_->b≠x:=fun b n z=>by subst z;rw [n] at S;exact S
 have c:∀b,H b=d_->b≠e:=fun b n z=>by
  subst z;rcases d with r|r
  ·exact a b n r
  ·rw [n] at r;cases r
 have U:∀b u,H b=a_ u->¬Mut (a_ u)->b≠x:=fun b u q nm z=>by subst z;rw [q] at S;exact nm S
 refine ⟨fun b u q n _ _=>k b u (c b n) q,fun b u q n _ _=>⟨u.slots,k b u (c b n) q⟩,fun b u q n _=>by rw [aq (a b n)];exact n,fun b u q _=>?_,
  fun b xs q=>by rw [aq (U b _ q fun z=>z)];exact q,fun b u xs q=>by rw [aq (U b _ q fun z=>z)];exact q,fun b ps q=>⟨#[],by rw [aq (U b _ q fun z=>z),q];simp⟩⟩
 by_cases J:b=e
 ·subst J;exact Y
 ·exact ⟨u,k b u J q⟩
end
noncomputable def trk (h:CQ) (H:Hp):List h_:=(Cc h.objs.size).filter fun a=>(H a).isSome
def hidT (h:CQ) (H:Hp):CQ:=PySem.W.hideAll h (trk h H)
theorem B9 (h:CQ) (H:Hp):(hidT h H).objs.size=h.objs.size:=PySem.W.hideAll_size _ _
theorem hidT_get {o:GX} (e:h.get? b=a_ o) (n:H b=d_):(hidT h H).get? b=a_ o:=
 PySem.W.hideAll_get _ e fun J=>by
  have q:(H b).isSome=f_:=(Dc.mp J).2;rw [n] at q;simp at q
theorem of_hidT {o:GX} (e:(hidT h H).get? b=a_ o):h.get? b=a_ o/\H b=d_:=by
 have J:h.get? b=a_ o:=PySem.W.of_hideAll (trk h H) e;refine ⟨J,?_⟩
 cases q:H b with
 |none=>rfl
 |some x=>
  have S:b∈trk h H:=Dc.mpr ⟨CO.mpr (o_ J),by simp [q]⟩;have z:(hidT h H).get? b=d_:=PySem.W.hideAll_none (trk h H) S;rw [z] at e;cases e
structure Mod (K:Fg) (mg:Mq) (base:CQ):Prop where
 kin:K.In base
 glob:base.Ns CS mg
 blt:∃mb,base.Ns M3 mb/\∀x:Cy,x≠"__name__"->mb x=D5 x
 nolimit:base.NoLimit
structure Cx where
 prog:Cn
 w:Dv
 K:Fg
 mg:Mq
 base:CQ
 A:D0
 N:List Cy
 s₀:t_
 H₀:Hp
 env:J8
 outer:List J8
 stack:List J8
 ex:List h_
 fn:Cy->Bool
 calm:Bool
 pn:Pn
 xe:Vp
variable {X:Cx}
noncomputable def frs (l:List J8):List h_:=l.filterMap (·.frame)
abbrev Cx.fs (X:Cx):List h_:=frs X.outer
def Vis (sc:JK) (x:Cy):Prop:=sc.names.lookup x=a_ .local\/sc.names.lookup x=a_ .cell\/sc.names.lookup x=a_ .free
def Loc (sc:JK) (x:Cy):Prop:=sc.names.lookup x=a_ .local\/sc.names.lookup x=a_ .cell
def Look (env:J8) (h:CQ) (m:Mq) (x:Cy) (u:i_):Prop:=
 (env.kindOf x=a_ .local/\m x=a_ u)\/((env.kindOf x=a_ .cell\/env.kindOf x=a_ .free)/\∃c,env.cells.lookup x=a_ c/\h.IsCell c (a_ u))
structure Cx.Ok (X:Cx):Prop where
 mod:Mod X.K X.mg X.base
 kind:X.env.scope.kind=.function
 glob:X.env.globals=CS
 blt:X.env.builtins=M3
 above:X.s₀.heap.objs.size<=X.env.locals
 inj:∀x y c,X.env.cells.lookup x=a_ c->X.env.cells.lookup y=a_ c->x=y
 has:∀x,(X.env.kindOf x=a_ .cell\/X.env.kindOf x=a_ .free)->∃c,X.env.cells.lookup x=a_ c
 cab:∀x c,X.fn x=f_->X.env.cells.lookup x=a_ c->X.s₀.heap.objs.size<=c
 hd:X.calm=f_->X.A.handled=d_
 frames:X.A.frames=a_ X.stack
 stk:X.stack=X.outer\/(X.stack=X.env::X.outer/\X.env.frame=a_ X.env.locals)
 exf:∀b∈X.ex,b≠X.env.locals/\∀x c,X.env.cells.lookup x=a_ c->c≠b
 bs:∀b o,X.base.get? b=a_ o->X.s₀.heap.get? b=a_ o/\X.H₀ b=d_
 bsz:X.base.objs.size<=X.s₀.heap.objs.size
 noex:∀b o,X.base.get? b=a_ o->b∉X.ex
 exfs:∀b∈X.ex,b∉X.fs
 tf:X.s₀.heap.FunFrames X.base X.outer
 frf:∀b∈X.fs,X.H₀ b=d_
structure Inv (X:Cx) (pins:Pn) (σ:List (Option V)) (H:Hp) (s:t_):Prop where
 ok:X.Ok
 os:s.os=X.s₀.os
 bare:Hx s.gens
 base:Un X.fs X.ex X.H₀ H X.s₀.heap s.heap
 loc:∃m,s.heap.Ns X.env.locals m/\∀(i:Nat) (x:Cy) (v:V),X.N[i]? =a_ x->σ[i]? =a_ (a_ v)->Vis X.env.scope x->∃u,RelV v u/\Look X.env s.heap m x u
 cell:∀x c,X.env.cells.lookup x=a_ c->∃v,s.heap.IsCell c v
 free:H X.env.locals=d_
 freeC:∀x c,X.env.cells.lookup x=a_ c->H c=d_
 pin:∀p∈X.pn++pins,s.heap.get? p.1=a_ p.2/\H p.1=d_/\p.1≠X.env.locals/\p.1∉X.fs/\∀v,p.2.data≠.cell v
 hok:HOk X.prog X.w H s.heap
 len:σ.length=X.N.length
section
variable {σ:List (Option V)} 
theorem Cx.Ok.nofr (J:X.Ok) {o:GX} (e:X.base.get? b=a_ o):b∉X.fs:=fun S=>by
 have:=(J.tf.mem S).1;rw [e] at this;cases this
theorem Inv.bs (I:Inv X pins σ H s):∀b o,X.base.get? b=a_ o->s.heap.get? b=a_ o/\H b=d_:=fun b o e=>
 ⟨I.base.keep b o (I.ok.bs b o e).1 (I.ok.bs b o e).2 (I.ok.nofr e) (I.ok.noex b o e),I.base.free b o (I.ok.bs b o e).1 (I.ok.bs b o e).2 (I.ok.noex b o e)⟩
theorem Inv.bk (I:Inv X pins σ H s):∀b o,X.base.get? b=a_ o->s.heap.get? b=a_ o:=fun b o e=>(I.bs b o e).1
theorem Inv.mod (I:Inv X pins σ H s):Mod X.K X.mg X.base:=I.ok.mod
theorem Inv.kIn (I:Inv X pins σ H s):X.K.In s.heap:=I.ok.mod.kin.keeps I.bk
theorem Inv.lt (I:Inv X pins σ H s):X.env.locals<s.heap.objs.size:=let ⟨_,J,_⟩:=I.loc;J.lt
theorem Inv.sz (I:Inv X pins σ H s):X.s₀.heap.objs.size<=s.heap.objs.size:=C9 I.ok.above (EL I.lt)
theorem Inv.nofs (I:Inv X pins σ H s) (h:s.heap.objs.size<=a):a∉X.fs:=fun S=>by
 obtain ⟨_,o,J,_⟩:=I.ok.tf.mem S;exact Cj (Cq (o_ J) (C9 I.sz h)) (C_ _)
theorem Inv.cne (I:Inv X pins σ H s):∀x c,X.env.cells.lookup x=a_ c->c≠X.env.locals:=fun x c e z=>by
 obtain ⟨v,o,U,hd⟩:=I.cell x c e;obtain ⟨m,⟨o',es,ep,J,S,_⟩,_⟩:=I.loc;rw [z,J] at U;cases U;rw [S] at hd;cases hd
theorem Inv.tf (I:Inv X pins σ H s):s.heap.FunFrames X.base X.outer:=by
 have Y:∀(l:List J8),(∀b∈frs l,b∈X.fs)->X.s₀.heap.FunFrames X.base l->s.heap.FunFrames X.base l:=by
  intro l
  induction l with
  |nil=>intro _ _;trivial
  |cons env r c=>
   intro a h;obtain ⟨i,⟨L,o,J,g,f,hd⟩,d⟩:=h;have U:L∈X.fs:=a L (by unfold frs;rw [Fb,J];exact Cz);obtain ⟨sl,e⟩:=I.base.slot L o f (I.ok.frf L U) U fun z=>I.ok.exfs L z U;exact ⟨i,⟨L,_,J,g,e,hd⟩,c (fun b S=>a b (by unfold frs;rw [Fb,J];exact Cw _ S)) d⟩
 exact Y X.outer (fun _ S=>S) I.ok.tf
theorem Inv.stack (I:Inv X pins σ H s):s.heap.FunFrames X.base X.stack:=by
 rcases I.ok.stk with e|⟨e,S⟩
 ·rw [e];exact I.tf
 ·rw [e];obtain ⟨m,J,_⟩:=I.loc;refine .cons (by rw [I.ok.kind];decide) S J ?_ I.tf;exact HU (C9 I.ok.bsz I.ok.above)
theorem Inv.oo (I:Inv X pins σ H s):∀b∈frs X.stack,b∈X.env.locals::X.fs:=fun b J=>by
 rcases I.ok.stk with e|⟨e,S⟩
 ·rw [e] at J;exact Cw _ J
 ·rw [e] at J;unfold frs at J;rw [Fb,S] at J;exact J
theorem Inv.zN (I:Inv X pins σ H s):∀b∈frs X.stack,H b=d_:=fun b J=>by
 rcases r_.mp (I.oo b J) with e|J
 ·rw [e];exact I.free
 ·obtain ⟨_,o,S,_⟩:=I.ok.tf.mem J;exact I.base.free b o S (I.ok.frf b J) fun z=>I.ok.exfs b z J
theorem Inv.step {t':Nat} {d':NA} (I:Inv X pins σ H s)
  (a:∀b∈ch,(b∈X.ex\/X.s₀.heap.objs.size<=b)/\b≠X.env.locals/\(∀x c,X.env.cells.lookup x=a_ c->c≠b)/\∀p∈X.pn++pins,p.1≠b)
  (Y:∀b o,b≠X.env.locals->b∉X.fs->b∉ch->s.heap.get? b=a_ o->H b=d_->h'.get? b=a_ o)
  (h:∀b o,b≠X.env.locals->b∈X.fs->b∉ch->s.heap.get? b=a_ o->H b=d_->∃sl,h'.get? b=a_ {o with slots:=sl}) (S:∀b o,b∉ch->s.heap.get? b=a_ o->H b=d_->H' b=d_)
  (j:∀b o,b∉ch->s.heap.get? b=a_ o->∃o',h'.get? b=a_ o')
  (y:∀b xs,H b=a_ (.tup xs)->H' b=a_ (.tup xs)) (D:∀b o u,H b=a_ (.frz o u)->H' b=a_ (.frz o u)) (A:∀b ps,H b=a_ (.tbl ps)->∃C,H' b=a_ (.tbl (ps++C)))
  (ns:∀m,s.heap.Ns X.env.locals m->h'.Ns X.env.locals m) (F:HOk X.prog X.w H' h') (T:Hx g') :
  Inv X pins σ H' {s with heap:=h',gens:=g',drawn:=d',toks:=t'}:=by
 have B:∀b o,X.s₀.heap.get? b=a_ o->b≠X.env.locals:=fun b o e=>Cd (Cq (o_ e) I.ok.above);have g:∀b o,X.s₀.heap.get? b=a_ o->b∉X.ex->b∉ch:=fun b o e J t=>by
  rcases (a b t).1 with z|z
  ·exact J z
  ·exact Cj (Cq (o_ e) z) (C_ _)
 have f:∀x c,X.env.cells.lookup x=a_ c->∀v,s.heap.IsCell c v->h'.IsCell c v:=fun x c e v ⟨o,w,hd⟩=>by
  have U:c∉ch:=fun z=>(a c z).2.2.1 x c e rfl;by_cases N:c∈X.fs
  ·obtain ⟨sl,q⟩:=h c o (I.cne x c e) N U w (I.freeC x c e);exact ⟨_,q,hd⟩
  ·exact ⟨o,Y c o (I.cne x c e) N U w (I.freeC x c e),hd⟩
 refine ⟨I.ok,I.os,T,⟨fun b o e n t J=>?_,fun b o e n t J=>?_,fun b o e n J=>?_,fun b o e J=>?_,fun b xs e=>y b xs (I.base.tups b xs e),fun b o xs e=>D b o xs (I.base.frzs b o xs e),fun b ps e=>?_⟩,?_,fun x c e=>?_,?_,fun x c e=>?_,fun p L=>?_,F,I.len⟩
 ·exact Y b o (B b o e) t (g b o e J) (I.base.keep b o e n t J) (I.base.free b o e n J)
 ·obtain ⟨sl,e1⟩:=I.base.slot b o e n t J;obtain ⟨E,e2⟩:=h b _ (B b o e) t (g b o e J) e1 (I.base.free b o e n J);exact ⟨E,e2⟩
 ·obtain ⟨o',e1⟩:=I.base.there b o e J;exact S b o' (g b o e J) e1 (I.base.free b o e n J)
 ·obtain ⟨o',e1⟩:=I.base.there b o e J;exact j b o' (g b o e J) e1
 ·obtain ⟨P,e1⟩:=I.base.tbls b ps e;obtain ⟨O,e2⟩:=A b _ e1;exact ⟨P++O,by rw [e2,Lp]⟩
 ·obtain ⟨m,Q,R⟩:=I.loc;refine ⟨m,ns m Q,fun i x v e1 e2 e3=>?_⟩
  obtain ⟨u,r,l⟩:=R i x v e1 e2 e3;refine ⟨u,r,?_⟩
  rcases l with l|⟨k,c,e,z⟩
  ·exact .inl l
  ·exact .inr ⟨k,c,e,f x c e _ z⟩
 ·obtain ⟨v,z⟩:=I.cell x c e;exact ⟨v,f x c e v z⟩
 ·obtain ⟨m,⟨o,_,_,w,_⟩,_⟩:=I.loc;exact S _ o (fun z=>(a _ z).2.1 rfl) w I.free
 ·obtain ⟨v,o,w,hd⟩:=I.cell x c e;exact S c o (fun z=>(a c z).2.2.1 x c e rfl) w (I.freeC x c e)
 ·obtain ⟨e,n,K,G,d⟩:=I.pin p L;have U:p.1∉ch:=fun z=>(a p.1 z).2.2.2 p L rfl;exact ⟨Y p.1 p.2 K G U e n,S p.1 p.2 U e n,K,G,d⟩
theorem Inv.un {t':Nat} (I:Inv X pins σ H s) (u:Un X.fs [] H H' s.heap h') (S:HOk X.prog X.w H' h'):Inv X pins σ H' {s with heap:=h',toks:=t'}:=by
 obtain ⟨m,⟨o,es,ep,a,r⟩,_⟩:=id I.loc;obtain ⟨sl,d⟩:=u.any a I.free (by simp);exact I.step (g':=s.gens) (d':=s.drawn) (ch:=[]) (fun _ z=>nomatch z) (fun b o _ U _ e n=>u.keep b o e n U (by simp)) (fun b o _ U _ e n=>u.slot b o e n U (by simp)) (fun b o _ e n=>u.free b o e n (by simp)) (fun b o _ e=>u.there b o e (by simp)) u.tups u.frzs u.tbls (fun f c=>by
  obtain ⟨o',Y,ep',J,r'⟩:=c;rw [a] at J;cases J;exact ⟨_,Y,ep',d,r'⟩) S I.bare
theorem Inv.call {t':Nat} {d':NA} (I:Inv X pins σ H s) (u:Un (frs X.stack) ch H H' s.heap h') (Y:HOk X.prog X.w H' h') (h:Hx g')
  (U:∀b∈ch,(b∈X.ex\/X.s₀.heap.objs.size<=b)/\b≠X.env.locals/\(∀x c,X.env.cells.lookup x=a_ c->c≠b)/\∀p∈X.pn++pins,p.1≠b) :
  Inv X pins σ H' {s with heap:=h',gens:=g',drawn:=d',toks:=t'}:=by
 obtain ⟨m,⟨o,es,ep,f,r⟩,_⟩:=id I.loc;obtain ⟨sl,a⟩:=u.any f I.free fun z=>(U _ z).2.1 rfl;exact I.step (ch:=ch) U (fun b o a i J e n=>u.keep b o e n (fun z=>(r_.mp (I.oo b z)).elim a i) J) (fun b o _ _ J e n=>u.any e n J) (fun b o J e n=>u.free b o e n J) (fun b o J e=>u.there b o e J) u.tups u.frzs u.tbls (fun j g=>by
  obtain ⟨o',d,ep',S,r'⟩:=g;rw [f] at S;cases S;exact ⟨_,d,ep',a,r'⟩) Y h
theorem Inv.turned {t':Nat} {J:h_} (I:Inv X pins σ H s) (k:∀b o,b≠J->s.heap.get? b=a_ o->h'.get? b=a_ o) (d:H J=d_) (Y:J≠X.env.locals)
  (h1:J∈X.ex\/X.s₀.heap.objs.size<=J) (h2:∀x c,X.env.cells.lookup x=a_ c->c≠J) (h:∀p∈X.pn++pins,p.1≠J):Inv X pins σ H {s with heap:=h',toks:=t'}:=by
 have U:∀b u,H b=a_ u->b≠J:=fun b u e z=>by rw [z,d] at e;cases e
 refine I.step (g':=s.gens) (d':=s.drawn) (ch:=[J]) (fun b g=>?_) (fun b o _ _ S e _=>k b o (fun z=>S (by simp [z])) e) (fun b o _ _ S e _=>⟨o.slots,k b o (fun z=>S (by simp [z])) e⟩) (fun _ _ _ _ n=>n)
  (fun b o S e=>⟨o,k b o (fun z=>S (by simp [z])) e⟩) (fun _ _ e=>e) (fun _ _ _ e=>e) (fun b ps e=>⟨#[],by rw [e];simp⟩) (fun m f=>?_) (fun b u e=>?_) I.bare
 ·have e:b=J:=by simpa using g
  subst e;exact ⟨h1,Y,h2,h⟩
 ·obtain ⟨o,es,ep,a,r⟩:=f;exact ⟨o,es,ep,k _ o (CV Y) a,r⟩
 ·refine (I.hok b u e).uz (fun c v S q=>k c v ?_ q) (fun _ q=>q) fun _ _ q=>q;rcases S with z|z
  ·rw [z];exact U b u e
  ·exact U c _ z
theorem Inv.tok (I:Inv X pins σ H s) (t:Nat):Inv X pins σ H {s with toks:=t}:=I.un (h':=s.heap) (t':=t) Un.refl I.hok
theorem Inv.kept {t':Nat} (I:Inv X pins σ H s) (k:∀b u,s.heap.get? b=a_ u->h'.get? b=a_ u):Inv X pins σ H {s with heap:=h',toks:=t'}:=I.un (Un.kept k) (I.hok.kept k)
theorem Inv.laid {a:h_} {o:HO} {t':Nat} (I:Inv X pins σ H s) (k:∀b u,s.heap.get? b=a_ u->h'.get? b=a_ u) (S:s.heap.objs.size<=a) (J:bK X.prog X.w (upd H a o) h' a o) :
  Inv X pins σ (upd H a o) {s with heap:=h',toks:=t'}:=I.un (Un.laid k S (I.hok.fresh S)) (I.hok.laid k S J)
theorem Inv.write {x e:h_} {o:HO} {t':Nat} (I:Inv X pins σ H s) (U:Mut (H x)) (Y:e=x\/H e=a_ (.own x)) (k:∀b u,b≠e->s.heap.get? b=a_ u->h'.get? b=a_ u) (J:∃u,h'.get? e=a_ u)
  (S:bK X.prog X.w (upd H x o) h' x o):Inv X pins σ (upd H x o) {s with heap:=h',toks:=t'}:=I.un (Un.write U Y k J) (I.hok.write U Y k J S)
theorem Inv.weak {σ':List (Option V)} (I:Inv X pins σ H s) (U:σ'.length=σ.length) (w:∀(i:Nat) v,σ'[i]? =a_ (a_ v)->σ[i]? =a_ (a_ v)):Inv X pins σ' H s:=
 ⟨I.ok,I.os,I.bare,I.base,let ⟨m,S,J⟩:=I.loc;⟨m,S,fun i x v e1 e2 e3=>J i x v e1 (w i v e2) e3⟩,I.cell,I.free,I.freeC,I.pin,I.hok,U.trans I.len⟩
theorem Inv.qj {pins':Pn} (I:Inv X pins σ H s) (h:∀p∈pins',s.heap.get? p.1=a_ p.2/\H p.1=d_/\p.1≠X.env.locals/\p.1∉X.fs/\∀v,p.2.data≠.cell v):Inv X pins' σ H s:=
 ⟨I.ok,I.os,I.bare,I.base,I.loc,I.cell,I.free,I.freeC,fun p J=>(Dw.mp J).elim (fun z=>I.pin p (K7 _ z)) (h p),I.hok,I.len⟩
theorem qu (J:N.Nodup) (a:N[i]? =a_ x) (b:N[j]? =a_ x):i=j:=by
 obtain ⟨h1,e1⟩:=y_.mp a;obtain ⟨h2,e2⟩:=y_.mp b;exact (List.getElem_inj J).mp (e1.trans e2.symm)
theorem rV {M:Kb} (I:Inv X pins σ H s) (hN:X.N.Nodup) (hi:X.N[i]? =a_ x) (Y:Loc X.env.scope x) (r:RelV v u)
  (h:∀s',Inv X pins (σ.set i (a_ v)) H s'->(∃a,Ea a s.heap s'.heap/\(a=X.env.locals\/X.env.cells.lookup x=a_ a))->Q () s') (hf:autoParam (X.fn x=f_\/X.env.scope.names.lookup x=a_ .local) Jq4):s_ M A (storeName X.env x u) Q E s:=by
 obtain ⟨m,hn,hl⟩:=id I.loc;have G:(X.env.scope.kind==.class||(X.env.scope.kind==.module&&X.env.locals != X.env.globals))=c_:=by rw [I.ok.kind];rfl
 have l:i<σ.length:=by rw [I.len];exact (y_.mp hi).1
 have C:=I.cne;have S:∀{a:h_} {h':CQ},(∃o,s.heap.get? a=a_ o/\H a=d_)->Ea a s.heap h'->HOk X.prog X.w H h':=fun {a h'} ha J b ob e=>by
  obtain ⟨_,_,f⟩:=ha;refine (I.hok b ob e).uz (fun c N U q=>(J.2 c ?_).trans q) (fun _ q=>q) fun _ _ q=>q;rintro rfl;rcases U with rfl|U
  ·rw [f] at e;cases e
  ·rw [f] at U;cases U
 rcases Y with g|g
 ·refine wpAny_storeName_local g hn (fun h' hn' J=>?_) G;obtain ⟨oL,_,_,hoL,_⟩:=id hn;refine h _ ⟨I.ok,I.os,I.bare,⟨fun b o e n B Y=>?_,fun b o e n B Y=>?_,I.base.free,fun b o e Y=>?_,I.base.tups,I.base.frzs,I.base.tbls⟩,⟨_,hn',fun j y R e1 e2 e3=>?_⟩,fun y c e=>?_,I.free,I.freeC,fun p Z=>?_,S ⟨oL,hoL,I.free⟩ J,by simpa using I.len⟩ ⟨_,J,.inl rfl⟩
  ·exact (J.2 b (Cd (Cq (o_ e) I.ok.above))).trans (I.base.keep b o e n B Y)
  ·obtain ⟨sl,e1⟩:=I.base.slot b o e n B Y;exact ⟨sl,(J.2 b (Cd (Cq (o_ e) I.ok.above))).trans e1⟩
  ·obtain ⟨o',e1⟩:=I.base.there b o e Y;exact ⟨o',(J.2 b (Cd (Cq (o_ e) I.ok.above))).trans e1⟩
  ·by_cases t:j=i
   ·subst t;rw [hi] at e1;cases e1;rw [B_ l] at e2;cases e2;exact ⟨u,r,.inl ⟨g,by simp⟩⟩
   ·rw [q_ (CV t)] at e2;obtain ⟨T,r',q⟩:=hl j y R e1 e2 e3;refine ⟨T,r',?_⟩
    rcases q with ⟨k,e⟩|⟨k,c,e,z⟩
    ·refine .inl ⟨k,?_⟩;have:y≠x:=fun e=>t (qu hN e1 (e▸hi));simp [this,e]
    ·exact .inr ⟨k,c,e,z.sameBut J (C y c e)⟩
  ·obtain ⟨N,z⟩:=I.cell y c e;exact ⟨N,z.sameBut J (C y c e)⟩
  ·obtain ⟨e,n,O,W,d⟩:=I.pin p Z;exact ⟨(J.2 p.1 O).trans e,n,O,W,d⟩
 ·have w:X.fn x=f_:=by
   rcases hf with z|z
   ·exact z
   ·rw [z] at g;cases g
  obtain ⟨c,U⟩:=I.ok.has x (.inl g);obtain ⟨N,z⟩:=I.cell x c U;refine wpAny_storeName_cell I.ok.kind g U z (fun h' L J=>?_);obtain ⟨oc,F,D⟩:=id z;refine h {s with heap:=h'} ⟨I.ok,I.os,I.bare,⟨fun b o e n B Y=>?_,fun b o e n B Y=>?_,I.base.free,fun b o e Y=>?_,I.base.tups,I.base.frzs,I.base.tbls⟩,⟨m,hn.sameBut J (CV (C x c U)),fun j y R e1 e2 e3=>?_⟩,fun y P e=>?_,I.free,I.freeC,fun p Z=>?_,S ⟨oc,F,I.freeC x c U⟩ J,by simpa using I.len⟩ ⟨c,J,.inr U⟩
  ·exact (J.2 b (Cd (Cq (o_ e) (I.ok.cab x c w U)))).trans (I.base.keep b o e n B Y)
  ·obtain ⟨sl,e1⟩:=I.base.slot b o e n B Y;exact ⟨sl,(J.2 b (Cd (Cq (o_ e) (I.ok.cab x c w U)))).trans e1⟩
  ·obtain ⟨o',e1⟩:=I.base.there b o e Y;exact ⟨o',(J.2 b (Cd (Cq (o_ e) (I.ok.cab x c w U)))).trans e1⟩
  ·by_cases t:j=i
   ·subst t;rw [hi] at e1;cases e1;rw [B_ l] at e2;cases e2;exact ⟨u,r,.inr ⟨.inl g,c,U,L⟩⟩
   ·rw [q_ (CV t)] at e2;obtain ⟨T,r',q⟩:=hl j y R e1 e2 e3;refine ⟨T,r',?_⟩
    rcases q with q|⟨k,P,e,z'⟩
    ·exact .inl q
    ·refine .inr ⟨k,P,e,z'.sameBut J ?_⟩;rintro rfl;exact t (qu hN e1 (I.ok.inj _ _ _ e U▸hi))
  ·by_cases K:P=c
   ·subst K;exact ⟨_,L⟩
   ·obtain ⟨w2,z2⟩:=I.cell y P e;exact ⟨w2,z2.sameBut J K⟩
  ·obtain ⟨e,n,O,W,d⟩:=I.pin p Z;refine ⟨(J.2 p.1 ?_).trans e,n,O,W,d⟩
   intro q;rw [q,F] at e;have q':oc=p.2:=Cu e;exact d N (by rw [<- q'];exact D)
theorem jM {M:Kb} (I:Inv X pins σ H s) (U:X.N.Nodup) (hi:X.N[i]? =a_ x) (J:Loc X.env.scope x) (r:RelV v u)
  (h:∀s',Inv X pins (σ.set i (a_ v)) H s'->Q () s') (S:autoParam (X.fn x=f_\/X.env.scope.names.lookup x=a_ .local) Jq4):s_ M A (storeName X.env x u) Q E s:=
 rV I U hi J r (fun s' Y _=>h s' Y) S
theorem Inv.call' (I:Inv X pins σ H s) (U:s'.os=s.os) (u:Un (frs X.stack) ch H H' s.heap s'.heap) (J:HOk X.prog X.w H' s'.heap) (Y:Hx s'.gens)
  (S:∀b∈ch,(b∈X.ex\/X.s₀.heap.objs.size<=b)/\b≠X.env.locals/\(∀x c,X.env.cells.lookup x=a_ c->c≠b)/\∀p∈X.pn++pins,p.1≠b):Inv X pins σ H' s':=by
 obtain ⟨h',g',d',t',o'⟩:=s';have e:o'=s.os:=U;subst e;exact I.call (g':=g') (t':=t') (d':=d') u J Y S
end
abbrev XK:=i_->Option h_->Hp->Prop
noncomputable abbrev St:=List (Option V)
variable {σ:St}
abbrev VK:=V->Hp->Prop
abbrev TE:=St->Hp->VK->Prop
variable {ta tb te:TE}
abbrev TT:=St->Hp->(Bool->Hp->Prop)->Prop
variable {tc:TT}
abbrev TA:=St->Hp->(List V->Hp->Prop)->Prop
structure Ends where
 nx:St->Hp->Prop
 rt:VK
 bk:St->Hp->Prop:=fun _ _=>False
 ct:St->Hp->Prop:=fun _ _=>False
abbrev TS:=Ends->St->Hp->Prop
def EP (X:Cx) (pins:Pn) (σ:St) (Q:VK) (u:i_) (s':t_):Prop:=∃v H',Inv X pins σ H' s'/\RelV v u/\Q v H'
def TP (X:Cx) (pins:Pn) (σ:St) (Q:Bool->Hp->Prop) (b:Bool) (s':t_):Prop:=∃H',Inv X pins σ H' s'/\Q b H'
def AP (X:Cx) (pins:Pn) (σ:St) (Q:List V->Hp->Prop) (us:List i_) (s':t_):Prop:=∃vs H',Inv X pins σ H' s'/\Vals vs us/\Q vs H'
def SP (X:Cx) (pins:Pn) (D:Ends) (f:Flow) (s':t_):Prop:=
 match f with
 |.next=>∃σ' H',Inv X pins σ' H' s'/\D.nx σ' H'
 |.brk=>∃σ' H',Inv X pins σ' H' s'/\D.bk σ' H'
 |.cont=>∃σ' H',Inv X pins σ' H' s'/\D.ct σ' H'
 |.ret u=>∃v σ' H',Inv X pins σ' H' s'/\RelV v u/\D.rt v H'
def PE (X:Cx) (e:Dr) (t:TE):Prop:=
 ∀(pins:Pn) (s:t_) (σ:St) (H:Hp) (Q:VK),Inv X pins σ H s->t σ H Q->s_ (w_ X.prog X.w) X.A (Cf e X.env) (EP X pins σ Q) X.xe s
def PT (X:Cx) (e:Dr) (t:TT):Prop:=
 ∀(pins:Pn) (s:t_) (σ:St) (H:Hp) (Q:Bool->Hp->Prop),Inv X pins σ H s->t σ H Q->s_ (w_ X.prog X.w) X.A (LS e X.env (Cf e X.env)) (TP X pins σ Q) X.xe s
def PW (X:Cx) (e:Dr) (t:TT):Prop:=
 ∀(J:Mb i_) (pins:Pn) (s:t_) (σ:St) (H:Hp) (Q:Bool->Hp->Prop),Inv X pins σ H s->t σ H Q->s_ (w_ X.prog X.w) X.A (LS e X.env J) (TP X pins σ Q) X.xe s
theorem PW.pt {t:TT} (h:PW X e t):PT X e t:=h _
def PA (X:Cx) (es:List Dr) (t:TA):Prop:=
 ∀(pos:Nu) (pins:Pn) (s:t_) (σ:St) (H:Hp) (Q:List V->Hp->Prop),Inv X pins σ H s->t σ H Q->s_ (w_ X.prog X.w) X.A (spliced (CZ pos (j_ es X.env))) (AP X pins σ Q) X.xe s
def PS (X:Cx) (st:Dt) (t:TS):Prop:=
 ∀(pins:Pn) (s:t_) (σ:St) (H:Hp) (D:Ends),Inv X pins σ H s->t D σ H->s_ (w_ X.prog X.w) X.A (exec st X.env) (SP X pins D) X.xe s
def PSs (X:Cx) (st:List Dt) (t:TS):Prop:=
 ∀(pins:Pn) (s:t_) (σ:St) (H:Hp) (D:Ends),Inv X pins σ H s->t D σ H->s_ (w_ X.prog X.w) X.A (execs st X.env) (SP X pins D) X.xe s
theorem thn {α:Type} {t:Mb α} {Q J:α->t_->Prop} {M:Kb} (h:s_ M A t Q E s) (S:∀a s,Q a s->J a s):s_ M A t J E s:=Di h S fun _ _ x=>x
section
noncomputable def tVar (i:Nat):TE:=fun σ H Q=>∃v,σ[i]? =a_ (a_ v)/\Q v H
noncomputable def tC (v:V):TE:=fun _ H Q=>Q v H
theorem pe_var (g:X.N[i]? =a_ x) (hv:Vis X.env.scope x) (hd:((x==("__debug__":Cy))=c_)⁻¹) (Y:((x==("__classdict__":Cy))=c_)⁻¹):PE X (.Name x pos) (tVar i):=by
 intro pins s σ H Q I h;obtain ⟨v,e,h⟩:=h;obtain ⟨m,b,f⟩:=I.loc;obtain ⟨u,r,l⟩:=f i x v g e hv;have U:EP X pins σ Q u s:=⟨v,H,I,r,h⟩
 rcases l with ⟨S,d⟩|⟨S,c,a,J⟩
 ·exact MV (wpAny_loadName_local I.ok.kind S b d U) hd
 ·rcases S with S|S
  ·exact MV (wpAny_loadName_cell I.ok.kind S a J U) hd
  ·exact MV (wpAny_loadName_free I.ok.kind S a J U Y) hd
theorem pe_int {i j pos}:PE X (.Constant (.int i) j pos) (tC (.int i)):=fun _ _ _ H _ I h=>wpAny_Constant_int ⟨.int i,H,I.tok _,⟨_,rfl⟩,h⟩
theorem pe_bl {b j pos}:PE X (.Constant (.bool b) j pos) (tC (.bl b)):=fun _ _ _ H _ I h=>Constant_bool ⟨.bl b,H,I,rfl,h⟩
theorem pe_non {j pos}:PE X (.Constant .none j pos) (tC .non):=fun _ _ _ H _ I h=>Constant_none ⟨.non,H,I,rfl,h⟩
def Gl (X:Cx) (x:Cy):Prop:=X.env.kindOf x=a_ .globalImplicit
theorem iu {Q:Vp} (I:Inv X pins σ H s) (S:Gl X x) (J:X.mg x=a_ u) (h:Q u s)
  (hd:((x==("__debug__":Cy))=c_)⁻¹):s_ (w_ X.prog X.w) X.A (Cf (.Name x pos) X.env) Q E s:=
 JM I.ok.kind S (Calls.loadGlobal_global (by rw [I.ok.glob];exact I.mod.glob.keeps I.bk) J h) hd
theorem fU {Q:Vp} (I:Inv X pins σ H s) (U:Gl X x) (S:X.mg x=d_) (hv:D5 x=a_ u) (h:Q u s)
  (J:(x≠"__name__")⁻¹) (hd:((x==("__debug__":Cy))=c_)⁻¹):s_ (w_ X.prog X.w) X.A (Cf (.Name x pos) X.env) Q E s:=by
 obtain ⟨Y,h1,h2⟩:=I.mod.blt;exact JM I.ok.kind U (Calls.loadGlobal_builtin (by rw [I.ok.glob];exact I.mod.glob.keeps I.bk) S (by rw [I.ok.blt];exact h1.keeps I.bk) ((h2 x J).trans hv) h) hd
theorem Aq (S:Gl X x) (J:X.mg x=a_ u) (r:RelV v u) (hd:((x==("__debug__":Cy))=c_)⁻¹):PE X (.Name x pos) (tC v):=
 fun _ _ _ H _ I h=>iu I S J ⟨v,H,I,r,h⟩ hd
theorem pe_bltn (U:Gl X x) (S:X.mg x=d_) (hv:D5 x=a_ u) (r:RelV v u) (J:(x≠"__name__")⁻¹) (hd:((x==("__debug__":Cy))=c_)⁻¹):PE X (.Name x pos) (tC v):=
 fun _ _ _ H _ I h=>fU I U S hv ⟨v,H,I,r,h⟩ J hd
variable {a b:Dr} 
variable {tA tB':TT} {rest:List Dr}
def tAnd (t u:TT):TT:=fun σ H Q=>t σ H fun c H1=>if c=f_ then u σ H1 Q else Q c_ H1
def tOr (t u:TT):TT:=fun σ H Q=>t σ H fun c H1=>if c=f_ then Q f_ H1 else u σ H1 Q
def tNot (t:TT):TT:=fun σ H Q=>t σ H fun c H1=>Q (!c) H1
theorem pw_and1 (J:PT X a tA):PW X (.BoolOp .And [a] pos) tA:=by
 intro S pins s σ H Q I h;refine isTrue_and (thn (J pins s σ H Q I h) fun c U e=>?_);cases c with
 |true=>exact isTrue_and_nil e
 |false=>exact e
theorem pw_or1 (J:PT X a tA):PW X (.BoolOp .Or [a] pos) tA:=by
 intro S pins s σ H Q I h;refine isTrue_or (thn (J pins s σ H Q I h) fun c U e=>?_);cases c with
 |false=>exact isTrue_or_nil e
 |true=>exact e
theorem pw_and (d:PT X a tA) (Y:PW X (.BoolOp .And (b::rest) pos) tB'):PW X (.BoolOp .And (a::b::rest) pos) (tAnd tA tB'):=by
 intro S pins s σ H Q I h;refine isTrue_and (thn (d pins s σ H _ I h) fun c U ⟨H1,J,q1⟩=>?_);cases c with
 |true=>exact Y S pins U σ H1 Q J q1
 |false=>exact ⟨H1,J,q1⟩
theorem pw_or (d:PT X a tA) (Y:PW X (.BoolOp .Or (b::rest) pos) tB'):PW X (.BoolOp .Or (a::b::rest) pos) (tOr tA tB'):=by
 intro S pins s σ H Q I h;refine isTrue_or (thn (d pins s σ H _ I h) fun c U ⟨H1,J,q1⟩=>?_);cases c with
 |true=>exact ⟨H1,J,q1⟩
 |false=>exact Y S pins U σ H1 Q J q1
theorem pt_not (J:PT X a tA):PT X (.UnaryOp .Not a pos) (tNot tA):=by
 intro pins s σ H Q I h;exact isTrue_not (J pins s σ H (fun c H1=>Q (!c) H1) I h)
noncomputable def tAndV (ta tb:TE):TE:=fun σ H Q=>ta σ H fun x H1=>∃c,x=.bl c/\if c=f_ then tb σ H1 Q else Q (.bl c_) H1
theorem pe_one {op} {t:TE} (h:PE X a t):PE X (.BoolOp op [a] pos) t:=fun pins s σ H Q I hw=>BoolOp_one (h pins s σ H Q I hw)
theorem pe_and (d:PE X a ta) (Y:PE X (.BoolOp .And (b::rest) pos) tb):PE X (.BoolOp .And (a::b::rest) pos) (tAndV ta tb):=by
 intro pins s σ H Q I h;refine BoolOp_and (thn (d pins s σ H _ I h) fun v S ⟨x,H1,J,U,q1⟩=>?_);obtain ⟨c,rfl,q1⟩:=q1;cases U;refine EF ?_;cases c with
 |true=>exact Y pins S σ H1 Q J q1
 |false=>exact ⟨.bl c_,H1,J,rfl,q1⟩
end
def SqL (K:Fg) (H:Hp) (a:h_) (xs:List V):Prop:=
 Rd H a (.lst xs) \/
  ∃(o:GX) (its:Array i_) (n:Nat),K.lookup a=a_ o/\o.cls=.type "list"/\o.dict=d_/\o.data=.seq its n/\its.size<=n_/\Vals xs its.toList
def SqT (K:Fg) (H:Hp) (a:h_) (xs:List V):Prop:=
 Rd H a (.tup xs) \/
  ∃(o:GX) (its:Array i_) (n:Nat),K.lookup a=a_ o/\o.cls=.type "tuple"/\o.data=.seq its n/\its.size<=n_/\Vals xs its.toList
noncomputable def absV:i_->Option V
 |.none=>a_ .non
 |.bool b=>a_ (.bl b)
 |.int i _=>a_ (.int i)
 |.str x _=>a_ (.str x)
 |.bytes b _=>a_ (.byt b)
 |.float b _=>a_ (.flt b)
 |.ref a=>a_ (.ref a)
 |.type n=>a_ (.ty n)
 |_=>d_
theorem RelV.abs {x:V} (r:RelV x u):absV u=a_ x:=by
 cases x with
 |non=>cases r;rfl
 |bl _=>cases r;rfl
 |int _=>obtain ⟨t,rfl⟩:=r;rfl
 |str _=>obtain ⟨t,rfl⟩:=r;rfl
 |byt _=>obtain ⟨t,rfl⟩:=r;rfl
 |flt _=>obtain ⟨t,rfl⟩:=r;rfl
 |ref _=>cases r;rfl
 |ty _=>cases r;rfl
theorem RelV.inj {x y:V} {u:i_} (r:RelV x u) (q:RelV y u):x=y:=Cu (r.abs.symm.trans q.abs)
theorem Vals.inj:∀{xs ys:List V} {us:List i_},Vals xs us->Vals ys us->xs=ys
 |_,_,_,.nil,.nil=>rfl
 |_,_,_,.cons r t,.cons r' t'=>by rw [r.inj r',Vals.inj t t']
section
variable {ys:List V}
theorem SqL.of (h:H a=a_ (.lst xs)):SqL K H a xs:=.inl (.inl h)
theorem SqT.of (h:H a=a_ (.tup xs)):SqT K H a xs:=.inl (.inl h)
theorem Inv.list (I:Inv X pins σ H s) (h:SqL X.K H a xs):∃its:List i_,Vals xs its/\PlainL s.heap a its.toArray/\xs.length<=n_:=by
 rcases h with h|⟨o,its,n,S,U,hd,J,Y,r⟩
 ·obtain ⟨z,its,n,r,e⟩:=h.ok I.hok;exact ⟨its,r,⟨_,n,e,rfl,rfl,rfl⟩,z⟩
 ·refine ⟨its.toList,r,⟨o,n,I.kIn a o S,U,hd,by simpa using J⟩,?_⟩
  have e:=r.length;simp only [Ct] at e;omega
theorem Inv.tuple (I:Inv X pins σ H s) (h:SqT X.K H a xs):∃its:List i_,Vals xs its/\NC s.heap a its.toArray/\xs.length<=n_:=by
 rcases h with h|⟨o,its,n,S,U,J,Y,r⟩
 ·obtain ⟨z,its,r,p⟩:=h.ok I.hok;exact ⟨its,r,p,z⟩
 ·refine ⟨its.toList,r,⟨o,I.kIn a o S,U,n,by simpa using J⟩,?_⟩
  have e:=r.length;simp only [Ct] at e;omega
theorem Inv.lV (I:Inv X pins σ H s) (h:SqL X.K H a xs) (h':SqL X.K H a ys):xs=ys:=by
 obtain ⟨its,r,⟨o,n,e,_,_,d⟩,_⟩:=I.list h;obtain ⟨its',r',⟨o',S,J,_,_,d'⟩,_⟩:=I.list h';rw [e] at J;cases J;rw [d] at d';injection d' with d1 _
 have:its=its':=by simpa using G1 IW d1
 subst this;exact r.inj r'
theorem Inv.rR (I:Inv X pins σ H s) (h:SqT X.K H a xs) (h':SqT X.K H a ys):xs=ys:=by
 obtain ⟨its,r,⟨o,e,_,n,d⟩,_⟩:=I.tuple h;obtain ⟨its',r',⟨o',J,_,S,d'⟩,_⟩:=I.tuple h';rw [e] at J;cases J;rw [d] at d';injection d' with d1 _
 have:its=its':=by simpa using G1 IW d1
 subst this;exact r.inj r'
end
noncomputable abbrev Cx.pJ (X:Cx) (E:Vp):Cx:={X with xe:=E}
abbrev Cx.nox (X:Cx):Cx:=X.pJ fun _ _=>False
theorem Cx.Ok.pJ {X:Cx} (J:X.Ok) (E:Vp):(X.pJ E).Ok:=
 ⟨J.mod,J.kind,J.glob,J.blt,J.above,J.inj,J.has,J.cab,J.hd,J.frames,J.stk,J.exf,J.bs,J.bsz,J.noex,J.exfs,J.tf,J.frf⟩
theorem Cx.Ok.hW (J:(X.pJ E).Ok):X.Ok:=
 ⟨J.mod,J.kind,J.glob,J.blt,J.above,J.inj,J.has,J.cab,J.hd,J.frames,J.stk,J.exf,J.bs,J.bsz,J.noex,J.exfs,J.tf,J.frf⟩
section
theorem Inv.pJ (I:Inv X pins σ H s) (E:Vp):Inv (X.pJ E) pins σ H s:=⟨I.ok.pJ E,I.os,I.bare,I.base,I.loc,I.cell,I.free,I.freeC,I.pin,I.hok,I.len⟩
theorem Inv.hW (I:Inv (X.pJ E) pins σ H s):Inv X pins σ H s:=⟨I.ok.hW,I.os,I.bare,I.base,I.loc,I.cell,I.free,I.freeC,I.pin,I.hok,I.len⟩
theorem SP.hW {D:Ends} {f:Flow} {s':t_} (h:SP (X.pJ E) pins D f s'):SP X pins D f s':=by
 cases f with
 |next=>obtain ⟨σ',H',I,q⟩:=h;exact ⟨σ',H',I.hW,q⟩
 |brk=>obtain ⟨σ',H',I,q⟩:=h;exact ⟨σ',H',I.hW,q⟩
 |cont=>obtain ⟨σ',H',I,q⟩:=h;exact ⟨σ',H',I.hW,q⟩
 |ret u=>obtain ⟨v,σ',H',I,r,q⟩:=h;exact ⟨v,σ',H',I.hW,r,q⟩
theorem PE.nox {e:Dr} {t:TE} (h:PE X.nox e t):PE X e t:=fun pins s σ H Q I hw=>
 Di (h pins s σ H Q (I.pJ _) hw) (fun _ _ ⟨v,H',J,r,q⟩=>⟨v,H',J.hW,r,q⟩) fun _ _ z=>DV z
theorem PSs.nox {st:List Dt} {t:TS} (h:PSs X.nox st t):PSs X st t:=fun pins s σ H D I hw=>
 Di (h pins s σ H D (I.pJ _) hw) (fun _ _ q=>q.hW) fun _ _ z=>DV z
end
section
variable {st:Dt} {rest:List Dt} {t u:TS} 
def tNext:TS:=fun D σ H=>D.nx σ H
def tSeq (t u:TS):TS:=fun D σ H=>t {D with nx:=u D} σ H
theorem pss_nil:PSs X [] tNext:=fun _ _ σ H _ I h=>Gn ⟨σ,H,I,h⟩
theorem qh (h1:PS X st t) (h2:PSs X rest u):PSs X (st::rest) (tSeq t u):=by
 intro pins s σ H D I h;refine JV (thn (h1 pins s σ H {D with nx:=u D} I h) fun f J q=>?_);cases f with
 |next=>
  obtain ⟨σ',H',S,q⟩:=q;exact h2 pins J σ' H' D S q
 |ret v=>exact q
 |brk=>exact q
 |cont=>exact q
theorem qg (h1:PS X st t):PSs X [st] t:=by
 intro pins s σ H D I h;refine JV (thn (h1 pins s σ H D I h) fun f J q=>?_);cases f with
 |next=>exact Gn q
 |ret v=>exact q
 |brk=>exact q
 |cont=>exact q
theorem Inv.quiet (I:Inv X pins σ H s):interactive X.env=c_:=by simp [interactive,I.ok.kind]
def tDrop (te:TE):TS:=fun D σ H=>te σ H fun _ H1=>D.nx σ H1
theorem uW (S:PE X e te) (J: ~~~(Dx e d_ pos.line X.env=DC c_)):PS X (.Expr e pos) (tDrop te):=by
 intro pins s σ H D I h;exact wpAny_Expr_any (thn (S pins s σ H _ I h) fun v Y ⟨x,H1,U,a,q1⟩=>⟨σ,H1,U,q1⟩) I.quiet J
noncomputable def tRet (te:TE):TS:=fun D σ H=>te σ H D.rt
theorem ps_ret (S:PE X e te):PS X (.Return (a_ e) pos) (tRet te):=by
 intro pins s σ H D I h;exact wpAny_Return_some (thn (S pins s σ H _ I h) fun v Y ⟨x,H1,U,J,q1⟩=>⟨x,σ,H1,U,J,q1⟩)
def tIfS (c:TT) (t u:TS):TS:=fun D σ H=>c σ H fun b H1=>if b=f_ then t D σ H1 else u D σ H1
theorem ps_if {a b:List Dt} (U:PT X c tc) (e:PSs X a t) (Y:PSs X b u):PS X (.If c a b pos) (tIfS tc t u):=by
 intro pins s σ H D I h;refine wpAny_If (thn (U pins s σ H _ I h) fun d J ⟨H1,S,q1⟩=>?_);cases d with
 |true=>exact e pins J σ H1 D S q1
 |false=>exact Y pins J σ H1 D S q1
noncomputable def tNever:TS:=fun _ _ _=>False
theorem Ae {sts:List Dt}:PSs X sts tNever:=fun _ _ _ _ _ _ h=>h.elim
end
abbrev TG:=V->St->Hp->(St->Hp->Prop)->Prop
abbrev TGs:=List V->St->Hp->(St->Hp->Prop)->Prop
def PG (X:Cx) (J:Dr) (t:TG):Prop:=
 ∀(pins:Pn) (s:t_) (σ:St) (H:Hp) (v:V) (u:i_) (Q:St->Hp->Prop),Inv X pins σ H s->RelV v u->t v σ H Q ->
  s_ (w_ X.prog X.w) X.A (GP J X.env u) (fun _ s'=>∃σ' H',Inv X pins σ' H' s'/\Q σ' H') X.xe s
def PGs (X:Cx) (ts:List Dr) (t:TGs):Prop:=
 ∀(pins:Pn) (s:t_) (σ:St) (H:Hp) (vs:List V) (us:List i_) (Q:St->Hp->Prop),Inv X pins σ H s->Vals vs us->t vs σ H Q ->
  s_ (w_ X.prog X.w) X.A (assignInOrder ((En ts X.env).map (·.2)) us) (fun _ s'=>∃σ' H',Inv X pins σ' H' s'/\Q σ' H') X.xe s
abbrev TSet:=V->V->V->Hp->(Hp->Prop)->Prop
def PSet (X:Cx) (t:TSet):Prop:=
 ∀(pins:Pn) (s:t_) (σ:St) (H:Hp) (o i v:V) (J S u:i_) (Q:Hp->Prop),Inv X pins σ H s->RelV o J->RelV i S->RelV v u->t o i v H Q ->
  s_ (w_ X.prog X.w) X.A (Nh J S u) (fun _ s'=>∃H',Inv X pins σ H' s'/\Q H') X.xe s
section
noncomputable def n4 (i:Nat):TG:=fun v σ H Q=>Q (σ.set i (a_ v)) H
theorem uY (U:X.N.Nodup) (hi:X.N[i]? =a_ x) (J:Loc X.env.scope x) (S:autoParam (X.fn x=f_\/X.env.scope.names.lookup x=a_ .local) Jq4):PG X (.Name x pos) (n4 i):=by
 intro pins s σ H v u Q I r h;exact Nb (jM I U hi J r (fun s' Y=>⟨_,H,Y,h⟩) S)
noncomputable def gNil:TGs:=fun vs σ H Q=>vs=[]/\Q σ H
def gCons (t:TG) (u:TGs):TGs:=fun vs σ H Q=>∃v r,vs=v::r/\t v σ H fun σ' H'=>u r σ' H' Q
theorem pgs_nil:PGs X [] gNil:=by
 intro pins s σ H vs us Q I r h;obtain ⟨e,h⟩:=h;subst e;cases r;exact assignInOrder_nil ⟨σ,H,I,h⟩
theorem wD {t:TG} {u:TGs} (h1:PG X e t) (h2:PGs X es u)
  (Y: ~~~((En (e::es) X.env).map (·.2)=GP e X.env::(En es X.env).map (·.2))):PGs X (e::es) (gCons t u):=by
 intro pins s σ H vs us Q I r h;obtain ⟨v,b,e1,h⟩:=h;subst e1;cases r with
 |cons r U=>
  rw [Y];refine assignInOrder_cons (thn (h1 pins s σ H _ _ _ I r h) fun _ S ⟨J,H1,a,q1⟩=>?_);exact h2 pins S J H1 _ _ Q a U q1
def gTup (K:Fg) (n:Nat) (t:TGs):TG:=fun v σ H Q=>∃a xs,v=.ref a/\SqT K H a xs/\xs.length=n/\t xs σ H Q
theorem pg_tup {t:TGs} (g:X.calm=f_) (h:PGs X es t)
  (d: ~~~((En es X.env).length=n)) (J: ~~~((En es X.env).findIdx? (·.1)=d_)):PG X (.Tuple es k pos) (gTup X.K n t):=by
 intro pins s σ H v u Q I r hw;obtain ⟨a,xs,e1,c,f,hw⟩:=hw;subst e1;cases r;obtain ⟨its,S,Y,j⟩:=I.tuple c;refine assign_Tuple_tuple (I.ok.hd g) Y (by simp [d,<- f,S.length]) J fun h' U=>?_;have i:Inv X pins σ H {s with heap:=h'}:=I.kept (t':=s.toks) fun b o e=>U b o (Cd (o_ e)) e;exact h pins _ σ H xs _ Q i (by simpa using S) hw
def gSub (to J:TE) (t:TSet):TG:=fun v σ H Q=>to σ H fun o H1=>J σ H1 fun i H2=>t o i v H2 fun S=>Q σ S
theorem pg_sub {o i:Dr} {to U:TE} {t:TSet} (f:PE X o to) (hi:PE X i U) (e:PSet X t)
  (g:autoParam (∀v,GP (.Subscript o i pos) X.env v=(do
   let J <- Gf [v] (Cf o X.env)
   let S <- Gf [v,J] (Cf i X.env)
   Ii pos
   Gf [v,J,S] (Nh J S v)
   release [v,J,S] [])) Jq5):PG X (.Subscript o i pos) (gSub to U t):=by
 intro pins s σ H v u Q I r h;rw [g];refine b_ (Dj (thn (f pins s σ H _ I h) fun J a ⟨x,H1,l,c,q1⟩=>?_));refine b_ (Dj (thn (hi pins a σ H1 _ l q1) fun S Y ⟨y,H2,k,b,q2⟩=>?_));refine b_ (HA (b_ (Dj (thn (e pins Y σ H2 x y v J S u _ k c b r q2) fun _ n ⟨m,j,d⟩=>?_))));exact wpAny_release ⟨σ,m,j,d⟩
def tAsg (te:TE) (g:TG):TS:=fun D σ H=>te σ H fun x H1=>g x σ H1 D.nx
theorem Ah {g:TG} (a:PE X e te) (Y:PG X tg g) (U: ~~~(Jk [tg] e pos.line X.env=DC c_)) (hw: ~~~(Jl [tg] e X.env=DC d_))
  (h1: ~~~((En [tg] X.env).map (·.2)=[GP tg X.env])):PS X (.Assign [tg] e pos) (tAsg te g):=by
 intro pins s σ H D I h;refine wpAny_Assign_stores (thn (a pins s σ H _ I h) fun v J ⟨x,H1,b,S,q1⟩=>?_) U hw;rw [h1];exact thn (Y pins J σ H1 x v _ b S q1) fun _ c q=>q
theorem Af (b:X.N.Nodup) (hi:X.N[i]? =a_ x) (S:Loc X.env.scope x) (a:PE X e te) (U: ~~~(Dx e (a_ (.Name x pos')) pos.line X.env=DC c_)) (Y:autoParam (X.fn x=f_\/X.env.scope.names.lookup x=a_ .local) Jq4) :
  PS X (.Assign [.Name x pos'] e pos) (tAsg te (n4 i)):=by
 intro pins s σ H D I h;refine Nc (thn (a pins s σ H _ I h) fun v g ⟨y,H1,d,J,q1⟩=>?_) U;exact jM d b hi S J (fun f c=>⟨_,H1,c,q1⟩) Y
end
section
def tWhile (c:TT) (tb:TS):TS:=fun D σ H=>∃W:Nat->St->Hp->Prop,(∃m,W m σ H)/\∀m σ H,W m σ H ->
 c σ H fun b H1=>if b=f_ then ∃N:St->Hp->Prop,(∀σ' H',N σ' H'->∃J,J<m/\W J σ' H')/\tb {D with nx:=N,ct:=N,bk:=D.nx} σ H1 else D.nx σ H1
theorem ps_while {tb:TS} (k:LF (w_ X.prog X.w) X.A X.env X.xe) (u:PT X c tc) (w:PSs X body tb):PS X (.While c body [] pos) (tWhile tc tb):=by
 intro pins s σ H D I h;obtain ⟨W,⟨t,p⟩,U⟩:=h;refine wpAny_While (codeAny_whileLoop (fun n s'=>∃σ' H',Inv X pins σ' H' s'/\W n σ' H') ?_ t ⟨σ,H,I,p⟩);rintro n r ⟨S,H1,x,o⟩;refine FK k (thn (u pins r S H1 _ x (U n S H1 o)) fun b q ⟨H2,m,q2⟩=>?_);cases b with
 |true=>
  obtain ⟨N,l,q2⟩:=q2;rw [p_ rfl];refine FK k (thn (w pins q S H2 _ m q2) fun f y a=>?_);cases f with
  |next=>
   obtain ⟨J,Y,j,e⟩:=a;obtain ⟨g,i,d⟩:=l J Y e;exact ⟨g,i,J,Y,j,d⟩
  |cont=>
   obtain ⟨J,Y,j,e⟩:=a;obtain ⟨g,i,d⟩:=l J Y e;exact ⟨g,i,J,Y,j,d⟩
  |brk=>exact a
  |ret v=>exact a
 |false=>
  rw [l_ CI];exact Gn ⟨S,H2,m,q2⟩
end
structure It where
 go:Nat->Hp->Prop
 yld:Nat->Hp->V->Hp->Prop
 stop:Nat->Hp->Prop
def zp (X:Cx) (pins:Pn) (H:Hp) (b:h_):Prop:=
 H b=d_/\b≠X.env.locals/\b∉X.fs/\(b∈X.ex\/X.s₀.heap.objs.size<=b)/\(∀x c,X.env.cells.lookup x=a_ c->c≠b)/\∀p∈X.pn++pins,p.1≠b
theorem Inv.fpOk (I:Inv X pins σ H s) (J:s.heap.objs.size<=b) (U:H' b=d_):zp X pins H' b:=by
 refine ⟨U,Eb (Cq I.lt J),I.nofs J,.inr (C9 I.sz J),fun x c e z=>?_,fun p S z=>?_⟩
 ·obtain ⟨v,q⟩:=I.cell x c e;exact Cj (Cq q.lt (by rw [z];exact J)) (C_ _)
 ·exact Cj (Cq (o_ (I.pin p S).1) (by rw [z];exact J)) (C_ _)
structure Turn (P:Cn) (w:Dv) (K:Fg) (tg:Dr) (J:It) (fp:List h_) (it:h_) (tn:Nat->CQ->Prop):Prop where
 mem:it∈fp
 obj:∀i h,tn i h->∀b∈fp,∃o,h.get? b=a_ o/\∀v,o.data≠.cell v
 keep:∀i h h',tn i h->(∀b∈fp,∀o,h.get? b=a_ o->h'.get? b=a_ o)->tn i h'
 item:∀(X:Cx),X.prog=P->X.w=w->X.K=K->X.calm=f_->∀(i:Nat) (pins:Pn) (s:t_) (σ:St) (H:Hp) (E:Vp),Inv X pins σ H s->(∀b∈fp,zp X pins H b)->tn i s.heap->J.go i H ->
  s_ (w_ P w) X.A (FF (.ref it)) (fun r s1=>∃u,r=a_ u /\
   s_ (w_ P w) X.A (Ir tg (.ref it) u) (fun _ s2=>∃x H',Inv X pins σ H' s2/\RelV x u/\J.yld i H x H'/\tn (i+1) s2.heap/\∀b∈fp,H' b=d_) E s1) E s
 done:∀(X:Cx),X.prog=P->X.w=w->X.K=K->X.calm=f_->∀(i:Nat) (pins:Pn) (s:t_) (σ:St) (H:Hp) (E:Vp),Inv X pins σ H s->(∀b∈fp,zp X pins H b)->tn i s.heap->J.stop i H ->
  s_ (w_ P w) X.A (FF (.ref it)) (fun r s1=>r=d_/\Inv X pins σ H s1) E s
 self:∀(A:D0) (i:Nat) (s:t_) (Q:Vp) (E:Vp),tn i s.heap->Q (.ref it) s->s_ (w_ P w) A (JW (.ref it)) Q E s
abbrev TI:=St->Hp->(It->Hp->Prop)->Prop
def PIE (X:Cx) (pins:Pn) (σ:St) (tg:Dr) (R:It->Hp->Prop) (S:i_) (Y:t_):Prop:=
 ∃(a:h_) (fp:List h_) (U:Nat->CQ->Prop) (J:It) (H':Hp),S=.ref a/\Inv X pins σ H' Y/\Turn X.prog X.w X.K tg J fp a U/\U 0 Y.heap/\(∀b∈fp,zp X pins H' b)/\R J H'
def PI (X:Cx) (tg iter:Dr) (wi:TI):Prop:=
 ∀(pins:Pn) (s:t_) (σ:St) (H:Hp) (R:It->Hp->Prop),Inv X pins σ H s->wi σ H R ->
  s_ (w_ X.prog X.w) X.A (Cf iter X.env) (fun v J=>s_ (w_ X.prog X.w) X.A (JW v) (PIE X pins σ tg R) X.xe J) X.xe s
theorem go_of {M : Kb} {A : D0} {E : i_ -> t_ -> Prop} {s : t_} {tg : Dr} {S : h_} {u : i_} {o : GX} {n : String} {vs : Array i_} {Q : Unit -> t_ -> Prop} (U : s.heap.get? S = a_ o) (a : o.cls = .type n) (hd : o.data = .fields vs)
    (Y : ["enumerate", "zip", "dict_itemiterator", "dict_reverseitemiterator", "odict_iterator", "itertools.zip_longest", "itertools.pairwise"].contains n = c_) (J : Q () s) : s_ M A (Ir tg (.ref S) u) Q E s := by
  unfold Ir;cases tg <;> first
    | exact e_ J
    | (cases u <;> first
        | exact e_ J
        | (refine b_ (Ig U ?_)
           rw [a, hd];show s_ M A (if (["enumerate", "zip", "dict_itemiterator", "dict_reverseitemiterator", "odict_iterator", "itertools.zip_longest", "itertools.pairwise"].contains n && vs[0]? == a_ (Ds _)) = f_ then _ else _) Q E s;rw [l_ (by intro h; rw [Y, Ib] at h; cases h)];exact e_ J))
noncomputable def Itl (K:Fg) (a:h_):It:=
 ⟨fun i H=>∃xs x,SqL K H a xs/\xs[i]? =a_ x,fun i H x H'=>H'=H/\∀xs,SqL K H a xs->xs[i]? =a_ x,fun i H=>∃xs,SqL K H a xs/\xs.length<=i⟩
noncomputable def Itt (K:Fg) (a:h_):It:=
 ⟨fun i H=>∃xs x,SqT K H a xs/\xs[i]? =a_ x,fun i H x H'=>H'=H/\∀xs,SqT K H a xs->xs[i]? =a_ x,fun i H=>∃xs,SqT K H a xs/\xs.length<=i⟩
noncomputable def Itr (lo:Int) (n:Nat):It:=⟨fun i _=>i<n,fun i H x H'=>H'=H/\x=.int (lo+i),fun i _=>n<=i⟩
theorem zG {P:Cn} (a J:h_):Turn P w K tg (Itl K a) [J] J (fun i h=>h.IsListIter J a i) where
 mem:=by simp
 obj:=fun i h st b S=>by
  have e:b=J:=by simpa using S
  subst e;obtain ⟨o,e,c,d⟩:=st;exact ⟨o,e,fun v z=>by rw [d] at z;cases z⟩
 keep:=fun i h h' st k=>st.at fun o e=>k J (by simp) o e
 item:=by
  intro X m hw n r i pins s σ H E I f st l;subst m hw n;obtain ⟨xs,x,Y,j⟩:=l;obtain ⟨its,g,p,A⟩:=I.list Y;obtain ⟨u,C,y⟩:=g.get j;obtain ⟨q,f1,D,f3,f4,f5⟩:=f J (by simp);refine wpAny_pyNext_list_item st p.isList (x:=u) (by simpa using C) fun h' U t=>?_;have F:Inv X pins σ H {s with heap:=h'}:=I.turned (t':=s.toks) (fun b o S e=>(t.2 b S).trans e) q f1 f3 f4 f5;obtain ⟨o,e,c,d⟩:=id U;exact ⟨u,rfl,go_of (s:={s with heap:=h'}) e c d (by decide) ⟨x,H,F,y,⟨rfl,fun ys B=>by rw [I.lV B Y];exact j⟩,U,fun b S=>(f b S).1⟩⟩
 done:=by
  intro X m hw n r i pins s σ H E I f st l;subst m hw n;obtain ⟨xs,Y,j⟩:=l;obtain ⟨its,g,p,A⟩:=I.list Y;obtain ⟨q,f1,D,f3,f4,f5⟩:=f J (by simp);have G:=g.length;exact wpAny_pyNext_list_end (I.ok.hd r) st p.isList (by simp;omega) fun h' eb=>⟨rfl,I.turned (t':=s.toks) (fun b o S e=>eb b o S e) q f1 f3 f4 f5⟩
 self:=fun _ _ _ _ _ st h=>wpAny_pyIter_listiter st h
theorem xH {P:Cn} (a J:h_):Turn P w K tg (Itt K a) [J] J (fun i h=>h.IsTupleIter J a i) where
 mem:=by simp
 obj:=fun i h st b S=>by
  have e:b=J:=by simpa using S
  subst e;obtain ⟨o,e,c,d⟩:=st;exact ⟨o,e,fun v z=>by rw [d] at z;cases z⟩
 keep:=fun i h h' st k=>st.at fun o e=>k J (by simp) o e
 item:=by
  intro X m hw n r i pins s σ H E I f st l;subst m hw n;obtain ⟨xs,x,Y,j⟩:=l;obtain ⟨its,g,p,A⟩:=I.tuple Y;obtain ⟨u,C,y⟩:=g.get j;obtain ⟨q,f1,D,f3,f4,f5⟩:=f J (by simp);refine wpAny_pyNext_tuple_item st (show s.heap.IsTuple a its.toArray from p) (x:=u) (by simpa using C) fun h' U t=>?_;have F:Inv X pins σ H {s with heap:=h'}:=I.turned (t':=s.toks) (fun b o S e=>(t.2 b S).trans e) q f1 f3 f4 f5;obtain ⟨o,e,c,d⟩:=id U;exact ⟨u,rfl,go_of (s:={s with heap:=h'}) e c d (by decide) ⟨x,H,F,y,⟨rfl,fun ys B=>by rw [I.rR B Y];exact j⟩,U,fun b S=>(f b S).1⟩⟩
 done:=by
  intro X m hw n r i pins s σ H E I f st l;subst m hw n;obtain ⟨xs,Y,j⟩:=l;obtain ⟨its,g,p,A⟩:=I.tuple Y;obtain ⟨q,f1,D,f3,f4,f5⟩:=f J (by simp);have G:=g.length;exact wpAny_pyNext_tuple_end (I.ok.hd r) st (show s.heap.IsTuple a its.toArray from p) (by simp;omega) fun h' eb=>⟨rfl,I.turned (t':=s.toks) (fun b o S e=>eb b o S e) q f1 f3 f4 f5⟩
 self:=fun _ _ _ _ _ st h=>wpAny_pyIter_tupleiter st h
theorem xI {P:Cn} (J:h_) (lo:Int) (n:Nat):Turn P w K tg (Itr lo n) [J] J (fun i h=>IsRangeIter h J (lo+(i:Nat)*1) ((n:Int)-(i:Nat)) 1) where
 mem:=by simp
 obj:=fun i h st b S=>by
  have e:b=J:=by simpa using S
  subst e;exact ⟨_,st,fun v z=>by
   have j:Data.fields _=Data.cell v:=z;cases j⟩
 keep:=fun i h h' st k=>k J (by simp) _ st
 item:=by
  intro X d hw f c i pins s σ H E I Y st a;subst d hw f;obtain ⟨g,f1,m,f3,f4,f5⟩:=Y J (by simp);have W:=Walks.range (prog:=X.prog) (w:=X.w) (I.ok.hd c) J lo 1 n;refine W.item i s _ _ a st fun v h' tk hv U l=>?_;obtain ⟨t,rfl⟩:=hv;have p:Inv X pins σ H {s with heap:=h',toks:=tk}:=I.turned (fun b o S e=>l b o (by simpa using S) e) g f1 f3 f4 f5;refine ⟨_,rfl,go_of (s:={s with heap:=h',toks:=tk}) (n:="range_iterator") U rfl rfl (by decide) ⟨.int (lo+i),H,p,⟨t,?_⟩,⟨rfl,rfl⟩,U,fun b S=>(Y b S).1⟩⟩
  rw [Lm]
 done:=by
  intro X d hw f c i pins s σ H E I Y st a;subst d hw f;obtain ⟨g,f1,m,f3,f4,f5⟩:=Y J (by simp);exact wpAny_pyNext_range_end (I.ok.hd c) st (by have:n<=i:=a;omega) fun h' eb=>⟨rfl,I.turned (t':=s.toks) (fun b o S e=>eb b o S e) g f1 f3 f4 f5⟩
 self:=fun _ _ _ _ _ st h=>wpAny_pyIter_rangeiter st h
section
theorem wB {R:It->Hp->Prop} {lo hi:Int} {t u v:Tok} {tk:Nat} (I:Inv X pins σ H s) (h1: -(2^62)<=lo) (h2:lo<2^62) (Y: -(2^62)<=hi) (U:hi<2^62)
  (q:R (Itr lo (hi-lo).toNat) H):s_ (w_ X.prog X.w) X.A (JW (.ref s.heap.objs.size)) (PIE X pins σ tg R) E {s with heap:=s.heap.push {cls:=.type "range",data:=.fields #[.int lo t,.int hi u,.int 1 v]},toks:=tk}:=by
 refine wpAny_pyIter_range (IsRange.new ..) (NJ h1 h2 Y U) ?_;have J:Inv X pins σ H {s with heap:=s.heap.push {cls:=.type "range",data:=.fields #[.int lo t,.int hi u,.int 1 v]},toks:=tk}:=I.kept fun b o e=>g_ _ e;refine ⟨(s.heap.push {cls:=.type "range",data:=.fields #[.int lo t,.int hi u,.int 1 v]}).objs.size,[(s.heap.push {cls:=.type "range",data:=.fields #[.int lo t,.int hi u,.int 1 v]}).objs.size],_,_,H,rfl,
  J.kept (t':=tk) fun b o e=>g_ _ e,xI _ lo (hi-lo).toNat,?_,fun b S=>?_,q⟩
 ·have e1:lo+((0:Nat):Int)*1=lo:=by simp
  have e2:(((hi-lo).toNat:Nat):Int)-((0:Nat):Int)=FQ lo hi 1:=by rw [La];split<;>omega
  show IsRangeIter _ _ (lo+((0:Nat):Int)*1) ((((hi-lo).toNat:Nat):Int)-((0:Nat):Int)) 1;rw [e1,e2];exact k_ _ rfl
 ·have e:b=(s.heap.push {cls:=.type "range",data:=.fields #[.int lo t,.int hi u,.int 1 v]}).objs.size:=by simpa using S
  subst e;exact J.fpOk (m_ _) (J.hok.fresh (m_ _))
def iRng1 (ta:TA):TI:=fun σ H R=>ta σ H fun vs H1=>∃j:Int,vs=[.int j]/\ -(2^62)<=j/\j<2^62/\R (Itr 0 j.toNat) H1
def iRng2 (ta:TA):TI:=fun σ H R=>ta σ H fun vs H1=>∃i j:Int,vs=[.int i,.int j]/\(-(2^62)<=i/\i<2^62/\ -(2^62)<=j/\j<2^62)/\R (Itr i (j-i).toNat) H1
theorem An {a:Dr} {ta:TA} (b:Gl X "range") (Y:X.mg "range"=d_) (c:PA X [a] ta) (U: ~~~(j_ [a] X.env=[(c_,Cf a X.env)])):PI X tg (.Call (.Name "range" p) [a] [] pos) (iRng1 ta):=by
 intro pins s σ H R I h;refine K2 (fU I b Y K0 (CF (thn (c pos pins s σ H _ I h) fun us f ⟨vs,H1,d,S,q1⟩=>?_) U rfl));obtain ⟨j,e,q1,q2,q⟩:=q1;subst e;cases S with
 |cons r J=>
  cases J;obtain ⟨t,rfl⟩:=r;exact call_range_1 (wB d (by omega) (by omega) q1 q2 (by simpa using q))
theorem Am {a b:Dr} {ta:TA} (g:Gl X "range") (f:X.mg "range"=d_) (k:PA X [a,b] ta) (d: ~~~(j_ [a,b] X.env=[(c_,Cf a X.env),(c_,Cf b X.env)])) (J: ~~~(j_ [b] X.env=[(c_,Cf b X.env)])) :
  PI X tg (.Call (.Name "range" p) [a,b] [] pos) (iRng2 ta):=by
 intro pins s σ H R I h;refine K2 (fU I g f K0 (CF (thn (k pos pins s σ H _ I h) fun us m ⟨vs,H1,l,U,q1⟩=>?_) (by rw [d,J]) (by rw [J];rfl)));obtain ⟨i,j,e,⟨q1,q2,c,Y⟩,q⟩:=q1;subst e;cases U with
 |cons r S=>
  cases S with
  |cons r' S=>
   cases S;obtain ⟨t,rfl⟩:=r;obtain ⟨t',rfl⟩:=r';exact call_range_2 (wB l q1 q2 c Y q)
def tFor (wi:TI) (g:TG) (tb:TS):TS:=fun D σ H=>wi σ H fun J H1=>∃W:Nat->Nat->St->Hp->Prop,(∃m,W 0 m σ H1)/\∀i m σ H,W i m σ H ->
 (J.stop i H/\D.nx σ H)\/(J.go i H/\∃N:St->Hp->Prop,(∀σ' H',N σ' H'->∃U,U<m/\W (i+1) U σ' H')/\∀x H',J.yld i H x H'->g x σ H' fun S H2=>tb {D with nx:=N,ct:=N,bk:=D.nx} S H2)
noncomputable def sI (fp:List h_) (h:CQ):Pn:=fp.filterMap fun b=>(h.get? b).map fun o=>(b,o)
theorem iQ {o:GX} (J:b∈fp) (e:h.get? b=a_ o):(b,o)∈sI fp h:=Fq.mpr ⟨b,J,by rw [e];rfl⟩
theorem AB {p:h_×GX} (J:p∈sI fp h):p.1∈fp/\h.get? p.1=a_ p.2:=by
 obtain ⟨b,S,e⟩:=Fq.mp J;cases q:h.get? b with
 |none=>rw [q] at e;cases e
 |some o=>
  rw [q] at e;have U:(b,o)=p:=Cu e;subst U;exact ⟨S,q⟩
theorem Inv.pinned (I:Inv X pins σ H s) (a:∀b∈fp,zp X pins H b) (Y:∀b∈fp,∃o,s.heap.get? b=a_ o/\∀v,o.data≠.cell v):Inv X (pins++sI fp s.heap) σ H s:=
 I.qj fun p U=>(Dw.mp U).elim (fun z=>I.pin p (Dk _ z)) fun z=>by
  obtain ⟨J,e⟩:=AB z;obtain ⟨f,f1,c,_⟩:=a p.1 J;obtain ⟨o,S,d⟩:=Y p.1 J;rw [e] at S;cases S;exact ⟨e,f,f1,c,d⟩
theorem Inv.pK {pl:Pn} (I:Inv X (pins++pl) σ H s):Inv X pins σ H s:=I.qj fun p J=>I.pin p (Dk _ (K7 _ J))
theorem ps_for {iter:Dr} {wi:TI} {g:TG} {tb:TS} (A:LF (w_ X.prog X.w) X.A X.env X.xe) (Z:X.calm=f_) (hi:PI X tg iter wi) (hg:PG X tg g) (a:PSs X body tb)
  (hs:autoParam (∀x,E8 iter X.env x=DC x) Jq5):PS X (.For tg iter body [] pos) (tFor wi g tb):=by
 intro pins s σ H D I h;refine wpAny_For (thn (hi pins s σ H _ I h) fun v s1 h1=>thn h1 fun itv s2 h2=>?_) hs;obtain ⟨it,fp,P,J,H2,e,I2,T,F,f2,W,⟨m0,w0⟩,q⟩:=h2;subst e;have Y:∀{H':Hp},(∀b∈fp,H' b=d_)->∀b∈fp,zp X pins H' b:=fun hn b a=>⟨hn b a,(f2 b a).2⟩
 refine codeAny_forLoop_any (fun n s'=>∃i σ' H',Inv X pins σ' H' s'/\P i s'.heap/\(∀b∈fp,H' b=d_)/\W i n σ' H') ?_ m0 ⟨0,σ,H2,I2,F,fun b a=>(f2 b a).1,w0⟩;rintro n R ⟨i,U,C,I3,y,B,w3⟩;rcases q i n U C w3 with ⟨t,qn⟩|⟨go,N,hN,w⟩
 ·refine FK A (thn (T.done X rfl rfl rfl Z i pins R U C X.xe I3 (Y B) y t) fun r s4 ⟨K,I4⟩=>?_);subst K;exact Gn ⟨U,C,I4,qn⟩
 ·refine FK A (thn (T.item X rfl rfl rfl Z i pins R U C X.xe I3 (Y B) y go) fun r s4 ⟨u,K,h4⟩=>?_);subst K;refine FK A (thn h4 fun _ Q ⟨x,H5,I5,r5,y5,p,L⟩=>?_);have O:=I5.pinned (Y L) (T.obj _ _ p);refine FK A (thn (hg _ Q U H5 x u _ O r5 (w x H5 y5)) fun _ s6 ⟨E,H6,I6,q6⟩=>?_);refine FK A (thn (a _ s6 E H6 _ I6 q6) fun f G l=>?_);have c:∀{S:St} {k:Hp},Inv X (pins++sI fp Q.heap) S k G->N S k->∃m,m<n/\∃i σ' H',Inv X pins σ' H' G/\P i G.heap/\(∀b∈fp,H' b=d_)/\W i m σ' H':=fun {S k} j z=>by
   obtain ⟨m',hm,w7⟩:=hN S k z;refine ⟨m',hm,i+1,S,k,j.pK,T.keep _ _ _ p fun b a o e=>(j.pin (b,o) (Dk _ (Dk _ (iQ a e)))).1,fun b a=>?_,w7⟩
   obtain ⟨o,e,d⟩:=T.obj _ _ p b a;exact (j.pin (b,o) (Dk _ (Dk _ (iQ a e)))).2.1
  cases f with
  |next=>obtain ⟨S,k,j,z⟩:=l;exact c j z
  |cont=>obtain ⟨S,k,j,z⟩:=l;exact c j z
  |brk=>obtain ⟨S,k,j,l⟩:=l;exact ⟨S,k,j.pK,l⟩
  |ret v=>obtain ⟨x7,S,k,j,r7,l⟩:=l;exact ⟨x7,S,k,j.pK,r7,l⟩
end
abbrev R2:=V->V->Hp->VK->Prop
variable {r r':R2}
def OpR (X:Cx) (f:i_->i_->Mb i_) (r:R2):Prop:=
 ∀(pins:Pn) (s:t_) (σ:St) (H:Hp) (x y:V) (v u:i_) (Q:VK),Inv X pins σ H s->RelV x v->RelV y u->r x y H Q ->
  s_ (w_ X.prog X.w) X.A (f v u) (EP X pins σ Q) X.xe s
def UnR (X:Cx) (f:i_->Mb i_) (r:V->Hp->VK->Prop):Prop:=
 ∀(pins:Pn) (s:t_) (σ:St) (H:Hp) (x:V) (v:i_) (Q:VK),Inv X pins σ H s->RelV x v->r x H Q ->
  s_ (w_ X.prog X.w) X.A (f v) (EP X pins σ Q) X.xe s
def bS (X:Cx) (f:i_) (r:List V->Hp->VK->Prop):Prop:=
 ∀(pins:Pn) (s:t_) (σ:St) (H:Hp) (xs:List V) (us:List i_) (Q:VK),Inv X pins σ H s->Vals xs us->r xs H Q ->
  s_ (w_ X.prog X.w) X.A (Gg f us) (EP X pins σ Q) X.xe s
def TruR (X:Cx) (r:V->Hp->(Bool->Hp->Prop)->Prop):Prop:=
 ∀(pins:Pn) (s:t_) (σ:St) (H:Hp) (x:V) (v:i_) (Q:Bool->Hp->Prop),Inv X pins σ H s->RelV x v->r x H Q ->
  s_ (w_ X.prog X.w) X.A (MY v) (TP X pins σ Q) X.xe s
noncomputable def tOp (r:R2) (ta tb:TE):TE:=fun σ H Q=>ta σ H fun x H1=>tb σ H1 fun y H2=>r x y H2 Q
noncomputable def tUn (r:V->Hp->VK->Prop) (ta:TE):TE:=fun σ H Q=>ta σ H fun x H1=>r x H1 Q
noncomputable def rI (C:Int->Int->Prop) (g:Int->Int->V):R2:=fun x y H Q=>∃i j,x=.int i/\y=.int j/\C i j/\Q (g i j) H
noncomputable def rI0 (g:Int->Int->V):R2:=fun x y H Q=>∃i j,x=.int i/\y=.int j/\Q (g i j) H
def rU (g:Int->V):V->Hp->VK->Prop:=fun x H Q=>∃i,x=.int i/\Q (g i) H
section
variable {a b:Dr} 
theorem binT (i:PE X a ta) (g:PE X b tb) {R:V->V->Hp->Prop} (I:Inv X pins σ H s)
  (h:ta σ H fun x H1=>tb σ H1 fun y H2=>R x y H2) {Q:Vp} {f:i_->i_->Mb i_}
  (e:∀v u U x y H2,Inv X pins σ H2 U->RelV x v->RelV y u->R x y H2->s_ (w_ X.prog X.w) X.A (f v u) Q X.xe U) :
  s_ (w_ X.prog X.w) X.A (Cf a X.env) (fun v S=>s_ (w_ X.prog X.w) X.A (Cf b X.env) (fun u J=>s_ (w_ X.prog X.w) X.A (f v u) Q X.xe J) X.xe S) X.xe s:=by
 refine thn (i pins s σ H _ I h) fun v Y ⟨x,H1,k,d,q1⟩=>?_;refine thn (g pins Y σ H1 _ k q1) fun u U ⟨y,H2,j,c,q2⟩=>?_;exact e v u U x y H2 j d c q2
theorem pe_op {op:Operator} (Y:OpR X (EC op) r) (d:PE X a ta) (c:PE X b tb):PE X (.BinOp a op b pos) (tOp r ta tb):=by
 intro pins s σ H Q I h;exact wpAny_BinOp (binT d c I h fun v u J x y H2 e U S q=>Y pins J σ H2 x y v u Q e U S q)
theorem pe_un {op:UnaryOp} {r:V->Hp->VK->Prop} (U:UnR X (Nd op) r) (Y:PE X a ta):PE X (.UnaryOp op a pos) (tUn r ta):=by
 intro pins s σ H Q I h;exact UnaryOp_ (thn (Y pins s σ H _ I h) fun v J ⟨x,H1,b,S,q1⟩=>U pins J σ H1 x v Q b S q1)
theorem opI {f:i_->i_->Mb i_} {C:Int->Int->Prop} 
  (J:∀(i j:Int) (t u:Tok) (s:t_) (Q:Vp) (E:Vp),C i j->Q (.int (g i j) s.toks) {s with toks:=s.toks+1}->s_ (w_ X.prog X.w) X.A (f (.int i t) (.int j u)) Q E s) :
  OpR X f (rI C fun i j=>.int (g i j)):=by
 intro pins s σ H x y v u Q I U S h;obtain ⟨i,j,rfl,rfl,Y,q⟩:=h;obtain ⟨t,rfl⟩:=U;obtain ⟨t',rfl⟩:=S;exact J i j t t' s _ _ Y ⟨.int (g i j),H,I.tok _,⟨_,rfl⟩,q⟩
theorem opI0 {f:i_->i_->Mb i_} 
  (J:∀(i j:Int) (t u:Tok) (s:t_) (Q:Vp) (E:Vp),Q (.int (g i j) s.toks) {s with toks:=s.toks+1}->s_ (w_ X.prog X.w) X.A (f (.int i t) (.int j u)) Q E s) :
  OpR X f (rI0 fun i j=>.int (g i j)):=by
 intro pins s σ H x y v u Q I U S h;obtain ⟨i,j,rfl,rfl,q⟩:=h;obtain ⟨t,rfl⟩:=U;obtain ⟨t',rfl⟩:=S;exact J i j t t' s _ _ ⟨.int (g i j),H,I.tok _,⟨_,rfl⟩,q⟩
theorem opB0 {f:i_->i_->Mb i_} {g:Int->Int->Bool}
  (J:∀(i j:Int) (t u:Tok) (s:t_) (Q:Vp) (E:Vp),Q (.bool (g i j)) s->s_ (w_ X.prog X.w) X.A (f (.int i t) (.int j u)) Q E s) :
  OpR X f (rI0 fun i j=>.bl (g i j)):=by
 intro pins s σ H x y v u Q I U S h;obtain ⟨i,j,rfl,rfl,q⟩:=h;obtain ⟨t,rfl⟩:=U;obtain ⟨t',rfl⟩:=S;exact J i j t t' s _ _ ⟨.bl (g i j),H,I,rfl,q⟩
def CPow (i j:Int):Prop:=0<=j/\j<=1000000/\i.natAbs<2^64
def CMul (i j:Int):Prop:=(-(2^64)<i/\i<2^64)\/(-(2^64)<j/\j<2^64)
theorem CMul.ok {i j:Int} (h:CMul i j):IntMulOk i j:=by
 rcases h with ⟨h1,h2⟩|⟨h1,h2⟩
 ·exact .of_left (intBits_le_64 h1 h2)
 ·exact .of_right (intBits_le_64 h1 h2)
theorem op_add:OpR X (EC .Add) (rI0 fun i j=>.int (i+j)):=opI0 fun _ _ _ _ _ _ _ q=>add_int q
theorem op_sub:OpR X (EC .Sub) (rI0 fun i j=>.int (i-j)):=opI0 fun _ _ _ _ _ _ _ q=>sub_int q
theorem op_mul:OpR X (EC .Mult) (rI CMul fun i j=>.int (i*j)):=opI fun _ _ _ _ _ _ _ J q=>mul_int q J.ok
theorem op_mod:OpR X (EC .Mod) (rI (fun _ j=>0<j) fun i j=>.int (i%j)):=opI fun i j _ _ _ _ _ J q=>by
 have h1:(0:Int)<j:=J;exact mod_int' (by omega) (by rw [Int.fmod_eq_emod_of_nonneg i (by omega)];exact q)
theorem op_pow:OpR X (EC .Pow) (rI CPow fun i j=>.int (i^j.toNat)):=opI fun _ _ _ _ _ _ _ J q=>pow_int_small J.1 J.2.1 J.2.2 q
theorem unI {f:i_->Mb i_} {g:Int->Int}
  (J:∀(i:Int) (t:Tok) (s:t_) (Q:Vp) (E:Vp),Q (.int (g i) s.toks) {s with toks:=s.toks+1}->s_ (w_ X.prog X.w) X.A (f (.int i t)) Q E s) :
  UnR X f (rU fun i=>.int (g i)):=by
 intro pins s σ H x v Q I S h;obtain ⟨i,rfl,q⟩:=h;obtain ⟨t,rfl⟩:=S;exact J i t s _ _ ⟨.int (g i),H,I.tok _,⟨_,rfl⟩,q⟩
theorem un_neg:UnR X (Nd .USub) (rU fun i=>.int (-i)):=unI fun _ _ _ _ _ q=>neg_int q
end
section
variable {a b:Dr} {tc:TE} 
theorem lr {Q:VK} {k J:Bool} (I:Inv X pins σ H s) (q:Q (.bl k) H) (e:k=J):EP X pins σ Q (.bool J) s:=by
 subst e;exact ⟨.bl k,H,I,rfl,q⟩
theorem op_lt:OpR X (Dp .Lt) (rI0 fun i j=>.bl (Ca (i<j))):=opB0 fun _ _ _ _ _ _ _ q=>lt_int q
theorem op_le:OpR X (Dp .LtE) (rI0 fun i j=>.bl (Ca (i<=j))):=opB0 fun _ _ _ _ _ _ _ q=>le_int q
theorem op_gt:OpR X (Dp .Gt) (rI0 fun i j=>.bl (Ca (j<i))):=opB0 fun _ _ _ _ _ _ _ q=>gt_int q
theorem op_isN:OpR X (Dp .Is) (fun x y H Q=>y=.non/\Q (.bl (Ca (x=.non))) H):=by
 intro pins s σ H x y v u Q I J S h;obtain ⟨rfl,q⟩:=h;cases S;refine is_none_gen (lr I q ?_);cases x<;>first
  |(cases J;rfl)
  |(obtain ⟨t,rfl⟩:=J;rfl)
theorem op_notN:OpR X (Dp .IsNot) (fun x y H Q=>y=.non/\Q (.bl (!decide (x=.non))) H):=by
 intro pins s σ H x y v u Q I J S h;obtain ⟨rfl,q⟩:=h;cases S;refine isnot_none_gen (lr I q ?_);cases x<;>first
  |(cases J;rfl)
  |(obtain ⟨t,rfl⟩:=J;rfl)
noncomputable def isObj:HO->Bool
 |.lst _=>f_
 |.ins _ _ _=>f_
 |_=>c_
theorem OpR.or {f:i_->i_->Mb i_} (h:OpR X f r) (h':OpR X f r'):OpR X f (fun x y H Q=>r x y H Q\/r' x y H Q):=by
 intro pins s σ H x y v u Q I S J q;rcases q with q|q
 ·exact h pins s σ H x y v u Q I S J q
 ·exact h' pins s σ H x y v u Q I S J q
theorem nomark (b:Dr) (h:(op≠.In)⁻¹) (h2:(op≠.NotIn)⁻¹):GU op b=c_:=by
 have e1:(op==CmpOp.In)=c_:=by cases op<;>first|rfl|exact Cj rfl h
 have e2:(op==CmpOp.NotIn)=c_:=by cases op<;>first|rfl|exact Cj rfl h2
 cases b<;>simp [GU,e1,e2]
theorem pe_cmpR (Y:OpR X (Dp op) r) (e:PE X a ta) (d:PE X b tb) (c:GU op b=c_):PE X (.Compare a [op] [b] pos) (tOp r ta tb):=by
 intro pins s σ H Q I h;exact wpAny_Compare1 (binT e d I h fun v u J x y H2 f U S q=>Y pins J σ H2 x y v u Q f U S q) c
def tTest (t:TE):TT:=fun σ H Q=>t σ H fun x H'=>∃k,x=.bl k/\Q k H'
theorem pt_cmpR (g:OpR X (Dp op) r) (l:PE X a ta) (j:PE X b tb) (i:GU op b=c_):PT X (.Compare a [op] [b] pos) (tTest (tOp r ta tb)):=by
 intro pins s σ H Q I h;refine wpAny_isTrue_Compare1 (thn (l pins s σ H _ I h) fun v S ⟨x,H1,o,d,q1⟩=>thn (j pins S σ H1 _ o q1) fun u J ⟨y,H2,n,Y,q2⟩=>
  thn (g pins J σ H2 x y v u _ n d Y q2) fun c q ⟨z,p,m,U,k,e,f⟩=>?_) i
 subst e;cases U;exact EF ⟨p,m,f⟩
noncomputable def zM (r r':R2) (ta tb tc:TE):TE:=fun σ H Q=>ta σ H fun x H1=>tb σ H1 fun y H2=>r x y H2 fun z J=>∃k,z=.bl k /\
 (if k=f_ then tc σ J fun S U=>r' y S U Q else Q (.bl c_) J)
theorem pe_chain (w:OpR X (Dp op) r) (J:OpR X (Dp op') r') (D:PE X a ta) (C:PE X b tb) (B:PE X c tc)
  (A:Lv [op,op'] [b,c]=c_:=by with_unfolding_all rfl):PE X (.Compare a [op,op'] [b,c] pos) (zM r r' ta tb tc):=by
 intro pins s σ H Q I h;refine Compare_chain (thn (D pins s σ H _ I h) fun v n ⟨x,H1,G,q,q1⟩=>chain_link (thn (C pins n σ H1 _ G q1) fun u m ⟨y,H2,F,S,q2⟩=>
  thn (w pins m σ H2 x y v u _ F q S q2) fun d l ⟨z,f,Y,p,k,e,U⟩=>?_)) A
 subst e;cases p;refine EF ?_;cases k with
 |false=>exact ite_ff ⟨.bl c_,f,Y,rfl,U⟩
 |true=>exact ite_tt (chain_last (thn (B pins l σ f _ Y U) fun i j ⟨g,K,E,o,t⟩=>J pins j σ K y g u i Q E S o t))
theorem pt_chain (C:OpR X (Dp op) r) (J:OpR X (Dp op') r') (G:PE X a ta) (F:PE X b tb) (E:PE X c tc)
  (D:Lv [op,op'] [b,c]=c_:=by with_unfolding_all rfl):PT X (.Compare a [op,op'] [b,c] pos) (tTest (zM r r' ta tb tc)):=by
 intro pins s σ H Q I h;refine isTrue_chain (thn (G pins s σ H _ I h) fun v n ⟨x,H1,P,t,q1⟩=>test_link (thn (F pins n σ H1 _ P q1) fun u m ⟨y,H2,O,S,q2⟩=>
  thn (C pins m σ H2 x y v u _ O t S q2) fun d l ⟨z,f,Y,q,k,e,U⟩=>?_)) D
 subst e;cases q;refine EF ?_;cases k with
 |false=>
  obtain ⟨k',K,B⟩:=U;cases K;exact ite_ff ⟨f,Y,B⟩
 |true=>
  refine ite_tt (test_last (thn (E pins l σ f _ Y U) fun i j ⟨g,T,N,p,A⟩=>thn (J pins j σ T y g u i _ N S p A) fun d' Z ⟨W,R,L,o,k2,e2,w⟩=>?_));subst e2;cases o;exact EF ⟨R,L,w⟩
def TruV (K:Fg) (x:V) (H:Hp) (k:Bool):Prop:=
 match x with
 |.non=>k=c_
 |.bl b=>k=b
 |.int i=>k=(i != 0)
 |.str y=>y.length<=n_/\k=((y.length:Int) != 0)
 |.byt y=>y.size<=n_/\k=((y.size:Int) != 0)
 |.ref p=>(∃xs,SqL K H p xs/\k= !xs.isEmpty)\/(∃xs,SqT K H p xs/\k= !xs.isEmpty)\/∃J,H p=a_ (.dK J)/\k= !J.isEmpty
 |_=>False
theorem yJ {J:List (κ×V)} {vs:List (κ×i_)} (r:KV J vs):(!vs.isEmpty)= !J.isEmpty:=by
 cases r<;>rfl
theorem oR {its:List i_} (r:Vals xs its):(!its.toArray.isEmpty)= !xs.isEmpty:=by
 cases r<;>simp
theorem oJ:(n_:Nat)<2^63:=by rw [Du];decide
theorem tru_ok:TruR X (fun x H Q=>∃k,TruV X.K x H k/\Q k H):=by
 intro pins s σ H x v Q I Y h;obtain ⟨k,e,q⟩:=h;have j:=oJ;have g:n_=16777216:=Du;cases x with
 |non=>
  cases Y;have J:k=c_:=e;subst J;exact truthy_none ⟨H,I,q⟩
 |bl b=>
  cases Y;have J:k=b:=e;subst J;exact EF ⟨H,I,q⟩
 |int i=>
  obtain ⟨t,rfl⟩:=Y;have J:k=(i != 0):=e;subst J;exact PySem.P.truthy_int ⟨H,I,q⟩
 |str y=>
  obtain ⟨t,rfl⟩:=Y;obtain ⟨d,J⟩:y.length<=n_/\k=((y.length:Int) != 0):=e;subst J;exact PySem.P.truthy_str (by omega) ⟨H,I.tok _,q⟩
 |byt y=>
  obtain ⟨t,rfl⟩:=Y;obtain ⟨d,J⟩:y.size<=n_/\k=((y.size:Int) != 0):=e;subst J;exact PySem.W.truthy_bytes (by omega) ⟨H,I.tok _,q⟩
 |ref p=>
  cases Y;have J:(∃xs,SqL X.K H p xs/\k= !xs.isEmpty)\/(∃xs,SqT X.K H p xs/\k= !xs.isEmpty)\/∃S,H p=a_ (.dK S)/\k= !S.isEmpty:=e;rcases J with ⟨xs,a,J⟩|⟨xs,a,J⟩|⟨S,a,J⟩
  ·subst J;obtain ⟨its,r,pl,c⟩:=I.list a;have U:=r.length;exact wpAny_truthy_list pl.isList (by simp only [z_];omega) ⟨H,I.tok _,by rw [oR r];exact q⟩
  ·subst J;obtain ⟨its,r,pl,c⟩:=I.tuple a;have U:=r.length;exact truthy_tuple pl (by simp only [z_];omega) ⟨H,I.tok _,by rw [oR r];exact q⟩
  ·subst J;obtain ⟨c,f,vs,r,m⟩:S.length<=n_/\(p==DO)=c_/\∃vs,KV S vs/\s.heap.DictOf (vh X.prog X.w) p vs:=I.hok p _ a;have U:S.length=vs.length:=G7 r;exact wpAny_truthy_dict f m (by omega) ⟨H,I.tok _,by rw [yJ r];exact q⟩
 |_=>exact (show False from e).elim
theorem pt_truth (b:PE X a ta) (Y:∀J,LS a X.env J=(do let v <- J;Ii a.pos;Gf [v] (MY v))) :
  PT X a (fun σ H Q=>ta σ H fun x H'=>∃k,TruV X.K x H' k/\Q k H'):=by
 intro pins s σ H Q I h;exact isTrue_plain (thn (b pins s σ H _ I h) fun v S ⟨x,H1,c,U,q1⟩=>tru_ok pins S σ H1 x v Q c U q1) (Y _)
theorem yn:OpR X (EC .Add) (fun x y H Q=>∃i j,x=.str i/\y=.str j/\i.length+j.length<=n_/\Q (.str (i++j)) H):=by
 intro pins s σ H x y v u Q I S J h;obtain ⟨i,j,rfl,rfl,U,q⟩:=h;obtain ⟨t,rfl⟩:=S;obtain ⟨t',rfl⟩:=J;exact add_str (fun t' tk=>⟨.str (i++j),H,I.tok _,⟨_,rfl⟩,q⟩) U
theorem vals1 {x:V} (r:Vals [x] us):∃u,us=[u]/\RelV x u:=by
 cases r with
 |cons S J=>cases J;exact ⟨_,rfl,S⟩
theorem vals2 {x:V} (r:Vals [x,y] us):∃u J,us=[u,J]/\RelV x u/\RelV y J:=by
 cases r with
 |cons a Y=>
  cases Y with
  |cons U S=>cases S;exact ⟨_,_,rfl,a,U⟩
theorem BR (S:X.calm=f_):bS X (.builtin "max") (fun xs H Q=>∃i j,xs=[.int i,.int j]/\Q (.int (if j>i then j else i)) H):=by
 intro pins s σ H xs us Q I r h;obtain ⟨i,j,rfl,q⟩:=h;obtain ⟨u,U,rfl,⟨t,rfl⟩,⟨t',rfl⟩⟩:=vals2 r;refine max_two_ints (I.ok.hd S) fun h' tk k=>⟨_,H,I.kept k,?_,q⟩
 by_cases J:j>i
 ·rw [p_ J,p_ J];exact ⟨_,rfl⟩
 ·rw [l_ J,l_ J];exact ⟨_,rfl⟩
theorem BP (S:X.calm=f_):bS X (.builtin "min") (fun xs H Q=>∃i j,xs=[.int i,.int j]/\Q (.int (if j<i then j else i)) H):=by
 intro pins s σ H xs us Q I r h;obtain ⟨i,j,rfl,q⟩:=h;obtain ⟨u,U,rfl,⟨t,rfl⟩,⟨t',rfl⟩⟩:=vals2 r;refine min_two_ints (I.ok.hd S) fun h' tk k=>⟨_,H,I.kept k,?_,q⟩
 by_cases J:j<i
 ·rw [p_ J,p_ J];exact ⟨_,rfl⟩
 ·rw [l_ J,l_ J];exact ⟨_,rfl⟩
end
structure ObjM (h:CQ) (x dx C:h_) (mA:Mq):Prop where
 obj:h.get? x=a_ (EJ C dx)
 ns:h.Ns1 dx mA
 ne:dx≠x
theorem sV (n:h.Ns1 dx mA):∃od,h.get? dx=a_ od/\∀name,G3 name od=a_ (mA name):=by
 obtain ⟨o,es,ep,U,hd,b,_,Y⟩:=n;refine ⟨o,U,fun name=>?_⟩
 have e:=Y name;unfold nsFind findBy at e;rw [<- Lo] at e;unfold G3;rw [hd];dsimp only;split
 ·rename_i y q;rw [q] at e;exact G1 a_ e
 ·rename_i q;rw [q] at e;have a:es.toList.any (·.refKey)=c_:=by
   rw [List.any_eq_false];intro y S;obtain ⟨z,t,J⟩:=b y (Array.mem_toList_iff.mp S);simp [DictEntry.refKey,J]
  have c:¬es.toList.any (·.refKey)=f_:=by rw [a];exact CI
  rw [l_ c];exact G1 a_ e
theorem ObjM.look {x:h_} (I:ObjM h x dx C mA):∃od,Et h x (EJ C dx) C (a_ od)/\∀name,G3 name od=a_ (mA name):=
 let ⟨od,J,S⟩:=sV I.ns
 ⟨od,⟨I.obj,rfl,rfl,J⟩,S⟩
section
variable {x f:h_} {v:i_}
theorem get_map {S:Bool} {Q:Vp} (X:K.In s.heap) (I:ObjM s.heap x dx C mA) (b:Fv K C name=f_) (a:Fc K C=f_)
  (c:Cm K (.ref C) name=a_ d_) (hv:mA name=a_ v) (U:Je v=f_) (h:Q v {s with toks:=s.toks+1}) :
  s_ (w_ prog w) A (Kr (.ref x) name S) Q E s:=by
 obtain ⟨od,J,Y⟩:=I.look;exact Nr X J (G6 b).1 (Kh a c rfl (by rw [Y,hv])) U h
theorem get_meth {Q:i_×List i_->t_->Prop} (X:K.In s.heap) (I:ObjM s.heap x dx C mA) (S:Fv K C name=f_)
  (a:Cm K (.ref C) name=a_ (a_ (.ref f))) (U:GD K (.ref f)=f_) (hv:mA name=d_) (h:Q (.ref f,[.ref x]) s) :
  s_ (w_ prog w) A (IZ (.ref x) name pl) Q E s:=by
 obtain ⟨od,J,Y⟩:=I.look;exact PySem.W.method_fn X J (G6 S).1 (G6 S).2 a (EI.mp U) (by show (G3 name od).map (·.isSome)=a_ c_;rw [Y,hv];rfl) h
theorem set_map {ns:List Cy} (X:K.In s.heap) (I:ObjM s.heap x dx C mA)
  (i:Cm K (.ref C) "__setattr__"=a_ (a_ (.builtin "object.__setattr__"))) (j:LA K C=f_) (g:takerIn K C name=a_ d_) (k:Fc K C=f_)
  (hw:GQ mA ns) (hsz:ns.length<=n_)
  (h:∀h',ObjM h' x dx C (fun y=>if y=name then a_ v else mA y)->Ea dx s.heap h'->Q () {s with heap:=h',toks:=s.toks+2}) :
  s_ (w_ prog w) A (Ni (.ref x) name v) Q E s:=by
 obtain ⟨od,J,p⟩:=I.look;refine Np X J i (PySem.W.osa_open (s:={s with toks:=s.toks+1}) (r:=d_) X J j g fun b=>?_);obtain ⟨cd,l,d⟩:=Ki k;have f:s.heap.get? x=a_ ⟨.ref C,a_ dx,.plain,#[]⟩:=I.obj;refine b_ (e_ (b_ (b_ (Ky f (b_ (Lg (s:={s with toks:=s.toks+1}) (Kg X l) ?_))))));rw [d];refine e_ (a:=a_ dx) (b_ (e_ (b_ ?_)));refine wpAny_nsSet1 (s:={s with toks:=s.toks+1}) I.ns fun h' U S=>?_;obtain ⟨o,m,n,Y,c,e⟩:=U.count (Lc name v hw);refine b_ (NH Y (by rw [c];exact NK (C9 e (by rw [Ci];omega))) ?_);exact e_ (h _ ⟨(S.2 _ (CV I.ne)).trans I.obj,U,I.ne⟩ S)
theorem make_map {R:Jv->t_->Prop} {vs:List i_} (X:K.In s.heap) (S:Gq K C=f_)
  (hi:Cm K (.ref C) "__init__"=a_ (a_ (.ref f))) (U:JZ K (.ref f)=a_ (.type "function"))
  (h:FG (w_ prog w) (A.under (.builtin "type.__call__" ⟨.ref C::vs,kw⟩)) (.call (.ref f) ⟨.ref (s.heap.objs.size+1)::vs,kw⟩) (NP (s.heap.objs.size+1) R)
   {s with heap:=(s.heap.push Dn).push (EJ C s.heap.objs.size)}) :
  FG (w_ prog w) A (.call (.ref C) ⟨vs,kw⟩) R s:=by
 obtain ⟨Y,g,d,t,os⟩:=s;exact Nq (NO X S) (FL X hi) (fun J=>PySem.W.bind_fn X J U) (.inl rfl) h
end
noncomputable def uo (f:Cy) (v:V):List (Cy×V)->List (Cy×V)
 |[]=>[(f,v)]
 |(g,x)::r=>if g=f then (g,v)::r else (g,x)::uo f v r
theorem mK (f g:Cy) (v:V):∀fs:List (Cy×V),(uo f v fs).lookup g=if g=f then a_ v else fs.lookup g
 |[]=>by
  show D1 g [(f,v)]=_;by_cases h:g=f
  ·have J:(g==f)=f_:=EI.mpr h;simp only [D1,J,p_ h]
  ·have J:(g==f)=c_:=E5.mpr h;simp only [D1,J,l_ h]
 |(k,x)::r=>by
  have U:=mK f g v r;rw [show uo f v ((k,x)::r)=(if k=f then (k,v)::r else (k,x)::uo f v r) from rfl];by_cases S:k=f
  ·rw [p_ S];by_cases h:g=k
   ·have J:(g==k)=f_:=EI.mpr h;simp only [D1,J,p_ (h.trans S)]
   ·have J:(g==k)=c_:=E5.mpr h;simp only [D1,J,l_ (fun e:g=f=>h (e.trans S.symm))]
  ·rw [l_ S];by_cases h:g=k
   ·have J:(g==k)=f_:=EI.mpr h;simp only [D1,J,l_ (fun e:g=f=>S (h.symm.trans e))]
   ·have J:(g==k)=c_:=E5.mpr h;simp only [D1,J];exact U
theorem mP (f:Cy) (v:V):∀fs:List (Cy×V),f∈(uo f v fs).map (·.1)/\∀g,g∈fs.map (·.1)->g∈(uo f v fs).map (·.1)
 |[]=>⟨by simp [uo],fun g h=>by simp at h⟩
 |(k,x)::r=>by
  obtain ⟨U,S⟩:=mP f v r;rw [show uo f v ((k,x)::r)=(if k=f then (k,v)::r else (k,x)::uo f v r) from rfl];by_cases J:k=f
  ·rw [p_ J];subst J;exact ⟨by simp,fun g h=>by simpa using h⟩
  ·rw [l_ J];refine ⟨?_,fun g h=>?_⟩
   ·rw [A_];exact Cw _ U
   ·rw [A_] at h ⊢;rcases r_.mp h with e|e
    ·exact r_.mpr (.inl e)
    ·exact Cw _ (S g e)
theorem mO (f:Cy) (v:V):∀fs:List (Cy×V),(uo f v fs).length<=fs.length+1
 |[]=>by simp [uo]
 |(k,x)::r=>by
  have S:=mO f v r;rw [show uo f v ((k,x)::r)=(if k=f then (k,v)::r else (k,x)::uo f v r) from rfl];by_cases J:k=f
  ·rw [p_ J,Ci,Ci];omega
  ·rw [l_ J,Ci,Ci];omega
theorem pF.some_of {o:Option i_} (r:pF (a_ v) o):∃u,o=a_ u/\RelV v u:=by
 cases o with
 |none=>exact (show False from r).elim
 |some u=>exact ⟨u,rfl,r⟩
theorem pF.none_of {o:Option i_} (r:pF d_ o):o=d_:=by
 cases o with
 |none=>rfl
 |some u=>exact (show False from r).elim
theorem t4 (r:RelV v u):Je u=f_:=by
 cases v with
 |non=>cases (show u=CG from r);rfl
 |bl b=>cases (show u=ID b from r);rfl
 |int i=>obtain ⟨t,e⟩:=(show ∃t,u=FU i t from r);cases e;rfl
 |str x=>obtain ⟨t,e⟩:=(show ∃t,u=Ka x t from r);cases e;rfl
 |byt b=>obtain ⟨t,e⟩:=(show ∃t,u=Nt b t from r);cases e;rfl
 |flt b=>obtain ⟨t,e⟩:=(show ∃t,u=KQ b t from r);cases e;rfl
 |ref a=>cases (show u=x_ a from r);rfl
 |ty n=>cases (show u=DL n from r);rfl
section
variable {P:Cn} {fs:List (Cy×V)}
theorem qD (J:HOk P w H h) (e:H a=a_ (.ins C dx fs)):∃mA,ObjM h a dx C mA/\(∀f,pF (fs.lookup f) (mA f))/\GQ mA (fs.map (·.1))/\fs.length<=1000/\H dx=a_ (.own a):=by
 obtain ⟨d,z,U,S,mA,n,r,q⟩:=(show bK P w H h a (.ins C dx fs) from J a _ e)
 exact ⟨mA,⟨S,n,U⟩,r,q,z,d⟩
end
structure Cls (K:Fg) (C:h_):Prop where
 pg:Fv K C Mw=f_
 hd:Fc K C=f_
 po:LA K C=f_
 sa:Cm K (.ref C) "__setattr__"=a_ (a_ (.builtin "object.__setattr__"))
theorem Cls.get (c:Cls K C) (f:Cy):Fv K C f=f_:=c.pg
def kq (K:Fg) (C:h_) (f:Cy):Prop:=Cm K (.ref C) f=a_ d_
theorem kq.taker {f:Cy} (n:kq K C f):takerIn K C f=a_ d_:=by
 unfold takerIn;rw [show Cm K (.ref C) f=a_ d_ from n];rfl
structure Con (K:Fg) (C:h_) (f:Cy) (v:V) (u:i_):Prop where
 at_:Cm K (.ref C) f=a_ (a_ u)
 rel:RelV v u
 get:I9 K u "__get__"=a_ d_
 cp:PySem.W.copiedNames.contains f=c_
structure Meth (K:Fg) (C:h_) (m:Cy) (f:h_):Prop where
 at_:Cm K (.ref C) m=a_ (a_ (.ref f))
 fn:GD K (.ref f)=f_
 kp:FH K (.ref f)=f_
section
variable {fs:List (Cy×V)} {f:Cy} 
theorem yK {b:Bool} {Q:Vp} (I:Inv X pins σ H s) (e:H a=a_ (.ins C dx fs)) (c:Cls X.K C) (n:kq X.K C f) (l:fs.lookup f=a_ v)
  (h:∀u s',Inv X pins σ H s'->RelV v u->Q u s'):s_ (w_ X.prog X.w) A (Kr (.ref a) f b) Q E s:=by
 obtain ⟨mA,O,r,_,_,_⟩:=qD I.hok e;obtain ⟨u,S,J⟩:=pF.some_of (v:=v) (o:=mA f) (by rw [<- l];exact r f);exact get_map I.kIn O (c.get f) c.hd n S (t4 J) (h u _ (I.tok _) J)
theorem kL {g:h_} {Q:i_×List i_->t_->Prop} (I:Inv X pins σ H s) (e:H a=a_ (.ins C dx fs)) (c:Cls X.K C) (k:Meth X.K C m g) (l:fs.lookup m=d_)
  (h:Q (.ref g,[.ref a]) s):s_ (w_ X.prog X.w) A (IZ (.ref a) m pl) Q E s:=by
 obtain ⟨mA,O,r,_,_,_⟩:=qD I.hok e;have J:mA m=d_:=pF.none_of (by rw [<- l];exact r m);exact get_meth I.kIn O (c.get m) k.at_ k.fn J h
theorem xP (I:Inv X pins σ H s) (e:H a=a_ (.ins C dx fs)) (c:Cls X.K C) (n:kq X.K C f) (k:fs.length<1000) (U:RelV y u)
  (h:∀s',Inv X pins σ (upd H a (.ins C dx (uo f y fs))) s'->Q () s'):s_ (w_ X.prog X.w) A (Ni (.ref a) f u) Q E s:=by
 obtain ⟨mA,O,r,wi,_,J⟩:=qD I.hok e;have Y:(fs.map (·.1)).length<=n_:=by rw [v_,Du];omega
 refine set_map I.kIn O c.sa c.po n.taker c.hd wi Y fun h' O' S=>h _ ?_;have hd:∃o,h'.get? dx=a_ o:=let ⟨o,_,_,j,_⟩:=O'.ns;⟨o,j⟩;refine I.write (x:=a) (e:=dx) (by rw [e];exact Ex) (.inr J) (fun b q i z=>(S.2 b i).trans z) hd ?_;refine ⟨by rw [aq O.ne];exact J,?_,O.ne,O'.obj,_,O'.ns,fun g=>?_,fun g d=>?_⟩
 ·have:=mO f y fs;omega
 ·show pF ((uo f y fs).lookup g) (if g=f then a_ u else mA g);rw [mK];by_cases q:g=f
  ·rw [p_ q,p_ q];exact U
  ·rw [l_ q,l_ q];exact r g
 ·by_cases q:g=f
  ·rw [q];exact (mP f y fs).1
  ·refine (mP f y fs).2 g (wi g fun z=>d ?_);show (if g=f then a_ u else mA g)=d_;rw [l_ q];exact z
theorem Inv.made (I:Inv X pins σ H s):Inv X pins σ (upd (upd H s.heap.objs.size (.own (s.heap.objs.size+1))) (s.heap.objs.size+1) (.ins C s.heap.objs.size []))
  {s with heap:=(s.heap.push Dn).push (EJ C s.heap.objs.size)}:=by
 have e1:(s.heap.push Dn).get? s.heap.objs.size=a_ Dn:=k_ s.heap rfl;have e2:((s.heap.push Dn).push (EJ C s.heap.objs.size)).get? (s.heap.objs.size+1)=a_ (EJ C s.heap.objs.size):=by
  have:=k_ (s.heap.push Dn) (o:=EJ C s.heap.objs.size) rfl
  rwa [CN] at this
 have e3:(s.heap.push Dn).Ns s.heap.objs.size (fun _=>d_):=⟨Dn,#[],_,e1,rfl,(fun e U=>Cj U (by simp)),fun _=>rfl⟩
 have Y:=I.laid (a:=s.heap.objs.size) (o:=.own (s.heap.objs.size+1)) (h':=s.heap.push Dn) (t':=s.toks) (fun b u q=>g_ _ q) (m_ _) ⟨_,e1⟩;refine Y.laid (a:=s.heap.objs.size+1) (o:=.ins C s.heap.objs.size []) (t':=s.toks) (fun b u q=>g_ _ q) (Jh (CN _ _)) ?_;have J:s.heap.objs.size≠s.heap.objs.size+1:=Cd (DD _);refine ⟨by rw [aq J,ao],Dg _,J,e2,fun _=>d_,(KR e3).at fun o q=>g_ _ q,fun _=>Ex,fun y S=>Cj rfl S⟩
theorem BZ {env:J8} {f:Cy} {Q:Vp} (S:DH e f env (Cf e env)=Cf e env)
  (h:s_ (w_ prog w) A (Cf e env) (fun o J=>s_ (w_ prog w) A (Kr o f f_) Q E J) E s):s_ (w_ prog w) A (Cf (.Attribute e f pos) env) Q E s:=
 Attribute_any_ h (by rw [arm_eval_Attribute,S])
end
def tFld (K:Fg) (ta:TE) (f:Cy):TE:=fun σ H Q=>ta σ H fun x H1=>∃a C dx fs v,x=.ref a/\H1 a=a_ (.ins C dx fs)/\Cls K C/\kq K C f/\fs.lookup f=a_ v/\Q v H1
def sFld (K:Fg) (ta tv:TE) (f:Cy):TS:=fun D σ H=>tv σ H fun y H1=>ta σ H1 fun x H2=>∃a C dx fs,x=.ref a/\H2 a=a_ (.ins C dx fs)/\Cls K C/\kq K C f/\fs.length<1000 /\
 D.nx σ (upd H2 a (.ins C dx (uo f y fs)))
section
variable {o value:Dr} {f:Cy} {tv:TE}
theorem pe_fld (U:PE X e ta) (Y:DH e f X.env (Cf e X.env)=Cf e X.env):PE X (.Attribute e f pos) (tFld X.K ta f):=by
 intro pins s σ H Q I h;refine BZ Y (thn (U pins s σ H _ I h) fun u j ⟨x,H1,d,J,a,C,dx,fs,v,ex,ea,c,n,l,q⟩=>?_);subst ex;obtain rfl:u=x_ a:=J;exact yK d ea c n l fun g i b S=>⟨v,H1,b,S,q⟩
theorem ps_fld (d:PE X o ta) (hv:PE X value tv) (b:Dx value (a_ (.Attribute o f pos')) pos.line X.env=DC c_):PS X (.Assign [.Attribute o f pos'] value pos) (sFld X.K ta tv f):=by
 intro pins s σ H D I h;refine JO (thn (hv pins s σ H _ I h) fun u J ⟨y,H1,i,S,q⟩=>thn (d pins J σ H1 _ i q) fun Y k ⟨x,H2,g,U,a,C,dx,fs,ex,ea,c,n,l,q2⟩=>?_) b;subst ex;obtain rfl:Y=x_ a:=U;exact xP g ea c n l S fun j e=>⟨σ,_,e,q2⟩
theorem methcall_of {J:List Dr} {Q:Vp} (i:PE X e te) (I:Inv X pins σ H s)
  (h:te σ H fun x H1=>∃a C dx fs g,x=.ref a/\H1 a=a_ (.ins C dx fs)/\Cls X.K C/\Meth X.K C m g/\fs.lookup m=d_ /\
   ∀S,Inv X pins σ H1 S->s_ (w_ X.prog X.w) X.A (KN pos (.ref g) [.ref a] (CZ pos (j_ J X.env)) (Gk pos (ES [] X.env))) Q X.xe S)
  (d:Cf (.Call (.Attribute e m apos) J [] pos) X.env=(do
   let U <- Cf e X.env
   Ii apos.atName
   let (f,first) <- Gf [U] (IZ U m pl)
   KN pos f first (CZ pos (j_ J X.env)) (Gk pos (ES [] X.env)))) :
  s_ (w_ X.prog X.w) X.A (Cf (.Call (.Attribute e m apos) J [] pos) X.env) Q X.xe s:=by
 refine Hn (pl:=pl) (thn (i pins s σ H _ I h) fun u S ⟨x,H1,Y,b,a,C,dx,fs,g,ex,ea,c,k,l,q⟩=>?_) d;subst ex;obtain rfl:u=x_ a:=b;exact kL Y ea c k l (q S Y)
end
section
variable {Q:Vp} {c:i_} {b:Bool}
inductive vX (K:Fg) (H:Hp):V->i_->Prop where
 |non:vX K H .non (.type "NoneType")
 |bl (x:Bool):vX K H (.bl x) (.type "bool")
 |int (i:Int):vX K H (.int i) (.type "int")
 |str (x:Cy):vX K H (.str x) (.type "str")
 |flt (x:UInt64):vX K H (.flt x) (.type "float")
 |lst {a:h_} {xs:List V} (e:H a=a_ (.lst xs)):vX K H (.ref a) (.type "list")
 |frz {a:h_} {o:GX} {xs:List V} (e:H a=a_ (.frz o (.lst xs))):vX K H (.ref a) (.type "list")
 |tup {a:h_} {xs:List V} (e:H a=a_ (.tup xs)):vX K H (.ref a) (.type "tuple")
 |dK {a:h_} {kvs:List (Key×V)} (e:H a=a_ (.dK kvs)):vX K H (.ref a) (.type "dict")
 |dT {a:h_} {kvs:List (List Key×V)} (e:H a=a_ (.dT kvs)):vX K H (.ref a) (.type "dict")
 |ins {a C dx:h_} {fs:List (Cy×V)} (e:H a=a_ (.ins C dx fs)) (cl:Cls K C) (ha:Cm K (.ref C) "__class__"=a_ (a_ (.builtin "object.__class__")))
   (hn:I9 K (.builtin "object.__class__") "__get__"=a_ (a_ (.builtin "getset_descriptor.__get__"))) (htk:Nn K (.builtin "object.__class__")=a_ f_)
   (hm:DM K C (.type "object")=a_ f_):vX K H (.ref a) (.ref C)
theorem sX {x:V} {t:i_} (I:Inv X pins σ H s) (S:RelV x u) (ty:vX X.K H x t) (e:CW X.K t c=a_ b) (h:∀tk,Q (.bool b) {s with toks:=tk}) :
  s_ (w_ X.prog X.w) A (Gg (.builtin "isinstance") [u,c]) Q E s:=by
 cases ty with
 |non=>cases (show u=CG from S);exact E1 K5 I.kIn Ex e (fun z=>nomatch z) h
 |bl y=>cases (show u=ID y from S);exact E1 K6 I.kIn Ex e (fun z=>nomatch z) h
 |int i=>obtain ⟨t,q⟩:=(show ∃t,u=FU i t from S);cases q;exact E1 Le I.kIn Ex e (fun z=>nomatch z) h
 |str y=>obtain ⟨t,q⟩:=(show ∃t,u=Ka y t from S);cases q;exact E1 Ld I.kIn Ex e (fun z=>nomatch z) h
 |flt y=>obtain ⟨t,q⟩:=(show ∃t,u=KQ y t from S);cases q;exact E1 PySem.W.kitx_float I.kIn Ex e (fun z=>nomatch z) h
 |@lst a xs ea=>
  cases (show u=x_ a from S);obtain ⟨_,_,n,_,h1⟩:=(show bK X.prog X.w H s.heap a (.lst xs) from I.hok a _ ea)
  exact E1 IB I.kIn ⟨_,h1,rfl⟩ e (fun z=>nomatch z) h
 |@frz a f xs ea=>
  cases (show u=x_ a from S);obtain ⟨_,_,_,n,_,h1⟩:=(show bK X.prog X.w H s.heap a (.frz f (.lst xs)) from I.hok a _ ea)
  exact E1 IB I.kIn ⟨_,h1,rfl⟩ e (fun z=>nomatch z) h
 |@tup a xs ea=>
  cases (show u=x_ a from S);obtain ⟨_,_,_,p⟩:=(show bK X.prog X.w H s.heap a (.tup xs) from I.hok a _ ea)
  obtain ⟨o,h1,h2,_⟩:=p;exact E1 KO I.kIn ⟨o,h1,h2⟩ e (fun z=>nomatch z) h
 |@dK a U ea=>
  cases (show u=x_ a from S);obtain ⟨_,_,vs,_,p⟩:=(show bK X.prog X.w H s.heap a (.dK U) from I.hok a _ ea)
  obtain ⟨o,es,ep,h1,h2,_⟩:=p;exact E1 IC I.kIn ⟨o,h1,h2.1⟩ e (fun z=>nomatch z) h
 |@dT a U ea=>
  cases (show u=x_ a from S);obtain ⟨_,_,xs,_,o,es,ep,h1,h2,_⟩:=(show bK X.prog X.w H s.heap a (.dT U) from I.hok a _ ea)
  exact E1 IC I.kIn ⟨o,h1,h2.1⟩ e (fun z=>nomatch z) h
 |@ins a C dx fs ea d k g Y j=>
  cases (show u=x_ a from S);obtain ⟨mA,O,_⟩:=qD I.hok ea;obtain ⟨od,J,_⟩:=O.look;exact E1 (PySem.W.kitx_own (d.get _) d.hd k g Y j) I.kIn J e (fun z=>nomatch z) h
end
structure gz (k:Nat) (A:D0):Prop where
 hd:A.handled=d_
 dp:A.depth+3*k+5<recursionLimit
 un:A.units+16*k+200<D8
theorem gz.mono (r:gz k A) (h:j<=k):gz j A:=⟨r.hd,by have:=r.dp;omega,by have:=r.un;omega⟩
theorem gz.deeper {k:Nat} {A:D0} (r:gz (k+1) A) (env:J8):gz k (A.deeper env):=
 ⟨r.hd,by have:=r.dp;show A.depth+1+3*k+5<_;omega,by have:=r.un;show A.units+3+16*k+200<_;omega⟩
theorem yC:(A.under (.builtin "type.__call__" ⟨.ref C::us,kw⟩)).depth=A.depth+1:=by
 first|rfl|simp [Around.under,Code.weight,Code.isCreation,Code.isGuard,Code.isCaller,Code.frames,Code.isFrame,guardIds]
theorem yB:(A.under (.builtin "type.__call__" ⟨.ref C::us,kw⟩)).units=A.units+1:=by
 first|rfl|simp [Around.under,Code.cUnits,Code.frames,Code.isFrame]
theorem gz.make (r:gz (k+1) A) (C:h_) (us:List i_) (kw:List (Cy×i_)):gz k (A.under (.builtin "type.__call__" ⟨.ref C::us,kw⟩)):=
 ⟨r.hd,by have:=r.dp;rw [yC];omega,by have:=r.un;rw [yB];omega⟩
theorem gz.depth {k:Nat} {A:D0} (r:gz k A):A.depth<recursionLimit:=by have:=r.dp;omega
theorem gz.units {k:Nat} {A:D0} (r:gz k A):A.units+64<D8:=by have:=r.un;omega
noncomputable def zJ:TA:=fun _ H Q=>Q [] H
noncomputable def ky (ta:TE) (J:TA):TA:=fun σ H Q=>ta σ H fun x H1=>J σ H1 fun xs H2=>Q (x::xs) H2
section
variable {t:TA} 
theorem cy:PA X [] zJ:=fun _ _ _ _ H Q I h=>LH ⟨[],H,I,.nil,h⟩
theorem aM (b:PE X e te) (a:PA X es t) (Y: ~~~(j_ (e::es) X.env=(c_,Cf e X.env)::j_ es X.env)):PA X (e::es) (ky te t):=by
 intro pos pins s σ H Q I h;rw [Y];show s_ _ _ (spliced ((c_,Cf e X.env)::CZ pos (j_ es X.env))) _ _ s;refine Gh (thn (b pins s σ H _ I h) fun u J ⟨x,H1,d,U,q1⟩=>?_);exact thn (a pos pins J σ H1 _ d q1) fun us f ⟨xs,H2,c,S,q2⟩=>⟨x::xs,H2,c,.cons U S,q2⟩
def tTup (t:TA):TE:=fun σ H Q=>t σ H fun xs H1=>xs.length<=n_/\∀p,H1 p=d_->Q (.ref p) (upd H1 p (.tup xs))
def tLst (t:TA):TE:=fun σ H Q=>t σ H fun xs H1=>xs.length<=n_/\∀p,H1 p=d_->Q (.ref p) (upd H1 p (.lst xs))
theorem Ao {U} (h:PA X es t):PE X (.Tuple es U pos) (tTup t):=by
 intro pins s σ H Q I Y;refine wpAny_Tuple_spliced (thn (h pos pins s σ H _ I Y) fun us J ⟨xs,H1,S,r,z,q⟩=>⟨by rw [<- r.length];exact z,?_⟩);have a:H1 J.heap.objs.size=d_:=S.hok.fresh (m_ _);refine ⟨.ref J.heap.objs.size,upd H1 J.heap.objs.size (.tup xs),S.laid (t':=J.toks) (fun b u e=>g_ _ e) (m_ _) ?_,rfl,q _ a⟩
 exact ⟨z,us,r,⟨_,k_ _ rfl,rfl,_,rfl⟩⟩
theorem pe_lst (h:PA X es t):PE X (.List es pos) (tLst t):=by
 intro pins s σ H Q I U;refine wpAny_List_spliced (thn (h pos pins s σ H _ I U) fun us J ⟨xs,H1,S,r,z,q⟩=>⟨by rw [<- r.length];exact z,?_⟩);have Y:H1 J.heap.objs.size=d_:=S.hok.fresh (m_ _);refine ⟨.ref J.heap.objs.size,upd H1 J.heap.objs.size (.lst xs),S.laid (t':=J.toks) (fun b u e=>g_ _ e) (m_ _) ?_,rfl,q _ Y⟩
 exact ⟨z,us,0,r,k_ _ rfl⟩
end
abbrev Sp:=List V->Hp->VK->XK->Prop
variable {sp:Sp}
abbrev CXT:=List J8->Hp->t_->XK->Vp
variable {CX:CXT}
structure Env0 (P:Cn) (w:Dv) (K:Fg) (mg:Mq) (base:CQ) (A:D0) (outer:List J8) (s:t_) (H:Hp):Prop where
 frames:A.frames=a_ outer
 mod:Mod K mg base
 bs:∀b o,base.get? b=a_ o->s.heap.get? b=a_ o/\H b=d_
 bsz:base.objs.size<=s.heap.objs.size
 tf:s.heap.FunFrames base outer
 frf:∀b∈frs outer,H b=d_
 hok:HOk P w H s.heap
 bare:Hx s.gens
def CE (outer:List J8) (P:Cn) (w:Dv) (H:Hp) (s:t_) (Q:VK) (u:i_) (s':t_):Prop:=
 ∃v H',s'.os=s.os/\Hx s'.gens/\Un (frs outer) [] H H' s.heap s'.heap/\HOk P w H' s'.heap/\RelV v u/\Q v H'
def CR (CX:CXT) (outer:List J8) (P:Cn) (w:Dv) (H:Hp) (s:t_) (Q:VK) (E:XK) (r:Jv) (s':t_):Prop:=
 match r with
 |.ok (.ret u)=>CE outer P w H s Q u s'
 |.ok _=>False
 |.error e=>CX outer H s E e s'
structure iN (P:Cn) (w:Dv) (K:Fg) (mg:Mq) (base:CQ) (CX:CXT) (k:Nat) (f:h_) (fd:EZ) (ps:List Cy) (sp:Sp):Prop where
 len:∀vs H Q E,sp vs H Q E->vs.length=ps.length
 run:∀(A:D0) (outer:List J8) (s:t_) (H:Hp) (args:Args) (us:List i_) (vs:List V) (Q:VK) (E:XK),gz k A->Env0 P w K mg base A outer s H->Io s fd args (ps.zip us)->Vals vs us->sp vs H Q E ->
  FG (w_ P w) A (.call (.ref f) args) (CR CX outer P w H s Q E) s
theorem Env0.make {P:Cn} {base:CQ} (e:Env0 P w K mg base A outer s H) (C:h_) (us:List i_) (kw:List (Cy×i_)) :
  Env0 P w K mg base (A.under (.builtin "type.__call__" ⟨.ref C::us,kw⟩)) outer s H:=⟨by first|exact e.frames|(simpa [Around.under,Code.envs,Code.isFrame,pushEnvs] using e.frames),e.mod,e.bs,e.bsz,e.tf,e.frf,e.hok,e.bare⟩
section
theorem Inv.env0 (I:Inv X pins σ H s):Env0 X.prog X.w X.K X.mg X.base X.A X.stack s H:=
 ⟨I.ok.frames,I.ok.mod,I.bs,C9 I.ok.bsz I.sz,I.stack,I.zN,I.hok,I.bare⟩
theorem Inv.after {Q:VK} (I:Inv X pins σ H s) (h:CE X.stack X.prog X.w H s Q u s'):EP X pins σ Q u s':=by
 obtain ⟨v,H',os,J,Y,U,r,q⟩:=h;obtain ⟨a,g,d,t,S⟩:=s';obtain rfl:S=s.os:=os;exact ⟨v,H',I.call (h':=a) (g':=g) (d':=d) (t':=t) (ch:=[]) Y U J (fun b z=>Cj z (by simp)),r,q⟩
end
def tCall (sp:Sp) (dvs:List V) (E:XK) (t:TA):TE:=fun σ H Q=>t σ H fun vs H1=>sp (vs++dvs) H1 Q E
def tMeth (C:h_) (m:Cy) (sp:Sp) (dvs:List V) (E:XK) (ta:TE) (t:TA):TE:=fun σ H Q=>ta σ H fun x H1=>∃a dx fs,x=.ref a/\H1 a=a_ (.ins C dx fs)/\fs.lookup m=d_ /\
 t σ H1 fun vs H2=>sp (x::(vs++dvs)) H2 Q E
def tMake (C:h_) (sp:Sp) (dvs:List V) (E:XK) (t:TA):TE:=fun σ H Q=>t σ H fun vs H1=>∀x dx,H1 x=d_->H1 dx=d_->dx≠x ->
 sp (.ref x::(vs++dvs)) (upd (upd H1 dx (.own x)) x (.ins C dx [])) (fun v H2=>v=.non/\Q (.ref x) H2) E
def Binds (K:Fg) (fd:EZ) (ps:List Cy) (ds:List i_):Prop:=
 ∀(s:t_) (us:List i_),K.In s.heap->(us++ds).length=ps.length->Io s fd ⟨us,[]⟩ (ps.zip (us++ds))
theorem Binds.all (h:∀us:List i_,us.length=ps.length->IQ fd ⟨us,[]⟩=DC (ps.zip us)):Binds K fd ps []:=fun s us _ J=>by
 rw [Ed] at J ⊢;exact .of_eq (h us J)
def Passes (CX:CXT) (X:Cx) (E:XK):Prop:=∀(pins:Pn) (σ:St) (H:Hp) (s:t_) (e:i_) (s':t_),Inv X pins σ H s->CX X.stack H s E e s'->X.xe e s'
section
variable {f:h_} {dvs:List V} {ds:List i_} {E:XK} {o:Dr} {t:TA}
theorem zW {Q:VK} (F:iN X.prog X.w X.K X.mg X.base CX k f fd ps sp) (Y:gz k X.A) (b:Binds X.K fd ps ds) (hd:Vals dvs ds) (U:Passes CX X E)
  (I:Inv X pins σ H s) (r:Vals vs us) (h:sp (vs++dvs) H Q E):s_ (w_ X.prog X.w) X.A (Gg (.ref f) us) (EP X pins σ Q) X.xe s:=by
 have S:Vals (vs++dvs) (us++ds):=r.append hd;have a:(us++ds).length=ps.length:=by rw [<- S.length];exact F.len _ _ _ _ h
 refine Ih (Er (F.run X.A X.stack s H ⟨us,[]⟩ (us++ds) (vs++dvs) Q E Y I.env0 (b s us I.kIn a) S h) fun r s' J=>?_);cases r with
 |error e=>exact U pins σ H s e s' I J
 |ok fl=>
  cases fl with
  |ret u=>exact I.after J
  |next=>exact DV J
  |brk=>exact DV J
  |cont=>exact DV J
theorem Ar (F:iN X.prog X.w X.K X.mg X.base CX k f fd ps sp) (a:gz k X.A) (d:Gl X x) (b:X.mg x=a_ (.ref f)) (c:FH X.K (.ref f)=f_) (i:Binds X.K fd ps ds) (hd:Vals dvs ds) (Y:Passes CX X E)
  (j:PA X (e::es) t) (S:((x==("__debug__":Cy))=c_)⁻¹) (g: ~~~(j_ (e::es) X.env=(c_,Cf e X.env)::j_ es X.env)) (J: ~~~((CZ pos (j_ es X.env)).any (·.1)=c_)) :
  PE X (.Call (.Name x p) (e::es) [] pos) (tCall sp dvs E t):=by
 intro pins s σ H Q I h;refine Em (iu I d b ?_ S);refine Ju (h₀:=X.base) I.ok.mod.kin c (thn (j pos pins s σ H _ I h) fun us l ⟨vs,H1,U,r,q⟩=>⟨U.kIn,?_⟩) g J;exact zW F a i hd Y U r q
theorem pe_meth (v:PE X o ta) (c:Cls X.K C) (Y:Meth X.K C m f) (F:iN X.prog X.w X.K X.mg X.base CX k f fd ps sp) (p:gz k X.A) (w:Binds X.K fd ps ds) (hd:Vals dvs ds) (j:Passes CX X E) (y:PA X (e::es) t)
  (J: ~~~(j_ (e::es) X.env=(c_,Cf e X.env)::j_ es X.env)) (S: ~~~((CZ pos (j_ es X.env)).any (·.1)=c_))
  (n: ~~~(Cf (.Call (.Attribute o m apos) (e::es) [] pos) X.env=(do
   let U <- Cf o X.env
   Ii apos.atName
   let (f,first) <- Gf [U] (IZ U m pl)
   KN pos f first (CZ pos (j_ (e::es) X.env)) (Gk pos (ES [] X.env))))) :
  PE X (.Call (.Attribute o m apos) (e::es) [] pos) (tMeth C m sp dvs E ta t):=by
 intro pins s σ H Q I h;refine Hn (pl:=pl) (thn (v pins s σ H _ I h) fun u g ⟨x,H1,d,i,a,dx,fs,ex,ea,l,q⟩=>?_) n;subst ex;obtain rfl:u=x_ a:=i;refine kL d ea c Y l ?_;refine Ju (first:=[.ref a]) (h₀:=X.base) I.ok.mod.kin Y.kp (thn (y pos pins g σ H1 _ d q) fun us z ⟨vs,H2,b,r,q2⟩=>⟨b.kIn,?_⟩) J S;exact zW (us:=.ref a::us) (vs:=.ref a::vs) F p w hd j b (.cons rfl r) q2
theorem pe_meth0 (g:PE X o ta) (c:Cls X.K C) (U:Meth X.K C m f) (F:iN X.prog X.w X.K X.mg X.base CX k f fd ps sp) (e:gz k X.A) (i:Binds X.K fd ps ds) (hd:Vals dvs ds) (b:Passes CX X E)
  (d: ~~~(Cf (.Call (.Attribute o m apos) [] [] pos) X.env=(do
   let S <- Cf o X.env
   Ii apos.atName
   let (f,first) <- Gf [S] (IZ S m pl)
   KN pos f first (CZ pos (j_ [] X.env)) (Gk pos (ES [] X.env))))) :
  PE X (.Call (.Attribute o m apos) [] [] pos) (tMeth C m sp dvs E ta zJ):=by
 intro pins s σ H Q I h;refine Hn (pl:=pl) (thn (g pins s σ H _ I h) fun u j ⟨x,H1,J,Y,a,dx,fs,ex,ea,l,q⟩=>?_) d;subst ex;obtain rfl:u=x_ a:=Y;refine kL J ea c U l ?_;exact PySem.W.callWith_K0 (first:=[.ref a]) J.kIn U.kp (zW (us:=[.ref a]) (vs:=[.ref a]) F e i hd b J (.cons rfl .nil) q)
structure Mk (K:Fg) (C f:h_):Prop where
 makes:Gq K C=f_
 init:Cm K (.ref C) "__init__"=a_ (a_ (.ref f))
 fn:GD K (.ref f)=f_
 kp:FH K (.ref C)=f_
theorem run_make {Q:VK} (M:Mk X.K C f) (F:iN X.prog X.w X.K X.mg X.base CX k f fd ps sp) (d:gz (k+1) X.A) (i:Binds X.K fd ps ds) (hd:Vals dvs ds)
  (c:Passes CX X E) (I:Inv X pins σ H s) (r:Vals vs us)
  (h:∀x dx,H x=d_->H dx=d_->dx≠x->sp (.ref x::(vs++dvs)) (upd (upd H dx (.own x)) x (.ins C dx [])) (fun v H2=>v=.non/\Q (.ref x) H2) E) :
  s_ (w_ X.prog X.w) X.A (Gg (.ref C) us) (EP X pins σ Q) X.xe s:=by
 have Y:=h (s.heap.objs.size+1) s.heap.objs.size (I.hok.fresh (Ee _)) (I.hok.fresh (m_ _)) (Cd (DD _));have S:=Inv.made (C:=C) I;have U:Vals (V.ref (s.heap.objs.size+1)::(vs++dvs)) (x_ (s.heap.objs.size+1)::(us++ds)):=.cons rfl (r.append hd);have g:(x_ (s.heap.objs.size+1)::us++ds).length=ps.length:=by
  have e:=U.length;rw [F.len _ _ _ _ Y] at e;exact e.symm
 refine Ih (make_map (f:=f) I.kIn M.makes M.init (EI.mp M.fn) (Er (F.run _ X.stack _ _ ⟨x_ (s.heap.objs.size+1)::us,[]⟩ (x_ (s.heap.objs.size+1)::(us++ds)) _ _ E (d.make C us [])
  (S.env0.make C us []) (i _ (x_ (s.heap.objs.size+1)::us) S.kIn g) U Y) fun r s' J=>?_))
 cases r with
 |error e=>exact c pins σ _ _ e s' S J
 |ok fl=>
  cases fl with
  |ret u=>
   obtain ⟨v,H',j,a,ev,b⟩:=S.after J;subst ev;exact ⟨a,⟨V.ref (s.heap.objs.size+1),H',j,rfl,b⟩⟩
  |next=>exact DV J
  |brk=>exact DV J
  |cont=>exact DV J
theorem pe_make (M:Mk X.K C f) (F:iN X.prog X.w X.K X.mg X.base CX k f fd ps sp) (a:gz (k+1) X.A) (c:Gl X x) (b:X.mg x=a_ (.ref C)) (g:Binds X.K fd ps ds) (hd:Vals dvs ds) (Y:Passes CX X E)
  (i:PA X (e::es) t) (S:((x==("__debug__":Cy))=c_)⁻¹) (d: ~~~(j_ (e::es) X.env=(c_,Cf e X.env)::j_ es X.env)) (J: ~~~((CZ pos (j_ es X.env)).any (·.1)=c_)) :
  PE X (.Call (.Name x p) (e::es) [] pos) (tMake C sp dvs E t):=by
 intro pins s σ H Q I h;refine Em (iu I c b ?_ S);refine Ju (h₀:=X.base) I.ok.mod.kin M.kp (thn (i pos pins s σ H _ I h) fun us j ⟨vs,H1,U,r,q⟩=>⟨U.kIn,?_⟩) d J;exact run_make M F a g hd Y U r q
end
section
variable {ks:List Cy}
structure KBinds (K:Fg) (fd:EZ) (ps ks:List Cy) (g:List i_->List i_->List i_) (gV:List V->List V->List V):Prop where
 to:∀(s:t_) (us ws:List i_),K.In s.heap->(g us ws).length=ps.length->Io s fd ⟨us,ks.zip ws⟩ (ps.zip (g us ws))
 rel:∀{vs:List V} {us:List i_} {zs:List V} {ws:List i_},Vals vs us->Vals zs ws->Vals (gV vs zs) (g us ws)
end
structure gq (N P:List Cy) (sc:JK):Prop where
 kind:sc.kind=.function
 co:sc.isCoroutine=c_
 gen:sc.isGenerator=c_
 nd:N.Nodup
 pre:N.take P.length=P
 par:∀x∈P,sc.names.lookup x=a_ .local\/sc.names.lookup x=a_ .cell
 nofree:∀y∈sc.names,y.2≠.free
theorem uc {S:Cy->Option FO} {x:Cy}:∀{J:List (Cy×i_)} {m:Mq},(∀v,(x,v)∉J)->Lx S J m x=m x
 |[],_,_=>rfl
 |(n,v)::r,m,h=>by
  unfold Lx;rw [uc fun w hw=>h w (Cw _ hw)];split
  ·have:x≠n:=by rintro rfl;exact h v Cz
   simp [this]
  ·rfl
theorem ue {S:Cy->Option FO} {x:Cy}:∀{J:List (Cy×i_)} {m:Mq},(∀v,(x,v)∉J)->Ly S J m x=m x
 |[],_,_=>rfl
 |(n,v)::r,m,h=>by
  unfold Ly;rw [ue fun w hw=>h w (Cw _ hw)];split
  ·rfl
  ·have:x≠n:=by rintro rfl;exact h v Cz
   simp [this]
theorem ud {J:Cy->Option FO} {x:Cy} {v:i_}:∀{P:List Cy} {vs:List i_} {i:Nat} {m:Mq},P.Nodup->P[i]? =a_ x->vs[i]? =a_ v->J x=a_ .local ->
  Lx J (P.zip vs) m x=a_ v
 |[],_,_,_,_,h,_,_=>by simp at h
 |_::_,[],_,_,_,_,h,_=>by simp at h
 |p::P,w::vs,0,m,S,h1,h2,U=>by
  simp at h1 h2;subst h1;subst h2;show Lx J ((p,w)::P.zip vs) m p=_;unfold Lx;rw [uc fun v hv=>(GK.mp S).1 (Jy hv).1,p_ U];simp
 |p::P,w::vs,i+1,m,S,h1,h2,U=>by
  show Lx J ((p,w)::P.zip vs) m x=_;unfold Lx;exact ud (i:=i) (GK.mp S).2 (by simpa using h1) (by simpa using h2) U
theorem uf {J:Cy->Option FO} {x:Cy} {v:i_}:∀{P:List Cy} {vs:List i_} {i:Nat} {m:Mq},P.Nodup->P[i]? =a_ x->vs[i]? =a_ v->J x≠a_ .local ->
  Ly J (P.zip vs) m x=a_ v
 |[],_,_,_,_,h,_,_=>by simp at h
 |_::_,[],_,_,_,_,h,_=>by simp at h
 |p::P,w::vs,0,m,S,h1,h2,U=>by
  simp at h1 h2;subst h1;subst h2;show Ly J ((p,w)::P.zip vs) m p=_;unfold Ly;rw [ue fun v hv=>(GK.mp S).1 (Jy hv).1,l_ U];simp
 |p::P,w::vs,i+1,m,S,h1,h2,U=>by
  show Ly J ((p,w)::P.zip vs) m x=_;unfold Ly;exact uf (i:=i) (GK.mp S).2 (by simpa using h1) (by simpa using h2) U
noncomputable def start (N:List Cy) (vs:List V):St:=vs.map a_++Dl (N.length-vs.length) d_
noncomputable def xm (CX:CXT) (P:Cn) (w:Dv) (K:Fg) (mg:Mq) (base:CQ) (N:List Cy) (qual:Cy) (scope:JK) (f:h_) (cd:i_) (A:D0) (outer:List J8) (s:t_) (H:Hp) (E:XK):Cx where
 prog:=P
 w:=w
 K:=K
 mg:=mg
 base:=base
 A:=A.deeper (FV qual scope s.heap.objs.size f cd)
 N:=N
 s₀:=s
 H₀:=H
 env:=FV qual scope s.heap.objs.size f cd
 outer:=outer
 stack:=FV qual scope s.heap.objs.size f cd::outer
 ex:=[]
 calm:=f_
 fn:=fun _=>f_
 pn:=[]
 xe:=fun e s'=>s_ (w_ P w) (A.deeper (FV qual scope s.heap.objs.size f cd)) (Nj (FV qual scope s.heap.objs.size f cd) e) (fun _ J=>CX outer H s E e J) (fun S J=>CX outer H s E S J) s'
theorem xq {sc:JK} (h:sc.names.lookup x=a_ .cell):∃c,(D7 n sc.names []).lookup x=a_ c:=by
 have q:=Fj sc.names n [] (.inl h);exact E2.mp q
theorem B6 {P:Cn} {base:CQ} {f:h_} {cd:i_} {j:t_} {E:XK} 
  (S:gq N ps scope) (hd:A.handled=d_) (J:Env0 P w K mg base A outer s H) (C:vs.length=ps.length) (r:Vals vs us)
  (x:InCallC s s.heap.objs.size (Lx (FV qual scope s.heap.objs.size f cd).kindOf (ps.zip us) fun _=>d_) (D7 (s.heap.objs.size+1) scope.names []) (Ly (FV qual scope s.heap.objs.size f cd).kindOf (ps.zip us) fun _=>d_) j) :
  Inv (xm CX P w K mg base N qual scope f cd A outer s H E) [] (start N vs) H j:=by
 have t:ps.length<=N.length:=by have:=G1 Ia S.pre;rw [FZ] at this;omega
 obtain ⟨h1,tk,rfl,m⟩:=x.done;have U:∀b:h_,b∉(xm CX P w K mg base N qual scope f cd A outer s H E).ex:=fun b z=>Cj (show b∈([]:List h_) from z) (by simp);refine ⟨⟨J.mod,S.kind,rfl,rfl,m_ _,fun y z c h1 h2=>?_,fun y Y=>?_,fun y c _ h=>?_,fun _=>hd,Around.frames_deeper J.frames,.inr ⟨rfl,rfl⟩,fun b z=>Cj z (U b),J.bs,J.bsz,fun b _ _=>U b,fun b z=>Cj z (U b),J.tf,J.frf⟩,
  rfl,J.bare,Un.kept m,⟨_,x.toInCall.ns,fun i y v h1 h2 D=>?_⟩,fun y c h=>⟨_,x.cell y c h⟩,J.hok.fresh (m_ _),fun y c h=>?_,fun p g=>Cj (show p∈([]:Pn) from g) (by simp),J.hok.kept m,?_⟩
 ·exact name_of_addr x.apart (DK h1) (DK h2)
 ·have Y:scope.names.lookup y=a_ .cell\/scope.names.lookup y=a_ .free:=Y;rcases Y with Y|Y
  ·exact xq Y
  ·exact Cj rfl (S.nofree _ (DK Y))
 ·exact EL (x.above y c (DK h))
 ·have hi:i<vs.length:=by
   unfold start at h2;by_cases hi:i<vs.length
   ·exact hi
   ·rw [JS (by simpa using hi)] at h2;rw [Ko] at h2;split at h2<;>cases h2
  have B:vs[i]? =a_ v:=by
   unfold start at h2;rw [DJ (by simpa using hi),CC] at h2;cases e:vs[i]? with
   |none=>rw [e] at h2;cases h2
   |some a=>rw [e] at h2;cases h2;rfl
  obtain ⟨u,l,o⟩:=r.get B;have g:ps[i]? =a_ y:=by
   rw [<- S.pre,List.getElem?_take_of_lt (by omega)];exact h1
  have d:ps.Nodup:=by rw [<- S.pre];exact S.nd.sublist (L5 _ _)
  refine ⟨u,o,?_⟩
  rcases S.par y (E4 g) with k|k
  ·exact .inl ⟨k,ud d g l k⟩
  ·obtain ⟨c,e⟩:=xq (n:=s.heap.objs.size+1) k;refine .inr ⟨.inl k,c,e,?_⟩;have q:=x.cell y c e;rw [uf d g l (by show scope.names.lookup y≠_;rw [k];decide)] at q;exact q
 ·exact J.hok.fresh (EL (x.above y c (DK h)))
 ·unfold start;show _=N.length;rw [CP,v_,FE];omega
theorem fn_of {P:Cn} {base:CQ} {f:h_} {U:Arguments} {B kV doc pm cdv ct oc:i_} {an od:Option h_}
  {osl:Array (Option i_)} (F:K.lookup f=a_ ⟨oc,od,.func (Jf name qual U body scope B kV doc pm an cdv ct),osl⟩) (p:J0 K cdv qual=f_) (S:gq N ps scope)
  (d:∀vs H Q E,sp vs H Q E->vs.length=ps.length)
  (a:∀(A:D0) (outer:List J8) (s:t_) (H:Hp) (vs:List V) (Q:VK) (E:XK),gz k (A.deeper (FV qual scope s.heap.objs.size f cdv))->sp vs H Q E ->
   ∃t,PSs (xm CX P w K mg base N qual scope f cdv A outer s H E) body t/\t {nx:=fun _ H'=>Q .non H',rt:=Q} (start N vs) H) :
  iN P w K mg base CX (k+1) f (Jf name qual U body scope B kV doc pm an cdv ct) ps sp:=by
 refine ⟨d,fun A outer s H C us vs Q E m i W r g=>?_⟩
 have R:=d _ _ _ _ g;have D:K.In s.heap:=i.mod.kin.keeps fun b o e=>(i.bs b o e).1;have l:s.heap.NoLimit:=i.mod.nolimit.keeps fun b o e=>(i.bs b o e).1;have Y:∀y∈ps.zip us,scope.names.lookup y.1=a_ .local\/(scope.names.lookup y.1=a_ .cell/\((D7 (s.heap.objs.size+1) scope.names []).lookup y.1).isSome=f_):=fun ⟨n,v⟩ G=>by
  rcases S.par n (Jy G).1 with q|q
  ·exact .inl q
  ·exact .inr ⟨q,Fj _ _ _ (.inl q)⟩
 refine codeAny_call_function m.depth (D _ _ F) rfl S.co S.gen rfl (PySem.W.codeRec_of D p) (W _ _ _ _ ?_);refine wpAny_newFunctionEnv_cells S.kind Y fun env T z x=>?_;subst T;refine ⟨l.keeps x.toInCall.keep,codeAny_func ?_⟩
 obtain ⟨t,L,O⟩:=a A outer s H vs Q E (m.deeper _) g;have I:Inv (xm CX P w K mg base N qual scope f cdv A outer s H E) [] (start N vs) H z:=B6 S m.hd i R r x;refine Di (L [] z (start N vs) H _ I O) (fun fl s' c=>?_) fun e s' c=>c;have h:∀{σ':St} {H':Hp} {v:V} {u:i_},Inv (xm CX P w K mg base N qual scope f cdv A outer s H E) [] σ' H' s'->RelV v u->Q v H'->CE outer P w H s Q u s':=
  fun {σ' H' v u} J j q=>⟨v,H',J.os,J.bare,J.base,J.hok,j,q⟩
 cases fl with
 |ret u=>
  obtain ⟨v,σ',H',J,j,q⟩:=c;exact h J j q
 |next=>
  obtain ⟨σ',H',J,q⟩:=c;exact h (v:=V.non) (u:=CG) J rfl q
 |brk=>
  obtain ⟨_,_,_,q⟩:=c;exact DV q
 |cont=>
  obtain ⟨_,_,_,q⟩:=c;exact DV q
section
variable {t:TA} {id T:String} {r:List V->Hp->VK->Prop}
def tCB (r:List V->Hp->VK->Prop) (t:TA):TE:=fun σ H Q=>t σ H fun vs H1=>r vs H1 Q
theorem di (f:bS X (.builtin id) r) (c:Gl X x) (b:X.mg x=d_) (hv:D5 x=a_ (.builtin id)) (g:PA X (e::es) t) (a:(x≠"__name__")⁻¹) (S:((x==("__debug__":Cy))=c_)⁻¹)
  (d: ~~~(j_ (e::es) X.env=(c_,Cf e X.env)::j_ es X.env)) (J: ~~~((CZ pos (j_ es X.env)).any (·.1)=c_)):PE X (.Call (.Name x p) (e::es) [] pos) (tCB r t):=by
 intro pins s σ H Q I h;refine Em (fU I c b hv ?_ a S);exact HX (thn (g pos pins s σ H _ I h) fun us U ⟨vs,H1,i,Y,q1⟩=>f pins U σ H1 vs us Q i Y q1) d J
theorem jR (f:bS X (.type T) r) (c:Gl X x) (b:X.mg x=d_) (hv:D5 x=a_ (.type T)) (g:PA X (e::es) t) (a:(x≠"__name__")⁻¹) (S:((x==("__debug__":Cy))=c_)⁻¹)
  (d: ~~~(j_ (e::es) X.env=(c_,Cf e X.env)::j_ es X.env)) (J: ~~~((CZ pos (j_ es X.env)).any (·.1)=c_)):PE X (.Call (.Name x p) (e::es) [] pos) (tCB r t):=by
 intro pins s σ H Q I h;refine Em (fU I c b hv ?_ a S);exact CF (thn (g pos pins s σ H _ I h) fun us U ⟨vs,H1,i,Y,q1⟩=>f pins U σ H1 vs us Q i Y q1) d J
end
end L2
namespace HT
open PySem PyProof.Rows
section
open PySem.SeqAt
open PySem.AutoSeq1 (wpAny_loadPart')
open PySem.MeetsSeq PySem.MeetsSeq2 PySem.MeetsSeq3
end
section
variable {prog:Cn} {w:Dv} {A:D0} {E:Vp} {s:t_}
theorem cat_tup {t b:h_} {vs J:List i_} {Q:Vp} (j:NC s.heap t vs.toArray) (k:NC s.heap b J.toArray) (hv:vs≠[])
  (h1:J=[]->Q (.ref t) s) (h2:J≠[]->Q (.ref s.heap.objs.size) {s with heap:=s.heap.push {cls:=.type "tuple",data:=.seq (vs++J).toArray}})
  (hsz:vs.length+J.length<=n_):s_ (w_ prog w) A (EC .Add (.ref t) (.ref b)) Q E s:=by
 obtain ⟨⟨cls,dd,data,sl⟩,d,h,n,hd⟩:=id j;obtain ⟨⟨i,c,f,U⟩,S,a,g,Y⟩:=id k;simp only at h hd a Y;subst h hd a Y;have e:vs.toArray++J.toArray=(vs++J).toArray:=by simp
 by_cases hw:J=[]
 ·exact JF ⟨_,d,rfl⟩ ⟨_,S,rfl⟩ JX K_ Hi Hb (G4 _ _)
   (tuple_addW1 t b vs.toArray J.toArray n g dd c sl U (by simpa using hv) (by simp [hw])) ⟨d,S,h1 hw⟩
 ·refine JF ⟨_,d,rfl⟩ ⟨_,S,rfl⟩ JX K_ Hi Hb (G4 _ _)
   (tuple_addW2 t b vs.toArray J.toArray n g dd c sl U (by simpa using hv) (by simpa using hw) (by rw [z_,z_];exact hsz)) ⟨d,S,?_⟩
  rw [e];exact h2 hw
noncomputable def sIx (n d:Nat):Option Int->Nat
 |none=>d
 |some v=>if v<0 then (v+(n:Int)).toNat else min v.toNat n
theorem sIx_le (n d:Nat) (hd:d<=n) (o:Option Int):sIx n d o<=n:=by
 cases o with
 |none=>exact hd
 |some v=>
  show (if v<0 then (v+(n:Int)).toNat else min v.toNat n)<=n;by_cases hv:v<0
  ·rw [p_ hv];omega
  ·rw [l_ hv];exact Nat.min_le_right _ _
theorem BL (v:Int) (n d:Nat):(if v<0 then max (v+(n:Int)) 0 else min v (n:Int))=((sIx n d (a_ v):Nat):Int):=by
 show (if v<0 then max (v+(n:Int)) 0 else min v (n:Int))=(((if v<0 then (v+(n:Int)).toNat else min v.toNat n):Nat):Int)
 by_cases hv:v<0
 ·simp only [p_ hv];omega
 ·simp only [l_ hv];omega
theorem zo (lo hi:Option Int) (n:Nat):GG lo hi 1 (n:Int)=(((sIx n 0 lo:Nat):Int),((sIx n n hi:Nat):Int)):=by
 have h1:¬((1:Int)<0):=by omega
 unfold GG;simp only [h1,ER];refine JR ?_ ?_
 ·cases lo with
  |none=>rfl
  |some v=>exact BL v n 0
 ·cases hi with
  |none=>rfl
  |some v=>exact BL v n n
theorem yj (i j:Nat):Fx (i:Int) (j:Int) 1=j-i:=by
 unfold Fx;have h1:(1:Int)>0:=by omega
 simp only [h1,Jp,Int.ediv_one];split<;>omega
theorem ou {v:i_} {o:Option Int} {Q:Option Int->t_->Prop} (p:J5 v o) (h:Q o s):s_ (w_ prog w) A (NQ v) Q E s:=by
 cases p with
 |none=>exact slicePart_none h
 |int i t=>exact slicePart_int h
theorem lA {sl:h_} {Y U:i_} {lo hi:Option Int} {n:Nat} {Q:Int×Int×Nat->t_->Prop} (b:s.heap.IsSliceOf sl Y U .none) (pl:J5 Y lo) (a:J5 U hi)
  (h:Q (((sIx n 0 lo:Nat):Int),1,sIx n n hi-sIx n 0 lo) s):s_ (w_ prog w) A (IF (.ref sl) (DC (n:Int))) Q E s:=by
 obtain ⟨os,J,c,S⟩:=id b;unfold IF NR;refine b_ (b_ (EB J S (x:=Y) rfl (b_ (EB J S (x:=U) rfl (b_ (EB J S (x:=.none) rfl (e_ ?_)))))));refine b_ (slicePart_none ?_);show s_ _ _ (if ((1:Int)==0)=f_ then _ else _) _ _ s;rw [l_ (by decide)];refine b_ (ou pl (b_ (ou a (b_ (e_ ?_)))));show s_ _ _ (match GG lo hi 1 (n:Int) with|(lo,hi)=>DC (lo,(1:Int),Fx lo hi 1)) _ _ s;rw [zo lo hi n];show s_ _ _ (DC (((sIx n 0 lo:Nat):Int),(1:Int),Fx ((sIx n 0 lo:Nat):Int) ((sIx n n hi:Nat):Int) 1)) _ _ s;rw [yj];exact e_ h
theorem pick_gen (xs:Array i_) (i k:Nat):((Cc k).filterMap fun (m:Nat)=>xs[((i:Int)+(m:Int)*1).toNat]?).toArray=((xs.toList.drop i).take k).toArray:=by
 have e:(fun (m:Nat)=>xs[((i:Int)+(m:Int)*1).toNat]?)=fun m=>xs[i+m]?:=by
  funext m
  have:((i:Int)+(m:Int)*1).toNat=i+m:=by omega
  rw [this]
 rw [e];have:=pick_run xs i k;rw [List.filterMap_map] at this;have e2:((fun x=>xs[x]?)∘fun x=>i+x)=fun m=>xs[i+m]?:=rfl;rw [e2] at this;rw [this]
theorem kM {t sl:h_} {items:Array i_} {c b:i_} {lo hi:Option Int} {Q:Vp} (J:NC s.heap t items) (d:s.heap.IsSliceOf sl c b .none) (pl:J5 c lo) (e:J5 b hi)
  (hw:¬(sIx items.size 0 lo=0/\sIx items.size items.size hi=items.size))
  (h:Q (.ref s.heap.objs.size) {s with heap:=s.heap.push {cls:=.type "tuple",data:=.seq ((items.toList.drop (sIx items.size 0 lo)).take (sIx items.size items.size hi-sIx items.size 0 lo)).toArray}})
  (hsz:items.size<=n_):s_ (w_ prog w) A (LU (.ref t) (.ref sl)) Q E s:=by
 have htake:sizeOk (.seq ((items.toList.drop (sIx items.size 0 lo)).take (sIx items.size items.size hi-sIx items.size 0 lo)).toArray):=by
  show ((items.toList.drop (sIx items.size 0 lo)).take (sIx items.size items.size hi-sIx items.size 0 lo)).toArray.size<=n_;rw [z_,FZ,Hl,Ct];omega
 have g:sIx items.size items.size hi<=items.size:=sIx_le _ _ (m_ _) hi;obtain ⟨os,S,Y,f⟩:=id d;have a:s.TypeIs (.ref sl) "slice":=⟨os,S,Y⟩
 unfold LU
 try with_reducible refine Dj ?_
 first|refine b_ (e_ ?_)|skip
 refine b_ (wpAny_sequenceKey J.typeIs (by decide) ?_);refine b_ (CY (name:=El "__getitem__") J.typeIs Fm
  (CD Fm J.typeIs entry_tuple_getitem ?_ (args_tuple_getitem _ _)))
 show s_ _ _ (IE (.ref t) >>= _) _ _ s;refine b_ (tupleItemsOf_ J ?_);refine b_ (G9 a ?_);rw [p_ (by decide)];refine b_ (lA d pl e ?_);have U:¬((((sIx items.size 0 lo:Nat):Int)==0&&(1:Int)==1&&(sIx items.size items.size hi-sIx items.size 0 lo)==items.size)=f_):=by
  intro q;rw [u_,u_] at q;have q1:((sIx items.size 0 lo:Nat):Int)=0:=EG q.1.1;have q2:sIx items.size items.size hi-sIx items.size 0 lo=items.size:=EG q.2;exact hw ⟨by omega,by omega⟩
 show s_ _ _ (if (((sIx items.size 0 lo:Nat):Int)==0&&(1:Int)==1&&(sIx items.size items.size hi-sIx items.size 0 lo)==items.size)=f_ then _ else _) _ _ s;rw [l_ U,pick_gen]
 first
  |exact b_ (m:=GH _) (Ck (e_ ⟨_,rfl,e_ h⟩) htake)
  |exact wpAny_bind (m:=Builtin.Tuple.tupleExact _) (wpAny_newObj_type (wpAny_bind (wpAny_pure (wpAny_pure ⟨_,rfl,wpAny_pure h⟩))) htake)
  |exact wpAny_bind (wpAny_bind (m:=Builtin.Tuple.tupleExact _) (wpAny_newObj_type (wpAny_pure (wpAny_pure ⟨_,rfl,wpAny_pure h⟩)) htake))
  |exact wpAny_bind (wpAny_bind (m:=Builtin.Tuple.tupleExact _) (wpAny_newObj_type (wpAny_pure ⟨_,rfl,wpAny_pure h⟩) htake))
end
end HT
namespace L2
open PySem PySem.Spec PyProof.Rows
variable {X:Cx} {e:Dr} {pos:Nu} {r:V->Option Int->Option Int->Hp->VK->Prop} {xs ys:List V} {α:Type} {n:Nat} {i:Int} {pins:Pn} {σ:St} {H:Hp} {s:t_} {its its':List i_} {T:String}
abbrev TO:=St->Hp->(Option Int->Hp->Prop)->Prop
def PO (X:Cx) (e:Option Dr) (t:TO):Prop:=
 ∀(pins:Pn) (s:t_) (σ:St) (H:Hp) (Q:Option Int->Hp->Prop),Inv X pins σ H s->t σ H Q ->
  s_ (w_ X.prog X.w) X.A (evalPart e X.env) (fun u s'=>∃o H',Inv X pins σ H' s'/\J5 u o/\Q o H') X.xe s
noncomputable def tNoPart:TO:=fun _ H Q=>Q d_ H
def tPart (t:TE):TO:=fun σ H Q=>t σ H fun x H1=>∃i,x=.int i/\Q (a_ i) H1
theorem intsAre_of {ns:List Int}:∀{us:List i_},Vals (ns.map V.int) us->E6 us ns:=by
 induction ns with
 |nil=>intro us r;rw [Fs] at r;cases r;exact .nil
 |cons n ns U=>
  intro us r;rw [A_] at r;cases r with
  |cons S J=>
   obtain ⟨t,e⟩:=S;subst e;exact .cons n t (U J)
section
variable {te:TE} {lo hi:Option Dr} {tl th:TO} {p2:Nu}
theorem po_none:PO X d_ tNoPart:=by
 intro pins s σ H Q I h;rw [evalPart_none];exact e_ ⟨d_,H,I,.none,h⟩
theorem po_some (h:PE X e te):PO X (a_ e) (tPart te):=by
 intro pins s σ H Q I hw;rw [evalPart_some];refine thn (h pins s σ H _ I hw) fun u U ⟨x,H1,S,J,q1⟩=>?_;obtain ⟨i,rfl,q⟩:=q1;obtain ⟨t,rfl⟩:=J;exact ⟨a_ i,H1,S,.int i t,q⟩
def SlR (X:Cx) (r:V->Option Int->Option Int->Hp->VK->Prop):Prop:=
 ∀(pins:Pn) (s:t_) (σ:St) (H:Hp) (x:V) (v S J:i_) (lo hi:Option Int) (sl:h_) (Q:VK),Inv X pins σ H s->RelV x v->s.heap.IsSliceOf sl S J .none->J5 S lo->J5 J hi->r x lo hi H Q ->
  ∃T id,MW (.type T) "__getitem__"=DC (a_ (.builtin id))/\s.TypeIs v T/\s_ (w_ X.prog X.w) X.A (LU v (.ref sl)) (EP X pins σ Q) X.xe s
theorem SlR.or {r':V->Option Int->Option Int->Hp->VK->Prop} (h:SlR X r) (h':SlR X r'):SlR X (fun x lo hi H Q=>r x lo hi H Q\/r' x lo hi H Q):=by
 intro pins s σ H x v S J lo hi sl Q I U a pl Y q;rcases q with q|q
 ·exact h pins s σ H x v S J lo hi sl Q I U a pl Y q
 ·exact h' pins s σ H x v S J lo hi sl Q I U a pl Y q
noncomputable def tSl (r:V->Option Int->Option Int->Hp->VK->Prop) (te:TE) (tl th:TO):TE:=fun σ H Q=>te σ H fun x H1=>tl σ H1 fun l H2=>th σ H2 fun u J=>r x l u J Q
theorem pe_slice (k:SlR X r) (o:PE X e te) (m:PO X lo tl) (i:PO X hi th):PE X (.Subscript e (.Slice lo hi d_ p2) pos) (tSl r te tl th):=by
 intro pins s σ H Q I h;refine Subscript_ (thn (o pins s σ H _ I h) fun v c ⟨x,H1,z,d,q1⟩=>?_);refine wpAny_Slice (thn (m pins c σ H1 _ z q1) fun U a ⟨l,H2,y,pl,q2⟩=>thn (i pins a σ H2 _ y q2) fun S J ⟨u,Y,w,g,f⟩=>?_);rw [evalPart_none];refine e_ ?_;have t:Inv X pins σ Y {J with heap:=J.heap.push {cls:=.type "slice",data:=.fields #[U,S,.none]}}:=w.kept (t':=J.toks) fun b A q=>g_ _ q;obtain ⟨T,id,p,j,n⟩:=k pins {J with heap:=J.heap.push {cls:=.type "slice",data:=.fields #[U,S,.none]}} σ Y x v U S l u J.heap.objs.size Q t d (Nw ..) pl g f;show s_ (w_ X.prog X.w) X.A (subscriptTail e (.Slice lo hi d_ p2) v (.ref J.heap.objs.size)) (EP X pins σ Q) X.xe {J with heap:=J.heap.push {cls:=.type "slice",data:=.fields #[U,S,.none]}};exact tail_any (ops:=[.ref J.heap.objs.size,v]) j p n (by with_unfolding_all rfl)
def cutV (xs:List V) (lo hi:Option Int):List V:=(xs.drop (HT.sIx xs.length 0 lo)).take (HT.sIx xs.length xs.length hi-HT.sIx xs.length 0 lo)
theorem nr (xs:List V) (lo hi:Option Int):(cutV xs lo hi).length<=xs.length:=by
 unfold cutV;rw [FZ,Hl];omega
def rSlT (K:Fg):V->Option Int->Option Int->Hp->VK->Prop:=fun x lo hi H Q=>∃a xs,x=.ref a/\SqT K H a xs /\
 ¬(HT.sIx xs.length 0 lo=0/\HT.sIx xs.length xs.length hi=xs.length)/\∀p,H p=d_->Q (.ref p) (upd H p (.tup (cutV xs lo hi)))
theorem sl_tup:SlR X (rSlT X.K):=by
 intro pins s σ H x v g f lo hi sl Q I Y e pl c h;obtain ⟨a,xs,rfl,d,hw,q⟩:=h;cases Y;obtain ⟨its,r,U,S⟩:=I.tuple d;have J:its.toArray.size=xs.length:=by rw [z_];exact r.length.symm
 refine ⟨"tuple",_,Fm.lookup,U.typeIs,?_⟩
 refine HT.kM U e pl c (by rw [J];exact hw) ?_ (by rw [J];exact S);rw [J];refine ⟨.ref s.heap.objs.size,_,I.laid (t':=s.toks) (o:=.tup (cutV xs lo hi)) (fun b i q=>g_ _ q) (m_ _) ?_,rfl,q _ (I.hok.fresh (m_ _))⟩
 exact ⟨C9 (nr xs lo hi) S,_,(r.drop (HT.sIx xs.length 0 lo)).take (HT.sIx xs.length xs.length hi-HT.sIx xs.length 0 lo),L1 _ _⟩
def rCatT (K:Fg):R2:=fun x y H Q=>∃a b xs ys,x=.ref a/\y=.ref b/\SqT K H a xs/\SqT K H b ys/\xs≠[]/\xs.length+ys.length<=n_ /\
 (ys=[]->Q (.ref a) H)/\(ys≠[]->∀p,H p=d_->Q (.ref p) (upd H p (.tup (xs++ys))))
theorem Vals.vg {us:List i_} (r:Vals xs us):us=[]↔xs=[]:=by
 cases r with
 |nil=>simp
 |cons _ _=>simp
theorem op_catT:OpR X (EC .Add) (rCatT X.K):=by
 intro pins s σ H x y v u Q I d c h;obtain ⟨a,b,xs,ys,rfl,rfl,g,f,e,Y,q1,q2⟩:=h;cases d;cases c;obtain ⟨its,S,p1,_⟩:=I.tuple g;obtain ⟨U,J,p2,_⟩:=I.tuple f;refine HT.cat_tup p1 p2 (fun z=>e (S.vg.mp z)) (fun z=>⟨.ref a,H,I,rfl,q1 (J.vg.mp z)⟩) (fun z=>?_) (by rw [<- S.length,<- J.length];exact Y);refine ⟨.ref s.heap.objs.size,_,I.laid (t':=s.toks) (o:=.tup (xs++ys)) (fun b i q=>g_ _ q) (m_ _) ?_,rfl,q2 (fun w=>z (J.vg.mpr w)) _ (I.hok.fresh (m_ _))⟩
 exact ⟨by rw [CP];exact Y,_,S.append J,L1 _ _⟩
end
noncomputable def ixN (n:Nat) (i:Int):Option Nat:=if 0<=i then (if i<n then a_ i.toNat else d_) else if -(n:Int)<=i then a_ (i+n).toNat else d_
def atI (xs:List α) (i:Int):Option α:=(ixN xs.length i).bind fun j=>xs[j]?
theorem vk {j:Nat} (h:ixN n i=a_ j):seqIndex? i n=a_ j/\j<n/\ -(n:Int)<=i/\i<n:=by
 unfold ixN at h;by_cases J:0<=i
 ·rw [p_ J] at h;by_cases h1:i<n
  ·rw [p_ h1] at h;have e:i.toNat=j:=Cu h;exact ⟨by rw [Mo J h1,e],by omega,by omega,h1⟩
  ·rw [l_ h1] at h;cases h
 ·rw [l_ J] at h;by_cases h1: -(n:Int)<=i
  ·rw [p_ h1] at h;have e:(i+n).toNat=j:=Cu h;exact ⟨by rw [LQ (by omega) h1,e],by omega,h1,by omega⟩
  ·rw [l_ h1] at h;cases h
theorem vV {xs:List α} {v:α} (h:atI xs i=a_ v):∃j,seqIndex? i xs.length=a_ j/\xs[j]? =a_ v/\j<xs.length/\ -(xs.length:Int)<=i/\i<xs.length:=by
 unfold atI at h;cases e:ixN xs.length i with
 |none=>rw [e] at h;cases h
 |some j=>
  rw [e] at h;obtain ⟨h1,h2,S,J⟩:=vk e;exact ⟨j,h1,h,h2,S,J⟩
def vZ (b:Dr):Prop:=∀o i,subscripted b c_ o i=operate [o,i] (LU o i)
def IxR (X:Cx) (r:R2):Prop:=
 ∀(value J:Dr) (pins:Pn) (s:t_) (σ:St) (H:Hp) (x y:V) (v u:i_) (Q:VK),Inv X pins σ H s->RelV x v->RelV y u->r x y H Q ->
  subscripted J c_ v u=operate [v,u] (LU v u)->s_ (w_ X.prog X.w) X.A (subscriptTail value J v u) (EP X pins σ Q) X.xe s
def MtR (X:Cx) (id:String) (r:V->List V->Hp->VK->Prop):Prop:=
 ∀(pins:Pn) (s:t_) (σ:St) (H:Hp) (x:V) (xs:List V) (v:i_) (us:List i_) (Q:VK),Inv X pins σ H s->RelV x v->Vals xs us->r x xs H Q ->
  s_ (w_ X.prog X.w) X.A (Gg (.builtin id) (v::us)) (EP X pins σ Q) X.xe s
section
variable {a b:Dr} {ta tb:TE} 
theorem IxR.or {r r':R2} (h:IxR X r) (h':IxR X r'):IxR X (fun x y H Q=>r x y H Q\/r' x y H Q):=by
 intro value J pins s σ H x y v u Q I U S q Y;rcases q with q|q
 ·exact h value J pins s σ H x y v u Q I U S q Y
 ·exact h' value J pins s σ H x y v u Q I U S q Y
theorem pe_ix {r:R2} (c:IxR X r) (e:PE X a ta) (d:PE X b tb) (Y:vZ b):PE X (.Subscript a b pos) (tOp r ta tb):=by
 intro pins s σ H Q I h;exact Subscript_ (binT e d I h fun v u J x y H2 f U S q=>c a b pins J σ H2 x y v u Q f U S q (Y _ _))
def rIxL (K:Fg):R2:=fun x y H Q=>∃p xs i v,x=.ref p/\y=.int i/\SqL K H p xs/\atI xs i=a_ v/\Q v H
def rIxT (K:Fg):R2:=fun x y H Q=>∃p xs i v,x=.ref p/\y=.int i/\SqT K H p xs/\atI xs i=a_ v/\Q v H
def rIxS:R2:=fun x y H Q=>∃z i c,x=.str z/\y=.int i/\z.length<=n_/\atI z.cps.toList i=a_ c/\Q (.str ⟨#[c]⟩) H
theorem ix_list:IxR X (rIxL X.K):=by
 intro value S pins s σ H x y v u Q I e d h a;obtain ⟨p,xs,i,z,rfl,rfl,f,k,q⟩:=h;cases e;obtain ⟨t,rfl⟩:=d;obtain ⟨its,r,pl,n⟩:=I.list f;obtain ⟨j,h1,h2,A,m,l⟩:=vV k;obtain ⟨w,c,U⟩:=r.get h2;have g:=r.length;have o:=oJ;have J:EP X pins σ Q w s:=⟨z,H,I,U,q⟩
 by_cases b:0<=i
 ·have Y:i.toNat=j:=by
   rw [Mo b l] at h1;exact Cu h1
  exact item_listR pl.isList b (by omega) (by rw [Y];simpa using c) J a
 ·have Y:(i+(its.toArray.size:Int)).toNat=j:=by
   rw [LQ (by omega) m] at h1;rw [z_,<- g];exact Cu h1
  exact LX (x:=w) pl.isList.typeIs Ng.lookup
   (wpAny_getItem_list_neg (Q:=fun r s'=>r=w/\EP X pins σ Q r s') pl.isList (by omega) (by rw [z_]<;>omega) (by omega) (by rw [Y];simpa using c) ⟨rfl,J⟩) a
theorem ix_tup:IxR X (rIxT X.K):=by
 intro value J pins s σ H x y v u Q I a Y h b;obtain ⟨p,xs,i,z,rfl,rfl,c,e,q⟩:=h;cases a;obtain ⟨t,rfl⟩:=Y;obtain ⟨its,r,pl,g⟩:=I.tuple c;obtain ⟨j,h1,h2,n,m,l⟩:=vV e;obtain ⟨w,f,S⟩:=r.get h2;have d:=r.length;have k:=oJ;have U:EP X pins σ Q w s:=⟨z,H,I,S,q⟩
 exact LX (x:=w) pl.typeIs Fm.lookup
  (getItem_tuple (j:=j) (Q:=fun r s'=>r=w/\EP X pins σ Q r s') pl (by omega) (by omega) (by rw [z_,<- d];exact h1) (by simpa using f) ⟨rfl,U⟩) b
theorem ix_str:IxR X rIxS:=by
 intro value J pins s σ H x y v u Q I U S h Y;obtain ⟨z,i,c,rfl,rfl,f,b,q⟩:=h;obtain ⟨t,rfl⟩:=U;obtain ⟨t',rfl⟩:=S;obtain ⟨j,h1,h2,k,e,d⟩:=vV b;have a:z.cps.toList.length=z.length:=by simp [Str.length]
 rw [a] at h1 e d;have g:=oJ;exact tail_any (typeIs_str s z t) slot_str_getitem.lookup (getItem_str (c:=c) (by
  have e1:Ca (i< -(2^63:Int))=c_:=DU (by omega);have e2:Ca (i>=2^63)=c_:=DU (by omega);rw [e1,e2,M9]) (by rw [h1];simpa using h2) ⟨.str ⟨#[c]⟩,H,I.tok _,⟨_,rfl⟩,q⟩) Y
def rIx (K:Fg):R2:=fun x y H Q=>rIxL K x y H Q\/rIxT K x y H Q\/rIxS x y H Q
theorem ix_seq:IxR X (rIx X.K):=ix_list.or (ix_tup.or ix_str)
theorem yA (its:List i_) (n j:Nat) (u:i_):C8 (·.setIfInBounds j u) {cls:=.type "list",data:=.seq its.toArray n}={cls:=.type "list",data:=.seq (its.set j u).toArray n}:=by
 simp [C8]
theorem Inv.lst {pins:Pn} {σ:St} {H:Hp} {s:t_} {p:h_} {xs:List V} (I:Inv X pins σ H s) (h:H p=a_ (.lst xs)) :
  ∃(its:List i_) (n:Nat),Vals xs its/\s.heap.get? p=a_ {cls:=.type "list",data:=.seq its.toArray n}/\xs.length<=n_:=by
 obtain ⟨z,its,n,r,e⟩:=I.hok p _ h;exact ⟨its,n,r,e,z⟩
theorem Inv.lstUpd {p:h_} {J:Nat} {f:GX->GX} (I:Inv X pins σ H s) (h:H p=a_ (.lst xs))
  (Y:s.heap.get? p=a_ {cls:=.type "list",data:=.seq its.toArray n}) (S:f {cls:=.type "list",data:=.seq its.toArray n}={cls:=.type "list",data:=.seq its'.toArray J}) (r:Vals ys its') (U:ys.length<=n_) (t:Nat) :
  Inv X pins σ (upd H p (.lst ys)) {s with heap:=s.heap.update p f,toks:=t}:=by
 have e:(s.heap.update p f).get? p=a_ {cls:=.type "list",data:=.seq its'.toArray J}:=by
  rw [CJ f Y (by rw [S]<;>rfl),S]
 refine I.write (x:=p) (e:=p) (by rw [h];trivial) (.inl rfl) (fun b u a q=>(Ce _ _ (CV a)).trans q) ⟨_,e⟩ ?_;exact ⟨U,its',J,r,e⟩
def rSetL:V->V->V->Hp->(Hp->Prop)->Prop:=fun o i v H Q=>∃p xs k j,o=.ref p/\i=.int k/\H p=a_ (.lst xs)/\ixN xs.length k=a_ j/\Q (upd H p (.lst (xs.set j v)))
theorem set_list:PSet X rSetL:=by
 intro pins s σ H o i v m w u Q I ro f e h;obtain ⟨p,xs,k,j,rfl,rfl,Y,l,q⟩:=h;cases ro;obtain ⟨t,rfl⟩:=f;obtain ⟨its,n,r,J,g⟩:=I.lst Y;obtain ⟨h1,h2,b,a⟩:=vk l;have S:=r.length;have x:=oJ;have d:Inv X pins σ (upd H p (.lst (xs.set j v))) {s with heap:=s.heap.update p (C8 (·.setIfInBounds j u))}:=
  I.lstUpd Y J (yA its n j u) (r.set e j) (by rw [CB];exact g) s.toks
 by_cases c:0<=k
 ·have U:k.toNat=j:=by
   rw [Mo c a] at h1;exact Cu h1
  exact PySem.W.ki_setAt J c (by omega) (by rw [z_,<- S];exact a) (by rw [U];exact ⟨_,d,q⟩)
 ·have U:(k+(its.toArray.size:Int)).toNat=j:=by
   rw [LQ (by omega) b] at h1;rw [z_,<- S];exact Cu h1
  exact PySem.W.ki_setBack J (by omega) (by rw [z_,<- S];exact b) (by omega) (by rw [U];exact ⟨_,d,q⟩)
theorem rZ (lo hi:Option Int) (n:Nat):(GV lo hi d_ n).1=((HT.sIx n 0 lo:Nat):Int)/\(GV lo hi d_ n).2.1=((HT.sIx n n hi:Nat):Int)/\(GV lo hi d_ n).2.2=1:=by
 refine ⟨?_,?_,rfl⟩
 ·cases lo with
  |none=>simp [GV,HT.sIx]
  |some i=>
   simp only [GV,HT.sIx,LJ,show (1:Int)>0 by decide,Jp];by_cases h:i<0
   ·simp only [h,Jp]<;>omega
   ·simp only [h,ER]<;>omega
 ·cases hi with
  |none=>simp [GV,HT.sIx]
  |some i=>
   simp only [GV,HT.sIx,LJ,show (1:Int)>0 by decide,Jp];by_cases h:i<0
   ·simp only [h,Jp]<;>omega
   ·simp only [h,ER]<;>omega
theorem pO (its:List i_) (lo hi:Option Int):slicePick its.toArray lo hi d_=((its.drop (HT.sIx its.length 0 lo)).take (HT.sIx its.length its.length hi-HT.sIx its.length 0 lo)).toArray:=by
 obtain ⟨h1,h2,J⟩:=rZ lo hi its.toArray.size;unfold slicePick;rw [h1,h2,J];simp only [sliceRange_one,pick_run,z_]<;>rfl
def rSlL (K:Fg):V->Option Int->Option Int->Hp->VK->Prop:=fun x lo hi H Q=>∃a xs,x=.ref a/\SqL K H a xs/\∀p,H p=d_->Q (.ref p) (upd H p (.lst (cutV xs lo hi)))
theorem sl_list:SlR X (rSlL X.K):=by
 intro pins s σ H x v g f lo hi sl Q I U e pl Y h;obtain ⟨a,xs,rfl,d,q⟩:=h;cases U;obtain ⟨its,r,S,c⟩:=I.list d;have J:=r.length;refine ⟨"list",_,Ng.lookup,S.isList.typeIs,?_⟩
 refine wpAny_getItem_list_slice S.isList e pl Y .none (by simp) ?_ (by rw [z_]<;>omega);rw [pO,<- J];refine ⟨.ref s.heap.objs.size,_,I.laid (t':=s.toks) (o:=.lst (cutV xs lo hi)) (fun b i q=>g_ _ q) (m_ _) ?_,rfl,q _ (I.hok.fresh (m_ _))⟩
 exact ⟨C9 (nr xs lo hi) c,_,0,(r.drop (HT.sIx xs.length 0 lo)).take (HT.sIx xs.length xs.length hi-HT.sIx xs.length 0 lo),k_ _ rfl⟩
noncomputable def flatV:V->Bool
 |.non=>f_
 |.bl _=>f_
 |.int _=>f_
 |.str _=>f_
 |_=>c_
noncomputable def eqV:V->V->Bool
 |.non,.non=>f_
 |.bl a,.bl b=>a==b
 |.bl a,.int b=>(if a then 1 else 0)==b
 |.int a,.bl b=>a==(if b then 1 else 0)
 |.int a,.int b=>a==b
 |.str a,.str b=>a==b
 |_,_=>c_
theorem u7:bS X (.builtin "len") (fun xs H Q=>∃p ys,xs=[.ref p]/\(SqL X.K H p ys\/SqT X.K H p ys)/\Q (.int ys.length) H):=by
 intro pins s σ H xs us Q I r h;obtain ⟨p,ys,rfl,S,q⟩:=h;obtain ⟨u,rfl,U⟩:=vals1 r;cases U;have a:=oJ;rcases S with S|S
 ·obtain ⟨its,r',pl,Y⟩:=I.list S;have J:=r'.length;exact Calls.call_len_list pl.isList (by simp only [z_]<;>omega) ⟨.int ys.length,H,I.tok _,⟨s.toks+1,by rw [z_,J]⟩,q⟩
 ·obtain ⟨its,r',pl,Y⟩:=I.tuple S;have J:=r'.length;exact len_tuple pl (by simp only [z_]<;>omega) ⟨.int ys.length,H,I.tok _,⟨s.toks+1,by rw [z_,J]⟩,q⟩
theorem bS.or {f:i_} {r r':List V->Hp->VK->Prop} (h:bS X f r) (h':bS X f r'):bS X f (fun xs H Q=>r xs H Q\/r' xs H Q):=by
 intro pins s σ H xs us Q I rs q;rcases q with q|q
 ·exact h pins s σ H xs us Q I rs q
 ·exact h' pins s σ H xs us Q I rs q
theorem lu:bS X (.type "list") (fun xs H Q=>∃p ys,xs=[.ref p]/\(SqL X.K H p ys\/SqT X.K H p ys)/\∀l,H l=d_->Q (.ref l) (upd H l (.lst ys))):=by
 intro pins s σ H xs us Q I r h;obtain ⟨p,ys,rfl,Y,q⟩:=h;obtain ⟨u,rfl,g⟩:=vals1 r;cases g;have c:∀(its:List i_),Vals ys its->ys.length<=n_->∀(h':CQ) (J:Nat),(∀b o',s.heap.get? b=a_ o'->h'.get? b=a_ o') ->
   h'.get? s.heap.objs.size=a_ {cls:=.type "list",dict:=d_,data:=.seq its.toArray J,slots:=#[]}->EP X pins σ Q (.ref s.heap.objs.size) {s with heap:=h'}:=fun its r' U h' J S e=>
  ⟨.ref s.heap.objs.size,_,I.laid (t':=s.toks) S (m_ _) (show bK X.prog X.w _ h' _ (.lst ys) from ⟨U,its,J,r',e⟩),rfl,q _ (I.hok.fresh (m_ _))⟩
 rcases Y with Y|Y
 ·obtain ⟨its,r',pl,U⟩:=I.list Y;have a:=r'.length;obtain ⟨o,d,f,n,hd⟩:=pl.isList;exact call_list_seq p (.inl rfl) d f hd (fun h' J S e=>c its r' U h' J S e) (by simp only [z_]<;>omega)
 ·obtain ⟨its,r',pl,U⟩:=I.tuple Y;have a:=r'.length;obtain ⟨o,d,f,n,hd⟩:=pl;exact call_list_seq p (.inr rfl) d f hd (fun h' J S e=>c its r' U h' J S e) (by simp only [z_]<;>omega)
theorem rh:bS X (.type "tuple") (fun xs H Q=>∃p ys,xs=[.ref p]/\((SqL X.K H p ys/\∀l,H l=d_->Q (.ref l) (upd H l (.tup ys)))\/(SqT X.K H p ys/\Q (.ref p) H))):=by
 intro pins s σ H xs us Q I r h;obtain ⟨p,ys,rfl,h⟩:=h;obtain ⟨u,rfl,a⟩:=vals1 r;cases a;rcases h with ⟨J,q⟩|⟨J,q⟩
 ·obtain ⟨its,r',pl,S⟩:=I.list J;have U:=r'.length;refine call_tuple_list pl.isList (fun h' c=>?_) (by simp only [z_]<;>omega);have Y:Inv X pins σ H {s with heap:=h'}:=I.kept (t':=s.toks) c;have d:Inv X pins σ (upd H h'.objs.size (.tup ys)) {s with heap:=h'.push {cls:=.type "tuple",data:=.seq its.toArray}}:=
   Y.laid (t':=s.toks) (fun b o e=>g_ _ e) (m_ _) (show bK X.prog X.w _ _ _ (.tup ys) from ⟨S,its,r',L1 _ _⟩)
  exact ⟨.ref h'.objs.size,_,d,rfl,q _ (Y.hok.fresh (m_ _))⟩
 ·obtain ⟨its,r',pl,S⟩:=I.tuple J;exact call_tuple_same pl ⟨.ref p,H,I,rfl,q⟩
def tyV (K:Fg) (T:String) (x:V) (H:Hp):Prop:=match x with
 |.str _=>T="str"
 |.int _=>T="int"
 |.ref p=>(T="list"/\∃xs,SqL K H p xs)\/(T="tuple"/\∃o,K.lookup p=a_ o/\o.cls=.type "tuple"/\o.dict=d_) \/
   (T="dict"/\((∃J,H p=a_ (.dK J))\/∃J,H p=a_ (.dT J)))\/(T="set"/\∃S n,H p=a_ (.set S n))
 |_=>False
theorem tyV_is {x:V} {v:i_} (I:Inv X pins σ H s) (r:RelV x v) (ty:tyV X.K T x H) :
  s.TypeIs v T/\∀a,v=.ref a->∃Y,s.heap.get? a=a_ Y/\Y.dict=d_:=by
 cases x with
 |str z=>
  obtain ⟨t,rfl⟩:=r;cases (show T="str" from ty);exact ⟨typeIs_str s z t,fun _ e=>nomatch e⟩
 |int i=>
  obtain ⟨t,rfl⟩:=r;cases (show T="int" from ty);exact ⟨typeIs_int s i t,fun _ e=>nomatch e⟩
 |ref p=>
  cases r;rcases ty with ⟨rfl,xs,b⟩|⟨rfl,o,J,d,hd⟩|⟨rfl,J⟩|⟨rfl,S,n,J⟩
  ·obtain ⟨its,_,pl,_⟩:=I.list b;refine ⟨pl.isList.typeIs,fun a e=>?_⟩
   cases e;obtain ⟨o,n,e,c,hd,_⟩:=pl;exact ⟨o,e,hd⟩
  ·refine ⟨⟨o,I.kIn p o J,d⟩,fun a e=>?_⟩
   cases e;exact ⟨o,I.kIn _ o J,hd⟩
  ·have z:∃o,s.heap.get? p=a_ o/\o.ExactDict:=by
    rcases J with ⟨U,J⟩|⟨U,J⟩
    ·obtain ⟨_,_,_,_,o,_,_,e,ex,_⟩:=I.hok p _ J;exact ⟨o,e,ex⟩
    ·obtain ⟨_,_,_,_,o,_,_,e,ex,_⟩:=I.hok p _ J;exact ⟨o,e,ex⟩
   obtain ⟨o,e,ex⟩:=z;refine ⟨⟨o,e,ex.1⟩,fun a e2=>?_⟩
   cases e2;exact ⟨o,e,ex.2.1⟩
  ·obtain ⟨o,_,_,_,e,ex,_⟩:=I.hok p _ J;refine ⟨⟨o,e,ex.1⟩,fun a e2=>?_⟩
   cases e2;exact ⟨o,e,ex.2.1⟩
 |_=>exact DV ty
def tBM (K:Fg) (T:String) (r:V->List V->Hp->VK->Prop) (to:TE) (t:TA):TE:=fun σ H Q=>to σ H fun x H1=>tyV K T x H1/\t σ H1 fun xs H2=>r x xs H2 Q
variable {o:Dr} {es:List Dr} {to:TE} {t:TA} {name:Cy} {apos cpos:Nu} {id:String} {r:V->List V->Hp->VK->Prop}
theorem pe_bm (k:PlainAttrs T) (Y:Slot T name id) (b:typeOf (.builtin id)=DC (.type "method_descriptor")) (n:MtR X id r) (m:PE X o to) (p:PA X (e::es) t)
  (U: ~~~(DH o name X.env (Cf o X.env)=Cf o X.env))
  (a: ~~~(((CZ cpos (j_ (e::es) X.env)).all (fun x=> !x.1)&&(Gk cpos (ES [] X.env)).all (fun x=>x.1.isSome)
   &&Ca ((e::es).length+([]:List Gs).length+(if ([]:List Gs).isEmpty then 0 else 1)<30))=f_))
  (S: ~~~((apos.endLine==cpos.line)=f_)) (l: ~~~(j_ (e::es) X.env=(c_,Cf e X.env)::j_ es X.env)) (J: ~~~((CZ cpos (j_ es X.env)).any (·.1)=c_)) :
  PE X (.Call (.Attribute o name apos) (e::es) [] cpos) (tBM X.K T r to t):=by
 intro pins s σ H Q I h;refine wpAny_Call_method_late U a S rfl (thn (m pins s σ H _ I h) fun v i ⟨x,H1,f,c,ty,q1⟩=>?_);obtain ⟨h1,h2⟩:=tyV_is f c ty;refine ⟨T,id,k,Y,b,h1,h2,?_⟩
 have d:=p cpos pins i σ H1 _ f q1;rw [l] at d ⊢;refine Hq (by show (c_||(CZ cpos (j_ es X.env)).any (·.1))=c_;rw [J]<;>rfl) (KY ?_);exact thn d fun us g ⟨vs,H2,q,j,q2⟩=>n pins g σ H2 x vs v us Q q c j q2
/- xs.append(e),list.index on a module's tuple .. are MtR facts of 06m -/
end
def MtM (X:Cx) (id:String) (r:V->List V->Hp->VK->Prop):Prop:=
 ∀(pins:Pn) (s:t_) (σ:St) (H:Hp) (x:V) (xs:List V) (v:i_) (us:List i_) (Q:VK),Inv X pins σ H s->RelV x v->Vals xs us->r x xs H Q ->
  s_ (w_ X.prog X.w) X.A (Gg (.builtin id) (v::us)) (EP X pins σ Q) X.xe s
theorem Vals.one:∀{x:V} {us:List i_},Vals [x] us->∃u,us=[u]/\RelV x u
 |_,_,.cons r .nil=>⟨_,rfl,r⟩
theorem Vals.two:∀{x y:V} {us:List i_},Vals [x,y] us->∃u v,us=[u,v]/\RelV x u/\RelV y v
 |_,_,_,.cons r (.cons q .nil)=>⟨_,_,rfl,r,q⟩
theorem Vals.zero:∀{us:List i_},Vals [] us->us=[]
 |_,.nil=>rfl
theorem Vals.eraseIdx:∀{xs:List V} {us:List i_} (i:Nat),Vals xs us->Vals (xs.eraseIdx i) (us.eraseIdx i)
 |_,_,_,.nil=>.nil
 |_,_,0,.cons _ t=>t
 |_,_,i+1,.cons r t=>.cons r (Vals.eraseIdx i t)
theorem Vals.reverse {xs:List V} {us:List i_} (h:Vals xs us):Vals xs.reverse us.reverse:=by
 induction h with
 |nil=>exact .nil
 |cons r t J=>rw [E3,E3];exact Vals.append J (.cons r .nil)
theorem kS (l:List α):l.eraseIdx (l.length-1)=l.dropLast:=by
 induction l with
 |nil=>rfl
 |cons a r J=>
  cases r with
  |nil=>rfl
  |cons b r=>
   have e:(a::b::r).length-1=((b::r).length-1)+1:=by
    have h1:(a::b::r).length=r.length+2:=rfl;have h2:(b::r).length=r.length+1:=rfl;omega
   rw [e,Hm,J]
   all_goals rfl
section
variable {l:h_} 
theorem Inv.lset {f:Array i_->Array i_} {t':Nat} (I:Inv X pins σ H s) (a:H l=a_ (.lst xs))
  (e:s.heap.get? l=a_ {cls:=.type "list",data:=.seq its.toArray n}) (U:f its.toArray=its'.toArray) (hv:Vals ys its') (J:ys.length<=n_) :
  Inv X pins σ (upd H l (.lst ys)) {s with heap:=s.heap.update l (C8 f),toks:=t'}:=by
 have q:=PySem.IsL.update e f;rw [U] at q;refine I.write (x:=l) (e:=l) (by rw [a];exact MK) (.inl rfl) (fun b u Y S=>(Ce s.heap (C8 f) (CV Y)).trans S) ⟨_,q⟩ ?_;exact ⟨J,its',_,hv,q⟩
theorem Inv.lnew {t':Nat} (I:Inv X pins σ H s) (hv:Vals ys its) (J:ys.length<=n_) :
  Inv X pins σ (upd H s.heap.objs.size (.lst ys)) {s with heap:=s.heap.push {cls:=.type "list",data:=.seq its.toArray},toks:=t'}:=
 I.laid (fun _ _ q=>g_ _ q) (m_ _) ⟨J,its,0,hv,k_ _ rfl⟩
theorem Inv.fresh (I:Inv X pins σ H s):H s.heap.objs.size=d_:=I.hok.fresh (m_ _)
theorem Inv.lstM (I:Inv X pins σ H s) (J:H l=a_ (.lst xs)):xs.length<=n_/\∃(its:List i_) (n:Nat),Vals xs its/\xs.length=its.length/\s.heap.get? l=a_ {cls:=.type "list",data:=.seq its.toArray n}:=by
 obtain ⟨z,its,n,r,e⟩:=I.hok l _ J;exact ⟨z,its,n,r,r.length,e⟩
theorem notLongL (h:n<=n_):GJ n=c_:=by
 unfold GJ;exact DU (by omega)
end
section
def A6:V->List V->Hp->VK->Prop:=fun x vs H Q=>∃l xs y,x=.ref l/\vs=[y]/\H l=a_ (.lst xs)/\xs.length<n_/\Q .non (upd H l (.lst (xs++[y])))
theorem AJ:MtM X "list.append" A6:=by
 intro pins s σ H x vs v us Q I S U h;obtain ⟨l,xs,y,rfl,rfl,J,a,q⟩:=h;cases S;obtain ⟨u,rfl,Y⟩:=U.one;obtain ⟨z,its,n,r,b,e⟩:=I.lstM J;refine M0 KW ⟨_,e,rfl⟩ F.entry_list_append (F.args_list_append_2 _ _) (PySem.list_append l its.toArray n u (by rw [z_];omega)) ⟨e,?_⟩;refine ⟨.non,_,I.lset (its':=its++[u]) J e (by simp) (r.append (.cons Y .nil)) ?_,rfl,q⟩
 rw [CP,HK];omega
def A5:V->List V->Hp->VK->Prop:=fun x vs H Q=>∃l b xs J,x=.ref l/\vs=[.ref b]/\H l=a_ (.lst xs)/\H b=a_ (.lst J)/\xs.length+J.length<=n_/\Q .non (upd H l (.lst (xs++J)))
theorem AI:MtM X "list.extend" A5:=by
 intro pins s σ H x vs v us Q I Y a h;obtain ⟨l,b,xs,j,rfl,rfl,U,i,m,q⟩:=h;cases Y;obtain ⟨u,rfl,c⟩:=a.one;cases c;obtain ⟨z,its,n,r,o,e⟩:=I.lstM U;obtain ⟨k,J,f,d,g,e2⟩:=I.lstM i;have hsz:its.toArray.size+J.toArray.size<=n_:=by rw [z_,z_];omega
 have S:¬(!its.toArray.isEmpty&&GJ (its.toArray.size+J.toArray.size))=f_:=by
  rw [notLongL hsz,Ic];exact CI
 refine M0 KU ⟨_,e,rfl⟩ F.entry_list_extend (F.args_list_extend_2 _ _)
  (AutoSeq1.list_extend_list_list_0 l its.toArray n b J.toArray f S (by rw [z_];omega) (by omega)) ⟨e,e2,?_⟩
 refine ⟨.non,_,I.lset (its':=its++J) U e (by simp) (r.append d) ?_,rfl,q⟩
 rw [CP];omega
end
end L2
namespace Att
open PySem PySem.W PySem.Calls PyProof.Rows
theorem mT {P:Params} {h:CQ}:∀(ns:List Int) (vs:List i_),WellAll P h vs (ns.map WData.int)->E6 vs ns:=by
 intro ns
 induction ns with
 |nil=>
  intro vs w;rw [Fs] at w;cases w;exact .nil
 |cons n ns J=>
  intro vs w;rw [A_] at w;cases w with
  |cons a b=>
   cases a;exact .cons _ _ (J _ b)
theorem zS {l:IS} {n:Nat} (m:l.most=a_ n) {P:Params} {h:CQ} {args:List WData} {J:List i_}
  (S:l.row.toRowW.claim.pre args=f_) (c:WellAll P h J args) :
  ∃a vs ns,J=[x_ a]/\args=[WData.list (ns.map WData.int)]/\h.get? a=a_ {cls:=.type "list",data:=.seq vs.toArray}/\E6 vs ns/\ns.length<=n:=by
 have e:WShape.hasAll [] args [.list .int]=f_:=(pre_splitW S).1;have f:l.pre.holds [] {args:=args}=f_:=(pre_splitW S).2;obtain ⟨d,r,rfl,h1,h2⟩:=hasAllW_cons e;obtain rfl:=hasAllW_nil h2;obtain ⟨xs,rfl,o⟩:=hasW_list h1;obtain ⟨ns,rfl⟩:=items_int o;have U:ns.length<=n:=by
  unfold OpenLaw.pre at f;have b:(WTm.not (.lt (.lit (.int (n:Int))) (.len (.arg 0)))).holds [] {args:=[.list (ns.map .int)]}=f_:=by
   have b:=(holds_andW f).1;rw [m] at b;exact b
  have h5:=condW_of b (w_not (w_lt w_lit (w_len_list (w_arg rfl))));rw [v_] at h5;refine Nat.le_of_not_lt fun q=>?_;have j:(n:Int)<((ns.length:Nat):Int):=by omega
  first
   |(rw [Ff j] at h5;exact Cj h5 (by decide))
   |(simp at h5;omega)
 cases c with
 |cons i g=>
  cases g;cases i with
  |list k Y=>exact ⟨_,_,ns,rfl,rfl,k,mT ns _ Y,U⟩
theorem Aj (l:IS) (args:List WData):l.row.toRowW.claim.post args (.bool f_) args=f_:=
 postW_of (r:=l.row.toRowW) (X:=(f_==f_))
  (show WShape.has [] (.bool f_) .bool=f_ by first|rfl|decide|simp [WShape.has,WShape.arms,WShape.armsAll])
  (show (WTm.eq .res (.lit (.bool f_))).value [] {args:=args,res:=a_ (.bool f_),after:=args}=a_ (.bool (f_==f_)) from w_eq_bool (w_res rfl) w_lit) rfl
theorem vU {l:IS} {n:Nat} {q:Cn} {U:List Cy} {y:(Mq)->CQ->Prop} {x:Dv->CQ->Prop} {d:DefRec}
  (C:l.most=a_ n) (m:d.params.defaults=[])
  (h:∀(w:Dv) (S J:t_) (mg i:Mq) (fa:h_) (o:GX) (pm cd doc:i_) (a:h_) (vs:List i_) (ns:List Int),
   Ground q U [] y w S mg i J.heap->x w J.heap ->
   J.heap.get? fa=a_ o->o.data=.func (docDef d.name d.params d.body d.scope pm cd doc)->J.heap.CodeRec cd d.name->mg d.name=a_ (.ref fa) ->
   J.heap.get? a=a_ {cls:=.type "list",data:=.seq vs.toArray}->E6 vs ns->ns.length<=n->J.gens=#[] ->
   FG (w_ l.prog w) JG (.call (.ref fa) ⟨[.ref a],[]⟩) (fun r s'=>r=.ok (.ret (.bool f_))/\OldK J.heap s'.heap/\s'.os=J.os/\Hx s'.gens) J) :
  Lf q U y x l.row.toRowW d [] (fun f vs=>Gg f vs):=by
 intro w S J mg i G Y fa o pm cd doc K kV B hd p u k F v s as c t z j E;obtain rfl:K=.none:=Dflts.none u m;obtain rfl:kV=.none:=Dflts.noKw u;obtain ⟨a,vs,ns,rfl,rfl,e,b,g⟩:=zS C c j;refine enter_call (Er (h w S J mg i fa o pm cd doc a vs ns G Y B (fd_plain hd) p k e b g F) fun r s' A=>?_);obtain ⟨rfl,h2,I,H⟩:=A;exact ⟨.inl ⟨.bool f_,.bool f_,[],rfl,fun _=>rfl,.bool f_,Aj l _,fun _=>⟨F_,fun _ D=>(nomatch D)⟩⟩,h2,I,H⟩
section
variable {prog:Cn} {w:Dv} {A:D0} {E:Vp} {s:t_} {K:Mv}
theorem make_obj {R:Jv->t_->Prop} {C fI:h_} {rest:List i_} {kw:List (Cy×i_)}
  (X:K.In s.heap) (S:Gq K C=f_) (hi:Cm K (.ref C) "__init__"=a_ (a_ (.ref fI))) (U:GD K (.ref fI)=f_)
  (h:FG (w_ prog w) (A.under (.builtin "type.__call__" ⟨.ref C::rest,kw⟩)) (.call (.ref fI) ⟨.ref (s.heap.objs.size+1)::rest,kw⟩) (NP (s.heap.objs.size+1) R)
   {s with heap:=(s.heap.push Dn).push (EJ C s.heap.objs.size)}):FG (w_ prog w) A (.call (.ref C) ⟨rest,kw⟩) R s:=by
 obtain ⟨Y,g,d,t,os⟩:=s;exact Nq (NO X S) (FL X hi) (fun J=>bind_fn X J (EI.mp U)) (.inl rfl) h
theorem get_field {x C:h_} {S:GX} {es:List DX} {n:Nat} {name:Cy} {J:Bool} {v:i_} {Q:Vp}
  (X:K.In s.heap) (I:Et s.heap x S C (a_ (dictOf es n))) (a:Fv K C name=f_) (Y:Fc K C=f_) (b:Cm K (.ref C) name=a_ d_)
  (U:getL name es=a_ (a_ v)) (hv:Je v=f_) (h:Q v {s with toks:=s.toks+1}):s_ (w_ prog w) A (Kr (.ref x) name J) Q E s:=
 Nr X I (G6 a).1 (Kh Y b rfl U) hv h
end
end Att
namespace L2
open PySem PySem.Spec PyProof.Rows
variable {w:Dv} {K:Fg} {mg:Mq} {CX:CXT} {k n j i m nN nrem ep sl ep':Nat} {a l b L C r fad fI z I:h_} {fd:EZ} {x qual c y nm:Cy} {sp:Sp} {vs us tl its bmB sub:List i_} {ns ks:List Int} {X:Cx} {st b₀:Dt} {ps N' N sn:List Cy} {oc doc pm cdv ct u v hv cd first:i_} {od an dx dd:Option h_} {osl:Array (Option i_)} {pos spos py p pos' apos q p2 q1 q2 p1 p3 p4 np hpos pos1 cpos:Nu} {H H1 H2 H' F F' H0 F1 F0 FB:Hp} {scope sc:JK} {env:J8} {A:D0} {E:Vp} {s s':t_} {pins:Pn} {σ σ':St} {ix:List (Option Nat)} {fp ch ys:List h_} {h1 h h':CQ} {prog:Cn} {R:Bool->Hp->Prop} {elt tg iter o e ex value ek ev e1 e2 e3 e4 e5:Dr} {ifs es rest elts:List Dr} {tt:TT} {te tv td:TE} {xs:List V} {T B newId initId:String} {cs:List (Cy×h_)} {Q:Option i_->t_->Prop} {lo:Int} {O O2 OL O':List Nat} {ro bn hdct ab:Bool} {D:Ends} {α β κ:Type} {op op':CmpOp} {sts body suite:List Dt} {r':R2} {ta:TA} {outer:List J8} {oe:GX} {ts:h_->Option h_->TS} {os:OsState} {tk:Tok} {col:Option Bool} {k0 k1 k2 k3 k5:Option i_} {items acc:Array i_} {ord:List (Int×i_)}
theorem rM:∀{vs:List i_} {ns:List Int},E6 vs ns->Vals (ns.map V.int) vs
 |_,_,.nil=>.nil
 |_,_,.cons n t h=>.cons ⟨t,rfl⟩ (rM h)
def Only (H:Hp):Prop:=∀b,H b=d_\/∃o xs,H b=a_ (.frz o (.lst xs))
theorem law_call {P:Cn} {D:Mq} {fa:h_} {J:t_} 
  (X:K.In J.heap) (p:J.heap.Ns CS mg) (U:J.heap.Ns M3 D) (I:∀x:Cy,x≠"__name__"->D x=D5 x) (t:J.heap.NoLimit) (hg:J.gens=#[])
  (B:J.heap.get? a=a_ {cls:=.type "list",data:=.seq vs.toArray}) (hi:E6 vs ns) (R:ns.length<=n_) (hr:gz k JG)
  (F:∀base:CQ,K.In base->base.Ns CS mg->iN P w K mg base CX k fa fd [x] sp) (f:∀(s:t_) (u:i_),Io s fd ⟨[u],[]⟩ [(x,u)])
  (E:∀H:Hp,Only H->SqL K H a (ns.map V.int)->sp [.ref a] H (fun v _=>v=.bl f_) fun _ _ _=>False)
  (L:∀H e s',CX [] H J (fun _ _ _=>False) e s'->False) :
  FG (w_ P w) JG (.call (.ref fa) ⟨[.ref a],[]⟩) (fun r s'=>r=.ok (.ret (.bool f_))/\OldK J.heap s'.heap/\s'.os=J.os/\Hx s'.gens) J:=by
 have Q:=rM hi;have i:=hi.length;have c:∀H:Hp,Only H->SqL K H a (ns.map V.int)->HOk P w H J.heap->(∀b,H b≠d_->b=a)->(H a≠d_->K.lookup a=d_) ->
   FG (w_ P w) JG (.call (.ref fa) ⟨[.ref a],[]⟩) (fun r s'=>r=.ok (.ret (.bool f_))/\OldK J.heap s'.heap/\s'.os=J.os/\Hx s'.gens) J:=by
  intro H T hS l W hK;have S:∀{b:h_} {o:GX},J.heap.get? b=a_ o->H b=d_->(hidT J.heap H).get? b=a_ o:=fun e n=>hidT_get e n;have C:∀{b:h_} {o:GX} {es:Array DX} {ep:Nat},J.heap.get? b=a_ o->o.data=.dict es ep->H b=d_:=fun {b o es ep} e d=>by
   cases q:H b with
   |none=>rfl
   |some u=>
    have N:b=a:=W b (by rw [q];simp);subst N;rw [B] at e;cases e;have d':Data.seq vs.toArray _=Data.dict es ep:=d;cases d'
  have Y:∀{b:h_} {m:Mq},J.heap.Ns b m->(hidT J.heap H).Ns b m:=fun {b m} ⟨o,es,ep,e,d,r⟩=>⟨o,es,ep,S e (C e d),d,r⟩
  have y:K.In (hidT J.heap H):=fun b o e=>S (X b o e) (by
   cases q:H b with
   |none=>rfl
   |some u=>
    have N:b=a:=W b (by rw [q];simp);subst N;rw [hK (by rw [q];simp)] at e;cases e)
  have hM:Mod K mg (hidT J.heap H):=⟨y,Y p,⟨D,Y U,I⟩,let ⟨mc,h1,h2⟩:=t;⟨mc,Y h1,h2⟩⟩
  have e0:Env0 P w K mg (hidT J.heap H) JG [] J H:=⟨rfl,hM,fun b o e=>of_hidT e,Jh (B9 _ _),MK,fun b U=>Cj (show b∈([]:List h_) from U) (by simp),l,.of_eq hg⟩
  refine Er ((F _ y (Y p)).run JG [] J H ⟨[.ref a],[]⟩ [.ref a] [.ref a] _ _ hr e0 (f J (.ref a)) (.cons rfl .nil) (E H T hS)) fun r s' h=>?_;cases r with
  |error e=>exact (L H e s' h).elim
  |ok fl=>
   cases fl with
   |next=>exact DV h
   |brk=>exact DV h
   |cont=>exact DV h
   |ret u=>
    obtain ⟨v,H',os,A,O,j,r',q⟩:=h;have q':v=.bl f_:=q;subst q';obtain rfl:u=ID f_:=r';refine ⟨rfl,OldK.of_keep fun b o e=>?_,os,A⟩
    cases q:H b with
    |none=>exact O.keep b o e q (by intro z;exact Cj (show b∈([]:List h_) from z) (by simp)) (by simp)
    |some u=>
     rcases T b with z|⟨ob,xs,z⟩
     ·rw [q] at z;cases z
     ·have Z:=O.frzs b ob _ z;obtain ⟨e1,_⟩:=l b _ z;obtain ⟨e2,_⟩:=j b _ Z;rw [e] at e1;cases e1;exact e2
 cases G:K.lookup a with
 |some o=>
  have e:=X a o G;rw [B] at e;cases e;refine c (fun _=>d_) (fun _=>.inl rfl) (.inr ⟨_,vs.toArray,_,G,rfl,rfl,rfl,by rw [z_,i];exact R,by simpa using Q⟩) (fun b u z=>by have g:(d_:Option HO)=a_ u:=z;cases g) (fun b z=>Cj rfl z) fun z=>Cj rfl z
 |none=>
  refine c (fun b=>if b=a then a_ (.frz {cls:=.type "list",data:=.seq vs.toArray} (.lst (ns.map V.int))) else d_) (fun b=>?_) (.inl (.inr ⟨{cls:=.type "list",data:=.seq vs.toArray},p_ rfl⟩)) (fun b u z=>?_) (fun b z=>?_) fun _=>G
  ·by_cases U:b=a
   ·exact .inr ⟨_,_,p_ U⟩
   ·exact .inl (l_ U)
  ·by_cases U:b=a
   ·have g:=(p_ U).symm.trans z;cases g;subst U;exact ⟨B,by rw [v_];exact R,vs,_,Q,B⟩
   ·have g:=(l_ U).symm.trans z;cases g
  ·by_cases U:b=a
   ·exact U
   ·exact Cj (l_ U) z
theorem walk_of {l:IS} {q:Cn} {S:List Cy} {O:(Mq)->CQ->Prop} {t:Dv->CQ->Prop} {d:DefRec} {K:Params->Fg} {CX:Dv->CXT} {sp:Dv->Sp} 
  (A:l.most=a_ n) (i:n<=n_) (m:d.params.defaults=[]) (z:gz k JG)
  (E:∀(w:Dv) (h:CQ),t w h->(K w.params).In h)
  (F:∀(w:Dv) (mg:Mq) (fa:h_) (h:CQ),(K w.params).In h->h.Ns CS mg->mg d.name=a_ (.ref fa) ->
   ∃fd:EZ,(∀(s:t_) (u:i_),Io s fd ⟨[u],[]⟩ [(x,u)]) /\
    ∀base:CQ,(K w.params).In base->base.Ns CS mg->iN l.prog w (K w.params) mg base (CX w) k fa fd [x] (sp w))
  (g:∀(w:Dv) (H:Hp) (a:h_) (ns:List Int),ns.length<=n->Only H->SqL (K w.params) H a (ns.map V.int)->sp w [.ref a] H (fun v _=>v=.bl f_) fun _ _ _=>False)
  (p:∀(w:Dv) (H:Hp) (s:t_) (e:i_) (s':t_),CX w [] H s (fun _ _ _=>False) e s'->False) :
  Lf q S O t l.row.toRowW d [] (fun f vs=>Gg f vs):=by
 refine Att.vU A m fun w r b mg P fa o pm cd doc a vs ns G Y Q hd C j c U J B=>?_;have y:=E w _ Y;obtain ⟨fd,D,N⟩:=F w mg fa _ y G.T.g j;exact law_call y G.T.g G.T.b G.T.builtins G.T.nolimit B c U (C9 J i) z N D (fun H L I=>g w H a ns J L I) fun H e s'=>p w H b e s'
noncomputable def inClass (s:Dt) (j:Nat):Dt:=match s with
 |.ClassDef _ _ _ body _ _ _ _ _ _ _=>body.getD j (.Pass ⟨0,0,0,0⟩)
 |_=>.Pass ⟨0,0,0,0⟩
noncomputable def cN (s:Dt):Arguments:=match s with
 |.FunctionDef _ a _ _ _ _ _ _ _ _=>a
 |_=>{posonlyargs:=[],args:=[],vararg:=d_,kwonlyargs:=[],kw_defaults:=[],kwarg:=d_,defaults:=[]}
noncomputable def br (s:Dt):List Dt:=match s with
 |.FunctionDef _ _ b _ _ _ _ _ _ _=>b
 |_=>[]
noncomputable def aB (s:Dt):JK:=match s with
 |.FunctionDef _ _ _ _ _ _ sc _ _ _=>sc
 |_=>{kind:=.function,names:=[],isGenerator:=c_,isCoroutine:=c_}
noncomputable abbrev CX0:CXT:=fun _ _ _ _ _ _=>False
noncomputable abbrev E0:XK:=fun _ _ _=>False
theorem Av:Passes CX0 X E0:=fun _ _ _ _ _ _ _ h=>h.elim
structure Fun (K:Fg) (x qual:Cy) (st:Dt) (f:h_) (fd:EZ):Prop where
 ex:∃(oc:i_) (od:Option h_) (kV doc pm:i_) (an:Option h_) (cdv ct:i_) (osl:Array (Option i_)),
  fd=Jf x qual (cN st) (br st) (aB st) .none kV doc pm an cdv ct/\K.lookup f=a_ ⟨oc,od,.func fd,osl⟩/\J0 K cdv qual=f_
 kp:FH K (.ref f)=f_
section
theorem Fun.binds {f:h_} (F:Fun K x qual st f fd)
  (h:∀(kV doc pm:i_) (an:Option h_) (cdv ct:i_) (us:List i_),us.length=ps.length->IQ (Jf x qual (cN st) (br st) (aB st) .none kV doc pm an cdv ct) ⟨us,[]⟩=DC (ps.zip us)):Binds K fd ps []:=by
 obtain ⟨oc,od,kV,doc,pm,an,cdv,ct,osl,rfl,S,J⟩:=F.ex;exact .all (h kV doc pm an cdv ct)
theorem wW {f:h_} {kV:i_} (l:K.lookup f=a_ ⟨oc,od,.func (Jf x qual (cN st) (br st) (aB st) .none kV doc pm an cdv ct),osl⟩)
  (c:J0 K cdv qual=f_) (k:FH K (.ref f)=f_):Fun K x qual st f (Jf x qual (cN st) (br st) (aB st) .none kV doc pm an cdv ct):=⟨⟨oc,od,kV,doc,pm,an,cdv,ct,osl,rfl,l,c⟩,k⟩
end
section
theorem pv (i:Nat) (S: ~~~(X.N[i]? =a_ x)) (hv:autoParam (Vis X.env.scope x) Jq3) (hd:((x==("__debug__":Cy))=c_)⁻¹)
  (J:((x==("__classdict__":Cy))=c_)⁻¹):PE X (.Name x pos) (tVar i):=pe_var S hv hd J
end
def aN (H H':Hp):Prop:=∀b o,H b=a_ o->H' b=a_ o
theorem aN.refl (H:Hp):aN H H:=fun _ _ h=>h
theorem aN.trans (a:aN H H1) (b:aN H1 H2):aN H H2:=fun c o h=>b c o (a c o h)
theorem aN.free (e:aN H H') (h:H' l=d_):H l=d_:=by
 cases q:H l with
 |none=>rfl
 |some o=>
  rw [e l o q] at h;cases h
noncomputable def pw (cells:List (Cy×h_)):List (Cy×FO)->List (Cy×h_)->List (Cy×h_)
 |[],acc=>acc
 |(x,k)::r,acc=>pw cells r (if (k==Co)=f_ then (x,(cells.lookup x).getD 0)::acc else acc)
theorem gt_ne {c:h_} (h1:b<a) (h2:a<c):c≠b:=by
 rintro rfl;exact Cj (HE h1 h2) (C_ _)
theorem yD (h1:a<n) (h2:n<=b):a≠b:=by
 rintro rfl;exact Cj (Cq h1 h2) (C_ _)
theorem pq {cells:List (Cy×h_)} {x:Cy} {c:h_}:∀(ns:List (Cy×FO)) (acc:List (Cy×h_)),(pw cells ns acc).lookup x=a_ c ->
  ((x,Co)∈ns/\c=(cells.lookup x).getD 0)\/acc.lookup x=a_ c
 |[],_,h=>.inr h
 |(y,k)::r,acc,h=>by
  unfold pw at h;rcases pq r _ h with ⟨m,e⟩|q
  ·exact .inl ⟨Cw _ m,e⟩
  ·by_cases S:(k==Co)=f_
   ·rw [p_ S,Cp] at q;cases J:x==y with
    |true=>
     rw [J] at q;have e1:=EG J;have e2:=EG S;subst e1 e2;exact .inl ⟨Cz,(Cu q).symm⟩
    |false=>rw [J] at q;exact .inr q
   ·rw [l_ S] at q;exact .inr q
theorem nt {cells:List (Cy×h_)} {x:Cy}:∀(ns:List (Cy×FO)) (acc:List (Cy×h_)),((x,Co)∈ns\/(acc.lookup x).isSome=f_)->((pw cells ns acc).lookup x).isSome=f_
 |[],_,h=>h.elim (fun z=>nomatch z) id
 |(y,k)::r,acc,h=>by
  unfold pw;refine nt r _ ?_;rcases h with h|h
  ·rcases r_.mp h with e|h
   ·cases e;refine .inr ?_;rw [p_ (by decide),Cp];simp
   ·exact .inl h
  ·refine .inr ?_;by_cases J:(k==Co)=f_
   ·rw [p_ J,Cp];cases S:x==y with
    |true=>rfl
    |false=>exact h
   ·rw [l_ J];exact h
theorem jE {x:Cy} {c:h_}:∀(ns:List (Cy×FO)) (n:Nat) (acc:List (Cy×h_)),(D7 n ns acc).lookup x=a_ c->(n<=c/\(x,Ef)∈ns)\/acc.lookup x=a_ c
 |[],_,_,h=>.inr h
 |(y,k)::r,n,acc,h=>by
  unfold D7 at h;by_cases S:(k==Ef)=f_
  ·rw [p_ S] at h;rcases jE r (n+1) _ h with ⟨a,m⟩|q
   ·exact .inl ⟨by omega,Cw _ m⟩
   ·rw [Cp] at q;cases J:x==y with
    |true=>
     rw [J] at q;have e1:=EG J;have e2:=EG S;have e3:=Cu q;subst e1 e2 e3;exact .inl ⟨m_ _,Cz⟩
    |false=>rw [J] at q;exact .inr q
  ·rw [l_ S] at h;rcases jE r n acc h with ⟨a,m⟩|q
   ·exact .inl ⟨a,Cw _ m⟩
   ·exact .inr q
theorem nu:∀(ns:List (Cy×FO)) (n:Nat) (acc:List (Cy×h_)),(∀x y c,acc.lookup x=a_ c->acc.lookup y=a_ c->x=y)->(∀x c,acc.lookup x=a_ c->c<n) ->
  ∀x y c,(D7 n ns acc).lookup x=a_ c->(D7 n ns acc).lookup y=a_ c->x=y
 |[],_,_,hi,_=>hi
 |(z,k)::r,n,acc,hi,Y=>by
  unfold D7;by_cases a:(k==Ef)=f_
  ·rw [p_ a];refine nu r (n+1) _ (fun x y c h1 h2=>?_) (fun x c h1=>?_)
   ·rw [Cp] at h1 h2;cases J:x==z with
    |true=>
     rw [J] at h1;have e1:=Cu h1;cases S:y==z with
     |true=>rw [EG J,EG S]
     |false=>
      rw [S] at h2;have U:=Y y c h2;rw [<- e1] at U;exact Cj U (C_ _)
    |false=>
     rw [J] at h1;cases S:y==z with
     |true=>
      rw [S] at h2;have e2:=Cu h2;have U:=Y x c h1;rw [<- e2] at U;exact Cj U (C_ _)
     |false=>
      rw [S] at h2;exact hi x y c h1 h2
   ·rw [Cp] at h1;cases J:x==z with
    |true=>
     rw [J] at h1;have e1:=Cu h1;rw [<- e1];exact DD _
    |false=>
     rw [J] at h1;exact Ey (Y x c h1)
  ·rw [l_ a];exact nu r n acc hi Y
theorem kC {x:Cy} {c:h_}:∀(ns:List (Cy×FO)) (h:CQ) (acc:List (Cy×h_)),(D7 h.objs.size ns acc).lookup x=a_ c ->
  acc.lookup x=a_ c\/(h.objs.size<=c/\(pushCells h ns).IsCell c d_)
 |[],_,_,e=>.inl e
 |(y,k)::r,h,acc,e=>by
  unfold D7 at e;unfold pushCells;by_cases S:(k==Ef)=f_
  ·rw [p_ S] at e ⊢;have q:=kC (x:=x) (c:=c) r (h.push {cls:=.type "cell",data:=.cell d_}) ((y,h.objs.size)::acc) (by rw [CN];exact e);rcases q with q|⟨q1,q2⟩
   ·rw [Cp] at q;cases J:x==y with
    |true=>
     rw [J] at q;have e1:=Cu q;subst e1;exact .inr ⟨m_ _,Heap.IsCell.keeps ⟨_,k_ _ rfl,rfl⟩ (Ke r _)⟩
    |false=>rw [J] at q;exact .inl q
   ·rw [CN] at q1;exact .inr ⟨by omega,q2⟩
  ·rw [l_ S] at e ⊢;exact kC r h acc e
theorem kP {env:J8} (f:Cy×FO->List (Cy×h_)->Mb (ForInStep (List (Cy×h_))))
  (S:∀n k cs,f (n,k) cs=if (k==Co)=f_ then (do let a <- cellOf env n;DC (.yield ((n,a)::cs))) else DC (.yield cs)) :
  ∀(ns:List (Cy×FO)) (acc:List (Cy×h_)),(∀x∈ns,x.2=Co->∃c,env.cells.lookup x.1=a_ c)->forIn ns acc f=(DC (pw env.cells ns acc):Mb _)
 |[],acc,_=>by rw [JT];rfl
 |(y,k)::r,acc,Y=>by
  have U:∀x∈r,x.2=Co->∃c,env.cells.lookup x.1=a_ c:=fun x d=>Y x (Cw _ d);rw [MI,S];unfold pw;by_cases J:(k==Co)=f_
  ·rw [p_ J,p_ J];obtain ⟨c,e⟩:=Y (y,k) Cz (EG J);have b:env.cells.lookup y=a_ c:=e;have e2:cellOf env y=DC c:=by unfold cellOf;rw [b]
   rw [e2,b];exact kP f S r _ U
  ·rw [l_ J,l_ J];exact kP f S r _ U
theorem pk (J:∀x∈scope.names,x.2=Co->∃c,env.cells.lookup x.1=a_ c):closureFor scope env=DC (pw env.cells scope.names []):=by
 simp only [closureFor];rw [kP (env:=env) _ (fun n k cs=>by cases h:(k==Co)<;>simp [h]) scope.names [] J];rfl
theorem AF {M:Kb} {d:h_} {U:List (Cy×h_)} {J:J8} {Q:J8->t_->Prop}
  (f:∀h1:CQ,(∀b o,s.heap.get? b=a_ o->h1.get? b=a_ o)->h1.Ns s.heap.objs.size (fun _=>d_) ->
   (∀x c,(D7 (s.heap.objs.size+1) scope.names U).lookup x=a_ c->U.lookup x=a_ c\/(s.heap.objs.size<c/\h1.IsCell c d_)) ->
   Q {scope:=scope,locals:=s.heap.objs.size,globals:=d,cells:=D7 (s.heap.objs.size+1) scope.names U,qual:=qual,func:=d_,code:=J.code,frame:=J.frame,builtins:=J.builtins} {s with heap:=h1}) :
  s_ M A (KH scope d U [] qual d_ .none (a_ J)) Q E s:=by
 simp only [KH,Option.isSome_some,Jp];refine b_ (wpAny_alloc ?_);refine b_ (wpAny_layCells _ (fun name S cells=>by cases Y:S==Ef<;>simp [Y]) _ _ _ _ ?_);rw [show ({s with heap:=s.heap.push {cls:=.type "dict",data:=.dict #[]}}:t_).heap.objs.size=s.heap.objs.size+1 from CN ..];rw [JT];refine b_ (e_ (e_ ?_));refine f _ (fun b o e=>Ke _ _ b o (g_ _ e)) ((Heap.Ns.new s.heap (.type "dict")).keeps (Ke _ _)) fun x c e=>?_;have q:=kC (x:=x) (c:=c) scope.names (s.heap.push {cls:=.type "dict",data:=.dict #[]}) U (by rw [CN];exact e);rw [CN] at q;exact q.imp id fun ⟨a,b⟩=>⟨by omega,b⟩
theorem oA {env:J8} {x:Cy}:∀{ns:List (Cy×FO)},ns.lookup x=a_ .free ->
  (ns.map fun (n,k)=>if (k==Co&&env.scope.kind==.function&&env.kindOf n==a_ .cell) then (n,Ef) else (n,k)).lookup x=a_ .cell \/
  (ns.map fun (n,k)=>if (k==Co&&env.scope.kind==.function&&env.kindOf n==a_ .cell) then (n,Ef) else (n,k)).lookup x=a_ .free
 |[],h=>by simp at h
 |(n,k)::r,h=>by
  have S:=@oA env x r;rw [A_];dsimp only;by_cases U:(k==Co&&env.scope.kind==.function&&env.kindOf n==a_ .cell)=f_
  ·rw [p_ U,Cp];cases J:x==n with
   |true=>exact .inl rfl
   |false=>rw [Cp,J] at h;exact S h
  ·rw [l_ U,Cp];cases J:x==n with
   |true=>
    rw [Cp,J] at h;have e:=Cu h;subst e;exact .inr rfl
   |false=>rw [Cp,J] at h;exact S h
theorem oB {env:J8} {x:Cy}:∀{ns:List (Cy×FO)},
  ((ns.map fun (n,k)=>if (k==Co&&env.scope.kind==.function&&env.kindOf n==a_ .cell) then (n,Ef) else (n,k)).lookup x=a_ .cell \/
  (ns.map fun (n,k)=>if (k==Co&&env.scope.kind==.function&&env.kindOf n==a_ .cell) then (n,Ef) else (n,k)).lookup x=a_ .free) ->
  ns.lookup x=a_ .cell\/ns.lookup x=a_ .free
 |[],h=>by simp at h
 |(n,k)::r,h=>by
  have U:=@oB env x r;rw [A_] at h;dsimp only at h;by_cases S:(k==Co&&env.scope.kind==.function&&env.kindOf n==a_ .cell)=f_
  ·rw [p_ S,Cp] at h;rw [Cp];cases J:x==n with
   |true=>
    have:k=Co:=by
     rw [u_,u_] at S;exact EG S.1.1
    subst this;exact .inr rfl
   |false=>rw [J] at h;exact U h
  ·rw [l_ S,Cp] at h;rw [Cp];cases J:x==n with
   |true=>rw [J] at h;exact h
   |false=>rw [J] at h;exact U h
noncomputable def aU (X:Cx) (N':List Cy) (sc:JK) (L:h_) (cs:List (Cy×h_)) (s:t_) (H:Hp) (fp:List h_):Cx:=
 {X with
  N:=N',s₀:=s,H₀:=H,outer:=X.stack,ex:=fp,pn:=[],xe:=fun _ _=>False
  fn:=fun x=> !(sc.names.any fun p=>p.1==x&&p.2==Co)
  env:={scope:=relabel sc X.env,locals:=L,globals:=X.env.globals,cells:=cs,qual:=X.env.qual,func:=d_,code:=X.env.code,frame:=X.env.frame,builtins:=X.env.builtins}}
noncomputable def inS (ix:List (Option Nat)) (σ:St):St:=ix.map fun o=>match o with
 |none=>d_
 |some j=>(σ[j]?).join
noncomputable def bj (N:List Cy) (J:JK) (N':List Cy) (sc:JK) (ix:List (Option Nat)):Bool:=
 Ca (ix.length=N'.length) &&
 ((Cc ix.length).all fun i=>match ix[i]? with
  |some (a_ j)=>(match N'[i]?,N[j]? with
   |some x,a_ y=>x==y&&sc.names.lookup x==a_ Co
   |_,_=>c_)
  |_=>f_) &&
 (sc.names.all fun p=>(p.2 != Co||(J.names.lookup p.1==a_ Ef||J.names.lookup p.1==a_ Co))&&(p.2 != NameKind.local||sc.names.lookup p.1==a_ NameKind.local)) &&
 (sc.names.all fun p=>sc.names.all fun q=> !(p.1==q.1)||p.2==q.2)
section
theorem bj.len (J:bj X.N X.env.scope N' sc ix=f_):ix.length=N'.length:=by
 unfold bj at J;rw [u_,u_,u_] at J;exact EW J.1.1.1
theorem bj.at (J:bj X.N X.env.scope N' sc ix=f_) {i j:Nat} {x:Cy} (h:ix[i]? =a_ (a_ j)) (S:N'[i]? =a_ x):X.N[j]? =a_ x/\sc.names.lookup x=a_ .free:=by
 unfold bj at J;rw [u_,u_,u_] at J;have q:=F8.mp J.1.1.2 i (CO.mpr (y_.mp h).1);rw [h,S] at q;dsimp only at q;cases e:X.N[j]? with
 |none=>rw [e] at q;cases q
 |some y=>
  rw [e] at q;dsimp only at q;rw [u_] at q;exact ⟨by rw [EG q.1],EG q.2⟩
theorem bj.fr (J:bj X.N X.env.scope N' sc ix=f_) (h:(x,Co)∈sc.names):X.env.kindOf x=a_ .cell\/X.env.kindOf x=a_ .free:=by
 unfold bj at J;rw [u_,u_] at J;have q:=F8.mp J.1.2 _ h;rw [u_] at q;have q1:=q.1;rw [HG] at q1;rcases q1 with z|z
 ·exact Cj z (by simp)
 ·rw [HG] at z;exact z.imp (fun e=>EG e) fun e=>EG e
theorem bj.loc (J:bj X.N X.env.scope N' sc ix=f_):∀x∈sc.names,x.2=NameKind.local->sc.names.lookup x.1=a_ .local:=fun x S e=>by
 unfold bj at J;rw [u_,u_] at J;have q:=F8.mp J.1.2 _ S;rw [u_] at q;have q1:=q.2;rw [HG] at q1;rcases q1 with z|z
 ·rw [e] at z;exact Cj z (by decide)
 ·exact EG z
theorem bj.apart (J:bj X.N X.env.scope N' sc ix=f_) (h1:(x,Ef)∈sc.names) (h2:(x,Co)∈sc.names):False:=by
 unfold bj at J;rw [u_] at J;have q:=F8.mp (F8.mp J.2 _ h1) _ h2;simp at q
theorem iG (I:Inv X pins σ H s) (J:bj X.N X.env.scope N' sc ix=f_):∀x∈sc.names,x.2=Co->∃c,X.env.cells.lookup x.1=a_ c:=fun x S e=>by
 obtain ⟨n,k⟩:=x;have U:k=Co:=e;subst U;exact I.ok.has n (bj.fr J S)
theorem BI (I:Inv X pins σ H s) (S:bj X.N X.env.scope N' sc ix=f_) {c:h_} (h:(pw X.env.cells sc.names []).lookup x=a_ c):(x,Co)∈sc.names/\X.env.cells.lookup x=a_ c:=by
 rcases pq _ _ h with ⟨m,e⟩|z
 ·obtain ⟨d,hd⟩:=iG I S _ m rfl;have J:X.env.cells.lookup x=a_ d:=hd;rw [J] at e;have e2:c=d:=e;subst e2;exact ⟨m,J⟩
 ·simp at z
theorem comp_inv (I:Inv X pins σ H s) (B:∀b∈fp,zp X pins H b) (hb:∀b∈fp,∃o,s.heap.get? b=a_ o) (d:bj X.N X.env.scope N' sc ix=f_) (hk:sc.kind=.function) (Y:s.heap.objs.size<=L)
  (A:∀b o,s.heap.get? b=a_ o->h1.get? b=a_ o) (ns:h1.Ns L fun _=>d_)
  (g:∀x c,(D7 (L+1) sc.names (pw X.env.cells sc.names [])).lookup x=a_ c->(pw X.env.cells sc.names []).lookup x=a_ c\/(L<c/\h1.IsCell c d_)) :
  Inv (aU X N' sc L (D7 (L+1) sc.names (pw X.env.cells sc.names [])) s H fp) [] (inS ix σ) H {s with heap:=h1}:=by
 have S:∀x c,(pw X.env.cells sc.names []).lookup x=a_ c->(x,Co)∈sc.names/\X.env.cells.lookup x=a_ c/\(∃v,s.heap.IsCell c v)/\c<s.heap.objs.size:=fun x c e=>by
  obtain ⟨m,Q⟩:=BI I d e;obtain ⟨v,z⟩:=I.cell x c Q;exact ⟨m,Q,⟨v,z⟩,z.lt⟩
 have n:∀b∈fp,b<s.heap.objs.size:=fun b z=>let ⟨o,e⟩:=hb b z;o_ e;have N:∀b∈fp,∀x c,(D7 (L+1) sc.names (pw X.env.cells sc.names [])).lookup x=a_ c->c≠b:=fun b z x c e=>by
  have a:=n b z;rcases g x c e with q|⟨q,_⟩
  ·exact (B b z).2.2.2.2.1 x c (S x c q).2.1
  ·exact gt_ne (Cq a Y) q
 have D:(aU X N' sc L (D7 (L+1) sc.names (pw X.env.cells sc.names [])) s H fp).Ok:=by
  refine ⟨I.ok.mod,hk,I.ok.glob,I.ok.blt,Y,?_,?_,?_,I.ok.hd,I.ok.frames,.inl rfl,?_,I.bs,C9 I.ok.bsz I.sz,?_,?_,I.stack,I.zN⟩
  ·refine nu sc.names (L+1) _ (fun x y c e1 e2=>I.ok.inj x y c (S x c e1).2.1 (S y c e2).2.1) fun x c e=>?_;exact Ey (Cq (S x c e).2.2.2 Y)
  ·intro x W;have E:=oB (env:=X.env) (x:=x) (ns:=sc.names) W;have q:((D7 (L+1) sc.names (pw X.env.cells sc.names [])).lookup x).isSome=f_:=by
    rcases E with z|z
    ·exact Fj _ _ _ (.inl z)
    ·exact Fj _ _ _ (.inr (nt _ _ (.inl (DK z))))
   exact E2.mp q
  ·intro x c G e;show s.heap.objs.size<=c;rcases g x c e with q|⟨q,_⟩
   ·have m:=(S x c q).1;have U:(!(sc.names.any fun p=>p.1==x&&p.2==Co))=f_:=G;have z:(sc.names.any fun p=>p.1==x&&p.2==Co)=f_:=List.any_eq_true.mpr ⟨_,m,by simp⟩;rw [z] at U;cases U
   ·exact C9 Y (EL q)
  ·intro b z;have a:=n b z;exact ⟨Cd (Cq a Y),N b z⟩
  ·intro b o e z;rcases (B b z).2.2.2.1 with q|q
   ·exact I.ok.noex b o e q
   ·exact Cj (Cq (o_ e) (C9 I.ok.bsz q)) (C_ _)
  ·intro b z Z;rcases r_.mp (I.oo b Z) with q|q
   ·exact (B b z).2.1 q
   ·exact (B b z).2.2.1 q
 refine ⟨D,rfl,I.bare,Un.kept A,⟨_,ns,fun i x v K h2 h3=>?_⟩,fun x c e=>?_,I.hok.fresh Y,fun x c e=>?_,fun p hp=>Cj hp (by simp [aU]),I.hok.kept A,?_⟩
 ·have F:∃j,ix[i]? =a_ (a_ j)/\σ[j]? =a_ (a_ v):=by
   unfold inS at h2;rw [CC] at h2;cases e:ix[i]? with
   |none=>rw [e] at h2;cases h2
   |some o=>
    rw [e] at h2;cases o with
    |none=>cases h2
    |some j=>
     have J:(σ[j]?).join=a_ v:=Cu h2;refine ⟨j,rfl,?_⟩
     cases e2:σ[j]? with
     |none=>rw [e2] at J;cases J
     |some w=>
      rw [e2] at J;have h:w=a_ v:=J;rw [h]
  obtain ⟨j,e1,e2⟩:=F;obtain ⟨e3,e4⟩:=bj.at d e1 K;have f:=bj.fr d (DK e4);obtain ⟨m,hn,hl⟩:=I.loc;obtain ⟨u,r,l⟩:=hl j x v e3 e2 (f.elim (fun z=>.inr (.inl z)) fun z=>.inr (.inr z));refine ⟨u,r,.inr ⟨oA (env:=X.env) (x:=x) (ns:=sc.names) e4,?_⟩⟩
  rcases l with ⟨k,_⟩|⟨k,c,e,z⟩
  ·rcases f with q|q<;>rw [q] at k<;>cases k
  ·have q1:=nt (cells:=X.env.cells) sc.names [] (.inl (DK e4));obtain ⟨c2,q2⟩:=E2.mp q1;have P:=(S x c2 q2).2.1;rw [e] at P;cases P;have R:=Fj (x:=x) sc.names (L+1) (pw X.env.cells sc.names []) (.inr q1);obtain ⟨c3,C⟩:=E2.mp R;rcases g x c3 C with t|⟨t,q7⟩
   ·rw [q2] at t;cases t;exact ⟨c,C,z.keeps A⟩
   ·exfalso;rcases jE _ _ _ C with ⟨_,T⟩|O
    ·exact bj.apart d T (DK e4)
    ·rw [q2] at O;cases O;exact Cj (HE (Cq (S x c q2).2.2.2 Y) t) (C_ _)
 ·rcases g x c e with q|⟨_,q⟩
  ·obtain ⟨v,z⟩:=(S x c q).2.2.1;exact ⟨v,z.keeps A⟩
  ·exact ⟨_,q⟩
 ·rcases g x c e with q|⟨q,_⟩
  ·exact I.freeC x c (S x c q).2.1
  ·exact I.hok.fresh (C9 Y (EL q))
 ·show (inS ix σ).length=N'.length;unfold inS;rw [v_];exact bj.len d
end
def PTs (X:Cx) (ifs:List Dr) (t:TT):Prop:=
 ∀(pins:Pn) (s:t_) (σ:St) (H:Hp) (Q:Bool->Hp->Prop),Inv X pins σ H s->t σ H Q ->
  s_ (w_ X.prog X.w) X.A (forIn ifs f_ fun c r=>if r=f_ then do let J <- LS c X.env (Cf c X.env);DC (Hf J) else DC (Hf r)) (TP X pins σ Q) X.xe s
noncomputable def tYes:TT:=fun _ H Q=>Q f_ H
theorem pts_nil:PTs X [] tYes:=fun _ _ _ H _ I h=>wpAny_tests_nil ⟨H,I,h⟩
theorem pts_one {c:Dr} {t:TT} (h:PT X c t):PTs X [c] t:=fun pins s σ H Q I q=>wpAny_tests_one (h pins s σ H Q I q)
theorem u5 {R:Jv->t_->Prop} {a acc:i_} (J:Nat->t_->Prop)
  (S:∀n s,J n s->s_ (w_ prog w) A (FF a) (fun r d=>match r with
   |none=>R (.ok .next) d
   |some v=>s_ (w_ prog w) A (Ir tg a v) (fun _ U=>s_ (w_ prog w) A (GP tg env v) (fun _ i=>
     s_ (w_ prog w) A (forIn ifs f_ fun c r=>if r=f_ then do let Y <- LS c env (Cf c env);DC (Hf Y) else DC (Hf r)) (fun Y b=>
      if Y=f_ then s_ (w_ prog w) A (Cf elt env) (fun x g=>s_ (w_ prog w) A (Gg (.builtin "list.append") [acc,x]) (fun _ f=>∃m,m<n/\J m f) (fun _ _=>False) g) (fun _ _=>False) b
      else ∃m,m<n/\J m b) (fun _ _=>False) i) (fun _ _=>False) U) (fun _ _=>False) d) (fun _ _=>False) s)
  (n:Nat) (h:J n s):FG (w_ prog w) A (.compLoop (.ListComp elt [⟨tg,iter,ifs,0⟩] scope pos) 0 a acc env) R s:=by
 refine codeAny_loop rfl J (fun n s k=>?_) n h;show s_ _ A ((compTurn (.ListComp elt [⟨tg,iter,ifs,0⟩] scope pos) 0 a acc env).onRaise (fun x=>do Lu x env;theTreesLotGoes x)) _ _ s;refine wpAny_noted ?_;rw [compTurn_list];refine b_ (HA (b_ (Di (S n s k) (fun r d h1=>?_) fun _ _ z=>z.elim)));cases r with
 |none=>exact e_ h1
 |some v=>
  refine b_ (Di h1 (fun _ U e=>?_) fun _ _ z=>z.elim);refine b_ (Di e (fun _ i h2=>b_ (Di h2 (fun Y b j=>?_) fun _ _ z=>z.elim)) fun _ _ z=>z.elim);cases Y with
  |false=>exact e_ ⟨rfl,j⟩
  |true=>
   exact b_ (b_ (Di j (fun x g o=>b_ (Di o (fun _ f l=>e_ (e_ ⟨rfl,l⟩)) fun _ _ z=>z.elim)) fun _ _ z=>z.elim))
def kj (J:It) (ix:List (Option Nat)) (g:TG) (tt:TT) (te:TE) (σ:St) (F:List V->Hp->Prop) (H:Hp):Prop:=
 ∃W:Nat->Nat->List V->Hp->Prop,(∃m,W 0 m [] H)/\∀i m ys H,W i m ys H ->
  (J.stop i H/\ys.length<=n_/\F ys H)\/(J.go i H/\ys.length<=n_/\∃N:List V->Hp->Prop,(∀U H',N U H'->∃Y,Y<m/\W (i+1) Y U H') /\
   ∀x H',J.yld i H x H'->g x (inS ix σ) H' fun S H2=>tt S H2 fun b a=>if b=f_ then te S a fun y c=>N (ys++[y]) c else N ys a)
section
theorem Inv.slots0 (I:Inv X pins σ' H s) (h:∀(i:Nat) v,(inS ix σ)[i]? =a_ (a_ v)->σ'[i]? =a_ (a_ v)) (J:(inS ix σ).length=X.N.length):Inv X pins (inS ix σ) H s:=
 I.weak (by rw [J,I.len]) h
theorem u4 {g:TG} {J:It} {it:h_} {tn:Nat->CQ->Prop} {F:List V->Hp->Prop} {E:Vp}
  (hc:X.calm=f_) (I:Inv X pins σ H s) (T:Turn X.prog X.w X.K tg J fp it tn) (st:tn 0 s.heap) (hf:∀b∈fp,zp X pins H b) (ok:bj X.N X.env.scope N' sc ix=f_) (hk:sc.kind=.function)
  (hg:∀L cs s H fp,PG (aU X N' sc L cs s H fp) tg g) (hkeep:∀x σ' H' (Q:St->Hp->Prop),g x σ' H' Q->g x σ' H' fun σ2 H2=>Q σ2 H2/\∀(i:Nat) v,σ'[i]? =a_ (a_ v)->(∃j,ix[i]? =a_ (a_ j))->σ2[i]? =a_ (a_ v))
  (ht:∀L cs s H fp,PTs (aU X N' sc L cs s H fp) ifs tt) (he:∀L cs s H fp,PE (aU X N' sc L cs s H fp) elt te)
  (tr:kj J ix g tt te σ F H) :
  s_ (w_ X.prog X.w) X.A (LR []) (fun acc s3=>s_ (w_ X.prog X.w) X.A (KH sc X.env.globals (pw X.env.cells sc.names []) [] X.env.qual d_ .none (a_ X.env)) (fun U s4=>
   FG (w_ X.prog X.w) X.A (.compStart (.ListComp elt [⟨tg,iter,ifs,0⟩] sc pos) 0 (.ref it) acc {U with scope:=relabel sc X.env}) (fun r s'=>(∃fl,r=.ok fl) /\
    ∃(p:h_) (ys:List V) (H2:Hp),acc=.ref p/\Inv X pins σ (upd H2 p (.lst ys)) s'/\H2 p=d_/\F ys H2/\(∃m,s'.heap.Ns U.locals m)/\(upd H2 p (.lst ys)) U.locals=d_/\U.locals≠X.env.locals /\
     X.s₀.heap.objs.size<=U.locals/\(∀x c,X.env.cells.lookup x=a_ c->c≠U.locals)/\∀q∈X.pn++pins,q.1≠U.locals) s4) E s3) E s:=by
 obtain ⟨W,⟨m0,w0⟩,turn⟩:=tr;refine Ck (AF fun h1 kp ns hcl=>?_);dsimp only at kp ns hcl ⊢;generalize hH2:s.heap.push {cls:=.type "list",dict:=d_,data:=.seq ([]:List i_).toArray}=l at kp ns hcl ⊢;have eL:l.objs.size=s.heap.objs.size+1:=by rw [<- hH2,CN]
 have kp0:∀b o,s.heap.get? b=a_ o->h1.get? b=a_ o:=fun b o e=>kp b o (hH2▸g_ _ e);have hD0:h1.PlainList s.heap.objs.size #[]:=⟨_,kp _ _ (hH2▸k_ _ rfl)⟩
 have fpo:∀b∈fp,∃o,s.heap.get? b=a_ o:=fun b z=>let ⟨o,e,_⟩:=T.obj 0 _ st b z;⟨o,e⟩;have fpl:∀b∈fp,b<s.heap.objs.size:=fun b z=>let ⟨o,e⟩:=fpo b z;o_ e;have sL:s.heap.objs.size<=l.objs.size:=by rw [eL];exact Ee _
 have P:s.heap.objs.size<l.objs.size:=by rw [eL];exact DD _
 have I0:=comp_inv (h1:=h1) I hf fpo ok hk sL kp0 ns hcl;generalize S:aU X N' sc l.objs.size (D7 (l.objs.size+1) sc.names (pw X.env.cells sc.names [])) s H fp=Y at I0;have w:Y.prog=X.prog:=by subst S;rfl
 have t:Y.w=X.w:=by subst S;rfl
 have eY3:Y.K=X.K:=by subst S;rfl
 have eY4:Y.calm=f_:=by subst S;exact hc
 have C:Y.A=X.A:=by subst S;rfl
 have f:Y.env={scope:=relabel sc X.env,locals:=l.objs.size,globals:=X.env.globals,cells:=D7 (l.objs.size+1) sc.names (pw X.env.cells sc.names []),qual:=X.env.qual,func:=d_,code:=X.env.code,frame:=X.env.frame,builtins:=X.env.builtins}:=by subst S;rfl
 have eY7:Y.xe=fun _ _=>False:=by subst S;rfl
 have eY8:Y.pn=[]:=by subst S;rfl
 have eY9:Y.fs=frs X.stack:=by subst S;rfl
 have D:Y.s₀=s:=by subst S;rfl
 have eY11:Y.H₀=H:=by subst S;rfl
 have eY12:Y.ex=fp:=by subst S;rfl
 have eY13:Y.N=N':=by subst S;rfl
 have hgY:PG Y tg g:=by subst S;exact hg _ _ _ _ _
 have htY:PTs Y ifs tt:=by subst S;exact ht _ _ _ _ _
 have heY:PE Y elt te:=by subst S;exact he _ _ _ _ _
 have lenI:(inS ix σ).length=Y.N.length:=by rw [eY13];unfold inS;rw [v_];exact bj.len ok
 have G:∀(b:h_),b<=l.objs.size->(∀x c,X.env.cells.lookup x=a_ c->c≠b)->∀x c,Y.env.cells.lookup x=a_ c->c≠b:=fun b a hx x c e=>by
  rw [f] at e;rcases hcl x c e with q|⟨q,_⟩
  ·exact hx x c (BI I ok q).2
  ·exact (yD (L4 a (DD _)) q).symm
 have oldc:∀x c,X.env.cells.lookup x=a_ c->c<s.heap.objs.size:=fun x c e=>let ⟨v,z⟩:=I.cell x c e;z.lt;have nfs:∀b,s.heap.objs.size<=b->b∉frs X.stack:=fun b a z=>by
  rcases r_.mp (I.oo b z) with q|q
  ·exact yD I.lt a q.symm
  ·exact I.nofs a q
 have fpY:∀(pp:Pn) (H':Hp),(∀b∈fp,H' b=d_)->(∀q∈pp,q.1∉fp)->∀b∈fp,zp Y pp H' b:=fun pp H' hn Z b z=>by
  have hlt:=fpl b z;refine ⟨hn b z,?_,?_,.inl (by rw [eY12];exact z),G b (EL (HE hlt P)) ((hf b z).2.2.2.2.1),fun q B e=>?_⟩
  ·rw [f];exact yD hlt sL
  ·rw [eY9];intro hs;rcases r_.mp (I.oo b hs) with q|q
   ·exact (hf b z).2.1 q
   ·exact (hf b z).2.2.1 q
  ·rw [eY8] at B;exact Z q (by simpa using B) (by rw [e];exact z)
 have Dfp:s.heap.objs.size∉fp:=fun z=>Cj (fpl _ z) (C_ _);have Dok:∀(pp:Pn) (H':Hp),H' s.heap.objs.size=d_->(∀q∈pp,q.1≠s.heap.objs.size)->zp Y pp H' s.heap.objs.size:=fun pp H' hn Z=>by
  refine ⟨hn,?_,by rw [eY9];exact nfs _ (m_ _),.inr (by rw [D];exact m_ _),G _ sL (fun x c e=>Cd (oldc x c e)),fun q B=>?_⟩
  ·rw [f];exact Cd P
  ·rw [eY8] at B;exact Z q (by simpa using B)
 have A:FG (w_ X.prog X.w) X.A (.compLoop (.ListComp elt [⟨tg,iter,ifs,0⟩] sc pos) 0 (.ref it) (.ref s.heap.objs.size) Y.env) (fun r s'=>(∃fl,r=.ok fl) /\
    ∃(p:h_) (ys:List V) (H2:Hp),x_ s.heap.objs.size=.ref p/\Inv X pins σ (upd H2 p (.lst ys)) s'/\H2 p=d_/\F ys H2/\(∃m,s'.heap.Ns l.objs.size m)/\(upd H2 p (.lst ys)) l.objs.size=d_/\l.objs.size≠X.env.locals /\
     X.s₀.heap.objs.size<=l.objs.size/\(∀x c,X.env.cells.lookup x=a_ c->c≠l.objs.size)/\∀q∈X.pn++pins,q.1≠l.objs.size) {s with heap:=h1}:=by
  refine u5 (fun n s'=>∃i ys its H',Inv Y [] (inS ix σ) H' s'/\tn i s'.heap/\(∀b∈fp,H' b=d_)/\H' s.heap.objs.size=d_/\s'.heap.PlainList s.heap.objs.size its/\Vals ys its.toList/\W i n ys H') ?_ m0
   ⟨0,[],#[],H,I0,T.keep _ _ _ st fun b _ o e=>kp0 b o e,fun b z=>(hf b z).1,I.hok.fresh (m_ _),hD0,.nil,w0⟩
  rintro n s3 ⟨i,ys,its,K,I3,st3,fr3,h,pl3,N,w3⟩;obtain ⟨R,oD⟩:=pl3;have hpD:∀q∈[((s.heap.objs.size:h_),({cls:=.type "list",data:=.seq its R}:GX))],q.1∉fp:=fun q Z=>by
   have:q=_:=G0.mp Z;rw [this];exact Dfp
  have I3':Inv Y [((s.heap.objs.size:h_),({cls:=.type "list",data:=.seq its R}:GX))] (inS ix σ) K s3:=I3.qj fun q Z=>by
   have e:q=_:=G0.mp Z;obtain ⟨d0,d1,d2,_⟩:=Dok [] K h (fun _ z=>nomatch z);rw [e];exact ⟨oD,d0,d1,d2,fun v z=>by cases z⟩
  rcases turn i n ys K w3 with ⟨stop,ln,qn⟩|⟨go,ln,NN,hNN,step⟩
  ·have h1:=T.done Y w t eY3 eY4 i _ s3 _ K (fun _ _=>False) I3' (fpY _ K fr3 hpD) st3 stop;rw [C] at h1;refine Di h1 (fun r s4 ⟨hr,I4⟩=>?_) fun _ _ z=>z;subst hr;obtain ⟨oD4,hD4,_⟩:=I4.pin ((s.heap.objs.size:h_),({cls:=.type "list",data:=.seq its R}:GX)) (by rw [eY8];simp);refine ⟨⟨_,rfl⟩,s.heap.objs.size,ys,K,rfl,?_,h,qn,?_,?_,?_,?_,?_,?_⟩
   ·have O:Un (frs X.stack) fp H K s.heap s4.heap:=by
     have:=I4.base;rw [eY9,D,eY11,eY12] at this;exact this
    have hok4:HOk X.prog X.w K s4.heap:=by
     have:=I4.hok;rw [w,t] at this;exact this
    refine I.call' (ch:=fp) (by have:=I4.os;rw [D] at this;exact this) ⟨O.keep,O.slot,fun b o e nn hx=>?_,O.there,fun b xs q=>?_,fun b o u q=>?_,fun b ps q=>?_⟩ (fun b u e=>?_) I4.bare (fun b a=>?_)
    ·rw [aq (Cd (o_ e))];exact O.free b o e nn hx
    ·rw [aq (aF (O.tups b xs q) h)];exact O.tups b xs q
    ·rw [aq (aF (O.frzs b o u q) h)];exact O.frzs b o u q
    ·obtain ⟨more,z⟩:=O.tbls b ps q;exact ⟨more,by rw [aq (aF z h)];exact z⟩
    ·by_cases a:b=s.heap.objs.size
     ·subst a;rw [ao] at e;cases e;exact ⟨ln,its.toList,R,N,by simpa using oD4⟩
     ·rw [aq a] at e;exact (hok4 b u e).uz (fun _ _ _ q=>q) (fun c q=>by rw [aq (aF q h)];exact q) fun c xs q=>by rw [aq (aF q h)];exact q
    ·obtain ⟨f0,f1,f2,f3,f4,f5⟩:=hf b a;exact ⟨f3,f1,f4,f5⟩
   ·obtain ⟨m,hn,_⟩:=I4.loc;rw [f] at hn;exact ⟨m,hn⟩
   ·rw [aq (Eb P)];have:=I4.free;rw [f] at this;exact this
   ·exact Eb (HE I.lt P)
   ·exact C9 I.sz sL
   ·exact fun x c e=>yD (oldc x c e) sL
   ·exact fun q Z=>yD (o_ (I.pin q Z).1) sL
  ·have h1:=T.item Y w t eY3 eY4 i _ s3 _ K (fun _ _=>False) I3' (fpY _ K fr3 hpD) st3 go;rw [C] at h1;refine Di h1 (fun r s4 ⟨u,hr,h4⟩=>?_) fun _ _ z=>z;subst hr;refine Di h4 (fun _ s5 ⟨x,H5,I5,r5,y5,st5,fr5⟩=>?_) fun _ _ z=>z;have I5':=I5.pinned (fpY _ H5 fr5 hpD) (T.obj _ _ st5);have h5:=hgY _ s5 _ H5 x u _ I5' r5 (hkeep x _ H5 _ (step x H5 y5));rw [w,t,C,eY7] at h5;refine Di h5 (fun _ s6 ⟨σ6,H6,I6,q6,k6⟩=>?_) fun _ _ z=>z;have h6:=htY _ s6 σ6 H6 _ I6 q6;rw [w,t,C,eY7] at h6;refine Di h6 (fun b s7 ⟨H7,I7,q7⟩=>?_) fun _ _ z=>z;have back:∀{s8:t_} {H8:Hp},Inv Y ([((s.heap.objs.size:h_),({cls:=.type "list",data:=.seq its R}:GX))]++sI fp s5.heap) σ6 H8 s8->Inv Y [] (inS ix σ) H8 s8/\tn (i+1) s8.heap/\(∀b∈fp,H8 b=d_)/\H8 s.heap.objs.size=d_/\s8.heap.get? s.heap.objs.size=a_ {cls:=.type "list",data:=.seq its R}:=fun {s8 H8} I8=>by
    obtain ⟨a1,a2,_⟩:=I8.pin ((s.heap.objs.size:h_),({cls:=.type "list",data:=.seq its R}:GX)) (by rw [eY8];simp);refine ⟨(I8.qj (pins':=[]) fun _ z=>nomatch z).slots0 (fun k v e=>?_) lenI,T.keep _ _ _ st5 fun b a o e=>(I8.pin (b,o) (Dk _ (Dk _ (iQ a e)))).1,fun b a=>?_,a2,a1⟩
    ·refine k6 k v e ?_;unfold inS at e;rw [CC] at e;cases e2:ix[k]? with
     |none=>rw [e2] at e;cases e
     |some o=>
      cases o with
      |none=>rw [e2] at e;cases e
      |some j=>exact ⟨j,rfl⟩
    ·obtain ⟨o,e,d⟩:=T.obj _ _ st5 b a;exact (I8.pin (b,o) (Dk _ (Dk _ (iQ a e)))).2.1
   cases b with
   |false=>
    rw [l_ CI] at q7 ⊢;obtain ⟨m',hm,w7⟩:=hNN _ _ q7;obtain ⟨b1,b2,b3,b4,b5⟩:=back I7;exact ⟨m',hm,i+1,ys,its,H7,b1,b2,b3,b4,⟨R,b5⟩,N,w7⟩
   |true=>
    rw [p_ rfl] at q7 ⊢;have h7:=heY _ s7 σ6 H7 _ I7 q7;rw [w,t,C,eY7,f] at h7;rw [f];refine Di h7 (fun uu s8 ⟨y,H8,I8,r8,q8⟩=>?_) fun _ _ z=>z;obtain ⟨m',hm,w8⟩:=hNN _ _ q8;obtain ⟨b1,b2,b3,b4,b5⟩:=back I8;have ez:its.size<=n_:=by
     have h1:=N.length;have h2:its.toList.length=its.size:=by simp
     omega
    refine wpAny_list_append_plain (hsz:=ez) ⟨R,b5⟩ fun h9 pl9 sb9=>?_;obtain ⟨d0,d1,d2,d3,d4,d5⟩:=Dok [] H8 b4 (fun _ z=>nomatch z);refine ⟨m',hm,i+1,ys++[y],its.push uu,H8,b1.turned (t':=s8.toks) (fun b o a e=>(sb9.2 b a).trans e) d0 d1 d3 d4 d5,T.keep _ _ _ b2 fun b a o e=>(sb9.2 b ?_).trans e,b3,b4,pl9,?_,w8⟩
    ·exact yD (fpl b a) (m_ _)
    ·rw [IV];exact N.append (.cons r8 .nil)
 rw [f] at A;exact codeAny_compStart_list A (T.self X.A 0 _ _ _ (T.keep _ _ _ st fun b _ o e=>kp0 b o e) A)
end
def tComp (wi:TI) (ix:List (Option Nat)) (g:TG) (tt:TT) (te:TE):TE:=fun σ H Q=>wi σ H fun J H1=>kj J ix g tt te σ (fun ys H2=>∀p,H2 p=d_->Q (.ref p) (upd H2 p (.lst ys))) H1
def nz (ix:List (Option Nat)) (g:TG):Prop:=∀x σ' H' (Q:St->Hp->Prop),g x σ' H' Q->g x σ' H' fun J H2=>Q J H2/\∀(i:Nat) v,σ'[i]? =a_ (a_ v)->(∃j,ix[i]? =a_ (a_ j))->J[i]? =a_ (a_ v)
theorem aK (h:ix[k]? =a_ d_):nz ix (n4 k):=fun x σ' H' Q q=>⟨q,fun i v e ⟨j,J⟩=>by
 have:k≠i:=by rintro rfl;rw [h] at J;cases J
 rw [q_ this];exact e⟩
section
variable {wi:TI} {g:TG} 
theorem pe_comp (N':List Cy) (ix:List (Option Nat)) (z:X.calm=f_) (hi:PI X tg iter wi) (w:∀L cs s H fp,PG (aU X N' sc L cs s H fp) tg g) (u:nz ix g)
  (j:∀L cs s H fp,PTs (aU X N' sc L cs s H fp) ifs tt) (y:∀L cs s H fp,PE (aU X N' sc L cs s H fp) elt te)
  (U: ~~~(bj X.N X.env.scope N' sc ix=f_)) (Y: ~~~(sc.kind=.function)) (k:autoParam (∀x,E8 iter X.env x=DC x) Jq5) :
  PE X (.ListComp elt [⟨tg,iter,ifs,0⟩] sc pos) (tComp wi ix g tt te):=by
 intro pins s σ H Q I h;rw [eval_ListComp];refine K9 (use:=d_) rfl k (pk (iG I U)) Y (bj.loc U) (thn (hi pins s σ H _ I h) fun v s1 h1=>thn h1 fun i s2 h2=>?_);obtain ⟨it,fp,R,J,H2,e,P,T,S,D,c⟩:=h2;subst e;refine thn (u4 z P T S D U Y w u j y c) fun acc Z C=>thn C fun a W B=>Er B fun r f l=>?_;obtain ⟨⟨fl,e1⟩,p,ys,H5,e2,O,n,q,⟨m,t⟩,N,K,G,F,E⟩:=l;subst e1;subst e2;exact ⟨m,t,fun h' d=>⟨.ref p,_,O.turned (t':=f.toks) (fun b o A e=>(d.2 b A).trans e) N K (.inr G) F E,rfl,q p n⟩⟩
def wm (j:Nat) (wi:TI) (ix:List (Option Nat)) (g:TG) (tt:TT) (te:TE):TS:=fun D σ H=>wi σ H fun J H1=>kj J ix g tt te σ (fun ys H2=>∀p,H2 p=d_->D.nx (σ.set j (a_ (.ref p))) (upd H2 p (.lst ys))) H1
theorem oE (N':List Cy) (ix:List (Option Nat)) (hN:X.N.Nodup) (O:X.N[j]? =a_ y) (f:X.env.scope.names.lookup y=a_ .local) (W:X.calm=f_) (hi:PI X tg iter wi) (P:∀L cs s H fp,PG (aU X N' sc L cs s H fp) tg g) (N:nz ix g)
  (B:∀L cs s H fp,PTs (aU X N' sc L cs s H fp) ifs tt) (R:∀L cs s H fp,PE (aU X N' sc L cs s H fp) elt te)
  (d: ~~~(Dx (.ListComp elt [⟨tg,iter,ifs,0⟩] sc pos) (a_ (.Name y py)) spos.line X.env=DC f_))
  (c: ~~~(bj X.N X.env.scope N' sc ix=f_)) (i: ~~~(sc.kind=.function)) (C:autoParam (∀x,E8 iter X.env x=DC x) Jq5) :
  PS X (.Assign [.Name y py] (.ListComp elt [⟨tg,iter,ifs,0⟩] sc pos) spos) (wm j wi ix g tt te):=by
 intro pins s σ H D I h;rw [exec_Assign_Name_used _ _ _ _ d];refine b_ (HA (b_ ?_));show s_ _ X.A (do let _ <- comprehension (.ListComp elt [⟨tg,iter,ifs,0⟩] sc pos) sc X.env _ (LR []) c_ (Cf iter X.env) (a_ (GP (.Name y py) X.env))) _ _ s;refine b_ (Di (K9 (use:=a_ (GP (.Name y py) X.env)) (Q:=fun _ s'=>SP X pins D .next s') rfl C (pk (iG I c)) i (bj.loc c) (thn (hi pins s σ H _ I h) fun v s1 h1=>thn h1 fun A s2 h2=>?_)) (fun _ s' F=>e_ (e_ F)) fun _ _ z=>z);obtain ⟨it,fp,tn,J,H2,e,I2,T,U,f2,n⟩:=h2;subst e;refine thn (u4 W I2 T U f2 c i P N B R n) fun acc s3 h3=>thn h3 fun S s4 h4=>Er h4 fun r w E=>?_;obtain ⟨⟨fl,e1⟩,p,ys,H5,e2,I5,G,q,⟨m,K⟩,c0,l,c2,k,c4⟩:=E;subst e1;subst e2;show s_ _ X.A (GP (.Name y py) X.env (.ref p)) _ _ w;refine Nb (rV (v:=.ref p) I5 hN O (.inl f) rfl (fun u I6 ⟨a,t,ha⟩=>?_) (.inr f));have ea:S.locals≠a:=by
  rcases ha with z|z
  ·rw [z];exact l
  ·exact fun e=>k y a z e.symm
 refine ⟨m,K.sameBut t ea,fun h' Y=>?_⟩
 exact ⟨_,_,I6.turned (t':=u.toks) (fun b o Z e=>(Y.2 b Z).trans e) c0 l (.inr c2) k c4,q p G⟩
end
section
theorem xv:∀{bs:List Bool} {us:List i_},Vals (bs.map V.bl) us->LSm.BoolsAre us bs
 |[],_,.nil=>.nil
 |b::r,_,.cons e t=>by cases e;exact .cons b (xv t)
theorem call_all (j:X.calm=f_):bS X (.builtin "all") (fun xs H Q=>∃(a:h_) (bs:List Bool),xs=[.ref a]/\SqL X.K H a (bs.map V.bl)/\Q (.bl (bs.all id)) H):=by
 intro pins s σ H xs us Q I r h;obtain ⟨a,bs,rfl,f,q⟩:=h;obtain ⟨u,rfl,d⟩:=r.one;cases d;obtain ⟨its,c,p,l⟩:=I.list f;have U:=xv c;have S:=p.isList;have J:a<s.heap.objs.size:=by obtain ⟨_,e,_⟩:=S;exact o_ e
 refine call_all_walk (Hv S ?_);refine ⟨s.heap.objs.size,[s.heap.objs.size,a],[s.heap.objs.size],its.toArray.size,_,_,fun i=>(bs[i]?).getD f_,rfl,JH (A:=X.A.in1) (I.ok.hd j) _ a (Cd J) its.toArray,
  ⟨⟨_,k_ _ rfl,rfl,rfl⟩,S.push _⟩,fun i v s' m n k Y=>?_,fun h' tk g=>?_⟩
 ·obtain ⟨b,e,rfl⟩:=U.get i v (by simpa using k);simp only [e,Option.getD_some] at Y;exact EF Y
 ·have e:((Cc its.toArray.size).all fun i=>(bs[i]?).getD f_)=bs.all id:=by
   rw [z_,U.length];exact LSm.range_all bs
  rw [e];exact ⟨.bl (bs.all id),H,I.kept (LSm.kept_iter g),rfl,q⟩
noncomputable def clsV:V->Option i_
 |.ty n=>a_ (.type n)
 |.ref a=>a_ (.ref a)
 |_=>d_
theorem clsV_is {y:V} {c:i_} (h:clsV y=a_ c) (r:RelV y u):u=c:=by
 cases y with
 |ty n=>cases r;exact Cu h
 |ref a=>cases r;exact Cu h
 |_=>cases h
theorem call_isi:bS X (.builtin "isinstance") (fun xs H Q=>∃x y c t b,xs=[x,y]/\clsV y=a_ c/\vX X.K H x t/\CW X.K t c=a_ b/\Q (.bl b) H):=by
 intro pins s σ H xs us Q I r h;obtain ⟨x,y,c,t,b,rfl,U,ty,e,q⟩:=h;obtain ⟨u,v,rfl,S,J⟩:=r.two;have ev:=clsV_is U J;subst ev;exact sX I S ty e fun tk=>⟨.bl b,H,I.tok tk,rfl,q⟩
inductive EqV (K:Fg) (H:Hp):Nat->V->V->Bool->Prop where
 |flat {n:Nat} {x y:V} (hx:flatV x=f_) (hy:flatV y=f_):EqV K H n x y (eqV x y)
 |same {n:Nat} {a:h_}:EqV K H n (.ref a) (.ref a) f_
 |lists {n:Nat} {a b:h_} {xs ys:List V} {e:Nat->Bool} (ha:SqL K H a xs) (hb:SqL K H b ys) (hl:xs.length=ys.length) (ne:a≠b)
   (he:∀j x y,xs[j]? =a_ x->ys[j]? =a_ y->EqV K H n x y (e j)):EqV K H (n+1) (.ref a) (.ref b) ((Cc xs.length).all e)
 |listsL {n:Nat} {a b:h_} {xs ys:List V} (ha:SqL K H a xs) (hb:SqL K H b ys) (hl:xs.length≠ys.length) (ne:a≠b):EqV K H (n+1) (.ref a) (.ref b) c_
 |tups {n:Nat} {a b:h_} {xs ys:List V} {e:Nat->Bool} (ha:SqT K H a xs) (hb:SqT K H b ys) (ne:a≠b)
   (he:∀j x y,xs[j]? =a_ x->ys[j]? =a_ y->EqV K H n x y (e j)):EqV K H (n+1) (.ref a) (.ref b) ((Cc (min xs.length ys.length)).all e&&xs.length==ys.length)
theorem Vals.atA (r:Vals xs us) (h:j<us.toArray.size):∃x,xs[j]? =a_ x/\RelV x us.toArray[j]:=by
 have S:=r.length;have J:j<xs.length:=by rw [S];simpa using h
 obtain ⟨u,e1,e2⟩:=r.get (i:=j) (x:=xs[j]) (by simp [J]);refine ⟨xs[j],by simp [J],?_⟩
 have:us.toArray[j]=u:=by
  have h':j<us.length:=by simpa using h
  rw [Cr h'] at e1;simpa using Cu e1
 rw [this];exact e2
end
section
theorem wF (U:Gl X x) (S:X.mg x=d_) (hv:D5 x=a_ (.type T)) (J:(x≠"__name__")⁻¹) (hd:((x==("__debug__":Cy))=c_)⁻¹):PE X (.Name x pos) (tC (.ty T)):=pe_bltn (v:=.ty T) U S hv rfl J hd
theorem pe_gint {n:Int} (S:Gl X x) (J:∃t,X.mg x=a_ (.int n t)) (hd:((x==("__debug__":Cy))=c_)⁻¹):PE X (.Name x pos) (tC (.int n)):=by
 obtain ⟨t,e⟩:=J;exact Aq (v:=.int n) S e ⟨t,rfl⟩ hd
end
section
variable {P:Cn} {base:CQ} 
theorem Fun.okX {f:h_} (F:Fun K x qual st f fd) (S:gq N ps (aB st)) (U:∀vs H Q E,sp vs H Q E->vs.length=ps.length)
  (J:∀(cdv:i_) (A:D0) (outer:List J8) (s:t_) (H:Hp) (vs:List V) (Q:VK) (E:XK),gz k (A.deeper (FV qual (aB st) s.heap.objs.size f cdv))->sp vs H Q E ->
   ∃t,PSs (xm CX P w K mg base N qual (aB st) f cdv A outer s H E).nox (br st) t/\t {nx:=fun _ H'=>Q .non H',rt:=Q} (start N vs) H):iN P w K mg base CX (k+1) f fd ps sp:=by
 obtain ⟨oc,od,kV,doc,pm,an,cdv,ct,osl,rfl,b,a⟩:=F.ex;refine fn_of b a S U fun A outer s H vs Q E c Y=>?_;obtain ⟨t,h,q⟩:=J cdv A outer s H vs Q E c Y;exact ⟨t,h.nox,q⟩
structure Def (K:Fg) (mg:Mq) (x:Cy) (st:Dt) (ps:List Cy) (f:h_) (fd:EZ):Prop where
 fn:Fun K x x st f fd
 mg:mg x=a_ (.ref f)
 bd:Binds K fd ps []
theorem def_of (S:K.In h) (G:h.Ns CS mg) {f:h_} {kV:i_}
  (a:Mu K CS x=a_ (a_ (.ref f))) (l:K.lookup f=a_ ⟨oc,od,.func (Jf x x (cN st) (br st) (aB st) .none kV doc pm an cdv ct),osl⟩) (c:J0 K cdv x=f_) (k:FH K (.ref f)=f_)
  (J:∀(kV doc pm:i_) (an:Option h_) (cdv ct:i_) (us:List i_),us.length=ps.length->IQ (Jf x x (cN st) (br st) (aB st) .none kV doc pm an cdv ct) ⟨us,[]⟩=DC (ps.zip us)) :
  Def K mg x st ps f (Jf x x (cN st) (br st) (aB st) .none kV doc pm an cdv ct):=
 ⟨wW l c k,mg_of S G a,(wW l c k).binds J⟩
structure Mth (K:Fg) (C:h_) (x qual:Cy) (st:Dt) (ps:List Cy) (f:h_) (fd:EZ):Prop where
 fn:Fun K x qual st f fd
 mt:Meth K C x f
 bd:Binds K fd ps []
theorem mth_of {f:h_} {kV:i_}
  (a:Cm K (.ref C) x=a_ (a_ (.ref f))) (i:GD K (.ref f)=f_) (l:K.lookup f=a_ ⟨oc,od,.func (Jf x qual (cN st) (br st) (aB st) .none kV doc pm an cdv ct),osl⟩) (c:J0 K cdv qual=f_) (k:FH K (.ref f)=f_)
  (J:∀(kV doc pm:i_) (an:Option h_) (cdv ct:i_) (us:List i_),us.length=ps.length->IQ (Jf x qual (cN st) (br st) (aB st) .none kV doc pm an cdv ct) ⟨us,[]⟩=DC (ps.zip us)) :
  Mth K C x qual st ps f (Jf x qual (cN st) (br st) (aB st) .none kV doc pm an cdv ct):=
 ⟨wW l c k,⟨a,i,k⟩,(wW l c k).binds J⟩
structure Kls (K:Fg) (mg:Mq) (x:Cy) (C:h_):Prop where
 cl:Cls K C
 mg:mg x=a_ (.ref C)
 mks:Gq K C=f_
 kp:FH K (.ref C)=f_
 c1:Cm K (.ref C) "__class__"=a_ (a_ (.builtin "object.__class__"))
 c2:I9 K (.builtin "object.__class__") "__get__"=a_ (a_ (.builtin "getset_descriptor.__get__"))
 c3:Nn K (.builtin "object.__class__")=a_ f_
 c4:DM K C (.type "object")=a_ f_
theorem Kls.ty {dx:h_} {fs:List (Cy×V)} (k:Kls K mg x C) (e:H a=a_ (.ins C dx fs)):vX K H (.ref a) (.ref C):=.ins e k.cl k.c1 k.c2 k.c3 k.c4
theorem kls_of (g:K.In h) (G:h.Ns CS mg) (a:Mu K CS x=a_ (a_ (.ref C)))
  (U:Fv K C Mw=f_) (hd:Fc K C=f_) (S:LA K C=f_) (J:Cm K (.ref C) "__setattr__"=a_ (a_ (.builtin "object.__setattr__"))) (Y:Gq K C=f_) (b:FH K (.ref C)=f_)
  (f:Cm K (.ref C) "__class__"=a_ (a_ (.builtin "object.__class__"))) (e:I9 K (.builtin "object.__class__") "__get__"=a_ (a_ (.builtin "getset_descriptor.__get__")))
  (d:Nn K (.builtin "object.__class__")=a_ f_) (c:DM K C (.type "object")=a_ f_):Kls K mg x C:=
 ⟨⟨U,hd,S,J⟩,mg_of g G a,Y,b,f,e,d,c⟩
end
section
theorem call_isiK (J: ~~~(X.K=K)):bS X (.builtin "isinstance") (fun xs H Q=>∃x y c t b,xs=[x,y]/\clsV y=a_ c/\vX K H x t/\CW K t c=a_ b/\Q (.bl b) H):=by subst J;exact call_isi
theorem pg_c (U:N'.Nodup) (hi:N'[i]? =a_ x) (J:Loc (aU X N' sc L cs s H fp).env.scope x)
  (S:autoParam ((aU X N' sc L cs s H fp).fn x=f_\/(aU X N' sc L cs s H fp).env.scope.names.lookup x=a_ .local) Jq4):PG (aU X N' sc L cs s H fp) (.Name x pos) (n4 i):=uY U hi J S
end
structure Grid (H:Hp) (a:h_) (as:List h_) (rows:List (List Int)):Prop where
 top:H a=a_ (.lst (as.map V.ref))
 len:as.length=rows.length
 row:∀(i:Nat) (b:h_) (r:List Int),as[i]? =a_ b->rows[i]? =a_ r->H b=a_ (.lst (r.map V.int))
theorem aN.upd {H:Hp} {a:h_} {o:HO} (h:H a=d_):aN H (upd H a o):=fun b u e=>by rw [aq (aF e h)];exact e
section
variable {f:h_} {m:Cy} {mc:i_}
structure Stat (K:Fg) (C:h_) (mc:i_) (m:Cy) (f:h_):Prop where
 s1:I9 K (.ref C) "__getattribute__"=a_ (a_ (.builtin "type.__getattribute__"))
 s2:PySem.W.readsIn K C mc=f_
 s3:PySem.W.findCls K (.ref C) mc m=a_ (.val (.ref f))
 s4:FH K (.ref f)=f_
end
def Keeps (S:h_->Prop) (H H':Hp):Prop:=∀b o,H b=a_ o->¬S b->H' b=a_ o
theorem Keeps.refl (S:h_->Prop) (H:Hp):Keeps S H H:=fun _ _ e _=>e
section
variable {a:Dr}
theorem aN.tup {a:h_} (e:aN H H') (h:SqT K H a xs):SqT K H' a xs:=by
 rcases h with (h|⟨o,h⟩)|h
 ·exact .inl (.inl (e _ _ h))
 ·exact .inl (.inr ⟨o,e _ _ h⟩)
 ·exact .inr h
end
theorem we (h:H a=a_ (.lst xs)):tyV K "list" (.ref a) H:=.inl ⟨rfl,_,SqL.of h⟩
inductive Dat where
 |non|bl (b:Bool)|int (i:Int)|str (x:Cy)|tup (ds:List Dat)|lst (ds:List Dat)|ins (C:h_) (fs:List (Cy×Dat))|dic (ks:List (List Int×Dat))|dil (ks:List (Int×List (List Int)))
variable {d:Dat} {ds:List Dat}
noncomputable abbrev jH:=List Int×h_×V
noncomputable def tHash (ks:List Int):Int:=Hg (CH (ks.map Nk))
def rowE (x:List Int×h_×i_):DX:=⟨tHash x.1,.ref x.2.1,x.2.2⟩
def iM (p:jH) (q:List Int×h_×i_):Prop:=p.1=q.1/\p.2.1=q.2.1/\RelV p.2.2 q.2.2
def o8 (h:CQ) (a:h_) (xs:List jH) (ep:Nat):Prop:=∃vs:List (List Int×h_×i_),Gv iM xs vs/\(a==DO)=c_/\xs.length<=n_/\(vs.map (·.1)).Nodup/\∃o es,h.get? a=a_ o/\o.ExactDict/\o.data=.dict es ep/\es.toList=vs.map rowE
noncomputable def nC (a:h_) (xs:List jH) (ep:Nat):HO:=.ext fun h=>o8 h a xs ep
noncomputable abbrev LK:=Int×List (List Int)
def lHash (k:LK):Int:=Hg (CH [Nk k.1,Hg (CH (k.2.map tHash))])
def rowL (x:LK×h_):DX:=⟨lHash x.1,.ref x.2,.bool f_⟩
def w4 (h:CQ) (a:h_) (xs:List (LK×h_)) (ep:Nat):Prop:=(a==DO)=c_/\xs.length<=n_/\(xs.map (·.1)).Nodup/\∃o es,h.get? a=a_ o/\o.ExactDict/\o.data=.dict es ep/\es.toList=xs.map rowL
noncomputable def C7 (a:h_) (xs:List (LK×h_)) (ep:Nat):HO:=.ext fun h=>w4 h a xs ep
def lT (K:Fg) (F:Hp) (b:h_) (k:LK):Prop:=∃(r:h_) (bs:List h_),SqT K F b [V.int k.1,V.ref r]/\SqT K F r (bs.map V.ref)/\bs.length=k.2.length/\∀(j:Nat) (J:List Int) (c:h_),k.2[j]? =a_ J->bs[j]? =a_ c->SqT K F c (J.map V.int)
def zq (K:Fg) (F:Hp) (ks:List LK) (xs:List (LK×h_)):Prop:=xs.map (·.1)=ks/\∀x∈xs,lT K F x.2 x.1
mutual
noncomputable def aW (K:Fg) (F:Hp):Dat->V->Prop
 |.non,v=>v=.non
 |.bl b,v=>v=.bl b
 |.int i,v=>v=.int i
 |.str x,v=>v=.str x
 |.tup ds,v=>∃a xs,v=.ref a/\SqT K F a xs/\au K F ds xs
 |.lst ds,v=>∃a xs,v=.ref a/\SqL K F a xs/\au K F ds xs
 |.ins C gs,v=>∃a dx fs,v=.ref a/\F a=a_ (.ins C dx fs)/\kr K F gs fs
 |.dic ks,v=>∃a xs,v=.ref a/\(∃ep,F a=a_ (nC a xs ep))/\cK K F ks xs
 |.dil ks,v=>∃a xs,v=.ref a/\(∃ep,F a=a_ (C7 a xs ep))/\zq K F ks xs
noncomputable def au (K:Fg) (F:Hp):List Dat->List V->Prop
 |[],xs=>xs=[]
 |d::ds,xs=>∃v vs,xs=v::vs/\aW K F d v/\au K F ds vs
noncomputable def kr (K:Fg) (F:Hp):List (Cy×Dat)->List (Cy×V)->Prop
 |[],fs=>fs=[]
 |(f,d)::gs,fs=>∃v r,fs=(f,v)::r/\aW K F d v/\kr K F gs r
noncomputable def cK (K:Fg) (F:Hp):List (List Int×Dat)->List jH->Prop
 |[],xs=>xs=[]
 |(k,d)::ks,xs=>∃b v r,xs=(k,b,v)::r/\SqT K F b (k.map .int)/\aW K F d v/\cK K F ks r
end
mutual
noncomputable def eh:Dat->Bool
 |.tup ds=>oZ ds
 |.lst _=>c_
 |.ins _ _=>c_
 |.dic _=>c_
 |.dil _=>c_
 |_=>f_
noncomputable def oZ:List Dat->Bool
 |[]=>f_
 |d::ds=>eh d&&oZ ds
end
theorem aN.lst (e:aN H H') (h:SqL K H a xs):SqL K H' a xs:=by
 rcases h with (h|⟨o,h⟩)|h
 ·exact .inl (.inl (e _ _ h))
 ·exact .inl (.inr ⟨o,e _ _ h⟩)
 ·exact .inr h
theorem lT.mono (s:aN F F') {k:LK} (h:lT K F b k):lT K F' b k:=
 let ⟨r,bs,Y,U,l,S⟩:=h;⟨r,bs,s.tup Y,s.tup U,l,fun j J c e1 e2=>s.tup (S j J c e1 e2)⟩
theorem zq.mono {K:Fg} {F F':Hp} (s:aN F F') {ks:List LK} {xs:List (LK×h_)} (h:zq K F ks xs):zq K F' ks xs:=⟨h.1,fun x J=>(h.2 x J).mono s⟩
mutual
theorem aW.mono {K:Fg} {F F':Hp} (s:aN F F'):∀{d:Dat} {v:V},aW K F d v->aW K F' d v
 |.non,_,h=>h
 |.bl _,_,h=>h
 |.int _,_,h=>h
 |.str _,_,h=>h
 |.tup _,_,⟨a,xs,e,q,r⟩=>⟨a,xs,e,s.tup q,au.mono s r⟩
 |.lst _,_,⟨a,xs,e,q,r⟩=>⟨a,xs,e,s.lst q,au.mono s r⟩
 |.ins _ _,_,⟨a,dx,fs,e,q,r⟩=>⟨a,dx,fs,e,s _ _ q,kr.mono s r⟩
 |.dic _,_,⟨a,xs,e,⟨ep,q⟩,r⟩=>⟨a,xs,e,⟨ep,s _ _ q⟩,cK.mono s r⟩
 |.dil _,_,⟨a,xs,e,⟨ep,q⟩,r⟩=>⟨a,xs,e,⟨ep,s _ _ q⟩,zq.mono s r⟩
theorem au.mono {K:Fg} {F F':Hp} (s:aN F F'):∀{ds:List Dat} {xs:List V},au K F ds xs->au K F' ds xs
 |[],_,h=>h
 |_::_,_,⟨v,vs,e,q,r⟩=>⟨v,vs,e,aW.mono s q,au.mono s r⟩
theorem kr.mono {K:Fg} {F F':Hp} (s:aN F F'):∀{gs:List (Cy×Dat)} {fs:List (Cy×V)},kr K F gs fs->kr K F' gs fs
 |[],_,h=>h
 |(_,_)::_,_,⟨v,r,e,q,t⟩=>⟨v,r,e,aW.mono s q,kr.mono s t⟩
theorem cK.mono {K:Fg} {F F':Hp} (s:aN F F'):∀{ks:List (List Int×Dat)} {xs:List jH},cK K F ks xs->cK K F' ks xs
 |[],_,h=>h
 |(_,_)::_,_,⟨b,v,r,e,t,q,z⟩=>⟨b,v,r,e,s.tup t,aW.mono s q,cK.mono s z⟩
end
mutual
theorem aW.flat {K:Fg} {F F':Hp} (s:∀a xs,SqT K F a xs->SqT K F' a xs):∀{d:Dat} {v:V},eh d=f_->aW K F d v->aW K F' d v
 |.non,_,_,h=>h
 |.bl _,_,_,h=>h
 |.int _,_,_,h=>h
 |.str _,_,_,h=>h
 |.tup ds,_,f,⟨a,xs,e,q,r⟩=>⟨a,xs,e,s _ _ q,au.flat s (by simpa [eh] using f) r⟩
 |.lst _,_,f,_=>by simp [eh] at f
 |.ins _ _,_,f,_=>by simp [eh] at f
 |.dic _,_,f,_=>by simp [eh] at f
 |.dil _,_,f,_=>by simp [eh] at f
theorem au.flat {K:Fg} {F F':Hp} (s:∀a xs,SqT K F a xs->SqT K F' a xs):∀{ds:List Dat} {xs:List V},oZ ds=f_->au K F ds xs->au K F' ds xs
 |[],_,_,h=>h
 |d::ds,_,f,⟨v,vs,e,q,r⟩=>by
  simp only [oZ,u_] at f;exact ⟨v,vs,e,aW.flat s f.1 q,au.flat s f.2 r⟩
end
theorem au.length {K:Fg} {F:Hp}:∀{ds:List Dat} {xs:List V},au K F ds xs->xs.length=ds.length
 |[],_,h=>by rw [show _=[] from h];rfl
 |_::_,_,⟨_,_,e,_,r⟩=>by rw [e,Ci,Ci,au.length r]
theorem au.get {K:Fg} {F:Hp}:∀{ds:List Dat} {xs:List V} {i:Nat} {d:Dat},au K F ds xs->ds[i]? =a_ d->∃v,xs[i]? =a_ v/\aW K F d v
 |[],_,_,_,_,e=>by simp at e
 |_::_,_,0,_,⟨v,vs,e,q,_⟩,h=>by
  simp only [Kp,Dy] at h;subst h e;exact ⟨v,rfl,q⟩
 |_::_,_,i+1,_,⟨v,vs,e,_,r⟩,h=>by
  subst e;simp only [D3] at h ⊢;exact au.get r h
theorem au.at {K:Fg} {F:Hp} {ds:List Dat} {xs:List V} {i:Nat} {v:V} (r:au K F ds xs) (h:xs[i]? =a_ v):∃d,ds[i]? =a_ d/\aW K F d v:=by
 have hi:i<ds.length:=by rw [<- r.length];exact (y_.mp h).1
 obtain ⟨w,e,q⟩:=r.get (i:=i) (d:=ds[i]) (by simp [hi]);rw [h] at e;have J:=Cu e;subst J;exact ⟨ds[i],by simp [hi],q⟩
theorem au.cons {v:V} (q:aW K F d v) (r:au K F ds xs):au K F (d::ds) (v::xs):=⟨v,xs,rfl,q,r⟩
theorem au.append {K:Fg} {F:Hp}:∀{ds es:List Dat} {xs ys:List V},au K F ds xs->au K F es ys->au K F (ds++es) (xs++ys)
 |[],_,_,_,h,r=>by rw [show _=[] from h];exact r
 |_::_,_,_,_,⟨v,vs,e,q,t⟩,r=>by subst e;exact ⟨v,_,rfl,q,au.append t r⟩
theorem au.take {K:Fg} {F:Hp}:∀{ds:List Dat} {xs:List V} (n:Nat),au K F ds xs->au K F (ds.take n) (xs.take n)
 |_,_,0,_=>rfl
 |[],_,_+1,h=>by rw [show _=[] from h];rfl
 |_::_,_,n+1,⟨v,vs,e,q,r⟩=>by subst e;exact ⟨v,_,rfl,q,au.take n r⟩
theorem au.drop {K:Fg} {F:Hp}:∀{ds:List Dat} {xs:List V} (n:Nat),au K F ds xs->au K F (ds.drop n) (xs.drop n)
 |_,_,0,h=>h
 |[],_,_+1,h=>by rw [show _=[] from h];rfl
 |_::_,_,n+1,⟨v,vs,e,q,r⟩=>by subst e;exact au.drop n r
theorem au.set {K:Fg} {F:Hp} {d:Dat} {v:V} (q:aW K F d v):∀{ds:List Dat} {xs:List V} (n:Nat),au K F ds xs->au K F (ds.set n d) (xs.set n v)
 |[],_,_,h=>by rw [show _=[] from h];rfl
 |_::_,_,0,⟨w,vs,e,_,r⟩=>by subst e;exact ⟨v,_,rfl,q,r⟩
 |_::_,_,n+1,⟨w,vs,e,p,r⟩=>by subst e;exact ⟨w,_,rfl,p,au.set q n r⟩
theorem au.eraseIdx {K:Fg} {F:Hp}:∀{ds:List Dat} {xs:List V} (n:Nat),au K F ds xs->au K F (ds.eraseIdx n) (xs.eraseIdx n)
 |[],_,_,h=>by rw [show _=[] from h];rfl
 |_::_,_,0,⟨w,vs,e,_,r⟩=>by subst e;exact r
 |_::_,_,n+1,⟨w,vs,e,p,r⟩=>by subst e;exact ⟨w,_,rfl,p,au.eraseIdx n r⟩
theorem au.reverse {K:Fg} {F:Hp}:∀{ds:List Dat} {xs:List V},au K F ds xs->au K F ds.reverse xs.reverse
 |[],_,h=>by rw [show _=[] from h];rfl
 |_::_,_,⟨w,vs,e,p,r⟩=>by
  subst e;rw [E3,E3];exact au.append (au.reverse r) ⟨w,[],rfl,p,rfl⟩
theorem au.of_get {K:Fg} {F:Hp}:∀{ds:List Dat} {xs:List V},xs.length=ds.length->(∀(i:Nat) d v,ds[i]? =a_ d->xs[i]? =a_ v->aW K F d v)->au K F ds xs
 |[],[],_,_=>rfl
 |[],_::_,h,_=>by simp at h
 |_::_,[],h,_=>by simp at h
 |d::ds,v::vs,h,q=>⟨v,vs,rfl,q 0 d v rfl rfl,au.of_get (by simpa using h) fun i e w h1 h2=>q (i+1) e w (by simpa using h1) (by simpa using h2)⟩
structure Step (F H F' H':Hp):Prop where
 ff:aN F F'
 hh:aN H H'
 fh:aN F' H'
 nw:∀b o,F' b=a_ o->F b=a_ o\/H b=d_
theorem Step.refl {F H:Hp} (s:aN F H):Step F H F H:=⟨aN.refl _,aN.refl _,s,fun _ _ h=>.inl h⟩
theorem Step.trans {F H F1 H1 J H2:Hp} (a:Step F H F1 H1) (b:Step F1 H1 J H2):Step F H J H2:=
 ⟨a.ff.trans b.ff,a.hh.trans b.hh,b.fh,fun x o h=>(b.nw x o h).elim (fun z=>a.nw x o z) fun z=>.inr (a.hh.free z)⟩
theorem Step.lay {p:h_} {o:HO} (s:aN F H) (J:H p=d_):Step F H (upd F p o) (upd H p o):=
 ⟨aN.upd (s.free J),aN.upd J,fun b u h=>by
  by_cases e:b=p
  ·subst e;rw [ao] at h ⊢;exact h
  ·rw [aq e] at h ⊢;exact s b u h,fun b u h=>by
  by_cases e:b=p
  ·subst e;exact .inr J
  ·rw [aq e] at h;exact .inl h⟩
theorem Step.grow {p:h_} {o:HO} (s:aN F H) (J:H p=d_):Step F H F (upd H p o):=
 ⟨aN.refl _,aN.upd J,s.trans (aN.upd J),fun _ _ h=>.inl h⟩
def l5 (K:Fg) (F H0 H:Hp):Dat->V->Prop
 |.lst ds,v=>∃a xs,v=.ref a/\H a=a_ (.lst xs)/\F a=d_/\H0 a=d_/\au K F ds xs
 |.dic ks,v=>∃a xs,v=.ref a/\(∃ep,H a=a_ (nC a xs ep))/\F a=d_/\H0 a=d_/\cK K F ks xs
 |.dil ks,v=>∃a xs,v=.ref a/\(∃ep,H a=a_ (C7 a xs ep))/\F a=d_/\H0 a=d_/\zq K F ks xs
 |d,v=>aW K F d v
noncomputable def isO:Dat->Bool
 |.lst _=>f_
 |.dic _=>f_
 |.dil _=>f_
 |_=>c_
noncomputable def isMu:HO->Bool
 |.lst _=>f_
 |.ext _=>f_
 |_=>c_
theorem l5.non {v:V} (hd:isO d=c_):l5 K F H0 H d v=aW K F d v:=by
 cases d<;>first|rfl|cases hd
theorem l5.top {v:V} (hd:isO d=f_) (q:l5 K F H0 H d v):∃a o,v=.ref a/\H a=a_ o/\isMu o=f_/\F a=d_/\H0 a=d_:=by
 cases d with
 |lst ds=>obtain ⟨a,xs,e,p,f,z,_⟩:=q;exact ⟨a,_,e,p,rfl,f,z⟩
 |dic ks=>obtain ⟨a,xs,e,⟨ep,p⟩,f,z,_⟩:=q;exact ⟨a,_,e,p,rfl,f,z⟩
 |dil ks=>obtain ⟨a,xs,e,⟨ep,p⟩,f,z,_⟩:=q;exact ⟨a,_,e,p,rfl,f,z⟩
 |_=>cases hd
theorem l5.re (hd:isO d=f_) (q:l5 K F H0 H d (.ref a)) (S:aN F F') (fa:F' a=d_) (J:∀o,H a=a_ o->H' a=a_ o):l5 K F' H0 H' d (.ref a):=by
 cases d with
 |lst ds=>obtain ⟨b,xs,e,p,f,z,r⟩:=q;cases e;exact ⟨a,xs,rfl,J _ p,fa,z,r.mono S⟩
 |dic ks=>obtain ⟨b,xs,e,⟨ep,p⟩,f,z,r⟩:=q;cases e;exact ⟨a,xs,rfl,⟨ep,J _ p⟩,fa,z,r.mono S⟩
 |dil ks=>obtain ⟨b,xs,e,⟨ep,p⟩,f,z,r⟩:=q;cases e;exact ⟨a,xs,rfl,⟨ep,J _ p⟩,fa,z,r.mono S⟩
 |_=>cases hd
theorem l5.give (hd:isO d=f_) (q:l5 K F H0 H d (.ref a)) (J:aN F F') (fa:F' a=H a):aW K F' d (.ref a):=by
 cases d with
 |lst ds=>obtain ⟨b,xs,e,p,f,z,r⟩:=q;cases e;exact ⟨a,xs,rfl,SqL.of (fa.trans p),r.mono J⟩
 |dic ks=>obtain ⟨b,xs,e,⟨ep,p⟩,f,z,r⟩:=q;cases e;exact ⟨a,xs,rfl,⟨ep,fa.trans p⟩,r.mono J⟩
 |dil ks=>obtain ⟨b,xs,e,⟨ep,p⟩,f,z,r⟩:=q;cases e;exact ⟨a,xs,rfl,⟨ep,fa.trans p⟩,r.mono J⟩
 |_=>cases hd
def Val (K:Fg) (own:Bool) (F H0 H:Hp) (d:Dat) (v:V):Prop:=if own=f_ then l5 K F H0 H d v else aW K F d v
theorem l5.back {v:V} (s:aN H0 H1) (h:l5 K F H1 H d v):l5 K F H0 H d v:=by
 cases d with
 |lst ds=>obtain ⟨a,xs,e,p,q,z,r⟩:=h;exact ⟨a,xs,e,p,q,s.free z,r⟩
 |dic ks=>obtain ⟨a,xs,e,p,q,z,r⟩:=h;exact ⟨a,xs,e,p,q,s.free z,r⟩
 |dil ks=>obtain ⟨a,xs,e,p,q,z,r⟩:=h;exact ⟨a,xs,e,p,q,s.free z,r⟩
 |_=>exact h
theorem Val.back {K:Fg} {own:Bool} {F H0 H1 H:Hp} {d:Dat} {v:V} (s:aN H0 H1) (h:Val K own F H1 H d v):Val K own F H0 H d v:=by
 cases own with
 |true=>exact l5.back s h
 |false=>exact h
theorem l5.freeze {v:V} (s:aN F H) (h:l5 K F H0 H d v):∃F',aN F F'/\aN F' H/\(∀b o,F' b=a_ o->F b=a_ o\/H0 b=d_)/\aW K F' d v:=by
 cases hd:isO d with
 |true=>
  obtain ⟨a,u,e,p,_,q,z⟩:=h.top hd;subst e;refine ⟨upd F a u,aN.upd q,fun b o h=>?_,fun b o h=>?_,h.give hd (aN.upd q) (by rw [ao,p])⟩
  ·by_cases e:b=a
   ·subst e;rw [ao] at h;rw [p,<- h]
   ·rw [aq e] at h;exact s b o h
  ·by_cases e:b=a
   ·subst e;exact .inr z
   ·rw [aq e] at h;exact .inl h
 |false=>rw [l5.non hd] at h;exact ⟨F,aN.refl _,s,fun _ _ z=>.inl z,h⟩
inductive Err where
 |stuck|exc (C:h_) (fs:List (Cy×Dat))
noncomputable abbrev M:=Except Err
variable {g':Dat->Dat->M Dat}
noncomputable abbrev ah:=List (Option Dat)
variable {ρ ρ':ah} {fa fb fc fe fk fo fA fv f3 f4 f5:ah->M Dat} {ft fu:ah->M Bool} {fi:ah->M (List Dat)} {fl:ah->M (Option Int)} {fx:List (Cy×Dat)->ah->M ah}
structure ck where
 p:Err->Hp->Hp->Prop
 mono:∀{e:Err} {F H F' H':Hp},p e F H->Step F H F' H'->p e F' H'
 ns:∀{F H:Hp},p .stuck F H->False
noncomputable def Wno:ck:=⟨fun _ _ _=>False,fun h _=>h,fun h=>h⟩
def aw (K:Fg) (W:ck) (own:Bool) (F H:Hp) (r:M Dat) (Q:VK):Prop:=match r with
 |.ok d=>∀v F' H',Step F H F' H'->Val K own F' H H' d v->Q v H'
 |.error e=>W.p e F H
theorem aw.step {W:ck} {own:Bool} {r:M Dat} {Q:VK} (p:aw K W own F H r Q) (s:Step F H F1 H1):aw K W own F1 H1 r Q:=by
 cases r with
 |ok d=>exact fun v F' H' t q=>p v F' H' (s.trans t) (q.back s.hh)
 |error e=>exact W.mono p s
theorem aw.frz {W:ck} {r:M Dat} {Q:VK} (p:aw K W c_ F H r Q):aw K W f_ F H r Q:=by
 cases r with
 |ok d=>
  intro v F' H' t q;obtain ⟨U,S,J,n,z⟩:=l5.freeze t.fh q;exact p v U H' ⟨t.ff.trans S,t.hh,J,fun b o h=>(n b o h).elim (fun z=>t.nw b o z) .inr⟩ z
 |error e=>exact p
structure jJ (K:Fg) (F:Hp) (σ:St) (ρ:ah):Prop where
 len:ρ.length=σ.length
 sl:∀(i:Nat) (d:Dat),ρ[i]? =a_ (a_ d)->∃v,σ[i]? =a_ (a_ v)/\aW K F d v
theorem jJ.mono {K:Fg} {F F':Hp} {σ:St} {ρ:ah} (r:jJ K F σ ρ) (s:aN F F'):jJ K F' σ ρ:=
 ⟨r.len,fun i d e=>let ⟨v,h,q⟩:=r.sl i d e;⟨v,h,q.mono s⟩⟩
theorem jJ.set {K:Fg} {F:Hp} {σ:St} {ρ:ah} {d:Dat} {v:V} (r:jJ K F σ ρ) (q:aW K F d v) (i:Nat):jJ K F (σ.set i (a_ v)) (ρ.set i (a_ d)):=
 ⟨by rw [CB,CB,r.len],fun j e h=>by
  by_cases J:i=j
  ·subst J;have hi:i<ρ.length:=by
    have:=(y_.mp h).1;simpa using this
   rw [B_ hi] at h;cases h;exact ⟨v,by rw [B_ (by rw [<- r.len];exact hi)],q⟩
  ·rw [q_ J] at h;obtain ⟨w,h1,h2⟩:=r.sl j e h;exact ⟨w,by rw [q_ J];exact h1,h2⟩⟩
def tD (K:Fg) (W:ck) (own:Bool) (f:ah->M Dat):TE:=fun σ H Q=>∃F ρ,jJ K F σ ρ/\aN F H/\aw K W own F H (f ρ) Q
theorem aI {W:ck} {own:Bool} {f:ah->M Dat} {R:VK} (r:jJ K F σ ρ) (s:aN F H) (S:∀e,f ρ=.error e->W.p e F H)
  (J:∀d,f ρ=.ok d->∀v F1 H1,Step F H F1 H1->Val K own F1 H H1 d v->R v H1):tD K W own f σ H R:=by
 refine ⟨F,ρ,r,s,?_⟩
 cases e:f ρ with
 |ok d=>exact J d e
 |error x=>exact S x e
def tDT (K:Fg) (W:ck) (f:ah->M Bool):TT:=fun σ H Q=>∃F ρ,jJ K F σ ρ/\aN F H/\(match f ρ with
 |.ok b=>∀F' H',Step F H F' H'->Q b H'
 |.error e=>W.p e F H)
theorem jo {W:ck} {f:ah->M Bool} (r:jJ K F σ ρ) (s:aN F H) (S:∀e,f ρ=.error e->W.p e F H)
  (J:∀b,f ρ=.ok b->∀F1 H1,Step F H F1 H1->R b H1):tDT K W f σ H R:=by
 refine ⟨F,ρ,r,s,?_⟩
 cases e:f ρ with
 |ok d=>exact J d e
 |error x=>exact S x e
def tDA (K:Fg) (W:ck) (f:ah->M (List Dat)):TA:=fun σ H Q=>∃F ρ,jJ K F σ ρ/\aN F H/\(match f ρ with
 |.ok ds=>∀vs F' H',Step F H F' H'->au K F' ds vs->Q vs H'
 |.error e=>W.p e F H)
theorem ic {W:ck} {f:ah->M (List Dat)} {R:List V->Hp->Prop} (r:jJ K F σ ρ) (s:aN F H) (S:∀e,f ρ=.error e->W.p e F H)
  (J:∀ds,f ρ=.ok ds->∀vs F1 H1,Step F H F1 H1->au K F1 ds vs->R vs H1):tDA K W f σ H R:=by
 refine ⟨F,ρ,r,s,?_⟩
 cases e:f ρ with
 |ok d=>exact J d e
 |error x=>exact S x e
noncomputable def aa (i:Nat):ah->M Dat:=fun ρ=>match ρ[i]? with
 |some (a_ d)=>.ok d
 |_=>.error .stuck
noncomputable def fC (d:Dat):ah->M Dat:=fun _=>.ok d
noncomputable def f1 (g:Dat->M Dat) (fa:ah->M Dat):ah->M Dat:=fun ρ=>(fa ρ).bind g
noncomputable def f2 (g:Dat->Dat->M Dat) (fa fb:ah->M Dat):ah->M Dat:=fun ρ=>(fa ρ).bind fun a=>(fb ρ).bind fun b=>g a b
noncomputable def ax:ah->M (List Dat):=fun _=>.ok []
noncomputable def a9 (fa:ah->M Dat) (fr:ah->M (List Dat)):ah->M (List Dat):=fun ρ=>(fa ρ).bind fun a=>(fr ρ).bind fun r=>.ok (a::r)
noncomputable def fL (g:List Dat->M Dat) (fr:ah->M (List Dat)):ah->M Dat:=fun ρ=>(fr ρ).bind g
noncomputable def bo (ds:List Dat):M Dat:=if ds.length<=n_ then .ok (.tup ds) else .error .stuck
noncomputable def cz (ds:List Dat):M Dat:=if ds.length<=n_ then .ok (.lst ds) else .error .stuck
noncomputable def Bf (ft fu:ah->M Bool):ah->M Bool:=fun ρ=>(ft ρ).bind fun b=>if b=f_ then fu ρ else .ok c_
noncomputable def fOr (ft fu:ah->M Bool):ah->M Bool:=fun ρ=>(ft ρ).bind fun b=>if b=f_ then .ok f_ else fu ρ
noncomputable def zt (ft:ah->M Bool):ah->M Bool:=fun ρ=>(ft ρ).bind fun b=>.ok (!b)
noncomputable def asB:Dat->M Bool
 |.bl b=>.ok b
 |_=>.error .stuck
def fB (fa:ah->M Dat):ah->M Bool:=fun ρ=>(fa ρ).bind asB
def tB (fa fb:ah->M Dat):ah->M Dat:=fun ρ=>(fa ρ).bind fun a=>(asB a).bind fun b=>if b=f_ then fb ρ else .ok (.bl c_)
noncomputable def truD:Dat->M Bool
 |.non=>.ok c_
 |.bl b=>.ok b
 |.int i=>.ok (i != 0)
 |.str x=>if x.length<=n_ then .ok ((x.length:Int) != 0) else .error .stuck
 |.tup ds=>.ok (!ds.isEmpty)
 |.lst ds=>.ok (!ds.isEmpty)
 |_=>.error .stuck
def wY (fa:ah->M Dat):ah->M Bool:=fun ρ=>(fa ρ).bind truD
def i6 (g g':Dat->Dat->M Dat) (fa fb fc:ah->M Dat):ah->M Dat:=fun ρ=>(fa ρ).bind fun a=>(fb ρ).bind fun b=>(g a b).bind fun x=>(asB x).bind fun k=>if k=f_ then (fc ρ).bind fun c=>g' b c else .ok (.bl c_)
def rD2 (K:Fg) (W:ck) (own:Bool) (g:Dat->Dat->M Dat):R2:=fun x y H Q=>∃F a b,aN F H/\aW K F a x/\aW K F b y/\aw K W own F H (g a b) Q
def rD1 (K:Fg) (W:ck) (own:Bool) (g:Dat->M Dat):V->Hp->VK->Prop:=fun x H Q=>∃F a,aN F H/\aW K F a x/\aw K W own F H (g a) Q
def rDL (K:Fg) (W:ck) (own:Bool) (g:List Dat->M Dat):List V->Hp->VK->Prop:=fun xs H Q=>∃F ds,aN F H/\au K F ds xs/\aw K W own F H (g ds) Q
section
variable {W:ck} {own:Bool} {Q:VK} 
theorem rd_var (h:tD K W c_ (aa i) σ H Q):tVar i σ H Q:=by
 obtain ⟨F,ρ,r,s,p⟩:=h;unfold aa at p
 match e:ρ[i]? with
 |some (a_ d)=>
  rw [e] at p;obtain ⟨v,e1,q⟩:=r.sl i d e;exact ⟨v,e1,p v F H (Step.refl s) q⟩
 |some d_=>rw [e] at p;exact (W.ns p).elim
 |none=>rw [e] at p;exact (W.ns p).elim
theorem rd_c {v:V} (hd:∀F,aW K F d v) (h:tD K W c_ (fC d) σ H Q):tC v σ H Q:=by
 obtain ⟨F,ρ,r,s,p⟩:=h;exact p v F H (Step.refl s) (hd F)
theorem aw.err {x:M Dat} {e:Err} (p:aw K W own F H x Q) (h:x=.error e):W.p e F H:=by rw [h] at p;exact p
theorem rd_1 {g:Dat->M Dat} (h:tD K W own (f1 g fa) σ H Q):tUn (rD1 K W own g) (tD K W c_ fa) σ H Q:=by
 obtain ⟨F,ρ,r,s,p⟩:=h;refine aI r s (fun e S=>p.err (by unfold f1;rw [S];rfl)) fun a U x F1 H1 J q1=>?_;refine ⟨F1,a,J.fh,q1,?_⟩
 have e:f1 g fa ρ=g a:=by unfold f1;rw [U];rfl
 rw [e] at p;exact p.step J
theorem rd_2 {g:Dat->Dat->M Dat} (h:tD K W own (f2 g fa fb) σ H Q):tOp (rD2 K W own g) (tD K W c_ fa) (tD K W c_ fb) σ H Q:=by
 obtain ⟨F,ρ,r,s,p⟩:=h;refine aI r s (fun e U=>p.err (by unfold f2;rw [U];rfl)) fun a Y x F1 H1 J q1=>?_;refine aI (r.mono J.ff) J.fh (fun e U=>(p.step J).err (by unfold f2;rw [Y];show (fb ρ).bind _=_;rw [U];rfl)) fun b c y d H2 S q2=>?_;refine ⟨d,a,b,S.fh,aW.mono S.ff q1,q2,?_⟩
 have e:f2 g fa fb ρ=g a b:=by unfold f2;rw [Y];show (fb ρ).bind _=_;rw [c];rfl
 rw [e] at p;exact p.step (J.trans S)
theorem rd_nil {R:List V->Hp->Prop} (h:tDA K W ax σ H R):zJ σ H R:=by
 obtain ⟨F,ρ,r,s,p⟩:=h;exact p [] F H (Step.refl s) rfl
theorem rd_cons {fr:ah->M (List Dat)} {R:List V->Hp->Prop} (h:tDA K W (a9 fa fr) σ H R):ky (tD K W c_ fa) (tDA K W fr) σ H R:=by
 obtain ⟨F,ρ,r,s,p⟩:=h;refine aI r s (fun e S=>?_) fun a Y x F1 H1 J q1=>ic (r.mono J.ff) J.fh (fun e S=>?_) fun ds hd xs b H2 U q2=>?_
 ·have z:a9 fa fr ρ=.error e:=by unfold a9;rw [S];rfl
  rw [z] at p;exact p
 ·have z:a9 fa fr ρ=.error e:=by unfold a9;rw [Y];show (fr ρ).bind _=_;rw [S];rfl
  rw [z] at p;exact W.mono p J
 ·have z:a9 fa fr ρ=.ok (a::ds):=by unfold a9;rw [Y];show (fr ρ).bind _=_;rw [hd];rfl
  rw [z] at p;exact p (x::xs) b H2 (J.trans U) ⟨x,xs,rfl,aW.mono U.ff q1,q2⟩
theorem rd_L {g:List Dat->M Dat} {fr:ah->M (List Dat)} (h:tD K W own (fL g fr) σ H Q):tDA K W fr σ H fun xs H1=>rDL K W own g xs H1 Q:=by
 obtain ⟨F,ρ,r,s,p⟩:=h;refine ic r s (fun e S=>p.err (by unfold fL;rw [S];rfl)) fun ds hd xs F1 H1 J q1=>⟨F1,ds,J.fh,q1,?_⟩
 have e:fL g fr ρ=g ds:=by unfold fL;rw [hd];rfl
 rw [e] at p;exact p.step J
theorem rd_tup {fr:ah->M (List Dat)} (h:tD K W own (fL bo fr) σ H Q):tTup (tDA K W fr) σ H Q:=by
 obtain ⟨F,ρ,r,s,p⟩:=rd_L h;refine ⟨F,ρ,r,s,?_⟩
 cases e:fr ρ with
 |error x=>rw [e] at p;exact p
 |ok ds=>
  rw [e] at p;intro vs F' H' t q;obtain ⟨F1,es,S,q1,z⟩:=p vs F' H' t q;unfold bo at z;by_cases J:es.length<=n_
  ·rw [p_ J] at z;refine ⟨by rw [q1.length];exact J,fun a U=>z (.ref a) _ _ (Step.lay S U) ?_⟩
   have:aW K (upd F1 a (.tup vs)) (.tup es) (.ref a):=⟨a,vs,rfl,SqT.of ao,q1.mono (aN.upd (S.free U))⟩
   cases own with
   |true=>exact this
   |false=>exact this
  ·rw [l_ J] at z;exact (W.ns z).elim
theorem rd_lst {fr:ah->M (List Dat)} (h:tD K W f_ (fL cz fr) σ H Q):tLst (tDA K W fr) σ H Q:=by
 obtain ⟨F,ρ,r,s,p⟩:=rd_L h;refine ⟨F,ρ,r,s,?_⟩
 cases e:fr ρ with
 |error x=>rw [e] at p;exact p
 |ok ds=>
  rw [e] at p;intro vs F' H' t q;obtain ⟨F1,es,U,q1,z⟩:=p vs F' H' t q;unfold cz at z;by_cases J:es.length<=n_
  ·rw [p_ J] at z;exact ⟨by rw [q1.length];exact J,fun a S=>z (.ref a) F1 _ (Step.grow U S) ⟨a,vs,rfl,ao,U.free S,S,q1⟩⟩
  ·rw [l_ J] at z;exact (W.ns z).elim
theorem wo {f:ah->M Bool} (r:jJ K F σ ρ) (J:Step F H F1 H1) (p:match f ρ with
 |.ok b=>∀F' H',Step F H F' H'->R b H'
 |.error e=>W.p e F H):tDT K W f σ H1 R:=by
 refine ⟨F1,ρ,r.mono J.ff,J.fh,?_⟩
 cases e:f ρ with
 |ok b=>rw [e] at p;exact fun F' H' t=>p F' H' (J.trans t)
 |error x=>rw [e] at p;exact W.mono p J
theorem rd_and (h:tDT K W (Bf ft fu) σ H R):tAnd (tDT K W ft) (tDT K W fu) σ H R:=by
 obtain ⟨F,ρ,r,s,p⟩:=h;refine jo r s (fun e S=>?_) fun b U F1 H1 J=>?_
 ·have z:Bf ft fu ρ=.error e:=by unfold Bf;rw [S];rfl
  rw [z] at p;exact p
 ·have z:Bf ft fu ρ=if b=f_ then fu ρ else .ok c_:=by unfold Bf;rw [U];rfl
  rw [z] at p;cases b with
  |true=>exact wo r J p
  |false=>exact p F1 H1 J
theorem rd_or (h:tDT K W (fOr ft fu) σ H R):tOr (tDT K W ft) (tDT K W fu) σ H R:=by
 obtain ⟨F,ρ,r,s,p⟩:=h;refine jo r s (fun e S=>?_) fun b U F1 H1 J=>?_
 ·have z:fOr ft fu ρ=.error e:=by unfold fOr;rw [S];rfl
  rw [z] at p;exact p
 ·have z:fOr ft fu ρ=if b=f_ then .ok f_ else fu ρ:=by unfold fOr;rw [U];rfl
  rw [z] at p;cases b with
  |false=>exact wo r J p
  |true=>exact p F1 H1 J
theorem rd_not (h:tDT K W (zt ft) σ H R):tNot (tDT K W ft) σ H R:=by
 obtain ⟨F,ρ,r,s,p⟩:=h;refine jo r s (fun e S=>?_) fun b U F1 H1 J=>?_
 ·have z:zt ft ρ=.error e:=by unfold zt;rw [S];rfl
  rw [z] at p;exact p
 ·have z:zt ft ρ=.ok (!b):=by unfold zt;rw [U];rfl
  rw [z] at p;exact p F1 H1 J
theorem rd_B (h:tDT K W (fB fa) σ H R):tTest (tD K W c_ fa) σ H R:=by
 obtain ⟨F,ρ,r,s,p⟩:=h;refine aI r s (fun e S=>?_) fun a U x F1 H1 J q1=>?_
 ·have z:fB fa ρ=.error e:=by unfold fB;rw [S];rfl
  rw [z] at p;exact p
 ·have z:fB fa ρ=asB a:=by unfold fB;rw [U];rfl
  rw [z] at p;cases a with
  |bl b=>exact ⟨b,q1,p F1 H1 J⟩
  |_=>exact (W.ns p).elim
theorem tru_of {a:Dat} {x:V} {b:Bool} (s:aN F H1) (q:aW K F a x) (h:truD a=.ok b):TruV K x H1 b:=by
 cases a with
 |non=>rw [show x=.non from q];exact (EA h).symm
 |bl c=>rw [show x=.bl c from q];exact (EA h).symm
 |int i=>rw [show x=.int i from q];exact (EA h).symm
 |str y=>
  rw [show x=.str y from q];have h':(if y.length<=n_ then Dz ((y.length:Int) != 0) else Ek Err.stuck)=Dz b:=h;by_cases J:y.length<=n_
  ·rw [p_ J] at h';exact ⟨J,(EA h').symm⟩
  ·rw [l_ J] at h';cases h'
 |tup ds=>
  obtain ⟨p,xs,e,t,r⟩:=q;subst e;refine .inr (.inl ⟨xs,s.tup t,?_⟩);rw [<- EA h];cases ds with
  |nil=>rw [show xs=[] from r];rfl
  |cons d ds=>obtain ⟨v,vs,e,_⟩:=r;rw [e];rfl
 |lst ds=>
  obtain ⟨p,xs,e,t,r⟩:=q;subst e;refine .inl ⟨xs,s.lst t,?_⟩;rw [<- EA h];cases ds with
  |nil=>rw [show xs=[] from r];rfl
  |cons d ds=>obtain ⟨v,vs,e,_⟩:=r;rw [e];rfl
 |ins C fs=>cases h
 |dic ks=>cases h
 |dil ks=>cases h
theorem rd_tru (h:tDT K W (wY fa) σ H R):tD K W c_ fa σ H fun x H1=>∃k,TruV K x H1 k/\R k H1:=by
 obtain ⟨F,ρ,r,s,p⟩:=h;refine aI r s (fun e Y=>?_) fun a c x F1 H1 S q1=>?_
 ·have z:wY fa ρ=.error e:=by unfold wY;rw [Y];rfl
  rw [z] at p;exact p
 ·have z:wY fa ρ=truD a:=by unfold wY;rw [c];rfl
  rw [z] at p;cases e:truD a with
  |ok b=>rw [e] at p;exact ⟨b,tru_of S.fh q1 e,p F1 H1 S⟩
  |error x=>
   rw [e] at p;have:x=.stuck:=by
    cases a with
    |str y=>
     have J:(if y.length<=n_ then Dz ((y.length:Int) != 0) else Ek Err.stuck)=Ek x:=e;by_cases U:y.length<=n_
     ·rw [p_ U] at J;cases J
     ·rw [l_ U] at J;cases J;rfl
    |ins C fs=>cases e;rfl
    |dic ks=>cases e;rfl
    |dil ks=>cases e;rfl
    |_=>cases e
   subst this;exact (W.ns p).elim
theorem rd_andV (h:tD K W c_ (tB fa fb) σ H Q):tAndV (tD K W c_ fa) (tD K W c_ fb) σ H Q:=by
 obtain ⟨F,ρ,r,s,p⟩:=h;refine aI r s (fun e S=>p.err (by unfold tB;rw [S];rfl)) fun a U x F1 H1 J q1=>?_;have z:tB fa fb ρ=(asB a).bind fun b=>if b=f_ then fb ρ else .ok (.bl c_):=by unfold tB;rw [U];rfl
 rw [z] at p;cases a with
 |bl b=>
  refine ⟨b,q1,?_⟩
  cases b with
  |true=>exact ⟨F1,ρ,r.mono J.ff,J.fh,aw.step (own:=c_) (r:=fb ρ) p J⟩
  |false=>exact p (.bl c_) F1 H1 J rfl
 |_=>exact (W.ns p).elim
theorem wA {g:Dat->Dat->M Dat} (h:tD K W c_ (i6 g g' fa fb fc) σ H Q):zM (rD2 K W c_ g) (rD2 K W c_ g') (tD K W c_ fa) (tD K W c_ fb) (tD K W c_ fc) σ H Q:=by
 obtain ⟨F,ρ,r,s,p⟩:=h;refine aI r s (fun e U=>p.err (by unfold i6;rw [U];rfl)) fun a l x F1 H1 S q1=>?_;refine aI (r.mono S.ff) S.fh (fun e U=>(p.step S).err (by unfold i6;rw [l];show (fb ρ).bind _=_;rw [U];rfl)) fun b q y u H2 Y q2=>?_;have z:i6 g g' fa fb fc ρ=(g a b).bind fun x=>(asB x).bind fun k=>if k=f_ then (fc ρ).bind fun c=>g' b c else .ok (.bl c_):=by unfold i6;rw [l];show (fb ρ).bind _=_;rw [q];rfl
 rw [z] at p;refine ⟨u,a,b,Y.fh,aW.mono Y.ff q1,q2,?_⟩
 have p2:=p.step (S.trans Y);cases e:g a b with
 |error x=>rw [e] at p2;exact p2
 |ok d=>
  rw [e] at p2;intro v j i J n;have p3:aw K W c_ j i ((asB d).bind fun k=>if k=f_ then (fc ρ).bind fun c=>g' b c else .ok (.bl c_)) Q:=aw.step p2 J;cases d with
  |bl k=>
   refine ⟨k,n,?_⟩
   cases k with
   |false=>exact p3 (.bl c_) j i (Step.refl J.fh) rfl
   |true=>
    have p4:aw K W c_ j i ((fc ρ).bind fun c=>g' b c) Q:=p3;refine aI (r.mono (S.trans (Y.trans J)).ff) J.fh (fun e U=>p4.err (by rw [U];rfl)) fun c o w t A f m=>⟨t,b,c,f.fh,aW.mono (J.trans f).ff q2,m,?_⟩
    rw [o] at p4;exact p4.step f
  |_=>exact (W.ns p3).elim
end
inductive Pat where
 |nm (i:Nat)|tp (is:List Nat)
noncomputable def ig:List Nat->List Dat->ah->ah
 |i::is,d::ds,ρ=>ig is ds (ρ.set i (a_ d))
 |_,_,ρ=>ρ
def d9:Pat->Dat->ah->M ah
 |.nm i,d,ρ=>.ok (ρ.set i (a_ d))
 |.tp is,.tup ds,ρ=>if ds.length=is.length then .ok (ig is ds ρ) else .error .stuck
 |.tp _,_,_=>.error .stuck
def fZ:List Nat->TGs
 |[]=>gNil
 |i::is=>gCons (n4 i) (fZ is)
def gP (K:Fg):Pat->TG
 |.nm i=>n4 i
 |.tp is=>gTup K is.length (fZ is)
theorem oX {K:Fg} {F H:Hp} {R:St->Hp->Prop}:∀{is:List Nat} {ds:List Dat} {vs:List V} {σ:St} {ρ:ah},jJ K F σ ρ->au K F ds vs->ds.length=is.length->(∀σ',jJ K F σ' (ig is ds ρ)->R σ' H)->fZ is vs σ H R
 |[],[],_,σ,ρ,r,q,_,h=>⟨q,h σ r⟩
 |[],_::_,_,_,_,_,_,e,_=>by simp at e
 |_::_,[],_,_,_,_,_,e,_=>by simp at e
 |i::is,d::ds,_,σ,ρ,r,⟨v,vs,e,q,t⟩,l,h=>⟨v,vs,e,oX (r.set q i) t (by simpa using l) h⟩
theorem gP_run {R:St->Hp->Prop} {p:Pat} {v:V} (r:jJ K F σ ρ) (s:aN F H) (q:aW K F d v) (e:d9 p d ρ=.ok ρ') (h:∀σ',jJ K F σ' ρ'->R σ' H):gP K p v σ H R:=by
 cases p with
 |nm i=>
  have:=EA e;subst this;exact h _ (r.set q i)
 |tp is=>
  cases d with
  |tup ds=>
   have S:(if ds.length=is.length then Dz (ig is ds ρ) else Ek Err.stuck)=Dz ρ':=e;by_cases J:ds.length=is.length
   ·rw [p_ J] at S;have:=EA S;subst this;obtain ⟨a,xs,ev,t,z⟩:=q;exact ⟨a,xs,ev,s.tup t,by rw [z.length,J],oX r z J h⟩
   ·rw [l_ J] at S;cases S
  |_=>cases e
theorem km {p:Pat} {e:Err} (h:d9 p d ρ=.error e):e=.stuck:=by
 cases p with
 |nm i=>cases h
 |tp is=>
  cases d with
  |tup ds=>
   have J:(if ds.length=is.length then Dz (ig is ds ρ) else Ek Err.stuck)=Ek e:=h;by_cases S:ds.length=is.length
   ·rw [p_ S] at J;cases J
   ·rw [l_ S] at J;cases J;rfl
  |_=>cases h;rfl
structure rB (K:Fg) (F1:Hp) (J:It) (ds:List Dat):Prop where
 go:∀(i:Nat) (F H:Hp),aN F1 F->aN F H->i<ds.length->J.go i H
 yl:∀(i:Nat) (F H:Hp) (x:V) (H':Hp) (d:Dat),aN F1 F->aN F H->ds[i]? =a_ d->J.yld i H x H'->∃F',Step F H F' H'/\aW K F' d x
 st:∀(F H:Hp),aN F1 F->aN F H->J.stop ds.length H
def iD (K:Fg) (W:ck) (f:ah->M (List Dat)):TI:=fun σ H R=>∃F ρ,jJ K F σ ρ/\aN F H/\(match f ρ with
 |.ok ds=>∀J F1 H1,Step F H F1 H1->rB K F1 J ds->R J H1
 |.error e=>W.p e F H)
noncomputable def iy:Dat->M (List Dat)
 |.lst ds=>.ok ds
 |.tup ds=>.ok ds
 |_=>.error .stuck
def fIt (fa:ah->M Dat):ah->M (List Dat):=fun ρ=>(fa ρ).bind iy
def iSeq (K:Fg) (tl:TE):TI:=fun σ H R=>tl σ H fun x H1=>∃a,x=.ref a/\((∃xs,SqL K H1 a xs)/\R (Itl K a) H1\/(∃xs,SqT K H1 a xs)/\R (Itt K a) H1)
theorem AZ (t:SqL K F a xs) (z:au K F ds xs):rB K F (Itl K a) ds where
 go:=fun i F' H' S J hi=>⟨xs,xs[i]'(by rw [z.length];exact hi),J.lst (S.lst t),by simp [z.length,hi]⟩
 yl:=fun i F' H' x H2 d S J hd U=>by
  obtain ⟨e,U⟩:=U;subst e;obtain ⟨v,e1,q⟩:=z.get hd;have e2:=U xs (J.lst (S.lst t));rw [e1] at e2;cases e2;exact ⟨F',Step.refl J,q.mono S⟩
 st:=fun F' H' S J=>⟨xs,J.lst (S.lst t),by rw [z.length];exact m_ _⟩
theorem iter_tup (t:SqT K F a xs) (z:au K F ds xs):rB K F (Itt K a) ds where
 go:=fun i F' H' S J hi=>⟨xs,xs[i]'(by rw [z.length];exact hi),J.tup (S.tup t),by simp [z.length,hi]⟩
 yl:=fun i F' H' x H2 d S J hd U=>by
  obtain ⟨e,U⟩:=U;subst e;obtain ⟨v,e1,q⟩:=z.get hd;have e2:=U xs (J.tup (S.tup t));rw [e1] at e2;cases e2;exact ⟨F',Step.refl J,q.mono S⟩
 st:=fun F' H' S J=>⟨xs,J.tup (S.tup t),by rw [z.length];exact m_ _⟩
noncomputable def az (lo:Int) (n:Nat):List Dat:=(Cc n).map fun k:Nat=>Dat.int (lo+k)
theorem oN:rB K F (Itr lo n) (az lo n) where
 go:=fun i F' H' U J hi=>by show i<n;simpa [az] using hi
 yl:=fun i F' H' x H2 d U J hd S=>by
  obtain ⟨e,S⟩:=S;subst e S;unfold az at hd;rw [CC] at hd;have hi:i<n:=by
   have:=(y_.mp (show ((Cc n).map fun k:Nat=>Dat.int (lo+k))[i]? =a_ d by rw [CC];exact hd)).1;simpa using this
  rw [GS hi] at hd;cases hd;exact ⟨F',Step.refl J,rfl⟩
 st:=fun F' H' U J=>by show n<=_;simp [az]
noncomputable def aZ (i:Int):Bool:=Ca (-(2^62)<=i)&&Ca (i<2^62)
def j6:List Dat->M (List Dat)
 |[.int j]=>if aZ j=f_ then .ok (az 0 j.toNat) else .error .stuck
 |_=>.error .stuck
def uM:List Dat->M (List Dat)
 |[.int i,.int j]=>if (aZ i&&aZ j)=f_ then .ok (az i (j-i).toNat) else .error .stuck
 |_=>.error .stuck
noncomputable def gF (g:List Dat->M (List Dat)) (fr:ah->M (List Dat)):ah->M (List Dat):=fun ρ=>(fr ρ).bind g
section
variable {W:ck} {Q:VK} 
theorem ri_seq {R:It->Hp->Prop} (h:iD K W (fIt fa) σ H R):iSeq K (tD K W c_ fa) σ H R:=by
 obtain ⟨F,ρ,r,s,p⟩:=h;refine aI r s (fun e S=>?_) fun a U x F1 H1 J q1=>?_
 ·have z:fIt fa ρ=.error e:=by unfold fIt;rw [S];rfl
  rw [z] at p;exact p
 ·have z:fIt fa ρ=iy a:=by unfold fIt;rw [U];rfl
  rw [z] at p;cases a with
  |lst ds=>
   obtain ⟨b,xs,e,t,z⟩:=q1;exact ⟨b,e,.inl ⟨⟨xs,J.fh.lst t⟩,p _ F1 H1 J (AZ t z)⟩⟩
  |tup ds=>
   obtain ⟨b,xs,e,t,z⟩:=q1;exact ⟨b,e,.inr ⟨⟨xs,J.fh.tup t⟩,p _ F1 H1 J (iter_tup t z)⟩⟩
  |_=>exact (W.ns p).elim
theorem ri_rng1 {fr:ah->M (List Dat)} {R:It->Hp->Prop} (h:iD K W (gF j6 fr) σ H R):iRng1 (tDA K W fr) σ H R:=by
 obtain ⟨F,ρ,r,s,p⟩:=h;refine ic r s (fun e a=>?_) fun ds hd xs F1 H1 Y q1=>?_
 ·have z:gF j6 fr ρ=.error e:=by unfold gF;rw [a];rfl
  rw [z] at p;exact p
 ·have z:gF j6 fr ρ=j6 ds:=by unfold gF;rw [hd];rfl
  rw [z] at p
  match ds,q1,p with
  |[.int j],⟨v,vs,e,q,t⟩,p=>
   have U:match (if aZ j=f_ then Dz (az 0 j.toNat) else Ek Err.stuck:M (List Dat)) with
    |.ok ds=>∀J F1 H1,Step F H F1 H1->rB K F1 J ds->R J H1
    |.error e=>W.p e F H:=p
   by_cases S:aZ j=f_
   ·rw [p_ S] at U;unfold aZ at S;simp only [u_,CK] at S;exact ⟨j,by rw [e,show v=.int j from q,show vs=[] from t],S.1,S.2,U _ F1 H1 Y oN⟩
   ·rw [l_ S] at U;exact (W.ns U).elim
  |[],_,p=>exact (W.ns p).elim
  |.non::_,_,p=>exact (W.ns p).elim
  |.bl _::_,_,p=>exact (W.ns p).elim
  |.str _::_,_,p=>exact (W.ns p).elim
  |.tup _::_,_,p=>exact (W.ns p).elim
  |.lst _::_,_,p=>exact (W.ns p).elim
  |.ins _ _::_,_,p=>exact (W.ns p).elim
  |.dic _::_,_,p=>exact (W.ns p).elim
  |.dil _::_,_,p=>exact (W.ns p).elim
  |.int _::_::_,_,p=>exact (W.ns p).elim
theorem ri_rng2 {fr:ah->M (List Dat)} {R:It->Hp->Prop} (h:iD K W (gF uM fr) σ H R):iRng2 (tDA K W fr) σ H R:=by
 obtain ⟨F,ρ,r,s,p⟩:=h;refine ic r s (fun e d=>?_) fun ds hd xs F1 H1 c q1=>?_
 ·have z:gF uM fr ρ=.error e:=by unfold gF;rw [d];rfl
  rw [z] at p;exact p
 ·have z:gF uM fr ρ=uM ds:=by unfold gF;rw [hd];rfl
  rw [z] at p;by_cases U:∃i j,ds=[.int i,.int j]
  ·obtain ⟨i,j,rfl⟩:=U;obtain ⟨v,vs,e,q,b,a,e2,q2,t⟩:=q1;have Y:match (if (aZ i&&aZ j)=f_ then Dz (az i (j-i).toNat) else Ek Err.stuck:M (List Dat)) with
    |.ok ds=>∀J F1 H1,Step F H F1 H1->rB K F1 J ds->R J H1
    |.error e=>W.p e F H:=p
   by_cases S:(aZ i&&aZ j)=f_
   ·rw [p_ S] at Y;unfold aZ at S;simp only [u_,CK] at S;exact ⟨i,j,by rw [e,show v=.int i from q,e2,show b=.int j from q2,show a=[] from t],⟨S.1.1,S.1.2,S.2.1,S.2.2⟩,Y _ F1 H1 c oN⟩
   ·rw [l_ S] at Y;exact (W.ns Y).elim
  ·have:uM ds=.error .stuck:=by
    unfold uM;split
    ·exact Cj ⟨_,_,rfl⟩ U
    ·rfl
   rw [this] at p;exact (W.ns p).elim
noncomputable def dG (ix:List (Option Nat)) (ρ:ah):ah:=ix.map fun o=>match o with
 |none=>d_
 |some j=>(ρ[j]?).join
def aH (p:Pat) (ft:ah->M Bool) (fe:ah->M Dat) (ρ0:ah):List Dat->M (List Dat)
 |[]=>.ok []
 |d::ds=>(d9 p d ρ0).bind fun ρ=>(ft ρ).bind fun b=>if b=f_ then (fe ρ).bind fun y=>(aH p ft fe ρ0 ds).bind fun r=>.ok (y::r) else aH p ft fe ρ0 ds
def cj (fi:ah->M (List Dat)) (ix:List (Option Nat)) (p:Pat) (ft:ah->M Bool) (fe:ah->M Dat):ah->M Dat:=fun ρ=>(fi ρ).bind fun ds=>if ds.length<=n_ then (aH p ft fe (dG ix ρ) ds).bind fun r=>.ok (.lst r) else .error .stuck
noncomputable def g7:ah->M Bool:=fun _=>.ok f_
theorem jJ.inS {F:Hp} {ρ:ah} (r:jJ K F σ ρ) (ix:List (Option Nat)):jJ K F (L2.inS ix σ) (dG ix ρ):=
 ⟨by simp [L2.inS,dG],fun i d e=>by
  unfold dG at e;unfold L2.inS;rw [CC] at e ⊢;cases h:ix[i]? with
  |none=>rw [h] at e;cases e
  |some o=>
   rw [h] at e;cases o with
   |none=>cases e
   |some j=>
    simp only [Fo,Dy] at e ⊢;have e1:ρ[j]? =a_ (a_ d):=by
     cases z:ρ[j]? with
     |none=>rw [z] at e;cases e
     |some w=>rw [z] at e;simp at e;rw [e]
    obtain ⟨v,h1,h2⟩:=r.sl j d e1;exact ⟨v,by rw [h1];rfl,h2⟩⟩
theorem A4 {p:Pat} (h:tD K W f_ (cj fi ix p ft fe) σ H Q) :
  tComp (iD K W fi) ix (gP K p) (tDT K W ft) (tD K W c_ fe) σ H Q:=by
 obtain ⟨F,ρ,r,s,q⟩:=h;refine ⟨F,ρ,r,s,?_⟩
 cases T:fi ρ with
 |error e=>exact q.err (by unfold cj;rw [T];rfl)
 |ok ds=>
  intro J F1 H1 C G;have e0:cj fi ix p ft fe ρ=if ds.length<=n_ then (aH p ft fe (dG ix ρ) ds).bind fun r=>.ok (.lst r) else .error .stuck:=by unfold cj;rw [T];rfl
  rw [e0] at q;by_cases R:ds.length<=n_
  ·rw [p_ R] at q;refine ⟨fun i m ys H2=>m=ds.length-i/\i<=ds.length/\∃k S,Step F1 H1 k H2/\au K k S ys/\S.length<=i /\
    (match aH p ft fe (dG ix ρ) (ds.drop i) with
     |.ok U=>aH p ft fe (dG ix ρ) ds=.ok (S++U)
     |.error e=>W.p e F H),⟨ds.length,by omega,Dg _,F1,[],Step.refl C.fh,rfl,Dg _,?_⟩,?_⟩
   ·rw [Gu];cases e:aH p ft fe (dG ix ρ) ds with
    |ok U=>rfl
    |error x=>exact q.err (by rw [e];rfl)
   ·rintro i m ys H2 ⟨rfl,hi,k,S,c,E,ly,t⟩;have A:ys.length<=n_:=by rw [E.length];omega
    by_cases g:i<ds.length
    ·have ed:ds.drop i=ds[i]::ds.drop (i+1):=EY g;rw [ed] at t;refine .inr ⟨G.go i k H2 c.ff c.fh g,A,fun w H'=>(i+1<=ds.length/\∃k S,Step F1 H1 k H'/\au K k S w/\S.length<=i+1 /\
      (match aH p ft fe (dG ix ρ) (ds.drop (i+1)) with
       |.ok U=>aH p ft fe (dG ix ρ) ds=.ok (S++U)
       |.error e=>W.p e F H)),fun w H' n=>⟨ds.length-(i+1),by omega,rfl,n⟩,fun x H' y=>?_⟩
     obtain ⟨Z,o,q3⟩:=G.yl i k H2 x H' ds[i] c.ff c.fh (by simp [g]) y;have r3:jJ K Z (L2.inS ix σ) (dG ix ρ):=(r.mono (C.trans (c.trans o)).ff).inS ix;have z:Step F H Z H':=C.trans (c.trans o);have ec:aH p ft fe (dG ix ρ) (ds[i]::ds.drop (i+1))=(d9 p ds[i] (dG ix ρ)).bind fun Y=>(ft Y).bind fun b=>if b=f_ then (fe Y).bind fun y=>(aH p ft fe (dG ix ρ) (ds.drop (i+1))).bind fun r=>.ok (y::r) else aH p ft fe (dG ix ρ) (ds.drop (i+1)):=by rw [aH]
     rw [ec] at t;cases D:d9 p ds[i] (dG ix ρ) with
     |error e=>
      rw [D] at t;have:=km D;subst this;exact (W.ns t).elim
     |ok Y=>
      rw [D] at t;refine gP_run r3 o.fh q3 D fun σ2 P=>?_;have j:match ((ft Y).bind fun b=>if b=f_ then (fe Y).bind fun y=>(aH p ft fe (dG ix ρ) (ds.drop (i+1))).bind fun r=>.ok (y::r) else aH p ft fe (dG ix ρ) (ds.drop (i+1))) with
       |.ok U=>aH p ft fe (dG ix ρ) ds=.ok (S++U)
       |.error e=>W.p e F H:=t
      refine jo P o.fh (fun e I=>by rw [I] at j;exact W.mono j z) fun b L F5 H5 u=>?_;rw [L] at j;cases b with
      |false=>
       have f:match aH p ft fe (dG ix ρ) (ds.drop (i+1)) with
        |.ok U=>aH p ft fe (dG ix ρ) ds=.ok (S++U)
        |.error e=>W.p e F H:=j
       exact ⟨g,F5,S,c.trans (o.trans u),E.mono (o.trans u).ff,by omega,f⟩
      |true=>
       have f:match ((fe Y).bind fun y=>(aH p ft fe (dG ix ρ) (ds.drop (i+1))).bind fun r=>.ok (y::r)) with
        |.ok U=>aH p ft fe (dG ix ρ) ds=.ok (S++U)
        |.error e=>W.p e F H:=j
       refine aI (P.mono u.ff) u.fh (fun e I=>by rw [I] at f;exact W.mono f (z.trans u)) fun d hd v F6 H6 O q6=>?_;rw [hd] at f;refine ⟨g,F6,S++[d],c.trans (o.trans (u.trans O)),au.append (E.mono (o.trans (u.trans O)).ff) ⟨v,[],rfl,q6,rfl⟩,by simp;omega,?_⟩
       have l:match ((aH p ft fe (dG ix ρ) (ds.drop (i+1))).bind fun r=>.ok (d::r):M (List Dat)) with
        |.ok U=>aH p ft fe (dG ix ρ) ds=.ok (S++U)
        |.error e=>W.p e F H:=f
       cases X:aH p ft fe (dG ix ρ) (ds.drop (i+1)) with
       |ok U=>
        rw [X] at l;show _=Dz ((S++[d])++U);rw [Ew];exact l
       |error x=>rw [X] at l;exact l
    ·have:i=ds.length:=by omega
     subst this;rw [Gz] at t;have B:aH p ft fe (dG ix ρ) ds=.ok (S++[]):=t;rw [Ed] at B;rw [B] at q;refine .inl ⟨G.st k H2 c.ff c.fh,A,fun a N=>?_⟩;have st:Step F H k H2:=C.trans c;exact q (.ref a) k _ (st.trans (Step.grow c.fh N)) ⟨a,ys,rfl,ao,c.fh.free N,st.hh.free N,E⟩
  ·rw [l_ R] at q;exact (W.ns q).elim
end
inductive Flo where
 |nx (ρ:ah)|rt (d:Dat)|bk (ρ:ah)|ct (ρ:ah)
variable {g:ah->M Flo}
structure Rep (K:Fg) (F0 H0 FB:Hp) (O:List Nat) (F H:Hp) (σ:St) (ρ:ah):Prop where
 st:Step F0 H0 F H
 fb:aN FB F
 len:ρ.length=σ.length
 fz:∀(i:Nat) (d:Dat),ρ[i]? =a_ (a_ d)->i∉O->∃v,σ[i]? =a_ (a_ v)/\aW K F d v
 ow:∀(i:Nat) (d:Dat),ρ[i]? =a_ (a_ d)->i∈O->∃v,σ[i]? =a_ (a_ v)/\l5 K F H0 H d v
 ap:∀(i j:Nat) (d e:Dat) (a:h_),i∈O->j∈O->(ρ[i]? =a_ (a_ d)/\isO d=f_)->(ρ[j]? =a_ (a_ e)/\isO e=f_)->σ[i]? =a_ (a_ (.ref a))->σ[j]? =a_ (a_ (.ref a))->i=j
def j4 (O O2:List Nat) (σ:St) (ρ:ah) (b:h_):Prop:=∃(i:Nat) (d:Dat),i∈O/\i∉O2/\isO d=f_/\ρ[i]? =a_ (a_ d)/\σ[i]? =a_ (a_ (.ref b))
open Classical in
noncomputable def plus (F H:Hp) (A:Addr->Prop):Hp:=fun b=>if A b then H b else F b
open Classical in
noncomputable def minus (F:Hp) (A:Addr->Prop):Hp:=fun b=>if A b then none else F b
theorem ij {A:h_->Prop} (h:A b):plus F H A b=H b:=by unfold plus;rw [p_ h]
theorem dS {A:h_->Prop} (h:¬A b):plus F H A b=F b:=by unfold plus;rw [l_ h]
theorem qv {A:h_->Prop} (h:A b):minus F A b=d_:=by unfold minus;rw [p_ h]
theorem eZ {A:h_->Prop} (h:¬A b):minus F A b=F b:=by unfold minus;rw [l_ h]
section
theorem Rep.own (r:Rep K F0 H0 FB O F H σ ρ) (h:j4 O O2 σ ρ b):F b=d_/\H0 b=d_/\∃o,H b=a_ o/\isMu o=f_:=by
 obtain ⟨i,d,hi,_,hd,e1,e2⟩:=h;obtain ⟨v,e3,q⟩:=r.ow i _ e1 hi;rw [e2] at e3;cases e3;obtain ⟨a,o,e,p,m,f,z⟩:=q.top hd;cases e;exact ⟨f,z,o,p,m⟩
theorem Rep.ju (r:Rep K F0 H0 FB O F H σ ρ):aN F (plus F H (j4 O O2 σ ρ)):=fun b o h=>by
 by_cases J:j4 O O2 σ ρ b
 ·rw [(r.own J).1] at h;cases h
 ·rw [dS J];exact h
theorem Rep.dg (r:Rep K F0 H0 FB O F H σ ρ):aN (plus F H (j4 O O2 σ ρ)) H:=fun b o h=>by
 by_cases J:j4 O O2 σ ρ b
 ·rw [ij J] at h;exact h
 ·rw [dS J] at h;exact r.st.fh b o h
theorem Rep.freeze (r:Rep K F0 H0 FB O F H σ ρ) (J:∀i∈O2,i∈O):Rep K F0 H0 FB O2 (plus F H (j4 O O2 σ ρ)) H σ ρ where
 st:=⟨r.st.ff.trans r.ju,r.st.hh,r.dg,fun b o h=>by
  by_cases g:j4 O O2 σ ρ b
  ·exact .inr (r.own g).2.1
  ·rw [dS g] at h;exact r.st.nw b o h⟩
 fb:=r.fb.trans r.ju
 len:=r.len
 fz:=fun i d e hi=>by
  by_cases S:i∈O
  ·obtain ⟨v,e3,q⟩:=r.ow i d e S;refine ⟨v,e3,?_⟩
   cases hd:isO d with
   |true=>
    obtain ⟨a,_,ev,_⟩:=q.top hd;subst ev;exact q.give hd r.ju (ij ⟨i,d,S,hi,hd,e,e3⟩)
   |false=>rw [l5.non hd] at q;exact q.mono r.ju
  ·obtain ⟨v,e3,q⟩:=r.fz i d e S;exact ⟨v,e3,q.mono r.ju⟩
 ow:=fun i d e hi=>by
  obtain ⟨v,e3,q⟩:=r.ow i d e (J i hi);refine ⟨v,e3,?_⟩
  cases hd:isO d with
  |true=>
   obtain ⟨a,o,ev,p,_,f,z⟩:=q.top hd;subst ev;refine q.re hd r.ju ?_ fun _ h=>h;have:¬j4 O O2 σ ρ a:=fun ⟨j,d',Y,U,c,f1,k⟩=>by
    have:=r.ap i j d d' a (J i hi) Y ⟨e,hd⟩ ⟨f1,c⟩ e3 k;subst this;exact U hi
   rw [dS this];exact f
  |false=>rw [l5.non hd] at q ⊢;exact q.mono r.ju
 ap:=fun i j d e a hi Y=>r.ap i j d e a (J i hi) (J j Y)
theorem Rep.repE (r:Rep K F0 H0 FB [] F H σ ρ):jJ K F σ ρ:=⟨r.len,fun i d e=>r.fz i d e (by simp)⟩
theorem Rep.gC (r:Rep K F0 H0 FB O F H σ ρ):jJ K (plus F H (j4 O [] σ ρ)) σ ρ:=(r.freeze (O2:=[]) (by simp)).repE
noncomputable def erase:List Nat->ah->ah
 |[],ρ=>ρ
 |i::is,ρ=>erase is (ρ.set i d_)
theorem tF:∀(O:List Nat) (ρ:ah),(erase O ρ).length=ρ.length
 |[],_=>rfl
 |i::is,ρ=>by rw [erase,tF,CB]
theorem tG:∀(O:List Nat) (ρ:ah) (i:Nat) (d:Dat),(erase O ρ)[i]? =a_ (a_ d)->ρ[i]? =a_ (a_ d)/\i∉O
 |[],_,_,_,h=>⟨h,by simp⟩
 |j::is,ρ,i,d,h=>by
  obtain ⟨h1,h2⟩:=tG is (ρ.set j d_) i d h;by_cases e:j=i
  ·subst e;have J:j<ρ.length:=by
    have:=(y_.mp h1).1;simpa using this
   rw [B_ J] at h1;cases h1
  ·rw [q_ e] at h1;exact ⟨h1,by simp [h2];omega⟩
theorem Rep.gO (r:Rep K F0 H0 FB O F H σ ρ):jJ K F σ (erase O ρ):=
 ⟨by rw [tF,r.len],fun i d e=>let ⟨h1,h2⟩:=tG O ρ i d e;r.fz i d h1 h2⟩
theorem Rep.step (r:Rep K F0 H0 FB O F H σ ρ) (s:Step F H F1 H1):Rep K F0 H0 FB O F1 H1 σ ρ where
 st:=r.st.trans s
 fb:=r.fb.trans s.ff
 len:=r.len
 fz:=fun i d e hi=>let ⟨v,e3,q⟩:=r.fz i d e hi;⟨v,e3,q.mono s.ff⟩
 ow:=fun i d e hi=>by
  obtain ⟨v,e3,q⟩:=r.ow i d e hi;refine ⟨v,e3,?_⟩
  cases hd:isO d with
  |true=>
   obtain ⟨a,u,ev,p,_,f,z⟩:=q.top hd;subst ev;refine q.re hd s.ff ?_ (s.hh a);cases e1:F1 a with
   |none=>rfl
   |some o=>
    rcases s.nw a o e1 with h|h
    ·rw [f] at h;cases h
    ·rw [p] at h;cases h
  |false=>rw [l5.non hd] at q ⊢;exact q.mono s.ff
 ap:=r.ap
theorem Rep.eF (r:Rep K F0 H0 FB O F H σ ρ) (s:Step (plus F H (j4 O [] σ ρ)) H F1 H1):Rep K F0 H0 FB O (minus F1 (j4 O [] σ ρ)) H1 σ ρ:=by
 refine r.step ⟨fun b o h=>?_,s.hh,fun b o h=>?_,fun b o h=>?_⟩
 ·by_cases J:j4 O [] σ ρ b
  ·rw [(r.own J).1] at h;cases h
  ·rw [eZ J];exact s.ff b o (by rw [dS J];exact h)
 ·by_cases J:j4 O [] σ ρ b
  ·rw [qv J] at h;cases h
  ·rw [eZ J] at h;exact s.fh b o h
 ·by_cases J:j4 O [] σ ρ b
  ·rw [qv J] at h;cases h
  ·rw [eZ J] at h;rcases s.nw b o h with z|z
   ·rw [dS J] at z;exact .inl z
   ·exact .inr z
theorem Rep.jb (r:Rep K F0 H0 FB O F H σ ρ) (s:Step (plus F H (j4 O [] σ ρ)) H F1 H1) (a:h_) (xs:List V) (h:SqT K F1 a xs):SqT K (minus F1 (j4 O [] σ ρ)) a xs:=by
 have key:∀{b:h_} {o:HO},F1 b=a_ o->isMu o=c_->minus F1 (j4 O [] σ ρ) b=a_ o:=fun {b o} h n=>by
  by_cases J:j4 O [] σ ρ b
  ·obtain ⟨_,_,u,e,m⟩:=r.own J;have:=s.ff b u (by rw [ij J];exact e);rw [h] at this;cases this;rw [n] at m;cases m
  ·rw [eZ J];exact h
 rcases h with (h|⟨o,h⟩)|h
 ·exact .inl (.inl (key h rfl))
 ·exact .inl (.inr ⟨o,key h rfl⟩)
 ·exact .inr h
theorem Rep.set {d:Dat} {v:V} (r:Rep K F0 H0 FB O F H σ ρ) (q:aW K F d v) (i:Nat):Rep K F0 H0 FB (O.filter (· != i)) F H (σ.set i (a_ v)) (ρ.set i (a_ d)) where
 st:=r.st
 fb:=r.fb
 len:=by rw [CB,CB,r.len]
 fz:=fun j e h S=>by
  by_cases J:i=j
  ·subst J;have hi:i<ρ.length:=by
    have:=(y_.mp h).1;simpa using this
   rw [B_ hi] at h;cases h;exact ⟨v,by rw [B_ (by rw [<- r.len];exact hi)],q⟩
  ·rw [q_ J] at h;rw [q_ J];exact r.fz j e h fun z=>S (Dc.mpr ⟨z,by simpa using CV J⟩)
 ow:=fun j e h S=>by
  obtain ⟨h1,h2⟩:=Dc.mp S;have J:i≠j:=fun z=>by simp [z] at h2
  rw [q_ J] at h ⊢;exact r.ow j e h h1
 ap:=fun j k ds es a S c e1 e2 e3 e4=>by
  obtain ⟨b,Y⟩:=Dc.mp S;obtain ⟨k1,k2⟩:=Dc.mp c;have J:i≠j:=fun z=>by simp [z] at Y
  have U:i≠k:=fun z=>by simp [z] at k2
  rw [q_ J] at e1 e3;rw [q_ U] at e2 e4;exact r.ap j k ds es a b k1 e1 e2 e3 e4
theorem Rep.setOwn {v:V} (r:Rep K F0 H0 FB O F H σ ρ) (q:l5 K F H0 H d v) (u:∀a,v=.ref a->isO d=f_->¬j4 O [i] σ ρ a):Rep K F0 H0 FB (i::O.filter (· != i)) F H (σ.set i (a_ v)) (ρ.set i (a_ d)) where
 st:=r.st
 fb:=r.fb
 len:=by rw [CB,CB,r.len]
 fz:=fun j e h b=>by
  simp only [r_,MT] at b;have J:i≠j:=fun z=>b.1 z.symm;rw [q_ J] at h ⊢;exact r.fz j e h fun z=>b.2 (Dc.mpr ⟨z,by simpa using CV J⟩)
 ow:=fun j e h b=>by
  by_cases J:i=j
  ·subst J;have hi:i<ρ.length:=by
    have:=(y_.mp h).1;simpa using this
   rw [B_ hi] at h;cases h;exact ⟨v,by rw [B_ (by rw [<- r.len];exact hi)],q⟩
  ·rw [q_ J] at h ⊢;rcases r_.mp b with z|z
   ·exact Cj z.symm J
   ·exact r.ow j e h (Dc.mp z).1
 ap:=fun j k ds es a b p e1 e2 e3 e4=>by
  have key:∀{c:Nat} {U S:Dat},c∈O->c≠i->((ρ.set i (a_ d))[i]? =a_ (a_ U)/\isO U=f_)->((ρ.set i (a_ d))[c]? =a_ (a_ S)/\isO S=f_)->(σ.set i (a_ v))[i]? =a_ (a_ (.ref a))->(σ.set i (a_ v))[c]? =a_ (a_ (.ref a))->False:=by
   intro c U S l f f1 n f3 f4;have hi:i<ρ.length:=by
    have:=(y_.mp f1.1).1;simpa using this
   rw [B_ hi] at f1;rw [B_ (by rw [<- r.len];exact hi)] at f3;rw [q_ (CV f)] at n f4;have t:v=.ref a:=by simpa using f3
   have s:d=U:=by simpa using f1.1
   exact u a t (s▸f1.2) ⟨c,S,l,by simpa using f,n.2,n.1,f4⟩
  rcases r_.mp b with g|g
  ·rcases r_.mp p with Y|Y
   ·rw [g,Y]
   ·obtain ⟨k1,k2⟩:=Dc.mp Y;subst g;exact (key k1 (by simpa using k2) e1 e2 e3 e4).elim
  ·obtain ⟨o,w⟩:=Dc.mp g;have J:i≠j:=fun z=>by simp [z] at w
   rcases r_.mp p with Y|Y
   ·subst Y;exact (key o (CV J) e2 e1 e4 e3).elim
   ·obtain ⟨k1,k2⟩:=Dc.mp Y;have m:i≠k:=fun z=>by simp [z] at k2
    rw [q_ J] at e1 e3;rw [q_ m] at e2 e4;exact r.ap j k ds es a o k1 e1 e2 e3 e4
end
section
theorem Rep.dH (r:Rep K F0 H0 FB O F H σ ρ) (s:Step (plus F H (j4 O [] σ ρ)) H F1 H1):aN F (minus F1 (j4 O [] σ ρ)):=fun b o h=>by
 by_cases J:j4 O [] σ ρ b
 ·rw [(r.own J).1] at h;cases h
 ·rw [eZ J];exact s.ff b o (by rw [dS J];exact h)
theorem yO (h:i∉O):O.filter (· != i)=O:=by
 rw [List.filter_eq_self];intro a J;simp;intro e;exact h (e▸J)
theorem Rep.set' {v:V} (r:Rep K F0 H0 FB O F H σ ρ) (q:aW K F d v) (hi:i∉O):Rep K F0 H0 FB O F H (σ.set i (a_ v)) (ρ.set i (a_ d)):=by
 have:=r.set q i;rw [yO hi] at this;exact this
theorem Rep.base {J:Hp} (r:Rep K F0 H0 FB O F H σ ρ) (s:aN J FB):Rep K F0 H0 J O F H σ ρ:=⟨r.st,s.trans r.fb,r.len,r.fz,r.ow,r.ap⟩
theorem Rep.w6 {d':Dat} {u:HO} (r:Rep K F0 H0 FB O F H σ ρ) (hi:i∈O) (e1:ρ[i]? =a_ (a_ d)) (hd:isO d=f_) (e2:σ[i]? =a_ (a_ (.ref a))) (q:F a=d_->H0 a=d_->l5 K F H0 (upd H a u) d' (.ref a)):Rep K F0 H0 FB O F (upd H a u) σ (ρ.set i (a_ d')):=by
 have Y:F a=d_/\H0 a=d_/\∃o,H a=a_ o/\isMu o=f_:=r.own (O2:=[]) ⟨i,d,hi,by simp,hd,e1,e2⟩;have g:i<ρ.length:=(y_.mp e1).1;refine ⟨⟨r.st.ff,fun b o h=>?_,fun b o h=>?_,r.st.nw⟩,r.fb,by rw [CB,r.len],fun j e h S=>?_,fun j e h S=>?_,fun j k es fs b S t f1 y f3 f4=>?_⟩
 ·rw [aq (aF h Y.2.1)];exact r.st.hh b o h
 ·rw [aq (aF h Y.1)];exact r.st.fh b o h
 ·have J:i≠j:=fun z=>S (z▸hi);rw [q_ J] at h;exact r.fz j e h S
 ·by_cases J:i=j
  ·subst J;rw [B_ g] at h;cases h;exact ⟨.ref a,e2,q Y.1 Y.2.1⟩
  ·rw [q_ J] at h;obtain ⟨v,e3,z⟩:=r.ow j e h S;refine ⟨v,e3,?_⟩
   cases c:isO e with
   |true=>
    obtain ⟨b,o,ev,p,_,f,_⟩:=z.top c;subst ev;have l:b≠a:=fun z=>by
     subst z;exact J (r.ap i j d e b hi S ⟨e1,hd⟩ ⟨h,c⟩ e2 e3)
    exact z.re c (aN.refl _) f fun o h=>by rw [aq l];exact h
   |false=>rw [l5.non c] at z ⊢;exact z
 ·have U:∀{j:Nat} {e:Dat},((ρ.set i (a_ d'))[j]? =a_ (a_ e)/\isO e=f_)->∃s,ρ[j]? =a_ (a_ s)/\isO s=f_:=fun {j e} f=>by
   by_cases J:i=j
   ·subst J;exact ⟨d,e1,hd⟩
   ·rw [q_ J] at f;exact ⟨e,f⟩
  obtain ⟨n,x⟩:=U f1;obtain ⟨m,w⟩:=U y;exact r.ap j k n m b S t x w f3 f4
theorem Rep.write {S:List Dat} {J:List V} (r:Rep K F0 H0 FB O F H σ ρ) (hi:i∈O) (e1:ρ[i]? =a_ (a_ (.lst ds))) (e2:σ[i]? =a_ (a_ (.ref a))) (q:au K F S J):Rep K F0 H0 FB O F (upd H a (.lst J)) σ (ρ.set i (a_ (.lst S))):=
 r.w6 hi e1 rfl e2 fun f z=>⟨a,J,rfl,ao,f,z,q⟩
noncomputable def Pat.names:Pat->List Nat
 |.nm i=>[i]
 |.tp is=>is
theorem oY {R:St->Hp->Prop}:∀{is:List Nat} {ds:List Dat} {vs:List V} {σ:St} {ρ:ah},Rep K F0 H0 FB O F H σ ρ->(∀i∈is,i∉O)->au K F ds vs->ds.length=is.length->(∀σ',Rep K F0 H0 FB O F H σ' (ig is ds ρ)->R σ' H)->fZ is vs σ H R
 |[],[],_,σ,ρ,r,_,q,_,h=>⟨q,h σ r⟩
 |[],_::_,_,_,_,_,_,_,e,_=>by simp at e
 |_::_,[],_,_,_,_,_,_,e,_=>by simp at e
 |i::is,d::ds,_,σ,ρ,r,n,⟨v,vs,e,q,t⟩,l,h=>⟨v,vs,e,oY (r.set' q (n i (by simp))) (fun j J=>n j (by simp [J])) t (by simpa using l) h⟩
theorem gP_rep {R:St->Hp->Prop} {p:Pat} {v:V} (r:Rep K F0 H0 FB O F H σ ρ) (n:∀i∈p.names,i∉O) (q:aW K F d v) (e:d9 p d ρ=.ok ρ') (h:∀σ',Rep K F0 H0 FB O F H σ' ρ'->R σ' H):gP K p v σ H R:=by
 cases p with
 |nm i=>
  have:=EA e;subst this;exact h _ (r.set' q (n i (by simp [Pat.names])))
 |tp is=>
  cases d with
  |tup ds=>
   have S:(if ds.length=is.length then Dz (ig is ds ρ) else Ek Err.stuck)=Dz ρ':=e;by_cases J:ds.length=is.length
   ·rw [p_ J] at S;have:=EA S;subst this;obtain ⟨a,xs,ev,t,z⟩:=q;exact ⟨a,xs,ev,r.st.fh.tup t,by rw [z.length,J],oY r n z J h⟩
   ·rw [l_ J] at S;cases S
  |_=>cases e
end
def bY (K:Fg) (W:ck) (ro:Bool) (F0 H0 FB:Hp) (OL O':List Nat) (D:Ends) (r:M Flo):Prop:=match r with
 |.ok (.nx ρ)=>∀σ F H,Rep K F0 H0 FB O' F H σ ρ->D.nx σ H
 |.ok (.rt d)=>∀v F H,Step F0 H0 F H->Val K ro F H0 H d v->D.rt v H
 |.ok (.bk ρ)=>∀σ F H,Rep K F0 H0 FB OL F H σ ρ->D.bk σ H
 |.ok (.ct ρ)=>∀σ F H,Rep K F0 H0 FB OL F H σ ρ->D.ct σ H
 |.error e=>W.p e F0 H0
def tS (K:Fg) (W:ck) (ro:Bool) (F0 H0:Hp) (OL O O':List Nat) (g:ah->M Flo):TS:=fun D σ H=>∃FB F ρ,Rep K F0 H0 FB O F H σ ρ/\bY K W ro F0 H0 FB OL O' D (g ρ)
noncomputable def cG:ah->M Flo:=fun ρ=>.ok (.nx ρ)
noncomputable def aP (g h:ah->M Flo):ah->M Flo:=fun ρ=>(g ρ).bind fun fl=>match fl with
 |.nx ρ'=>h ρ'
 |fl=>.ok fl
noncomputable def sIf (ft:ah->M Bool) (g h:ah->M Flo):ah->M Flo:=fun ρ=>(ft ρ).bind fun b=>if b=f_ then g ρ else h ρ
def kQ:Bool->Dat->Bool
 |true,.lst ds=>oZ ds
 |_,d=>eh d
def sx (own:Bool) (i:Nat) (f:ah->M Dat):ah->M Flo:=fun ρ=>(f ρ).bind fun d=>if kQ own d=f_ then .ok (.nx (ρ.set i (a_ d))) else .error .stuck
def ay (O:List Nat) (i:Nat) (f:ah->M Dat):ah->M Flo:=fun ρ=>(f (erase O ρ)).bind fun d=>.ok (.nx (ρ.set i (a_ d)))
def sv (O:List Nat) (p:Pat) (f:ah->M Dat):ah->M Flo:=fun ρ=>(f (erase O ρ)).bind fun d=>(d9 p d ρ).bind fun ρ'=>.ok (.nx ρ')
noncomputable def ib (ρ:ah) (i:Nat):M (List Dat):=match ρ[i]? with
 |some (a_ (.lst ds))=>.ok ds
 |_=>.error .stuck
noncomputable def put (ρ:ah) (i:Nat) (ds:List Dat):M Flo:=.ok (.nx (ρ.set i (a_ (.lst ds))))
def gM (O:List Nat) (i:Nat) (f:ah->M Dat):ah->M Flo:=fun ρ=>(ib ρ i).bind fun ds=>(f (erase O ρ)).bind fun d=>if ds.length<n_ then put ρ i (ds++[d]) else .error .stuck
noncomputable def asI:Dat->M Int
 |.int i=>.ok i
 |_=>.error .stuck
def uI (i:Nat) (fi f:ah->M Dat):ah->M Flo:=fun ρ=>(f ρ).bind fun d=>(ib ρ i).bind fun ds=>(fi ρ).bind fun k=>(asI k).bind fun k=>if eh d=f_ then (match ixN ds.length k with
 |some j=>put ρ i (ds.set j d)
 |none=>.error .stuck) else .error .stuck
noncomputable def d7 (f:ah->M Dat):ah->M Flo:=fun ρ=>(f ρ).bind fun d=>.ok (.rt d)
noncomputable def isL:Dat->Bool
 |.lst _=>f_
 |_=>c_
def bQ (p:Pat) (g:ah->M Flo):List Dat->ah->M Flo
 |[],ρ=>.ok (.nx ρ)
 |d::ds,ρ=>(d9 p d ρ).bind fun S=>(g S).bind fun fl=>match fl with
  |.nx J=>bQ p g ds J
  |.ct J=>bQ p g ds J
  |.bk J=>.ok (.nx J)
  |.rt d=>.ok (.rt d)
def gL (O:List Nat) (fi:ah->M (List Dat)) (p:Pat) (g:ah->M Flo):ah->M Flo:=fun ρ=>(fi (erase O ρ)).bind fun ds=>bQ p g ds ρ
noncomputable def eK (ft:ah->M Bool) (g:ah->M Flo):Nat->ah->M Flo
 |0,_=>.error .stuck
 |n+1,ρ=>(ft ρ).bind fun b=>if b=f_ then (g ρ).bind fun fl=>match fl with
  |.nx J=>eK ft g n J
  |.ct J=>eK ft g n J
  |.bk J=>.ok (.nx J)
  |.rt d=>.ok (.rt d) else .ok (.nx ρ)
section
variable {W:ck} {own:Bool} {h:ah->M Flo} {f fi:ah->M Dat} 
theorem bY.err {x:M Flo} {e:Err} (p:bY K W ro F0 H0 FB OL O' D x) (h:x=.error e):W.p e F0 H0:=by rw [h] at p;exact p
theorem bY.fg {x:M Flo} {e:Err} (p:bY K W ro F0 H0 FB OL O' D x) (s:Step F0 H0 F H) (h:x=.error e):W.p e F H:=W.mono (p.err h) s
theorem bY.stuck {x:M Flo} {P:Prop} (p:bY K W ro F0 H0 FB OL O' D x) (h:x=.error .stuck):P:=(W.ns (p.err h)).elim
theorem tS.enter (J:∀i∈O2,i∈O) (t:tS K W ro F0 H0 OL O O' g D σ H):tS K W ro F0 H0 OL O2 O' g D σ H:=by
 obtain ⟨FB,F,ρ,r,p⟩:=t;exact ⟨FB,_,ρ,r.freeze J,p⟩
theorem rs_next (t:tS K W ro F0 H0 OL O O cG D σ H):tNext D σ H:=by
 obtain ⟨FB,F,ρ,r,p⟩:=t;exact p σ F H r
theorem rs_seq (t:tS K W ro F0 H0 OL O O2 (aP g h) D σ H):tSeq (tS K W ro F0 H0 OL O O' g) (tS K W ro F0 H0 OL O' O2 h) D σ H:=by
 obtain ⟨FB,F,ρ,r,p⟩:=t;refine ⟨FB,F,ρ,r,?_⟩
 unfold aP at p;cases e:g ρ with
 |error x=>exact p.err (by rw [e];rfl)
 |ok fl=>
  rw [e] at p;cases fl with
  |nx ρ'=>exact fun σ' F' H' r'=>⟨FB,F',ρ',r',p⟩
  |rt d=>exact p
  |bk ρ'=>exact p
  |ct ρ'=>exact p
theorem rs_if (t:tS K W ro F0 H0 OL O O' (sIf ft g h) D σ H):tIfS (tDT K W ft) (tS K W ro F0 H0 OL O O' g) (tS K W ro F0 H0 OL O O' h) D σ H:=by
 obtain ⟨FB,F,ρ,r,p⟩:=t;refine jo r.gC r.dg (fun e S=>p.fg (r.freeze (O2:=[]) (by simp)).st (by unfold sIf;rw [S];rfl)) fun b U F1 H1 J=>?_;have z:sIf ft g h ρ=if b=f_ then g ρ else h ρ:=by unfold sIf;rw [U];rfl
 rw [z] at p;cases b with
 |true=>exact ⟨FB,_,ρ,r.eF J,p⟩
 |false=>exact ⟨FB,_,ρ,r.eF J,p⟩
noncomputable def aft (own:Bool) (i:Nat) (O:List Nat):List Nat:=if own=f_ then i::O.filter (· != i) else O.filter (· != i)
theorem Rep.bindV {v:V} (r:Rep K F0 H0 FB O F H σ ρ) (q:Val K own F H2 H d v) (h2:aN H0 H2) (S:∀a,j4 O [] σ ρ a->∃o,H2 a=a_ o):Rep K F0 H0 FB (aft own i O) F H (σ.set i (a_ v)) (ρ.set i (a_ d)):=by
 cases own with
 |false=>exact r.set q i
 |true=>
  refine r.setOwn (l5.back h2 q) fun a U hd z=>?_;subst U;obtain ⟨b,_,e,_,_,_,n⟩:=l5.top hd q;cases e;obtain ⟨j,es,h1,h2,f,c,Y⟩:=z;obtain ⟨o,J⟩:=S a ⟨j,es,h1,by simp,f,c,Y⟩;rw [n] at J;cases J
theorem uL (t:tS K W ro F0 H0 OL O (aft own i O) (ay O i f) D σ H):tAsg (tD K W own f) (n4 i) D σ H:=by
 obtain ⟨FB,F,ρ,r,p⟩:=t;refine aI r.gO r.st.fh (fun e S=>p.fg r.st (by unfold ay;rw [S];rfl)) fun d hd v F1 H1 J q=>?_;have z:ay O i f ρ=.ok (.nx (ρ.set i (a_ d))):=by unfold ay;rw [hd];rfl
 rw [z] at p;exact p _ F1 H1 ((r.step J).bindV q r.st.hh fun a U=>let ⟨_,_,_,e,_⟩:=r.own U;⟨_,e⟩)
theorem Rep.flatV {v:V} (r:Rep K F0 H0 FB O F H σ ρ) (s:Step (plus F H (j4 O [] σ ρ)) H F1 H1) (q:Val K own F1 H H1 d v) (fl:kQ own d=f_):Val K own (minus F1 (j4 O [] σ ρ)) H H1 d v:=by
 have J:∀{a:h_},F1 a=d_->minus F1 (j4 O [] σ ρ) a=d_:=fun {a} h=>by
  by_cases S:j4 O [] σ ρ a
  ·exact qv S
  ·rw [eZ S];exact h
 cases own with
 |false=>exact aW.flat (r.jb s) (by cases d<;>exact fl) q
 |true=>
  cases d with
  |lst ds=>
   obtain ⟨a,xs,e,p,n,z,t⟩:=q;exact ⟨a,xs,e,p,J n,z,t.flat (r.jb s) fl⟩
  |non=>exact q
  |bl b=>exact q
  |int i=>exact q
  |str x=>exact q
  |tup ds=>exact aW.flat (d:=.tup ds) (r.jb s) fl q
  |ins C fs=>exact aW.flat (d:=.ins C fs) (r.jb s) fl q
  |dic ks=>cases fl
  |dil ks=>cases fl
theorem rs_setA (t:tS K W ro F0 H0 OL O (aft own i O) (sx own i f) D σ H):tAsg (tD K W own f) (n4 i) D σ H:=by
 obtain ⟨FB,F,ρ,r,p⟩:=t;refine aI r.gC r.dg (fun e U=>p.fg (r.freeze (O2:=[]) (by simp)).st (by unfold sx;rw [U];rfl)) fun d hd v F1 H1 S q=>?_;have z:sx own i f ρ=if kQ own d=f_ then .ok (.nx (ρ.set i (a_ d))) else .error .stuck:=by unfold sx;rw [hd];rfl
 rw [z] at p;by_cases J:kQ own d=f_
 ·rw [p_ J] at p;exact p _ _ H1 ((r.eF S).bindV (r.flatV S q J) r.st.hh fun a Y=>let ⟨_,_,_,e,_⟩:=r.own Y;⟨_,e⟩)
 ·rw [l_ J] at p;exact p.stuck rfl
theorem rs_unpB {pt:Pat} (n:∀i∈pt.names,i∉O) (t:tS K W ro F0 H0 OL O O (sv O pt f) D σ H):tAsg (tD K W c_ f) (gP K pt) D σ H:=by
 obtain ⟨FB,F,ρ,r,p⟩:=t;refine aI r.gO r.st.fh (fun e S=>p.fg r.st (by unfold sv;rw [S];rfl)) fun d hd v F1 H1 J q=>?_;have z:sv O pt f ρ=(d9 pt d ρ).bind fun ρ'=>.ok (.nx ρ'):=by unfold sv;rw [hd];rfl
 rw [z] at p;cases e:d9 pt d ρ with
 |error x=>
  have:=km e;subst this;exact p.stuck (by rw [e];rfl)
 |ok ρ'=>
  rw [e] at p;exact gP_rep (r.step J) n q e fun σ' r'=>p σ' F1 H1 r'
theorem iW (h:ib ρ i=.ok ds):ρ[i]? =a_ (a_ (.lst ds)):=by
 unfold ib at h;split at h
 ·cases h;assumption
 ·cases h
theorem mH {e:Err} (h:ib ρ i=.error e):e=.stuck:=by
 unfold ib at h;split at h
 ·cases h
 ·cases h;rfl
theorem Rep.AL (r:Rep K F0 H0 FB O F H σ ρ) (hi:i∈O) (e:ρ[i]? =a_ (a_ (.lst ds))):∃a xs,σ[i]? =a_ (a_ (.ref a))/\H a=a_ (.lst xs)/\au K F ds xs:=by
 obtain ⟨v,e3,a,xs,ev,p,_,_,t⟩:=r.ow i _ e hi;subst ev;exact ⟨a,xs,e3,p,t⟩
def tApp (K:Fg) (i:Nat) (te:TE):TS:=tDrop (tBM K "list" A6 (tVar i) (ky te zJ))
theorem rs_appB (hi:i∈O) (t:tS K W ro F0 H0 OL O O (gM O i f) D σ H):tApp K i (tD K W c_ f) D σ H:=by
 obtain ⟨FB,F,ρ,r,p⟩:=t;cases J:ib ρ i with
 |error e=>
  have:=mH J;subst this;exact p.stuck (by unfold gM;rw [J];rfl)
 |ok ds=>
  obtain ⟨a,xs,e2,Y,z⟩:=r.AL hi (iW J);refine ⟨.ref a,e2,we Y,?_⟩
  refine aI r.gO r.st.fh (fun e b=>p.fg r.st (by unfold gM;rw [J];show (f (erase O ρ)).bind _=_;rw [b];rfl)) fun d hd v F1 H1 S q=>?_;have c:gM O i f ρ=if ds.length<n_ then put ρ i (ds++[d]) else .error .stuck:=by unfold gM;rw [J];show (f (erase O ρ)).bind _=_;rw [hd];rfl
  rw [c] at p;by_cases U:ds.length<n_
  ·rw [p_ U] at p;exact ⟨a,xs,v,rfl,rfl,S.hh _ _ Y,by rw [z.length];exact U,p σ F1 _ ((r.step S).write hi (iW J) e2 (au.append (z.mono S.ff) ⟨v,[],rfl,q,rfl⟩))⟩
  ·rw [l_ U] at p;exact p.stuck rfl
theorem rs_setI (hi:i∈O) (t:tS K W ro F0 H0 OL O O (uI i fi f) D σ H):tAsg (tD K W c_ f) (gSub (tVar i) (tD K W c_ fi) rSetL) D σ H:=by
 obtain ⟨FB,F,ρ,r,p⟩:=t;refine aI r.gC r.dg (fun e c=>p.fg (r.freeze (O2:=[]) (by simp)).st (by unfold uI;rw [c];rfl)) fun d hd v F1 H1 g q=>?_;have n:uI i fi f ρ=(ib ρ i).bind fun ds=>(fi ρ).bind fun k=>(asI k).bind fun k=>if eh d=f_ then (match ixN ds.length k with
  |some j=>put ρ i (ds.set j d)
  |none=>.error .stuck) else .error .stuck:=by unfold uI;rw [hd];rfl
 rw [n] at p;cases S:ib ρ i with
 |error e=>
  have:=mH S;subst this;exact p.stuck (by rw [S];rfl)
 |ok ds=>
  rw [S] at p;have p:bY K W ro F0 H0 FB OL O D ((fi ρ).bind fun k=>(asI k).bind fun k=>if eh d=f_ then (match ixN ds.length k with
   |some j=>put ρ i (ds.set j d)
   |none=>.error .stuck) else .error .stuck):=p
  have J:=r.eF g;obtain ⟨a,xs,e2,m,z⟩:=J.AL hi (iW S);refine ⟨.ref a,e2,?_⟩
  refine aI J.gC J.dg (fun e c=>p.fg (J.freeze (O2:=[]) (by simp)).st (by rw [c];rfl)) fun k l w o H2 U q2=>?_;rw [l] at p;cases k with
  |int k=>
   have p:bY K W ro F0 H0 FB OL O D (if eh d=f_ then (match ixN ds.length k with
    |some j=>put ρ i (ds.set j d)
    |none=>.error .stuck) else .error .stuck):=p
   by_cases b:eh d=f_
   ·rw [p_ b] at p;cases Y:ixN ds.length k with
    |none=>rw [Y] at p;exact p.stuck rfl
    |some j=>
     rw [Y] at p;refine ⟨a,xs,k,j,rfl,q2,U.hh _ _ m,by rw [z.length];exact Y,?_⟩
     have h:aW K (minus F1 (j4 O [] σ ρ)) d v:=aW.flat (r.jb g) b q;exact p σ _ _ ((J.eF U).write hi (iW S) e2 (au.set (h.mono (J.dH U)) j (z.mono (J.dH U))))
   ·rw [l_ b] at p;exact p.stuck rfl
  |_=>exact p.stuck rfl
theorem rs_ret (t:tS K W ro F0 H0 OL O O' (d7 f) D σ H):tRet (tD K W ro f) D σ H:=by
 obtain ⟨FB,F,ρ,r,p⟩:=t;have J:=r.freeze (O2:=[]) (by simp);refine aI r.gC r.dg (fun e U=>p.fg J.st (by unfold d7;rw [U];rfl)) fun d hd v F1 H1 S q=>?_;have z:d7 f ρ=.ok (.rt d):=by unfold d7;rw [hd];rfl
 rw [z] at p;exact p v F1 H1 (J.st.trans S) (q.back r.st.hh)
theorem rs_for {fs:ah->M (List Dat)} {pt:Pat} (n:∀i∈pt.names,i∉O) (t:tS K W ro F0 H0 OL O O (gL O fs pt g) D σ H):tFor (iD K W fs) (gP K pt) (tS K W ro F0 H0 O O O g) D σ H:=by
 obtain ⟨FB,F,ρ,r,p⟩:=t;refine ⟨F,erase O ρ,r.gO,r.st.fh,?_⟩
 cases e:fs (erase O ρ) with
 |error x=>exact p.fg r.st (by unfold gL;rw [e];rfl)
 |ok ds=>
  have z:gL O fs pt g ρ=bQ pt g ds ρ:=by unfold gL;rw [e];rfl
  rw [z] at p;intro J F1 H1 k l;refine ⟨fun i m σ H=>∃F ρ,Rep K F0 H0 F1 O F H σ ρ/\i<=ds.length/\m=ds.length-i/\bY K W ro F0 H0 FB OL O D (bQ pt g (ds.drop i) ρ),⟨ds.length,F1,ρ,?_,Dg _,by omega,by rw [Gu];exact p⟩,?_⟩
  ·have c:=r.step k;exact ⟨c.st,aN.refl _,c.len,c.fz,c.ow,c.ap⟩
  ·rintro i m h H2 ⟨f,S,a,hi,rfl,p2⟩;by_cases Y:i<ds.length
   ·have B:ds.drop i=ds[i]::ds.drop (i+1):=EY Y;rw [B] at p2;refine .inr ⟨l.go i f H2 a.fb a.st.fh Y,fun σ' H'=>(∃F ρ,Rep K F0 H0 F1 O F H' σ' ρ/\bY K W ro F0 H0 FB OL O D (bQ pt g (ds.drop (i+1)) ρ)),fun σ' H' ⟨F,ρ,r,p⟩=>⟨ds.length-(i+1),by omega,F,ρ,r,Y,rfl,p⟩,fun x H' y=>?_⟩;obtain ⟨C,u,w⟩:=l.yl i f H2 x H' ds[i] a.fb a.st.fh (by simp [Y]) y;have A:bQ pt g (ds[i]::ds.drop (i+1)) S=(d9 pt ds[i] S).bind fun j=>(g j).bind fun fl=>match fl with
     |.nx S=>bQ pt g (ds.drop (i+1)) S
     |.ct S=>bQ pt g (ds.drop (i+1)) S
     |.bk S=>.ok (.nx S)
     |.rt d=>.ok (.rt d):=by rw [bQ]
    rw [A] at p2;cases eb:d9 pt ds[i] S with
    |error x=>
     have:=km eb;subst this;exact p2.stuck (by rw [eb];rfl)
    |ok b=>
     rw [eb] at p2;have p2:bY K W ro F0 H0 FB OL O D ((g b).bind fun fl=>match fl with
      |.nx S=>bQ pt g (ds.drop (i+1)) S
      |.ct S=>bQ pt g (ds.drop (i+1)) S
      |.bk S=>.ok (.nx S)
      |.rt d=>.ok (.rt d)):=p2
     refine gP_rep (a.step u) n w eb fun s v=>⟨F1,C,b,v,?_⟩
     have o:aN FB F1:=(r.step k).fb;cases q:g b with
     |error x=>exact p2.err (by rw [q];rfl)
     |ok fl=>
      rw [q] at p2;cases fl with
      |nx U=>exact fun σ' F' H' r'=>⟨F',U,r',p2⟩
      |ct U=>exact fun σ' F' H' r'=>⟨F',U,r',p2⟩
      |bk U=>exact fun σ' F' H' r'=>p2 σ' F' H' (r'.base o)
      |rt d=>exact p2
   ·have:i=ds.length:=by omega
    subst this;rw [Gz] at p2;exact .inl ⟨l.st f H2 a.fb a.st.fh,p2 h f H2 (a.base (r.step k).fb)⟩
theorem rs_while (t:tS K W ro F0 H0 OL O O (eK ft g m) D σ H):tWhile (tDT K W ft) (tS K W ro F0 H0 O O O g) D σ H:=by
 refine ⟨fun m σ H=>tS K W ro F0 H0 OL O O (eK ft g m) D σ H,⟨m,t⟩,?_⟩
 rintro m σ H ⟨FB,F,ρ,r,p⟩;cases m with
 |zero=>exact p.stuck rfl
 |succ m=>
  have h:eK ft g (m+1) ρ=(ft ρ).bind fun b=>if b=f_ then (g ρ).bind fun fl=>match fl with
   |.nx J=>eK ft g m J
   |.ct J=>eK ft g m J
   |.bk J=>.ok (.nx J)
   |.rt d=>.ok (.rt d) else .ok (.nx ρ):=by rw [eK]
  rw [h] at p;refine jo r.gC r.dg (fun e c=>p.fg (r.freeze (O2:=[]) (by simp)).st (by rw [c];rfl)) fun b f F1 H1 a=>?_;rw [f] at p;have U:=r.eF a;cases b with
  |false=>exact p σ _ H1 U
  |true=>
   have p:bY K W ro F0 H0 FB OL O D ((g ρ).bind fun fl=>match fl with
    |.nx J=>eK ft g m J
    |.ct J=>eK ft g m J
    |.bk J=>.ok (.nx J)
    |.rt d=>.ok (.rt d)):=p
   refine ⟨fun σ' H'=>tS K W ro F0 H0 OL O O (eK ft g m) D σ' H',fun σ' H' n=>⟨m,DD _,n⟩,FB,_,ρ,U,?_⟩
   cases Y:g ρ with
   |error x=>exact p.err (by rw [Y];rfl)
   |ok fl=>
    rw [Y] at p;cases fl with
    |nx S=>exact fun σ' F' H' r'=>⟨FB,F',S,r',p⟩
    |ct S=>exact fun σ' F' H' r'=>⟨FB,F',S,r',p⟩
    |bk S=>exact fun σ' F' H' r'=>p σ' F' H' r'
    |rt d=>exact p
end
noncomputable def stk:M α:=.error .stuck
def hG:Dat->Dat->M Dat
 |.int i,.int j=>.ok (.int (i+j))
 |.str x,.str y=>if x.length+y.length<=n_ then .ok (.str (x++y)) else stk
 |.lst xs,.lst ys=>if xs.length+ys.length<=n_ then .ok (.lst (xs++ys)) else stk
 |.tup xs,.tup ys=>if xs.length+ys.length<=n_ then .ok (.tup (xs++ys)) else stk
 |_,_=>stk
def subD:Dat->Dat->M Dat
 |.int i,.int j=>.ok (.int (i-j))
 |_,_=>stk
noncomputable def dc (i:Int):Bool:=Ca (-(2^64)<i)&&Ca (i<2^64)
def rF:Dat->Dat->M Dat
 |.int i,.int j=>if (dc i||dc j)=f_ then .ok (.int (i*j)) else stk
 |_,_=>stk
def jC:Dat->Dat->M Dat
 |.int i,.int j=>if (Ca (0<j)&&Ca (j<18446744073709551616))=f_ then .ok (.int (i/j)) else stk
 |_,_=>stk
def jy:Dat->Dat->M Dat
 |.int i,.int j=>if 0<j then .ok (.int (i%j)) else stk
 |_,_=>stk
def powD:Dat->Dat->M Dat
 |.int i,.int j=>if (Ca (0<=j)&&Ca (j<=1000000)&&Ca (i.natAbs<2^64))=f_ then .ok (.int (i^j.toNat)) else stk
 |_,_=>stk
def negD:Dat->M Dat
 |.int i=>.ok (.int (-i))
 |_=>stk
def ltD:Dat->Dat->M Dat
 |.int i,.int j=>.ok (.bl (Ca (i<j)))
 |_,_=>stk
def leD:Dat->Dat->M Dat
 |.int i,.int j=>.ok (.bl (Ca (i<=j)))
 |_,_=>stk
def gtD:Dat->Dat->M Dat
 |.int i,.int j=>.ok (.bl (Ca (j<i)))
 |_,_=>stk
noncomputable def b2z (b:Bool):Int:=if b then 1 else 0
mutual
noncomputable def eqD:Dat->Dat->Bool
 |.non,.non=>f_
 |.bl a,.bl b=>a==b
 |.bl a,.int b=>b2z a==b
 |.int a,.bl b=>a==b2z b
 |.int a,.int b=>a==b
 |.str a,.str b=>a==b
 |.tup xs,.tup ys=>kg xs ys
 |.lst xs,.lst ys=>kg xs ys
 |_,_=>c_
noncomputable def kg:List Dat->List Dat->Bool
 |[],[]=>f_
 |d::ds,e::es=>eqD d e&&kg ds es
 |_,_=>c_
end
mutual
noncomputable def okE:Dat->Nat->Bool
 |.tup ds,n=>(match n with
  |0=>c_
  |n+1=>kI ds n)
 |.lst ds,n=>(match n with
  |0=>c_
  |n+1=>kI ds n)
 |.ins _ _,_=>c_
 |.dic _,_=>c_
 |.dil _,_=>c_
 |.non,_=>f_
 |.bl _,_=>f_
 |.int _,_=>f_
 |.str _,_=>f_
noncomputable def kI:List Dat->Nat->Bool
 |[],_=>f_
 |d::ds,n=>okE d n&&kI ds n
end
def eqM (a b:Dat):M Dat:=if (okE a 40&&okE b 40)=f_ then .ok (.bl (eqD a b)) else stk
def neM (a b:Dat):M Dat:=if (okE a 40&&okE b 40)=f_ then .ok (.bl (!eqD a b)) else stk
def isND:Dat->Dat->M Dat
 |.non,.non=>.ok (.bl f_)
 |_,.non=>.ok (.bl c_)
 |_,_=>stk
def yv:Dat->Dat->M Dat
 |.non,.non=>.ok (.bl c_)
 |_,.non=>.ok (.bl f_)
 |_,_=>stk
def jI (ds:List Dat) (i:Int):M Dat:=match atI ds i with
 |some d=>.ok d
 |none=>stk
def ixD:Dat->Dat->M Dat
 |.lst ds,.int i=>jI ds i
 |.tup ds,.int i=>jI ds i
 |_,_=>stk
def qz:List Dat->M Dat
 |[.lst ds]=>.ok (.int ds.length)
 |[.tup ds]=>.ok (.int ds.length)
 |_=>stk
def fD:List Dat->M (List Bool)
 |[]=>.ok []
 |d::ds=>(asB d).bind fun b=>(fD ds).bind fun r=>.ok (b::r)
def aV:List Dat->M (List Int)
 |[]=>.ok []
 |d::ds=>(asI d).bind fun b=>(aV ds).bind fun r=>.ok (b::r)
def allD:List Dat->M Dat
 |[.lst ds]=>(fD ds).bind fun bs=>.ok (.bl (bs.all id))
 |_=>stk
def sumD:List Dat->M Dat
 |[.lst ds]=>(aV ds).bind fun is=>.ok (.int is.sum)
 |_=>stk
def kJ:List Dat->M Dat
 |[.lst ds]=>.ok (.lst ds)
 |[.tup ds]=>.ok (.lst ds)
 |_=>stk
def mi:List Dat->M Dat
 |[.lst ds]=>.ok (.tup ds)
 |[.tup ds]=>.ok (.tup ds)
 |_=>stk
noncomputable def dM (i j:Int):Int:=if j>i then j else i
noncomputable def nR (i j:Int):Int:=if j<i then j else i
def maxL:List Int->M Dat
 |[]=>stk
 |i::is=>.ok (.int (is.foldl dM i))
def minL:List Int->M Dat
 |[]=>stk
 |i::is=>.ok (.int (is.foldl nR i))
def maxD:List Dat->M Dat
 |[.int i,.int j]=>.ok (.int (dM i j))
 |[.lst ds]=>(aV ds).bind maxL
 |_=>stk
def minD:List Dat->M Dat
 |[.int i,.int j]=>.ok (.int (nR i j))
 |[.lst ds]=>(aV ds).bind minL
 |_=>stk
def m5:Dat->M Dat
 |.int _=>.ok (.bl f_)
 |.bl _=>.ok (.bl f_)
 |.ins _ _=>stk
 |.dic _=>stk
 |.dil _=>stk
 |_=>.ok (.bl c_)
def jY:Dat->M Dat
 |.bl _=>.ok (.bl f_)
 |.ins _ _=>stk
 |.dic _=>stk
 |.dil _=>stk
 |_=>.ok (.bl c_)
def ee:Dat->M Dat
 |.lst _=>.ok (.bl f_)
 |.ins _ _=>stk
 |.dic _=>stk
 |.dil _=>stk
 |_=>.ok (.bl c_)
def oP:Dat->M Dat
 |.tup _=>.ok (.bl f_)
 |.ins _ _=>stk
 |.dic _=>stk
 |.dil _=>stk
 |_=>.ok (.bl c_)
def fLR (fr:ah->M (List Dat)):ah->M Dat:=fun ρ=>(fr ρ).bind cz
noncomputable def d8:Nat->List Dat->List Dat
 |_,[]=>[]
 |k,d::ds=>.tup [.int k,d]::d8 (k+1) ds
noncomputable def jc:Dat->M (List Dat)
 |.lst ds=>.ok ds
 |_=>.error .stuck
def qJ (fa:ah->M Dat):ah->M (List Dat):=fun ρ=>(fa ρ).bind fun d=>(jc d).bind fun ds=>.ok (d8 0 ds)
noncomputable def ku:List Dat->List Dat->List Dat
 |d::ds,e::es=>.tup [d,e]::ku ds es
 |_,_=>[]
def Be (fa fb:ah->M Dat):ah->M (List Dat):=fun ρ=>(fa ρ).bind fun a=>(fb ρ).bind fun b=>(jc a).bind fun ds=>(jc b).bind fun es=>.ok (ku ds es)
def bL (nN n:Nat) (g:ah->M Flo) (ds:List Dat):M Dat:=if ds.length=n then (g (ds.map a_++Dl (nN-ds.length) d_)).bind fun fl=>match fl with
 |.nx _=>.ok .non
 |.rt d=>.ok d
 |_=>stk else stk
@[simp] theorem ar {α β:Type} (a:α) (f:α->M β):M8 (Dz a:M α) f=f a:=id rfl
@[simp] theorem gX {α β:Type} (e:Err) (f:α->M β):M8 (Ek e:M α) f=.error e:=id rfl
@[simp] theorem bT:∀is:List Int,aV (is.map Dat.int)=.ok is
 |[]=>rfl
 |i::is=>by simp [aV,asI,bT is]
@[simp] theorem zc:∀is:List Bool,fD (is.map Dat.bl)=.ok is
 |[]=>rfl
 |i::is=>by simp [fD,asB,zc is]
@[simp] theorem Az (n:Nat):∀is:List Int,kI (is.map Dat.int) n=f_
 |[]=>by simp [kI]
 |i::is=>by simp [kI,okE,Az n is]
@[simp] theorem Bg:∀is js:List Int,kg (is.map Dat.int) (js.map Dat.int)=Ca (is=js)
 |[],[]=>by simp [kg]
 |[],_::_=>by simp [kg]
 |_::_,[]=>by simp [kg]
 |i::is,j::js=>by
  simp only [A_,kg,eqD,Bg is js,He];rw [MJ];simp
theorem iZ (h:k<ds.length):jI ds (k:Int)=.ok ds[k]:=by
 unfold jI atI ixN;rw [p_ (by omega),p_ (by omega)];simp [h]
theorem getI_int {is:List Int} {k:Int} (S:0<=k) (h:k<is.length):jI (is.map Dat.int) k=.ok (.int (is[k.toNat]'(by omega))):=by
 have J:k.toNat<(is.map Dat.int).length:=by simp;omega
 have e:k=(k.toNat:Int):=by omega
 have:=iZ J;rw [<- e] at this;rw [this];simp
theorem j0 {p:Pat} {g:ah->M Flo} (P:Nat->ah->Prop):∀(ds:List Dat) (k:Nat) (ρ:ah),P k ρ ->
  (∀(i:Nat) (d:Dat) (ρ:ah),ds[i]? =a_ d->P (k+i) ρ->∃S,d9 p d ρ=.ok S/\∃J,(g S=.ok (.nx J)\/g S=.ok (.ct J))/\P (k+i+1) J)->∃ρ',bQ p g ds ρ=.ok (.nx ρ')/\P (k+ds.length) ρ'
 |[],k,ρ,h,_=>⟨ρ,rfl,h⟩
 |d::ds,k,ρ,h,st=>by
  obtain ⟨S,e1,J,e2,h2⟩:=st 0 d ρ rfl h;obtain ⟨ρ',e3,a⟩:=j0 P ds (k+1) J h2 fun i d' ρ Y U=>by
   have:=st (i+1) d' ρ (by simpa using Y) (by rw [show k+(i+1)=k+1+i by omega];exact U);rw [show k+(i+1)+1=k+1+i+1 by omega] at this;exact this
  refine ⟨ρ',?_,by rw [show k+(d::ds).length=k+1+ds.length by simp;omega];exact a⟩
  rw [bQ,e1];rcases e2 with e2|e2
  ·simp only [ar,e2];exact e3
  ·simp only [ar,e2];exact e3
theorem fq {p:Pat} {fe:ah->M Dat} {ρ0:ah} (f:Dat->Dat):∀(ds:List Dat),(∀d∈ds,∃ρ,d9 p d ρ0=.ok ρ/\fe ρ=.ok (f d))->aH p g7 fe ρ0 ds=.ok (ds.map f)
 |[],_=>rfl
 |d::ds,h=>by
  obtain ⟨ρ,e1,e2⟩:=h d (by simp);rw [aH,e1];simp only [ar,g7,e2,fq f ds fun x J=>h x (by simp [J])];simp
@[simp] theorem ml (i:Int):dc i=(Ca (-(2^64)<i)&&Ca (i<2^64)):=id rfl
@[simp] theorem small_def2 (i:Int):aZ i=(Ca (-(2^62)<=i)&&Ca (i<2^62)):=id rfl
@[simp] theorem eqDs_nilR (ds:List Dat):kg ds []=ds.isEmpty:=by cases ds<;>rfl
section
variable {fr:ah->M (List Dat)} {h:ah->M Flo}
@[simp] theorem e_var0 (d:Dat) (r:ah):aa 0 (a_ d::r)=.ok d:=id rfl
@[simp] theorem e_varS (i:Nat) (o:Option Dat) (r:ah):aa (i+1) (o::r)=aa i r:=by simp [aa]
@[simp] theorem e_c (d:Dat):fC d ρ=.ok d:=id rfl
@[simp] theorem e_1 (k:Dat->M Dat):f1 k fa ρ=(fa ρ).bind k:=id rfl
@[simp] theorem e_2 (k:Dat->Dat->M Dat):f2 k fa fb ρ=(fa ρ).bind fun a=>(fb ρ).bind fun b=>k a b:=id rfl
@[simp] theorem e_nil:ax ρ=.ok []:=id rfl
@[simp] theorem e_cons:a9 fa fr ρ=(fa ρ).bind fun a=>(fr ρ).bind fun r=>.ok (a::r):=id rfl
@[simp] theorem e_L (k:List Dat->M Dat):fL k fr ρ=(fr ρ).bind k:=id rfl
@[simp] theorem e_and:Bf ft fu ρ=(ft ρ).bind fun b=>if b=f_ then fu ρ else .ok c_:=id rfl
@[simp] theorem e_or:fOr ft fu ρ=(ft ρ).bind fun b=>if b=f_ then .ok f_ else fu ρ:=id rfl
@[simp] theorem e_not:zt ft ρ=(ft ρ).bind fun b=>.ok (!b):=id rfl
@[simp] theorem e_B:fB fa ρ=(fa ρ).bind asB:=id rfl
@[simp] theorem e_andV:tB fa fb ρ=(fa ρ).bind fun a=>(asB a).bind fun b=>if b=f_ then fb ρ else .ok (.bl c_):=id rfl
@[simp] theorem e_tru:wY fa ρ=(fa ρ).bind truD:=id rfl
@[simp] theorem e_chain (k J:Dat->Dat->M Dat):i6 k J fa fb fc ρ=(fa ρ).bind fun a=>(fb ρ).bind fun b=>(k a b).bind fun x=>(asB x).bind fun z=>if z=f_ then (fc ρ).bind fun c=>J b c else .ok (.bl c_):=id rfl
@[simp] theorem e_yes:g7 ρ=.ok f_:=id rfl
@[simp] theorem e_it:fIt fa ρ=(fa ρ).bind iy:=id rfl
@[simp] theorem e_rng (k:List Dat->M (List Dat)):gF k fr ρ=(fr ρ).bind k:=id rfl
@[simp] theorem e_LR:fLR fr ρ=(fr ρ).bind cz:=id rfl
@[simp] theorem e_enum:qJ fa ρ=(fa ρ).bind fun d=>(jc d).bind fun ds=>.ok (d8 0 ds):=id rfl
@[simp] theorem e_zip:Be fa fb ρ=(fa ρ).bind fun a=>(fb ρ).bind fun b=>(jc a).bind fun ds=>(jc b).bind fun es=>.ok (ku ds es):=id rfl
@[simp] theorem e_comp (fi:ah->M (List Dat)) (ix:List (Option Nat)) (p:Pat):cj fi ix p ft fa ρ=(fi ρ).bind fun ds=>if ds.length<=n_ then (aH p ft fa (dG ix ρ) ds).bind fun r=>.ok (.lst r) else .error .stuck:=id rfl
@[simp] theorem e_asB (b:Bool):asB (.bl b)=.ok b:=id rfl
@[simp] theorem e_asI (b:Int):asI (.int b)=.ok b:=id rfl
@[simp] theorem e_itemsL (ds:List Dat):iy (.lst ds)=.ok ds:=id rfl
@[simp] theorem e_itL (ds:List Dat):jc (.lst ds)=.ok ds:=id rfl
@[simp] theorem e_itemsT (ds:List Dat):iy (.tup ds)=.ok ds:=id rfl
@[simp] theorem e_truB (b:Bool):truD (.bl b)=.ok b:=id rfl
@[simp] theorem e_truL (ds:List Dat):truD (.lst ds)=.ok (!ds.isEmpty):=id rfl
@[simp] theorem e_addI (i j:Int):hG (.int i) (.int j)=.ok (.int (i+j)):=id rfl
@[simp] theorem e_subI (i j:Int):subD (.int i) (.int j)=.ok (.int (i-j)):=id rfl
@[simp] theorem e_negI (i:Int):negD (.int i)=.ok (.int (-i)):=id rfl
@[simp] theorem e_ltI (i j:Int):ltD (.int i) (.int j)=.ok (.bl (Ca (i<j))):=id rfl
@[simp] theorem e_leI (i j:Int):leD (.int i) (.int j)=.ok (.bl (Ca (i<=j))):=id rfl
@[simp] theorem e_gtI (i j:Int):gtD (.int i) (.int j)=.ok (.bl (Ca (j<i))):=id rfl
@[simp] theorem e_ixL (ds:List Dat) (i:Int):ixD (.lst ds) (.int i)=jI ds i:=id rfl
@[simp] theorem e_ixT (ds:List Dat) (i:Int):ixD (.tup ds) (.int i)=jI ds i:=id rfl
@[simp] theorem e_lenL (ds:List Dat):qz [.lst ds]=.ok (.int ds.length):=id rfl
@[simp] theorem e_lenT (ds:List Dat):qz [.tup ds]=.ok (.int ds.length):=id rfl
@[simp] theorem e_all (ds:List Dat):allD [.lst ds]=(fD ds).bind fun bs=>.ok (.bl (bs.all id)):=id rfl
@[simp] theorem e_sum (ds:List Dat):sumD [.lst ds]=(aV ds).bind fun is=>.ok (.int is.sum):=id rfl
@[simp] theorem e_listL (ds:List Dat):kJ [.lst ds]=.ok (.lst ds):=id rfl
@[simp] theorem e_listT (ds:List Dat):kJ [.tup ds]=.ok (.lst ds):=id rfl
@[simp] theorem e_tupleL (ds:List Dat):mi [.lst ds]=.ok (.tup ds):=id rfl
@[simp] theorem e_max2 (i j:Int):maxD [.int i,.int j]=.ok (.int (dM i j)):=id rfl
@[simp] theorem e_min2 (i j:Int):minD [.int i,.int j]=.ok (.int (nR i j)):=id rfl
@[simp] theorem xb (ds:List Dat):maxD [.lst ds]=(aV ds).bind maxL:=id rfl
@[simp] theorem Bo (ds:List Dat):minD [.lst ds]=(aV ds).bind minL:=id rfl
@[simp] theorem e_isiBI (i:Int):jY (.int i)=.ok (.bl c_):=id rfl
@[simp] theorem e_isiII (i:Int):m5 (.int i)=.ok (.bl f_):=id rfl
@[simp] theorem e_isiLL (ds:List Dat):ee (.lst ds)=.ok (.bl f_):=id rfl
@[simp] theorem e_isN (d:Dat):isND d .non=.ok (.bl (match d with|.non=>f_|_=>c_)):=by cases d<;>rfl
@[simp] theorem e_notN (d:Dat):yv d .non=.ok (.bl (match d with|.non=>c_|_=>f_)):=by cases d<;>rfl
@[simp] theorem e_next:cG ρ=.ok (.nx ρ):=id rfl
@[simp] theorem e_seq:aP g h ρ=(g ρ).bind fun fl=>match fl with
 |.nx ρ'=>h ρ'
 |fl=>.ok fl:=id rfl
@[simp] theorem e_if:sIf ft g h ρ=(ft ρ).bind fun b=>if b=f_ then g ρ else h ρ:=id rfl
@[simp] theorem e_setB (O:List Nat) (i:Nat):ay O i fa ρ=(fa (erase O ρ)).bind fun d=>.ok (.nx (ρ.set i (a_ d))):=id rfl
@[simp] theorem e_setA (own:Bool) (i:Nat):sx own i fa ρ=(fa ρ).bind fun d=>if kQ own d=f_ then .ok (.nx (ρ.set i (a_ d))) else .error .stuck:=id rfl
@[simp] theorem e_ret:d7 fa ρ=(fa ρ).bind fun d=>.ok (.rt d):=id rfl
@[simp] theorem e_for (O:List Nat) (fi:ah->M (List Dat)) (p:Pat):gL O fi p g ρ=(fi (erase O ρ)).bind fun ds=>bQ p g ds ρ:=id rfl
@[simp] theorem e_unpB (O:List Nat) (p:Pat):sv O p fa ρ=(fa (erase O ρ)).bind fun d=>(d9 p d ρ).bind fun ρ'=>.ok (.nx ρ'):=id rfl
@[simp] theorem e_appB (O:List Nat) (i:Nat):gM O i fa ρ=(ib ρ i).bind fun ds=>(fa (erase O ρ)).bind fun d=>if ds.length<n_ then put ρ i (ds++[d]) else .error .stuck:=id rfl
@[simp] theorem e_setI (i:Nat):uI i fb fa ρ=(fa ρ).bind fun d=>(ib ρ i).bind fun ds=>(fb ρ).bind fun k=>(asI k).bind fun k=>if eh d=f_ then (match ixN ds.length k with
 |some j=>put ρ i (ds.set j d)
 |none=>.error .stuck) else .error .stuck:=id rfl
@[simp] theorem e_put (i:Nat) (ds:List Dat):put ρ i ds=.ok (.nx (ρ.set i (a_ (.lst ds)))):=id rfl
@[simp] theorem e_lst0 (ds:List Dat) (r:ah):ib (a_ (.lst ds)::r) 0=.ok ds:=id rfl
@[simp] theorem e_lstS (i:Nat) (o:Option Dat) (r:ah):ib (o::r) (i+1)=ib r i:=by simp [ib]
@[simp] theorem e_er0:erase [] ρ=ρ:=id rfl
@[simp] theorem e_erS (i:Nat) (O:List Nat):erase (i::O) ρ=erase O (ρ.set i d_):=id rfl
@[simp] theorem vx (i:Nat) (d:Dat):d9 (.nm i) d ρ=.ok (ρ.set i (a_ d)):=id rfl
@[simp] theorem e_btp (is:List Nat) (ds:List Dat):d9 (.tp is) (.tup ds) ρ=if ds.length=is.length then .ok (ig is ds ρ) else .error .stuck:=id rfl
@[simp] theorem e_sa0 (ds:List Dat):ig [] ds ρ=ρ:=by cases ds<;>rfl
@[simp] theorem e_saS (i:Nat) (is:List Nat) (d:Dat) (ds:List Dat):ig (i::is) (d::ds) ρ=ig is ds (ρ.set i (a_ d)):=id rfl
@[simp] theorem e_in0:dG [] ρ=[]:=id rfl
@[simp] theorem e_inN (ix:List (Option Nat)):dG (d_::ix) ρ=d_::dG ix ρ:=id rfl
@[simp] theorem e_inS (j:Nat) (ix:List (Option Nat)):dG (a_ j::ix) ρ=(ρ[j]?).join::dG ix ρ:=id rfl
@[simp] theorem e_tup (ds:List Dat):bo ds=if ds.length<=n_ then .ok (.tup ds) else .error .stuck:=id rfl
@[simp] theorem e_lst (ds:List Dat):cz ds=if ds.length<=n_ then .ok (.lst ds) else .error .stuck:=id rfl
@[simp] theorem e_line:n_=16777216:=Du
@[simp] theorem e_run (a b:Nat) (ds:List Dat):bL a b g ds=if ds.length=b then (g (ds.map a_++Dl (a-ds.length) d_)).bind fun fl=>match fl with
 |.nx _=>.ok .non
 |.rt d=>.ok d
 |_=>stk else stk:=id rfl
@[simp] theorem tJ {j:Int} (h:aZ j=f_):j6 [.int j]=.ok (az 0 j.toNat):=by show (if aZ j=f_ then _ else _)=_;rw [p_ h]
@[simp] theorem e_rng2 {i j:Int} (h:aZ i=f_) (h2:aZ j=f_):uM [.int i,.int j]=.ok (az i (j-i).toNat):=by show (if (aZ i&&aZ j)=f_ then _ else _)=_;rw [h,h2,M_,p_ rfl]
@[simp] theorem Bn {i j:Int} (h:0<j):jy (.int i) (.int j)=.ok (.int (i%j)):=by simp [jy,h]
@[simp] theorem e_fdiv {i j:Int} (h:0<j) (h2:j<18446744073709551616):jC (.int i) (.int j)=.ok (.int (i/j)):=by simp [jC,h,h2]
@[simp] theorem Bl {i j:Int} (h:dc j=f_):rF (.int i) (.int j)=.ok (.int (i*j)):=by show (if (dc i||dc j)=f_ then _ else _)=_;rw [h,Kx,p_ rfl]
@[simp] theorem Bm {i j:Int} (h:dc i=f_):rF (.int i) (.int j)=.ok (.int (i*j)):=by show (if (dc i||dc j)=f_ then _ else _)=_;rw [h,Bool.true_or,p_ rfl]
end
section
variable {W:ck} {own:Bool} {a b c:Dr} {f:ah->M Dat} {fr:ah->M (List Dat)} 
theorem PE.imp {t t':TE} (h:PE X e t) (q:∀σ H Q,t' σ H Q->t σ H Q):PE X e t':=fun pins s σ H Q I z=>h pins s σ H Q I (q σ H Q z)
theorem PT.imp {t t':TT} (h:PT X e t) (q:∀σ H Q,t' σ H Q->t σ H Q):PT X e t':=fun pins s σ H Q I z=>h pins s σ H Q I (q σ H Q z)
theorem PW.imp {t t':TT} (h:PW X e t) (q:∀σ H Q,t' σ H Q->t σ H Q):PW X e t':=fun J pins s σ H Q I z=>h J pins s σ H Q I (q σ H Q z)
theorem PA.imp {t t':TA} (h:PA X es t) (q:∀σ H Q,t' σ H Q->t σ H Q):PA X es t':=fun ps pins s σ H Q I z=>h ps pins s σ H Q I (q σ H Q z)
theorem PI.imp {t t':TI} (h:PI X tg e t) (q:∀σ H Q,t' σ H Q->t σ H Q):PI X tg e t':=fun pins s σ H Q I z=>h pins s σ H Q I (q σ H Q z)
theorem PS.imp {t t':TS} (h:PS X st t) (q:∀D σ H,t' D σ H->t D σ H):PS X st t':=fun pins s σ H D I z=>h pins s σ H D I (q D σ H z)
theorem PSs.imp {st:List Dt} {t t':TS} (h:PSs X st t) (q:∀D σ H,t' D σ H->t D σ H):PSs X st t':=fun pins s σ H D I z=>h pins s σ H D I (q D σ H z)
abbrev DE (K:Fg) (W:ck) (own:Bool) (X:Cx) (e:Dr) (f:ah->M Dat):Prop:=PE X e (tD K W own f)
abbrev DT (K:Fg) (W:ck) (X:Cx) (e:Dr) (f:ah->M Bool):Prop:=PT X e (tDT K W f)
abbrev DW (K:Fg) (W:ck) (X:Cx) (e:Dr) (f:ah->M Bool):Prop:=PW X e (tDT K W f)
abbrev DA (K:Fg) (W:ck) (X:Cx) (es:List Dr) (f:ah->M (List Dat)):Prop:=PA X es (tDA K W f)
abbrev DI (K:Fg) (W:ck) (X:Cx) (tg e:Dr) (f:ah->M (List Dat)):Prop:=PI X tg e (iD K W f)
abbrev DG (K:Fg) (X:Cx) (tg:Dr) (p:Pat):Prop:=PG X tg (gP K p)
abbrev DS (K:Fg) (W:ck) (ro:Bool) (X:Cx) (OL O O':List Nat) (st:Dt) (g:ah->M Flo):Prop:=∀F0 H0:Hp,PS X st (tS K W ro F0 H0 OL O O' g)
abbrev DSs (K:Fg) (W:ck) (ro:Bool) (X:Cx) (OL O O':List Nat) (st:List Dt) (g:ah->M Flo):Prop:=∀F0 H0:Hp,PSs X st (tS K W ro F0 H0 OL O O' g)
abbrev Op2 (K:Fg) (W:ck) (own:Bool) (X:Cx) (o:i_->i_->Mb i_) (g:Dat->Dat->M Dat):Prop:=OpR X o (rD2 K W own g)
abbrev lU (K:Fg) (W:ck) (own:Bool) (X:Cx) (v:i_) (g:List Dat->M Dat):Prop:=bS X v (rDL K W own g)
theorem ai (i:Nat) (S: ~~~(X.N[i]? =a_ x)) (hv:autoParam (Vis X.env.scope x) Jq3) (hd:((x==("__debug__":Cy))=c_)⁻¹)
  (J:((x==("__classdict__":Cy))=c_)⁻¹):DE K W c_ X (.Name x pos) (aa i):=(pv i S hv hd J).imp fun _ _ _=>rd_var
theorem af {i:Int} {j}:DE K W c_ X (.Constant (.int i) j pos) (fC (.int i)):=pe_int.imp fun _ _ _=>rd_c fun _=>rfl
theorem vG {k:Bool} {j}:DE K W c_ X (.Constant (.bool k) j pos) (fC (.bl k)):=pe_bl.imp fun _ _ _=>rd_c fun _=>rfl
theorem pd {j}:DE K W c_ X (.Constant .none j pos) (fC .non):=pe_non.imp fun _ _ _=>rd_c fun _=>rfl
theorem vF {n:Int} (J:∃t,X.mg x=a_ (.int n t)) (S: ~~~(Gl X x)) (hd:((x==("__debug__":Cy))=c_)⁻¹):DE K W c_ X (.Name x pos) (fC (.int n)):=(pe_gint S J hd).imp fun _ _ _=>rd_c fun _=>rfl
theorem av (h:DE K W f_ X e f):DE K W c_ X e f:=PE.imp h fun _ _ _ ⟨F,ρ,r,s,p⟩=>⟨F,ρ,r,s,p.frz⟩
theorem aA {op:Operator} {g:Dat->Dat->M Dat} (J:Op2 K W own X (EC op) g) (U:DE K W c_ X a fa) (S:DE K W c_ X b fb):DE K W own X (.BinOp a op b pos) (f2 g fa fb):=(pe_op J U S).imp fun _ _ _=>rd_2
theorem yP {op:UnaryOp} {g:Dat->M Dat} (J:UnR X (Nd op) (rD1 K W own g)) (S:DE K W c_ X a fa):DE K W own X (.UnaryOp op a pos) (f1 g fa):=(pe_un J S).imp fun _ _ _=>rd_1
theorem xk {g:Dat->Dat->M Dat} (J:Op2 K W c_ X (Dp op) g) (Y:DE K W c_ X a fa) (U:DE K W c_ X b fb) (S:GU op b=c_:=by first|exact nomark _|with_unfolding_all rfl):DE K W c_ X (.Compare a [op] [b] pos) (f2 g fa fb):=
 (pe_cmpR J Y U S).imp fun _ _ _=>rd_2
theorem bx {g:Dat->Dat->M Dat} (J:Op2 K W c_ X (Dp op) g) (Y:DE K W c_ X a fa) (U:DE K W c_ X b fb) (S:GU op b=c_:=by first|exact nomark _|with_unfolding_all rfl):DT K W X (.Compare a [op] [b] pos) (fB (f2 g fa fb)):=
 (pt_cmpR J Y U S).imp fun σ H Q h=>by
  have q:=rd_B h;exact rd_2 (own:=c_) q
theorem de_chain {g:Dat->Dat->M Dat} (S:Op2 K W c_ X (Dp op) g) (J:Op2 K W c_ X (Dp op') g') (e:DE K W c_ X a fa) (d:DE K W c_ X b fb) (Y:DE K W c_ X c fc)
  (U:Lv [op,op'] [b,c]=c_:=by with_unfolding_all rfl):DE K W c_ X (.Compare a [op,op'] [b,c] pos) (i6 g g' fa fb fc):=(pe_chain S J e d Y U).imp fun _ _ _=>wA
theorem qO {g:Dat->Dat->M Dat} (S:Op2 K W c_ X (Dp op) g) (J:Op2 K W c_ X (Dp op') g') (e:DE K W c_ X a fa) (d:DE K W c_ X b fb) (Y:DE K W c_ X c fc)
  (U:Lv [op,op'] [b,c]=c_:=by with_unfolding_all rfl):DT K W X (.Compare a [op,op'] [b,c] pos) (fB (i6 g g' fa fb fc)):=(pt_chain S J e d Y U).imp fun σ H Q h=>by
  have q:=rd_B h;exact wA q
theorem nc (U:DE K W c_ X a fa) (Y: ~~~(X.K=K)) (S:autoParam (∀J,LS a X.env J=(do let v <- J;Ii a.pos;Gf [v] (MY v))) Jq5):DT K W X a (wY fa):=by
 subst Y;exact (pt_truth U S).imp fun _ _ _=>rd_tru
theorem tK (J:DT K W X a ft):DT K W X (.UnaryOp .Not a pos) (zt ft):=(pt_not J).imp fun _ _ _=>rd_not
theorem Bp (J:DT K W X a ft):DW K W X (.BoolOp .And [a] pos) ft:=pw_and1 J
theorem dw_or1 (J:DT K W X a ft):DW K W X (.BoolOp .Or [a] pos) ft:=pw_or1 J
theorem dw_and (S:DT K W X a ft) (J:DW K W X (.BoolOp .And (b::rest) pos) fu):DW K W X (.BoolOp .And (a::b::rest) pos) (Bf ft fu):=(pw_and S J).imp fun _ _ _=>rd_and
theorem dw_or (S:DT K W X a ft) (J:DW K W X (.BoolOp .Or (b::rest) pos) fu):DW K W X (.BoolOp .Or (a::b::rest) pos) (fOr ft fu):=(pw_or S J).imp fun _ _ _=>rd_or
theorem de_one {op} (h:DE K W c_ X a f):DE K W c_ X (.BoolOp op [a] pos) f:=pe_one h
theorem de_and (S:DE K W c_ X a fa) (J:DE K W c_ X (.BoolOp .And (b::rest) pos) fb):DE K W c_ X (.BoolOp .And (a::b::rest) pos) (tB fa fb):=(pe_and S J).imp fun _ _ _=>rd_andV
theorem bB:DA K W X [] ax:=cy.imp fun _ _ _=>rd_nil
theorem bH (U:DE K W c_ X e fa) (S:DA K W X es fr) (J: ~~~(j_ (e::es) X.env=(c_,Cf e X.env)::j_ es X.env)):DA K W X (e::es) (a9 fa fr):=(aM U S J).imp fun _ _ _=>rd_cons
theorem bG {J} (h:DA K W X es fr):DE K W own X (.Tuple es J pos) (fL bo fr):=(Ao h).imp fun _ _ _=>rd_tup
theorem bU (h:DA K W X es fr):DE K W f_ X (.List es pos) (fL cz fr):=(pe_lst h).imp fun _ _ _=>rd_lst
theorem aD {id:String} {g:List Dat->M Dat} (c:lU K W own X (.builtin id) g) (a:X.mg x=d_) (hv:D5 x=a_ (.builtin id)) (d:DA K W X (e::es) fr) (b: ~~~(Gl X x)) (Y:(x≠"__name__")⁻¹) (U:((x==("__debug__":Cy))=c_)⁻¹)
  (J: ~~~(j_ (e::es) X.env=(c_,Cf e X.env)::j_ es X.env)) (S: ~~~((CZ pos (j_ es X.env)).any (·.1)=c_)):DE K W own X (.Call (.Name x p) (e::es) [] pos) (fL g fr):=
 (di c b a hv d Y U J S).imp fun _ _ _=>rd_L
theorem eu {g:List Dat->M Dat} (c:lU K W own X (.type T) g) (a:X.mg x=d_) (hv:D5 x=a_ (.type T)) (d:DA K W X (e::es) fr) (b: ~~~(Gl X x)) (Y:(x≠"__name__")⁻¹) (U:((x==("__debug__":Cy))=c_)⁻¹)
  (J: ~~~(j_ (e::es) X.env=(c_,Cf e X.env)::j_ es X.env)) (S: ~~~((CZ pos (j_ es X.env)).any (·.1)=c_)):DE K W own X (.Call (.Name x p) (e::es) [] pos) (fL g fr):=
 (jR c b a hv d Y U J S).imp fun _ _ _=>rd_L
theorem aE {g:Dat->Dat->M Dat} (S:IxR X (rD2 K W own g)) (Y:DE K W c_ X a fa) (U:DE K W c_ X b fb) (J:vZ b:=by exact fun _ _=>rfl):DE K W own X (.Subscript a b pos) (f2 g fa fb):=(pe_ix S Y U J).imp fun _ _ _=>rd_2
theorem fm (U:X.N.Nodup) (hi: ~~~(X.N[i]? =a_ x)) (J:autoParam (Loc X.env.scope x) Jq6) (S:autoParam (X.fn x=f_\/X.env.scope.names.lookup x=a_ .local) Jq4):DG K X (.Name x pos) (.nm i):=uY U hi J S
theorem bq (f:DE K W c_ X e fa) (g: ~~~(X.K=K)):DI K W X tg e (fIt fa):=by
 subst g;refine PI.imp (t:=iSeq X.K (tD X.K W c_ fa)) ?_ fun _ _ _=>ri_seq;intro pins s σ H R I h;refine thn (f pins s σ H _ I h) fun v J ⟨y,H1,S,c,q1⟩=>?_;obtain ⟨l,e1,q⟩:=q1;subst e1;cases c;rcases q with ⟨⟨xs,U⟩,q⟩|⟨⟨xs,U⟩,q⟩
 ·obtain ⟨its,a,p,d⟩:=S.list U;refine Hv p.isList ?_;refine ⟨J.heap.objs.size,[J.heap.objs.size],_,_,H1,rfl,S.kept (t':=J.toks) fun b o e=>g_ _ e,zG l _,⟨_,k_ _ rfl,rfl,rfl⟩,fun b Y=>?_,q⟩
  have e:b=J.heap.objs.size:=by simpa using Y
  subst e;exact S.fpOk (m_ _) (S.hok.fresh (m_ _))
 ·obtain ⟨its,a,p,d⟩:=S.tuple U;refine Jr (show J.heap.IsTuple l its.toArray from p) ?_;refine ⟨J.heap.objs.size,[J.heap.objs.size],_,_,H1,rfl,S.kept (t':=J.toks) fun b o e=>g_ _ e,xH l _,⟨_,k_ _ rfl,rfl,rfl⟩,fun b Y=>?_,q⟩
  have e:b=J.heap.objs.size:=by simpa using Y
  subst e;exact S.fpOk (m_ _) (S.hok.fresh (m_ _))
theorem cM (S:X.mg "range"=d_) (Y:DA K W X [a] fr) (U: ~~~(Gl X "range")) (J: ~~~(j_ [a] X.env=[(c_,Cf a X.env)])):DI K W X tg (.Call (.Name "range" p) [a] [] pos) (gF j6 fr):=(An U S Y J).imp fun _ _ _=>ri_rng1
theorem di_rng2 (U:X.mg "range"=d_) (c:DA K W X [a,b] fr) (Y: ~~~(Gl X "range")) (S: ~~~(j_ [a,b] X.env=[(c_,Cf a X.env),(c_,Cf b X.env)])) (J: ~~~(j_ [b] X.env=[(c_,Cf b X.env)])) :
  DI K W X tg (.Call (.Name "range" p) [a,b] [] pos) (gF uM fr):=(Am Y U c S J).imp fun _ _ _=>ri_rng2
variable {h:ah->M Flo}
theorem bp:DSs K W ro X OL O O [] cG:=fun _ _=>pss_nil.imp fun _ _ _=>rs_next
theorem ae (h1:DS K W ro X OL O O' st g) (h2:DSs K W ro X OL O' O2 sts h):DSs K W ro X OL O O2 (st::sts) (aP g h):=fun F0 H0=>(qh (h1 F0 H0) (h2 F0 H0)).imp fun _ _ _=>rs_seq
theorem ak (h1:DS K W ro X OL O O' st g):DSs K W ro X OL O O' [st] g:=fun F0 H0=>qg (h1 F0 H0)
theorem bf (h1:DSs K W ro X OL O2 O' sts g) (J:(∀i∈O2,i∈O)⁻¹):DSs K W ro X OL O O' sts g:=fun F0 H0=>PSs.imp (h1 F0 H0) fun _ _ _=>tS.enter J
theorem cL {S J:List Dt} (U:DT K W X c ft) (a:DSs K W ro X OL O O' S g) (Y:DSs K W ro X OL O O' J h):DS K W ro X OL O O' (.If c S J pos) (sIf ft g h):=fun F0 H0=>(ps_if U (a F0 H0) (Y F0 H0)).imp fun _ _ _=>rs_if
theorem Br (a:X.N.Nodup) (Y:DE K W own X e f) (hi: ~~~(X.N[i]? =a_ x)) (J:autoParam (Loc X.env.scope x) Jq6) (S: ~~~(Dx e (a_ (.Name x pos')) pos.line X.env=DC c_)) (U:autoParam (X.fn x=f_\/X.env.scope.names.lookup x=a_ .local) Jq4) :
  DS K W ro X OL O (aft own i O) (.Assign [.Name x pos'] e pos) (ay O i f):=fun F0 H0=>(Af a hi J Y S U).imp fun _ _ _=>uL
theorem Bs (a:X.N.Nodup) (Y:DE K W own X e f) (hi: ~~~(X.N[i]? =a_ x)) (J:autoParam (Loc X.env.scope x) Jq6) (S: ~~~(Dx e (a_ (.Name x pos')) pos.line X.env=DC c_)) (U:autoParam (X.fn x=f_\/X.env.scope.names.lookup x=a_ .local) Jq4) :
  DS K W ro X OL O (aft own i O) (.Assign [.Name x pos'] e pos) (sx own i f):=fun F0 H0=>(Af a hi J Y S U).imp fun _ _ _=>rs_setA
theorem aG (J:DE K W ro X e f):DS K W ro X OL O O' (.Return (a_ e) pos) (d7 f):=fun F0 H0=>(ps_ret J).imp fun _ _ _=>rs_ret
theorem ba {fs:ah->M (List Dat)} {pt:Pat} (hi:DI K W X tg iter fs) (U:DG K X tg pt) (a:DSs K W ro X O O O body g) (n:(∀i∈pt.names,i∉O)⁻¹) (S:LF (w_ X.prog X.w) X.A X.env X.xe:=by exact PassesOwn.never) (Y: ~~~(X.calm=f_))
  (J:autoParam (∀x,E8 iter X.env x=DC x) Jq5):DS K W ro X OL O O (.For tg iter body [] pos) (gL O fs pt g):=fun F0 H0=>(ps_for S Y hi U (a F0 H0) J).imp fun _ _ _=>rs_for n
theorem ds_while (S:DT K W X c ft) (U:DSs K W ro X O O O body g) (J:LF (w_ X.prog X.w) X.A X.env X.xe:=by exact PassesOwn.never):DS K W ro X OL O O (.While c body [] pos) (eK ft g m):=fun F0 H0=>(ps_while J S (U F0 H0)).imp fun _ _ _=>rs_while
theorem eG (g:DE K W c_ X e f) (d:(i∈O)⁻¹) (h: ~~~(X.N[i]? =a_ x)) (hv:autoParam (Vis X.env.scope x) Jq3) (hd:((x==("__debug__":Cy))=c_)⁻¹) (c:((x==("__classdict__":Cy))=c_)⁻¹) (j: ~~~(X.K=K))
  (Y: ~~~(j_ [e] X.env=[(c_,Cf e X.env)])) (U: ~~~(DH (.Name x p) "append" X.env (Cf (.Name x p) X.env)=Cf (.Name x p) X.env)) (a: ~~~(((CZ q (j_ [e] X.env)).all (fun x=> !x.1)&&(Gk q (ES [] X.env)).all (fun x=>x.1.isSome)&&Ca ([e].length+([]:List Gs).length+(if ([]:List Gs).isEmpty then 0 else 1)<30))=f_)) (J: ~~~((CZ q (j_ [] X.env)).any (·.1)=c_)) (S: ~~~((apos.endLine==q.line)=f_)) (b: ~~~(Dx (.Call (.Attribute (.Name x p) "append" apos) [e] [] q) d_ pos.line X.env=DC c_)) :
  DS K W ro X OL O O (.Expr (.Call (.Attribute (.Name x p) "append" apos) [e] [] q) pos) (gM O i f):=fun F0 H0=>by
 subst j;exact PS.imp (uW (pe_bm Ha KW PySem.F.type_list_append AJ (pv i h hv hd c) (aM g cy Y) U a S Y J) b) fun _ _ _=>rs_appB d
end
section
variable {W:ck} {own:Bool}
theorem OpR.imp {f:i_->i_->Mb i_} {r:R2} (h:OpR X f r) (q:∀x y H Q,r' x y H Q->r x y H Q):OpR X f r':=fun pins s σ H x y v u Q I S J z=>h pins s σ H x y v u Q I S J (q x y H Q z)
theorem UnR.imp {f:i_->Mb i_} {r r':V->Hp->VK->Prop} (h:UnR X f r) (q:∀x H Q,r' x H Q->r x H Q):UnR X f r':=fun pins s σ H x v Q I J z=>h pins s σ H x v Q I J (q x H Q z)
theorem bS.imp {f:i_} {r r':List V->Hp->VK->Prop} (h:bS X f r) (q:∀x H Q,r' x H Q->r x H Q):bS X f r':=fun pins s σ H x v Q I J z=>h pins s σ H x v Q I J (q x H Q z)
theorem IxR.imp {r:R2} (h:IxR X r) (q:∀x y H Q,r' x y H Q->r x y H Q):IxR X r':=fun J sl pins s σ H x y v u Q I U S z e=>h J sl pins s σ H x y v u Q I U S (q x y H Q z) e
theorem aw.stuck {Q:VK} {P:Prop} (p:aw K W own F H (stk) Q):P:=(W.ns p).elim
theorem aw.int {F H:Hp} {Q:VK} {i:Int} (p:aw K W own F H (.ok (.int i)) Q) (s:aN F H):Q (.int i) H:=p _ F H (Step.refl s) (by cases own<;>rfl)
theorem aw.bl {F H:Hp} {Q:VK} {b:Bool} (p:aw K W own F H (.ok (.bl b)) Q) (s:aN F H):Q (.bl b) H:=p _ F H (Step.refl s) (by cases own<;>rfl)
theorem aw.str {F H:Hp} {Q:VK} {x:Cy} (p:aw K W own F H (.ok (.str x)) Q) (s:aN F H):Q (.str x) H:=p _ F H (Step.refl s) (by cases own<;>rfl)
theorem aw.tup {F H:Hp} {Q:VK} {ds:List Dat} {xs:List V} {a:h_} (p:aw K W own F H (.ok (.tup ds)) Q) (s:aN F H) (q:au K F ds xs) (J:H a=d_):Q (.ref a) (upd H a (.tup xs)):=
 p _ _ _ (Step.lay s J) (by
  have:aW K (upd F a (.tup xs)) (.tup ds) (.ref a):=⟨a,xs,rfl,SqT.of ao,q.mono (aN.upd (s.free J))⟩
  cases own<;>exact this)
theorem aw.same {Q:VK} {v:V} (p:aw K W own F H (.ok (.tup ds)) Q) (s:aN F H) (q:aW K F (.tup ds) v):Q v H:=p _ F H (Step.refl s) (by cases own<;>exact q)
theorem aw.lst {F H:Hp} {Q:VK} {ds:List Dat} {xs:List V} {a:h_} (p:aw K W f_ F H (.ok (.lst ds)) Q) (s:aN F H) (q:au K F ds xs) (J:H a=d_):Q (.ref a) (upd H a (.lst xs)):=
 p _ F _ (Step.grow s J) ⟨a,xs,rfl,ao,s.free J,J,q⟩
theorem fP {g:Dat->Dat->M Dat} (U:∀a b,(∃i j,a=.int i/\b=.int j)\/g a b=stk) {x y:V} {Q:VK} (h:rD2 K W own g x y H Q):∃F i j,aN F H/\x=.int i/\y=.int j/\aw K W own F H (g (.int i) (.int j)) Q:=by
 obtain ⟨F,a,b,s,S,J,p⟩:=h;rcases U a b with ⟨i,j,rfl,rfl⟩|e
 ·exact ⟨F,i,j,s,S,J,p⟩
 ·rw [e] at p;exact p.stuck
theorem yr:Op2 K W own X (EC .Sub) subD:=op_sub.imp fun x y H Q h=>by
 obtain ⟨F,i,j,s,e1,e2,p⟩:=fP (fun a b=>by cases a<;>cases b<;>first|exact .inr rfl|exact .inl ⟨_,_,rfl,rfl⟩) h;exact ⟨i,j,e1,e2,p.int s⟩
theorem lK:Op2 K W own X (EC .Mult) rF:=op_mul.imp fun x y H Q h=>by
 obtain ⟨F,i,j,s,e1,e2,p⟩:=fP (fun a b=>by cases a<;>cases b<;>first|exact .inr rfl|exact .inl ⟨_,_,rfl,rfl⟩) h;have S:aw K W own F H (if (dc i||dc j)=f_ then .ok (.int (i*j)) else stk) Q:=p;by_cases J:(dc i||dc j)=f_
 ·rw [p_ J] at S;refine ⟨i,j,e1,e2,?_,S.int s⟩
  unfold dc at J;simp only [HG,u_,CK] at J;exact J
 ·rw [l_ J] at S;exact S.stuck
theorem AM {j:Int} (J:0<j) (h1:j<18446744073709551616):j.natAbs.log2<9000:=by
 have a:j.natAbs<2^64:=by omega
 have b:=(Nat.log2_lt (n:=j.natAbs) (k:=64) (by omega)).mpr a;omega
theorem Ax:OpR X (EC .FloorDiv) (rI (fun _ j=>0<j/\j<18446744073709551616) fun i j=>.int (i/j)):=opI fun i j _ _ _ _ _ J q=>by
 obtain ⟨U,S⟩:=J;exact floordiv_int (by omega) (by rw [Int.fdiv_eq_ediv_of_nonneg i (by omega)];exact q) (.inl (PyProof.noPylong_of_log2 (AM U S)))
theorem hZ:Op2 K W own X (EC .FloorDiv) jC:=Ax.imp fun x y H Q h=>by
 obtain ⟨F,i,j,s,e1,e2,p⟩:=fP (fun a b=>by cases a<;>cases b<;>first|exact .inr rfl|exact .inl ⟨_,_,rfl,rfl⟩) h;have J:aw K W own F H (if (Ca (0<j)&&Ca (j<18446744073709551616))=f_ then .ok (.int (i/j)) else stk) Q:=p;by_cases S:(Ca (0<j)&&Ca (j<18446744073709551616))=f_
 ·rw [p_ S] at J;simp only [u_,CK] at S;exact ⟨i,j,e1,e2,S,J.int s⟩
 ·rw [l_ S] at J;exact J.stuck
theorem dC:Op2 K W own X (EC .Mod) jy:=op_mod.imp fun x y H Q h=>by
 obtain ⟨F,i,j,s,e1,e2,p⟩:=fP (fun a b=>by cases a<;>cases b<;>first|exact .inr rfl|exact .inl ⟨_,_,rfl,rfl⟩) h;have J:aw K W own F H (if 0<j then .ok (.int (i%j)) else stk) Q:=p;by_cases S:0<j
 ·rw [p_ S] at J;exact ⟨i,j,e1,e2,S,J.int s⟩
 ·rw [l_ S] at J;exact J.stuck
theorem yt:Op2 K W own X (EC .Pow) powD:=op_pow.imp fun x y H Q h=>by
 obtain ⟨F,i,j,s,e1,e2,p⟩:=fP (fun a b=>by cases a<;>cases b<;>first|exact .inr rfl|exact .inl ⟨_,_,rfl,rfl⟩) h;have S:aw K W own F H (if (Ca (0<=j)&&Ca (j<=1000000)&&Ca (i.natAbs<2^64))=f_ then .ok (.int (i^j.toNat)) else stk) Q:=p;by_cases J:(Ca (0<=j)&&Ca (j<=1000000)&&Ca (i.natAbs<2^64))=f_
 ·rw [p_ J] at S;simp only [u_,CK] at J;exact ⟨i,j,e1,e2,⟨J.1.1,J.1.2,J.2⟩,S.int s⟩
 ·rw [l_ J] at S;exact S.stuck
theorem yu:UnR X (Nd .USub) (rD1 K W own negD):=un_neg.imp fun x H Q h=>by
 obtain ⟨F,a,s,J,p⟩:=h;cases a with
 |int i=>exact ⟨i,J,aw.int (own:=own) p s⟩
 |_=>exact aw.stuck p
theorem o_lt:Op2 K W own X (Dp .Lt) ltD:=op_lt.imp fun x y H Q h=>by
 obtain ⟨F,i,j,s,e1,e2,p⟩:=fP (fun a b=>by cases a<;>cases b<;>first|exact .inr rfl|exact .inl ⟨_,_,rfl,rfl⟩) h;exact ⟨i,j,e1,e2,p.bl s⟩
theorem o_le:Op2 K W own X (Dp .LtE) leD:=op_le.imp fun x y H Q h=>by
 obtain ⟨F,i,j,s,e1,e2,p⟩:=fP (fun a b=>by cases a<;>cases b<;>first|exact .inr rfl|exact .inl ⟨_,_,rfl,rfl⟩) h;exact ⟨i,j,e1,e2,p.bl s⟩
theorem o_gt:Op2 K W own X (Dp .Gt) gtD:=op_gt.imp fun x y H Q h=>by
 obtain ⟨F,i,j,s,e1,e2,p⟩:=fP (fun a b=>by cases a<;>cases b<;>first|exact .inr rfl|exact .inl ⟨_,_,rfl,rfl⟩) h;exact ⟨i,j,e1,e2,p.bl s⟩
theorem op_catL:OpR X (EC .Add) (fun x y H Q=>∃l b xs a,x=.ref l/\y=.ref b/\SqL X.K H l xs/\SqL X.K H b a/\xs.length+a.length<=n_/\∀p,H p=d_->Q (.ref p) (upd H p (.lst (xs++a)))):=by
 intro pins s σ H x y v u Q I o m h;obtain ⟨l,b,xs,a,rfl,rfl,z,A,E,q⟩:=h;cases o;cases m;obtain ⟨its,r,p1,F⟩:=I.list z;obtain ⟨J,f,p2,w⟩:=I.list A;have D:=r.length;have C:=f.length;obtain ⟨⟨B,dd,j,sl⟩,g,i,n,hd⟩:=id p1.isList;obtain ⟨⟨k,d,e,c⟩,S,Y,t,U⟩:=id p2.isList;simp only at i hd Y U;subst i hd Y U;refine JF ⟨_,g,rfl⟩ ⟨_,S,rfl⟩ noFill_list_add seq_list_add PySem.F.slot_list_add PySem.F.entry_list_add (PySem.F.args_list_add_2 _ _) (list_addW l b its.toArray J.toArray n t dd d sl c (by simp only [z_];omega)) ⟨g,S,?_⟩;have ea:its.toArray++J.toArray=(its++J).toArray:=by simp
 rw [ea];exact ⟨.ref _,_,I.lnew (t':=s.toks) (r.append f) (by rw [CP];omega),rfl,q _ I.fresh⟩
theorem op_cat3:OpR X (EC .Add) (fun x y H Q=>∃a b xs ys,x=.ref a/\y=.ref b/\SqT X.K H a xs/\SqT X.K H b ys/\xs.length+ys.length<=n_/\(xs=[]->Q (.ref b) H)/\(ys=[]->Q (.ref a) H)/\∀p,H p=d_->Q (.ref p) (upd H p (.tup (xs++ys)))):=by
 intro pins s σ H x y v u Q I i g h;obtain ⟨a,b,xs,ys,rfl,rfl,o,m,A,q1,q2,w⟩:=h;by_cases j:xs=[]
 ·subst j;cases i;cases g;obtain ⟨its,t,p1,_⟩:=I.tuple o;obtain ⟨J,D,p2,_⟩:=I.tuple m;cases t;obtain ⟨⟨C,dd,q,sl⟩,k,l,n,hd⟩:=id p1;obtain ⟨⟨r,d,f,c⟩,S,Y,z,U⟩:=id p2;simp only at l hd Y U;subst l hd Y U;exact JF ⟨_,k,rfl⟩ ⟨_,S,rfl⟩ JX K_ Hi Hb (G4 _ _)
   (tuple_addW0 a b #[] J.toArray n z dd d sl c rfl) ⟨k,S,⟨.ref b,H,I,rfl,q1 rfl⟩⟩
 ·exact op_catT pins s σ H _ _ v u Q I i g ⟨a,b,xs,ys,rfl,rfl,o,m,j,A,fun e=>q2 e,fun _ p B=>w p B⟩
theorem dk (m: ~~~(X.K=K)):Op2 K W f_ X (EC .Add) hG:=by
 subst m;refine (op_add.or (yn.or (op_catL.or op_cat3))).imp fun x y H Q h=>?_;obtain ⟨F,a,b,s,g,f,p⟩:=h;cases a with
 |int i=>
  cases b with
  |int j=>exact .inl ⟨i,j,g,f,p.int s⟩
  |_=>exact aw.stuck p
 |str z=>
  cases b with
  |str w=>
   have J:aw X.K W f_ F H (if z.length+w.length<=n_ then .ok (.str (z++w)) else stk) Q:=p;by_cases S:z.length+w.length<=n_
   ·rw [p_ S] at J;exact .inr (.inl ⟨z,w,g,f,S,J.str s⟩)
   ·rw [l_ S] at J;exact J.stuck
  |_=>exact aw.stuck p
 |lst ds=>
  cases b with
  |lst es=>
   obtain ⟨a,xs,e1,d,Y⟩:=g;obtain ⟨b,ys,e2,c,U⟩:=f;have J:aw X.K W f_ F H (if ds.length+es.length<=n_ then .ok (.lst (ds++es)) else stk) Q:=p;by_cases S:ds.length+es.length<=n_
   ·rw [p_ S] at J;exact .inr (.inr (.inl ⟨a,b,xs,ys,e1,e2,s.lst d,s.lst c,by rw [Y.length,U.length];exact S,fun l k=>J.lst s (Y.append U) k⟩))
   ·rw [l_ S] at J;exact J.stuck
  |_=>exact aw.stuck p
 |tup ds=>
  cases b with
  |tup es=>
   obtain ⟨a,xs,e1,d,Y⟩:=g;obtain ⟨b,ys,e2,c,U⟩:=f;have J:aw X.K W f_ F H (if ds.length+es.length<=n_ then .ok (.tup (ds++es)) else stk) Q:=p;by_cases S:ds.length+es.length<=n_
   ·rw [p_ S] at J;refine .inr (.inr (.inr ⟨a,b,xs,ys,e1,e2,s.tup d,s.tup c,by rw [Y.length,U.length];exact S,fun e=>?_,fun e=>?_,fun l k=>J.tup s (Y.append U) k⟩))
    ·have z:ds=[]:=by have:=Y.length;rw [e] at this;exact Gj.mp this.symm
     subst z;exact J.same s ⟨b,ys,rfl,c,U⟩
    ·have z:es=[]:=by have:=U.length;rw [e] at this;exact Gj.mp this.symm
     subst z;rw [Ed] at J;exact J.same s ⟨a,xs,rfl,d,Y⟩
   ·rw [l_ S] at J;exact J.stuck
  |_=>exact aw.stuck p
 |_=>exact aw.stuck p
theorem o_isN:Op2 K W own X (Dp .Is) isND:=op_isN.imp fun x y H Q h=>by
 obtain ⟨F,a,b,s,J,S,p⟩:=h;have key:∀{k:Bool},isND a b=.ok (.bl k)->b=.non->(Ca (x=V.non)=k)->y=V.non/\Q (.bl (Ca (x=V.non))) H:=fun {k} e1 e2 e3=>by
  subst e2;rw [e1] at p;rw [e3];exact ⟨S,p.bl s⟩
 cases b with
 |non=>
  cases a with
  |non=>exact key rfl rfl (by rw [show x=.non from J];rfl)
  |bl k=>exact key rfl rfl (by rw [show x=.bl k from J];rfl)
  |int k=>exact key rfl rfl (by rw [show x=.int k from J];rfl)
  |str k=>exact key rfl rfl (by rw [show x=.str k from J];rfl)
  |tup ds=>obtain ⟨l,xs,e,_⟩:=J;exact key rfl rfl (by rw [e];rfl)
  |lst ds=>obtain ⟨l,xs,e,_⟩:=J;exact key rfl rfl (by rw [e];rfl)
  |ins C fs=>obtain ⟨l,dx,xs,e,_⟩:=J;exact key rfl rfl (by rw [e];rfl)
  |dic ks=>obtain ⟨l,xs,e,_⟩:=J;exact key rfl rfl (by rw [e];rfl)
  |dil ks=>obtain ⟨l,xs,e,_⟩:=J;exact key rfl rfl (by rw [e];rfl)
 |_=>cases a<;>exact aw.stuck p
theorem o_notN:Op2 K W own X (Dp .IsNot) yv:=op_notN.imp fun x y H Q h=>by
 obtain ⟨F,a,b,s,J,S,p⟩:=h;have key:∀{k:Bool},yv a b=.ok (.bl k)->b=.non->((!decide (x=V.non))=k)->y=V.non/\Q (.bl (!decide (x=V.non))) H:=fun {k} e1 e2 e3=>by
  subst e2;rw [e1] at p;rw [e3];exact ⟨S,p.bl s⟩
 cases b with
 |non=>
  cases a with
  |non=>exact key rfl rfl (by rw [show x=.non from J];rfl)
  |bl k=>exact key rfl rfl (by rw [show x=.bl k from J];rfl)
  |int k=>exact key rfl rfl (by rw [show x=.int k from J];rfl)
  |str k=>exact key rfl rfl (by rw [show x=.str k from J];rfl)
  |tup ds=>obtain ⟨l,xs,e,_⟩:=J;exact key rfl rfl (by rw [e];rfl)
  |lst ds=>obtain ⟨l,xs,e,_⟩:=J;exact key rfl rfl (by rw [e];rfl)
  |ins C fs=>obtain ⟨l,dx,xs,e,_⟩:=J;exact key rfl rfl (by rw [e];rfl)
  |dic ks=>obtain ⟨l,xs,e,_⟩:=J;exact key rfl rfl (by rw [e];rfl)
  |dil ks=>obtain ⟨l,xs,e,_⟩:=J;exact key rfl rfl (by rw [e];rfl)
 |_=>cases a<;>exact aw.stuck p
theorem Bb {Q:VK} {i:Int} (p:aw K W c_ F H (jI ds i) Q) (s:aN F H) (r:au K F ds xs):∃v,atI xs i=a_ v/\Q v H:=by
 unfold jI at p;cases e:atI ds i with
 |none=>rw [e] at p;exact aw.stuck p
 |some d=>
  rw [e] at p;unfold atI at e;cases J:ixN ds.length i with
  |none=>rw [J] at e;cases e
  |some j=>
   rw [J] at e;obtain ⟨v,e1,q⟩:=r.get (show ds[j]? =a_ d from e);refine ⟨v,?_,p v F H (Step.refl s) q⟩
   unfold atI;rw [r.length,J];exact e1
theorem bC (c: ~~~(X.K=K)):IxR X (rD2 K W c_ ixD):=by
 subst c;refine ix_seq.imp fun x y H Q h=>?_;obtain ⟨F,a,b,s,Y,U,p⟩:=h;cases a with
 |lst ds=>
  cases b with
  |int i=>
   obtain ⟨a,xs,e1,J,S⟩:=Y;obtain ⟨v,e2,q⟩:=Bb p s S;exact .inl ⟨a,xs,i,v,e1,U,s.lst J,e2,q⟩
  |_=>exact aw.stuck p
 |tup ds=>
  cases b with
  |int i=>
   obtain ⟨a,xs,e1,J,S⟩:=Y;obtain ⟨v,e2,q⟩:=Bb p s S;exact .inr (.inl ⟨a,xs,i,v,e1,U,s.tup J,e2,q⟩)
  |_=>exact aw.stuck p
 |_=>exact aw.stuck p
theorem j9 (J: ~~~(X.K=K)):lU K W own X (.builtin "len") qz:=by
 subst J;refine u7.imp fun xs H Q h=>?_;obtain ⟨F,ds,s,q,p⟩:=h
 match ds,q,p with
 |[.lst es],⟨v,vs,e,⟨a,ys,e1,t,r⟩,e2⟩,p=>
  refine ⟨a,ys,by rw [e,e1,show vs=[] from e2],.inl (s.lst t),?_⟩
  rw [r.length];exact aw.int (own:=own) p s
 |[.tup es],⟨v,vs,e,⟨a,ys,e1,t,r⟩,e2⟩,p=>
  refine ⟨a,ys,by rw [e,e1,show vs=[] from e2],.inr (s.tup t),?_⟩
  rw [r.length];exact aw.int (own:=own) p s
 |[],_,p=>exact aw.stuck p
 |[.non],_,p=>exact aw.stuck p
 |[.bl _],_,p=>exact aw.stuck p
 |[.int _],_,p=>exact aw.stuck p
 |[.str _],_,p=>exact aw.stuck p
 |[.ins _ _],_,p=>exact aw.stuck p
 |[.dic _],_,p=>exact aw.stuck p
 |[.dil _],_,p=>exact aw.stuck p
 |.non::_::_,_,p=>exact aw.stuck p
 |.bl _::_::_,_,p=>exact aw.stuck p
 |.int _::_::_,_,p=>exact aw.stuck p
 |.str _::_::_,_,p=>exact aw.stuck p
 |.ins _ _::_::_,_,p=>exact aw.stuck p
 |.dic _::_::_,_,p=>exact aw.stuck p
 |.dil _::_::_,_,p=>exact aw.stuck p
 |.lst _::_::_,_,p=>exact aw.stuck p
 |.tup _::_::_,_,p=>exact aw.stuck p
end
section
variable {W:ck} {own:Bool}
theorem kE {g:List Dat->M Dat} (J:∀ds,(∃d,ds=[d])\/g ds=stk) {Q:VK} (h:rDL K W own g xs H Q):∃F d x,aN F H/\xs=[x]/\aW K F d x/\aw K W own F H (g [d]) Q:=by
 obtain ⟨F,ds,s,q,p⟩:=h;rcases J ds with ⟨d,rfl⟩|e
 ·obtain ⟨v,vs,e,q1,e2⟩:=q;exact ⟨F,d,v,s,by rw [e,show vs=[] from e2],q1,p⟩
 ·rw [e] at p;exact p.stuck
theorem zF {g:List Dat->M Dat} (S:∀ds,(∃d,ds=[d])\/(∃d e,ds=[d,e])\/g ds=stk) {Q:VK} (h:rDL K W own g xs H Q):(∃F d x,aN F H/\xs=[x]/\aW K F d x/\aw K W own F H (g [d]) Q)\/∃F d e x y,aN F H/\xs=[x,y]/\aW K F d x/\aW K F e y/\aw K W own F H (g [d,e]) Q:=by
 obtain ⟨F,ds,s,q,p⟩:=h;rcases S ds with ⟨d,rfl⟩|⟨d,e,rfl⟩|e
 ·obtain ⟨v,vs,e,q1,e2⟩:=q;exact .inl ⟨F,d,v,s,by rw [e,show vs=[] from e2],q1,p⟩
 ·obtain ⟨v,vs,e1,q1,w,J,e2,q2,e3⟩:=q;exact .inr ⟨F,d,e,v,w,s,by rw [e1,e2,show J=[] from e3],q1,q2,p⟩
 ·rw [e] at p;exact p.stuck
theorem pB {F:Hp}:∀{ds:List Dat} {xs:List V} {bs:List Bool},au K F ds xs->fD ds=.ok bs->xs=bs.map V.bl
 |[],_,_,q,e=>by cases e;exact q
 |d::ds,_,bs,⟨v,vs,e1,q,r⟩,e=>by
  cases d with
  |bl b=>
   cases e2:fD ds with
   |error x=>simp only [fD,asB,ar,e2,gX] at e;cases e
   |ok cs=>
    simp only [fD,asB,ar,e2] at e;cases e;rw [e1,show v=.bl b from q,pB r e2];rfl
  |_=>cases e
theorem pC:∀{ds:List Dat} {e:Err},fD ds=.error e->e=.stuck
 |[],_,h=>by cases h
 |d::ds,e,h=>by
  cases d with
  |bl b=>
   cases e2:fD ds with
   |error x=>simp only [fD,asB,ar,e2,gX] at h;cases h;exact pC e2
   |ok cs=>simp only [fD,asB,ar,e2] at h;cases h
  |_=>cases h;rfl
theorem cD {F:Hp}:∀{ds:List Dat} {xs:List V} {bs:List Int},au K F ds xs->aV ds=.ok bs->xs=bs.map V.int
 |[],_,_,q,e=>by cases e;exact q
 |d::ds,_,bs,⟨v,vs,e1,q,r⟩,e=>by
  cases d with
  |int b=>
   cases e2:aV ds with
   |error x=>simp only [aV,asI,ar,e2,gX] at e;cases e
   |ok cs=>
    simp only [aV,asI,ar,e2] at e;cases e;rw [e1,show v=.int b from q,cD r e2];rfl
  |_=>cases e
theorem du:∀{ds:List Dat} {e:Err},aV ds=.error e->e=.stuck
 |[],_,h=>by cases h
 |d::ds,e,h=>by
  cases d with
  |int b=>
   cases e2:aV ds with
   |error x=>simp only [aV,asI,ar,e2,gX] at h;cases h;exact du e2
   |ok cs=>simp only [aV,asI,ar,e2] at h;cases h
  |_=>cases h;rfl
theorem c_all (S:X.calm=f_) (U: ~~~(X.K=K)):lU K W own X (.builtin "all") allD:=by
 subst U;refine (call_all S).imp fun xs H Q h=>?_;obtain ⟨F,d,x,s,e,q,p⟩:=kE (fun ds=>by match ds with|[d]=>exact .inl ⟨d,rfl⟩|[]=>exact .inr rfl|a::b::c=>exact .inr (by cases a<;>rfl)) h;cases d with
 |lst ds=>
  obtain ⟨a,ys,e1,t,r⟩:=q;have J:aw X.K W own F H ((fD ds).bind fun bs=>.ok (.bl (bs.all id))) Q:=p;cases eb:fD ds with
  |error z=>rw [eb] at J;have:=pC eb;subst this;exact aw.stuck J
  |ok bs=>
   rw [eb] at J;refine ⟨a,bs,by rw [e,e1],?_,aw.bl (own:=own) J s⟩
   rw [<- pB r eb];exact s.lst t
 |_=>exact aw.stuck p
theorem xr (S: ~~~(X.K=K)):lU K W f_ X (.type "list") kJ:=by
 subst S;refine lu.imp fun xs H Q h=>?_;obtain ⟨F,d,x,s,e,q,p⟩:=kE (fun ds=>by match ds with|[d]=>exact .inl ⟨d,rfl⟩|[]=>exact .inr rfl|a::b::c=>exact .inr (by cases a<;>rfl)) h;cases d with
 |lst ds=>
  obtain ⟨a,ys,e1,t,r⟩:=q;exact ⟨a,ys,by rw [e,e1],.inl (s.lst t),fun l J=>aw.lst p s r J⟩
 |tup ds=>
  obtain ⟨a,ys,e1,t,r⟩:=q;exact ⟨a,ys,by rw [e,e1],.inr (s.tup t),fun l J=>aw.lst p s r J⟩
 |_=>exact aw.stuck p
theorem rm (S: ~~~(X.K=K)):lU K W own X (.type "tuple") mi:=by
 subst S;refine rh.imp fun xs H Q h=>?_;obtain ⟨F,d,x,s,e,q,p⟩:=kE (fun ds=>by match ds with|[d]=>exact .inl ⟨d,rfl⟩|[]=>exact .inr rfl|a::b::c=>exact .inr (by cases a<;>rfl)) h;cases d with
 |lst ds=>
  obtain ⟨a,ys,e1,t,r⟩:=q;exact ⟨a,ys,by rw [e,e1],.inl ⟨s.lst t,fun l J=>aw.tup p s r J⟩⟩
 |tup ds=>
  obtain ⟨a,ys,e1,t,r⟩:=q;subst e1;exact ⟨a,ys,e,.inr ⟨s.tup t,aw.same (own:=own) p s ⟨a,ys,rfl,t,r⟩⟩⟩
 |_=>exact aw.stuck p
theorem fold_max:∀(is:List Int) (i:Int),(is.foldl dM i=i\/is.foldl dM i∈is)/\i<=is.foldl dM i/\∀a∈is,a<=is.foldl dM i
 |[],i=>⟨.inl rfl,Eo _,fun _ h=>nomatch h⟩
 |j::is,i=>by
  obtain ⟨h1,h2,S⟩:=fold_max is (dM i j);have z:(dM i j=i\/dM i j=j)/\i<=dM i j/\j<=dM i j:=by unfold dM;split<;>(refine ⟨?_,?_,?_⟩<;>first|exact .inl rfl|exact .inr rfl|omega)
  rw [GL];refine ⟨?_,HF z.2.1 h2,fun a J=>?_⟩
  ·rcases h1 with h1|h1
   ·rw [h1];rcases z.1 with z|z
    ·exact .inl z
    ·exact .inr (by rw [z];exact Cz)
   ·exact .inr (Cw _ h1)
  ·rcases r_.mp J with e|e
   ·rw [e];exact HF z.2.2 h2
   ·exact S a e
theorem fold_min:∀(is:List Int) (i:Int),(is.foldl nR i=i\/is.foldl nR i∈is)/\is.foldl nR i<=i/\∀a∈is,is.foldl nR i<=a
 |[],i=>⟨.inl rfl,Eo _,fun _ h=>nomatch h⟩
 |j::is,i=>by
  obtain ⟨h1,h2,S⟩:=fold_min is (nR i j);have z:(nR i j=i\/nR i j=j)/\nR i j<=i/\nR i j<=j:=by unfold nR;split<;>(refine ⟨?_,?_,?_⟩<;>first|exact .inl rfl|exact .inr rfl|omega)
  rw [GL];refine ⟨?_,HF h2 z.2.1,fun a J=>?_⟩
  ·rcases h1 with h1|h1
   ·rw [h1];rcases z.1 with z|z
    ·exact .inl z
    ·exact .inr (by rw [z];exact Cz)
   ·exact .inr (Cw _ h1)
  ·rcases r_.mp J with e|e
   ·rw [e];exact HF h2 z.2.2
   ·exact S a e
theorem vv {is:List Int} {i m:Int} (h1:m∈i::is) (h2:∀a∈i::is,a<=m):is.foldl dM i=m:=by
 obtain ⟨U,S,J⟩:=fold_max is i;have b:is.foldl dM i<=m:=by
  rcases U with g|g
  ·rw [g];exact h2 i Cz
  ·exact h2 _ (Cw _ g)
 have Y:m<=is.foldl dM i:=by
  rcases r_.mp h1 with e|e
  ·rw [e];exact S
  ·exact J m e
 omega
theorem vt {is:List Int} {i m:Int} (h1:m∈i::is) (h2:∀a∈i::is,m<=a):is.foldl nR i=m:=by
 obtain ⟨U,S,J⟩:=fold_min is i;have b:m<=is.foldl nR i:=by
  rcases U with g|g
  ·rw [g];exact h2 i Cz
  ·exact h2 _ (Cw _ g)
 have Y:is.foldl nR i<=m:=by
  rcases r_.mp h1 with e|e
  ·rw [e];exact S
  ·exact J m e
 omega
theorem BQ (g:X.calm=f_):bS X (.builtin "max") (fun xs H Q=>∃a i is,xs=[.ref a]/\SqL X.K H a ((i::is).map V.int)/\Q (.int (is.foldl dM i)) H):=by
 intro pins s σ H xs us Q I r h;obtain ⟨a,i,is,rfl,c,q⟩:=h;obtain ⟨u,rfl,b⟩:=r.one;cases b;obtain ⟨its,Y,p,l⟩:=I.list c;have hi:=intsAre_of Y;obtain ⟨xs,e⟩:=hi.allInts.items;have J:i::is=xs.toList.map (·.1):=by rw [<- hi.numsOf,<- Lb,<- e]
 have hsz:0<xs.size:=by
  have k:=G1 Ia J;simp at k;omega
 have S:=p.isList;rw [e] at S;refine max_intList (I.ok.hd g) S hsz fun v h' tk hv d=>?_;obtain ⟨t,rfl⟩:=Mr hv;obtain ⟨h1,h2⟩:=argBest_gt (J_ xs) (xs.size-1);refine ⟨.int _,H,I.kept d,⟨t,rfl⟩,?_⟩
 have:=vv (is:=is) (i:=i) (m:=J_ xs (argBest (fun i j=>Ca (J_ xs i>J_ xs j)) (xs.size-1))) (by
   rw [J,Mp];exact getD_mem (by rw [v_,Ct];omega)) (fun a U=>by
   rw [J] at U;obtain ⟨j,f,rfl⟩:=mem_getD U;rw [v_,Ct] at f;rw [<- Mp];exact h2 j (by omega))
 rw [<- this];exact q
theorem BO (g:X.calm=f_):bS X (.builtin "min") (fun xs H Q=>∃a i is,xs=[.ref a]/\SqL X.K H a ((i::is).map V.int)/\Q (.int (is.foldl nR i)) H):=by
 intro pins s σ H xs us Q I r h;obtain ⟨a,i,is,rfl,c,q⟩:=h;obtain ⟨u,rfl,b⟩:=r.one;cases b;obtain ⟨its,Y,p,l⟩:=I.list c;have hi:=intsAre_of Y;obtain ⟨xs,e⟩:=hi.allInts.items;have J:i::is=xs.toList.map (·.1):=by rw [<- hi.numsOf,<- Lb,<- e]
 have hsz:0<xs.size:=by
  have k:=G1 Ia J;simp at k;omega
 have S:=p.isList;rw [e] at S;refine min_intList (I.ok.hd g) S hsz fun v h' tk hv d=>?_;obtain ⟨t,rfl⟩:=Mr hv;obtain ⟨h1,h2⟩:=argBest_lt (J_ xs) (xs.size-1);refine ⟨.int _,H,I.kept d,⟨t,rfl⟩,?_⟩
 have:=vt (is:=is) (i:=i) (m:=J_ xs (argBest (fun i j=>Ca (J_ xs i<J_ xs j)) (xs.size-1))) (by
   rw [J,Mp];exact getD_mem (by rw [v_,Ct];omega)) (fun a U=>by
   rw [J] at U;obtain ⟨j,f,rfl⟩:=mem_getD U;rw [v_,Ct] at f;rw [<- Mp];exact h2 j (by omega))
 rw [<- this];exact q
theorem u9 (S:X.calm=f_) (Y: ~~~(X.K=K)):lU K W own X (.builtin "max") maxD:=by
 subst Y;refine ((BR S).or (BQ S)).imp fun xs H Q h=>?_;rcases zF (fun ds=>by match ds with|[d]=>exact .inl ⟨d,rfl⟩|[d,e]=>exact .inr (.inl ⟨d,e,rfl⟩)|[]=>exact .inr (.inr rfl)|a::b::c::d=>exact .inr (.inr (by cases a<;>cases b<;>rfl))) h with ⟨F,d,x,s,e,q,p⟩|⟨F,d,U,x,y,s,e,q,q2,p⟩
 ·cases d with
  |lst ds=>
   obtain ⟨a,ys,e1,t,r⟩:=q;have J:aw X.K W own F H ((aV ds).bind maxL) Q:=p;cases eb:aV ds with
   |error z=>rw [eb] at J;have:=du eb;subst this;exact aw.stuck J
   |ok is=>
    rw [eb] at J;cases is with
    |nil=>exact aw.stuck J
    |cons i is=>
     refine .inr ⟨a,i,is,by rw [e,e1],?_,aw.int (own:=own) J s⟩;rw [<- cD r eb];exact s.lst t
  |_=>exact aw.stuck p
 ·cases d with
  |int i=>
   cases U with
   |int j=>exact .inl ⟨i,j,by rw [e,show x=.int i from q,show y=.int j from q2],aw.int (own:=own) p s⟩
   |_=>exact aw.stuck p
  |_=>cases U<;>exact aw.stuck p
theorem c_min (S:X.calm=f_) (Y: ~~~(X.K=K)):lU K W own X (.builtin "min") minD:=by
 subst Y;refine ((BP S).or (BO S)).imp fun xs H Q h=>?_;rcases zF (fun ds=>by match ds with|[d]=>exact .inl ⟨d,rfl⟩|[d,e]=>exact .inr (.inl ⟨d,e,rfl⟩)|[]=>exact .inr (.inr rfl)|a::b::c::d=>exact .inr (.inr (by cases a<;>cases b<;>rfl))) h with ⟨F,d,x,s,e,q,p⟩|⟨F,d,U,x,y,s,e,q,q2,p⟩
 ·cases d with
  |lst ds=>
   obtain ⟨a,ys,e1,t,r⟩:=q;have J:aw X.K W own F H ((aV ds).bind minL) Q:=p;cases eb:aV ds with
   |error z=>rw [eb] at J;have:=du eb;subst this;exact aw.stuck J
   |ok is=>
    rw [eb] at J;cases is with
    |nil=>exact aw.stuck J
    |cons i is=>
     refine .inr ⟨a,i,is,by rw [e,e1],?_,aw.int (own:=own) J s⟩;rw [<- cD r eb];exact s.lst t
  |_=>exact aw.stuck p
 ·cases d with
  |int i=>
   cases U with
   |int j=>exact .inl ⟨i,j,by rw [e,show x=.int i from q,show y=.int j from q2],aw.int (own:=own) p s⟩
   |_=>exact aw.stuck p
  |_=>cases U<;>exact aw.stuck p
end
section
theorem SqL.inj {pins:Pn} {σ:St} {H:Hp} {s:t_} {a:h_} {xs ys:List V} (I:Inv X pins σ H s) (h:SqL X.K H a xs) (h':SqL X.K H a ys):xs=ys:=by
 obtain ⟨b,U,p1,_⟩:=I.list h;obtain ⟨Y,S,p2,_⟩:=I.list h';obtain ⟨o,n,e,_,_,d⟩:=p1;obtain ⟨o',c,J,_,_,d'⟩:=p2;rw [e] at J;cases J;rw [d] at d';injection d' with d1 _
 have:b=Y:=by simpa using G1 IW d1
 subst this;exact U.inj S
theorem SqT.inj {pins:Pn} {σ:St} {H:Hp} {s:t_} {a:h_} {xs ys:List V} (I:Inv X pins σ H s) (h:SqT X.K H a xs) (h':SqT X.K H a ys):xs=ys:=by
 obtain ⟨b,U,p1,_⟩:=I.tuple h;obtain ⟨Y,S,p2,_⟩:=I.tuple h';obtain ⟨o,e,_,n,d⟩:=p1;obtain ⟨o',J,_,c,d'⟩:=p2;rw [e] at J;cases J;rw [d] at d';injection d' with d1 _
 have:b=Y:=by simpa using G1 IW d1
 subst this;exact U.inj S
theorem au.all_eq {F:Hp} (e:Nat->Bool):∀{ds es:List Dat},ds.length=es.length->(∀(j:Nat) a b,ds[j]? =a_ a->es[j]? =a_ b->e j=eqD a b)->(Cc ds.length).all e=kg ds es:=by
 intro ds
 induction ds generalizing e with
 |nil=>intro es h _;cases es with
  |nil=>rfl
  |cons _ _=>simp at h
 |cons d ds J=>
  intro es h q;cases es with
  |nil=>simp at h
  |cons b es=>
   rw [Ci,Hy,List.all_cons,List.all_map,kg];rw [q 0 d b rfl rfl]
   congr 1
   exact J (e∘Nat.succ) (by simpa using h) fun j x y U S=>q (j+1) x y (by simpa using U) (by simpa using S)
theorem m6:∀{ds es:List Dat},ds.length≠es.length->kg ds es=c_
 |[],[],h=>Cj rfl h
 |[],_::_,_=>rfl
 |_::_,[],_=>rfl
 |d::ds,e::es,h=>by
  rw [kg,m6 (ds:=ds) (es:=es) (fun z=>h (by simp [z])),Ic]
theorem wZ (e:Nat->Bool):∀{ds es:List Dat},(∀(j:Nat) a b,ds[j]? =a_ a->es[j]? =a_ b->e j=eqD a b)->((Cc (min ds.length es.length)).all e&&ds.length==es.length)=kg ds es:=by
 intro ds es q;by_cases J:ds.length=es.length
 ·have e1:min ds.length es.length=ds.length:=by omega
  rw [e1,au.all_eq (F:=fun _=>d_) e J q,J,beq_self_eq_true,M_]
 ·rw [m6 J];have:(ds.length==es.length)=c_:=by simpa using J
  rw [this,Ic]
mutual
theorem x3:∀{d:Dat} {n:Nat},okE d n=f_->eqD d d=f_
 |.non,_,_=>rfl
 |.bl b,_,_=>by simp [eqD]
 |.int i,_,_=>by simp [eqD]
 |.str x,_,_=>by simp [eqD]
 |.tup ds,0,h=>by simp [okE] at h
 |.tup ds,n+1,h=>by simp only [okE] at h;simp only [eqD];exact n8 h
 |.lst ds,0,h=>by simp [okE] at h
 |.lst ds,n+1,h=>by simp only [okE] at h;simp only [eqD];exact n8 h
 |.ins _ _,_,h=>by simp [okE] at h
 |.dic _,_,h=>by simp [okE] at h
 |.dil _,_,h=>by simp [okE] at h
theorem n8:∀{ds:List Dat} {n:Nat},kI ds n=f_->kg ds ds=f_
 |[],_,_=>rfl
 |d::ds,n,h=>by
  simp only [kI,u_] at h;simp only [kg,x3 h.1,n8 h.2,Bool.and_self]
end
theorem qt:∀{ds:List Dat} {n i:Nat} {d:Dat},kI ds n=f_->ds[i]? =a_ d->okE d n=f_
 |[],_,_,_,_,h=>by simp at h
 |_::_,_,0,_,h,e=>by
  simp only [kI,u_] at h;simp at e;rw [<- e];exact h.1
 |_::_,_,i+1,_,h,e=>by
  simp only [kI,u_] at h;exact qt h.2 (by simpa using e)
end
def j7 (ds es:List Dat) (j:Nat):Bool:=match ds[j]?,es[j]? with
 |some a,a_ b=>eqD a b
 |_,_=>f_
inductive Sh (s:t_):Dat->i_->Prop
 |non:Sh s .non .none
 |bl (b:Bool):Sh s (.bl b) (.bool b)
 |int (i:Int) (t:Nat):Sh s (.int i) (.int i t)
 |str (x:Cy) (t:Nat):Sh s (.str x) (.str x t)
 |tup {ds:List Dat} {l:h_} {is:Array i_} (p:s.heap.IsTuple l is):Sh s (.tup ds) (.ref l)
 |lst {ds:List Dat} {l:h_} {is:Array i_} (p:s.heap.IsList l is):Sh s (.lst ds) (.ref l)
noncomputable def sq:Dat->Dat->Bool
 |.tup _,.tup _=>f_
 |.lst _,.lst _=>f_
 |_,_=>c_
theorem rX {a b:Dat} (h:sq a b=f_):(∃ds es,a=.tup ds/\b=.tup es)\/∃ds es,a=.lst ds/\b=.lst es:=by
 unfold sq at h;split at h
 ·exact .inl ⟨_,_,rfl,rfl⟩
 ·exact .inr ⟨_,_,rfl,rfl⟩
 ·cases h
theorem eqAt_U {a b:Dat} (Y:Sh s a u) (U:Sh s b v) (S:A.units<D8):sq a b=f_\/Ho A s u v (eqD a b):=match Y,U with
 |.non,.non=>.inr (.same _)
 |.non,.bl b=>.inr (.none_bool b)
 |.non,.int b J=>.inr (.none_int b J)
 |.non,.str b J=>.inr (.none_str b J)
 |.non,.tup q=>.inr (.none_tuple q S)
 |.non,.lst q=>.inr (.none_list q S)
 |.bl a,.non=>.inr (.bool_none a)
 |.bl a,.bl b=>.inr (.bool_bool a b)
 |.bl a,.int b J=>.inr (.bool_int a b J)
 |.bl a,.str b J=>.inr (.bool_str a b J)
 |.bl a,.tup q=>.inr (.bool_tuple a q S)
 |.bl a,.lst q=>.inr (.bool_list a q S)
 |.int a t,.non=>.inr (.int_none a t)
 |.int a t,.bl b=>.inr (.int_bool a t b)
 |.int a t,.int b J=>.inr (.int_int a t b J)
 |.int a t,.str b J=>.inr (.int_str a t b J)
 |.int a t,.tup q=>.inr (.int_tuple a t q S)
 |.int a t,.lst q=>.inr (.int_list a t q S)
 |.str a t,.non=>.inr (.str_none a t)
 |.str a t,.bl b=>.inr (.str_bool a t b)
 |.str a t,.int b J=>.inr (.str_int a t b J)
 |.str a t,.str b J=>.inr (.str_str a t b J)
 |.str a t,.tup q=>.inr (.str_tuple a t q S)
 |.str a t,.lst q=>.inr (.str_list a t q S)
 |.tup p,.non=>.inr (.tuple_none p S)
 |.tup p,.bl b=>.inr (.tuple_bool b p S)
 |.tup p,.int b J=>.inr (.tuple_int b J p S)
 |.tup p,.str b J=>.inr (.tuple_str b J p S)
 |.tup _,.tup _=>.inl rfl
 |.tup p,.lst q=>.inr (.tuple_list p q S)
 |.lst p,.non=>.inr (.list_none p S)
 |.lst p,.bl b=>.inr (.list_bool b p S)
 |.lst p,.int b J=>.inr (.list_int b J p S)
 |.lst p,.str b J=>.inr (.list_str b J p S)
 |.lst p,.tup q=>.inr (.list_tuple p q S)
 |.lst _,.lst _=>.inl rfl
theorem rcAt_U {a b:Dat} (Y:Sh s a u) (U:Sh s b v) (S:A.units<D8):sq a b=f_\/Lh A s u v (eqD a b):=match Y,U with
 |.non,.non=>.inr (.none_none)
 |.non,.bl b=>.inr (.none_bool b)
 |.non,.int b J=>.inr (.none_int b J)
 |.non,.str b J=>.inr (.none_str b J)
 |.non,.tup q=>.inr (.none_tuple q S)
 |.non,.lst q=>.inr (.none_list q S)
 |.bl a,.non=>.inr (.bool_none a)
 |.bl a,.bl b=>.inr (.bool_bool a b)
 |.bl a,.int b J=>.inr (.bool_int a b J)
 |.bl a,.str b J=>.inr (.bool_str a b J)
 |.bl a,.tup q=>.inr (.bool_tuple a q S)
 |.bl a,.lst q=>.inr (.bool_list a q S)
 |.int a t,.non=>.inr (.int_none a t)
 |.int a t,.bl b=>.inr (.int_bool a t b)
 |.int a t,.int b J=>.inr (.int_int a t b J)
 |.int a t,.str b J=>.inr (.int_str a t b J)
 |.int a t,.tup q=>.inr (.int_tuple a t q S)
 |.int a t,.lst q=>.inr (.int_list a t q S)
 |.str a t,.non=>.inr (.str_none a t)
 |.str a t,.bl b=>.inr (.str_bool a t b)
 |.str a t,.int b J=>.inr (.str_int a t b J)
 |.str a t,.str b J=>.inr (.str_str a t b J)
 |.str a t,.tup q=>.inr (.str_tuple a t q S)
 |.str a t,.lst q=>.inr (.str_list a t q S)
 |.tup p,.non=>.inr (.tuple_none p S)
 |.tup p,.bl b=>.inr (.tuple_bool b p S)
 |.tup p,.int b J=>.inr (.tuple_int b J p S)
 |.tup p,.str b J=>.inr (.tuple_str b J p S)
 |.tup _,.tup _=>.inl rfl
 |.tup p,.lst q=>.inr (.tuple_list p q S)
 |.lst p,.non=>.inr (.list_none p S)
 |.lst p,.bl b=>.inr (.list_bool b p S)
 |.lst p,.int b J=>.inr (.list_int b J p S)
 |.lst p,.str b J=>.inr (.list_str b J p S)
 |.lst p,.tup q=>.inr (.list_tuple p q S)
 |.lst _,.lst _=>.inl rfl
theorem rcNeAt_U {a b:Dat} (Y:Sh s a u) (U:Sh s b v) (S:A.units<D8):sq a b=f_\/Kk A s u v (!eqD a b):=match Y,U with
 |.non,.non=>.inr (.none_none)
 |.non,.bl b=>.inr (.none_bool b)
 |.non,.int b J=>.inr (.none_int b J)
 |.non,.str b J=>.inr (.none_str b J)
 |.non,.tup q=>.inr (.none_tuple q S)
 |.non,.lst q=>.inr (.none_list q S)
 |.bl a,.non=>.inr (.bool_none a)
 |.bl a,.bl b=>.inr (.bool_bool a b)
 |.bl a,.int b J=>.inr (.bool_int a b J)
 |.bl a,.str b J=>.inr (.bool_str a b J)
 |.bl a,.tup q=>.inr (.bool_tuple a q S)
 |.bl a,.lst q=>.inr (.bool_list a q S)
 |.int a t,.non=>.inr (.int_none a t)
 |.int a t,.bl b=>.inr (.int_bool a t b)
 |.int a t,.int b J=>.inr (.int_int a t b J)
 |.int a t,.str b J=>.inr (.int_str a t b J)
 |.int a t,.tup q=>.inr (.int_tuple a t q S)
 |.int a t,.lst q=>.inr (.int_list a t q S)
 |.str a t,.non=>.inr (.str_none a t)
 |.str a t,.bl b=>.inr (.str_bool a t b)
 |.str a t,.int b J=>.inr (.str_int a t b J)
 |.str a t,.str b J=>.inr (.str_str a t b J)
 |.str a t,.tup q=>.inr (.str_tuple a t q S)
 |.str a t,.lst q=>.inr (.str_list a t q S)
 |.tup p,.non=>.inr (.tuple_none p S)
 |.tup p,.bl b=>.inr (.tuple_bool b p S)
 |.tup p,.int b J=>.inr (.tuple_int b J p S)
 |.tup p,.str b J=>.inr (.tuple_str b J p S)
 |.tup _,.tup _=>.inl rfl
 |.tup p,.lst q=>.inr (.tuple_list p q S)
 |.lst p,.non=>.inr (.list_none p S)
 |.lst p,.bl b=>.inr (.list_bool b p S)
 |.lst p,.int b J=>.inr (.list_int b J p S)
 |.lst p,.str b J=>.inr (.list_str b J p S)
 |.lst p,.tup q=>.inr (.list_tuple p q S)
 |.lst _,.lst _=>.inl rfl
section
theorem se (I:Inv X pins σ H s) (J:aN F H) {x:V} (o:okE d n=f_) (q:aW X.K F d x) (r:RelV x u):Sh s d u:=by
 cases d with
 |non=>cases (show x=.non from q);cases r;exact .non
 |bl b=>cases (show x=.bl b from q);cases r;exact .bl b
 |int i=>cases (show x=.int i from q);obtain ⟨t,rfl⟩:=r;exact .int i t
 |str y=>cases (show x=.str y from q);obtain ⟨t,rfl⟩:=r;exact .str y t
 |tup ds=>
  obtain ⟨l,xs,e,t,_⟩:=q;subst e;cases r;obtain ⟨is,_,p,_⟩:=I.tuple (J.tup t);exact .tup (show s.heap.IsTuple l is.toArray from p)
 |lst ds=>
  obtain ⟨l,xs,e,t,_⟩:=q;subst e;cases r;obtain ⟨is,_,p,_⟩:=I.list (J.lst t);exact .lst p.isList
 |_=>simp [okE] at o
theorem ni {n:Nat} (U:∀(d e:Dat) {v:V},aW X.K F d v->aW X.K F e v->okE d n=f_->okE e n=f_->d=e):∀(ds es:List Dat) {xs:List V},au X.K F ds xs->au X.K F es xs->kI ds n=f_->kI es n=f_->ds=es
 |[],[],_,_,_,_,_=>rfl
 |[],_::_,_,q,⟨_,_,e,_⟩,_,_=>by rw [show _=[] from q] at e;cases e
 |_::_,[],_,⟨_,_,e,_⟩,q,_,_=>by rw [show _=[] from q] at e;cases e
 |d::ds,e::es,_,⟨v,vs,e1,q1,a⟩,⟨w,b,e2,q2,Y⟩,S,J=>by
  rw [e1] at e2;cases e2;simp only [kI,u_] at S J;rw [U d e q1 q2 S.1 J.1,ni U ds es a Y S.2 J.2]
theorem m8 {e:Dat} {v:V} (hd:sq d d=c_) (q:aW X.K F d v) (r:aW X.K F e v) (S:okE d n=f_) (J:okE e n=f_):d=e:=by
 cases d<;>first|(cases hd;done)|(simp [okE] at S;done)|(simp only [aW] at q;subst q)
 all_goals cases e<;>first|(simp [okE] at J;done)|(simp only [aW] at r;first|(obtain ⟨_,_,z,_⟩:=r;cases z;done)|(cases r<;>rfl))
theorem qS (I:Inv X pins σ H s) (U:aN F H):∀(n:Nat) (d e:Dat) {v:V},aW X.K F d v->aW X.K F e v->okE d n=f_->okE e n=f_->d=e
 |n,.tup ds,e,v,⟨l,xs,e1,h1,a⟩,r,J,S=>by
  subst e1;cases n with
  |zero=>simp [okE] at J
  |succ n=>
   cases e with
   |tup es=>
    obtain ⟨b,ys,e2,h2,Y⟩:=r;cases e2;cases SqT.inj I (U.tup h1) (U.tup h2);rw [ni (qS I U n) _ _ a Y (by simpa only [okE] using J) (by simpa only [okE] using S)]
   |lst es=>
    obtain ⟨b,ys,e2,h2,Y⟩:=r;cases e2;obtain ⟨f,_,p1,_⟩:=I.list (U.lst h2);obtain ⟨c,_,p2,_⟩:=I.tuple (U.tup h1);exact Cj rfl (Kj p1.isList (show s.heap.IsTuple l c.toArray from p2))
   |_=>first|(simp [okE] at S;done)|(simp only [aW] at r;cases r)
 |n,.lst ds,e,v,⟨l,xs,e1,h1,a⟩,r,J,S=>by
  subst e1;cases n with
  |zero=>simp [okE] at J
  |succ n=>
   cases e with
   |lst es=>
    obtain ⟨b,ys,e2,h2,Y⟩:=r;cases e2;cases SqL.inj I (U.lst h1) (U.lst h2);rw [ni (qS I U n) _ _ a Y (by simpa only [okE] using J) (by simpa only [okE] using S)]
   |tup es=>
    obtain ⟨b,ys,e2,h2,Y⟩:=r;cases e2;obtain ⟨f,_,p1,_⟩:=I.list (U.lst h1);obtain ⟨c,_,p2,_⟩:=I.tuple (U.tup h2);exact Cj rfl (Kj p1.isList (show s.heap.IsTuple l c.toArray from p2))
   |_=>first|(simp [okE] at S;done)|(simp only [aW] at r;cases r)
 |_,.non,_,_,q,r,J,S=>m8 rfl q r J S
 |_,.bl _,_,_,q,r,J,S=>m8 rfl q r J S
 |_,.int _,_,_,q,r,J,S=>m8 rfl q r J S
 |_,.str _,_,_,q,r,J,S=>m8 rfl q r J S
 |_,.ins _ _,_,_,_,_,J,_=>by simp [okE] at J
 |_,.dic _,_,_,_,_,J,_=>by simp [okE] at J
 |_,.dil _,_,_,_,_,J,_=>by simp [okE] at J
termination_by n=>n
theorem rcAt_S {a b:Dat} {x y:V} (I:Inv X pins σ H s) (f:aN F H) (N:sq a b=f_) (w:aW X.K F a x) (t:aW X.K F b y) (r:RelV x u) (p:RelV y v) (l:A.units<D8)
  (C:∀(ds es:List Dat) (j:Nat) (S J:Dat) (x y:V) (u v:i_),(a=.tup ds/\b=.tup es\/a=.lst ds/\b=.lst es)->ds[j]? =a_ S->es[j]? =a_ J->aW X.K F S x->aW X.K F J y->RelV x u->RelV y v->Ho A.in1 s u v (eqD S J)):Lh A s u v (eqD a b):=by
 rcases rX N with ⟨ds,es,rfl,rfl⟩|⟨ds,es,rfl,rfl⟩
 ·skip;obtain ⟨B,xs,e1,h1,d⟩:=w;subst e1;cases r;obtain ⟨is,Y,p1,_⟩:=I.tuple (f.tup h1);obtain ⟨z,ys,e2,h2,c⟩:=t;subst e2;cases p;obtain ⟨js,U,p2,_⟩:=I.tuple (f.tup h2);have G:=Y.length;have E:=U.length;have L:=d.length;have K:=c.length;have q:=SeqAt.RcAt.tuples (A:=A) (e:=j7 ds es) (show s.heap.IsTuple B is.toArray from p1) (show s.heap.IsTuple z js.toArray from p2) l (fun j h1 h2=>by
   obtain ⟨h,f1,n⟩:=Y.atA h1;obtain ⟨g,o,m⟩:=U.atA h2;obtain ⟨S,k1,k⟩:=d.at f1;obtain ⟨J,k2,i⟩:=c.at o;rw [show j7 ds es j=eqD S J by simp only [j7,k1,k2]];exact C ds es j S J h g _ _ (.inl ⟨rfl,rfl⟩) k1 k2 k i n m)
  rw [show is.toArray.size=ds.length by simp;omega,show js.toArray.size=es.length by simp;omega,wZ _ (fun j a b h1 h2=>by simp only [j7,h1,h2])] at q;exact q
 ·skip;obtain ⟨B,xs,e1,h1,d⟩:=w;subst e1;cases r;obtain ⟨is,Y,p1,_⟩:=I.list (f.lst h1);obtain ⟨z,ys,e2,h2,c⟩:=t;subst e2;cases p;obtain ⟨js,U,p2,_⟩:=I.list (f.lst h2);have G:=Y.length;have E:=U.length;have L:=d.length;have K:=c.length;by_cases D:ds.length=es.length
  ·have q:=SeqAt.RcAt.lists (A:=A) (e:=j7 ds es) p1.isList p2.isList (by simp;omega) l (fun j h1 h2=>by
   obtain ⟨h,f1,n⟩:=Y.atA h1;obtain ⟨g,o,m⟩:=U.atA h2;obtain ⟨S,k1,k⟩:=d.at f1;obtain ⟨J,k2,i⟩:=c.at o;rw [show j7 ds es j=eqD S J by simp only [j7,k1,k2]];exact C ds es j S J h g _ _ (.inr ⟨rfl,rfl⟩) k1 k2 k i n m)
   rw [show is.toArray.size=ds.length by simp;omega,au.all_eq (F:=F) _ D (fun j a b h1 h2=>by simp only [j7,h1,h2])] at q;exact q
  ·rw [show eqD (.lst ds) (.lst es)=c_ from m6 D];exact SeqAt.RcAt.lists_lengths (A:=A) p1.isList p2.isList (by simp;omega) l
theorem rcNeAt_S {a b:Dat} {x y:V} (I:Inv X pins σ H s) (f:aN F H) (N:sq a b=f_) (w:aW X.K F a x) (t:aW X.K F b y) (r:RelV x u) (p:RelV y v) (l:A.units<D8)
  (C:∀(ds es:List Dat) (j:Nat) (S J:Dat) (x y:V) (u v:i_),(a=.tup ds/\b=.tup es\/a=.lst ds/\b=.lst es)->ds[j]? =a_ S->es[j]? =a_ J->aW X.K F S x->aW X.K F J y->RelV x u->RelV y v->Ho A.in1 s u v (eqD S J)):Kk A s u v (!eqD a b):=by
 rcases rX N with ⟨ds,es,rfl,rfl⟩|⟨ds,es,rfl,rfl⟩
 ·skip;obtain ⟨B,xs,e1,h1,d⟩:=w;subst e1;cases r;obtain ⟨is,Y,p1,_⟩:=I.tuple (f.tup h1);obtain ⟨z,ys,e2,h2,c⟩:=t;subst e2;cases p;obtain ⟨js,U,p2,_⟩:=I.tuple (f.tup h2);have G:=Y.length;have E:=U.length;have L:=d.length;have K:=c.length;have q:=SeqAt.RcNeAt.tuples (A:=A) (e:=j7 ds es) (show s.heap.IsTuple B is.toArray from p1) (show s.heap.IsTuple z js.toArray from p2) l (fun j h1 h2=>by
   obtain ⟨h,f1,n⟩:=Y.atA h1;obtain ⟨g,o,m⟩:=U.atA h2;obtain ⟨S,k1,k⟩:=d.at f1;obtain ⟨J,k2,i⟩:=c.at o;rw [show j7 ds es j=eqD S J by simp only [j7,k1,k2]];exact C ds es j S J h g _ _ (.inl ⟨rfl,rfl⟩) k1 k2 k i n m)
  rw [show is.toArray.size=ds.length by simp;omega,show js.toArray.size=es.length by simp;omega,wZ _ (fun j a b h1 h2=>by simp only [j7,h1,h2])] at q;exact q
 ·skip;obtain ⟨B,xs,e1,h1,d⟩:=w;subst e1;cases r;obtain ⟨is,Y,p1,_⟩:=I.list (f.lst h1);obtain ⟨z,ys,e2,h2,c⟩:=t;subst e2;cases p;obtain ⟨js,U,p2,_⟩:=I.list (f.lst h2);have G:=Y.length;have E:=U.length;have L:=d.length;have K:=c.length;by_cases D:ds.length=es.length
  ·have q:=SeqAt.RcNeAt.lists (A:=A) (e:=j7 ds es) p1.isList p2.isList (by simp;omega) l (fun j h1 h2=>by
   obtain ⟨h,f1,n⟩:=Y.atA h1;obtain ⟨g,o,m⟩:=U.atA h2;obtain ⟨S,k1,k⟩:=d.at f1;obtain ⟨J,k2,i⟩:=c.at o;rw [show j7 ds es j=eqD S J by simp only [j7,k1,k2]];exact C ds es j S J h g _ _ (.inr ⟨rfl,rfl⟩) k1 k2 k i n m)
   rw [show is.toArray.size=ds.length by simp;omega,au.all_eq (F:=F) _ D (fun j a b h1 h2=>by simp only [j7,h1,h2])] at q;exact q
  ·rw [show eqD (.lst ds) (.lst es)=c_ from m6 D];exact SeqAt.RcNeAt.lists_lengths (A:=A) p1.isList p2.isList (by simp;omega) l
theorem ok_sub {a b Y U:Dat} {es:List Dat} (J:okE a n=f_) (S:okE b n=f_) (h:a=.tup ds/\b=.tup es\/a=.lst ds/\b=.lst es) (k1:ds[j]? =a_ Y) (k2:es[j]? =a_ U):∃m,n=m+1/\okE Y m=f_/\okE U m=f_:=by
 cases n with
 |zero=>rcases h with ⟨rfl,rfl⟩|⟨rfl,rfl⟩<;>simp [okE] at J
 |succ m=>exact ⟨m,rfl,by rcases h with ⟨rfl,rfl⟩|⟨rfl,rfl⟩<;>simp only [okE] at J S<;>exact ⟨qt J k1,qt S k2⟩⟩
theorem eqAt_N (I:Inv X pins σ H s) (d:aN F H):∀(n:Nat) (a b:Dat) {x y:V} {u v:i_} {A:D0},okE a n=f_->okE b n=f_->aW X.K F a x->aW X.K F b y->RelV x u->RelV y v->A.units+n<D8->Ho A s u v (eqD a b):=by
 intro n
 induction n with
 |zero=>
  intro a b x y u v A S f J c Y U t;refine (eqAt_U (se I d S J Y) (se I d f c U) (by omega)).resolve_left fun h=>?_;rcases rX h with ⟨ds,es,rfl,rfl⟩|⟨ds,es,rfl,rfl⟩<;>simp [okE] at S
 |succ n r=>
  intro a b x y u v A S f J c Y U t;rcases eqAt_U (A:=A) (se I d S J Y) (se I d f c U) (by omega) with h|h
  ·by_cases g:x=y
   ·subst g;cases (show a=b from qS I d (n+1) a b J c S f);rw [x3 S];rcases rX h with ⟨ds,es,rfl,_⟩|⟨ds,es,rfl,_⟩<;>(obtain ⟨p,xs,e1,_⟩:=J;subst e1;cases Y;cases U;exact SeqAt.EqAt.same _)
   ·have q:=rcAt_S (A:=A) I d h J c Y U (by omega) fun ds es j E D K G N L w k1 k2 o l C B=>by
     obtain ⟨m,e,k,i⟩:=ok_sub S f w k1 k2;cases e;exact r E D k i o l C B (by show A.units+1+n<D8;omega)
    rcases rX h with ⟨ds,es,rfl,rfl⟩|⟨ds,es,rfl,rfl⟩<;>(obtain ⟨p,xs,e1,_⟩:=J;obtain ⟨O,ys,e2,_⟩:=c;subst e1;subst e2;cases Y;cases U;exact SeqAt.EqAt.of_refs (fun z=>g (by rw [z])) q)
  ·exact h
theorem eqAt_D (I:Inv X pins σ H s) (f:aN F H) (a b:Dat) {x y:V} (d:okE a n=f_) (c:okE b n=f_) (Y:aW X.K F a x) (U:aW X.K F b y) (S:RelV x u) (J:RelV y v) (e:A.units+n<D8):Ho A s u v (eqD a b):=eqAt_N I f n a b d c Y U S J e
theorem eqAt_I (I:Inv X pins σ H s) (h:aN F H) {a b:Dat} (Y:okE a n=f_) (U:okE b n=f_) (l:A.units+n<D8) (ds es:List Dat) (j:Nat) (S J:Dat) (x y:V) (u v:i_) (g:a=.tup ds/\b=.tup es\/a=.lst ds/\b=.lst es) (k1:ds[j]? =a_ S) (k2:es[j]? =a_ J) (f:aW X.K F S x) (e:aW X.K F J y) (k:RelV x u) (i:RelV y v):Ho A.in1 s u v (eqD S J):=by
 obtain ⟨m,rfl,d,c⟩:=ok_sub Y U g k1 k2;exact eqAt_D I h S J d c f e k i (by show A.units+1+m<D8;omega)
theorem rcAt_D (I:Inv X pins σ H s) (J:aN F H) (a b:Dat) {x y:V} (e:okE a n=f_) (d:okE b n=f_) (c:aW X.K F a x) (Y:aW X.K F b y) (U:RelV x u) (S:RelV y v) (f:A.units+n<D8):Lh A s u v (eqD a b):=
 (rcAt_U (se I J e c U) (se I J d Y S) (by omega)).elim (fun h=>rcAt_S I J h c Y U S (by omega) (eqAt_I I J e d f)) id
theorem rcNeAt_D (I:Inv X pins σ H s) (J:aN F H) (a b:Dat) {x y:V} (e:okE a n=f_) (d:okE b n=f_) (c:aW X.K F a x) (Y:aW X.K F b y) (U:RelV x u) (S:RelV y v) (f:A.units+n<D8):Kk A s u v (!eqD a b):=
 (rcNeAt_U (se I J e c U) (se I J d Y S) (by omega)).elim (fun h=>rcNeAt_S I J h c Y U S (by omega) (eqAt_I I J e d f)) id
end
section
variable {W:ck} {own:Bool}
theorem aw.blS {Q:VK} {b:Bool} (p:aw K W own F H (.ok (.bl b)) Q) (J:aN F H) (I:Inv X pins σ H s):EP X pins σ Q (.bool b) s:=⟨.bl b,H,I,rfl,p.bl J⟩
theorem AD (f:X.A.units+64<D8) (e: ~~~(X.K=K)):Op2 K W own X (Dp .Eq) eqM:=by
 subst e;intro pins s σ H x y v u Q I Y U h;obtain ⟨F,a,b,S,d,c,p⟩:=h;unfold eqM at p;by_cases J:(okE a 40&&okE b 40)=f_
 ·rw [p_ J] at p;simp only [u_] at J;exact rcAt_D I S a b J.1 J.2 d c Y U (by omega) _ _ _ _ (p.blS S I)
 ·rw [l_ J] at p;exact p.stuck
theorem o_ne (f:X.A.units+64<D8) (e: ~~~(X.K=K)):Op2 K W own X (Dp .NotEq) neM:=by
 subst e;intro pins s σ H x y v u Q I Y U h;obtain ⟨F,a,b,S,d,c,p⟩:=h;unfold neM at p;by_cases J:(okE a 40&&okE b 40)=f_
 ·rw [p_ J] at p;simp only [u_] at J;exact rcNeAt_D I S a b J.1 J.2 d c Y U (by omega) _ _ _ _ (p.blS S I)
 ·rw [l_ J] at p;exact p.stuck
end
section
theorem Inv.ux {t':Nat} {T:h_} (I:Inv X pins σ H s) (f:∀b∈ch,zp X pins H b) (k:∀b o,b∉ch->s.heap.get? b=a_ o->h'.get? b=a_ o) (g:s.heap.objs.size<=T)
  (d:xs.length<=n_/\∃its:List i_,Vals xs its/\NC h' T its.toArray):Inv X pins σ (upd H T (.tup xs)) {s with heap:=h',toks:=t'}:=by
 have J:H T=d_:=I.hok.fresh g;have U:∀b u,H b=a_ u->b∉ch:=fun b u e z=>by rw [(f b z).1] at e;cases e
 have a:∀{b:h_} {o:GX},s.heap.get? b=a_ o->b≠T:=fun {b o} e=>Cd (Cq (o_ e) g);refine I.step (g':=s.gens) (d':=s.drawn) (ch:=ch) (fun b Y=>?_) (fun b o _ _ S e _=>k b o S e) (fun b o _ _ S e _=>⟨o.slots,k b o S e⟩) (fun b o _ e n=>by rw [aq (a e)];exact n)
  (fun b o S e=>⟨o,k b o S e⟩) (fun b ys e=>by rw [aq (aF e J)];exact e) (fun b o u e=>by rw [aq (aF e J)];exact e) (fun b ps e=>⟨#[],by rw [aq (aF e J),e];simp⟩) (fun m i=>?_) (fun b u e=>?_) I.bare
 ·obtain ⟨l,f1,j,f3,f4,f5⟩:=f b Y;exact ⟨f3,f1,f4,f5⟩
 ·obtain ⟨o,es,ep,h,r⟩:=i;exact ⟨o,es,ep,k _ o (fun z=>(f _ z).2.1 rfl) h,r⟩
 ·by_cases Y:b=T
  ·subst Y;rw [ao] at e;cases e;exact d
  ·rw [aq Y] at e;refine (I.hok b u e).uz (fun c v S q=>k c v ?_ q) (fun c q=>?_) fun c ys q=>?_
   ·rcases S with z|z
    ·rw [z];exact U b u e
    ·exact U c _ z
   ·rw [aq (aF q J)];exact q
   ·rw [aq (aF q J)];exact q
theorem Inv.uy {t':Nat} (I:Inv X pins σ H s) (U:∀b∈ch,zp X pins H b) (k:∀b o,b∉ch->s.heap.get? b=a_ o->h'.get? b=a_ o):Inv X pins σ H {s with heap:=h',toks:=t'}:=by
 have S:∀b u,H b=a_ u->b∉ch:=fun b u e z=>by rw [(U b z).1] at e;cases e
 refine I.step (g':=s.gens) (d':=s.drawn) (ch:=ch) (fun b d=>?_) (fun b o _ _ J e _=>k b o J e) (fun b o _ _ J e _=>⟨o.slots,k b o J e⟩) (fun b o _ e n=>n)
  (fun b o J e=>⟨o,k b o J e⟩) (fun b ys e=>e) (fun b o u e=>e) (fun b ps e=>⟨#[],by rw [e];simp⟩) (fun m a=>?_) (fun b u e=>?_) I.bare
 ·obtain ⟨g,f1,f,f3,f4,f5⟩:=U b d;exact ⟨f3,f1,f4,f5⟩
 ·obtain ⟨o,es,ep,Y,r⟩:=a;exact ⟨o,es,ep,k _ o (fun z=>(U _ z).2.1 rfl) Y,r⟩
 ·refine (I.hok b u e).uz (fun c v J q=>k c v ?_ q) (fun _ q=>q) fun _ _ q=>q;rcases J with z|z
  ·rw [z];exact S b u e
  ·exact S c _ z
end
noncomputable def Ite (K:Fg) (a:h_):It:=
 ⟨fun i H=>∃xs x,SqL K H a xs/\xs[i]? =a_ x,fun i H x H'=>∃T y,H T=d_/\x=.ref T/\H'=upd H T (.tup [.int i,y])/\∀xs,SqL K H a xs->xs[i]? =a_ y,fun i H=>∃xs,SqL K H a xs/\xs.length<=i⟩
theorem rO {P:Cn} (a e Y:h_) (l:e≠Y):Turn P w K (.Tuple elts k pos) (Ite K a) [e,Y] e (fun i h=>(∃J,IsEnum h e Y i J)/\h.IsListIter Y a i) where
 mem:=by simp
 obj:=fun i h st b S=>by
  obtain ⟨⟨J,f⟩,o,e1,c,d⟩:=st;rcases r_.mp S with rfl|S
  ·exact ⟨_,f,fun v z=>by cases z⟩
  ·have:b=Y:=by simpa using S
   subst this;exact ⟨o,e1,fun v z=>by rw [d] at z;cases z⟩
 keep:=fun i h h' st N=>by
  obtain ⟨⟨J,f⟩,U⟩:=st;exact ⟨⟨J,N e (by simp) _ f⟩,U.at fun o x=>N Y (by simp) o x⟩
 item:=by
  intro X G hw L O i pins s σ H E I r st C;subst G hw L;obtain ⟨⟨J,f⟩,U⟩:=st;obtain ⟨xs,x,n,A⟩:=C;obtain ⟨its,t,p,R⟩:=I.list n;obtain ⟨u,W,Q⟩:=t.get A;refine wpAny_pyNext_enum_item f U p.isList (x:=u) (by simpa using W) l fun h1 Z j hT hsz hk=>?_;refine ⟨_,rfl,Kz Z fun h2 D g=>?_⟩
  have B:e<s.heap.objs.size:=o_ f;have m:s.heap.objs.size≠e:=Eb B;have I1:Inv X pins σ (upd H s.heap.objs.size (.tup [.int i,x])) {s with heap:=h2,toks:=s.toks+1}:=I.ux (ch:=[e,Y]) r (fun b o S q=>by
    have h3:=hk b o (fun z=>S (by simp [z])) (fun z=>S (by simp [z])) q;exact (g.2 b (fun z=>S (by simp [z]))).trans h3) (m_ _) ⟨by show 2<=n_;decide,[.int i s.toks,u],.cons ⟨_,rfl⟩ (.cons Q .nil),⟨_,(g.2 _ m).trans hT,rfl,0,rfl⟩⟩
  refine ⟨.ref s.heap.objs.size,_,I1,rfl,⟨s.heap.objs.size,x,I.hok.fresh (m_ _),rfl,rfl,fun ys T=>by rw [I.lV T n];exact A⟩,⟨⟨u,by simpa using D⟩,j.at fun o y=>(g.2 Y l.symm).trans y⟩,fun b S=>?_⟩
  have F:=(r b S).1;have:b≠s.heap.objs.size:=by
   rcases r_.mp S with rfl|S
   ·exact m.symm
   ·have:b=Y:=by simpa using S
    subst this;obtain ⟨o,e1,_⟩:=U;exact Cd (o_ e1)
  rw [aq this];exact F
 done:=by
  intro X G hw L O i pins s σ H E I r st C;subst G hw L;obtain ⟨⟨J,f⟩,U⟩:=st;obtain ⟨xs,n,A⟩:=C;obtain ⟨its,t,p,R⟩:=I.list n;have hl:=t.length;exact wpAny_pyNext_enum_end (I.ok.hd O) f U p.isList (EE (by simp;omega)) fun h2 eb=>⟨rfl,I.uy (t':=s.toks) (ch:=[e,Y]) r fun b o S q=>eb b o (fun z=>S (by simp [z])) q⟩
 self:=fun _ _ _ _ _ st h=>by
  obtain ⟨⟨J,f⟩,_⟩:=st;exact GA f h
theorem n9:∀(ds:List Dat) (k i:Nat),(d8 k ds)[i]? =(ds[i]?).map fun d=>.tup [.int ((k+i:Nat):Int),d]
 |[],k,i=>by simp [d8]
 |d::ds,k,0=>by simp [d8]
 |d::ds,k,i+1=>by
  rw [d8,D3,n9 ds (k+1) i,D3];rw [show k+1+i=k+(i+1) by omega]
theorem fj:∀(ds:List Dat) (k:Nat),(d8 k ds).length=ds.length
 |[],_=>rfl
 |d::ds,k=>by rw [d8,Ci,fj ds,Ci]
theorem sW (t:SqL K F a xs) (z:au K F ds xs):rB K F (Ite K a) (d8 0 ds) where
 go:=fun i F' H' U J hi=>⟨xs,xs[i]'(by rw [z.length];rw [fj] at hi;exact hi),J.lst (U.lst t),by rw [fj] at hi;simp [z.length,hi]⟩
 yl:=fun i F' H' x H2 d U J hd Y=>by
  obtain ⟨T,y,b,ex,c,Y⟩:=Y;subst ex c;rw [n9] at hd;cases S:ds[i]? with
  |none=>rw [S] at hd;cases hd
  |some d'=>
   rw [S] at hd;simp at hd;subst hd;obtain ⟨v,e1,q⟩:=z.get S;have e2:=Y xs (J.lst (U.lst t));rw [e1] at e2;cases e2;refine ⟨upd F' T (.tup [.int i,y]),Step.lay J b,T,_,rfl,SqT.of ao,?_⟩
   exact ⟨.int i,[y],rfl,rfl,y,[],rfl,(q.mono U).mono (aN.upd (J.free b)),rfl⟩
 st:=fun F' H' U J=>⟨xs,J.lst (U.lst t),by rw [z.length,fj];exact m_ _⟩
section
variable {W:ck} {own:Bool} {a b:Dr} {f:ah->M Dat} {fr:ah->M (List Dat)} 
def iEnum (K:Fg) (tl:TE):TI:=fun σ H R=>tl σ H fun x H1=>∃a,x=.ref a/\(∃xs,SqL K H1 a xs)/\R (Ite K a) H1
theorem pi_enum {tl:TE} (o:Gl X "enumerate") (j:X.mg "enumerate"=d_) (m:PE X a tl) (e: ~~~(j_ [a] X.env=[(c_,Cf a X.env)])) :
  PI X (.Tuple elts k q) (.Call (.Name "enumerate" p) [a] [] pos) (iEnum X.K tl):=by
 intro pins s σ H R I h;have r:PA X [a] (ky tl zJ):=aM m cy e;refine K2 (fU I o j boot_enumerate (CF (thn (r pos pins s σ H (fun vs H1=>match vs with
  |[x]=>∃a,x=.ref a/\(∃xs,SqL X.K H1 a xs)/\R (Ite X.K a) H1
  |_=>False) I h) fun us J ⟨vs,H1,U,Y,q1⟩=>?_) e rfl))
 match vs,Y,q1 with
 |[x],Y,⟨l,e1,⟨xs,i⟩,q⟩=>
  subst e1;obtain ⟨u,rfl,g⟩:=Y.one;cases g;obtain ⟨its,v,pl,w⟩:=U.list i;refine MM pl.isList fun h2 f c hsz n=>?_;have t:Inv X pins σ H1 {J with heap:=h2}:=U.kept (t':=J.toks) n;refine GA f ?_;refine ⟨J.heap.objs.size+1,[J.heap.objs.size+1,J.heap.objs.size],_,_,H1,rfl,t,rO l _ _ (Hr _),⟨⟨_,f⟩,c⟩,fun b d=>?_,q⟩
  have S:J.heap.objs.size<=b:=by
   rcases r_.mp d with rfl|d
   ·exact Ee _
   ·have:b=J.heap.objs.size:=by simpa using d
    exact Jh this.symm
  exact U.fpOk S (U.hok.fresh S)
theorem ri_enum {R:It->Hp->Prop} (h:iD K W (qJ fa) σ H R):iEnum K (tD K W c_ fa) σ H R:=by
 obtain ⟨F,ρ,r,s,p⟩:=h;refine aI r s (fun e S=>?_) fun d hd v F1 H1 J q1=>?_
 ·have z:qJ fa ρ=.error e:=by unfold qJ;rw [S];rfl
  rw [z] at p;exact p
 ·have z:qJ fa ρ=(jc d).bind fun ds=>.ok (d8 0 ds):=by unfold qJ;rw [hd];rfl
  rw [z] at p;cases d with
  |lst ds=>
   obtain ⟨b,xs,e,t,z⟩:=q1;exact ⟨b,e,⟨xs,J.fh.lst t⟩,p _ F1 H1 J (sW t z)⟩
  |_=>exact (W.ns p).elim
theorem By (S:X.mg "enumerate"=d_) (U:DE K W c_ X a fa) (Y: ~~~(Gl X "enumerate")) (J: ~~~(j_ [a] X.env=[(c_,Cf a X.env)])) (b: ~~~(X.K=K)) :
  DI K W X (.Tuple elts k q) (.Call (.Name "enumerate" p) [a] [] pos) (qJ fa):=by
 subst b;exact (pi_enum Y S U J).imp fun _ _ _=>ri_enum
theorem bz:PTs X [] (tDT K W g7):=fun pins s σ H Q I h=>pts_nil pins s σ H Q I (by
 obtain ⟨F,ρ,r,J,q⟩:=h;exact q F H (Step.refl J))
theorem cE:PGs X [] (fZ []):=pgs_nil
theorem aR {is:List Nat} (Y:X.N.Nodup) (h2:PGs X es (fZ is)) (hi: ~~~(X.N[i]? =a_ x)) (J:autoParam (Loc X.env.scope x) Jq6) (U:autoParam (X.fn x=f_\/X.env.scope.names.lookup x=a_ .local) Jq4)
  (S: ~~~((En (.Name x p::es) X.env).map (·.2)=GP (.Name x p) X.env::(En es X.env).map (·.2))):PGs X (.Name x p::es) (fZ (i::is)):=wD (uY Y hi J U) h2 S
theorem iF {is:List Nat} (U:X.calm=f_) (h:PGs X es (fZ is)) (S: ~~~((En es X.env).length=is.length)) (J: ~~~((En es X.env).findIdx? (·.1)=d_)) (Y: ~~~(X.K=K)):DG K X (.Tuple es k pos) (.tp is):=by
 subst Y;exact pg_tup U h S J
theorem lg {ix:List (Option Nat)}:∀{is:List Nat},(∀i∈is,ix[i]? =a_ d_)->∀vs σ' H' (Q:St->Hp->Prop),fZ is vs σ' H' Q->fZ is vs σ' H' fun J H2=>Q J H2/\∀(i:Nat) v,σ'[i]? =a_ (a_ v)->(∃j,ix[i]? =a_ (a_ j))->J[i]? =a_ (a_ v)
 |[],_,vs,σ',H',Q,⟨e,q⟩=>⟨e,q,fun _ _ h _=>h⟩
 |i::is,b,vs,σ',H',Q,⟨v,r,e,q⟩=>by
  refine ⟨v,r,e,?_⟩
  have:=lg (ix:=ix) (is:=is) (fun j d=>b j (by simp [d])) r (σ'.set i (a_ v)) H' Q q;have U:∀{is:List Nat} {vs:List V} {S:St} {H1:Hp} {Q Y:St->Hp->Prop},(∀J H2,Q J H2->Y J H2)->fZ is vs S H1 Q->fZ is vs S H1 Y:=by
   intro is
   induction is with
   |nil=>rintro vs S H1 Q Y m ⟨e,q⟩;exact ⟨e,m _ _ q⟩
   |cons i is c=>rintro vs S H1 Q Y m ⟨v,r,e,q⟩;exact ⟨v,r,e,c m q⟩
  refine U (fun J H2 ⟨q1,q2⟩=>⟨q1,fun j w h ⟨l,a⟩=>q2 j w ?_ ⟨l,a⟩⟩) this;have:i≠j:=by rintro rfl;rw [b i (by simp)] at a;cases a
  rw [q_ this];exact h
theorem ir {is:List Nat} (h:∀i∈is,ix[i]? =a_ d_):nz ix (gP K (.tp is)):=fun x σ' H' Q ⟨a,xs,e,t,l,q⟩=>⟨a,xs,e,t,l,lg h xs σ' H' Q q⟩
theorem ej (U:N'.Nodup) (hi: ~~~(N'[i]? =a_ x)) (J:autoParam (Loc (aU X N' sc L cs s H fp).env.scope x) Jq6)
  (S:autoParam ((aU X N' sc L cs s H fp).fn x=f_\/(aU X N' sc L cs s H fp).env.scope.names.lookup x=a_ .local) Jq4):DG K (aU X N' sc L cs s H fp) (.Name x pos) (.nm i):=pg_c U hi J S
variable {pt:Pat} 
theorem cF (N':List Cy) (ix:List (Option Nat)) (hi:DI K W X tg iter fi) (b:∀L cs s H fp,DG K (aU X N' sc L cs s H fp) tg pt) (Y:nz ix (gP K pt))
  (S:∀L cs s H fp,PTs (aU X N' sc L cs s H fp) ifs (tDT K W ft)) (c:∀L cs s H fp,DE K W c_ (aU X N' sc L cs s H fp) elt fe) (d: ~~~(X.calm=f_))
  (J: ~~~(bj X.N X.env.scope N' sc ix=f_)) (a: ~~~(sc.kind=.function)) (U:autoParam (∀x,E8 iter X.env x=DC x) Jq5) :
  DE K W f_ X (.ListComp elt [⟨tg,iter,ifs,0⟩] sc pos) (cj fi ix pt ft fe):=(pe_comp N' ix d hi b Y S c J a U).imp fun _ _ _=>A4
theorem tD_fr {Q:VK} (h:tD K W own f σ H Q):tD K W f_ f σ H Q:=by
 cases own with
 |true=>exact h
 |false=>obtain ⟨F,ρ,r,s,p⟩:=h;exact ⟨F,ρ,r,s,p.frz⟩
theorem m7 (own:Bool) (N':List Cy) (ix:List (Option Nat)) (h:X.N.Nodup) (hi:DI K W X tg iter fi) (e:∀L cs s H fp,DG K (aU X N' sc L cs s H fp) tg pt) (b:nz ix (gP K pt))
  (Y:∀L cs s H fp,PTs (aU X N' sc L cs s H fp) ifs (tDT K W ft)) (f:∀L cs s H fp,DE K W c_ (aU X N' sc L cs s H fp) elt fe) (d: ~~~(X.N[i]? =a_ x)) (U: ~~~(X.env.scope.names.lookup x=a_ .local)) (g: ~~~(X.calm=f_))
  (J: ~~~(Dx (.ListComp elt [⟨tg,iter,ifs,0⟩] sc pos) (a_ (.Name x py)) spos.line X.env=DC f_))
  (S: ~~~(bj X.N X.env.scope N' sc ix=f_)) (c: ~~~(sc.kind=.function)) (a:autoParam (∀x,E8 iter X.env x=DC x) Jq5) :
  DS K W ro X OL O (aft own i O) (.Assign [.Name x py] (.ListComp elt [⟨tg,iter,ifs,0⟩] sc pos) spos) (ay O i (cj fi ix pt ft fe)):=fun F0 H0=>
 (oE N' ix h d U g hi e b Y f J S c a).imp fun D σ H t=>A4 (tD_fr (uL t))
theorem ds_setI {r:Nu} (d:DE K W c_ X e f) (c:DE K W c_ X b fk) (a:(i∈O)⁻¹) (h: ~~~(X.N[i]? =a_ x)) (hv:autoParam (Vis X.env.scope x) Jq3) (hd:((x==("__debug__":Cy))=c_)⁻¹) (U:((x==("__classdict__":Cy))=c_)⁻¹)
  (g:autoParam (∀v,GP (.Subscript (.Name x p) b q) X.env v=(do
   let J <- Gf [v] (Cf (.Name x p) X.env)
   let S <- Gf [v,J] (Cf b X.env)
   Ii q
   Gf [v,J,S] (Nh J S v)
   release [v,J,S] [])) Jq5) (Y: ~~~(Jk [.Subscript (.Name x p) b q] e r.line X.env=DC c_)) (hw: ~~~(Jl [.Subscript (.Name x p) b q] e X.env=DC d_))
  (h1: ~~~((En [.Subscript (.Name x p) b q] X.env).map (·.2)=[GP (.Subscript (.Name x p) b q) X.env])) :
  DS K W ro X OL O O (.Assign [.Subscript (.Name x p) b q] e r) (uI i fk f):=fun F0 H0=>(Ah d (pg_sub (pv i h hv hd U) c set_list g) Y hw h1).imp fun _ _ _=>rs_setI a
theorem Bq {pt:Pat} (U:DE K W c_ X e f) (S:DG K X tg pt) (n:(∀i∈pt.names,i∉O)⁻¹) (J: ~~~(Jk [tg] e pos.line X.env=DC c_)) (hw: ~~~(Jl [tg] e X.env=DC d_))
  (h1: ~~~((En [tg] X.env).map (·.2)=[GP tg X.env])):DS K W ro X OL O O (.Assign [tg] e pos) (sv O pt f):=fun F0 H0=>(Ah U S J hw h1).imp fun _ _ _=>rs_unpB n
def spF (K:Fg) (ro:Bool) (g:List Dat->M Dat) (n:Nat):Sp:=fun vs H Q _=>∃F ds,aN F H/\au K F ds vs/\ds.length=n/\aw K Wno ro F H (g ds) Q
theorem pY (h:ds.length≠n):bL nN n g ds=stk:=by unfold bL;rw [l_ h]
theorem de_call (F:iN X.prog X.w X.K X.mg X.base CX0 k fad fd ps (spF K ro (bL nN n g) n)) (c:gz k X.A) (d:X.mg x=a_ (.ref fad)) (f:FH X.K (.ref fad)=f_) (j:Binds X.K fd ps [])
  (l:DA K Wno X (e::es) fr) (i: ~~~(Gl X x)) (Y:((x==("__debug__":Cy))=c_)⁻¹) (S: ~~~(j_ (e::es) X.env=(c_,Cf e X.env)::j_ es X.env)) (U: ~~~((CZ pos (j_ es X.env)).any (·.1)=c_)) :
  DE K Wno ro X (.Call (.Name x p) (e::es) [] pos) (fL (bL nN n g) fr):=by
 refine PE.imp (Ar F c i d f j .nil Av l Y S U) fun σ H Q h=>?_;obtain ⟨F,ρ,r,s,p⟩:=rd_L h;refine ⟨F,ρ,r,s,?_⟩
 cases e1:fr ρ with
 |error z=>rw [e1] at p;exact p
 |ok ds=>
  rw [e1] at p;intro vs F' H' st q;obtain ⟨F1,J,b,q1,z⟩:=p vs F' H' st q;show spF K ro (bL nN n g) n (vs++[]) H' Q E0;rw [Ed];by_cases a:J.length=n
  ·exact ⟨F1,J,b,q1,a,z⟩
  ·rw [pY a] at z;exact aw.stuck z
end
section
variable {P:Cn} {base:CQ}
theorem rW {vs:List V} (q:au K F ds vs) (h:(ds.map a_++Dl (N.length-ds.length) d_)[i]? =a_ (a_ d)):∃v,(start N vs)[i]? =a_ (a_ v)/\aW K F d v:=by
 have hi:i<ds.length:=by
  by_cases hi:i<ds.length
  ·exact hi
  ·rw [JS (by simpa using hi),Ko] at h;split at h<;>cases h
 rw [DJ (by simpa using hi),CC] at h;cases e:ds[i]? with
 |none=>rw [e] at h;cases h
 |some d'=>
  rw [e] at h;cases h;obtain ⟨v,e1,q1⟩:=q.get e;refine ⟨v,?_,q1⟩
  unfold start;rw [DJ (by rw [v_,q.length];exact hi),CC,e1];rfl
theorem fn_D {f:h_} (F:Fun K x qual st f fd) (S:gq N ps (aB st)) (ro:Bool) (g:ah->M Flo)
  (b:∀(cdv:i_) (A:D0) (outer:List J8) (s:t_) (H:Hp) (E:XK),gz k (A.deeper (FV qual (aB st) s.heap.objs.size f cdv)) ->
   DSs K Wno ro (xm CX0 P w K mg base N qual (aB st) f cdv A outer s H E).nox [] [] O' (br st) g):iN P w K mg base CX0 (k+1) f fd ps (spF K ro (bL N.length ps.length g) ps.length):=by
 have Y:ps.length<=N.length:=by have:=G1 Ia S.pre;rw [FZ] at this;omega
 refine F.okX S (fun vs H Q E ⟨F,ds,s,q,l,p⟩=>by rw [q.length,l]) fun cdv A outer s H vs Q E U ⟨F1,ds,J,q,l,p⟩=>⟨_,b cdv A outer s H E U F1 H,F1,F1,ds.map a_++Dl (N.length-ds.length) d_,?_,?_⟩
 ·refine ⟨Step.refl J,aN.refl _,?_,fun i d e _=>rW q e,(fun i d e h=>nomatch h),(fun i j ds es a h=>nomatch h)⟩
  unfold start;rw [CP,CP,v_,v_,FE,FE,q.length]
 ·have e1:bL N.length ps.length g ds=(g (ds.map a_++Dl (N.length-ds.length) d_)).bind fun fl=>match fl with
   |.nx _=>.ok .non
   |.rt d=>.ok d
   |_=>stk:=by
    unfold bL;exact p_ l
  rw [e1] at p;cases e2:g (ds.map a_++Dl (N.length-ds.length) d_) with
  |error z=>rw [e2] at p;exact p
  |ok fl=>
   rw [e2] at p;cases fl with
   |nx ρ=>exact fun σ F H r=>p .non F H r.st (by cases ro<;>rfl)
   |rt d=>exact fun v F H st q=>p v F H st q
   |bk ρ=>exact aw.stuck p
   |ct ρ=>exact aw.stuck p
def spLaw (K:Fg):Sp:=fun vs H Q _=>∃(a:h_) (ns:List Int),vs=[.ref a]/\SqL K H a (ns.map V.int)/\ns.length<=63/\∀H',Q (.bl f_) H'
theorem kW {F:Hp}:∀is:List Int,au K F (is.map Dat.int) (is.map V.int)
 |[]=>rfl
 |i::is=>⟨.int i,is.map V.int,rfl,rfl,kW is⟩
theorem law_ok {f:h_} {mlaw:Nat->List Dat->M Dat} (F:∀n,iN P w K mg base CX0 k f fd [x] (spF K ro (mlaw n) 1)) (h:∀ns:List Int,ns.length<=63->∃n,mlaw n [.lst (ns.map .int)]=.ok (.bl f_)):iN P w K mg base CX0 k f fd [x] (spLaw K):=by
 refine ⟨fun vs H Q E ⟨a,ns,e,_⟩=>by rw [e];rfl,fun A outer s H J us vs Q E S c d hv ⟨a,ns,e,U,b,q⟩=>?_⟩
 obtain ⟨n,Y⟩:=h ns b;refine (F n).run A outer s H J us vs Q E S c d hv ⟨H,[.lst (ns.map .int)],aN.refl _,⟨.ref a,[],e,⟨a,_,rfl,U,kW ns⟩,rfl⟩,rfl,?_⟩;rw [Y];intro v F' H' st z;have:v=.bl f_:=by cases ro<;>exact z
 rw [this];exact q H'
end
structure Kit (K:Fg):Prop where
 Aa:CW K (.type "int") (.type "int")=a_ f_
 yg:CW K (.type "bool") (.type "int")=a_ f_
 yb:CW K (.type "list") (.type "int")=a_ c_
 uP:CW K (.type "tuple") (.type "int")=a_ c_
 A8:CW K (.type "str") (.type "int")=a_ c_
 nJ:CW K (.type "NoneType") (.type "int")=a_ c_
 ye:CW K (.type "int") (.type "bool")=a_ c_
 uV:CW K (.type "bool") (.type "bool")=a_ f_
 uS:CW K (.type "list") (.type "bool")=a_ c_
 sF:CW K (.type "tuple") (.type "bool")=a_ c_
 y0:CW K (.type "str") (.type "bool")=a_ c_
 mx:CW K (.type "NoneType") (.type "bool")=a_ c_
 yc:CW K (.type "int") (.type "list")=a_ c_
 uU:CW K (.type "bool") (.type "list")=a_ c_
 uR:CW K (.type "list") (.type "list")=a_ f_
 sE:CW K (.type "tuple") (.type "list")=a_ c_
 xZ:CW K (.type "str") (.type "list")=a_ c_
 mw:CW K (.type "NoneType") (.type "list")=a_ c_
 uT:CW K (.type "int") (.type "tuple")=a_ c_
 sH:CW K (.type "bool") (.type "tuple")=a_ c_
 sG:CW K (.type "list") (.type "tuple")=a_ c_
 qe:CW K (.type "tuple") (.type "tuple")=a_ f_
 uQ:CW K (.type "str") (.type "tuple")=a_ c_
 lG:CW K (.type "NoneType") (.type "tuple")=a_ c_
 A9:CW K (.type "int") (.type "str")=a_ c_
 yf:CW K (.type "bool") (.type "str")=a_ c_
 ya:CW K (.type "list") (.type "str")=a_ c_
 uO:CW K (.type "tuple") (.type "str")=a_ c_
 A7:CW K (.type "str") (.type "str")=a_ f_
 nI:CW K (.type "NoneType") (.type "str")=a_ c_
section
variable {W:ck} {own:Bool} {a b:Dr} {fr:ah->M (List Dat)}
theorem B2 {x:V} {U Y bl S bs:Bool} {Q:Vp} (I:Inv X pins σ H s) (J:aN F H) (q:aW X.K F d x) (r:RelV x u)
  (hi:CW X.K (.type "int") (.type T)=a_ U) (n:CW X.K (.type "bool") (.type T)=a_ Y) (m:CW X.K (.type "list") (.type T)=a_ bl) (f:CW X.K (.type "tuple") (.type T)=a_ S)
  (g:CW X.K (.type "str") (.type T)=a_ bs) (j:CW X.K (.type "NoneType") (.type T)=a_ bn)
  (h:∀k tk,(match d with|.int _=>k=U|.bl _=>k=Y|.lst _=>k=bl|.tup _=>k=S|.str _=>k=bs|.non=>k=bn|.ins _ _=>False|.dic _=>False|.dil _=>False)->Q (.bool k) {s with toks:=tk}) (a:∀C fs,d≠.ins C fs) (c:∀ks,d≠.dic ks) (b:∀ks,d≠.dil ks) :
  s_ (w_ X.prog X.w) X.A (Gg (.builtin "isinstance") [u,.type T]) Q X.xe s:=by
 cases d with
 |non=>cases (show x=.non from q);cases r;exact E1 K5 I.kIn Ex j (fun z=>nomatch z) fun tk=>h _ tk rfl
 |bl y=>cases (show x=.bl y from q);cases r;exact E1 K6 I.kIn Ex n (fun z=>nomatch z) fun tk=>h _ tk rfl
 |int i=>cases (show x=.int i from q);obtain ⟨t,rfl⟩:=r;exact E1 Le I.kIn Ex hi (fun z=>nomatch z) fun tk=>h _ tk rfl
 |str y=>cases (show x=.str y from q);obtain ⟨t,rfl⟩:=r;exact E1 Ld I.kIn Ex g (fun z=>nomatch z) fun tk=>h _ tk rfl
 |lst ds=>
  obtain ⟨l,xs,e,t,_⟩:=q;subst e;cases r;obtain ⟨its,_,pl,_⟩:=I.list (J.lst t);obtain ⟨o,h1,h2,_⟩:=pl.isList;exact E1 IB I.kIn ⟨o,h1,h2⟩ m (fun z=>nomatch z) fun tk=>h _ tk rfl
 |tup ds=>
  obtain ⟨l,xs,e,t,_⟩:=q;subst e;cases r;obtain ⟨its,_,pl,_⟩:=I.tuple (J.tup t);obtain ⟨o,h1,h2,_⟩:=pl;exact E1 KO I.kIn ⟨o,h1,h2⟩ f (fun z=>nomatch z) fun tk=>h _ tk rfl
 |ins C fs=>exact Cj rfl (a C fs)
 |dic ks=>exact Cj rfl (c ks)
 |dil ks=>exact Cj rfl (b ks)
theorem nj {g:Dat->M Dat} (j:bS X (.builtin "isinstance") (fun xs H Q=>∃v,xs=[v,.ty T]/\rD1 K W own g v H Q)) (f:X.mg "isinstance"=d_) (b:X.mg y=d_) (U:D5 y=a_ (.type T)) (k:DE K W c_ X a fa)
  (i: ~~~(Gl X "isinstance")) (c: ~~~(Gl X y)) (e:(y≠"__name__")⁻¹) (hd:((y==("__debug__":Cy))=c_)⁻¹)
  (S: ~~~(j_ [a,.Name y p2] X.env=[(c_,Cf a X.env),(c_,Cf (.Name y p2) X.env)])) (J: ~~~(j_ [.Name y p2] X.env=[(c_,Cf (.Name y p2) X.env)])) (Y: ~~~((CZ pos (j_ [.Name y p2] X.env)).any (·.1)=c_)) :
  DE K W own X (.Call (.Name "isinstance" p) [a,.Name y p2] [] pos) (f1 g fa):=
 (di j i f EK (aM k (aM (wF (pos:=p2) c b U e hd) cy J) (by rw [S,J])) (by decide) (by decide) (by rw [S,J]) Y).imp fun σ H Q h=>by
  obtain ⟨F,ρ,r,s,q⟩:=rd_1 h;refine ⟨F,ρ,r,s,?_⟩
  cases e1:fa ρ with
  |error z=>rw [e1] at q;exact q
  |ok d=>rw [e1] at q;exact fun v F' H' st z=>⟨v,rfl,q v F' H' st z⟩
theorem ua (J:Kit K) (c: ~~~(X.K=K)):bS X (.builtin "isinstance") (fun xs H Q=>∃v,xs=[v,.ty "int"]/\rD1 K W own m5 v H Q):=by
 subst c;intro pins s σ H xs us Q I r h;obtain ⟨v,rfl,F,d,Y,q,p⟩:=h;obtain ⟨u,w,rfl,a,S⟩:=r.two;cases (show w=DL "int" from S);by_cases hi:(∃C fs,d=.ins C fs)\/(∃ks,d=.dic ks)\/∃ks,d=.dil ks
 ·rcases hi with ⟨C,fs,rfl⟩|⟨ks,rfl⟩|⟨ks,rfl⟩<;>exact aw.stuck p
 ·refine B2 I Y q a J.Aa J.yg J.yb J.uP J.A8 J.nJ (fun k tk b=>⟨.bl k,H,I.tok tk,rfl,?_⟩) (fun C fs e=>hi (.inl ⟨C,fs,e⟩)) (fun ks e=>hi (.inr (.inl ⟨ks,e⟩))) (fun ks e=>hi (.inr (.inr ⟨ks,e⟩)));cases d<;>first|(have U:k=_:=b;subst U;exact aw.bl (own:=own) p Y)|exact Cj (.inl ⟨_,_,rfl⟩) hi|exact Cj (.inr (.inl ⟨_,rfl⟩)) hi|exact Cj (.inr (.inr ⟨_,rfl⟩)) hi
theorem yQ (S:Kit K) (d:X.mg "isinstance"=d_) (b:X.mg "int"=d_) (f:DE K W c_ X a fa) (g: ~~~(X.K=K))
  (e: ~~~(Gl X "isinstance")) (c: ~~~(Gl X "int"))
  (U: ~~~(j_ [a,.Name "int" p2] X.env=[(c_,Cf a X.env),(c_,Cf (.Name "int" p2) X.env)])) (J: ~~~(j_ [.Name "int" p2] X.env=[(c_,Cf (.Name "int" p2) X.env)])) (Y: ~~~((CZ pos (j_ [.Name "int" p2] X.env)).any (·.1)=c_)) :
  DE K W own X (.Call (.Name "isinstance" p) [a,.Name "int" p2] [] pos) (f1 m5 fa):=nj (ua S g) d b (by decide +kernel) f e c (by decide) (by decide) U J Y
theorem pz (J:Kit K) (c: ~~~(X.K=K)):bS X (.builtin "isinstance") (fun xs H Q=>∃v,xs=[v,.ty "bool"]/\rD1 K W own jY v H Q):=by
 subst c;intro pins s σ H xs us Q I r h;obtain ⟨v,rfl,F,d,Y,q,p⟩:=h;obtain ⟨u,w,rfl,a,S⟩:=r.two;cases (show w=DL "bool" from S);by_cases hi:(∃C fs,d=.ins C fs)\/(∃ks,d=.dic ks)\/∃ks,d=.dil ks
 ·rcases hi with ⟨C,fs,rfl⟩|⟨ks,rfl⟩|⟨ks,rfl⟩<;>exact aw.stuck p
 ·refine B2 I Y q a J.ye J.uV J.uS J.sF J.y0 J.mx (fun k tk b=>⟨.bl k,H,I.tok tk,rfl,?_⟩) (fun C fs e=>hi (.inl ⟨C,fs,e⟩)) (fun ks e=>hi (.inr (.inl ⟨ks,e⟩))) (fun ks e=>hi (.inr (.inr ⟨ks,e⟩)));cases d<;>first|(have U:k=_:=b;subst U;exact aw.bl (own:=own) p Y)|exact Cj (.inl ⟨_,_,rfl⟩) hi|exact Cj (.inr (.inl ⟨_,rfl⟩)) hi|exact Cj (.inr (.inr ⟨_,rfl⟩)) hi
theorem vE (S:Kit K) (d:X.mg "isinstance"=d_) (b:X.mg "bool"=d_) (f:DE K W c_ X a fa) (g: ~~~(X.K=K))
  (e: ~~~(Gl X "isinstance")) (c: ~~~(Gl X "bool"))
  (U: ~~~(j_ [a,.Name "bool" p2] X.env=[(c_,Cf a X.env),(c_,Cf (.Name "bool" p2) X.env)])) (J: ~~~(j_ [.Name "bool" p2] X.env=[(c_,Cf (.Name "bool" p2) X.env)])) (Y: ~~~((CZ pos (j_ [.Name "bool" p2] X.env)).any (·.1)=c_)) :
  DE K W own X (.Call (.Name "isinstance" p) [a,.Name "bool" p2] [] pos) (f1 jY fa):=nj (pz S g) d b (by decide +kernel) f e c (by decide) (by decide) U J Y
theorem px (J:Kit K) (c: ~~~(X.K=K)):bS X (.builtin "isinstance") (fun xs H Q=>∃v,xs=[v,.ty "list"]/\rD1 K W own ee v H Q):=by
 subst c;intro pins s σ H xs us Q I r h;obtain ⟨v,rfl,F,d,Y,q,p⟩:=h;obtain ⟨u,w,rfl,a,S⟩:=r.two;cases (show w=DL "list" from S);by_cases hi:(∃C fs,d=.ins C fs)\/(∃ks,d=.dic ks)\/∃ks,d=.dil ks
 ·rcases hi with ⟨C,fs,rfl⟩|⟨ks,rfl⟩|⟨ks,rfl⟩<;>exact aw.stuck p
 ·refine B2 I Y q a J.yc J.uU J.uR J.sE J.xZ J.mw (fun k tk b=>⟨.bl k,H,I.tok tk,rfl,?_⟩) (fun C fs e=>hi (.inl ⟨C,fs,e⟩)) (fun ks e=>hi (.inr (.inl ⟨ks,e⟩))) (fun ks e=>hi (.inr (.inr ⟨ks,e⟩)));cases d<;>first|(have U:k=_:=b;subst U;exact aw.bl (own:=own) p Y)|exact Cj (.inl ⟨_,_,rfl⟩) hi|exact Cj (.inr (.inl ⟨_,rfl⟩)) hi|exact Cj (.inr (.inr ⟨_,rfl⟩)) hi
theorem vC (S:Kit K) (d:X.mg "isinstance"=d_) (b:X.mg "list"=d_) (f:DE K W c_ X a fa) (g: ~~~(X.K=K))
  (e: ~~~(Gl X "isinstance")) (c: ~~~(Gl X "list"))
  (U: ~~~(j_ [a,.Name "list" p2] X.env=[(c_,Cf a X.env),(c_,Cf (.Name "list" p2) X.env)])) (J: ~~~(j_ [.Name "list" p2] X.env=[(c_,Cf (.Name "list" p2) X.env)])) (Y: ~~~((CZ pos (j_ [.Name "list" p2] X.env)).any (·.1)=c_)) :
  DE K W own X (.Call (.Name "isinstance" p) [a,.Name "list" p2] [] pos) (f1 ee fa):=nj (px S g) d b (by decide +kernel) f e c (by decide) (by decide) U J Y
theorem vS (J:Kit K) (c: ~~~(X.K=K)):bS X (.builtin "isinstance") (fun xs H Q=>∃v,xs=[v,.ty "tuple"]/\rD1 K W own oP v H Q):=by
 subst c;intro pins s σ H xs us Q I r h;obtain ⟨v,rfl,F,d,Y,q,p⟩:=h;obtain ⟨u,w,rfl,a,S⟩:=r.two;cases (show w=DL "tuple" from S);by_cases hi:(∃C fs,d=.ins C fs)\/(∃ks,d=.dic ks)\/∃ks,d=.dil ks
 ·rcases hi with ⟨C,fs,rfl⟩|⟨ks,rfl⟩|⟨ks,rfl⟩<;>exact aw.stuck p
 ·refine B2 I Y q a J.uT J.sH J.sG J.qe J.uQ J.lG (fun k tk b=>⟨.bl k,H,I.tok tk,rfl,?_⟩) (fun C fs e=>hi (.inl ⟨C,fs,e⟩)) (fun ks e=>hi (.inr (.inl ⟨ks,e⟩))) (fun ks e=>hi (.inr (.inr ⟨ks,e⟩)));cases d<;>first|(have U:k=_:=b;subst U;exact aw.bl (own:=own) p Y)|exact Cj (.inl ⟨_,_,rfl⟩) hi|exact Cj (.inr (.inl ⟨_,rfl⟩)) hi|exact Cj (.inr (.inr ⟨_,rfl⟩)) hi
theorem de_isi_tuple (S:Kit K) (d:X.mg "isinstance"=d_) (b:X.mg "tuple"=d_) (f:DE K W c_ X a fa) (g: ~~~(X.K=K))
  (e: ~~~(Gl X "isinstance")) (c: ~~~(Gl X "tuple"))
  (U: ~~~(j_ [a,.Name "tuple" p2] X.env=[(c_,Cf a X.env),(c_,Cf (.Name "tuple" p2) X.env)])) (J: ~~~(j_ [.Name "tuple" p2] X.env=[(c_,Cf (.Name "tuple" p2) X.env)])) (Y: ~~~((CZ pos (j_ [.Name "tuple" p2] X.env)).any (·.1)=c_)) :
  DE K W own X (.Call (.Name "isinstance" p) [a,.Name "tuple" p2] [] pos) (f1 oP fa):=nj (vS S g) d b (by decide +kernel) f e c (by decide) (by decide) U J Y
def tRng (ta:TA) (lo hi:List V->Option Int):TE:=fun σ H Q=>ta σ H fun vs H1=>∃i j,lo vs=a_ i/\hi vs=a_ j/\(-(2^62)<=i/\i<2^62/\ -(2^62)<=j/\j<2^62)/\∀r,H1 r=d_->Q (.ref r) (upd H1 r (.rng i j))
noncomputable def lo1:List V->Option Int
 |[.int _]=>a_ 0
 |_=>d_
noncomputable def hi1:List V->Option Int
 |[.int j]=>a_ j
 |_=>d_
noncomputable def lo2:List V->Option Int
 |[.int i,.int _]=>a_ i
 |_=>d_
noncomputable def hi2:List V->Option Int
 |[.int _,.int j]=>a_ j
 |_=>d_
theorem wz {hi:Int} {t u v:Tok} {tk:Nat} (I:Inv X pins σ H s):Inv X pins σ (upd H s.heap.objs.size (.rng lo hi)) {s with heap:=s.heap.push {cls:=.type "range",data:=.fields #[.int lo t,.int hi u,.int 1 v]},toks:=tk}:=
 I.laid (fun b o e=>g_ _ e) (m_ _) ⟨t,u,v,k_ _ rfl⟩
theorem pe_rng1 (b:Gl X "range") (Y:X.mg "range"=d_) (c:PA X [a] ta) (U: ~~~(j_ [a] X.env=[(c_,Cf a X.env)])):PE X (.Call (.Name "range" p) [a] [] pos) (tRng ta lo1 hi1):=by
 intro pins s σ H Q I h;refine K2 (fU I b Y K0 (CF (thn (c pos pins s σ H _ I h) fun us d ⟨vs,H1,S,J,q1⟩=>?_) U rfl));obtain ⟨i,j,e1,e2,e,q⟩:=q1
 match vs,J,e1,e2 with
 |[.int k],J,e1,e2=>
  cases e1;cases e2;obtain ⟨u,rfl,t,rfl⟩:=J.one;exact call_range_1 ⟨.ref _,_,wz S,rfl,q _ S.fresh⟩
theorem pe_rng2 (d:Gl X "range") (c:X.mg "range"=d_) (e:PA X [a,b] ta) (Y: ~~~(j_ [a,b] X.env=[(c_,Cf a X.env),(c_,Cf b X.env)])) (J: ~~~(j_ [b] X.env=[(c_,Cf b X.env)])):PE X (.Call (.Name "range" p) [a,b] [] pos) (tRng ta lo2 hi2):=by
 intro pins s σ H Q I h;refine K2 (fU I d c K0 (CF (thn (e pos pins s σ H _ I h) fun us f ⟨vs,H1,U,S,q1⟩=>?_) (by rw [Y,J]) (by rw [J];rfl)));obtain ⟨i,j,e1,e2,g,q⟩:=q1
 match vs,S,e1,e2 with
 |[.int k,.int m],S,e1,e2=>
  cases e1;cases e2;obtain ⟨u,w,rfl,⟨t,rfl⟩,t',rfl⟩:=S.two;exact call_range_2 ⟨.ref _,_,wz U,rfl,q _ U.fresh⟩
theorem Vals.of_get:∀{xs:List V} {us:List i_},xs.length=us.length->(∀(i:Nat) v u,xs[i]? =a_ v->us[i]? =a_ u->RelV v u)->Vals xs us
 |[],[],_,_=>.nil
 |[],_::_,h,_=>by simp at h
 |_::_,[],h,_=>by simp at h
 |x::xs,u::us,h,q=>.cons (q 0 x u rfl rfl) (Vals.of_get (by simpa using h) fun i v w h1 h2=>q (i+1) v w (by simpa using h1) (by simpa using h2))
theorem oO:∀{n:Nat} {acc:List i_},acc.length=n->(∀(i:Nat) v,acc[i]? =a_ v->∃t,v=.int (lo+i) t)->Vals ((Cc n).map fun k:Nat=>V.int (lo+k)) acc:=by
 intro n acc J h;refine Vals.of_get (by simp [J]) fun i v u e1 e2=>?_;obtain ⟨t,rfl⟩:=h i u e2;have hi:i<n:=by
  have:=(y_.mp e1).1;simpa using this
 rw [CC,GS hi] at e1;cases e1;exact ⟨t,rfl⟩
theorem rj (c:X.calm=f_):bS X (.type "list") (fun xs H Q=>∃r lo hi,xs=[.ref r]/\H r=a_ (.rng lo hi)/\(-(2^62)<=lo/\lo<2^62/\ -(2^62)<=hi/\hi<2^62)/\(hi-lo).toNat<=n_/\∀l,H l=d_->Q (.ref l) (upd H l (.lst ((Cc (hi-lo).toNat).map fun k:Nat=>V.int (lo+k))))):=by
 intro pins s σ H xs us Q I a h;obtain ⟨r,lo,hi,rfl,d,⟨o,m,j,g⟩,U,q⟩:=h;obtain ⟨u,rfl,Y⟩:=a.one;cases Y;obtain ⟨t,u,v,e⟩:=(show ∃t u v,s.heap.get? r=a_ {cls:=.type "range",data:=.fields #[.int lo t,.int hi u,.int 1 v]} from I.hok r _ d)
 refine call_list_range (n:=(hi-lo).toNat) (I.ok.hd c) e (NJ o m j g) (by rw [La];split<;>omega) (by rw [Du] at U;omega) fun h' tk J f b e2 S=>?_;have hv:Vals ((Cc (hi-lo).toNat).map fun k:Nat=>V.int (lo+k)) J.toList:=oO (by rw [Ct];exact S.1) fun i v hi=>by
  obtain ⟨t,e⟩:=S.2 i v (by simpa using hi);exact ⟨t,by rw [e,Lm]⟩
 exact ⟨.ref _,_,I.laid (t':=tk) b (m_ _) (show bK X.prog X.w _ h' _ (.lst _) from ⟨by simpa using U,J.toList,f,hv,by simpa using e2⟩),rfl,q _ I.fresh⟩
theorem nh (lo:Int) (n:Nat):au K F (az lo n) ((Cc n).map fun k:Nat=>V.int (lo+k)):=by
 refine au.of_get (by simp [az]) fun i d v h1 h2=>?_;have hi:i<n:=by
  have:=(y_.mp h2).1;simpa using this
 unfold az at h1;rw [CC,GS hi] at h1 h2;cases h1;cases h2;rfl
theorem lrng_end {Q:VK} {i j:Int} (p:aw K W f_ F H1 (cz (az i (j-i).toNat)) Q) (s:aN F H1) (Y:H1 r=d_) :
  (j-i).toNat<=n_/\∀l,upd H1 r (.rng i j) l=d_->Q (.ref l) (upd (upd H1 r (.rng i j)) l (.lst ((Cc (j-i).toNat).map fun k:Nat=>V.int (i+k)))):=by
 unfold cz at p;by_cases U:(az i (j-i).toNat).length<=n_
 ·rw [p_ U] at p;refine ⟨by simpa [az] using U,fun l J=>?_⟩
  have S:Step F H1 F (upd H1 r (.rng i j)):=Step.grow s Y;have e:H1 l=d_:=S.hh.free J;exact p _ F _ (S.trans (Step.grow S.fh J)) ⟨l,_,rfl,ao,s.free e,e,nh i _⟩
 ·rw [l_ U] at p;exact (W.ns p).elim
theorem de_lrng2 (f:X.mg "list"=d_) (u:X.mg "range"=d_) (z:DA K W X [a,b] fr) (y: ~~~(X.calm=f_)) (w: ~~~(Gl X "range")) (g: ~~~(Gl X "list")) (t: ~~~(j_ [a,b] X.env=[(c_,Cf a X.env),(c_,Cf b X.env)])) (c: ~~~(j_ [b] X.env=[(c_,Cf b X.env)]))
  (S: ~~~(j_ [.Call (.Name "range" q1) [a,b] [] q2] X.env=[(c_,Cf (.Call (.Name "range" q1) [a,b] [] q2) X.env)])):DE K W f_ X (.Call (.Name "list" p) [.Call (.Name "range" q1) [a,b] [] q2] [] pos) (fLR (gF uM fr)):=by
 refine PE.imp (jR (rj y) g f DY (aM (pe_rng2 w u z t c) cy S) (by decide) (by decide) S rfl) fun σ H Q h=>?_;obtain ⟨F,ρ,r,s,p⟩:=h;refine ic r s (fun e x=>p.err (by unfold fLR gF;rw [x];rfl)) fun ds hd xs F1 H1 k q1=>?_;have e1:fLR (gF uM fr) ρ=(uM ds).bind cz:=by unfold fLR gF;rw [hd];rfl
 rw [e1] at p;have p1:=p.step k;by_cases U:∃i j,ds=[.int i,.int j]
 ·obtain ⟨i,j,rfl⟩:=U;obtain ⟨v,vs,e2,q2,n,Y,e3,q,e4⟩:=q1;have p2:aw K W f_ F1 H1 ((if (aZ i&&aZ j)=f_ then Dz (az i (j-i).toNat) else Ek Err.stuck:M (List Dat)).bind cz) Q:=p1;by_cases J:(aZ i&&aZ j)=f_
  ·rw [p_ J] at p2;unfold aZ at J;simp only [u_,CK] at J;have e5:xs=[.int i,.int j]:=by rw [e2,show v=.int i from q2,e3,show n=.int j from q,show Y=[] from e4]
   subst e5;refine ⟨i,j,rfl,rfl,⟨J.1.1,J.1.2,J.2.1,J.2.2⟩,fun o d=>?_⟩
   obtain ⟨m,l⟩:=lrng_end p2 k.fh d;exact ⟨o,i,j,rfl,ao,⟨J.1.1,J.1.2,J.2.1,J.2.2⟩,m,l⟩
  ·rw [l_ J] at p2;exact (W.ns p2).elim
 ·have:uM ds=.error .stuck:=by
   unfold uM;split
   ·exact Cj ⟨_,_,rfl⟩ U
   ·rfl
  rw [this] at p1;exact (W.ns p1).elim
end
section
theorem cO {is:List Nat} (Y:N'.Nodup) (h2:PGs (aU X N' sc L cs s H fp) es (fZ is)) (hi: ~~~(N'[i]? =a_ x)) (J:autoParam (Loc (aU X N' sc L cs s H fp).env.scope x) Jq6)
  (U:autoParam ((aU X N' sc L cs s H fp).fn x=f_\/(aU X N' sc L cs s H fp).env.scope.names.lookup x=a_ .local) Jq4)
  (S: ~~~((En (.Name x p::es) (aU X N' sc L cs s H fp).env).map (·.2)=GP (.Name x p) (aU X N' sc L cs s H fp).env::(En es (aU X N' sc L cs s H fp).env).map (·.2))):PGs (aU X N' sc L cs s H fp) (.Name x p::es) (fZ (i::is)):=wD (pg_c Y hi J U) h2 S
end
open PySem.W in
noncomputable def d6 {α:Type} (lt:Nat->Nat->Bool):KasT α->α
 |.ret a=>a
 |.ask i j k=>d6 lt (k (lt i j))
section
open PySem.W
variable {lt:Nat->Nat->Bool}
theorem gB (f:α->KasT β):∀t:KasT α,d6 lt (t.bind f)=d6 lt (f (d6 lt t))
 |.ret _=>rfl
 |.ask i j k=>gB f (k (lt i j))
variable {key:Nat->Int} {p:Array Nat}
noncomputable def kAt (key:Nat->Int) (p:Array Nat) (i:Nat):Int:=key (p.getD i 0)
def Up (key:Nat->Int) (p:Array Nat) (k:Nat):Prop:=∀i j,i<=j->j<k->kAt key p i<=kAt key p j
def Down (key:Nat->Int) (p:Array Nat) (k:Nat):Prop:=∀i j,i<=j->j<k->kAt key p j<=kAt key p i
theorem iw {p q:Array Nat} (h:p[i]? =q[j]?):kAt key p i=kAt key q j:=by
 unfold kAt;rw [D4,D4,h]
theorem mR (J:j<=p.size) (k:Nat):kAt key (Gr p i j) k=if i<=k/\k<j then kAt key p (i+j-1-k) else kAt key p k:=by
 have e:=getElem?_mirror_all (i:=i) J k;unfold Gr;split
 ·rename_i h;rw [p_ h] at e;exact iw e
 ·rename_i h;rw [l_ h] at e;exact iw e
theorem kAt_bub {src d:Nat} (J:src<p.size) (hd:d<=src) (k:Nat):kAt key (bubble p src d) k=if k=src-d then kAt key p src else if src-d<k/\k<=src then kAt key p (k-1) else kAt key p k:=by
 have e:=getElem?_bubble J d hd k;split
 ·rename_i h;rw [p_ h] at e;exact iw e
 ·rename_i h;rw [l_ h] at e;split
  ·rename_i h2;rw [p_ h2] at e;exact iw e
  ·rename_i h2;rw [l_ h2] at e;exact iw e
theorem gN:(Gr p i j).size=p.size:=mirror_size _ _ _ _
theorem eN:(Gr p i j).Perm p:=mirror_perm _ _ _ _
noncomputable def ltK (key:Nat->Int) (i j:Nat):Bool:=Ca (key i<key j)
theorem C5 (p:Array Nat):∀(f n:Nat),1<=n->Up key p n->n<=d6 (ltK key) (G_ p f n)/\d6 (ltK key) (G_ p f n)<=n+f/\Up key p (d6 (ltK key) (G_ p f n)) /\
  (d6 (ltK key) (G_ p f n)<n+f->kAt key p (d6 (ltK key) (G_ p f n))<kAt key p (d6 (ltK key) (G_ p f n)-1))
 |0,n,h1,h=>⟨m_ _,m_ _,h,fun z=>Cj z (C_ _)⟩
 |f+1,n,h1,h=>by
  have e:d6 (ltK key) (G_ p (f+1) n)=if kAt key p n<kAt key p (n-1) then n else d6 (ltK key) (G_ p f (n+1)):=by
   show d6 (ltK key) (if ltK key (p.getD n 0) (p.getD (n-1) 0)=f_ then HR n else G_ p f (n+1))=_;by_cases J:kAt key p n<kAt key p (n-1)
   ·rw [p_ (show ltK key (p.getD n 0) (p.getD (n-1) 0)=f_ from Ff J),p_ J];rfl
   ·rw [l_ (show ¬ltK key (p.getD n 0) (p.getD (n-1) 0)=f_ from fun z=>J (EW z)),l_ J]
  rw [e];by_cases J:kAt key p n<kAt key p (n-1)
  ·rw [p_ J];exact ⟨m_ _,by omega,h,fun _=>J⟩
  ·rw [l_ J];obtain ⟨g,d,b,a⟩:=C5 p f (n+1) (by omega) (fun i j Y c=>by
    by_cases S:j<n
    ·exact h i j Y S
    ·have:j=n:=by omega
     subst this;by_cases U:i=j
     ·rw [U];exact Eo _
     ·have:=h i (j-1) (by omega) (by omega);omega)
   exact ⟨by omega,by omega,b,fun z=>a (by omega)⟩
def Alike (key:Nat->Int) (p:Array Nat) (n q:Nat):Prop:=∀i,n-(q+1)<=i->i<n->kAt key p i=kAt key p (n-1)
theorem C6:Alike key p (n+1) 0:=fun i h1 h2=>by rw [show i=n+1-1 by omega]
theorem sC {q:Nat} (S:n<=p.size) (J:Alike key p n q) (U:q+1<=n) (k:Nat):kAt key (Gr p (n-(q+1)) n) k=kAt key p k:=by
 rw [mR S];split
 ·rename_i h;rw [J _ (by omega) (by omega),J k h.1 h.2]
 ·rfl
theorem qR:∀(f:Nat) (p:Array Nat) (n q:Nat),1<=n->q+1<=n->n+f<=p.size->Down key p n->Alike key p n q->∀a Y b,d6 (ltK key) (GC f p n q)=(a,Y,b) ->
  a.Perm p/\a.size=p.size/\n<=Y/\Y<=n+f/\b+1<=Y/\Down key a Y/\Alike key a Y b
 |0,p,n,q,h1,v,B,hd,h,a,Y,b,e=>by
  cases e;exact ⟨Gy _,rfl,m_ _,m_ _,v,hd,h⟩
 |f+1,p,n,q,h1,v,B,hd,h,a,Y,b,e=>by
  have D:d6 (ltK key) (GC (f+1) p n q)=if kAt key p n<kAt key p (n-1) then (if q>0 then d6 (ltK key) (GC f (Gr p (n-(q+1)) n) (n+1) 0) else d6 (ltK key) (GC f p (n+1) 0))
    else if kAt key p (n-1)<kAt key p n then (p,n,q) else d6 (ltK key) (GC f p (n+1) (q+1)):=by
   show d6 (ltK key) (if ltK key (p.getD n 0) (p.getD (n-1) 0)=f_ then (if q>0 then GC f (Gr p (n-(q+1)) n) (n+1) 0 else GC f p (n+1) 0)
    else KasT.ask (p.getD (n-1) 0) (p.getD n 0) fun d=>if d=f_ then .ret (p,n,q) else GC f p (n+1) (q+1))=_
   by_cases g:kAt key p n<kAt key p (n-1)
   ·rw [p_ (show ltK key (p.getD n 0) (p.getD (n-1) 0)=f_ from Ff g),p_ g];by_cases J:q>0
    ·rw [p_ J,p_ J]
    ·rw [l_ J,l_ J]
   ·rw [l_ (show ¬ltK key (p.getD n 0) (p.getD (n-1) 0)=f_ from fun z=>g (EW z)),l_ g];show d6 (ltK key) (if ltK key (p.getD (n-1) 0) (p.getD n 0)=f_ then HR (p,n,q) else GC f p (n+1) (q+1))=_;by_cases S:kAt key p (n-1)<kAt key p n
    ·rw [p_ (show ltK key (p.getD (n-1) 0) (p.getD n 0)=f_ from Ff S),p_ S];rfl
    ·rw [l_ (show ¬ltK key (p.getD (n-1) 0) (p.getD n 0)=f_ from fun z=>S (EW z)),l_ S]
  rw [D] at e;have U:∀{r:Array Nat},(∀k,kAt key r k=kAt key p k)->kAt key p n<=kAt key p (n-1)->Down key r (n+1):=fun {r} u C i j x E=>by
   rw [u,u];by_cases w:j<n
   ·exact hd i j x w
   ·have:j=n:=by omega
    subst this;by_cases c:i=j
    ·rw [c];exact Eo _
    ·have:=hd i (j-1) (by omega) (by omega);omega
  by_cases g:kAt key p n<kAt key p (n-1)
  ·rw [p_ g] at e;by_cases J:q>0
   ·rw [p_ J] at e;have u:=sC (key:=key) (p:=p) (n:=n) (q:=q) (by omega) h v;obtain ⟨t,s,A,y,o,m,l⟩:=qR f _ (n+1) 0 (by omega) (by omega) (by rw [gN];omega) (U u (by omega)) C6 a Y b e;exact ⟨t.trans eN,by rw [s,gN],by omega,by omega,o,m,l⟩
   ·rw [l_ J] at e;obtain ⟨t,s,A,y,o,m,l⟩:=qR f _ (n+1) 0 (by omega) (by omega) (by omega) (U (fun _=>rfl) (by omega)) C6 a Y b e;exact ⟨t,s,by omega,by omega,o,m,l⟩
  ·rw [l_ g] at e;by_cases S:kAt key p (n-1)<kAt key p n
   ·rw [p_ S] at e;cases e;exact ⟨Gy _,rfl,m_ _,by omega,v,hd,h⟩
   ·rw [l_ S] at e;obtain ⟨t,s,A,y,o,m,l⟩:=qR f _ (n+1) (q+1) (by omega) (by omega) (by omega) (U (fun _=>rfl) (by omega)) (fun i h1 h2=>by
     show kAt key p i=kAt key p (n+1-1);rw [Nat.add_sub_cancel];by_cases c:i=n
     ·rw [c]
     ·have:=h i (by omega) (by omega);omega) a Y b e
    exact ⟨t,s,by omega,by omega,o,m,l⟩
theorem wk (h1:1<=n) (b:n<=nrem) (a:nrem<=p.size) (hd:Down key p n):∀m J,d6 (ltK key) (LC n nrem p)=(m,J)->J.Perm p/\J.size=p.size/\1<=m/\m<=nrem/\Up key J m:=by
 intro m J e;unfold LC at e;rw [gB] at e;cases e;have S:Up key (Gr p 0 n) n:=fun i j U c=>by
  rw [mR (by omega),mR (by omega),p_ ⟨Dg _,by omega⟩,p_ ⟨Dg _,by omega⟩];exact hd _ _ (by omega) (by omega)
 obtain ⟨f,d,Y,_⟩:=C5 (key:=key) (Gr p 0 n) (nrem-n) n h1 S;exact ⟨eN,gN,by omega,by omega,Y⟩
theorem ng (h1:1<=n) (A:n+1<=nrem) (z:nrem<=p.size) (J:∀i,i<n->kAt key p i=kAt key p (n-1)) (w:kAt key p n<kAt key p (n-1)):∀m U,d6 (ltK key) (JI n nrem p)=(m,U)->U.Perm p/\U.size=p.size/\1<=m/\m<=nrem/\Up key U m:=by
 intro m U e;unfold JI at e;rw [gB] at e;obtain ⟨r,S,q2⟩:∃r S q2,d6 (ltK key) (GC (nrem-(n+1)) p (n+1) 0)=(r,S,q2):=⟨_,_,_,rfl⟩
 obtain ⟨q2,s⟩:=q2;rw [s] at e;obtain ⟨v,u,C,B,y,t,x⟩:=qR (key:=key) (nrem-(n+1)) p (n+1) 0 (by omega) (by omega) (by omega) (fun i j Y o=>by
  by_cases a:j<n
  ·rw [J i (by omega),J j a];exact Eo _
  ·have:j=n:=by omega
   subst this;by_cases b:i=j
   ·rw [b];exact Eo _
   ·rw [J i (by omega)];omega) C6 r S q2 s
 by_cases l:q2>0
 ·simp only [p_ l] at e;have k:=sC (key:=key) (p:=r) (n:=S) (q:=q2) (by omega) x y;obtain ⟨h,g,f,d,c⟩:=wk (key:=key) (p:=Gr r (S-(q2+1)) S) (n:=S) (nrem:=nrem) (by omega) (by omega) (by rw [gN];omega) (fun i j Y o=>by rw [k,k];exact t i j Y o) m U e;exact ⟨h.trans (eN.trans v),by rw [g,gN,u],f,d,c⟩
 ·simp only [l_ l] at e;obtain ⟨h,g,f,d,c⟩:=wk (key:=key) (p:=r) (n:=S) (nrem:=nrem) (by omega) (by omega) (by omega) t m U e;exact ⟨h.trans v,by rw [g,u],f,d,c⟩
theorem count_ok (h1:1<=nrem) (h:nrem<=p.size):∀m J,d6 (ltK key) (LD nrem p)=(m,J)->J.Perm p/\J.size=p.size/\1<=m/\m<=nrem/\Up key J m:=by
 intro m J e;unfold LD at e;rw [gB] at e;obtain ⟨a,v,U,g⟩:=C5 (key:=key) p (nrem-1) 1 (m_ _) (fun i j l y=>by rw [show i=j by omega];exact Eo _);obtain ⟨n,o⟩:∃n,d6 (ltK key) (G_ p (nrem-1) 1)=n:=⟨_,rfl⟩
 rw [o] at e a v U g;by_cases c:(n==nrem)=f_
 ·simp only [p_ c] at e;cases e;exact ⟨Gy _,rfl,a,by omega,U⟩
 ·simp only [l_ c] at e;have k:n≠nrem:=fun z=>c (by simp [z]);have S:=g (by omega);by_cases h2:n>1
  ·simp only [p_ h2] at e;have Y:d6 (ltK key) (if ltK key (p.getD 0 0) (p.getD (n-1) 0)=f_ then HR (n,p) else JI n nrem (Gr p 0 n))=(m,J):=e;by_cases f:kAt key p 0<kAt key p (n-1)
   ·rw [p_ (show ltK key (p.getD 0 0) (p.getD (n-1) 0)=f_ from Ff f)] at Y;cases Y;exact ⟨Gy _,rfl,a,by omega,U⟩
   ·rw [l_ (show ¬ltK key (p.getD 0 0) (p.getD (n-1) 0)=f_ from fun z=>f (EW z))] at Y;have d:∀i,i<n->kAt key p i=kAt key p (n-1):=fun i hi=>by
     have x:=U 0 i (by omega) hi;have w:=U i (n-1) (by omega) (by omega);omega
    have b:∀i,i<n->kAt key (Gr p 0 n) i=kAt key p (n-1):=fun i hi=>by
     rw [mR (by omega),p_ ⟨Dg _,hi⟩];exact d _ (by omega)
    obtain ⟨u,t,s,r,q⟩:=ng (key:=key) (p:=Gr p 0 n) (n:=n) (nrem:=nrem) a (by omega) (by rw [gN];omega) (fun i hi=>by rw [b i hi,b (n-1) (by omega)]) (by
     rw [b (n-1) (by omega),mR (by omega),l_ (by omega)];exact S) m J Y
    exact ⟨u.trans eN,by rw [t,gN],s,r,q⟩
  ·simp only [l_ h2] at e;have:n=1:=by omega
   subst this;exact ng (key:=key) (m_ _) (by omega) h (fun i hi=>by rw [show i=1-1 by omega]) S m J e
theorem qi {k:Nat} (U:Up key p k):∀(f l r:Nat),r<=k->r-l<=f->l<=r->(∀i,i<l->kAt key p i<=kAt key p k)->(∀i,r<=i->i<k->kAt key p k<kAt key p i) ->
  d6 (ltK key) (EU p k f l r)<=k/\(∀i,i<d6 (ltK key) (EU p k f l r)->kAt key p i<=kAt key p k)/\∀i,d6 (ltK key) (EU p k f l r)<=i->i<k->kAt key p k<kAt key p i
 |0,l,r,Y,d,a,h1,h2=>by
  have:l=r:=by omega
  subst this;exact ⟨Y,h1,h2⟩
 |f+1,l,r,Y,d,a,h1,h2=>by
  by_cases S:l>=r
  ·have:l=r:=by omega
   subst this;have e:d6 (ltK key) (EU p k (f+1) l l)=l:=by
    show d6 (ltK key) (if l>=l then HR l else _)=l;rw [p_ S];rfl
   rw [e];exact ⟨Y,h1,h2⟩
  ·have e:d6 (ltK key) (EU p k (f+1) l r)=if kAt key p k<kAt key p ((l+r)/2) then d6 (ltK key) (EU p k f l ((l+r)/2)) else d6 (ltK key) (EU p k f ((l+r)/2+1) r):=by
    show d6 (ltK key) (if l>=r then HR l else .ask (p.getD k 0) (p.getD ((l+r)/2) 0) fun c=>if c=f_ then EU p k f l ((l+r)/2) else EU p k f ((l+r)/2+1) r)=_;rw [l_ S];show d6 (ltK key) (if ltK key (p.getD k 0) (p.getD ((l+r)/2) 0)=f_ then EU p k f l ((l+r)/2) else EU p k f ((l+r)/2+1) r)=_;by_cases J:kAt key p k<kAt key p ((l+r)/2)
    ·rw [p_ (show ltK key (p.getD k 0) (p.getD ((l+r)/2) 0)=f_ from Ff J),p_ J]
    ·rw [l_ (show ¬ltK key (p.getD k 0) (p.getD ((l+r)/2) 0)=f_ from fun z=>J (EW z)),l_ J]
   rw [e];by_cases J:kAt key p k<kAt key p ((l+r)/2)
   ·rw [p_ J];exact qi U f l ((l+r)/2) (by omega) (by omega) (by omega) h1 fun i hi b=>by
     have:=U ((l+r)/2) i hi b;omega
   ·rw [l_ J];exact qi U f ((l+r)/2+1) r Y (by omega) (by omega) (fun i hi=>by
     have:=U i ((l+r)/2) (by omega) (by omega);omega) h2
theorem bin_ok:∀(f:Nat) (p:Array Nat) (k:Nat),k+f<=p.size->Up key p k->(d6 (ltK key) (Kt f p k)).Perm p/\Up key (d6 (ltK key) (Kt f p k)) (k+f)
 |0,p,k,g,S=>⟨Gy _,S⟩
 |f+1,p,k,g,S=>by
  have e:d6 (ltK key) (Kt (f+1) p k)=d6 (ltK key) (Kt f (bubble p k (k-d6 (ltK key) (EU p k k 0 k))) (k+1)):=by
   show d6 (ltK key) ((EU p k k 0 k).bind fun l=>Kt f (bubble p k (k-l)) (k+1))=_;rw [gB]
  rw [e];obtain ⟨q,c,b⟩:=qi S k 0 k (m_ _) (by omega) (Dg _) (fun i hi=>Cj hi (JN _)) (fun i h1 h2=>by omega);obtain ⟨l,m⟩:∃l,d6 (ltK key) (EU p k k 0 k)=l:=⟨_,rfl⟩
  rw [m] at q c b ⊢;have a:=kAt_bub (key:=key) (p:=p) (src:=k) (d:=k-l) (by omega) (by omega);obtain ⟨o,n⟩:=bin_ok f (bubble p k (k-l)) (k+1) (by rw [bubble_size];omega) (fun i j h r=>by
   have e1:k-(k-l)=l:=by omega
   rw [a,a,e1];by_cases hi:i=l
   ·rw [p_ hi];by_cases J:j=l
    ·rw [p_ J];exact Eo _
    ·rw [l_ J,p_ (by omega)];have:=b (j-1) (by omega) (by omega);omega
   ·rw [l_ hi];by_cases J:j=l
    ·rw [p_ J,l_ (by omega)];exact c i (by omega)
    ·rw [l_ J];by_cases Y:l<i/\i<=k
     ·rw [p_ Y,p_ (by omega)];exact S _ _ (by omega) (by omega)
     ·rw [l_ Y];by_cases U:l<j/\j<=k
      ·rw [p_ U];exact S _ _ (by omega) (by omega)
      ·rw [l_ U];exact S _ _ (by omega) (by omega))
  exact ⟨o.trans (bubble_perm _ _ _),by rw [show k+(f+1)=k+1+f by omega];exact n⟩
theorem pN (h1:1<=n):(d6 (ltK key) (EM n)).toList.Perm (Cc n)/\Up key (d6 (ltK key) (EM n)) n:=by
 unfold EM;rw [gB];obtain ⟨m,J,U⟩:∃m J,d6 (ltK key) (LD n (ND (Cc n)))=(m,J):=⟨_,_,rfl⟩
 rw [U];obtain ⟨b,e,g,f,a⟩:=count_ok (key:=key) (p:=ND (Cc n)) h1 (by simp) m J U;have hsz:J.size=n:=by rw [e];simp
 by_cases S:m<n
 ·simp only [p_ S];have c:max m 1=m:=by omega
  rw [c];obtain ⟨d,Y⟩:=bin_ok (key:=key) (n-m) J m (by omega) a;refine ⟨?_,by rw [show m+(n-m)=n by omega] at Y;exact Y⟩
  have:=GY.mp (d.trans b);simpa using this
 ·simp only [l_ S];have:m=n:=by omega
  subst this;refine ⟨?_,a⟩
  have:=GY.mp b;show J.toList.Perm _;simpa using this
end
section
open PySem.W
def xy (n:Nat) (R:α->Prop):KasT α->Prop
 |.ret a=>R a
 |.ask i j k=>i<n/\j<n/\∀b,xy n R (k b)
theorem gI {R:α->Prop} {S:β->Prop} {f:α->KasT β} (J:∀a,R a->xy n S (f a)):∀t:KasT α,xy n R t->xy n S (t.bind f)
 |.ret a,h=>J a h
 |.ask i j k,h=>⟨h.1,h.2.1,fun b=>gI J (k b) (h.2.2 b)⟩
theorem oM {lt:Nat->Nat->Bool} {R:α->Prop} {J:Nat->Nat->(Bool->t_->Prop)->t_->Prop} {s:t_} (S:∀i j (C:Bool->t_->Prop),i<n->j<n->C (lt i j) s->J i j C s) {Q:α->t_->Prop}:∀t:KasT α,xy n R t->Q (d6 lt t) s->t.kasWp J Q s
 |.ret _,_,h=>h
 |.ask i j k,r,h=>S i j _ r.1 r.2.1 (oM S (k (lt i j)) (r.2.2 _) h)
def InB (n:Nat) (p:Array Nat):Prop:=∀x,p.getD x 0<n
theorem iY {p q:Array Nat} (Y:0<n) (U:InB n p) (h:q.Perm p):InB n q:=fun x=>by
 rw [D4];cases e:q[x]? with
 |none=>exact Y
 |some v=>
  have hv:v∈q.toList:=by
   rw [<- CU] at e;exact E4 e
  have J:v∈p.toList:=(GY.mp h).mem_iff.mp hv;obtain ⟨y,S,a⟩:=Iw J;have:=U y;rw [D4,<- CU,Cr S,a] at this;exact this
variable {p:Array Nat}
theorem rA (J:InB n p):∀f m,xy n (fun _=>True) (G_ p f m)
 |0,_=>MK
 |f+1,m=>⟨J _,J _,fun b=>by
  (try dsimp only)
  split
  ·trivial
  ·exact rA J f (m+1)⟩
theorem ko (S:0<n):∀(f:Nat) (p:Array Nat) (m q:Nat),InB n p->xy n (fun r=>InB n r.1) (GC f p m q)
 |0,p,_,_,J=>J
 |f+1,p,m,q,J=>⟨J _,J _,fun b=>by
  (try dsimp only)
  split
  ·split
   ·exact ko S f _ _ _ (iY S J eN)
   ·exact ko S f _ _ _ J
  ·refine ⟨J _,J _,fun c=>?_⟩
   (try dsimp only)
   split
   ·exact J
   ·exact ko S f _ _ _ J⟩
theorem pD (S:0<n) (J:InB n p) (m r:Nat):xy n (fun r=>InB n r.2) (LC m r p):=by
 unfold LC;refine gI (n:=n) (R:=fun _=>True) (f:=fun k=>HR (k,Gr p 0 m)) (fun a _=>?_) _ (rA (iY S J eN) _ _);exact iY S J eN
theorem kn (J:0<n) (U:InB n p) (m r:Nat):xy n (fun r=>InB n r.2) (JI m r p):=by
 refine gI (R:=fun r=>InB n r.1) (fun a S=>?_) _ (ko J _ _ _ _ U)
 (try dsimp only)
 split
 ·exact pD J (iY J S eN) _ _
 ·exact pD J S _ _
theorem zm (S:0<n) (J:InB n p) (r:Nat):xy n (fun r=>InB n r.2) (LD r p):=by
 refine gI (R:=fun _=>True) (fun a _=>?_) _ (rA J _ _)
 (try dsimp only)
 split
 ·exact J
 ·split
  ·refine ⟨J _,J _,fun b=>?_⟩
   (try dsimp only)
   split
   ·exact J
   ·exact kn S (iY S J eN) _ _
  ·exact kn S J _ _
theorem l3 (J:InB n p) (k:Nat):∀f l r,xy n (fun _=>True) (EU p k f l r)
 |0,_,_=>MK
 |f+1,l,r=>by
  show xy n (fun _=>True) (if l>=r then HR l else _);split
  ·trivial
  ·refine ⟨J _,J _,fun b=>?_⟩
   (try dsimp only)
   split
   ·exact l3 J k f _ _
   ·exact l3 J k f _ _
theorem xw (S:0<n):∀(f:Nat) (p:Array Nat) (k:Nat),InB n p->xy n (fun _=>True) (Kt f p k)
 |0,_,_,_=>MK
 |f+1,p,k,J=>gI (R:=fun _=>True) (fun l _=>xw S f _ _ (iY S J (bubble_perm _ _ _))) _ (l3 J k _ _ _)
theorem C4 (J:0<n):xy n (fun _=>True) (EM n):=by
 refine gI (R:=fun r=>InB n r.2) (fun a S=>?_) _ (zm J (fun x=>?_) _)
 ·(try dsimp only)
  split
  ·exact xw J _ _ _ S
  ·trivial
 ·rw [D4];simp only [K3];cases e:(Cc n)[x]? with
  |none=>exact J
  |some v=>exact CO.mp (E4 e)
end
section
open PySem.W
variable {key:Nat->Int}
def il (key:Nat->Int) (vs:List i_):List i_:=if vs.length<2 then vs else (d6 (ltK key) (EM vs.length)).toList.map fun i=>vs.getD i CG
def Asks (prog:Cn) (w:Dv) (A:D0) (key:Nat->Int) (vs:List i_) (s':t_):Prop:=
 s_ (w_ prog w) A (keyKind' vs.toArray) (fun κ J=>J=s'/\∀i j (C:Bool->t_->Prop),i<vs.length->j<vs.length->C (ltK key i j) s'->kas_ask prog w A κ vs i j C s') (fun _ _=>False) s'
theorem mI {P:M5->t_->Prop} (k:s.heap.get? a=a_ (D6 "list" vs.toArray n)) (u:vs.length<64)
  (H:2<=vs.length->∀h1:CQ,(∀b o,b≠a->s.heap.get? b=a_ o->h1.get? b=a_ o)->Asks prog w A key vs {s with heap:=h1})
  (h:∀(h':CQ) (c:Nat),(∀b o,b≠a->s.heap.get? b=a_ o->h'.get? b=a_ o)->h'.get? a=a_ (D6 "list" (il key vs).toArray c)->P (.done (.ret .none)) {s with heap:=h'}) :
  s_ (w_ prog w) A (Builtin.«list.sort» ⟨[.ref a],[]⟩) P E s:=by
 have F:a<s.heap.objs.size:=o_ k;have m:=Du;obtain ⟨e1,f⟩:∃e1,(s.heap.update a (C8 fun _=>(#[]:Array i_))).get? a=a_ (D6 "list" #[] e1):=⟨_,get?_update_seq k fun _=>#[]⟩
 rw [list_sort_plain];refine b_ (listItems_at k rfl (b_ (Li k rfl (b_ (MD f rfl (b_ (wpAny_newTuple (b_ (Jj (Dj ?_) (Dg _))) (by show vs.length<=_;omega))))) (by rw [z_];omega) (Dg _))));have U:∀b o,b≠a->s.heap.get? b=a_ o->(((s.heap.update a (C8 fun _=>(#[]:Array i_))).push (D6 "tuple" vs.toArray 0)).push (D6 "list" #[] 0)).get? b=a_ o:=fun b o l q=>
  g_ _ (g_ _ ((Ce _ _ (CV l)).trans q))
 have S:(((s.heap.update a (C8 fun _=>(#[]:Array i_))).push (D6 "tuple" vs.toArray 0)).push (D6 "list" #[] 0)).get? a=a_ (D6 "list" #[] e1):=g_ _ (g_ _ f);show s_ (w_ prog w) A _ P E {s with heap:=((s.heap.update a (C8 fun _=>(#[]:Array i_))).push (D6 "tuple" vs.toArray 0)).push (D6 "list" #[] 0)};dsimp only;have g:∀(d:List i_),d=il key vs->P (.done (.ret .none)) {s with heap:=(((s.heap.update a (C8 fun _=>(#[]:Array i_))).push (D6 "tuple" vs.toArray 0)).push (D6 "list" #[] 0)).update a (C8 fun _=>d.toArray)}:=fun d e=>by
  subst e;exact h _ _ (fun b o l q=>(Ce _ _ (CV l)).trans (U b o l q)) (get?_update_seq S fun _=>(il key vs).toArray)
 by_cases h2:vs.toArray.size<2
 ·rw [p_ h2,p_ h2];refine b_ (e_ ?_);rw [StateT.run_pure];refine b_ (e_ ?_);dsimp only;have Y:vs.length<2:=by simpa using h2
  have e:(arrOf (NB general' (vs.toArray.zip vs.toArray) #[] 7 d_)).map (·.2)=vs.toArray:=by
   show (vs.toArray.zip vs.toArray).map (·.2)=vs.toArray;apply Array.toList_inj.mp;simp only [Array.toList_map,Array.toList_zip];exact List.map_snd_zip (m_ _)
  rw [e];refine b_ (MD S rfl (b_ (Li S rfl ?_ (Dg _) (by show vs.length<=_;omega))));have e3:failedOf (NB general' (vs.toArray.zip vs.toArray) #[] 7 d_)=d_:=rfl;simp only [e3,K8,Dd,ER];exact e_ (g vs (by unfold il;rw [p_ Y]))
 ·rw [l_ h2,l_ h2];have Y:2<=vs.length:=by rw [z_] at h2;omega
  refine b_ (Di (H Y _ U) (fun κ N ⟨es,y⟩=>?_) fun _ _ x=>x.elim);subst es;refine b_ (Di (kat_run (ks:=vs) (vs:=vs) (Q:=fun J s'=>s'={s with heap:=((s.heap.update a (C8 fun _=>(#[]:Array i_))).push (D6 "tuple" vs.toArray 0)).push (D6 "list" #[] 0)}/\(arrOf J).map (·.2)=(il key vs).toArray/\failedOf J=d_)
   (G:=fun p s'=>s'={s with heap:=((s.heap.update a (C8 fun _=>(#[]:Array i_))).push (D6 "tuple" vs.toArray 0)).push (D6 "list" #[] 0)}/\p=d6 (ltK key) (EM vs.length)) rfl Y u (fun p J s' _ t K z=>⟨z.1,?_,K⟩) (oM (n:=vs.length) (R:=fun _=>True) (fun i j C hi I L=>y i j C hi I L) _ (C4 (by omega)) ⟨rfl,rfl⟩)) (fun r s' B=>?_) fun _ _ x=>x)
  ·rw [kat_snds rfl t,z.2];unfold il;rw [l_ (by omega)]
  ·obtain ⟨⟨⟩,J⟩:=r;obtain ⟨es,e,v⟩:=B;have es:s'=_:=es;subst es;have e:(arrOf J).map (·.2)=(il key vs).toArray:=e;have v:failedOf J=d_:=v;dsimp only;rw [e];have D:(il key vs).length=vs.length:=by
    unfold il;split
    ·rfl
    ·rw [v_,(pN (key:=key) (n:=vs.length) (by omega)).1.length_eq,Eu]
   refine b_ (MD S rfl (b_ (Li S rfl ?_ (Dg _) (by show (il key vs).length<=_;omega))));simp only [v,K8,Dd,ER];exact e_ (g _ rfl)
theorem xO {Q:Vp} (g:s.heap.IsList l vs.toArray) (a:vs.length<64)
  (i:2<=vs.length->∀h1:CQ,(∀b o,s.heap.get? b=a_ o->h1.get? b=a_ o)->Asks prog w A.in1.in1 key vs {s with heap:=h1})
  (h:∀(h':CQ) (D:h_) (c:Nat),s.heap.objs.size<=D->(∀b o,s.heap.get? b=a_ o->h'.get? b=a_ o)->h'.get? D=a_ (D6 "list" (il key vs).toArray c)->Q (.ref D) {s with heap:=h'}) :
  s_ (w_ prog w) A (Gg (.builtin "sorted") [.ref l]) Q E s:=by
 have U:=Du;refine G5 ME LY LZ (L0 _) ?_;unfold Builtin.«sorted»;refine b_ (m:=MZ "sorted" 1 1 _) (e_ (b_ (collect_list g (b_ (Jj ?_ (by omega))) (by omega))));have d:((s.heap.push (D6 "list" #[] 0)).update s.heap.objs.size (C8 (·++vs.toArray))).objs.size=s.heap.objs.size+1:=by rw [FY,size_push']
 have e:(((s.heap.push (D6 "list" #[] 0)).update s.heap.objs.size (C8 (·++vs.toArray))).push (D6 "list" vs.toArray 0)).get? (s.heap.objs.size+1)=a_ (D6 "list" vs.toArray 0):=by rw [<- d];exact k_ _ rfl
 have J:∀b o,s.heap.get? b=a_ o->(((s.heap.push (D6 "list" #[] 0)).update s.heap.objs.size (C8 (·++vs.toArray))).push (D6 "list" vs.toArray 0)).get? b=a_ o:=fun b o q=>
  g_ _ ((Ce _ _ (Eb (o_ q))).trans (g_ _ q))
 show s_ _ _ _ _ _ {s with heap:=((s.heap.push (D6 "list" #[] 0)).update s.heap.objs.size (C8 (·++vs.toArray))).push (D6 "list" vs.toArray 0)};rw [d];have S:∀b o,s.heap.get? b=a_ o->b≠s.heap.objs.size+1:=fun b o q=>Cd (Ey (o_ q));refine b_ (Dj (CD KZ ⟨_,e,rfl⟩ Km (mI e a (fun h2 h1 Y=>i h2 h1 fun b o q=>Y b o (S b o q) (J b o q)) fun h' c f j=>⟨_,rfl,?_⟩) (K1 _)));exact e_ ⟨_,rfl,h h' _ c (Ee _) (fun b o q=>f b o (S b o q) (J b o q)) j⟩
end
noncomputable def insL {α:Type} (lt:α->α->Bool) (x:α):List α->List α
 |[]=>[x]
 |y::ys=>if lt y x=f_ then y::insL lt x ys else x::y::ys
def dq {α:Type} (lt:α->α->Bool):List α->List α
 |[]=>[]
 |x::xs=>insL lt x (dq lt xs)
noncomputable def ltZ (a b:Int):Bool:=Ca (a<b)
noncomputable def mL:List Int->List Int->Bool
 |[],[]=>c_
 |[],_::_=>f_
 |_::_,[]=>c_
 |a::as,b::bs=>if a=b then mL as bs else Ca (a<b)
noncomputable def aQ (t:List Int):Dat:=.tup (t.map .int)
def tupD:Dat->M (List Int)
 |.tup ds=>aV ds
 |_=>stk
def fK:List Dat->M (List (List Int))
 |[]=>.ok []
 |d::ds=>(tupD d).bind fun t=>(fK ds).bind fun r=>.ok (t::r)
def rY (ds:List Dat):M Dat:=if ds.length<64 then (match aV ds with
 |.ok is=>.ok (.lst ((dq ltZ is).map .int))
 |.error _=>(fK ds).bind fun ts=>if (ts.all fun t=> !t.isEmpty)=f_ then .ok (.lst ((dq mL ts).map aQ)) else stk) else stk
def kz:List Dat->M Dat
 |[.lst ds]=>rY ds
 |_=>stk
section
variable {lt:α->α->Bool}
structure Ord (lt:α->α->Bool):Prop where
 irr:∀a,lt a a=c_
 tr:∀a b c,lt a b=f_->lt b c=f_->lt a c=f_
 tot:∀a b,lt a b=c_->lt b a=c_->a=b
theorem ordZ:Ord ltZ:=⟨fun a=>by simp [ltZ],fun a b c h1 h2=>by simp [ltZ] at *;omega,fun a b h1 h2=>by simp [ltZ] at *;omega⟩
theorem Aw:Ord mL:=by
 refine ⟨fun a=>?_,fun a b c=>?_,fun a b=>?_⟩
 ·induction a with
  |nil=>rfl
  |cons x xs J=>simp [mL,J]
 ·induction a generalizing b c with
  |nil=>
   cases b with
   |nil=>intro h;simp [mL] at h
   |cons y ys=>
    intro _ h2;cases c with
    |nil=>simp [mL] at h2
    |cons z Y=>rfl
  |cons x xs J=>
   intro h1 h2;cases b with
   |nil=>simp [mL] at h1
   |cons y ys=>
    cases c with
    |nil=>simp [mL] at h2
    |cons z Y=>
     simp only [mL] at h1 h2 ⊢;by_cases e1:x=y
     ·subst e1;rw [p_ rfl] at h1;by_cases e2:x=z
      ·rw [p_ e2] at h2 ⊢;exact J _ _ h1 h2
      ·rw [l_ e2] at h2 ⊢;exact h2
     ·rw [l_ e1] at h1;have U:x<y:=EW h1;by_cases e2:y=z
      ·subst e2;rw [l_ e1];exact h1
      ·rw [l_ e2] at h2;have S:y<z:=EW h2;rw [l_ (by omega)];exact Ff (by omega)
 ·induction a generalizing b with
  |nil=>
   cases b with
   |nil=>intros;rfl
   |cons y ys=>intro h;simp [mL] at h
  |cons x xs J=>
   cases b with
   |nil=>intro _ h;simp [mL] at h
   |cons y ys=>
    intro h1 h2;simp only [mL] at h1 h2;by_cases e1:x=y
    ·subst e1;rw [p_ rfl] at h1 h2;rw [J _ h1 h2]
    ·rw [l_ e1] at h1;rw [l_ (fun z=>e1 z.symm)] at h2;have U:=Ie h1;have S:=Ie h2;omega
theorem mV (x:α):∀l:List α,(insL lt x l).Perm (x::l)
 |[]=>Ei _
 |y::ys=>by
  rw [insL];split
  ·exact ((mV x ys).cons y).trans (Ji x y ys)
  ·exact Ei _
theorem cb:∀l:List α,(dq lt l).Perm l
 |[]=>Ei _
 |x::xs=>(mV x _).trans ((cb xs).cons x)
theorem Ord.le_trans (o:Ord lt) {a b c:α} (h1:lt b a=c_) (h2:lt c b=c_):lt c a=c_:=by
 cases h:lt c a with
 |false=>rfl
 |true=>
  cases J:lt b c with
  |true=>rw [o.tr b c a J h] at h1;cases h1
  |false=>
   have:=o.tot c b h2 J;subst this;rw [h] at h1;cases h1
theorem Ord.asym (o:Ord lt) {a b:α} (h:lt a b=f_):lt b a=c_:=by
 cases h2:lt b a with
 |false=>rfl
 |true=>have:=o.tr a b a h h2;rw [o.irr] at this;cases this
theorem mU (o:Ord lt) (x:α):∀l:List α,l.Pairwise (fun a b=>lt b a=c_)->(insL lt x l).Pairwise (fun a b=>lt b a=c_)
 |[],_=>by simp [insL]
 |y::ys,h=>by
  rw [insL];rw [Ej] at h;split
  ·rename_i S;rw [Ej];refine ⟨fun b U=>?_,mU o x ys h.2⟩
   rcases r_.mp ((mV x ys).mem_iff.mp U) with e|e
   ·rw [e];exact o.asym S
   ·exact h.1 b e
  ·rename_i S;have J:lt y x=c_:=by simpa using S
   rw [Ej,Ej];refine ⟨fun b U=>?_,h⟩
   rcases r_.mp U with e|e
   ·rw [e];exact J
   ·exact o.le_trans J (h.1 b e)
theorem cY (o:Ord lt):∀l:List α,(dq lt l).Pairwise (fun a b=>lt b a=c_)
 |[]=>F_
 |x::xs=>mU o x _ (cY o xs)
theorem jv (o:Ord lt):∀{l m:List α},l.Perm m->l.Pairwise (fun a b=>lt b a=c_)->m.Pairwise (fun a b=>lt b a=c_)->l=m
 |[],m,h,_,_=>(List.Perm.nil_eq h)
 |a::l,m,h,h1,h2=>by
  cases m with
  |nil=>exact Cj h.symm (by simp)
  |cons b m=>
   rw [Ej] at h1 h2;have e:a=b:=by
    rcases r_.mp (h.mem_iff.mp Cz) with e|e
    ·exact e
    ·rcases r_.mp (h.mem_iff.mpr Cz) with e2|e2
     ·exact e2.symm
     ·exact o.tot a b (h2.1 a e) (h1.1 b e2)
   subst e;rw [jv o (List.Perm.cons_inv h) h1.2 h2.2]
end
section
open PySem.W
variable {lt:α->α->Bool}
theorem getD_get {l:List α} {d:α} (h:i<l.length):l.getD i d=l[i]:=by simp [h]
noncomputable def rk (lt:α->α->Bool) (J:List α) (d:α) (i:Nat):Int:=((J.filter fun z=>lt z (J.getD i d)).length:Int)
theorem filter_lt {p q:α->Bool} (h:∀z,p z=f_->q z=f_):∀l:List α,(l.filter p).length<=(l.filter q).length/\((∃z∈l,p z=c_/\q z=f_)->(l.filter p).length<(l.filter q).length)
 |[]=>⟨m_ _,fun ⟨_,h,_⟩=>nomatch h⟩
 |x::xs=>by
  obtain ⟨a,Y⟩:=filter_lt h xs;cases S:p x with
  |true=>
   have J:=h x S;rw [Fd S,Fd J];refine ⟨by simp;exact a,fun ⟨z,U,e1,e2⟩=>?_⟩
   rcases r_.mp U with e|e
   ·rw [e,S] at e1;cases e1
   ·have:=Y ⟨z,e,e1,e2⟩;simp;exact this
  |false=>
   rw [Fe (by simp [S])];cases J:q x with
   |true=>
    rw [Fd J];exact ⟨by simp;omega,fun _=>by simp;omega⟩
   |false=>
    rw [Fe (by simp [J])];refine ⟨a,fun ⟨z,U,e1,e2⟩=>?_⟩
    rcases r_.mp U with e|e
    ·rw [e,J] at e2;cases e2
    ·exact Y ⟨z,e,e1,e2⟩
theorem rk_lt (o:Ord lt) {J:List α} {d:α} (hi:i<J.length) (U:j<J.length):ltK (rk lt J d) i j=lt (J.getD i d) (J.getD j d):=by
 unfold ltK rk;have a:J.getD i d∈J:=by rw [getD_get hi];exact D2 hi
 have b:J.getD j d∈J:=by rw [getD_get U];exact D2 U
 cases h:lt (J.getD i d) (J.getD j d) with
 |true=>
  refine Ff ?_;have:=(filter_lt (p:=fun z=>lt z (J.getD i d)) (q:=fun z=>lt z (J.getD j d)) (fun z S=>o.tr _ _ _ S h) J).2 ⟨_,a,o.irr _,h⟩;omega
 |false=>
  refine DU ?_;have:=(filter_lt (p:=fun z=>lt z (J.getD j d)) (q:=fun z=>lt z (J.getD i d)) (fun z S=>by
   cases Y:lt z (J.getD i d) with
   |true=>rfl
   |false=>
    have e:=o.le_trans h Y;rw [S] at e;cases e) J).1
  omega
theorem sO (o:Ord lt) (J:List α) (d:α) (h2:2<=J.length):(d6 (ltK (rk lt J d)) (EM J.length)).toList.map (fun i=>J.getD i d)=dq lt J:=by
 obtain ⟨h1,a⟩:=pN (key:=rk lt J d) (n:=J.length) (by omega);refine jv o ?_ ?_ (cY o J)
 ·refine (h1.map _).trans ?_;have:(Cc J.length).map (fun i=>J.getD i d)=J:=by
   apply Mj
   ·simp
   ·intro i f c;simp [c]
  rw [this];exact (cb J).symm
 ·rw [Ja,G8];intro i j hi Y b;have e:(d6 (ltK (rk lt J d)) (EM J.length)).toList.length=J.length:=by rw [h1.length_eq,Eu]
  have S:∀k (U:k<(d6 (ltK (rk lt J d)) (EM J.length)).toList.length),(d6 (ltK (rk lt J d)) (EM J.length)).toList[k]<J.length:=fun k U=>CO.mp (h1.mem_iff.mp (D2 U));have:=a i j (by omega) (by omega);unfold kAt at this;have g:∀k (U:k<(d6 (ltK (rk lt J d)) (EM J.length)).toList.length),(d6 (ltK (rk lt J d)) (EM J.length)).getD k 0=(d6 (ltK (rk lt J d)) (EM J.length)).toList[k]:=fun k U=>by
   rw [D4,<- CU,Cr U];rfl
  rw [g i hi,g j Y] at this;rw [<- rk_lt o (S j Y) (S i hi)];exact DU (by omega)
theorem mS:∀{J:List α},J.length<2->dq lt J=J
 |[],_=>rfl
 |[x],_=>rfl
 |_::_::_,h=>by simp at h;omega
variable {W:ck}
theorem vals_map (r:Vals xs us) (ps:List Nat) (J:∀i∈ps,i<xs.length):Vals (ps.map fun i=>xs.getD i .non) (ps.map fun i=>us.getD i .none):=by
 refine Vals.of_get (by simp) fun k v u h1 h2=>?_;rw [CC] at h1 h2;cases e:ps[k]? with
 |none=>rw [e] at h1;cases h1
 |some i=>
  rw [e] at h1 h2;simp only [Fo,Dy] at h1 h2;have hi:=J i (E4 e);have U:=r.length;obtain ⟨S,e1,q⟩:=r.get (i:=i) (x:=xs[i]) (by simp [hi]);rw [getD_get hi] at h1;rw [Dm,e1] at h2;rw [<- h1,<- h2];exact q
theorem wq (o:Ord lt) {Q:VK} {J:List α} {d0:α} {S:α->Dat} (I:Inv X pins σ H s) (u:aN F H) (t:SqL X.K F a xs) (r:au X.K F (J.map S) xs) (B:J.length<64)
  (A:∀its:List i_,Vals xs its->2<=its.length->∀h1:CQ,(∀b o,s.heap.get? b=a_ o->h1.get? b=a_ o)->Asks X.prog X.w X.A.in1.in1 (rk lt J d0) its {s with heap:=h1})
  (p:aw X.K W f_ F H (.ok (.lst ((dq lt J).map S))) Q):s_ (w_ X.prog X.w) X.A (Gg (.builtin "sorted") [.ref a]) (EP X pins σ Q) X.xe s:=by
 obtain ⟨its,g,pl,z⟩:=I.list (u.lst t);have E:=g.length;have y:=r.length;rw [v_] at y;refine xO (key:=rk lt J d0) pl.isList (by omega) (fun h2 h1 h=>A its g h2 h1 h) fun h' D c x h e=>?_;have key:∃ys,ys.length<=n_/\Vals ys (il (rk lt J d0) its)/\au X.K F ((dq lt J).map S) ys:=by
  unfold il;by_cases h2:its.length<2
  ·rw [p_ h2,mS (by omega)];exact ⟨xs,z,g,r⟩
  ·rw [l_ h2,show its.length=J.length by omega];obtain ⟨h1,_⟩:=pN (key:=rk lt J d0) (n:=J.length) (by omega);have Y:∀i∈(d6 (ltK (rk lt J d0)) (EM J.length)).toList,i<xs.length:=fun i hi=>by
    have:=CO.mp (h1.mem_iff.mp hi);omega
   refine ⟨(d6 (ltK (rk lt J d0)) (EM J.length)).toList.map fun i=>xs.getD i .non,?_,vals_map g _ Y,?_⟩
   ·rw [v_,h1.length_eq,Eu];omega
   ·rw [<- sO o J d0 (by omega),Cg];refine au.of_get (by simp) fun k dd v U f=>?_;rw [CC] at U f;cases ek:(d6 (ltK (rk lt J d0)) (EM J.length)).toList[k]? with
    |none=>rw [ek] at U;cases U
    |some i=>
     rw [ek] at U f;simp only [Fo,Dy,Fn] at U f;have hi:=Y i (E4 ek);obtain ⟨w,e1,q⟩:=r.get (i:=i) (d:=S (J[i]'(by omega))) (by simp [show i<J.length by omega]);rw [getD_get (show i<J.length by omega)] at U;rw [Dm,e1] at f;rw [<- U,<- f];exact q
 obtain ⟨ys,m,l,j⟩:=key;have C:Inv X pins σ (upd H D (.lst ys)) {s with heap:=h'}:=I.laid (t':=s.toks) h x (show bK X.prog X.w _ h' D (.lst ys) from ⟨m,_,c,l,e⟩);exact ⟨.ref D,_,C,rfl,p.lst u j (I.hok.fresh x)⟩
theorem rk_ints (is:List Int) (i j:Nat) (hi:i<is.length) (J:j<is.length):ltK (rk ltZ is 0) i j=Ca (is.getD i 0<is.getD j 0):=rk_lt ordZ hi J
theorem ui {is:List Int} (hi:E6 its is) (h2:2<=its.length):Asks prog w A (rk ltZ is 0) its s':=by
 have d:=hi.length;obtain ⟨U,S,rest,rfl⟩:∃U S rest,its=U::S::rest:=by
  match its,h2 with
  |U::S::rest,_=>exact ⟨U,S,rest,rfl⟩
 unfold Asks;rw [keyKind_ints hi];refine e_ ⟨rfl,fun i j C h1 h2 Y=>?_⟩;unfold kas_ask;obtain ⟨c,e1⟩:=J hi i h1;obtain ⟨b,e2⟩:=J hi j h2;rw [e1,e2];rw [rk_ints is i j (by omega) (by omega)] at Y;exact kat_lt_int Y
where
 J {vs:List i_} {ns:List Int} (h:E6 vs ns) (i:Nat) (hi:i<vs.length):∃t,vs.getD i CG=.int (ns.getD i 0) t:=by
  induction h generalizing i with
  |nil=>simp at hi
  |cons n t r a=>
   cases i with
   |zero=>exact ⟨t,rfl⟩
   |succ i=>obtain ⟨t',e⟩:=a i (by simpa using hi);exact ⟨t',by simpa using e⟩
noncomputable def lexF (f:Bool):List Int->List Int->Bool
 |a::as,b::bs=>if a=b then lexF f as bs else Ca (a<b)
 |_,_=>f
theorem wK:∀as bs:List Int,lexF (Ca (as.length<bs.length)) as bs=mL as bs
 |[],[]=>rfl
 |[],_::_=>by simp [lexF,mL]
 |_::_,[]=>by simp [lexF,mL]
 |a::as,b::bs=>by
  have:=wK as bs;simp only [lexF,mL,Ci,Nat.add_lt_add_iff_right];rw [this]
theorem mQ {prog:Cn} {w:Dv} {A:D0} {s':t_} {f:Bool} {Q:Bool->t_->Prop}:∀{us vs:List i_} {as bs:List Int} (i:Nat),E6 us as->E6 vs bs->Q (lexF f as bs) s'->KatLex prog w A f_ f Q (us.zip vs) i s'
 |_,_,_,bs,_,.nil,_,h=>kat_nil (by cases bs<;>exact h)
 |_,_,_,_,_,.cons a t r,.nil,h=>kat_nil h
 |_,_,_,_,i,.cons a t r,.cons b u r',h=>by
  show KatLex prog w A f_ f Q ((.int a t,.int b u)::(_:List (i_×i_))) i s';refine kat_cons (SeqAt.EqAt.int_int a t b u _ _ _ _ ?_);by_cases e:a=b
  ·rw [show (a==b)=f_ by simpa using e];rw [lexF,p_ e] at h;exact kat_yes (mQ (i+1) r r' h)
  ·rw [show (a==b)=c_ by simpa using e];rw [lexF,l_ e] at h;refine kat_no ?_;cases J:(f_&&i==0) with
   |true=>exact oneLt_int h
   |false=>exact kat_one _ _ (lt_int h)
theorem C3 {ts:List (List Int)} (I:Inv X pins σ H s) (N:aN F H) (r:au X.K F (ts.map aQ) xs) (c:(ts.all fun t=> !t.isEmpty)=f_) (g:Vals xs its) (h2:2<=its.length)
  (E:∀b o,s.heap.get? b=a_ o->h1.get? b=a_ o):Asks X.prog X.w A (rk mL ts []) its {s with heap:=h1}:=by
 have l1:=g.length;have D:=r.length;rw [v_] at D;have J:∀i,i<its.length->∃(l:h_) (S:GX) (us:List i_) (n:Nat),its.getD i CG=.ref l/\h1.get? l=a_ S/\S.cls=.type "tuple"/\S.data=.seq us.toArray n/\E6 us (ts.getD i []):=fun i hi=>by
  obtain ⟨v,e1,l,ys,e2,y,B⟩:=r.get (i:=i) (d:=aQ (ts[i]'(by omega))) (by simp [show i<ts.length by omega]);subst e2;obtain ⟨u,e3,Y⟩:=g.get e1;cases Y;obtain ⟨us,Y,pl,_⟩:=I.tuple (N.tup y);obtain ⟨S,Q,P,n,O⟩:=pl;have e4:ys=(ts[i]'(by omega)).map V.int:=cD B (bT _);rw [e4] at Y;exact ⟨l,S,us,n,by rw [Dm,e3];rfl,E _ _ Q,P,O,by rw [getD_get (show i<ts.length by omega)];exact intsAre_of Y⟩
 have U:∀(k:Nat),k<=its.length->∃fs,KatTups h1 (its.drop (its.length-k)) fs/\fs.length=k/\∀v∈fs,∃i t,v=FU i t:=by
  intro k
  induction k with
  |zero=>intro _;exact ⟨[],by rw [NS,Gz];exact KatTups.nil,rfl,fun _ h=>nomatch h⟩
  |succ k G=>
   intro hk;obtain ⟨fs,q1,q2,a⟩:=G (by omega);have hi:its.length-(k+1)<its.length:=by omega
   obtain ⟨l,S,us,n,e1,e2,e3,e4,e5⟩:=J _ hi;have p:(ts.getD (its.length-(k+1)) [])≠[]:=by
    rw [getD_get (show its.length-(k+1)<ts.length by omega)];have:=F8.mp c _ (D2 (show its.length-(k+1)<ts.length by omega));simpa using this
   obtain ⟨z,Z⟩:∃z,ts.getD (its.length-(k+1)) []=z:=⟨_,rfl⟩
   rw [Z] at e5 p;obtain ⟨f,fr,ef,L⟩:∃f fr,us=f::fr/\∃i t,f=FU i t:=by
    cases e5 with
    |nil=>exact Cj rfl p
    |cons m t r=>exact ⟨_,_,rfl,_,_,rfl⟩
   refine ⟨f::fs,?_,by simp [q2],fun v hv=>?_⟩
   ·rw [EY hi];rw [show its.length-(k+1)+1=its.length-k by omega];rw [getD_get hi] at e1;rw [e1];exact KatTups.cons e2 e3 e4 (by rw [ef];rfl) q1
   ·rcases r_.mp hv with e|e
    ·rw [e];exact L
    ·exact a v e
 obtain ⟨fs,q1,q2,a⟩:=U its.length (m_ _);rw [Nat.sub_self,Gu] at q1;unfold Asks;refine kat_kind (s:={s with heap:=h1}) (T:=.type "int") q1 (by omega) (fun v hv=>?_) rfl ⟨rfl,fun i j C hi K q=>?_⟩
 ·obtain ⟨i,t,e⟩:=a v hv;rw [e];exact Looks.of_pure rfl
 ·unfold kas_ask;obtain ⟨x1,o1,us,n1,e1,W,_,d1,x⟩:=J i hi;obtain ⟨x2,o2,vs,n2,e2,R,_,d2,w⟩:=J j K;rw [e1,e2];rw [rk_lt Aw (show i<ts.length by omega) (show j<ts.length by omega)] at q;refine kat_lt (s:={s with heap:=h1}) W d1 R d2 (mQ 0 x w ?_);rw [z_,z_,x.length,w.length,wK];exact q
theorem wg {F:Hp} {t:List Int} (h:tupD d=.ok t):d=aQ t:=by
 cases d with
 |tup ds=>
  have:∀{ds:List Dat} {t:List Int},aV ds=.ok t->ds=t.map .int:=by
   intro ds
   induction ds with
   |nil=>intro t h;cases h;rfl
   |cons d ds J=>
    intro t h;cases d with
    |int i=>
     cases e:aV ds with
     |error x=>simp only [aV,asI,ar,e,gX] at h;cases h
     |ok r=>
      simp only [aV,asI,ar,e] at h;cases h;rw [J e];rfl
    |_=>cases h
  unfold aQ;rw [this h]
 |_=>cases h
theorem B8:∀{ds:List Dat} {t:List Int},aV ds=.ok t->ds=t.map .int:=fun {ds t} h=>by
 have:=wg (F:=fun _=>d_) (d:=.tup ds) (t:=t) h;unfold aQ at this;injection this
theorem mf:∀{ds:List Dat} {ts:List (List Int)},fK ds=.ok ts->ds=ts.map aQ
 |[],_,h=>by cases h;rfl
 |d::ds,ts,h=>by
  cases e:tupD d with
  |error x=>simp only [fK,e,gX] at h;cases h
  |ok t=>
   cases e2:fK ds with
   |error x=>simp only [fK,e,ar,e2,gX] at h;cases h
   |ok r=>
    simp only [fK,e,ar,e2] at h;cases h;rw [wg (F:=fun _=>d_) e,mf e2];rfl
theorem mh:∀{ds:List Dat} {e:Err},fK ds=.error e->e=.stuck
 |[],_,h=>by cases h
 |d::ds,e,h=>by
  cases e1:tupD d with
  |error x=>
   simp only [fK,e1,gX] at h;cases h;cases d with
   |tup ds=>exact du e1
   |_=>cases e1;rfl
  |ok t=>
   cases e2:fK ds with
   |error x=>simp only [fK,e1,ar,e2,gX] at h;cases h;exact mh e2
   |ok r=>simp only [fK,e1,ar,e2] at h;cases h
theorem c_sorted (n: ~~~(X.K=K)):lU K W f_ X (.builtin "sorted") kz:=by
 subst n;intro pins s σ H xs us Q I m h;obtain ⟨F,d,x,g,e,q,p⟩:=kE (fun ds=>by match ds with|[d]=>exact .inl ⟨d,rfl⟩|[]=>exact .inr rfl|a::b::c=>exact .inr (by cases a<;>rfl)) h;subst e;obtain ⟨u,rfl,l⟩:=m.one;cases d with
 |lst ds=>
  obtain ⟨a,ys,e1,t,r⟩:=q;subst e1;cases l;have S:aw X.K W f_ F H (rY ds) Q:=p;unfold rY at S;by_cases J:ds.length<64
  ·rw [p_ J] at S;cases f:aV ds with
   |ok is=>
    rw [f] at S;have j:=B8 f;subst j;refine wq ordZ (d0:=0) I g t r (by simpa using J) (fun its i h2 h1 k=>?_) S;have e2:ys=is.map V.int:=cD r f;subst e2;exact ui (intsAre_of i) h2
   |error z=>
    rw [f] at S;have p2:aw X.K W f_ F H ((fK ds).bind fun ts=>if (ts.all fun t=> !t.isEmpty)=f_ then .ok (.lst ((dq mL ts).map aQ)) else stk) Q:=S;cases Y:fK ds with
    |error o=>rw [Y] at p2;have:=mh Y;subst this;exact aw.stuck p2
    |ok ts=>
     rw [Y] at p2;have j:=mf Y;subst j;have p3:aw X.K W f_ F H (if (ts.all fun t=> !t.isEmpty)=f_ then .ok (.lst ((dq mL ts).map aQ)) else stk) Q:=p2;by_cases U:(ts.all fun t=> !t.isEmpty)=f_
     ·rw [p_ U] at p3;exact wq Aw (d0:=[]) I g t r (by simpa using J) (fun its i h2 h1 k=>C3 I g r U i h2 k) p3
     ·rw [l_ U] at p3;exact aw.stuck p3
  ·rw [l_ J] at S;exact aw.stuck S
 |_=>exact aw.stuck p
end
noncomputable def cX (n d:Nat):Option Int->Nat
 |none=>d
 |some v=>if v<0 then (v+(n:Int)).toNat else min v.toNat n
def BD (xs:List α) (lo hi:Option Int):List α:=(xs.drop (cX xs.length 0 lo)).take (cX xs.length xs.length hi-cX xs.length 0 lo)
def ie:Dat->Option Int->Option Int->M Dat
 |.lst ds,lo,hi=>.ok (.lst (BD ds lo hi))
 |.tup ds,lo,hi=>if (Ca (cX ds.length 0 lo=0)&&Ca (cX ds.length ds.length hi=ds.length))=f_ then stk else .ok (.tup (BD ds lo hi))
 |_,_,_=>stk
noncomputable def uZ:ah->M (Option Int):=fun _=>.ok d_
def mB (f:ah->M Dat):ah->M (Option Int):=fun ρ=>(f ρ).bind fun d=>(asI d).bind fun i=>.ok (a_ i)
noncomputable def fSl (g:Dat->Option Int->Option Int->M Dat) (fa:ah->M Dat) (fl fu:ah->M (Option Int)):ah->M Dat:=fun ρ=>(fa ρ).bind fun a=>(fl ρ).bind fun l=>(fu ρ).bind fun u=>g a l u
def extD (ρ:ah) (i:Nat) (ds:List Dat):Dat->M Flo
 |.lst es=>if ds.length+es.length<=n_ then put ρ i (ds++es) else stk
 |_=>stk
def sExt (O:List Nat) (i:Nat) (f:ah->M Dat):ah->M Flo:=fun ρ=>(ib ρ i).bind fun ds=>(f (erase O ρ)).bind fun d=>extD ρ i ds d
def isBD:Dat->Dat->M Dat
 |.bl a,.bl b=>.ok (.bl (a==b))
 |.non,.bl _=>.ok (.bl c_)
 |.int _,.bl _=>.ok (.bl c_)
 |.str _,.bl _=>.ok (.bl c_)
 |.lst _,.bl _=>.ok (.bl c_)
 |.tup _,.bl _=>.ok (.bl c_)
 |_,_=>stk
section
variable {W:ck} {own:Bool} {a b d:Dr} {lo hi:Option Dr} {r t u:Nu} {f:ah->M Dat} {fu:ah->M (Option Int)} 
def tDO (K:Fg) (W:ck) (f:ah->M (Option Int)):TO:=fun σ H Q=>∃F ρ,jJ K F σ ρ/\aN F H/\(match f ρ with
 |.ok o=>∀F' H',Step F H F' H'->Q o H'
 |.error e=>W.p e F H)
theorem zL {R:Option Int->Hp->Prop} (r:jJ K F σ ρ) (s:aN F H) (S:∀e,fl ρ=.error e->W.p e F H) (J:∀o,fl ρ=.ok o->∀F1 H1,Step F H F1 H1->R o H1):tDO K W fl σ H R:=by
 refine ⟨F,ρ,r,s,?_⟩
 cases e:fl ρ with
 |ok d=>exact J d e
 |error x=>exact S x e
abbrev DP (K:Fg) (W:ck) (X:Cx) (e:Option Dr) (f:ah->M (Option Int)):Prop:=PO X e (tDO K W f)
theorem PO.imp {t t':TO} (h:PO X lo t) (q:∀σ H Q,t' σ H Q->t σ H Q):PO X lo t':=fun pins s σ H Q I z=>h pins s σ H Q I (q σ H Q z)
theorem vz:DP K W X d_ uZ:=po_none.imp fun σ H Q ⟨F,ρ,r,s,p⟩=>p F H (Step.refl s)
theorem vy (h:DE K W c_ X e f):DP K W X (a_ e) (mB f):=(po_some h).imp fun σ H Q ⟨F,ρ,r,s,p⟩=>by
 refine aI r s (fun e S=>?_) fun d hd v F1 H1 J q1=>?_
 ·have z:mB f ρ=.error e:=by unfold mB;rw [S];rfl
  rw [z] at p;exact p
 ·have z:mB f ρ=(asI d).bind fun i=>.ok (a_ i):=by unfold mB;rw [hd];rfl
  rw [z] at p;cases d with
  |int i=>exact ⟨i,q1,p F1 H1 J⟩
  |_=>exact (W.ns p).elim
def rDS (K:Fg) (W:ck) (own:Bool) (g:Dat->Option Int->Option Int->M Dat):V->Option Int->Option Int->Hp->VK->Prop:=fun x lo hi H Q=>∃F a,aN F H/\aW K F a x/\aw K W own F H (g a lo hi) Q
theorem rd_sl {g:Dat->Option Int->Option Int->M Dat} {Q:VK} (h:tD K W own (fSl g fa fl fu) σ H Q):tSl (rDS K W own g) (tD K W c_ fa) (tDO K W fl) (tDO K W fu) σ H Q:=by
 obtain ⟨F,ρ,r,s,p⟩:=h;refine aI r s (fun e U=>p.err (by unfold fSl;rw [U];rfl)) fun a b x F1 H1 J q1=>?_;refine zL (r.mono J.ff) J.fh (fun e U=>(p.step J).err (by unfold fSl;rw [b];show (fl ρ).bind _=_;rw [U];rfl)) fun l c j H2 S=>?_;refine zL ((r.mono J.ff).mono S.ff) S.fh (fun e U=>(p.step (J.trans S)).err (by unfold fSl;rw [b];show (fl ρ).bind _=_;rw [c];show (fu ρ).bind _=_;rw [U];rfl)) fun u d f i Y=>?_;refine ⟨f,a,Y.fh,aW.mono (S.trans Y).ff q1,?_⟩
 have e:fSl g fa fl fu ρ=g a l u:=by unfold fSl;rw [b];show (fl ρ).bind _=_;rw [c];show (fu ρ).bind _=_;rw [d];rfl
 rw [e] at p;exact p.step ((J.trans S).trans Y)
theorem de_sl {g:Dat->Option Int->Option Int->M Dat} (S:SlR X (rDS K W own g)) (Y:DE K W c_ X a fa) (U:DP K W X lo fl) (J:DP K W X hi fu):DE K W own X (.Subscript a (.Slice lo hi d_ p2) pos) (fSl g fa fl fu):=(pe_slice S Y U J).imp fun _ _ _=>rd_sl
theorem xu (n d:Nat) (o:Option Int):cX n d o=HT.sIx n d o:=by cases o<;>rfl
theorem au.cut {l u:Option Int} (h:au K F ds xs):au K F (BD ds l u) (cutV xs l u):=by
 unfold BD cutV;rw [xu,xu,h.length];exact au.take _ (au.drop _ h)
theorem x_sl (j: ~~~(X.K=K)):SlR X (rDS K W f_ ie):=by
 subst j;intro pins s σ H x v d c lo hi sl Q I f i pl g h;refine (SlR.or sl_list sl_tup) pins s σ H x v d c lo hi sl Q I f i pl g ?_;obtain ⟨F,a,J,b,p⟩:=h;cases a with
 |lst ds=>
  obtain ⟨l,xs,e,t,z⟩:=b;exact .inl ⟨l,xs,e,J.lst t,fun r U=>aw.lst p J z.cut U⟩
 |tup ds=>
  obtain ⟨l,xs,e,t,z⟩:=b;have S:aw X.K W f_ F H (if (Ca (cX ds.length 0 lo=0)&&Ca (cX ds.length ds.length hi=ds.length))=f_ then stk else .ok (.tup (BD ds lo hi))) Q:=p;by_cases Y:(Ca (cX ds.length 0 lo=0)&&Ca (cX ds.length ds.length hi=ds.length))=f_
  ·rw [p_ Y] at S;exact S.stuck
  ·rw [l_ Y] at S;refine .inr ⟨l,xs,e,J.tup t,fun hw=>Y ?_,fun r U=>aw.tup S J z.cut U⟩;rw [xu,xu,<- z.length];simp only [u_,CK];exact hw
 |_=>exact aw.stuck p
theorem o_isB:Op2 K W own X (Dp .Is) isBD:=by
 intro pins s σ H x y v u Q I S Y h;obtain ⟨F,a,b,J,U,c,p⟩:=h;cases b with
 |bl k=>
  cases (show y=.bl k from c);cases Y;cases a with
  |bl j=>cases (show x=.bl j from U);cases S;exact is_bool (lr I (aw.bl p J) rfl)
  |non=>cases (show x=.non from U);cases S;exact e_ (lr I (aw.bl p J) rfl)
  |int j=>cases (show x=.int j from U);obtain ⟨t,rfl⟩:=S;exact e_ (lr I (aw.bl p J) rfl)
  |str j=>cases (show x=.str j from U);obtain ⟨t,rfl⟩:=S;exact e_ (lr I (aw.bl p J) rfl)
  |lst ds=>obtain ⟨l,xs,e,_⟩:=U;subst e;cases S;exact e_ (lr I (aw.bl p J) rfl)
  |tup ds=>obtain ⟨l,xs,e,_⟩:=U;subst e;cases S;exact e_ (lr I (aw.bl p J) rfl)
  |ins C fs=>exact aw.stuck p
  |dic ks=>exact aw.stuck p
  |dil ks=>exact aw.stuck p
 |_=>cases a<;>exact aw.stuck p
theorem rs_ext (hi:i∈O) (t:tS K W ro F0 H0 OL O O (sExt O i f) D σ H):tDrop (tBM K "list" A5 (tVar i) (ky (tD K W f_ f) zJ)) D σ H:=by
 obtain ⟨FB,F,ρ,r,p⟩:=t;cases J:ib ρ i with
 |error e=>
  have:=mH J;subst this;exact p.stuck (by unfold sExt;rw [J];rfl)
 |ok ds=>
  obtain ⟨a,xs,e2,c,z⟩:=r.AL hi (iW J);refine ⟨.ref a,e2,we c,?_⟩
  refine aI r.gO r.st.fh (fun e h=>p.fg r.st (by unfold sExt;rw [J];show (f (erase O ρ)).bind _=_;rw [h];rfl)) fun d hd v F1 H1 S q=>?_;have k:sExt O i f ρ=extD ρ i ds d:=by unfold sExt;rw [J];show (f (erase O ρ)).bind _=_;rw [hd];rfl
  rw [k] at p;cases d with
  |lst es=>
   obtain ⟨b,g,e3,j,_,_,Y⟩:=q;by_cases U:ds.length+es.length<=n_
   ·have ep:extD ρ i ds (.lst es)=put ρ i (ds++es):=p_ U;rw [ep] at p;exact ⟨a,b,xs,g,rfl,by rw [e3],S.hh _ _ c,j,by rw [z.length,Y.length];exact U,p σ F1 _ ((r.step S).write hi (iW J) e2 (au.append (z.mono S.ff) Y))⟩
   ·exact p.stuck (l_ U)
  |_=>exact p.stuck rfl
theorem ds_ext (g:DE K W f_ X e f) (d:(i∈O)⁻¹) (h: ~~~(X.N[i]? =a_ x)) (hv:autoParam (Vis X.env.scope x) Jq3) (hd:((x==("__debug__":Cy))=c_)⁻¹) (c:((x==("__classdict__":Cy))=c_)⁻¹) (j: ~~~(X.K=K))
  (Y: ~~~(j_ [e] X.env=[(c_,Cf e X.env)])) (U: ~~~(DH (.Name x p) "extend" X.env (Cf (.Name x p) X.env)=Cf (.Name x p) X.env)) (a: ~~~(((CZ q (j_ [e] X.env)).all (fun x=> !x.1)&&(Gk q (ES [] X.env)).all (fun x=>x.1.isSome)&&Ca ([e].length+([]:List Gs).length+(if ([]:List Gs).isEmpty then 0 else 1)<30))=f_)) (J: ~~~((CZ q (j_ [] X.env)).any (·.1)=c_)) (S: ~~~((apos.endLine==q.line)=f_)) (b: ~~~(Dx (.Call (.Attribute (.Name x p) "extend" apos) [e] [] q) d_ pos.line X.env=DC c_)) :
  DS K W ro X OL O O (.Expr (.Call (.Attribute (.Name x p) "extend" apos) [e] [] q) pos) (sExt O i f):=fun F0 H0=>by
 subst j;exact PS.imp (uW (pe_bm Ha KU PySem.F.type_list_extend AI (pv i h hv hd c) (aM g cy Y) U a S Y J) b) fun _ _ _=>rs_ext d
end
section
variable {fu:ah->M (Option Int)}
@[simp] theorem e_pNone:uZ ρ=.ok d_:=id rfl
@[simp] theorem e_pSome:mB fa ρ=(fa ρ).bind fun d=>(asI d).bind fun i=>.ok (a_ i):=id rfl
@[simp] theorem e_slF (k:Dat->Option Int->Option Int->M Dat):fSl k fa fl fu ρ=(fa ρ).bind fun a=>(fl ρ).bind fun l=>(fu ρ).bind fun u=>k a l u:=id rfl
@[simp] theorem e_ext (O:List Nat) (i:Nat):sExt O i fa ρ=(ib ρ i).bind fun ds=>(fa (erase O ρ)).bind fun d=>extD ρ i ds d:=id rfl
@[simp] theorem e_pow {i j:Int} (J:0<=j) (h1:j<=1000000) (h2:i.natAbs<2^64):powD (.int i) (.int j)=.ok (.int (i^j.toNat)):=by
 show (if (Ca (0<=j)&&Ca (j<=1000000)&&Ca (i.natAbs<2^64))=f_ then _ else _)=_;rw [p_ (by simp only [u_,CK];exact ⟨⟨J,h1⟩,h2⟩)]
@[simp] theorem e_eqII (i j:Int):eqM (.int i) (.int j)=.ok (.bl (Ca (i=j))):=by
 show Dz (Dat.bl (i==j))=_;rw [show (i==j)=Ca (i=j) from rfl]
@[simp] theorem e_neII (i j:Int):neM (.int i) (.int j)=.ok (.bl (!decide (i=j))):=by
 show Dz (Dat.bl (!(i==j)))=_;rw [show (i==j)=Ca (i=j) from rfl]
@[simp] theorem cut_take {α:Type} (xs:List α) {j:Int} (h:0<=j):BD xs d_ (a_ j)=xs.take j.toNat:=by
 unfold BD cX;simp only [l_ (show ¬j<0 by omega),Gu,NS];rcases NT j.toNat xs.length with h1|h1
 ·rw [MP h1]
 ·rw [MH h1,Jn,Fp h1]
@[simp] theorem cut_drop {α:Type} (xs:List α) {j:Int} (h:0<=j):BD xs (a_ j) d_=xs.drop j.toNat:=by
 unfold BD cX;simp only [l_ (show ¬j<0 by omega)];rcases NT j.toNat xs.length with h1|h1
 ·rw [MP h1,Fp (by simp)]
 ·rw [MH h1,Kw h1,Gz];simp
end
def revD:Dat->M Dat
 |.lst ds=>.ok (.lst ds.reverse)
 |_=>stk
section
end
def zi (Cs:List h_) (x:Cy):Dat->M Dat
 |.ins C fs=>if Cs.contains C=f_ then (match fs.lookup x with
  |some d=>.ok d
  |none=>stk) else stk
 |_=>stk
noncomputable def isC (C:h_) (m:Cy):Dat->Bool
 |.ins D fs=>(D==C)&&(fs.lookup m).isNone
 |_=>c_
def eT (C:h_) (m:Cy) (g:List Dat->M Dat) (fo:ah->M Dat) (fr:ah->M (List Dat)):ah->M Dat:=fun ρ=>(fo ρ).bind fun o=>if isC C m o=f_ then (fr ρ).bind fun as=>g (o::as) else stk
def newR (C:h_) (g:List Dat->M Dat):List Dat->M Dat
 |[d]=>(g [d]).bind fun r=>.ok (.ins C [("gaps",r)])
 |_=>stk
def sStk:ah->M Flo:=fun _=>stk
section
variable {W:ck} {own:Bool} {a b c d:Dr} {m:Cy} {f:ah->M Dat} {fr:ah->M (List Dat)} {Cs:List h_}
theorem kr.at {F:Hp} {x:Cy}:∀{gs:List (Cy×Dat)} {fs:List (Cy×V)},kr K F gs fs->(∀d,gs.lookup x=a_ d->∃v,fs.lookup x=a_ v/\aW K F d v)/\(gs.lookup x=d_->fs.lookup x=d_)
 |[],fs,h=>by cases (show fs=[] from h);exact ⟨fun d h=>by simp at h,fun _=>rfl⟩
 |(g,d)::gs,fs,h=>by
  obtain ⟨v,r,rfl,h1,h2⟩:=h;have J:=kr.at (x:=x) h2;rw [Cp,Cp];cases e:x==g with
  |true=>exact ⟨fun d' h'=>by cases h';exact ⟨v,rfl,h1⟩,fun h'=>by cases h'⟩
  |false=>exact J
theorem de_fld (i:∀C∈Cs,Cls K C/\kq K C y) (Y:DE K W c_ X e fa) (c: ~~~(DH e y X.env (Cf e X.env)=Cf e X.env)) (g: ~~~(X.K=K)):DE K W c_ X (.Attribute e y pos) (f1 (zi Cs y) fa):=by
 subst g;refine (pe_fld Y c).imp fun σ H Q h=>?_;obtain ⟨F,ρ,r,s,p⟩:=h;refine aI r s (fun e Y=>p.err (by unfold f1;rw [Y];rfl)) fun a f x F1 H1 S q1=>?_;have j:f1 (zi Cs y) fa ρ=zi Cs y a:=by unfold f1;rw [f];rfl
 rw [j] at p;cases a with
 |ins C gs=>
  obtain ⟨l,dx,fs,e1,ea,k⟩:=q1;have J:aw X.K W c_ F H (if Cs.contains C=f_ then (match gs.lookup y with
   |some d=>.ok d
   |none=>stk) else stk) Q:=p
  by_cases b:Cs.contains C=f_
  ·rw [p_ b] at J;obtain ⟨h1,h2⟩:=i C (by simpa using b);cases U:gs.lookup y with
   |none=>rw [U] at J;exact aw.stuck J
   |some d=>
    rw [U] at J;obtain ⟨v,hv,hd⟩:=k.at.1 d U;exact ⟨l,C,dx,fs,v,e1,S.fh _ _ ea,h1,h2,hv,(J.step S) v F1 H1 (Step.refl S.fh) hd⟩
  ·rw [l_ b] at J;exact aw.stuck J
 |_=>exact aw.stuck p
theorem A0 {Q:VK} (h:tD K Wno ro (eT C m (bL nN n g) fo fr) σ H Q):tMeth C m (spF K ro (bL nN n g) n) [] E0 (tD K Wno c_ fo) (tDA K Wno fr) σ H Q:=by
 obtain ⟨F,ρ,r,s,p⟩:=h;refine aI r s (fun e a=>p.err (by unfold eT;rw [a];rfl)) fun o f x F1 H1 S q1=>?_;have j:eT C m (bL nN n g) fo fr ρ=if isC C m o=f_ then (fr ρ).bind fun as=>bL nN n g (o::as) else stk:=by unfold eT;rw [f];rfl
 rw [j] at p;by_cases U:isC C m o=f_
 ·rw [p_ U] at p;cases o with
  |ins D gs=>
   obtain ⟨l,dx,fs,e1,ea,k⟩:=id q1;have J:((D==C)&&(gs.lookup m).isNone)=f_:=U;rw [u_] at J;obtain ⟨c,i⟩:=J;have c:D=C:=by simpa using c
   subst c;refine ⟨l,dx,fs,e1,S.fh _ _ ea,k.at.2 (by simpa using i),?_⟩
   have p:=p.step S;refine ic (r.mono S.ff) S.fh (fun e a=>p.err (by rw [a];rfl)) fun as b vs q H2 Y qs=>?_;rw [b] at p;have p:aw K Wno ro F1 H1 (bL nN n g (.ins D gs::as)) Q:=p;have p:=p.step Y;show spF K ro (bL nN n g) n (x::(vs++[])) H2 Q E0;rw [Ed];by_cases d:(Dat.ins D gs::as).length=n
   ·exact ⟨q,.ins D gs::as,Y.fh,⟨x,vs,rfl,aW.mono Y.ff q1,qs⟩,d,p⟩
   ·rw [pY d] at p;exact aw.stuck p
  |_=>cases U
 ·rw [l_ U] at p;exact aw.stuck p
def xx (X:Cx) (o:Dr) (m:Cy) (apos:Nu) (es:List Dr) (pos:Nu) (pl:Mb Bool):Prop:=Cf (.Call (.Attribute o m apos) es [] pos) X.env=(do let J <- Cf o X.env;Ii apos.atName;let (f,first) <- Gf [J] (IZ J m pl);KN pos f first (CZ pos (j_ es X.env)) (Gk pos (ES [] X.env)))
section
variable {pl:Mb Bool}
theorem pe_methD (c:Cls X.K C) (M:Meth X.K C m fad) (F:iN X.prog X.w X.K X.mg X.base CX0 k fad fd ps (spF X.K ro (bL nN n g) n)) (Y:gz k X.A) (b:Binds X.K fd ps []) (a:DE X.K Wno c_ X o fo) (d:DA X.K Wno X (e::es) fr)
  (J:j_ (e::es) X.env=(c_,Cf e X.env)::j_ es X.env) (S:(CZ pos (j_ es X.env)).any (·.1)=c_) (U:xx X o m apos (e::es) pos pl):DE X.K Wno ro X (.Call (.Attribute o m apos) (e::es) [] pos) (eT C m (bL nN n g) fo fr):=
 (pe_meth (pl:=pl) a c M F Y b .nil Av d J S U).imp fun _ _ _=>A0
theorem Ap (c:Cls X.K C) (M:Meth X.K C m fad) (F:iN X.prog X.w X.K X.mg X.base CX0 k fad fd ps (spF X.K ro (bL nN n g) n)) (S:gz k X.A) (Y:Binds X.K fd ps []) (U:DE X.K Wno c_ X o fo)
  (J:xx X o m apos [] pos pl):DE X.K Wno ro X (.Call (.Attribute o m apos) [] [] pos) (eT C m (bL nN n g) fo ax):=
 (pe_meth0 (pl:=pl) U c M F S Y .nil Av J).imp fun σ H Q h=>by
  obtain ⟨F,ρ,r,s,z⟩:=A0 h;refine ⟨F,ρ,r,s,?_⟩
  cases e1:fo ρ with
  |error d=>rw [e1] at z;exact z
  |ok od=>
   rw [e1] at z;intro v F' H' st q;obtain ⟨l,dx,fs,h1,h2,b,a⟩:=z v F' H' st q;exact ⟨l,dx,fs,h1,h2,b,rd_nil a⟩
theorem qT (c:Cls K C) (M:Meth K C m fad) (F:iN X.prog X.w X.K X.mg X.base CX0 k fad fd ps (spF K ro (bL nN n g) n)) (Y:gz k X.A) (b:Binds X.K fd ps []) (a:DE K Wno c_ X o fo) (d:DA K Wno X (e::es) fr)
  (f: ~~~(X.K=K)) (J: ~~~(j_ (e::es) X.env=(c_,Cf e X.env)::j_ es X.env)) (S: ~~~((CZ pos (j_ es X.env)).any (·.1)=c_)) (U: ~~~(xx X o m apos (e::es) pos pl)) :
  DE K Wno ro X (.Call (.Attribute o m apos) (e::es) [] pos) (eT C m (bL nN n g) fo fr):=by
 subst f;exact pe_methD c M F Y b a d J S U
theorem gG (c:Cls K C) (M:Meth K C m fad) (F:iN X.prog X.w X.K X.mg X.base CX0 k fad fd ps (spF K ro (bL nN n g) n)) (S:gz k X.A) (Y:Binds X.K fd ps []) (U:DE K Wno c_ X o fo)
  (a: ~~~(X.K=K)) (J: ~~~(xx X o m apos [] pos pl)):DE K Wno ro X (.Call (.Attribute o m apos) [] [] pos) (eT C m (bL nN n g) fo ax):=by
 subst a;exact Ap c M F S Y U J
end
def spI1 (K:Fg) (C:h_) (g:List Dat->M Dat):Sp:=fun vs H Q _=>∃p dx v F d,vs=[.ref p,v]/\H p=a_ (.ins C dx [])/\F p=d_/\aN F H/\aW K F d v/\(match g [d] with
 |.ok r=>∀w F' H',aN F F'->aN F' H'->F' p=d_->(∀b o,F' b=a_ o->F b=a_ o\/H b=d_)->(∀c o,H c=a_ o->c≠p->H' c=a_ o)->H' p=a_ (.ins C dx [("gaps",w)])->aW K F' r w->Q .non H'
 |.error e=>Wno.p e F H)
theorem Step.born {x dx:h_} {fs:List (Cy×V)} (s:aN F H) (U:H x=d_) (S:H dx=d_) (Y:dx≠x) (h1:aN F F') (h2:aN F' H') (g:F' x=d_) (f:∀b o,F' b=a_ o->F b=a_ o\/upd (upd H dx (.own x)) x (.ins C dx []) b=d_)
  (d:∀c o,upd (upd H dx (.own x)) x (.ins C dx []) c=a_ o->c≠x->H' c=a_ o) (a:H' x=a_ (.ins C dx fs)):Step F H (upd F' x (.ins C dx fs)) H' where
 ff:=h1.trans (aN.upd g)
 hh:=fun c o e=>by
  have J:c≠x:=fun h=>by rw [h,U] at e;cases e
  have hd:c≠dx:=fun h=>by rw [h,S] at e;cases e
  exact d c o (by rw [aq J,aq hd];exact e) J
 fh:=fun c o e=>by
  by_cases J:c=x
  ·subst J;rw [ao] at e;rw [a];exact e
  ·rw [aq J] at e;exact h2 _ _ e
 nw:=fun c o e=>by
  by_cases J:c=x
  ·subst J;exact .inr U
  ·rw [aq J] at e;rcases f c o e with z|z
   ·exact .inl z
   ·refine .inr ?_;by_cases hd:c=dx
    ·subst hd;exact S
    ·rw [aq J,aq hd] at z;exact z
theorem de_newR {Y:EZ} {g:List Dat->M Dat} (n:Mk X.K C fI) (T:iN X.prog X.w X.K X.mg X.base CX0 k fI Y ps (spI1 K C g)) (A:gz (k+1) X.A) (D:X.mg x=a_ (.ref C)) (I:Binds X.K Y ps [])
  (L:DA K Wno X [e] fr) (E: ~~~(Gl X x)) (l:((x==("__debug__":Cy))=c_)⁻¹) (f: ~~~(j_ [e] X.env=(c_,Cf e X.env)::j_ [] X.env)) (i: ~~~((CZ pos (j_ [] X.env)).any (·.1)=c_)) :
  DE K Wno c_ X (.Call (.Name x p) [e] [] pos) (fL (newR C g) fr):=by
 refine PE.imp (pe_make n T A E D I .nil Av L l f i) fun σ H Q h=>?_;obtain ⟨F,ρ,r,s,p⟩:=rd_L h;refine ⟨F,ρ,r,s,?_⟩
 cases e1:fr ρ with
 |error z=>rw [e1] at p;exact p
 |ok ds=>
  rw [e1] at p;intro vs F1 H1 st q;obtain ⟨u,m,J,q1,z⟩:=p vs F1 H1 st q;rcases m with _|⟨d,_|⟨_,_⟩⟩
  ·exact aw.stuck z
  rotate_left
  ·exact aw.stuck z
  ·obtain ⟨v,a,rfl,y,B⟩:=q1;cases (show a=[] from B);intro x dx b U j;refine ⟨x,dx,v,u,d,rfl,ao,J.free b,fun c o e=>?_,y,?_⟩
   ·have G:c≠x:=fun h=>by rw [h,J.free b] at e;cases e
    have hd:c≠dx:=fun h=>by rw [h,J.free U] at e;cases e
    rw [aq G,aq hd];exact J _ _ e
   ·have z:aw K Wno c_ u H1 ((g [d]).bind fun r=>.ok (.ins C [("gaps",r)])) Q:=z;cases S:g [d] with
    |error e=>rw [S] at z;exact DV z
    |ok r=>
     rw [S] at z;intro w F' H' h1 h2 t R P O N;refine ⟨rfl,z (.ref x) (upd F' x (.ins C dx [("gaps",w)])) H' (Step.born J b U j h1 h2 t R P O) ?_⟩
     exact ⟨x,dx,_,rfl,ao,w,[],rfl,aW.mono (aN.upd t) N,rfl⟩
end
section
variable {W:ck} {own:Bool}
theorem BN (n:X.calm=f_):bS X (.builtin "sum") (fun xs H Q=>∃(a:h_) (is:List Int),xs=[.ref a]/\SqL X.K H a (is.map V.int)/\Q (.int is.sum) H):=by
 intro pins s σ H xs us Q I r h;obtain ⟨a,is,rfl,k,q⟩:=h;obtain ⟨u,rfl,i⟩:=r.one;cases i;obtain ⟨its,g,p,v⟩:=I.list k;have hi:=intsAre_of g;obtain ⟨xs,e⟩:=hi.allInts.items;have U:is=xs.toList.map (·.1):=by rw [<- hi.numsOf,<- Lb,<- e]
 have f:=p.isList;rw [e] at f;refine Nm (iter_intList f fun d e2 st c Y=>?_);subst e2;refine ⟨_,_,_,_,_,_,_,J_ xs,rfl,(JH (A:=X.A.in1) (I.ok.hd n) _ a Y (intItems xs)).toS,st,c,(fun _ _=>Mr),fun s' t' J=>?_⟩
 obtain ⟨h',g',d',S,j⟩:=s';have e1:=J.gens;have e2:=J.drawn;have e3:=J.os;have e4:=J.heap;simp only at e1 e2 e3;subst e1 e2 e3;have m:=old_kept (s:=s) (l:=a) (h':=h') fun b o t e=>e4 b o t e;refine ⟨.int _,H,I.kept (t':=S) m,⟨t',rfl⟩,?_⟩
 have es:preSum (J_ xs) (intItems xs).size=is.sum:=by
  rw [preSum_eq,U,Fp (by simp [intItems])]
 rw [es];exact q
theorem c_sum (b:X.calm=f_) (c: ~~~(X.K=K)):lU K W own X (.builtin "sum") sumD:=by
 subst c;refine (BN b).imp fun xs H Q h=>?_;obtain ⟨F,ds,s,q,p⟩:=h;rcases ds with _|⟨d,_|⟨_,_⟩⟩
 ·exact aw.stuck p
 ·obtain ⟨v,vs,rfl,S,Y⟩:=q;cases (show vs=[] from Y);cases d with
  |lst ds=>
   obtain ⟨a,xs,e,t,z⟩:=S;have J:aw X.K W own F H ((aV ds).bind fun is=>.ok (.int is.sum)) Q:=p;cases hi:aV ds with
   |error e=>rw [hi] at J;have:=du hi;subst this;exact aw.stuck J
   |ok is=>
    rw [hi] at J;have U:xs=is.map V.int:=cD z hi;subst U;exact ⟨a,is,by rw [e],s.lst t,aw.int J s⟩
  |_=>exact aw.stuck p
 ·cases d<;>exact aw.stuck p
end
noncomputable def Itz (K:Fg) (a b:h_):It:=
 ⟨fun i H=>∃xs ys x y,SqL K H a xs/\SqL K H b ys/\xs[i]? =a_ x/\ys[i]? =a_ y,fun i H v H'=>∃T x y,H T=d_/\v=.ref T/\H'=upd H T (.tup [x,y])/\(∀xs,SqL K H a xs->xs[i]? =a_ x)/\∀ys,SqL K H b ys->ys[i]? =a_ y,fun i H=>∃xs ys,SqL K H a xs/\SqL K H b ys/\(xs.length<=i\/ys.length<=i)⟩
theorem turn_zip {P:Cn} {Y j f d N L:h_} (D:ZipApart z Y j f d N L) :
  Turn P w K (.Tuple elts k pos) (Itz K N L) [z,Y,j,f,d] z (fun i h=>IsZip h z Y j .none/\LV h Y (.ref f) (.ref d)/\(∃a b,LV h j a b)/\h.IsListIter f N i/\h.IsListIter d L i) where
 mem:=by simp
 obj:=fun i h st b J=>by
  obtain ⟨g,S,⟨a,c,U⟩,⟨o1,e1,c1,d1⟩,⟨o2,e2,c2,d2⟩⟩:=st;simp only [r_,CT,FT] at J;rcases J with rfl|rfl|rfl|rfl|rfl
  ·exact ⟨_,g,fun v q=>by cases q⟩
  ·exact ⟨_,S,fun v q=>by cases q⟩
  ·exact ⟨_,U,fun v q=>by cases q⟩
  ·exact ⟨o1,e1,fun v q=>by rw [d1] at q;cases q⟩
  ·exact ⟨o2,e2,fun v q=>by rw [d2] at q;cases q⟩
 keep:=fun i h h' st n=>by
  obtain ⟨g,S,⟨a,c,U⟩,h1,h2⟩:=st;exact ⟨n z (by simp) _ g,n Y (by simp) _ S,⟨a,c,n j (by simp) _ U⟩,h1.at fun o x=>n f (by simp) o x,h2.at fun o x=>n d (by simp) o x⟩
 item:=by
  intro X W hw Z hc i pins s σ H E I C st R;subst W hw Z;obtain ⟨g,S,⟨a,c,U⟩,h1,h2⟩:=st;obtain ⟨xs,ys,x,y,B,A,gx,gy⟩:=R;obtain ⟨its,F,p,_⟩:=I.list B;obtain ⟨r,l,p2,_⟩:=I.list A;obtain ⟨u,hu,ru⟩:=F.get gx;obtain ⟨u2,O,G⟩:=l.get gy;refine wpAny_pyNext_zip_item D g S U h1 h2 p.isList p2.isList (x:=u) (y:=u2) (by simpa using hu) (by simpa using O) fun h' a1 a2 a3 a4 a5 a6 a7=>?_;refine ⟨_,rfl,wpAny_letOwnedTupleGo_zip a1 fun h2' b1 m=>?_⟩
  have lz:z<s.heap.objs.size:=o_ g;have lTI:Y<s.heap.objs.size:=o_ S;have lTO:j<s.heap.objs.size:=o_ U;have li1:f<s.heap.objs.size:=by obtain ⟨o,e,_⟩:=h1;exact o_ e
  have li2:d<s.heap.objs.size:=by obtain ⟨o,e,_⟩:=h2;exact o_ e
  have I1:Inv X pins σ (upd H s.heap.objs.size (.tup [x,y])) {s with heap:=h2',toks:=s.toks}:=I.ux (ch:=[z,Y,j,f,d]) C (fun b o J q=>by
    simp only [r_,CT,FT,MT] at J;exact (m.2 b J.1).trans (a7 b o J.1 J.2.2.1 J.2.2.2.1 J.2.2.2.2 q)) (m_ _) ⟨by show 2<=n_;decide,[u,u2],.cons ru (.cons G .nil),⟨_,(m.2 _ (Eb lz)).trans a5,rfl,0,rfl⟩⟩
  refine ⟨.ref s.heap.objs.size,_,I1,rfl,⟨s.heap.objs.size,x,y,I.hok.fresh (m_ _),rfl,rfl,fun zs Q=>by rw [I.lV Q B];exact gx,fun zs Q=>by rw [I.lV Q A];exact gy⟩,
   ⟨b1,(m.2 _ D.TIz).trans (a7 Y _ D.TIz D.TITO D.TIi1 D.TIi2 S),⟨_,_,(m.2 _ D.TOz).trans a2⟩,a3.at fun o q=>(m.2 _ D.i1z).trans q,a4.at fun o q=>(m.2 _ D.i2z).trans q⟩,fun b J=>?_⟩
  have T:=(C b J).1;have:b≠s.heap.objs.size:=by
   simp only [r_,CT,FT] at J;rcases J with rfl|rfl|rfl|rfl|rfl<;>exact Cd (by assumption)
  rw [aq this];exact T
 done:=by
  intro X W hw Z hc i pins s σ H E I C st R;subst W hw Z;obtain ⟨g,S,⟨a,c,U⟩,h1,h2⟩:=st;obtain ⟨xs,ys,B,A,t⟩:=R;obtain ⟨its,F,p,_⟩:=I.list B;obtain ⟨r,l,p2,_⟩:=I.list A;have e1:=F.length;have e2:=l.length;refine wpAny_pyNext_zip_end (I.ok.hd hc) D g S U h1 h2 p.isList p2.isList ?_ fun h' hk=>⟨rfl,I.uy (t':=s.toks) (ch:=[z,Y,j,f,d]) C fun b o J q=>?_⟩
  ·rcases t with z|z
   ·exact .inl (EE (by simp;omega))
   ·exact .inr (EE (by simp;omega))
  ·simp only [r_,CT,FT,MT] at J;exact hk b o J.1 J.2.2.1 J.2.2.2.1 J.2.2.2.2 q
 self:=fun _ _ _ _ _ st h=>NG st.1 h
theorem w5:∀(ds es:List Dat) (i:Nat),(ku ds es)[i]? =(ds[i]?).bind fun d=>(es[i]?).map fun e=>.tup [d,e]
 |[],es,i=>by simp [ku]
 |d::ds,[],i=>by cases h:(d::ds)[i]?<;>simp [ku]
 |d::ds,e::es,0=>by simp [ku]
 |d::ds,e::es,i+1=>by rw [ku,D3,w5 ds es i,D3,D3]
theorem pH:∀(ds es:List Dat),(ku ds es).length=min ds.length es.length
 |[],es=>by simp [ku]
 |d::ds,[]=>by simp [ku]
 |d::ds,e::es=>by rw [ku,Ci,pH ds es,Ci,Ci];omega
theorem iter_zip {ys:List V} {es:List Dat} (t:SqL K F a xs) (z:au K F ds xs) (f:SqL K F b ys) (c:au K F es ys):rB K F (Itz K a b) (ku ds es) where
 go:=fun i F' H' S J hi=>by
  rw [pH] at hi;exact ⟨xs,ys,xs[i]'(by rw [z.length];omega),ys[i]'(by rw [c.length];omega),J.lst (S.lst t),J.lst (S.lst f),Cr _,Cr _⟩
 yl:=fun i F' H' x H2 d S J hd j=>by
  obtain ⟨T,h,e,g,ex,k,h1,h2⟩:=j;subst ex k;rw [w5] at hd;cases U:ds[i]? with
  |none=>rw [U] at hd;cases hd
  |some n=>
   cases Y:es[i]? with
   |none=>rw [U,Y] at hd;cases hd
   |some m=>
    rw [U,Y] at hd;simp at hd;subst hd;obtain ⟨v,e1,q⟩:=z.get U;obtain ⟨l,e2,q2⟩:=c.get Y;have e3:=h1 xs (J.lst (S.lst t));have e4:=h2 ys (J.lst (S.lst f));rw [e1] at e3;rw [e2] at e4;cases e3;cases e4;refine ⟨upd F' T (.tup [h,e]),Step.lay J g,T,_,rfl,SqT.of ao,?_⟩
    exact ⟨h,[e],rfl,(q.mono S).mono (aN.upd (J.free g)),e,[],rfl,(q2.mono S).mono (aN.upd (J.free g)),rfl⟩
 st:=fun F' H' S J=>⟨xs,ys,J.lst (S.lst t),J.lst (S.lst f),by rw [z.length,c.length,pH];omega⟩
section
variable {W:ck} {a b:Dr} 
def iZip (K:Fg) (ta tb:TE):TI:=fun σ H R=>ta σ H fun x H1=>tb σ H1 fun y H2=>∃a b,x=.ref a/\y=.ref b/\(∃xs,SqL K H2 a xs)/\(∃ys,SqL K H2 b ys)/\R (Itz K a b) H2
theorem pi_zip {ta tb:TE} (E:Gl X "zip") (C:X.mg "zip"=d_) (F:PE X a ta) (d:PE X b tb) (v:j_ [a,b] X.env=[(c_,Cf a X.env),(c_,Cf b X.env)]) (S:j_ [b] X.env=[(c_,Cf b X.env)]) :
  PI X (.Tuple elts k q) (.Call (.Name "zip" p) [a,b] [] pos) (iZip X.K ta tb):=by
 intro pins s σ H R I h;have G:PA X [a,b] (ky ta (ky tb zJ)):=aM F (aM d cy S) (by rw [v,S]);refine K2 (fU I E C boot_zip (CF (thn (G pos pins s σ H (fun vs H1=>match vs with
  |[x,y]=>∃a b,x=.ref a/\y=.ref b/\(∃xs,SqL X.K H1 a xs)/\(∃ys,SqL X.K H1 b ys)/\R (Itz X.K a b) H1
  |_=>False) I h) fun us J ⟨vs,H1,c,g,q1⟩=>?_) (by rw [v,S]) (by rw [S];rfl)))
 match vs,g,q1 with
 |[x,y],g,⟨l,A,e1,e2,⟨xs,B⟩,⟨ys,i⟩,q⟩=>
  subst e1 e2;obtain ⟨u,O,rfl,z,f⟩:=g.two;cases z;cases f;obtain ⟨its,P,pl,_⟩:=c.list B;obtain ⟨r,w,U,_⟩:=c.list i;have L:l<J.heap.objs.size:=by obtain ⟨_,e,_⟩:=pl.isList;exact o_ e
  have K:A<J.heap.objs.size:=by obtain ⟨_,e,_⟩:=U.isList;exact o_ e
  refine call_zip_2 pl.isList U.isList fun h' t o n m j hsz D=>?_;have N:Inv X pins σ H1 {J with heap:=h'}:=c.kept (t':=J.toks) D;refine NG t ?_;refine ⟨J.heap.objs.size+4,[J.heap.objs.size+4,J.heap.objs.size+2,J.heap.objs.size+3,J.heap.objs.size,J.heap.objs.size+1],_,_,H1,rfl,N,turn_zip (zipApart_new L K),⟨t,o,⟨_,_,n⟩,m,j⟩,fun b d=>?_,q⟩
  have Y:J.heap.objs.size<=b:=by
   simp only [r_,CT,FT] at d;rcases d with rfl|rfl|rfl|rfl|rfl
   ·exact Ht _ 4
   ·exact Ht _ 2
   ·exact Ht _ 3
   ·exact m_ _
   ·exact Ht _ 1
  exact c.fpOk Y (c.hok.fresh Y)
theorem ri_zip {R:It->Hp->Prop} (h:iD K W (Be fa fb) σ H R):iZip K (tD K W c_ fa) (tD K W c_ fb) σ H R:=by
 obtain ⟨F,ρ,r,s,p⟩:=h;refine aI r s (fun e Y=>?_) fun d hd v F1 H1 S q1=>?_
 ·have z:Be fa fb ρ=.error e:=by unfold Be;rw [Y];rfl
  rw [z] at p;exact p
 ·refine aI (r.mono S.ff) S.fh (fun e Y=>?_) fun f a k j H2 J q2=>?_
  ·have z:Be fa fb ρ=.error e:=by unfold Be;rw [hd,ar,Y];rfl
   rw [z] at p;exact W.mono p S
  ·have z:Be fa fb ρ=(jc d).bind fun ds=>(jc f).bind fun es=>.ok (ku ds es):=by unfold Be;rw [hd,ar,a,ar]
   rw [z] at p;cases d with
   |lst ds=>
    cases f with
    |lst es=>
     obtain ⟨b,xs,e,t,g⟩:=q1;obtain ⟨i,ys,e2,c,U⟩:=q2;have t':=J.ff.lst t;exact ⟨b,i,e,e2,⟨xs,J.fh.lst t'⟩,⟨ys,J.fh.lst c⟩,p _ j H2 (S.trans J) (iter_zip t' (g.mono J.ff) c U)⟩
    |_=>exact (W.ns p).elim
   |_=>exact (W.ns p).elim
theorem di_zip (U:X.mg "zip"=d_) (d:DE K W c_ X a fa) (c:DE K W c_ X b fb) (Y: ~~~(Gl X "zip")) (S: ~~~(j_ [a,b] X.env=[(c_,Cf a X.env),(c_,Cf b X.env)])) (J: ~~~(j_ [b] X.env=[(c_,Cf b X.env)])) (e: ~~~(X.K=K)) :
  DI K W X (.Tuple elts k q) (.Call (.Name "zip" p) [a,b] [] pos) (Be fa fb):=by
 subst e;exact (pi_zip Y U d c S J).imp fun _ _ _=>ri_zip
end
section
noncomputable abbrev newL:GX:={cls:=.type "list",data:=.seq ([]:List i_).toArray}
theorem vO {Q:List i_->t_->Prop} {a b:Int} {t u v:Tok} (B:A.handled=d_) (x:IsRange s.heap r a b 1 t u v) (Y:Hj a b 1=f_)
  (y:FQ a b 1=n) (S:n<=2^24)
  (D:∀g tk (acc:Array i_),(∀c o,s.heap.get? c=a_ o->g.get? c=a_ o)->Ku (fun i v=>∃t,v=.int (a+i*1) t) acc n->Q acc.toList {s with heap:=g,toks:=tk}):s_ (w_ prog w) A (Ks (.ref r)) Q E s:=by
 unfold Ks;refine b_ (IJ (DF Ik ?_))
 (rw [De Ij _];show s_ _ A.in1 (LR [] >>= fun l=>again (.builtin "list.__iadd__" ⟨[l,.ref r],[]⟩)) _ _ s)
 refine b_ (Ck (e_ ⟨Fi FP _,DF Jw ?_⟩))
 (rw [De FP _];show s_ _ A.in1 (Gx (.ref s.heap.objs.size) (.ref r) (.ref s.heap.objs.size)) _ _ _)
 have C:(s.heap.push newL).get? s.heap.objs.size=a_ {cls:=.type "list",data:=.seq #[] 0}:=k_ _ rfl;refine Di (wpAny_extend_range (A:=A) (R:=fun J z=>J=.ok (.ret (.ref s.heap.objs.size))/\∃(acc:Array i_) (c:Nat),z.heap.get? s.heap.objs.size=a_ {cls:=.type "list",dict:=d_,data:=.seq acc c,slots:=#[]}/\Q acc.toList z) (s:={s with heap:=s.heap.push newL}) B (g_ _ x) Y y S s.heap.objs.size _ 0 C fun g tk acc c j U k=>?_) (fun d z h=>?_) fun e z h=>Cj h.1 (by simp)
 ·exact ⟨rfl,acc,c,U,D g tk acc (fun z o e=>j z o (Cd (o_ e)) (g_ _ e)) k⟩
 ·cases d with
  |done f=>
   obtain ⟨e,acc,c,U,q⟩:=h;cases e;exact b_ (m:=load s.heap.objs.size) (Ig U (e_ q))
  |again G=>
   refine ⟨h.1,Er h.2 fun J z p=>?_⟩
   obtain ⟨rfl,acc,c,U,q⟩:=p;exact b_ (m:=load s.heap.objs.size) (Ig U (e_ q))
theorem pL {a b:Int} {t u v:Tok} (U:Hj a b 1=f_) (q:FQ a b 1=n) (J:n<=2^24) :
  MeetsIn prog w (Builtin.«tuple.__new__» ⟨[.type "tuple",.ref r],[]⟩)
   (fun A R s=>A.handled=d_/\IsRange s.heap r a b 1 t u v/\∀(g:CQ) (tk:Nat) (acc:Array i_),(∀c o,s.heap.get? c=a_ o->g.get? c=a_ o)->Ku (fun i v=>∃t,v=.int (a+i*1) t) acc n->R (.ok (.ret (.ref g.objs.size))) {s with heap:=g.push {cls:=.type "tuple",data:=.seq acc},toks:=tk}):=
 .of_wp fun A R s h=>by
  obtain ⟨p,g,d,tk,os⟩:=s;obtain ⟨y,Y,h⟩:=h;have k:=sub_tuple_self;have f:=init_tuple_lookup;have x:=madeHere_tuple;have z:Fw ⟨p,g,d,tk,os⟩ (.ref r) "range":=⟨_,Y,rfl⟩
  wp_walk using wpAny_loadPart' Y,G9 z,vO (A:=A.in1) (n:=n) y Y U q J
  intro B S acc l j;show s_ _ _ (GH acc.toList.toArray >>= fun v=>ret v) _ _ _;unfold GH;have m:acc.toList.toArray.size<=n_:=by
   rw [Du];have:=j.1;simp;omega
  refine b_ (Ck (e_ ⟨_,rfl,?_⟩) m);have e:acc.toList.toArray=acc:=by simp
  rw [e];exact h B S acc l j
end
section
theorem lP {Q:Vp} {a b:Int} {t u v:Tok} (h:A.handled=d_) (e:IsRange s.heap r a b 1 t u v) (U:Hj a b 1=f_) (f:FQ a b 1=n) (J:n<=2^24)
  (j:∀(g:CQ) (tk:Nat) (acc:Array i_),(∀c o,s.heap.get? c=a_ o->g.get? c=a_ o)->Ku (fun i v=>∃t,v=.int (a+i*1) t) acc n->Q (.ref g.objs.size) {s with heap:=g.push {cls:=.type "tuple",data:=.seq acc},toks:=tk}) :
  s_ (w_ prog w) A (Gg (.type "tuple") [.ref r]) Q E s:=
 callType_newIn F.called_tuple (by decide) (F.typeCall_tuple_1 _) (F.newCall_tuple_1 _) (fun S=>Kl S _) F.entry_tuple_new
  (pL (t:=t) (u:=u) (v:=v) U f J) ⟨h,e,fun g tk acc Y d=>⟨⟨_,k_ _ rfl,rfl⟩,j g tk acc Y d⟩⟩
end
section
variable {W:ck} {own:Bool} {a b:Dr} {fr:ah->M (List Dat)}
theorem o7 (d:X.calm=f_):bS X (.type "tuple") (fun xs H Q=>∃r lo hi,xs=[.ref r]/\H r=a_ (.rng lo hi)/\(-(2^62)<=lo/\lo<2^62/\ -(2^62)<=hi/\hi<2^62)/\(hi-lo).toNat<=n_/\∀l,H l=d_->Q (.ref l) (upd H l (.tup ((Cc (hi-lo).toNat).map fun k:Nat=>V.int (lo+k))))):=by
 intro pins s σ H xs us Q I a h;obtain ⟨r,lo,hi,rfl,f,⟨w,p,m,j⟩,S,q⟩:=h;obtain ⟨u,rfl,Y⟩:=a.one;cases Y;obtain ⟨t,u,v,e⟩:=(show ∃t u v,s.heap.get? r=a_ {cls:=.type "range",data:=.fields #[.int lo t,.int hi u,.int 1 v]} from I.hok r _ f)
 refine lP (n:=(hi-lo).toNat) (I.ok.hd d) e (NJ w p m j) (by rw [La];split<;>omega) (by rw [Du] at S;omega) fun g tk acc c J=>?_;have hv:Vals ((Cc (hi-lo).toNat).map fun k:Nat=>V.int (lo+k)) acc.toList:=oO (by rw [Ct];exact J.1) fun i v hi=>by
  obtain ⟨t,e⟩:=J.2 i v (by simpa using hi);exact ⟨t,by rw [e,Lm]⟩
 have U:Inv X pins σ H {s with heap:=g,toks:=tk}:=I.kept c;exact ⟨.ref _,_,U.laid (t':=tk) (fun b o e=>g_ _ e) (m_ _) (show bK X.prog X.w _ (g.push {cls:=.type "tuple",data:=.seq acc}) _ (.tup _) from ⟨by simpa using S,acc.toList,hv,⟨_,k_ _ rfl,rfl,0,by simp⟩⟩),rfl,q _ U.fresh⟩
def fTR (fr:ah->M (List Dat)):ah->M Dat:=fun ρ=>(fr ρ).bind bo
theorem trng_end {Q:VK} {i j:Int} (p:aw K W own F H1 (bo (az i (j-i).toNat)) Q) (s:aN F H1) (a:H1 r=d_) :
  (j-i).toNat<=n_/\∀l,upd H1 r (.rng i j) l=d_->Q (.ref l) (upd (upd H1 r (.rng i j)) l (.tup ((Cc (j-i).toNat).map fun k:Nat=>V.int (i+k)))):=by
 unfold bo at p;by_cases S:(az i (j-i).toNat).length<=n_
 ·rw [p_ S] at p;refine ⟨by simpa [az] using S,fun l J=>?_⟩
  have U:Step F H1 F (upd H1 r (.rng i j)):=Step.grow s a;have Y:=Step.lay (o:=.tup ((Cc (j-i).toNat).map fun k:Nat=>V.int (i+k))) U.fh J;refine p _ _ _ (U.trans Y) ?_;cases own<;>exact ⟨l,_,rfl,SqT.of ao,nh i _⟩
 ·rw [l_ S] at p;exact (W.ns p).elim
theorem xj (b:X.mg "tuple"=d_) (l:X.mg "range"=d_) (q:DA K W X [a] fr) (o: ~~~(X.calm=f_)) (m: ~~~(Gl X "range")) (c: ~~~(Gl X "tuple")) (k: ~~~(j_ [a] X.env=[(c_,Cf a X.env)]))
  (S: ~~~(j_ [.Call (.Name "range" q1) [a] [] q2] X.env=[(c_,Cf (.Call (.Name "range" q1) [a] [] q2) X.env)])):DE K W own X (.Call (.Name "tuple" p) [.Call (.Name "range" q1) [a] [] q2] [] pos) (fTR (gF j6 fr)):=by
 refine PE.imp (jR (o7 o) c b EX (aM (pe_rng1 m l q k) cy S) (by decide) (by decide) S rfl) fun σ H Q h=>?_;obtain ⟨F,ρ,r,s,p⟩:=h;refine ic r s (fun e n=>p.err (by unfold fTR gF;rw [n];rfl)) fun ds hd xs F1 H1 d q1=>?_;have e1:fTR (gF j6 fr) ρ=(j6 ds).bind bo:=by unfold fTR gF;rw [hd];rfl
 rw [e1] at p;have p1:=p.step d;by_cases U:∃j,ds=[.int j]
 ·obtain ⟨j,rfl⟩:=U;obtain ⟨v,vs,e2,q2,e3⟩:=q1;have p2:aw K W own F1 H1 ((if aZ j=f_ then Dz (az 0 j.toNat) else Ek Err.stuck:M (List Dat)).bind bo) Q:=p1;by_cases J:aZ j=f_
  ·rw [p_ J] at p2;unfold aZ at J;simp only [u_,CK] at J;have e4:xs=[.int j]:=by rw [e2,show v=.int j from q2,show vs=[] from e3]
   subst e4;refine ⟨0,j,rfl,rfl,⟨by decide,by decide,J.1,J.2⟩,fun i Y=>?_⟩
   have p3:aw K W own F1 H1 (bo (az 0 (j-0).toNat)) Q:=by rw [Int.sub_zero];exact p2
   obtain ⟨g,f⟩:=trng_end p3 d.fh Y;exact ⟨i,0,j,rfl,ao,⟨by decide,by decide,J.1,J.2⟩,g,f⟩
  ·rw [l_ J] at p2;exact (W.ns p2).elim
 ·have:j6 ds=.error .stuck:=by
   unfold j6;split
   ·exact Cj ⟨_,rfl⟩ U
   ·rfl
  rw [this] at p1;exact (W.ns p1).elim
@[simp] theorem e_TR {ρ:ah}:fTR fr ρ=(fr ρ).bind bo:=id rfl
end
section
open Classical in
end
abbrev ZRec (h:CQ) (z p q:h_) (m k:i_):Prop:=h.get? z=a_ {cls:=.type "zip",dict:=d_,data:=.fields #[m,k,.bool c_,.ref p,.ref q],slots:=#[]}
structure Zs (z p q u v l m:h_) (r k a b:i_) (i j:Nat) (xs ys:Array i_) (h:CQ):Prop where
 me:ZRec h z p q r k
 its:LV h p (.ref u) (.ref v)
 own:LV h q a b
 one:h.IsListIter u l i
 two:h.IsListIter v m j
 xl:h.IsList l xs
 yl:h.IsList m ys
def Off (z q u v:h_) (h h':CQ):Prop:=∀c o,c≠z->c≠q->c≠u->c≠v->h.get? c=a_ o->h'.get? c=a_ o
section
variable {q u v:h_} {a b:i_} {g:CQ}
theorem Off.refl:Off z q u v h h:=fun _ _ _ _ _ _ e=>e
theorem Off.then (A:Off z q u v h h') (B:Off z q u v h' g):Off z q u v h g:=fun c o a b d e x=>B c o a b d e (A c o a b d e x)
end
inductive Mem:i_->Prop
 |no:Mem .none
 |was (a:Int) (t:Tok):Mem (.int a t)
inductive Laid2:Hp->List (V×V)->List V->Hp->Prop
 |nil {G:Hp}:Laid2 G [] [] G
 |cons {G G':Hp} {T:h_} {x y:V} {ps:List (V×V)} {vs:List V}:G T=d_->Laid2 (upd G T (.tup [x,y])) ps vs G'->Laid2 G ((x,y)::ps) (.ref T::vs) G'
theorem Step.stays {o:HO} (s:Step F H F' H') (n:F a=d_) (h:H a=a_ o):F' a=d_:=by
 cases e:F' a with
 |none=>rfl
 |some u=>
  rcases s.nw a u e with z|z
  ·rw [n] at z;cases z
  ·rw [h] at z;cases z
structure rH (K:Fg) (F G H:Hp) (ds:List Dat) (vs:List V):Prop where
 len:vs.length=ds.length
 get:∀(k:Nat) (d:Dat),ds[k]? =a_ d->∃a xs es,vs[k]? =a_ (.ref a)/\d=.lst es/\H a=a_ (.lst xs)/\F a=d_/\G a=d_/\au K F es xs
 ap:∀(j k:Nat) (a:h_),vs[j]? =a_ (.ref a)->vs[k]? =a_ (.ref a)->j=k
section
variable {G:Hp} {vs:List V}
theorem rH.nil:rH K F G H [] []:=⟨rfl,fun k d e=>by simp at e,fun j k a e=>by simp at e⟩
theorem rH.step (o:rH K F G H ds vs) (s:Step F H F' H'):rH K F' G H' ds vs where
 len:=o.len
 get:=fun k d e=>by
  obtain ⟨a,xs,es,h1,h2,J,Y,U,S⟩:=o.get k d e;exact ⟨a,xs,es,h1,h2,s.hh _ _ J,s.stays Y J,U,S.mono s.ff⟩
 ap:=o.ap
theorem rH.back {J:Hp} (o:rH K F G H ds vs) (s:aN J G):rH K F J H ds vs where
 len:=o.len
 get:=fun k d e=>by
  obtain ⟨a,xs,es,h1,h2,b,Y,U,S⟩:=o.get k d e;exact ⟨a,xs,es,h1,h2,b,Y,s.free U,S⟩
 ap:=o.ap
theorem rH.at (o:rH K F G H ds vs) {k:Nat} {a:h_} (h:vs[k]? =a_ (.ref a)):∃xs es,ds[k]? =a_ (.lst es)/\H a=a_ (.lst xs)/\F a=d_/\G a=d_/\au K F es xs:=by
 have J:k<ds.length:=by rw [<- o.len];exact (y_.mp h).1
 obtain ⟨b,xs,es,h1,h2,c,Y,U,S⟩:=o.get k ds[k] (by simp [J]);rw [h] at h1;cases h1;exact ⟨xs,es,by rw [<- h2];simp [J],c,Y,U,S⟩
theorem rH.add (o:rH K F G H ds vs) {es:List Dat} (J:∀k:Nat,vs[k]?≠a_ (.ref a)) (i:H a=a_ (.lst xs)) (h:F a=d_) (g:G a=d_) (f:au K F es xs):rH K F G H (ds++[.lst es]) (vs++[.ref a]) where
 len:=by simp [o.len]
 get:=fun k d e=>by
  rcases Jg k ds.length with z|z|z
  ·rw [DJ z] at e;obtain ⟨b,ys,fs,n,l⟩:=o.get k d e;exact ⟨b,ys,fs,by rw [DJ (by rw [o.len];exact z)];exact n,l⟩
  ·subst z;simp at e;refine ⟨a,xs,es,?_,e.symm,i,h,g,f⟩
   rw [<- o.len];simp
  ·have:=(y_.mp e).1;simp at this;omega
 ap:=fun j k b e1 e2=>by
  have key:∀m,(vs++[V.ref a])[m]? =a_ (.ref b)->(m<vs.length/\vs[m]? =a_ (.ref b))\/(m=vs.length/\b=a):=fun m e=>by
   rcases Jg m vs.length with z|z|z
   ·rw [DJ z] at e;exact .inl ⟨z,e⟩
   ·subst z;simp at e;exact .inr ⟨rfl,e.symm⟩
   ·have:=(y_.mp e).1;simp at this;omega
  rcases key j e1 with ⟨_,U⟩|⟨U,c⟩<;>rcases key k e2 with ⟨_,S⟩|⟨S,Y⟩
  ·exact o.ap j k b U S
  ·subst Y;exact Cj U (J j)
  ·subst c;exact Cj S (J k)
  ·omega
end
section
variable {W:ck} 
theorem rd_turns {p:Pat} {R:List V->Hp->Prop} (r:jJ K F σ ρ) (s:aN F H) (hL:∀ρ d,fe ρ=.ok d->∃es,d=.lst es) (E:∀e,cj fi ix p ft fe ρ=.error e->W.p e F H)
  (Z:∀rs,cj fi ix p ft fe ρ=.ok (.lst rs)->∀ys f H2,Step F H f H2->rH K f H H2 rs ys->R ys H2):iD K W fi σ H fun J H1=>kj J ix (gP K p) (tDT K W ft) (tD K W f_ fe) σ R H1:=by
 refine ⟨F,ρ,r,s,?_⟩
 cases X:fi ρ with
 |error e=>exact E e (by unfold cj;rw [X];rfl)
 |ok ds=>
  intro J F1 H1 A L;have G:cj fi ix p ft fe ρ=if ds.length<=n_ then (aH p ft fe (dG ix ρ) ds).bind fun r=>.ok (.lst r) else .error .stuck:=by unfold cj;rw [X];rfl
  by_cases T:ds.length<=n_
  ·rw [p_ T] at G;rw [G] at E Z;refine ⟨fun i m ys H2=>m=ds.length-i/\i<=ds.length/\∃f S,Step F1 H1 f H2/\rH K f H1 H2 S ys/\S.length<=i /\
    (match aH p ft fe (dG ix ρ) (ds.drop i) with
     |.ok U=>aH p ft fe (dG ix ρ) ds=.ok (S++U)
     |.error e=>W.p e F H),⟨ds.length,by omega,Dg _,F1,[],Step.refl A.fh,rH.nil,Dg _,?_⟩,?_⟩
   ·rw [Gu];cases e:aH p ft fe (dG ix ρ) ds with
    |ok U=>rfl
    |error x=>exact E x (by rw [e];rfl)
   ·rintro i m ys H2 ⟨rfl,hi,f,S,g,I,ly,t⟩;have B:ys.length<=n_:=by rw [I.len];omega
    by_cases h:i<ds.length
    ·have ed:ds.drop i=ds[i]::ds.drop (i+1):=EY h;rw [ed] at t;refine .inr ⟨L.go i f H2 g.ff g.fh h,B,fun u H'=>(i+1<=ds.length/\∃f S,Step F1 H1 f H'/\rH K f H1 H' S u/\S.length<=i+1 /\
      (match aH p ft fe (dG ix ρ) (ds.drop (i+1)) with
       |.ok U=>aH p ft fe (dG ix ρ) ds=.ok (S++U)
       |.error e=>W.p e F H)),fun u H' n=>⟨ds.length-(i+1),by omega,rfl,n⟩,fun x H' y=>?_⟩
     obtain ⟨F3,l,q3⟩:=L.yl i f H2 x H' ds[i] g.ff g.fh (by simp [h]) y;have r3:jJ K F3 (L2.inS ix σ) (dG ix ρ):=(r.mono (A.trans (g.trans l)).ff).inS ix;have w:Step F H F3 H':=A.trans (g.trans l);have ec:aH p ft fe (dG ix ρ) (ds[i]::ds.drop (i+1))=(d9 p ds[i] (dG ix ρ)).bind fun Y=>(ft Y).bind fun b=>if b=f_ then (fe Y).bind fun y=>(aH p ft fe (dG ix ρ) (ds.drop (i+1))).bind fun r=>.ok (y::r) else aH p ft fe (dG ix ρ) (ds.drop (i+1)):=by rw [aH]
     rw [ec] at t;cases D:d9 p ds[i] (dG ix ρ) with
     |error e=>
      rw [D] at t;have:=km D;subst this;exact (W.ns t).elim
     |ok Y=>
      rw [D] at t;refine gP_run r3 l.fh q3 D fun σ2 Q=>?_;have j:match ((ft Y).bind fun b=>if b=f_ then (fe Y).bind fun y=>(aH p ft fe (dG ix ρ) (ds.drop (i+1))).bind fun r=>.ok (y::r) else aH p ft fe (dG ix ρ) (ds.drop (i+1))) with
       |.ok U=>aH p ft fe (dG ix ρ) ds=.ok (S++U)
       |.error e=>W.p e F H:=t
      refine jo Q l.fh (fun e N=>by rw [N] at j;exact W.mono j w) fun b O F5 H5 q=>?_;rw [O] at j;cases b with
      |false=>
       have c:match aH p ft fe (dG ix ρ) (ds.drop (i+1)) with
        |.ok U=>aH p ft fe (dG ix ρ) ds=.ok (S++U)
        |.error e=>W.p e F H:=j
       exact ⟨h,F5,S,g.trans (l.trans q),I.step (l.trans q),by omega,c⟩
      |true=>
       have c:match ((fe Y).bind fun y=>(aH p ft fe (dG ix ρ) (ds.drop (i+1))).bind fun r=>.ok (y::r)) with
        |.ok U=>aH p ft fe (dG ix ρ) ds=.ok (S++U)
        |.error e=>W.p e F H:=j
       refine aI (Q.mono q.ff) q.fh (fun e N=>by rw [N] at c;exact W.mono c (w.trans q)) fun d hd v F6 H6 P q6=>?_;rw [hd] at c;obtain ⟨es,rfl⟩:=hL _ _ hd;obtain ⟨a,xs,ev,g1,g2,g3,g4⟩:=q6;subst ev;have d5:=I.step (l.trans q);refine ⟨h,F6,S++[.lst es],g.trans (l.trans (q.trans P)),(d5.step P).add (fun k hk=>?_) g1 g2 ((g.trans (l.trans q)).hh.free g3) g4,by simp;omega,?_⟩
       ·obtain ⟨_,_,_,z,_⟩:=d5.at hk;rw [g3] at z;cases z
       ·have o:match ((aH p ft fe (dG ix ρ) (ds.drop (i+1))).bind fun r=>.ok (Dat.lst es::r):M (List Dat)) with
         |.ok U=>aH p ft fe (dG ix ρ) ds=.ok (S++U)
         |.error e=>W.p e F H:=c
        cases e7:aH p ft fe (dG ix ρ) (ds.drop (i+1)) with
        |ok U=>
         rw [e7] at o;show _=Dz ((S++[Dat.lst es])++U);rw [Ew];exact o
        |error x=>rw [e7] at o;exact o
    ·have:i=ds.length:=by omega
     subst this;rw [Gz] at t;have C:aH p ft fe (dG ix ρ) ds=.ok (S++[]):=t;rw [Ed] at C;exact .inl ⟨L.st f H2 g.ff g.fh,B,Z S (by rw [C];rfl) ys f H2 (A.trans g) (I.back A.hh)⟩
  ·rw [l_ T] at G;exact (W.ns (E .stuck G)).elim
end
noncomputable def lstOf:Dat->M (List Dat)
 |.lst ds=>.ok ds
 |_=>.error .stuck
def rowAt (rs:List Dat) (a:Int):M (Nat×List Dat):=match ixN rs.length a with
 |some j=>(match rs[j]? with
  |some (.lst es)=>.ok (j,es)
  |_=>.error .stuck)
 |none=>.error .stuck
def oy (rs:List Dat) (J:Nat×List Dat) (b:Int) (x:Dat):M (List Dat):=match ixN J.2.length b with
 |some k=>.ok (rs.set J.1 (.lst (J.2.set k x)))
 |none=>.error .stuck
def sA (i:Nat) (rs:List Dat) (x:Dat) (S:Nat×List Dat) (fB:ah->M Dat) (ρ:ah):M Flo:=(fB (ρ.set i d_)).bind fun b=>(asI b).bind fun b=>(oy rs S b x).bind fun J=>.ok (.nx (ρ.set i (a_ (.lst J))))
def xX (i:Nat) (rs:List Dat) (x:Dat) (fA fB:ah->M Dat) (ρ:ah):M Flo:=(fA (ρ.set i d_)).bind fun a=>(asI a).bind fun a=>(rowAt rs a).bind fun J=>sA i rs x J fB ρ
def zY (i:Nat) (rs:List Dat) (fx fA fB:ah->M Dat) (ρ:ah):M Flo:=(fx (ρ.set i d_)).bind fun x=>xX i rs x fA fB ρ
def uJ (i:Nat) (fc fx fA fB:ah->M Dat):ah->M Flo:=fun ρ=>(fc ρ).bind fun d=>(lstOf d).bind fun rs=>zY i rs fx fA fB ρ
noncomputable def u0 (g:ah->M Flo) (m:M Flo):M Flo:=m.bind fun fl=>match fl with
 |.nx ρ'=>g ρ'
 |fl=>.ok fl
theorem eA {m:M Flo} {e:Err} (h:m=.error e):u0 g m=.error e:=by rw [h];rfl
section
variable {W:ck} 
theorem rs_rows {p:Pat} {fx fB:ah->M Dat} (hL:∀ρ d,fe ρ=.ok d->∃es,d=.lst es) (hi:i<σ.length) (t:tS K W ro F0 H0 OL [] O' (aP (uJ i (cj fi ix p ft fe) fx fA fB) g) D σ H) :
  tSeq (wm i (iD K W fi) ix (gP K p) (tDT K W ft) (tD K W f_ fe)) (tSeq (tAsg (tD K W c_ fx) (gSub (tOp (rIx K) (tVar i) (tD K W c_ fA)) (tD K W c_ fB) rSetL)) (tS K W ro F0 H0 OL [] O' g)) D σ H:=by
 obtain ⟨FB,F,ρ,r,q⟩:=t;have rE:=r.repE;have q0:bY K W ro F0 H0 FB OL O' D (u0 g (uJ i (cj fi ix p ft fe) fx fA fB ρ)):=q;refine rd_turns rE r.st.fh hL (fun e O=>q0.fg r.st (eA (by unfold uJ;rw [O];rfl))) fun rs hrs ys F2 H2 T ow a ha=>?_;have q1:bY K W ro F0 H0 FB OL O' D (u0 g (zY i rs fx fA fB ρ)):=by
  unfold uJ at q0;rw [hrs] at q0;exact q0
 have r2:jJ K F2 (σ.set i (a_ (.ref a))) (ρ.set i d_):=⟨by rw [CB,CB,r.len],fun j d e=>by
  by_cases N:i=j
  ·subst N;rw [B_ (by rw [r.len];exact hi)] at e;cases e
  ·rw [q_ N] at e;obtain ⟨v,h1,h2⟩:=rE.sl j d e;exact ⟨v,by rw [q_ N];exact h1,h2.mono T.ff⟩⟩
 have sg:Step F2 H2 F2 (upd H2 a (.lst ys)):=Step.grow T.fh ha;have l:=T.trans sg;refine aI r2 sg.fh (fun e O=>q1.fg (r.st.trans l) (eA (by unfold zY;rw [O];rfl))) fun x hx v F3 H3 Y qx=>?_;have q2:bY K W ro F0 H0 FB OL O' D (u0 g (xX i rs x fA fB ρ)):=by
  unfold zY at q1;rw [hx] at q1;exact q1
 refine ⟨.ref a,by rw [B_ hi],?_⟩
 refine aI (r2.mono Y.ff) Y.fh (fun e O=>q2.fg (r.st.trans (l.trans Y)) (eA (by unfold xX;rw [O];rfl))) fun da hda va F4 H4 s qa=>?_;cases da with
 |int ka=>
  have y:bY K W ro F0 H0 FB OL O' D (u0 g ((rowAt rs ka).bind fun je=>sA i rs x je fB ρ)):=by
   unfold xX at q2;rw [hda] at q2;exact q2
  have h3a:H3 a=a_ (.lst ys):=Y.hh _ _ ao;have h4a:=s.hh _ _ h3a;have Z:=((ow.step sg).step Y).step s;have R:=l.trans (Y.trans s);cases hj:ixN rs.length ka with
  |none=>exact y.stuck (eA (by unfold rowAt;rw [hj];rfl))
  |some j=>
   have I:=(vk hj).2.1;obtain ⟨b,xs,es,g1,g2,g3,g4,g5,g6⟩:=Z.get j rs[j] (by simp [I]);have erj:rs[j]? =a_ (.lst es):=by rw [<- g2];simp [I]
   have X:bY K W ro F0 H0 FB OL O' D (u0 g (sA i rs x (j,es) fB ρ)):=by
    unfold rowAt at y;rw [hj] at y;have y:bY K W ro F0 H0 FB OL O' D (u0 g (((match rs[j]? with
     |some (.lst es)=>.ok (j,es)
     |_=>.error .stuck):M (Nat×List Dat)).bind fun je=>sA i rs x je fB ρ)):=y
    rw [erj] at y;exact y
   refine .inl ⟨a,ys,ka,.ref b,rfl,qa,SqL.of h4a,?_,?_⟩
   ·unfold atI;rw [ow.len,hj];exact g1
   refine aI (r2.mono (Y.trans s).ff) s.fh (fun e O=>X.fg (r.st.trans R) (eA (by unfold sA;rw [O];rfl))) fun db hdb vb S P U qb=>?_;cases db with
   |int kb=>
    have q5:bY K W ro F0 H0 FB OL O' D (u0 g ((oy rs (j,es) kb x).bind fun rs'=>.ok (.nx (ρ.set i (a_ (.lst rs')))))):=by
     unfold sA at X;rw [hdb] at X;exact X
    cases hk:ixN es.length kb with
    |none=>exact q5.stuck (eA (by unfold oy;rw [show ((j,es):Nat×List Dat).2=es from rfl,hk];rfl))
    |some k=>
     have q6:bY K W ro F0 H0 FB OL O' D (g (ρ.set i (a_ (.lst (rs.set j (.lst (es.set k x))))))):=by
      unfold oy at q5;rw [show ((j,es):Nat×List Dat).2=es from rfl,hk] at q5;exact q5
     have h5a:=U.hh _ _ h4a;have h5b:=U.hh _ _ g3;have A:=Z.step U;have st:Step F H S P:=R.trans U;refine ⟨b,xs,kb,k,rfl,qb,h5b,by rw [g6.length];exact hk,?_⟩
     have ma:H a=d_:=T.hh.free ha;have fa2:F2 a=d_:=T.fh.free ha;have f5a:S a=d_:=(Y.trans (s.trans U)).stays fa2 (ao (H:=H2) (a:=a) (o:=.lst ys));have nab:a≠b:=fun z=>by
      obtain ⟨_,_,_,w,_⟩:=ow.at (k:=j) (a:=b) g1;rw [<- z,ha] at w;cases w
     have E:∀c,(c=a\/∃m:Nat,ys[m]? =a_ (.ref c))->S c=d_/\H c=d_:=fun c h=>by
      rcases h with z|⟨m,z⟩
      ·rw [z];exact ⟨f5a,ma⟩
      ·obtain ⟨_,_,_,_,z1,z2,_⟩:=A.at z;exact ⟨z1,z2⟩
     have Ab:b=a\/∃m:Nat,ys[m]? =a_ (.ref b):=.inr ⟨j,g1⟩;have Q:aN S (plus S (upd P b (.lst (xs.set k v))) fun c=>c=a\/∃m:Nat,ys[m]? =a_ (.ref c)):=fun c o h=>by
      by_cases J:c=a\/∃m:Nat,ys[m]? =a_ (.ref c)
      ·rw [(E c J).1] at h;cases h
      ·rw [dS J];exact h
     have fh:aN (plus S (upd P b (.lst (xs.set k v))) fun c=>c=a\/∃m:Nat,ys[m]? =a_ (.ref c)) (upd P b (.lst (xs.set k v))):=fun c o h=>by
      by_cases J:c=a\/∃m:Nat,ys[m]? =a_ (.ref c)
      ·rw [ij J] at h;exact h
      ·rw [dS J] at h;have:c≠b:=fun z=>J (by rw [z];exact Ab);rw [aq this];exact U.fh c o h
     have C:aN F3 (plus S (upd P b (.lst (xs.set k v))) fun c=>c=a\/∃m:Nat,ys[m]? =a_ (.ref c)):=(s.trans U).ff.trans Q;have B:aN F4 (plus S (upd P b (.lst (xs.set k v))) fun c=>c=a\/∃m:Nat,ys[m]? =a_ (.ref c)):=U.ff.trans Q;refine ⟨FB,plus S (upd P b (.lst (xs.set k v))) (fun c=>c=a\/∃m:Nat,ys[m]? =a_ (.ref c)),ρ.set i (a_ (.lst (rs.set j (.lst (es.set k x))))),?_,q6⟩
     have f:=r.st.trans st;refine ⟨⟨f.ff.trans Q,fun c o h=>?_,fh,fun c o h=>?_⟩,r.fb.trans (st.ff.trans Q),by rw [CB,CB,r.len],fun m d e _=>?_,(fun m d e h=>nomatch h),(fun m n d1 d2 c h=>nomatch h)⟩
     ·have:c≠b:=fun z=>by
       rw [z] at h;have:=r.st.hh _ _ h;rw [(E b Ab).2] at this;cases this
      rw [aq this];exact f.hh c o h
     ·by_cases J:c=a\/∃m:Nat,ys[m]? =a_ (.ref c)
      ·exact .inr (r.st.hh.free (E c J).2)
      ·rw [dS J] at h;exact f.nw c o h
     ·by_cases L:i=m
      ·subst L;rw [B_ (by rw [r.len];exact hi)] at e;cases e;refine ⟨.ref a,by rw [B_ hi],a,ys,rfl,SqL.of ?_,?_⟩
       ·rw [ij (.inl rfl),aq nab];exact h5a
       ·refine au.of_get (by rw [CB];exact ow.len) fun m d u e1 e2=>?_;by_cases G:j=m
        ·subst G;rw [B_ I] at e1;cases e1;rw [g1] at e2;cases e2;exact ⟨b,xs.set k v,rfl,SqL.of (by rw [ij Ab,ao]),au.set (aW.mono C qx) k (g6.mono B)⟩
        ·rw [q_ G] at e1;obtain ⟨c,ws,fs,k1,k2,k3,k4,k5,k6⟩:=A.get m d e1;rw [k1] at e2;cases e2;subst k2;have ncb:c≠b:=fun z=>G (A.ap j m b g1 (by rw [<- z];exact k1));exact ⟨c,ws,rfl,SqL.of (by rw [ij (.inr ⟨m,k1⟩),aq ncb];exact k3),k6.mono Q⟩
      ·rw [q_ L] at e;obtain ⟨u,h1,h2⟩:=rE.sl m d e;exact ⟨u,by rw [q_ L];exact h1,h2.mono (st.ff.trans Q)⟩
   |_=>exact X.stuck (eA (by unfold sA;rw [hdb];rfl))
 |_=>exact q2.stuck (eA (by unfold xX;rw [hda];rfl))
end
theorem AO {fr:ah->M (List Dat)}:∀ρ d,fL kJ fr ρ=.ok d->∃es,d=.lst es:=fun ρ d h=>by
 unfold fL at h;cases e:fr ρ with
 |error x=>rw [e] at h;cases h
 |ok ds=>
  rw [e] at h;have h:kJ ds=.ok d:=h;unfold kJ at h;split at h
  all_goals first
   |(cases h;done)
   |(split at h<;>first|(cases h;done)|(cases h;exact ⟨_,rfl⟩))
   |(cases h;exact ⟨_,rfl⟩)
section
variable {W:ck} {ea eb:Dr} {pt:Pat} {fx fB:ah->M Dat} 
theorem ds_rows (N':List Cy) (ix:List (Option Nat)) (u:X.N.Nodup) (hi:DI K W X tg iter fi) (p:∀L cs s H fp,DG K (aU X N' sc L cs s H fp) tg pt) (n:nz ix (gP K pt))
  (k:∀L cs s H fp,PTs (aU X N' sc L cs s H fp) ifs (tDT K W ft)) (q:∀L cs s H fp,DE K W f_ (aU X N' sc L cs s H fp) elt fe) (w:∀ρ d,fe ρ=.ok d->∃es,d=.lst es)
  (j:DE K W c_ X ex fx) (B:DE K W c_ X ea fA) (A:DE K W c_ X eb fB) (m:DSs K W ro X OL [] O' sts g)
  (b: ~~~(X.N[i]? =a_ x)) (h: ~~~(X.env.scope.names.lookup x=a_ .local)) (r: ~~~(X.calm=f_)) (y: ~~~(X.K=K))
  (U: ~~~(Dx (.ListComp elt [⟨tg,iter,ifs,0⟩] sc pos) (a_ (.Name x py)) spos.line X.env=DC f_))
  (f: ~~~(bj X.N X.env.scope N' sc ix=f_)) (o: ~~~(sc.kind=.function)) (l:autoParam (∀x,E8 iter X.env x=DC x) Jq5)
  (hv:autoParam (Vis X.env.scope x) Jq3) (hd:((x==("__debug__":Cy))=c_)⁻¹) (e:((x==("__classdict__":Cy))=c_)⁻¹) (a:vZ ea:=by exact fun _ _=>rfl)
  (t:autoParam (∀v,GP (.Subscript (.Subscript (.Name x p1) ea p2) eb p3) X.env v=(do
   let J <- Gf [v] (Cf (.Subscript (.Name x p1) ea p2) X.env)
   let S <- Gf [v,J] (Cf eb X.env)
   Ii p3
   Gf [v,J,S] (Nh J S v)
   release [v,J,S] [])) Jq5) (Y: ~~~(Jk [.Subscript (.Subscript (.Name x p1) ea p2) eb p3] ex p4.line X.env=DC c_)) (hw: ~~~(Jl [.Subscript (.Subscript (.Name x p1) ea p2) eb p3] ex X.env=DC d_))
  (h1: ~~~((En [.Subscript (.Subscript (.Name x p1) ea p2) eb p3] X.env).map (·.2)=[GP (.Subscript (.Subscript (.Name x p1) ea p2) eb p3) X.env])) :
  DSs K W ro X OL [] O' (.Assign [.Name x py] (.ListComp elt [⟨tg,iter,ifs,0⟩] sc pos) spos::.Assign [.Subscript (.Subscript (.Name x p1) ea p2) eb p3] ex p4::sts) (aP (uJ i (cj fi ix pt ft fe) fx fA fB) g):=by
 subst y;intro F0 H0 pins s σ H D I z;have c:i<σ.length:=by
  rw [I.len];exact (y_.mp b).1
 refine qh (oE N' ix u b h r hi p n k q U f o l) (qh (Ah j (pg_sub (pe_ix ix_seq (pv i b hv hd e) B a) A set_list t) Y hw h1) (m F0 H0)) pins s σ H D I ?_;exact rs_rows w c z
end
section
theorem yy {q:h_} {xs:Array i_} {Q:Vp} (st:s.heap.IsTupleIter q a i) (J:s.heap.IsTuple a xs) (hv:xs[i]? =a_ v) (k:∀h',h'.IsTupleIter q a (i+1)->Ea q s.heap h'->Q v {s with heap:=h'}):s_ (w_ prog w) A (Fl (.ref q)) Q E s:=by
 obtain ⟨S,e1,e2,e3⟩:=id st;obtain ⟨U,f1,_,Y,f3⟩:=J;have ty:=st.typeIs;unfold Fl;refine b_ (CY (name:=El "__next__") ty EV (CD EV ty Iu ?_ (Il _)));show s_ _ _ (field (.ref q) 0 >>= _) _ _ s;refine b_ (EB e1 e3 (x:=.ref a) rfl ?_);show s_ _ _ (if (x_ a==CG)=f_ then _ else _) _ _ s;rw [l_ (show ¬((x_ a==CG)=f_) from CI)];show s_ _ _ (field (.ref q) 1 >>= _) _ _ s;refine b_ (EB e1 e3 (x:=.int i 0) rfl ?_);show s_ _ _ (Lr (.ref a) >>= _) _ _ s;refine b_ (Ft f1 f3 ?_);simp only [DN,hv];refine b_ (Dh e1 e3 (by simp) (e_ ⟨v,rfl,e_ (k _ ?_ (CM ..))⟩));exact ⟨_,CJ _ e1 (Eh (DZ e3 _)),(Hc ..).trans e2,by rw [DZ e3];simp [Ds]⟩
theorem AE {q:h_} {xs:Array i_} {Q:Vp} (hh:A.handled=d_) (st:s.heap.IsTupleIter q a i) (J:s.heap.IsTuple a xs) (hv:xs[i]? =d_)
  (k:∀h' e,HV q s.heap h'->(∃o,h'.get? e=a_ o/\o.cls=.type "StopIteration")->E (.ref e) {s with heap:=h'}):s_ (w_ prog w) A (Fl (.ref q)) Q E s:=by
 obtain ⟨S,e1,e2,e3⟩:=id st;obtain ⟨U,f1,_,Y,f3⟩:=J;have ty:=st.typeIs;unfold Fl;refine b_ (CY (name:=El "__next__") ty EV (CD EV ty Iu ?_ (Il _)));show s_ _ _ (field (.ref q) 0 >>= _) _ _ s;refine b_ (EB e1 e3 (x:=.ref a) rfl ?_);show s_ _ _ (if (x_ a==CG)=f_ then _ else _) _ _ s;rw [l_ (show ¬((x_ a==CG)=f_) from CI)];show s_ _ _ (field (.ref q) 1 >>= _) _ _ s;refine b_ (EB e1 e3 (x:=.int i 0) rfl ?_);show s_ _ _ (Lr (.ref a) >>= _) _ _ s;refine b_ (Ft f1 f3 ?_);simp only [DN,hv];refine b_ (GN (b_ (Dh e1 e3 (by simp) (b_ ?_))));simp only [KI,KG];refine b_ (Ck ?_ (by size_fits));refine b_ (m:=Hh _ _) (E7 (a:=CG) (by first|rfl|(simp only [firstArgMember];rfl)) ?_);refine Ck ?_ (by size_fits);simp only [KD];refine b_ (HB ?_);first|rw [show A.in1.handled=d_ from hh]|rw [hh]
 exact b_ (e_ (II (k _ _ (((CM ..).extBut.push _).push _) ⟨_,k_ _ rfl,rfl⟩)))
end
theorem tL (Y:A.handled=d_) (q a:h_) (J:a≠q) (xs:Array i_):Draws prog w A q [q,a] xs.size (fun i v=>xs[i]? =a_ v) (fun i h=>h.IsTupleIter q a i/\h.IsTuple a xs) where
 live:=fun _ _ st=>let ⟨o,e,_⟩:=st.1;⟨o,e⟩
 frame:=fun _ _ _ st k=>⟨st.1.at fun o e=>k q (by simp) o e,let ⟨o,e,r⟩:=st.2;⟨o,k a (by simp) o e,r⟩⟩
 item:=fun i s Q E hi st k=>yy st.1 st.2 (v:=xs[i]) (by simp [hi]) fun h' U S=>k _ h' s.toks (by simp [hi]) ⟨U,let ⟨o,e,r⟩:=st.2;⟨o,S.extBut a o J e,r⟩⟩ S
 done:=fun s Q E st k=>AE Y st.1 st.2 (by simp) k
section
theorem Bi (a:h_) (xs:Array i_) (n:Nat) (dd:Option h_) (sl:Array (Option i_)):Meets (Builtin.«enumerate.__new__» ⟨[.type "enumerate",.ref a],[]⟩) (fun _ R s=>s.heap.get? a=a_ {cls:=.type "tuple",dict:=dd,data:=.seq xs n,slots:=sl}/\R (.ok (.ret (.ref (s.heap.push {cls:=.type "tuple_iterator",data:=.fields #[.ref a,.int 0 0]}).objs.size))) {s with heap:=(s.heap.push {cls:=.type "tuple_iterator",data:=.fields #[.ref a,.int 0 0]}).push {cls:=.type "enumerate",data:=.fields #[.none,.bool c_,.ref s.heap.objs.size,Ds 0,.none,.none]}}):=
 .of_wp fun prog w A R s h=>by
  obtain ⟨U,g,d,tk,os⟩:=s;obtain ⟨ea,h⟩:=h;have J:=sub_enumerate;have S:Heap.IsTuple (Shared.heap ⟨U,g,d,tk,os⟩) a xs:=⟨_,ea,rfl,n,rfl⟩
  wp_walk using GZ ea
  refine wpAny_stack_any fun z=>e_ ?_;split
  ·rename_i c _ _ _ _ _;cases (c==DL "enumerate")<;>(wp_walk using GZ ea,Jr S;exact ⟨_,rfl,h⟩)
  ·wp_walk using GZ ea,Jr S
   exact ⟨_,rfl,h⟩
end
section
theorem yZ {xs:Array i_} {Q:Vp} (Y:s.heap.IsTuple a xs)
  (k:∀h',IsEnum h' (s.heap.objs.size+1) s.heap.objs.size 0 .none->h'.IsTupleIter s.heap.objs.size a 0->h'.objs.size=s.heap.objs.size+2->(∀b o,s.heap.get? b=a_ o->h'.get? b=a_ o)->Q (.ref (s.heap.objs.size+1)) {s with heap:=h'}):s_ (w_ prog w) A (Gg (.type "enumerate") [.ref a]) Q E s:=by
 obtain ⟨⟨c,dd,d,sl⟩,e1,e2,n,e3⟩:=Y;have e2:c=.type "tuple":=e2;have e3:d=.seq xs n:=e3;subst e2 e3;refine callType_new PySem.F.called_enumerate (by decide) (PySem.F.typeCall_enumerate_1 _) (PySem.F.newCall_enumerate_1 _) (fun J=>Kl J _) PySem.F.entry_enumerate_new (Bi a xs n dd sl) ⟨e1,?_⟩;have S:(s.heap.push {cls:=.type "tuple_iterator",data:=.fields #[.ref a,.int 0 0]}).objs.size=s.heap.objs.size+1:=CN ..;show _/\_;rw [S];have U:IsEnum ((s.heap.push {cls:=.type "tuple_iterator",data:=.fields #[.ref a,.int 0 0]}).push {cls:=.type "enumerate",data:=.fields #[.none,.bool c_,.ref s.heap.objs.size,Ds 0,.none,.none]}) (s.heap.objs.size+1) s.heap.objs.size 0 .none:=by
  have z:=k_ (s.heap.push {cls:=.type "tuple_iterator",data:=.fields #[.ref a,.int 0 0]}) (o:={cls:=.type "enumerate",data:=.fields #[.none,.bool c_,.ref s.heap.objs.size,Ds 0,.none,.none]}) rfl;rw [S] at z;exact z
 exact ⟨⟨_,U,rfl⟩,k _ U ⟨_,g_ _ (k_ _ rfl),rfl,rfl⟩ (by rw [CN,S]) fun b o z=>g_ _ (g_ _ z)⟩
end
noncomputable def IteT (K:Fg) (a:h_):It:=
 ⟨fun i H=>∃xs x,SqT K H a xs/\xs[i]? =a_ x,fun i H x H'=>∃T y,H T=d_/\x=.ref T/\H'=upd H T (.tup [.int i,y])/\∀xs,SqT K H a xs->xs[i]? =a_ y,fun i H=>∃xs,SqT K H a xs/\xs.length=i⟩
theorem xJ {P:Cn} (a e U:h_) (l:e≠U):Turn P w K (.Tuple elts k pos) (IteT K a) [e,U] e (fun i h=>(∃S,IsEnum h e U i S)/\h.IsTupleIter U a i) where
 mem:=by simp
 obj:=fun i h st b Y=>by
  obtain ⟨⟨S,f⟩,o,e1,c,d⟩:=st;rcases r_.mp Y with L|Y
  ·subst L;exact ⟨_,f,fun v z=>by cases z⟩
  ·have:b=U:=by simpa using Y
   subst this;exact ⟨o,e1,fun v z=>by rw [d] at z;cases z⟩
 keep:=fun i h h' st kk=>by
  obtain ⟨⟨S,f⟩,J⟩:=st;exact ⟨⟨S,kk e (by simp) _ f⟩,J.at fun o x=>kk U (by simp) o x⟩
 item:=by
  intro X hP hw hK hc i pins s σ H E I G st W;subst hP hw hK;obtain ⟨⟨S,f⟩,J⟩:=st;obtain ⟨xs,x,F,Q⟩:=W;obtain ⟨its,N,p,hz⟩:=I.tuple F;obtain ⟨u,hu,ru⟩:=N.get Q;have r:s.heap.IsTuple a its.toArray:=p;have g:a≠U:=fun z=>by
   obtain ⟨o1,n,m,_⟩:=r;obtain ⟨o2,c3,c4,_⟩:=J;rw [z,c3] at n;cases n;rw [c4] at m;exact Cj m (by decide)
  have O:e≠a:=fun z=>by
   obtain ⟨o1,n,m,_⟩:=r;have C:s.heap.get? e=_:=f;rw [z,n] at C;cases C;exact Cj m (by simp)
  have T:i<its.toArray.size:=by
   have:=(y_.mp hu).1;simpa using this
  refine wpAny_pyNext_enum_itemD (tL (A:=X.A.in1) (show X.A.in1.handled=d_ from I.ok.hd hc) U a g its.toArray) f ⟨J,r⟩ T l (by simp [l,O]) fun v h1 tk hv ho t hT hsz hk=>?_;have R:v=u:=by
   have hv:its.toArray[i]? =a_ v:=hv;rw [show its.toArray[i]? =its[i]? by simp,hu] at hv;exact (Cu hv).symm
  subst R;refine ⟨_,rfl,Kz ho fun h2 Z j=>?_⟩
  have B:e<s.heap.objs.size:=o_ f;have D:s.heap.objs.size≠e:=Eb B;have I1:Inv X pins σ (upd H s.heap.objs.size (.tup [.int i,x])) {s with heap:=h2,toks:=tk+1}:=I.ux (ch:=[e,U]) G (fun b o Y q=>by
    have h3:=hk b o (fun z=>Y (by simp [z])) (fun z=>Y (by simp [z])) q;exact (j.2 b (fun z=>Y (by simp [z]))).trans h3) (m_ _) ⟨by show 2<=n_;decide,[.int i tk,v],.cons ⟨_,rfl⟩ (.cons ru .nil),⟨_,(j.2 _ D).trans hT,rfl,0,rfl⟩⟩
  refine ⟨.ref s.heap.objs.size,_,I1,rfl,⟨s.heap.objs.size,x,I.hok.fresh (m_ _),rfl,rfl,fun ys hy=>by rw [I.rR hy F];exact Q⟩,⟨⟨v,by simpa using Z⟩,t.1.at fun o y=>(j.2 U l.symm).trans y⟩,fun b Y=>?_⟩
  have hbn:=(G b Y).1;have:b≠s.heap.objs.size:=by
   rcases r_.mp Y with L|Y
   ·subst L;exact D.symm
   ·have:b=U:=by simpa using Y
    subst this;obtain ⟨o,e1,_⟩:=J;exact Cd (o_ e1)
  rw [aq this];exact hbn
 done:=by
  intro X hP hw hK hc i pins s σ H E I G st W;subst hP hw hK;obtain ⟨⟨S,f⟩,J⟩:=st;obtain ⟨xs,F,Q⟩:=W;obtain ⟨its,N,p,hz⟩:=I.tuple F;have hl:=N.length;have r:s.heap.IsTuple a its.toArray:=p;have g:a≠U:=fun z=>by
   obtain ⟨o1,n,m,_⟩:=r;obtain ⟨o2,c3,c4,_⟩:=J;rw [z,c3] at n;cases n;rw [c4] at m;exact Cj m (by decide)
  have hn:i=its.toArray.size:=by simp;omega
  rw [hn] at J;exact wpAny_pyNext_enum_endD (tL (A:=X.A.in1) (show X.A.in1.handled=d_ from I.ok.hd hc) U a g its.toArray) f ⟨J,r⟩ fun h2 eb=>⟨rfl,I.uy (t':=s.toks) (ch:=[e,U]) G fun b o Y q=>eb b o (fun z=>Y (by simp [z])) q⟩
 self:=fun _ _ _ _ _ st h=>by
  obtain ⟨⟨S,f⟩,_⟩:=st;exact GA f h
theorem yH (t:SqT K F a xs) (z:au K F ds xs):rB K F (IteT K a) (d8 0 ds) where
 go:=fun i F' H' U J hi=>⟨xs,xs[i]'(by rw [z.length];rw [fj] at hi;exact hi),J.tup (U.tup t),by rw [fj] at hi;simp [z.length,hi]⟩
 yl:=fun i F' H' x H2 d U J hd Y=>by
  obtain ⟨T,y,b,ex,c,Y⟩:=Y;subst ex c;rw [n9] at hd;cases S:ds[i]? with
  |none=>rw [S] at hd;cases hd
  |some d'=>
   rw [S] at hd;simp at hd;subst hd;obtain ⟨v,e1,q⟩:=z.get S;have e2:=Y xs (J.tup (U.tup t));rw [e1] at e2;cases e2;refine ⟨upd F' T (.tup [.int i,y]),Step.lay J b,T,_,rfl,SqT.of ao,?_⟩
   exact ⟨.int i,[y],rfl,rfl,y,[],rfl,(q.mono U).mono (aN.upd (J.free b)),rfl⟩
 st:=fun F' H' U J=>⟨xs,J.tup (U.tup t),by rw [z.length,fj]⟩
def ji (fa:ah->M Dat):ah->M (List Dat):=fun ρ=>(fa ρ).bind fun d=>(iy d).bind fun ds=>.ok (d8 0 ds)
@[simp] theorem e_enum2 {fa:ah->M Dat} {ρ:ah}:ji fa ρ=(fa ρ).bind fun d=>(iy d).bind fun ds=>.ok (d8 0 ds):=id rfl
section
variable {W:ck} {a:Dr} 
def iEnum2 (K:Fg) (tl:TE):TI:=fun σ H R=>tl σ H fun x H1=>∃a,x=.ref a/\((∃xs,SqL K H1 a xs)/\R (Ite K a) H1\/(∃xs,SqT K H1 a xs)/\R (IteT K a) H1)
theorem pi_enum2 {tl:TE} (y:Gl X "enumerate") (v:X.mg "enumerate"=d_) (w:PE X a tl) (m: ~~~(j_ [a] X.env=[(c_,Cf a X.env)])) :
  PI X (.Tuple elts k q) (.Call (.Name "enumerate" p) [a] [] pos) (iEnum2 X.K tl):=by
 intro pins s σ H R I h;have z:PA X [a] (ky tl zJ):=aM w cy m;refine K2 (fU I y v boot_enumerate (CF (thn (z pos pins s σ H (fun vs H1=>match vs with
  |[x]=>∃a,x=.ref a/\((∃xs,SqL X.K H1 a xs)/\R (Ite X.K a) H1\/(∃xs,SqT X.K H1 a xs)/\R (IteT X.K a) H1)
  |_=>False) I h) fun us J ⟨vs,H1,U,e,q1⟩=>?_) m rfl))
 match vs,e,q1 with
 |[x],e,⟨l,e1,q⟩=>
  subst e1;obtain ⟨u,rfl,r⟩:=e.one;cases r;have d:∀b∈[J.heap.objs.size+1,J.heap.objs.size],zp X pins H1 b:=fun b i=>by
   have c:J.heap.objs.size<=b:=by
    rcases r_.mp i with n|i
    ·subst n;exact Ee _
    ·have:b=J.heap.objs.size:=by simpa using i
     exact Jh this.symm
   exact U.fpOk c (U.hok.fresh c)
  rcases q with ⟨⟨xs,f⟩,q⟩|⟨⟨xs,f⟩,q⟩
  ·obtain ⟨its,o,pl,t⟩:=U.list f;refine MM pl.isList fun h2 Y S hsz g=>?_;have j:Inv X pins σ H1 {J with heap:=h2}:=U.kept (t':=J.toks) g;refine GA Y ?_;exact ⟨J.heap.objs.size+1,[J.heap.objs.size+1,J.heap.objs.size],_,_,H1,rfl,j,rO l _ _ (Hr _),⟨⟨_,Y⟩,S⟩,d,q⟩
  ·obtain ⟨its,o,pl,t⟩:=U.tuple f;refine yZ (show J.heap.IsTuple l its.toArray from pl) fun h2 Y S hsz g=>?_;have j:Inv X pins σ H1 {J with heap:=h2}:=U.kept (t':=J.toks) g;refine GA Y ?_;exact ⟨J.heap.objs.size+1,[J.heap.objs.size+1,J.heap.objs.size],_,_,H1,rfl,j,xJ l _ _ (Hr _),⟨⟨_,Y⟩,S⟩,d,q⟩
theorem ri_enum2 {R:It->Hp->Prop} (h:iD K W (ji fa) σ H R):iEnum2 K (tD K W c_ fa) σ H R:=by
 obtain ⟨F,ρ,r,s,p⟩:=h;refine aI r s (fun e S=>?_) fun d hd v F1 H1 J q1=>?_
 ·have z:ji fa ρ=.error e:=by unfold ji;rw [S];rfl
  rw [z] at p;exact p
 ·have z:ji fa ρ=(iy d).bind fun ds=>.ok (d8 0 ds):=by unfold ji;rw [hd];rfl
  rw [z] at p;cases d with
  |lst ds=>
   obtain ⟨b,xs,e,t,z⟩:=q1;exact ⟨b,e,.inl ⟨⟨xs,J.fh.lst t⟩,p _ F1 H1 J (sW t z)⟩⟩
  |tup ds=>
   obtain ⟨b,xs,e,t,z⟩:=q1;exact ⟨b,e,.inr ⟨⟨xs,J.fh.tup t⟩,p _ F1 H1 J (yH t z)⟩⟩
  |_=>exact (W.ns p).elim
theorem qQ (S:X.mg "enumerate"=d_) (U:DE K W c_ X a fa) (Y: ~~~(Gl X "enumerate")) (J: ~~~(j_ [a] X.env=[(c_,Cf a X.env)])) (b: ~~~(X.K=K)) :
  DI K W X (.Tuple elts k q) (.Call (.Name "enumerate" p) [a] [] pos) (ji fa):=by
 subst b;exact (pi_enum2 Y S U J).imp fun _ _ _=>ri_enum2
end
structure Ys (z p q u v l m:h_) (r k a b:i_) (i j:Nat) (xs ys:Array i_) (h:CQ):Prop where
 me:ZRec h z p q r k
 its:LV h p (.ref u) (.ref v)
 own:LV h q a b
 one:h.IsTupleIter u l i
 two:h.IsTupleIter v m j
 xl:h.IsTuple l xs
 yl:h.IsTuple m ys
structure RepR (K:Fg) (F0 H0 FB:Hp) (i:Nat) (a:h_) (ys:List V) (rs:List Dat) (F H:Hp) (σ:St) (ρ:ah):Prop where
 r:Rep K F0 H0 FB [] F H σ ρ
 sl:σ[i]? =a_ (a_ (.ref a))
 hp:H a=a_ (.lst ys)
 fa:F a=d_
 ha:H0 a=d_
 nm:∀m:Nat,ys[m]?≠a_ (.ref a)
 ow:rH K F H0 H rs ys
section
variable {ys:List V} {rs:List Dat} 
theorem RepR.step (h:RepR K F0 H0 FB i a ys rs F H σ ρ) (s:Step F H F1 H1):RepR K F0 H0 FB i a ys rs F1 H1 σ ρ:=
 ⟨h.r.step s,h.sl,s.hh _ _ h.hp,s.stays h.fa h.hp,h.ha,h.nm,h.ow.step s⟩
theorem RepR.base {J:Hp} (h:RepR K F0 H0 FB i a ys rs F H σ ρ) (s:aN J FB):RepR K F0 H0 J i a ys rs F H σ ρ:=⟨h.r.base s,h.sl,h.hp,h.fa,h.ha,h.nm,h.ow⟩
end
section
variable [Mm κ]
noncomputable def dropK (J:List (κ×V)) (k:κ):List (κ×V):=J.filter fun S=>Ca (S.1≠k)
theorem pF.B5 {o:Option V} {u:Option i_} (r:pF o u):o.isSome=u.isSome:=by
 cases o with
 |none=>cases u with
  |none=>rfl
  |some _=>exact (show False from r).elim
 |some _=>cases u with
  |none=>exact (show False from r).elim
  |some _=>rfl
theorem pF.getD {o:Option V} {u:Option i_} {d:V} {d':i_} (r:pF o u) (rd:RelV d d'):RelV (o.getD d) (u.getD d'):=by
 cases o with
 |none=>cases u with
  |none=>exact rd
  |some _=>exact (show False from r).elim
 |some _=>cases u with
  |none=>exact (show False from r).elim
  |some _=>exact r
theorem KV.drop {J:List (κ×V)} {vs:List (κ×i_)} (r:KV J vs) (k:κ):KV (dropK J k) (without vs k):=by
 unfold KV at r ⊢;unfold dropK without
 induction r with
 |nil=>exact .nil
 |@cons p q ps qs h t S=>
  obtain ⟨h1,h2⟩:=h;rw [Mi,Mi];by_cases e:p.1=k
  ·have a:¬Ca (p.1≠k)=f_:=by simp [e]
   have b:¬Ca (q.1≠k)=f_:=by simp [h1.symm.trans e]
   rw [l_ a,l_ b];exact S
  ·have U:¬q.1=k:=fun z=>e (h1.trans z);have a:Ca (p.1≠k)=f_:=by simp [e]
   have b:Ca (q.1≠k)=f_:=by simp [U]
   rw [p_ a,p_ b];exact .cons ⟨h1,h2⟩ S
theorem KV.length {J:List (κ×V)} {vs:List (κ×i_)} (r:KV J vs):J.length=vs.length:=G7 r
end
section
theorem Inv.big (I:Inv X pins σ H s):DO<s.heap.objs.size:=by
 have h:CS<s.heap.objs.size:=(I.mod.glob.keeps I.bk).lt;exact HE (by decide) h
end
def zI:List (TE×TE)->St->Hp->(List (V×V)->Hp->Prop)->Prop
 |[],_,H,Q=>Q [] H
 |(tk,tv)::r,σ,H,Q=>tk σ H fun x H1=>tv σ H1 fun y H2=>zI r σ H2 fun ps J=>Q ((x,y)::ps) J
abbrev VV:List (V×V)->List (i_×i_)->Prop:=Gv fun p q=>RelV p.1 q.1/\RelV p.2 q.2
def PPs (X:Cx) (pos:Nu) (S:List (Option Dr)) (J:List Dr) (U:List (TE×TE)):Prop:=
 ∀(pins:Pn) (s:t_) (σ:St) (H:Hp) (Q:List (V×V)->Hp->Prop),Inv X pins σ H s->zI U σ H Q ->
  s_ (w_ X.prog X.w) X.A (evalPairs (pairTrees S J X.env pos)) (fun vs s'=>∃ps H',Inv X pins σ H' s'/\VV ps vs/\Q ps H') X.xe s
theorem pps_nil:PPs X pos [] [] []:=fun pins s σ H Q I h=>pairTrees_nil_walk ⟨[],H,I,.nil,h⟩
theorem pps_cons {k v:Dr} {ks:List (Option Dr)} {vs:List Dr} {tk:TE} {J:List (TE×TE)} (e:PE X k tk) (hv:PE X v tv) (d:PPs X pos ks vs J) :
  PPs X pos (a_ k::ks) (v::vs) ((tk,tv)::J):=fun pins s σ H Q I h=>
 pairTrees_cons_walk (thn (e pins s σ H _ I h) fun u Y ⟨x,H1,i,b,q1⟩=>thn (hv pins Y σ H1 _ i q1) fun m U ⟨y,H2,g,a,q2⟩=>
  thn (d pins U σ H2 _ g q2) fun l n ⟨ps,j,f,S,c⟩=>⟨(x,y)::ps,j,f,.cons ⟨b,a⟩ S,c⟩)
structure M1 (X:Cx) (o:Dr) (m:Cy) (apos:Nu) (e:Dr) (cpos:Nu):Prop where
 base:DH o m X.env (Cf o X.env)=Cf o X.env
 few:((CZ cpos (j_ [e] X.env)).all (fun x=> !x.1)&&(Gk cpos (ES [] X.env)).all (fun x=>x.1.isSome)
  &&Ca (([e]:List Dr).length+([]:List Gs).length+(if ([]:List Gs).isEmpty then 0 else 1)<30))=f_
 line:(apos.endLine==cpos.line)=f_
 trees:CZ cpos (j_ [e] X.env)=[(c_,Cf e X.env)]
structure M2 (X:Cx) (o:Dr) (m:Cy) (apos:Nu) (e f:Dr) (cpos:Nu):Prop where
 base:DH o m X.env (Cf o X.env)=Cf o X.env
 few:((CZ cpos (j_ [e,f] X.env)).all (fun x=> !x.1)&&(Gk cpos (ES [] X.env)).all (fun x=>x.1.isSome)
  &&Ca (([e,f]:List Dr).length+([]:List Gs).length+(if ([]:List Gs).isEmpty then 0 else 1)<30))=f_
 line:(apos.endLine==cpos.line)=f_
 trees:CZ cpos (j_ [e,f] X.env)=[(c_,Cf e X.env),(c_,Cf f X.env)]
noncomputable def keysI (ks:List Int):List (Key×V):=ks.map fun k=>(Ip k,.bl f_)
structure RepK (K:Fg) (F0 H0 FB:Hp) (i:Nat) (a:h_) (ks:List Int) (F H:Hp) (σ:St) (ρ:ah):Prop where
 r:Rep K F0 H0 FB [] F H σ ρ
 sl:σ[i]? =a_ (a_ (.ref a))
 hp:H a=a_ (.dK (keysI ks))
 fa:F a=d_
 ha:H0 a=d_
section
theorem RepK.step (h:RepK K F0 H0 FB i a ks F H σ ρ) (s:Step F H F1 H1):RepK K F0 H0 FB i a ks F1 H1 σ ρ:=
 ⟨h.r.step s,h.sl,s.hh _ _ h.hp,s.stays h.fa h.hp,h.ha⟩
end
structure ExA (h:CQ) (e:h_) (C:i_) (dx hd:Option h_):Prop where
 ob:∃oe vs,h.get? e=a_ oe/\oe.cls=C/\oe.dict=dx/\oe.data=.fields vs/\vs[1]? =a_ (hd.elim CG x_)
 tb:∀T,hd=a_ T->T≠e/\∃oT ts,h.get? T=a_ oT/\oT.data=.fields ts/\ts[3]? =a_ .none
theorem dictMapF (f:Array i_->Array i_) (o:GX):(o.mapFields f).dict=o.dict:=by
 obtain ⟨c,d,J,sl⟩:=o;cases J<;>rfl
theorem size3 {l:List i_} (h:3<l.length):3<l.toArray.size:=by rw [z_];exact h
section
variable {M:Kb} 
theorem mkEntry {fv J:i_} {pl:List i_} {Q:Vp} (S:IsPlace pl) (h:∀(o:GX) (ts:Array i_),o.data=.fields ts->3<ts.size->o.isFreed=c_->Q (.ref s.heap.objs.size) {s with heap:=s.heap.push o}) :
  s_ M A (Hw hv fv .none J .none pl) Q E s:=by
 unfold Hw newFields;refine Ck (h _ _ rfl (size3 ?_) ?_) (S.sizeOk5 _ _ _ _ _)
 ·simp
 ·exact Eh rfl
structure Left (fs:List h_) (e:h_) (hd:Option h_) (h h':CQ):Prop where
 keep:∀b o,h.get? b=a_ o->b∉fs->b≠e->(∀T,hd=a_ T->b≠T)->h'.get? b=a_ o
 slot:∀b o,h.get? b=a_ o->b∈fs->∃sl,h'.get? b=a_ {o with slots:=sl}
 size:h.objs.size<=h'.objs.size
theorem entry_at {base:CQ} {e:h_} {C:i_} {vs:Array i_} {Q:Unit->t_->Prop}
  (j:A.frames=a_ (env::outer)) (y:s.heap.FunFrames base (env::outer)) (N:env.frame=a_ L) (B:s.heap.get? e=a_ oe) (O:oe.cls=C) (l:oe.dict=dx) (hd:oe.data=.fields vs) (g:1<vs.size)
  (h:∀h' T,ExA h' e C dx (a_ T)->s.heap.objs.size<=T->Left (frs (env::outer)) e d_ s.heap h'->Q () {s with heap:=h'}) :
  s_ M A (frameOf env >>= fun a=>entryPlaceOf L bn >>= fun pl=>Hw hv a .none (Ds L) .none pl >>= fun b=>KC (.ref e) 1 b) (fun _ s'=>s_ M A (IX (.ref e) d_) Q E s') E s:=by
 have U:∀b o,b∈frs (env::outer)->s.heap.get? b=a_ o->∀vs,o.data≠.fields vs:=fun b o i q=>by
  obtain ⟨_,o',J,n⟩:=y.mem i;rw [q] at J;cases J;exact n
 have S:e∉frs (env::outer):=fun i=>U e oe i B vs hd;refine b_ (wpAny_frameOf_fun j y N fun h1 H=>?_);obtain ⟨u,t,G⟩:=H;refine b_ (wpAny_entryPlaceOf fun pl K=>?_);refine b_ (mkEntry K fun o ts w D k=>?_);have e1:h1.get? e=a_ oe:=by rw [t e S];exact B
 have d:h1.objs.size≠e:=fun z=>Cj (o_ e1) (by rw [z];exact C_ _);have e2:(h1.push o).get? e=a_ oe:=g_ o e1;have I:(h1.push o).get? h1.objs.size=a_ o:=k_ h1 k;refine Dh e2 hd g ?_;have r:=DZ hd (·.setIfInBounds 1 (x_ h1.objs.size));have e3:=CJ (h:=h1.push o) (DQ (·.setIfInBounds 1 (x_ h1.objs.size))) e2 (Eh r);have v:((h1.push o).update e (DQ (·.setIfInBounds 1 (x_ h1.objs.size)))).get? h1.objs.size=a_ o:=by
  rw [Ce _ _ (CV d)];exact I
 unfold IX;refine b_ (EB e3 r (x:=.ref h1.objs.size) (by simp [g]) ?_);rw [p_ (by simp)];refine Dh v w D ?_;have F:=DZ w (·.setIfInBounds 3 ((d_:Option h_).elim CG fun f=>Ds f));refine h _ h1.objs.size ⟨⟨_,_,by rw [Ce _ _ d];exact e3,by rw [Hc];exact O,by rw [dictMapF];exact l,r,by simp [g]⟩,fun T P=>?_⟩ (by rw [u];exact m_ _) ⟨fun b o' q p m _=>?_,fun b o' q p=>?_,?_⟩
 ·cases P;exact ⟨d,_,_,CJ _ v (Eh F),F,by simp [D]⟩
 ·have q1:h1.get? b=a_ o':=by rw [t b p];exact q
  have c:h1.objs.size≠b:=fun z=>Cj (o_ q1) (by rw [z];exact C_ _);rw [Ce _ _ c,Ce _ _ (CV m)];exact g_ o q1
 ·obtain ⟨sl,q1⟩:=G b o' q;have c:h1.objs.size≠b:=fun z=>Cj (o_ q1) (by rw [z];exact C_ _);have Y:e≠b:=fun z=>S (z▸p);refine ⟨sl,?_⟩
  rw [Ce _ _ c,Ce _ _ Y];exact g_ o q1
 ·rw [FY,FY,CN,u];exact Ee _
theorem leave2 {base:CQ} {e:h_} {C:i_} {hd:Option h_} {Q:Unit->t_->Prop}
  (g:A.frames=a_ (env::outer)) (m:s.heap.FunFrames base (env::outer)) (p:env.frame=a_ L) (x:ExA s.heap e C dx hd)
  (h:∀h' T,ExA h' e C dx (a_ T)->s.heap.objs.size<=T->Left (frs (env::outer)) e hd s.heap h'->Q () {s with heap:=h'}):s_ M A (Lu (.ref e) env) (fun _ s'=>s_ M A (IX (.ref e) d_) Q E s') E s:=by
 obtain ⟨oe,vs,j,y,i,S,h1⟩:=x.ob;have w:1<vs.size:=(D_.mp h1).1;unfold Lu;simp only [p];cases hd with
 |none=>
  refine b_ (EB j S h1 ?_);rw [l_ (by decide)];exact entry_at g m p j y i S w fun h' T a b c=>h h' T a b c
 |some T=>
  obtain ⟨k,F,ts,u,U,B⟩:=x.tb T rfl;have l:3<ts.size:=(D_.mp B).1;refine b_ (EB j S h1 ?_);rw [p_ (by simp)];refine b_ (EB (x:=.none) u U B ?_);rw [l_ (by simp [Ds])];refine b_ (Dh u U l ?_);have J:∀b,b≠T->(s.heap.update T (DQ (·.setIfInBounds 3 CG))).get? b=s.heap.get? b:=fun b Y=>Ce _ _ (CV Y);have v:∀b o,s.heap.get? b=a_ o->(∀vs,o.data≠.fields vs)->b≠T:=fun b o q n z=>by
   subst z;rw [u] at q;cases q;exact n ts U
  refine entry_at g (m.of_keeps fun b o q n=>⟨o,by rw [J b (v b o q n)];exact q,rfl⟩) p (by rw [J e (CV k)];exact j) y i S w fun h' D a b c=>?_;refine h h' D a (by rw [FY] at b;exact b) ⟨fun d o q Y r t=>c.keep d o (by rw [J d (t T rfl)];exact q) Y r (fun _ z=>nomatch z),fun d o q Y=>?_,?_⟩
  ·obtain ⟨_,o',f,n⟩:=m.mem Y;rw [q] at f;cases f;exact c.slot d o (by rw [J d (v d o q n)];exact q) Y
  ·have:=c.size;rw [FY] at this;exact this
theorem leave_at {base:CQ} {e:h_} {C:i_} {hd:Option h_} {Q:Unit->t_->Prop}
  (J:A.frames=a_ (env::outer)) (S:s.heap.FunFrames base (env::outer)) (U:env.frame=a_ L) (x:ExA s.heap e C dx hd)
  (h:∀h' T,ExA h' e C dx (a_ T)->s.heap.objs.size<=T->Left (frs (env::outer)) e hd s.heap h'->Q () {s with heap:=h'}):s_ M A (Nj env (.ref e)) Q E s:=by
 unfold Nj;exact b_ (leave2 J S U x h)
end
structure CXs (P:Cn) (w:Dv) (outer:List J8) (H:Hp) (s:t_) (E:XK) (a T:h_) (C:i_) (dx:Option h_) (H':Hp) (s':t_):Prop where
 ex:ExA s'.heap a C dx (a_ T)
 na:s.heap.get? a=d_
 nT:s.heap.get? T=d_
 fa:H' a=d_
 fT:H' T=d_
 os:s'.os=s.os
 bare:Hx s'.gens
 un:Un (frs outer) [] H H' s.heap s'.heap
 hok:HOk P w H' s'.heap
 want:E C dx H'
def CXd (P:Cn) (w:Dv):CXT:=fun outer H s E e s'=>∃(a T:h_) (C:i_) (dx:Option h_) (H':Hp),e=.ref a/\CXs P w outer H s E a T C dx H' s'
theorem get_none (z:h.objs.size<=a):h.get? a=d_:=by
 cases e:h.get? a with
 |none=>rfl
 |some o=>exact Cj (o_ e) (J9.mpr z)
theorem Inv.w9 (I:Inv X pins σ H s) (J:X.ex=[]) (e:s.heap.get? a=d_):X.s₀.heap.get? a=d_:=by
 cases q:X.s₀.heap.get? a with
 |none=>rfl
 |some o=>
  obtain ⟨o',z⟩:=I.base.there a o q (by rw [J];exact fun z=>nomatch z);rw [e] at z;cases z
theorem bK.is {P:Cn} {o:HO} (x:bK P w H h a o):∃u,h.get? a=a_ u:=by
 cases o with
 |lst xs=>obtain ⟨_,_,_,_,e⟩:=x;exact ⟨_,e⟩
 |tup xs=>obtain ⟨_,_,_,U,e,_⟩:=x;exact ⟨_,e⟩
 |dK J=>obtain ⟨_,_,_,_,o,_,_,e,_⟩:=x;exact ⟨_,e⟩
 |dT J=>obtain ⟨_,_,_,_,o,_,_,e,_⟩:=x;exact ⟨_,e⟩
 |set S n=>obtain ⟨o,_,_,_,e,_⟩:=x;exact ⟨_,e⟩
 |ins C dx fs=>obtain ⟨_,_,_,e,_⟩:=x;exact ⟨_,e⟩
 |own y=>exact x
 |xd fs=>obtain ⟨_,⟨_,_,_,e,_⟩,_⟩:=x;exact ⟨_,e⟩
 |rng lo hi=>obtain ⟨_,_,_,e⟩:=x;exact ⟨_,e⟩
 |frz U u=>obtain ⟨e,_⟩:=x;exact ⟨_,e⟩
 |tbl ps=>exact ⟨_,show h.get? a=a_ _ from x⟩
 |met f y=>exact ⟨_,show h.get? a=a_ _ from x⟩
 |ext Y=>obtain ⟨_,e,_⟩:=x;exact e
section
variable {P:Cn} {base:CQ} {f:h_} {E:XK}
theorem xe_of {C:i_} {hd:Option h_} (J:Inv (xm (CXd P w) P w K mg base N qual scope f cd A outer s H E) pins σ H' s') (x:ExA s'.heap a C dx hd)
  (p:s.heap.get? a=d_) (F:∀T,hd=a_ T->s.heap.get? T=d_/\H' T=d_) (fa:H' a=d_) (q:E C dx H'):(xm (CXd P w) P w K mg base N qual scope f cd A outer s H E).xe (.ref a) s':=by
 have y:=J.env0;have t:∀b∈frs (FV qual scope s.heap.objs.size f cd::outer),H' b=d_:=y.frf;have m:∀b o,s.heap.get? b=a_ o->b≠a/\(∀T,hd=a_ T->b≠T)/\b<s.heap.objs.size:=fun b o e=>by
  have U:=o_ e;exact ⟨fun z=>(by subst z;rw [e] at p;cases p),fun T h z=>(by subst z;have:=(F _ h).1;rw [e] at this;cases this),U⟩
 have i:∀b,b<s.heap.objs.size->b∈frs (FV qual scope s.heap.objs.size f cd::outer)->b∈frs outer:=fun b U r=>by
  rcases Fq.mp r with ⟨v,hv,e⟩
  rcases r_.mp hv with z|z
  ·subst z;have:s.heap.objs.size=b:=by simpa [FV] using e
   omega
  ·exact Fq.mpr ⟨v,z,e⟩
 have Y:∀b,b∈frs outer->b∈frs (FV qual scope s.heap.objs.size f cd::outer):=fun b r=>by
  rcases Fq.mp r with ⟨v,hv,e⟩
  exact Fq.mpr ⟨v,Cw _ hv,e⟩
 have S:Un (frs outer) [] H H' s.heap s'.heap:=J.base;show s_ (w_ P w) (A.deeper (FV qual scope s.heap.objs.size f cd)) (Nj (FV qual scope s.heap.objs.size f cd) (.ref a)) (fun _ d=>CXd P w outer H s E (.ref a) d) (fun B d=>CXd P w outer H s E B d) s';refine leave_at (base:=base) y.frames y.tf rfl x fun h' T O h k=>⟨a,T,C,dx,H',rfl,O,p,get_none (C9 (show s.heap.objs.size<=s'.heap.objs.size from J.sz) h),fa,?_,J.os,J.bare,?_,?_,q⟩
 ·exact J.hok.fresh h
 ·have D:∀b o,s.heap.get? b=a_ o->∀o',s'.heap.get? b=a_ o'->b∉frs outer->h'.get? b=a_ o':=fun b o e o' B U=>by
   obtain ⟨L,I,G⟩:=m b o e;exact k.keep b o' B (fun z=>U (i b G z)) L I
  refine ⟨fun b o e n U j=>D b o e o (S.keep b o e n U j) U,fun b o e n U j=>?_,S.free,fun b o e j=>?_,S.tups,S.frzs,S.tbls⟩
  ·obtain ⟨sl,e1⟩:=S.slot b o e n U j;obtain ⟨l,e2⟩:=k.slot b _ e1 (Y b U);exact ⟨l,e2⟩
  ·obtain ⟨o',e1⟩:=S.there b o e j;by_cases U:b∈frs outer
   ·obtain ⟨sl,e2⟩:=k.slot b o' e1 (Y b U);exact ⟨_,e2⟩
   ·exact ⟨o',D b o e o' e1 U⟩
 ·intro b o e;refine (J.hok b o e).uz (fun c u Q e1=>?_) (fun _ z=>z) fun _ _ z=>z;have g:H' c≠d_:=by
   rcases Q with z|z
   ·rw [z,e];exact fun z=>nomatch z
   ·rw [z];exact fun z=>nomatch z
  exact k.keep c u e1 (fun z=>g (t c z)) (fun z=>g (by rw [z];exact fa)) fun T h z=>g (by rw [z];exact (F T h).2)
end
noncomputable def WE (K:Fg) (E:XK):ck where
 p:=fun e F H=>match e with
  |.stuck=>False
  |.exc C fs=>∀F' H',Step F H F' H'->match fs with
   |[]=>E (.ref C) d_ H'
   |fs=>∀d gs,F' d=a_ (.xd gs)->kr K F' fs gs->E (.ref C) (a_ d) H'
 mono:=fun {e F H F' H'} h s=>by
  cases e with
  |stuck=>exact h
  |exc C fs=>exact fun S H2 J=>h S H2 (s.trans J)
 ns:=fun h=>h
noncomputable def noX {α:Type}:M α->M α
 |.ok d=>.ok d
 |.error _=>.error .stuck
@[simp] theorem noX_ok {α:Type} (d:α):noX (.ok d:M α)=.ok d:=id rfl
def fNoX {α:Type} (f:ah->M α):ah->M α:=fun ρ=>noX (f ρ)
@[simp] theorem e_fNoX {α:Type} (f:ah->M α) (ρ:ah):fNoX f ρ=noX (f ρ):=id rfl
section
variable {W:ck} {own:Bool} 
theorem de_lift {f:ah->M Dat} (h:DE K Wno own X.nox e f):DE K W own X e (fNoX f):=PE.imp (PE.nox h) fun σ H Q ⟨F,ρ,r,s,p⟩=>by
 refine ⟨F,ρ,r,s,?_⟩
 have p:aw K W own F H (noX (f ρ)) Q:=p;cases e:f ρ with
 |ok d=>rw [e] at p;exact p
 |error x=>rw [e] at p;exact (W.ns p).elim
theorem dss_lift {st:List Dt} (h:DSs K Wno ro X.nox OL O O' st g):DSs K W ro X OL O O' st (fNoX g):=fun F0 H0=>PSs.imp (PSs.nox (h F0 H0)) fun D σ H ⟨FB,F,ρ,r,p⟩=>by
 refine ⟨FB,F,ρ,r,?_⟩
 have p:bY K W ro F0 H0 FB OL O' D (noX (g ρ)):=p;unfold bY at p ⊢;cases e:g ρ with
 |ok fl=>
  rw [e] at p;cases fl<;>exact p
 |error x=>rw [e] at p;exact (W.ns p).elim
end
def spX (K:Fg) (ro:Bool) (g:List Dat->M Dat) (n:Nat):Sp:=fun vs H Q E=>∃F ds,aN F H/\au K F ds vs/\ds.length=n/\aw K (WE K E) ro F H (g ds) Q
section
variable {P:Cn} {base:CQ}
theorem fn_X {f:h_} (F:Fun K x qual st f fd) (S:gq N ps (aB st)) (ro:Bool) (g:ah->M Flo)
  (c:∀(cdv:i_) (A:D0) (outer:List J8) (s:t_) (H:Hp) (E:XK),gz k (A.deeper (FV qual (aB st) s.heap.objs.size f cdv)) ->
   DSs K (WE K E) ro (xm (CXd P w) P w K mg base N qual (aB st) f cdv A outer s H E) [] [] O' (br st) g):iN P w K mg base (CXd P w) (k+1) f fd ps (spX K ro (bL N.length ps.length g) ps.length):=by
 obtain ⟨oc,od,kV,doc,pm,an,cdv,ct,osl,rfl,Y,J⟩:=F.ex;refine fn_of Y J S (fun vs H Q E ⟨F,ds,s,q,l,p⟩=>by rw [q.length,l]) fun A outer s H vs Q E b ⟨F1,ds,U,q,l,p⟩=>⟨_,c cdv A outer s H E b F1 H,F1,F1,ds.map a_++Dl (N.length-ds.length) d_,?_,?_⟩
 ·refine ⟨Step.refl U,aN.refl _,?_,fun i d e _=>rW q e,(fun i d e h=>nomatch h),(fun i j ds es a h=>nomatch h)⟩
  unfold start;rw [CP,CP,v_,v_,FE,FE,q.length]
 ·have e1:bL N.length ps.length g ds=(g (ds.map a_++Dl (N.length-ds.length) d_)).bind fun fl=>match fl with
   |.nx _=>.ok .non
   |.rt d=>.ok d
   |_=>stk:=by
    unfold bL;exact p_ l
  rw [e1] at p;cases e2:g (ds.map a_++Dl (N.length-ds.length) d_) with
  |error z=>rw [e2] at p;exact p
  |ok fl=>
   rw [e2] at p;cases fl with
   |nx ρ=>exact fun σ F H r=>p .non F H r.st (by cases ro<;>rfl)
   |rt d=>exact fun v F H st q=>p v F H st q
   |bk ρ=>exact aw.stuck p
   |ct ρ=>exact aw.stuck p
end
section
variable {C:i_} {hd:Option h_}
structure Apart (X:Cx) (pins:Pn) (H:Hp) (s:t_) (a:h_) (hd:Option h_):Prop where
 na:X.s₀.heap.get? a=d_
 fa:H a=d_
 pa:∀p∈X.pn++pins,p.1≠a
 nT:∀T,hd=a_ T->X.s₀.heap.get? T=d_/\H T=d_/\∀p∈X.pn++pins,p.1≠T
theorem Inv.left (I:Inv X pins σ H s) (hx:X.ex=[]) (x:ExA s.heap a C dx hd) (f:Apart X pins H s a hd) (U:Left (frs X.stack) a hd s.heap h'):Inv X pins σ H {s with heap:=h'}:=by
 have W:=I.env0;obtain ⟨oe,vs,P,_,_,E,_⟩:=x.ob;have B:∀b o,s.heap.get? b=a_ o->(∀vs,o.data≠.fields vs)->b≠a/\∀T,hd=a_ T->b≠T:=fun b o e n=>by
  refine ⟨fun z=>?_,fun T d z=>?_⟩
  ·subst z;rw [P] at e;cases e;exact n vs E
  ·subst z;obtain ⟨_,oT,ts,h1,h2,_⟩:=x.tb _ d;rw [h1] at e;cases e;exact n ts h2
 have A:∀b∈frs X.stack,H b=d_:=W.frf;have y:∀b o,s.heap.get? b=a_ o->(∀vs,o.data≠.fields vs)->∃sl,h'.get? b=a_ {o with slots:=sl}:=fun b o e n=>by
  obtain ⟨h,g⟩:=B b o e n;by_cases S:b∈frs X.stack
  ·exact U.slot b o e S
  ·exact ⟨o.slots,U.keep b o e S h g⟩
 have l:∀b o,X.s₀.heap.get? b=a_ o->b≠a/\∀T,hd=a_ T->b≠T:=fun b o e=>
  ⟨fun z=>(by subst z;rw [f.na] at e;cases e),fun T d z=>(by subst z;rw [(f.nT _ d).1] at e;cases e)⟩
 have K:s.heap.UpToSlots h':=y;have t:X.s₀.heap.get? X.env.locals=d_:=get_none I.ok.above;have k:∀b,b≠X.env.locals->b∉X.fs->b∉frs X.stack:=fun b h1 h2 R=>by
  rcases r_.mp (I.oo b R) with z|z
  ·exact h1 z
  ·exact h2 z
 have w:∀c v,s.heap.IsCell c v->h'.IsCell c v:=fun c v ⟨o,h1,h2⟩=>by
  obtain ⟨sl,z⟩:=y c o h1 (fun vs q=>by rw [h2] at q;cases q);exact ⟨_,z,h2⟩
 refine ⟨I.ok,I.os,I.bare,?_,?_,fun x c e=>?_,I.free,I.freeC,fun p D=>?_,?_,I.len⟩
 ·have F:∀b o,X.s₀.heap.get? b=a_ o->∀o',s.heap.get? b=a_ o'->∃sl,h'.get? b=a_ {o' with slots:=sl}:=fun b o e o' G=>by
   obtain ⟨h,g⟩:=l b o e;by_cases S:b∈frs X.stack
   ·exact U.slot b o' G S
   ·exact ⟨o'.slots,U.keep b o' G S h g⟩
  refine ⟨fun b o e n S J=>?_,fun b o e n S J=>?_,I.base.free,fun b o e J=>?_,I.base.tups,I.base.frzs,I.base.tbls⟩
  ·obtain ⟨h,g⟩:=l b o e;exact U.keep b o (I.base.keep b o e n S J) (k b (fun z=>by rw [z,t] at e;cases e) S) h g
  ·obtain ⟨sl,e1⟩:=I.base.slot b o e n S J;obtain ⟨j,e2⟩:=F b o e _ e1;exact ⟨j,e2⟩
  ·obtain ⟨o',e1⟩:=I.base.there b o e J;obtain ⟨j,e2⟩:=F b o e _ e1;exact ⟨_,e2⟩
 ·obtain ⟨m,N,O⟩:=I.loc;refine ⟨m,K.ns N,fun i x v e1 e2 e3=>?_⟩
  obtain ⟨u,r,L⟩:=O i x v e1 e2 e3;refine ⟨u,r,?_⟩
  rcases L with z|⟨z,c,c1,Z⟩
  ·exact .inl z
  ·exact .inr ⟨z,c,c1,w c _ Z⟩
 ·obtain ⟨v,z⟩:=I.cell x c e;exact ⟨v,w c v z⟩
 ·obtain ⟨p1,p2,p3,p4,p5⟩:=I.pin p D;exact ⟨U.keep p.1 p.2 p1 (k p.1 p3 p4) (f.pa p D) fun T d=>(f.nT T d).2.2 p D,p2,p3,p4,p5⟩
 ·intro b o e;refine (I.hok b o e).uz (fun c u Q e1=>?_) (fun _ z=>z) fun _ _ z=>z;have Y:H c≠d_:=by
   rcases Q with z|z
   ·rw [z,e];exact fun z=>nomatch z
   ·rw [z];exact fun z=>nomatch z
  exact U.keep c u e1 (fun z=>Y (A c z)) (fun z=>Y (by rw [z];exact f.fa)) fun T d z=>Y (by rw [z];exact (f.nT T d).2.1)
end
def PEat (X:Cx) (pins:Pn) (σ:St) (e:Dr) (t:TE):Prop:=∀(s:t_) (H:Hp) (Q:VK),Inv X pins σ H s->t σ H Q->s_ (w_ X.prog X.w) X.A (Cf e X.env) (EP X pins σ Q) X.xe s
def PSat (X:Cx) (pins:Pn) (σ:St) (st:Dt) (t:TS):Prop:=∀(s:t_) (H:Hp) (D:Ends),Inv X pins σ H s->t D σ H->s_ (w_ X.prog X.w) X.A (exec st X.env) (SP X pins D) X.xe s
def PSsAt (X:Cx) (pins:Pn) (σ:St) (st:List Dt) (t:TS):Prop:=∀(s:t_) (H:Hp) (D:Ends),Inv X pins σ H s->t D σ H->s_ (w_ X.prog X.w) X.A (execs st X.env) (SP X pins D) X.xe s
def j3 (CX:CXT) (X:Cx) (pins:Pn) (σ:St) (E:XK):Prop:=∀(H:Hp) (s:t_) (e:i_) (s':t_),Inv X pins σ H s->CX X.stack H s E e s'->X.xe e s'
section
variable {t:TS} 
theorem at_one (h:PSat X pins σ st t):PSsAt X pins σ [st] t:=fun s H D I q=>by
 refine JV (thn (h s H D I q) fun f J z=>?_);cases f with
 |next=>exact Gn z
 |_=>exact z
theorem at_set (b:X.N.Nodup) (hi:X.N[i]? =a_ x) (S:Loc X.env.scope x) (a:PEat X pins σ e te) (U: ~~~(Dx e (a_ (.Name x pos')) pos.line X.env=DC c_)) (Y:autoParam (X.fn x=f_\/X.env.scope.names.lookup x=a_ .local) Jq4) :
  PSat X pins σ (.Assign [.Name x pos'] e pos) (tAsg te (n4 i)):=fun s H D I q=>
 Nc (thn (a s H _ I q) fun v g ⟨y,H1,d,J,q1⟩=>jM d b hi S J (fun f c=>⟨_,H1,c,q1⟩) Y) U
end
section
variable {f:h_} {dvs:List V} {ds:List i_} {E:XK} {t:TA}
theorem at_run {Q:VK} {vs:List V} (F:iN X.prog X.w X.K X.mg X.base CX k f fd ps sp) (Y:gz k X.A) (a:Binds X.K fd ps ds) (hd:Vals dvs ds) (U:j3 CX X pins σ E)
  (I:Inv X pins σ H s) (r:Vals vs us) (h:sp (vs++dvs) H Q E):s_ (w_ X.prog X.w) X.A (Gg (.ref f) us) (EP X pins σ Q) X.xe s:=by
 have S:=r.append hd;refine Ih (Er (F.run _ _ s H ⟨us,[]⟩ _ _ Q E Y I.env0 (a s us I.kIn (S.length.symm.trans (F.len _ _ _ _ h))) S h) fun z s' J=>?_);cases z with
 |error e=>exact U H s e s' I J
 |ok fl=>
  cases fl with
  |ret u=>exact I.after J
  |_=>exact DV J
theorem at_call (F:iN X.prog X.w X.K X.mg X.base CX k f fd ps sp) (Y:j3 CX X pins σ E) (a:gz k X.A) (b:X.mg x=a_ (.ref f)) (c:FH X.K (.ref f)=f_) (h:Binds X.K fd ps ds) (hd:Vals dvs ds) (i:PA X (e::es) t) (d: ~~~(Gl X x))
  (S:((x==("__debug__":Cy))=c_)⁻¹) (g: ~~~(j_ (e::es) X.env=(c_,Cf e X.env)::j_ es X.env)) (J: ~~~((CZ pos (j_ es X.env)).any (·.1)=c_)) :
  PEat X pins σ (.Call (.Name x p) (e::es) [] pos) (tCall sp dvs E t):=fun s H Q I q=>
 Em (iu I d b (Ju (h₀:=X.base) I.ok.mod.kin c (thn (i pos pins s σ H _ I q) fun us j ⟨vs,H1,U,r,q1⟩=>⟨U.kIn,at_run F a h hd Y U r q1⟩) g J) S)
end
section
theorem Inv.names {m:Mq} (I:Inv X pins σ H s) (h:h'.Ns X.env.locals m) (S:Ea X.env.locals s.heap h') (j:σ'.length=X.N.length)
  (hv:∀(i:Nat) (x:Cy) (v:V),X.N[i]? =a_ x->σ'[i]? =a_ (a_ v)->Vis X.env.scope x->∃u,RelV v u/\Look X.env s.heap m x u):Inv X pins σ' H {s with heap:=h'}:=by
 have J:∀b o,X.s₀.heap.get? b=a_ o->b≠X.env.locals:=fun b o e z=>by
  subst z;exact Cj (o_ e) (J9.mpr I.ok.above)
 have Y:∀x c v,X.env.cells.lookup x=a_ c->s.heap.IsCell c v->h'.IsCell c v:=fun x c v e z=>z.sameBut S (I.cne x c e);refine ⟨I.ok,I.os,I.bare,⟨fun b o e n a U=>?_,fun b o e n a U=>?_,I.base.free,fun b o e U=>?_,I.base.tups,I.base.frzs,I.base.tbls⟩,⟨m,h,fun i x v e1 e2 e3=>?_⟩,fun x c e=>?_,I.free,I.freeC,fun p g=>?_,fun b o e=>?_,j⟩
 ·show h'.get? b=_;rw [S.2 b (J b o e)];exact I.base.keep b o e n a U
 ·obtain ⟨sl,z⟩:=I.base.slot b o e n a U;refine ⟨sl,?_⟩
  show h'.get? b=_;rw [S.2 b (J b o e)];exact z
 ·obtain ⟨o',z⟩:=I.base.there b o e U;refine ⟨o',?_⟩
  show h'.get? b=_;rw [S.2 b (J b o e)];exact z
 ·obtain ⟨u,r,f⟩:=hv i x v e1 e2 e3;refine ⟨u,r,?_⟩
  rcases f with z|⟨z,c,d,l⟩
  ·exact .inl z
  ·exact .inr ⟨z,c,d,Y x c _ d l⟩
 ·obtain ⟨v,z⟩:=I.cell x c e;exact ⟨v,Y x c v e z⟩
 ·obtain ⟨p1,p2,p3,p4,p5⟩:=I.pin p g;refine ⟨?_,p2,p3,p4,p5⟩
  show h'.get? p.1=_;rw [S.2 p.1 p3];exact p1
 ·refine (I.hok b o e).uz (fun c u k e1=>?_) (fun _ z=>z) fun _ _ z=>z;show h'.get? c=_;rw [S.2 c fun z=>?_]
  ·exact e1
  ·rcases k with y|y
   ·rw [<- y,z,I.free] at e;cases e
   ·rw [z,I.free] at y;cases y
theorem qE {M:Kb} {Q:Unit->t_->Prop} (I:Inv X pins σ H s) (g:X.N.Nodup) (hi:X.N[i]? =a_ x) (S:X.env.scope.names.lookup x=a_ .local)
  (h:∀s',Inv X pins (σ.set i d_) H s'->Q () s'):s_ M A (do bindName X.env x .none;Mn X.env x pos) Q E s:=by
 have Y:(X.env.scope.kind==.class||(X.env.scope.kind==.module&&X.env.locals != X.env.globals))=c_:=by rw [I.ok.kind];rfl
 have U:i<σ.length:=by rw [I.len];exact (y_.mp hi).1
 refine b_ (wpAny_bindName (jM I g hi (.inl S) (v:=.non) rfl (fun t k=>?_) (.inr S)));unfold Mn;refine wpAny_onRaise ?_;obtain ⟨m,p,f⟩:=id k.loc;obtain ⟨u,_,a⟩:=f i x .non hi (by rw [B_ U]) (.inl S);have d:m x=a_ u:=by
  rcases a with z|⟨z,_⟩
  ·exact z.2
  ·have e:X.env.kindOf x=a_ .local:=S;rw [e] at z;rcases z with z|z<;>cases z
 refine wpAny_unbindName_local S p d Y fun h' q c o=>h _ (k.names c o (by rw [CB];exact I.len) fun j y v e1 e2 e3=>?_);have J:i≠j:=fun z=>by
  subst z;rw [B_ U] at e2;cases e2
 rw [q_ J] at e2;obtain ⟨w,r,a⟩:=f j y v e1 (by rw [q_ J];exact e2) e3;refine ⟨w,r,?_⟩
 rcases a with ⟨n,l⟩|z
 ·have b:y≠x:=fun z=>J (qu g hi (z▸e1));exact .inl ⟨n,by simp [b,l]⟩
 ·exact .inr z
end
def um (K:Fg) (C:h_) (bmB:List i_):Prop:=∀h:CQ,K.In h->∃tl N nm J bs hdct sn sub ab col dd k0 k1 k2 k3 k5 newId,h.get? C=a_ (IP nm J C N bs tl hdct sn sub ab col dd k0 k1 k2 k3 k5 newId)/\Nv h bmB tl
noncomputable abbrev Cx.hand (X:Cx) (a:h_) (oe:GX):Cx:={X with A:=X.A.mark (a_ (.ref a)),calm:=c_,xe:=fun _ _=>False,pn:=(a,oe)::X.pn}
section
variable {T:h_} {C:i_} 
theorem Inv.hand {vs:Array i_} (I:Inv X pins σ H s) (S:s.heap.get? a=a_ oe) (hd:oe.data=.fields vs) (U:X.s₀.heap.get? a=d_) (fa:H a=d_):Inv (X.hand a oe) pins σ H s:=by
 have J:=I.ok;refine ⟨⟨J.mod,J.kind,J.glob,J.blt,J.above,J.inj,J.has,J.cab,(fun z=>nomatch z),J.frames,J.stk,J.exf,J.bs,J.bsz,J.noex,J.exfs,J.tf,J.frf⟩,I.os,I.bare,I.base,I.loc,I.cell,I.free,I.freeC,fun p Y=>?_,I.hok,I.len⟩
 rcases r_.mp (show p∈(a,oe)::(X.pn++pins) from Y) with z|z
 ·subst z;refine ⟨S,fa,fun z=>?_,fun b=>?_,fun v z=>?_⟩
  ·obtain ⟨m,⟨o,es,ep,h1,h2,_⟩,_⟩:=I.loc;have z:a=X.env.locals:=z;rw [<- z,S] at h1;cases h1;rw [hd] at h2;cases h2
  ·obtain ⟨_,o,h1,_⟩:=J.tf.mem b;have h1:X.s₀.heap.get? a=a_ o:=h1;rw [U] at h1;cases h1
  ·have z:oe.data=.cell v:=z;rw [hd] at z;cases z
 ·exact I.pin p z
theorem Inv.wc (J:Inv (X.hand a oe) pins σ H s) (S:X.Ok):Inv X pins σ H s:=
 ⟨S,J.os,J.bare,J.base,J.loc,J.cell,J.free,J.freeC,fun p U=>J.pin p (Cw _ U),J.hok,J.len⟩
theorem Bd {M:Kb} {base:CQ} {l:List J8} {Q:Unit->t_->Prop} (r:s.heap.FunFrames base l) (x:ExA s.heap a C dx (a_ T))
  (h:∀h',ExA h' a C dx (a_ T)->Left (frs l) a (a_ T) s.heap h'->h'.get? a=s.heap.get? a->Q () {s with heap:=h'}):s_ M A (IX (.ref a) d_) Q E s:=by
 obtain ⟨o,vs,m,t,g,c,h1⟩:=x.ob;obtain ⟨e,v,ts,k,S,u⟩:=x.tb T rfl;have U:3<ts.size:=(D_.mp u).1;unfold IX;refine b_ (EB m c (x:=.ref T) h1 ?_);rw [p_ (by simp)];refine Dh k S U ?_;have J:∀b,b≠T->(s.heap.update T (DQ (·.setIfInBounds 3 ((d_:Option h_).elim CG fun f=>Ds f)))).get? b=s.heap.get? b:=fun b d=>Ce _ _ (CV d);have p:=DZ S (·.setIfInBounds 3 ((d_:Option h_).elim CG fun f=>Ds f));refine h _ ⟨⟨o,vs,by rw [J a (CV e)];exact m,t,g,c,h1⟩,fun y j=>?_⟩ ⟨fun b o' q _ _ d=>by rw [J b (d T rfl)];exact q,fun b o' q d=>?_,?_⟩ (J a (CV e))
 ·cases j;exact ⟨e,_,_,CJ _ k (Eh p),p,by simp [U]⟩
 ·obtain ⟨_,w,Y,n⟩:=r.mem d;have i:b≠T:=fun z=>by
   subst z;rw [k] at Y;cases Y;exact n ts S
  exact ⟨o'.slots,by rw [J b i];exact q⟩
 ·rw [FY];exact m_ _
end
noncomputable def Ends.less (D:Ends) (i:Nat):Ends:={nx:=fun σ H=>D.nx (σ.set i d_) H,rt:=D.rt,bk:=fun σ H=>D.bk (σ.set i d_) H,ct:=fun σ H=>D.ct (σ.set i d_) H}
section
variable {T:h_} {n:Cy} {ts:TS} 
theorem C0 (I:Inv X pins σ H s) (x:ExA s.heap a (.ref C) dx (a_ T)) (j:Apart X pins H s a (a_ T)) (m:X.ex=[]) (L:um X.K C bmB) (O:bmB.contains (.type "BaseException")=f_)
  (K:Gl X c) (G:X.mg c=a_ (.ref C)) (h:X.N.Nodup) (hi:X.N[i]? =a_ n) (e:X.env.scope.names.lookup n=a_ .local)
  (F:∀oe:GX,oe.cls=.ref C->oe.dict=dx->(∃vs,oe.data=.fields vs)->PSs (X.hand a oe) (b₀::suite) ts) (q:ts (D.less i) (σ.set i (a_ (.ref a))) H) (w:((c==("__debug__":Cy))=c_)⁻¹) :
  s_ (w_ X.prog X.w) X.A (handleBy (.ref a) X.env [.ExceptHandler (a_ (.Name c np)) (a_ n) (b₀::suite) pos]) (SP X pins D) X.xe s:=by
 obtain ⟨oe,vs,p,g,t,U,h1⟩:=x.ob;have J:=I.hand p U j.na j.fa;refine wpAny_handleBy_cons (codeAny_handlers_test (iu (X:=X.hand a oe) J K G ?_ w)) (by intro z;cases z);obtain ⟨tl,N,nm,qn,bs,hdct,sn,sub,ab,col,dd,k0,k1,k2,k3,k5,newId,B,A⟩:=L _ I.kIn;have P:=I.env0;obtain ⟨hh,gg,d,tk,os⟩:=s;refine wpAny_excMatches_sub_self B p g (A.hasType O) (codeAny_handlers_suite_as ?_);refine Bd (base:=X.base) (l:=X.stack) P.tf x fun h' Z E ea=>?_;have W:=I.left m x j E;have o:h'.get? a=a_ oe:=by rw [ea];exact p
 have R:=W.hand o U j.na j.fa;refine jM (X:=X.hand a oe) R h hi (.inl e) (v:=.ref a) rfl (fun y Q=>?_) (.inr e);refine Di (F oe g t ⟨vs,U⟩ pins y _ H (D.less i) Q q) (fun f s4 z=>?_) fun _ _ z=>z.elim;cases f with
 |next=>
  obtain ⟨σ',H',Y,S⟩:=z;exact qE (Y.wc I.ok) h hi e fun k b=>⟨_,H',b,S⟩
 |brk=>
  obtain ⟨σ',H',Y,S⟩:=z;exact qE (Y.wc I.ok) h hi e fun k b=>⟨_,H',b,S⟩
 |cont=>
  obtain ⟨σ',H',Y,S⟩:=z;exact qE (Y.wc I.ok) h hi e fun k b=>⟨_,H',b,S⟩
 |ret u=>
  obtain ⟨v,σ',H',Y,r,S⟩:=z;exact qE (Y.wc I.ok) h hi e fun k b=>⟨v,_,H',b,r,S⟩
end
def EH (i:Nat) (C:h_) (ts:h_->Option h_->TS) (D:Ends) (σ:St):XK:=fun J dx H'=>J=.ref C/\∀a,H' a=d_->ts a dx (D.less i) (σ.set i (a_ (.ref a))) H'
def tTry (tb:XK->TS) (i:Nat) (C:h_) (ts:h_->Option h_->TS):TS:=fun D σ H=>tb (EH i C ts D σ) D σ H
section
variable {n:Cy} {tb:XK->TS} 
theorem ps_try (Q:∀(pins:Pn) (σ:St) (E:XK) (y:Vp),j3 (CXd X.prog X.w) (X.pJ y) pins σ E->PSsAt (X.pJ y) pins σ body (tb E))
  (L:∀(a:h_) (oe:GX),oe.cls=.ref C->(∃vs,oe.data=.fields vs)->PSs (X.hand a oe) (b₀::suite) (ts a oe.dict))
  (W:um X.K C bmB) (Z:bmB.contains (.type "BaseException")=f_) (N:X.mg c=a_ (.ref C)) (R:X.N.Nodup) (hi: ~~~(X.N[i]? =a_ n)) (O: ~~~(X.env.scope.names.lookup n=a_ .local))
  (P: ~~~(Gl X c)) (S: ~~~(X.ex=[])) (U: ~~~(X.stack=X.env::X.outer)) (r: ~~~(X.env.frame=a_ X.env.locals)) (t:((c==("__debug__":Cy))=c_)⁻¹) :
  PS X (.Try body [.ExceptHandler (a_ (.Name c np)) (a_ n) (b₀::suite) hpos] [] [] pos) (tTry tb i C ts):=by
 intro pins s σ H D I h;refine wpAny_Try_except (thn (Q pins σ (EH i C ts D σ) (fun e g=>s_ (w_ X.prog X.w) X.A (Lu e X.env) (fun _ d=>s_ (w_ X.prog X.w) X.A (IX e d_) (fun _ Y=>s_ (w_ X.prog X.w) X.A (handleBy e X.env [.ExceptHandler (a_ (.Name c np)) (a_ n) (b₀::suite) hpos]) (SP X pins D) X.xe Y) X.xe d) X.xe g) ?_ s H D (I.pJ _) h) fun f A z=>?_)
 ·rintro H1 A e s' x ⟨a,T,Cv,dx,H',rfl,z⟩;have m:=x.hW;obtain ⟨rfl,q⟩:=z.want;have J:Inv X pins σ H' s':=m.call' z.os z.un z.hok z.bare (fun _ h=>nomatch h);have j:∀b,A.heap.get? b=d_->∀p∈X.pn++pins,p.1≠b:=fun b e p o w=>by
   have:=(m.pin p o).1;rw [w,e] at this;cases this
  have l:Apart X pins H' s' a (a_ T):=⟨m.w9 S z.na,z.fa,j a z.na,fun T' k=>by cases k;exact ⟨m.w9 S z.nT,z.fT,j T z.nT⟩⟩
  have G:=J.env0;have f1:=G.frames;have F:=G.tf;rw [U] at f1 F;refine leave2 (base:=X.base) f1 F r z.ex fun h' T2 K k B=>?_;rw [<- U] at B;have I2:=J.left S z.ex l B;have v:Apart X pins H' {s' with heap:=h'} a (a_ T2):=⟨l.na,l.fa,l.pa,fun T' u=>by
   cases u;refine ⟨get_none (C9 J.sz k),J.hok.fresh k,fun p o w=>?_⟩
   have:=o_ (J.pin p o).1;rw [w] at this;exact Cj this (J9.mpr k)⟩
  exact C0 I2 K v S W Z P N R hi O (fun oe h1 h2 h3=>by rw [<- h2];exact L a oe h1 h3) (q a z.fa) t
 ·have z:=SP.hW z;cases f with
  |next=>exact Gn z
  |_=>exact z
end
section
open PySem.W
variable {g:Array KS} {d:NA} {t:Nat} {od:Option GX} {K:Mv} 
theorem xcls_by {Q:Vp} (FB:E9 B bmB) (J:K.In h) (I:Et h a oe C od) (e1:Cm K (.ref C) "__getattribute__"=a_ (a_ (.builtin "BaseException.__getattribute__")))
  (e3:Cm K (.ref C) "__getattr__"=a_ d_)
  (Y:∀R:Jv->t_->Prop,R (.ok (.ret (.ref C))) ⟨h,g,d,t,os⟩->FG (w_ prog w) A (.call (.builtin "BaseException.__getattribute__") ⟨[.ref a,.str "__class__" tk],[]⟩) R ⟨h,g,d,t,os⟩) (q:Q (.ref C) ⟨h,g,d,t,os⟩) :
  s_ (w_ prog w) A (NL (.ref a) (.str "__class__" tk) c_) Q E ⟨h,g,d,t,os⟩:=by
 have U:=I.type (M:=w_ prog w);have S:=FL (M:=w_ prog w) J e1;have b:=FL (M:=w_ prog w) J e3;have c:=FB.ga.bind (.ref a);have nx:(Ga "BaseException.__getattribute__"==Ga "object.__getattribute__")=c_:=by decide +kernel
 unfold NL
 repeat (any_goals (first|assumption|with_reducible refine U.at ?_|with_reducible refine S.at ?_|with_reducible refine b.at ?_|wp_step))
 all_goals (refine Y _ ?_)
 repeat (any_goals (first|wp_step|assumption))
theorem o9 {M:Kb} {J:i_} {Q:Unit->t_->Prop} (b:K.In h) (I:Et h a oe C od) (f:DM K C (.type "BaseException")=a_ f_) (e:Q () ⟨h,g,d,t,os⟩) :
  s_ M A (JY "BaseException.__getattribute__" ⟨[.ref a,J],[]⟩) Q E ⟨h,g,d,t,os⟩:=by
 have Y:builtinKind "BaseException.__getattribute__"=a_ .slot:=by decide +kernel
 have c:splitId "BaseException.__getattribute__"=a_ ("BaseException","__getattribute__"):=by decide +kernel
 have U:=I.type (M:=M);have S:=looks_mroIn (M:=M) b f;have i:=F.args_bexc_ga (.ref a) J;simp only [JY,c,Y];refine b_ ?_;unfold Js
 repeat (first|with_reducible refine U.at ?_|with_reducible refine S.at ?_|wp_step)
 exact e
theorem xB {Q:M5->t_->Prop} (J:K.In h) (I:Et h a oe C od) (e2:Cm K (.ref C) "__class__"=a_ (a_ (.builtin "object.__class__"))) (Y:DM K C (.type "object")=a_ f_) (b:Q (.done (.ret (.ref C))) ⟨h,g,d,t,os⟩) :
  s_ (w_ prog w) A (Builtin.«object.__getattribute__» ⟨[.ref a,.str "__class__" tk],[]⟩) Q E ⟨h,g,d,t,os⟩:=by
 have tc:Fw ⟨h,g,d,t,os⟩ (.builtin "object.__class__") "getset_descriptor":=LG;have U:=I.type (M:=w_ prog w);have S:=FL (M:=w_ prog w) J e2;have p5:=LG;have p6:=F.slot_gs_get.lookup;have p7:=F.slot_gs_set.lookup
 repeat (any_goals (first|assumption|with_reducible refine U.at ?_|with_reducible refine S.at ?_|wp_step))
 refine W.class_get (s:=⟨h,g,d,t,os⟩) J I Y ?_
 repeat (any_goals (first|wp_step|assumption))
theorem zy (FB:E9 B bmB) (J:K.In h) (I:Et h a oe C od) (e1:Cm K (.ref C) "__getattribute__"=a_ (a_ (.builtin "BaseException.__getattribute__"))) (e2:Cm K (.ref C) "__class__"=a_ (a_ (.builtin "object.__class__"))) (e3:Cm K (.ref C) "__getattr__"=a_ d_)
  (Y:DM K C (.type "BaseException")=a_ f_) (U:DM K C (.type "object")=a_ f_) (S:Q (a_ (.ref C)) ⟨h,g,d,t+1,os⟩):s_ (w_ prog w) A (getAttr? (.ref a) "__class__") Q E ⟨h,g,d,t,os⟩:=by
 unfold getAttr? getAttrBy?;refine b_ (wpAny_mkText (b_ (Fh (xcls_by FB J I e1 e3 (fun R b=>GW FB.ga.plain Nz (o9 J I Y (xB J I e2 U b))) ?_))));exact e_ S
structure zv (K:Mv) (C:h_):Prop where
 ga:Cm K (.ref C) "__getattribute__"=a_ (a_ (.builtin "BaseException.__getattribute__"))
 cl:Cm K (.ref C) "__class__"=a_ (a_ (.builtin "object.__class__"))
 gt:Cm K (.ref C) "__getattr__"=a_ d_
 bs:DM K C (.type "BaseException")=a_ f_
 ob:DM K C (.type "object")=a_ f_
 is:∃cd,J1 K C=a_ cd
theorem lX (FB:E9 B bmB) (Z:zv K C):KitX K (.ref a) (.ref C) (fun h=>Et h a oe C od) where
 ty:=fun _ _ _ I=>I.type
 it:=fun _ _ X _=>by
  obtain ⟨cd,J⟩:=Z.is;unfold J1 at J;split at J
  ·next U=>
   intro m j l s' k q;unfold isType loadHead;refine b_ (Ky (k C _ (X C _ U)) ?_);exact e_ q
  ·cases J
 ne:=fun f Y i is c b X S=>by
  obtain ⟨cd,J⟩:=Z.is;refine Bool.eq_false_iff.mpr (fun q=>?_);have e:C=Y:=Value.ref.inj (EI.mp q);subst e;unfold J1 at J;split at J
  ·next U=>
   cases (X C _ U).symm.trans S
  ·cases J
 ca:=fun {_ _ _ _ _ s} X I k=>by
  obtain ⟨h,g,d,t,os⟩:=s;exact zy FB X I Z.ga Z.cl Z.gt Z.bs Z.ob k
end
theorem qc:∀{ys:List h_} {its:List i_},Vals (ys.map V.ref) its->its=ys.map x_
 |[],_,.nil=>rfl
 |y::ys,_,.cons r rs=>by rw [qc rs,show _=x_ y from r];rfl
section
theorem xt (FB:E9 B bmB) (Z:zv X.K C) (E:oe.cls=.ref C) (hd:∃vs,oe.data=.fields vs) (D:oe.dict=d_):bS (X.hand a oe) (.builtin "isinstance") (fun xs H Q=>∃v b,xs=[.ref a,v] /\
  ((∃c,RelV v c/\(∀u,RelV v u->u=c)/\CW X.K (.ref C) c=a_ b)\/∃(S:h_) (ys:List h_),v=.ref S/\H S=a_ (.tup (ys.map V.ref))/\M4 X.K (.ref C) (ys.map x_)=a_ b)/\Q (.bl b) H):=by
 intro pins s σ H xs us Q I r h;obtain ⟨v,b,rfl,h1,q⟩:=h;obtain ⟨u,w,rfl,p,Y⟩:=r.two;cases (show u=x_ a from p);have t:=(I.pin (a,oe) (Cz ..)).1;obtain ⟨vs,f⟩:=hd;have J:Et s.heap a oe C d_:=⟨t,E,by unfold Jt;rw [f],by rw [D];trivial⟩
 rcases h1 with ⟨c,G,U,e⟩|⟨S,ys,rfl,A,e⟩
 ·cases U w Y;exact E1 (lX FB Z) I.kIn J e (fun z=>nomatch z) fun tk=>⟨.bl b,H,I.tok tk,rfl,q⟩
 ·cases (show w=x_ S from Y);obtain ⟨_,its,o,y,m,l⟩:=(show bK X.prog X.w H s.heap S (.tup (ys.map V.ref)) from I.hok S _ A)
  obtain ⟨k,n,j⟩:=l;have F:its=ys.map x_:=qc o;subst F;obtain ⟨oc,x,d,osl⟩:=y;have i:oc=DL "tuple":=k;have g:d=.seq (ys.map x_).toArray n:=j;subst i g;exact LB (lX FB Z) I.kIn J m e (fun z=>nomatch z) fun tk=>⟨.bl b,H,I.tok tk,rfl,q⟩
end
noncomputable def tIsiX (i:Nat) (a:h_) (b:Bool):TE:=fun σ H Q=>σ[i]? =a_ (a_ (.ref a))/\Q (.bl b) H
def tIsiT (i:Nat) (a:h_) (ys:List h_) (b:Bool):TE:=fun σ H Q=>σ[i]? =a_ (a_ (.ref a))/\∀p,H p=d_->Q (.bl b) (upd H p (.tup (ys.map V.ref)))
section
variable {D:h_} {n:Cy} {b:Bool}
theorem pe_isiO (FB:E9 B bmB) (Z:zv X.K C) (m:oe.cls=.ref C) (hd:∃vs,oe.data=.fields vs) (j:oe.dict=d_) (k:X.mg "isinstance"=d_) (t:X.mg y=a_ (.ref D)) (o:CW X.K (.ref C) (.ref D)=a_ b)
  (r: ~~~(X.N[i]? =a_ n)) (hv:autoParam (Vis X.env.scope n) Jq3) (e:((n==("__debug__":Cy))=c_)⁻¹) (d:((n==("__classdict__":Cy))=c_)⁻¹)
  (l: ~~~(Gl (X.hand a oe) "isinstance")) (Y: ~~~(Gl (X.hand a oe) y)) (c:((y==("__debug__":Cy))=c_)⁻¹)
  (S: ~~~(j_ [.Name n p1,.Name y p2] X.env=[(c_,Cf (.Name n p1) X.env),(c_,Cf (.Name y p2) X.env)])) (J: ~~~(j_ [.Name y p2] X.env=[(c_,Cf (.Name y p2) X.env)])) (U: ~~~((CZ pos (j_ [.Name y p2] X.env)).any (·.1)=c_)) :
  PE (X.hand a oe) (.Call (.Name "isinstance" p) [.Name n p1,.Name y p2] [] pos) (tIsiX i a b):=by
 have f:PE (X.hand a oe) (.Name y p2) (tC (.ref D)):=fun pins s σ H Q I h=>iu I Y t ⟨.ref D,H,I,rfl,h⟩ c;refine PE.imp (di (X:=X.hand a oe) (xt FB Z m hd j) l k EK (aM (pv i r hv e d) (aM f cy J) (by rw [S,J])) (by decide) (by decide) (by rw [S,J]) U) fun σ H Q h=>?_;obtain ⟨e1,q⟩:=h;exact ⟨.ref a,e1,.ref D,b,rfl,.inl ⟨.ref D,rfl,fun u g=>g,o⟩,q⟩
end
noncomputable def tRefs (ys:List h_):TA:=fun _ H Q=>Q (ys.map V.ref) H
section
variable {n:Cy} {b:Bool} 
theorem pe_isiB (FB:E9 B bmB) (Z:zv X.K C) (r:oe.cls=.ref C) (hd:∃vs,oe.data=.fields vs) (l:oe.dict=d_) (m:X.mg "isinstance"=d_) (c:X.mg y=d_) (U:D5 y=a_ (.type T)) (s:CW X.K (.ref C) (.type T)=a_ b)
  (t: ~~~(X.N[i]? =a_ n)) (hv:autoParam (Vis X.env.scope n) Jq3) (g:((n==("__debug__":Cy))=c_)⁻¹) (f:((n==("__classdict__":Cy))=c_)⁻¹)
  (o: ~~~(Gl (X.hand a oe) "isinstance")) (d: ~~~(Gl (X.hand a oe) y)) (j:(y≠"__name__")⁻¹) (e:((y==("__debug__":Cy))=c_)⁻¹)
  (S: ~~~(j_ [.Name n p1,.Name y p2] X.env=[(c_,Cf (.Name n p1) X.env),(c_,Cf (.Name y p2) X.env)])) (J: ~~~(j_ [.Name y p2] X.env=[(c_,Cf (.Name y p2) X.env)])) (Y: ~~~((CZ pos (j_ [.Name y p2] X.env)).any (·.1)=c_)) :
  PE (X.hand a oe) (.Call (.Name "isinstance" p) [.Name n p1,.Name y p2] [] pos) (tIsiX i a b):=by
 refine PE.imp (di (X:=X.hand a oe) (xt FB Z r hd l) o m EK (aM (pv i t hv g f) (aM (wF (X:=X.hand a oe) (pos:=p2) d c U j e) cy J) (by rw [S,J])) (by decide) (by decide) (by rw [S,J]) Y) fun σ H Q h=>?_;obtain ⟨e1,q⟩:=h;exact ⟨.ref a,e1,.ty T,b,rfl,.inl ⟨.type T,rfl,fun u k=>k,s⟩,q⟩
theorem pe_isiT {j} (FB:E9 B bmB) (Z:zv X.K C) (m:oe.cls=.ref C) (hd:∃vs,oe.data=.fields vs) (f:oe.dict=d_) (g:X.mg "isinstance"=d_) (r:PA (X.hand a oe) es (tRefs ys)) (k:ys.length<=n_) (o:M4 X.K (.ref C) (ys.map x_)=a_ b)
  (s: ~~~(X.N[i]? =a_ n)) (hv:autoParam (Vis X.env.scope n) Jq3) (e:((n==("__debug__":Cy))=c_)⁻¹) (d:((n==("__classdict__":Cy))=c_)⁻¹)
  (l: ~~~(Gl (X.hand a oe) "isinstance"))
  (S: ~~~(j_ [.Name n p1,.Tuple es j p2] X.env=[(c_,Cf (.Name n p1) X.env),(c_,Cf (.Tuple es j p2) X.env)])) (J: ~~~(j_ [.Tuple es j p2] X.env=[(c_,Cf (.Tuple es j p2) X.env)])) (c: ~~~((CZ pos (j_ [.Tuple es j p2] X.env)).any (·.1)=c_)) :
  PE (X.hand a oe) (.Call (.Name "isinstance" p) [.Name n p1,.Tuple es j p2] [] pos) (tIsiT i a ys b):=by
 refine PE.imp (di (X:=X.hand a oe) (xt FB Z m hd f) l g EK (aM (pv i s hv e d) (aM (Ao r) cy J) (by rw [S,J])) (by decide) (by decide) (by rw [S,J]) c) fun σ H Q h=>?_;obtain ⟨e1,q⟩:=h;exact ⟨.ref a,e1,by rw [v_];exact k,fun U Y=>⟨.ref U,b,rfl,.inr ⟨U,ys,rfl,ao,o⟩,q U Y⟩⟩
end
def DEat (K:Fg) (E:XK) (own:Bool) (X:Cx) (pins:Pn) (σ:St) (e:Dr) (f:ah->M Dat):Prop:=PEat X pins σ e (tD K (WE K E) own f)
def DSat (K:Fg) (E:XK) (ro:Bool) (X:Cx) (OL O O':List Nat) (pins:Pn) (σ:St) (st:List Dt) (g:ah->M Flo):Prop:=∀F0 H0,PSsAt X pins σ st (tS K (WE K E) ro F0 H0 OL O O' g)
theorem PEat.imp {t u:TE} (h:PEat X pins σ e t) (k:∀H Q,u σ H Q->t σ H Q):PEat X pins σ e u:=fun s H Q I q=>h s H Q I (k H Q q)
theorem PSat.imp {t u:TS} (h:PSat X pins σ st t) (k:∀D H,u D σ H->t D σ H):PSat X pins σ st u:=fun s H D I q=>h s H D I (k D H q)
section
variable {fr:ah->M (List Dat)} {E:XK} 
theorem dea_call (F:iN X.prog X.w X.K X.mg X.base CX k fad fd ps (spX K ro (bL nN n g) n)) (c:j3 CX X pins σ E) (d:gz k X.A) (f:X.mg x=a_ (.ref fad)) (i:FH X.K (.ref fad)=f_) (l:Binds X.K fd ps [])
  (m:DA K (WE K E) X (e::es) fr) (j: ~~~(Gl X x)) (Y:((x==("__debug__":Cy))=c_)⁻¹) (S: ~~~(j_ (e::es) X.env=(c_,Cf e X.env)::j_ es X.env)) (U: ~~~((CZ pos (j_ es X.env)).any (·.1)=c_)) :
  DEat K E ro X pins σ (.Call (.Name x p) (e::es) [] pos) (fL (bL nN n g) fr):=by
 refine PEat.imp (at_call F c d f i l .nil m j Y S U) fun H Q h=>?_;obtain ⟨F,ρ,r,s,p⟩:=rd_L h;refine ⟨F,ρ,r,s,?_⟩
 cases e1:fr ρ with
 |error z=>rw [e1] at p;exact p
 |ok ds=>
  rw [e1] at p;intro vs F' H' st q;obtain ⟨F1,J,b,q1,z⟩:=p vs F' H' st q;show spX K ro (bL nN n g) n (vs++[]) H' Q E;rw [Ed];by_cases a:J.length=n
  ·exact ⟨F1,J,b,q1,a,z⟩
  ·rw [pY a] at z;exact aw.stuck z
end
def oz (O:List Nat) (f:ah->M Dat):ah->M Flo:=fun ρ=>(f (erase O ρ)).bind fun _=>.ok (.nx ρ)
@[simp] theorem e_dropB (O:List Nat) (f:ah->M Dat) (ρ:ah):oz O f ρ=(f (erase O ρ)).bind fun _=>.ok (.nx ρ):=id rfl
section
variable {own:Bool} {E:XK} {f:ah->M Dat} 
theorem dsa_set (Y:X.N.Nodup) (h:DEat K E own X pins σ e f) (hi: ~~~(X.N[i]? =a_ x)) (J:autoParam (Loc X.env.scope x) Jq6) (S: ~~~(Dx e (a_ (.Name x pos')) pos.line X.env=DC c_)) (U:autoParam (X.fn x=f_\/X.env.scope.names.lookup x=a_ .local) Jq4) :
  DSat K E ro X OL O (aft own i O) pins σ [.Assign [.Name x pos'] e pos] (ay O i f):=fun F0 H0=>at_one (PSat.imp (at_set Y hi J h S U) fun D H z=>uL z)
end
theorem Rep.back {K:Fg} {F0 H0 F1 H1 FB F H:Hp} {O:List Nat} {σ:St} {ρ:ah} (r:Rep K F1 H1 FB O F H σ ρ) (s:Step F0 H0 F1 H1):Rep K F0 H0 FB O F H σ ρ:=
 ⟨s.trans r.st,r.fb,r.len,r.fz,fun i d e h=>let ⟨v,z,q⟩:=r.ow i d e h;⟨v,z,q.back s.hh⟩,r.ap⟩
noncomputable abbrev xArgs (vs:List i_):GX:={cls:=.type "tuple",data:=.seq vs.toArray}
noncomputable abbrev zA (C t:h_):GX:={cls:=.ref C,data:=.fields #[.ref t,.none,.none,.none,.bool c_,.none]}
abbrev pI (h:CQ) (C:h_) (vs:List i_):CQ:=(h.push (xArgs vs)).push (zA C h.objs.size)
section
variable {g:Array KS} {d:NA} {t:Nat} 
variable {q:Cy} {N:h_} {bs:List i_} {mN:Mq} {oI:GX}
theorem md {o:GX} (e:h.get? b=a_ o):(pI h C us).get? b=a_ o:=g_ _ (g_ _ e)
theorem rL:(pI h C us).get? (h.objs.size+1)=a_ (zA C h.objs.size):=by
 have z:=k_ (h.push (xArgs us)) (o:=zA C h.objs.size) rfl
 rwa [CN] at z
theorem x_type (F:Im B newId initId bmB) (T:Nv h bmB tl) (J:h.get? C=a_ (IP nm q C N bs tl hdct sn sub ab col dd k0 k1 k2 k3 k5 newId)) (Y:h.Ns N mN) (hi:mN "__init__"=a_ (.ref fI))
  (f:h.get? fI=a_ oI) (S:oI.cls=.type "function") (i:us.length<=n_) {Q:M5->t_->Prop}
  (z:s_ (w_ prog w) A (Gg (.ref fI) (.ref (h.objs.size+1)::us)) (fun r s'=>r=.none/\Q (.done (.ret (.ref (h.objs.size+1)))) s') E ⟨pI h C us,g,d,t,os⟩) :
  s_ (w_ prog w) A (Builtin.«type.__call__» ⟨.ref C::us,[]⟩) Q E ⟨h,g,d,t,os⟩:=by
 have k:∀b o,h.get? b=a_ o->(pI h C us).get? b=a_ o:=fun b o e=>md e;have U:=k _ _ J;have c:(x_ C::tl).contains (.ref C)=f_:=by simp
 have a:(pI h C us).get? (h.objs.size+1)=a_ (zA C h.objs.size):=rL
 repeat (first|with_reducible refine wpAny_madeBy_exc J ?_|with_reducible refine GB J ?_|wp_step)
 refine codeAny_call_builtin_code (IH _ F.quiet) (wpAny_check_new_subT F T J (codeAny_exc_new_subT F T J ?_ i));show s_ _ _ _ _ _ (⟨pI h C us,g,d,t,os⟩:t_);unfold Js
 repeat (first|(with_reducible refine ML U ?_;rw [c])|with_reducible refine GB a ?_|wp_step)
 refine wpAny_typeLookup_tail U (Y.keeps k) (T.keeps k) F.mroIs F.init.lookup ?_;rw [hi];unfold bindSpecial;refine Dj (b_ (b_ (G9 (T:="function") ⟨_,k _ _ f,S⟩ ?_)));rw [p_ (by decide)];refine e_ (b_ (thn z fun r s' y=>?_));obtain ⟨e,y⟩:=y;subst e
 wp_walk
 exact y
theorem x_call (F:Im B newId initId bmB) (T:Nv h bmB tl) (J:h.get? C=a_ (IP nm q C N bs tl hdct sn sub ab col dd k0 k1 k2 k3 k5 newId)) (U:h.Ns N mN) (hi:mN "__init__"=a_ (.ref fI))
  (Y:h.get? fI=a_ oI) (S:oI.cls=.type "function") (a:us.length<=n_) {Q:Vp}
  (z:s_ (w_ prog w) (A.under (.builtin "type.__call__" ⟨.ref C::us,[]⟩)) (Gg (.ref fI) (.ref (h.objs.size+1)::us)) (fun r s'=>r=.none/\Q (.ref (h.objs.size+1)) s') E ⟨pI h C us,g,d,t,os⟩) :
  s_ (w_ prog w) A (Gg (.ref C) us) Q E ⟨h,g,d,t,os⟩:=by
 have c:=tc_lookup;have b:=tc_bind (.ref C);have ty:(⟨h,g,d,t,os⟩:t_).TypeIs (.ref C) "type":=⟨_,J,rfl⟩
 refine Ih (Kf ?_);show s_ _ _ (callAny (.ref C) _) _ _ _
 (repeat (any_goals (first|assumption|with_reducible refine GB J ?_|wp_step)));exact ⟨rfl,codeAny_call_builtin_at (IH _ (by decide +kernel)) entry_typeCall (wpAny_check_type_call_sub J (x_type F T J U hi Y S a z))⟩
end
theorem ns_some {N:h_} {m:Mq} {n:Cy} (X:K.In h) (G:h.Ns N m) (e:Mu K N n=a_ (a_ v)):m n=a_ v:=by
 obtain ⟨o,es,ep,U,S,_,J⟩:=G;unfold Mu at e;cases q:K.lookup N with
 |none=>rw [q] at e;exact nomatch e
 |some a=>
  have z:=X _ _ q;rw [U] at z;cases z;obtain ⟨c,d,Y,sl⟩:=o;cases (show Y=.dict es ep from S);rw [q] at e;dsimp only at e;cases f:es.toList.find? (·.key.isStr n) with
  |none=>rw [f] at e;dsimp only at e;split at e<;>cases e
  |some b=>
   rw [f] at e;cases e;rw [<- J];unfold nsFind findBy;rw [<- Lo,f];rfl
noncomputable def Kzc:PySem.Data->Option PySem.ClassData
 |.cls c=>some c
 |_=>none
theorem Kzd {d:PySem.Data} {c:PySem.ClassData} (h:Kzc d=some c):d=.cls c:=by
 cases d<;>cases h
 rfl
noncomputable def kf (K:Fg) (C:h_) (bmB:List i_) (newId:String) (f:h_):Bool:=(K.lookup C).any fun o=>(Kzc o.data).any fun c=>c.mro.head?==some (.ref C)&&(o.cls==.type "type"&&(!c.hasDel&&(PySem.W.nsOkIn K c.ns&&(PySem.W.tailIn K bmB c.mro.tail&&(Mu K c.ns "__init__"==some (some (.ref f))&&(o.slots.toList.length==6&&o.slots.toList[4]?==some (some (.builtin newId))))))))
theorem Kz6 {α:Type} {l:List α} {x:α} (h:l.length=6) (h4:l[4]?=some x):∃a b c d e,l=[a,b,c,d,x,e]:=by
 obtain ⟨k0,l,rfl⟩:=List.exists_cons_of_length_eq_add_one (n:=5) h
 obtain ⟨k1,l,rfl⟩:=List.exists_cons_of_length_eq_add_one (n:=4) (Nat.succ.inj h)
 obtain ⟨k2,l,rfl⟩:=List.exists_cons_of_length_eq_add_one (n:=3) (Nat.succ.inj (Nat.succ.inj h))
 obtain ⟨k3,l,rfl⟩:=List.exists_cons_of_length_eq_add_one (n:=2) (Nat.succ.inj (Nat.succ.inj (Nat.succ.inj h)))
 have b:=Nat.succ.inj (Nat.succ.inj (Nat.succ.inj (Nat.succ.inj h)))
 obtain ⟨k4,l,rfl⟩:=List.exists_cons_of_length_eq_add_one (n:=1) b
 obtain ⟨k5,l,rfl⟩:=List.exists_cons_of_length_eq_add_one (n:=0) (Nat.succ.inj b)
 cases h4
 rw [List.eq_nil_of_length_eq_zero (Nat.succ.inj (Nat.succ.inj b))]
 exact ⟨_,_,_,_,_,rfl⟩
theorem qK {K:Fg} {h:CQ} {C f:h_} {bmB:List i_} {newId:String} (X:K.In h) (q:kf K C bmB newId f=true) :
  ∃tl N nm qn bs hdct sn sub ab col dd k0 k1 k2 k3 k5 mN,h.get? C=some (IP nm qn C N bs tl hdct sn sub ab col dd k0 k1 k2 k3 k5 newId)/\h.Ns N mN/\mN "__init__"=some (.ref f)/\Nv h bmB tl:=by
 obtain ⟨⟨oc,dd,dt,⟨l⟩⟩,d,q⟩:=(Option.any_eq_true _ _).mp q
 obtain ⟨⟨c1,c2,mro,c4,c5,c6,c7,c8,c9,c10,del⟩,e,q⟩:=(Option.any_eq_true _ _).mp q
 cases Kzd e
 simp only [u_,EI,Bool.not_eq_true'] at q
 obtain ⟨a1,rfl,rfl,a4,a5,a6,a7,a8⟩:=q
 obtain ⟨tl,rfl⟩:=List.head?_eq_some_iff.mp a1
 obtain ⟨k0,k1,k2,k3,k5,rfl⟩:=Kz6 a7 a8
 exact ⟨tl,c4,c1,c5,c2,c6,c7,c8,c9,c10,dd,k0,k1,k2,k3,k5,_,X _ _ d,.of_isNs (KP X a4),ns_some X (.of_isNs (KP X a4)) a6,PySem.W.tail_of_in X a5⟩
theorem xnamed2 {f:h_} (q:kf K C bmB newId f=f_):um K C bmB:=fun _ X=>by
 obtain ⟨tl,N,nm,J,bs,hdct,sn,sub,ab,col,dd,k0,k1,k2,k3,k5,mN,U,a,Y,S⟩:=qK X q;exact ⟨tl,N,nm,J,bs,hdct,sn,sub,ab,col,dd,k0,k1,k2,k3,k5,newId,U,S⟩
noncomputable def Ozi:i_->Bool
 |.ref _=>true
 |_=>false
noncomputable def oh (l:List i_):Bool:=l.dropWhile Ozi==[.type "ValueError",.type "Exception",.type "BaseException",.type "object"]
theorem Ozj {P:List i_->Prop} (h0:P [.type "ValueError",.type "Exception",.type "BaseException",.type "object"]) (h1:∀a l,P l->P (.ref a::l)):∀l:List i_,oh l=true->P l:=fun l=>by
 induction l with
 |nil=>exact fun e=>nomatch (EI.mp e:([]:List i_)=_)
 |cons v r ih =>
  intro e
  unfold oh at e
  rw [List.dropWhile_cons] at e
  cases v with
  |ref a=>exact h1 a r (ih e)
  |_=>rw [show (_::r)=_ from EI.mp e]; exact h0
theorem zD (me:i_) {l:List i_}:oh l=true->refuseLoop me "__setattr__" l=pure ():=Ozj (P:=fun l=>refuseLoop me "__setattr__" l=pure ()) (PySem.F.store_ValueError.passes me) (fun _ _ h=>by rw [refuseLoop_ref]; exact h) l
theorem ve_obj {l:List i_}:oh l=true->l.contains (.type "object")=true:=Ozj (P:=fun l=>l.contains (.type "object")=true) (by decide +kernel) (fun _ _ h=>by rw [List.contains_cons,h,Bool.or_true]) l
structure zw (K:Fg) (C:h_) (f:Cy):Prop where
 sa:Cm K (.ref C) "__setattr__"
   =a_ (a_ (.builtin "object.__setattr__"))
 no:Cm K (.ref C) f=a_ d_
 cd:((J1 K C).any fun cd=>oh cd.mro&&cd.hasDict)=f_
section
open PySem.W
variable {od:Option GX} {K:Mv} {f:Cy} 
theorem x_open {R:Jv->t_->Prop} (X:K.In s.heap) (I:Et s.heap a oe C od) (Z:zw K C f)
  (z:∀b,s_ (w_ prog w) A.in1 (Md (.ref a) (.ref C) (.str f tk) f v b)
   (fun U s'=>match U with|.done y=>R (.ok y) s'|.again c=>c.quiet=f_/\FG (w_ prog w) A c R s') (fun e s'=>R (.error e) s') s) :
  FG (w_ prog w) A (.call (.builtin "object.__setattr__") ⟨[.ref a,.str f tk,v],[]⟩) R s:=by
 have S:=PySem.F.store_object;obtain ⟨cd,Y,J⟩:=Ki Z.cd;rw [u_] at J;have g:cd.mro.isEmpty=c_:=by cases q:cd.mro with|nil=>rw [q] at J;cases J.1|cons _ _=>rfl
 have d:Looks (w_ prog w) s.heap (Js (.ref a) (.type "object")) f_:=I.type.andThen (looks_mroIn X (by unfold DM;rw [Y,LL,l_ (by rw [g];decide),ve_obj J.1]));refine GW S.slot.plain S.entry (@check_slot (w_ prog w) _ _ s "object.__setattr__" "object" "__setattr__" (.ref a) [.str f tk,v] [] _ S.kind S.split d (S.args (.ref a) (.str f tk) v) ?_);rw [osa_eq,refuse_eq];have h:Looks (w_ prog w) s.heap (mroOf (.ref C)) cd.mro:=(Kg X Y).andThen .now;refine b_ (b_ (I.type.here (b_ (h.here ?_))));rw [zD _ J.1];exact e_ (b_ (I.type.here (b_ ((FL X Z.no).here (b_ (e_ (z _)))))))
theorem x_set1 {vs:Array i_} {Q:Unit->t_->Prop} (X:K.In s.heap) (Z:zw K C f) (J:s.heap.get? a=a_ ⟨.ref C,d_,.fields vs,#[]⟩)
  (z:∀h',h'.get? a=a_ ⟨.ref C,a_ s.heap.objs.size,.fields vs,#[]⟩->h'.Ns1 s.heap.objs.size (fun y=>if y=f then a_ v else d_)->(∀b o,b≠a->s.heap.get? b=a_ o->h'.get? b=a_ o)->Q () {s with heap:=h',toks:=s.toks+2}) :
  s_ (w_ prog w) A (Ni (.ref a) f v) Q E s:=by
 have I:Et s.heap a ⟨.ref C,d_,.fields vs,#[]⟩ C d_:=⟨J,rfl,rfl,MK⟩
 refine Np X I Z.sa (x_open (s:={s with toks:=s.toks+1}) X I Z fun b=>?_);obtain ⟨cd,d,c⟩:=Ki Z.cd;rw [u_] at c;refine b_ (e_ (b_ (b_ (Ky J (b_ (Lg (s:={s with toks:=s.toks+1}) (Kg X d) ?_))))));rw [c.2];have U:a≠s.heap.objs.size:=Cd (o_ J);have h1:(s.heap.push Dn).get? a=a_ ⟨.ref C,d_,.fields vs,#[]⟩:=g_ _ J;refine b_ (wpAny_alloc' (b_ (wpAny_update' h1 (e_ ?_))));have h2:((s.heap.push Dn).update a fun o=>{o with dict:=a_ s.heap.objs.size}).get? s.heap.objs.size=a_ Dn:=by
  rw [Ce _ _ U];exact k_ s.heap rfl
 have h:((s.heap.push Dn).update a fun o=>{o with dict:=a_ s.heap.objs.size}).get? a=a_ ⟨.ref C,a_ s.heap.objs.size,.fields vs,#[]⟩:=CJ _ h1 rfl;refine b_ (e_ (b_ (wpAny_nsSet1 (m:=fun _=>d_) (KR ⟨Dn,#[],_,h2,rfl,(fun e J=>Cj J (by simp)),fun _=>rfl⟩) fun h' Y S=>?_)));obtain ⟨p,i,j,n,l,k⟩:=Y.count (Lc f v Within.nil);refine b_ (NH n (by rw [l];exact NK (C9 k (by rw [Ci,JA,Du];omega))) (e_ ?_));exact z h' ((S.2 a U).trans h) Y fun b o g q=>(S.2 b (Cd (o_ q))).trans (by rw [Ce _ _ (CV g)];exact g_ _ q)
end
section
open PySem.W
variable {od:GX} {K:Mv} {f:Cy} 
theorem zw.hd (Z:zw K C f):Fc K C=f_:=by
 obtain ⟨cd,S,J⟩:=Ki Z.cd;rw [u_] at J;unfold Fc;rw [S];exact J.2
theorem x_ga {Q:M5->t_->Prop} (X:K.In s.heap) (I:Et s.heap a oe C (a_ od)) (Y:zw K C f) (U:G3 f od=a_ (a_ v)) (q:Q (.done (.ret v)) s) :
  s_ (w_ prog w) A (Builtin.«object.__getattribute__» ⟨[.ref a,.str f tk],[]⟩) Q E s:=by
 have S:=I.type (M:=w_ prog w);have J:=looks_find (M:=w_ prog w) X I (Kh Y.hd Y.no rfl U);unfold Builtin.«object.__getattribute__»;exact b_ (e_ (b_ (e_ (b_ (S.here (b_ (J.here (e_ q))))))))
theorem x_get {ex:Bool} {Q:Vp} (FB:E9 B bmB) (X:K.In s.heap) (I:Et s.heap a oe C (a_ od)) (Z:zv K C) (Y:zw K C f) (e:G3 f od=a_ (a_ v)) (i:Je v=f_) (q:Q v {s with toks:=s.toks+1}) :
  s_ (w_ prog w) A (Kr (.ref a) f ex) Q E s:=by
 obtain ⟨h,g,d,t,os⟩:=s;have c:=I.type (M:=w_ prog w);have b:=FL (M:=w_ prog w) X Z.ga;have U:=FL (M:=w_ prog w) X Z.gt;have k:=FB.ga.bind (.ref a);have nx:(Ga "BaseException.__getattribute__"==Ga "object.__getattribute__")=c_:=by decide +kernel
 have J:∀{S:D0} (R:Jv->t_->Prop),R (.ok (.ret v)) ⟨h,g,d,t+1,os⟩->FG (w_ prog w) S (.call (.builtin "BaseException.__getattribute__") ⟨[.ref a,.str f t],[]⟩) R ⟨h,g,d,t+1,os⟩:=fun {S} R j=>
  GW FB.ga.plain Nz (o9 X I Z.bs (x_ga (s:=⟨h,g,d,t+1,os⟩) X I Y e j))
 have ho:=handedOut_of i;unfold Kr NL;refine b_ (wpAny_mkText ?_);repeat (any_goals (first|assumption|with_reducible refine c.at ?_|with_reducible refine b.at ?_|with_reducible refine U.at ?_|wp_step))
 rw [show (ex&&onTheHeap (Ga "BaseException.__getattribute__"))=c_ by rw [show onTheHeap (Ga "BaseException.__getattribute__")=c_ from rfl,Ic],l_ CI]
 repeat (any_goals (first|wp_step|assumption))
 all_goals (refine J _ ?_)
 repeat (any_goals (first|wp_step|assumption))
 all_goals (first|(rw [ho];exact wpAny_pure q)|exact q)
end
noncomputable def XO (a C:h_) (dx:Option h_):HO:=.ext fun h=>∃vs:Array i_,vs[1]? =a_ .none/\h.get? a=a_ ⟨.ref C,dx,.fields vs,#[]⟩
noncomputable def XD (d:h_) (fs:List (Cy×V)):HO:=.ext fun h=>∃mA,h.Ns1 d mA/\(∀f,pF (fs.lookup f) (mA f))/\GQ mA (fs.map (·.1))
section
variable {P:Cn} {d:h_} {fs:List (Cy×V)}
theorem xo_ok {vs:Array i_} (h1:vs[1]? =a_ .none) (e:h.get? a=a_ ⟨.ref C,dx,.fields vs,#[]⟩):bK P w H h a (XO a C dx):=⟨⟨vs,h1,e⟩,⟨_,e⟩,fun _ _ ⟨vs,q,e⟩ k=>⟨vs,q,k _ e⟩⟩
theorem xd_ok {mA:Mq} (n:h.Ns1 d mA) (r:∀f,pF (fs.lookup f) (mA f)) (wi:GQ mA (fs.map (·.1))):bK P w H h d (XD d fs):=
 ⟨⟨mA,n,r,wi⟩,(let ⟨o,_,_,e,_⟩:=n;⟨o,e⟩),fun _ _ ⟨m,q,z⟩ k=>⟨m,q.at k,z⟩⟩
theorem xo_get (x:bK P w H h a (XO a C dx)):∃vs:Array i_,vs[1]? =a_ .none/\h.get? a=a_ ⟨.ref C,dx,.fields vs,#[]⟩:=x.1
theorem xd_get (x:bK P w H h d (XD d fs)):∃mA,h.Ns1 d mA/\(∀f,pF (fs.lookup f) (mA f))/\GQ mA (fs.map (·.1)):=x.1
end
section
theorem Inv.turn {t':Nat} (I:Inv X pins σ H s) (S:h_->Prop) (k:∀b o,¬S b->s.heap.get? b=a_ o->h'.get? b=a_ o) (J:∀b,¬S b->H' b=H b)
  (Y:∀b,S b->(∃f,H b=a_ (.ext f))\/s.heap.get? b=d_) (a:∀b o,S b->s.heap.get? b=a_ o->∃o',h'.get? b=a_ o') (g:∀b o,S b->H' b=a_ o->bK X.prog X.w H' h' b o) :
  Inv X pins σ H' {s with heap:=h',toks:=t'}:=by
 have U:∀b u,H b=a_ u->(∀f,u≠.ext f)->¬S b:=fun b u e n z=>by
  rcases Y b z with ⟨f,q⟩|q
  ·rw [e] at q;cases q;exact n f rfl
  ·obtain ⟨o,r⟩:=(I.hok b u e).is;rw [r] at q;cases q
 have d:∀b o,s.heap.get? b=a_ o->H b=d_->¬S b:=fun b o e n z=>by
  rcases Y b z with ⟨f,q⟩|q
  ·rw [n] at q;cases q
  ·rw [e] at q;cases q
 refine I.un ⟨fun b o e n _ _=>k b o (d b o e n) e,fun b o e n _ _=>⟨o.slots,k b o (d b o e n) e⟩,fun b o e n _=>by rw [J b (d b o e n)];exact n,fun b o e _=>?_,fun b xs e=>?_,fun b o u e=>?_,fun b ps e=>?_⟩ fun b u e=>?_
 ·by_cases z:S b
  ·exact a b o z e
  ·exact ⟨o,k b o z e⟩
 ·rw [J b (U b _ e fun _ z=>nomatch z)];exact e
 ·rw [J b (U b _ e fun _ z=>nomatch z)];exact e
 ·exact ⟨#[],by rw [J b (U b _ e fun _ z=>nomatch z),Array.append_empty];exact e⟩
 ·by_cases z:S b
  ·exact g b u z e
  ·rw [J b z] at e;refine (I.hok b u e).uz (fun c v h q=>k c v ?_ q) (fun c q=>?_) fun c xs q=>?_
   ·rcases h with rfl|h
    ·exact z
    ·exact U c _ h fun _ z=>nomatch z
   ·rw [J c (U c _ q fun _ z=>nomatch z)];exact q
   ·rw [J c (U c _ q fun _ z=>nomatch z)];exact q
end
section
variable {d:h_} {f:Cy} {y:V} 
theorem xset1_ok {Q:Unit->t_->Prop} (I:Inv X pins σ H s) (e:H a=a_ (XO a C d_)) (Z:zw X.K C f) (h:RelV y u)
  (z:∀d s',H d=d_->d≠a->Inv X pins σ (upd (upd H d (XD d [(f,y)])) a (XO a C (a_ d))) s'->Q () s'):s_ (w_ X.prog X.w) A (Ni (.ref a) f u) Q E s:=by
 obtain ⟨vs,c,l⟩:=xo_get (I.hok a _ e);have fr:=I.hok.fresh (m_ s.heap.objs.size);have Y:s.heap.objs.size≠a:=fun q=>by rw [q,e] at fr;cases fr
 refine x_set1 I.kIn Z l fun h' e1 i k=>z s.heap.objs.size _ fr Y ?_;refine I.turn (fun b=>b=a\/b=s.heap.objs.size) (fun b o U q=>k b o (fun r=>U (.inl r)) q) (fun b U=>by rw [aq fun r=>U (.inl r),aq fun r=>U (.inr r)]) (fun b S=>?_) (fun b o S q=>?_) fun b o S q=>?_
 ·rcases S with rfl|rfl
  ·exact .inl ⟨_,e⟩
  ·exact .inr (get_none (m_ _))
 ·rcases S with rfl|rfl
  ·exact ⟨_,e1⟩
  ·rw [get_none (m_ _)] at q;cases q
 ·rcases S with rfl|rfl
  ·rw [ao] at q;cases q;exact xo_ok c e1
  ·rw [aq Y,ao] at q;cases q;refine xd_ok i (fun g=>?_) fun g j=>?_
   ·show pF (D1 g [(f,y)]) (if g=f then a_ u else d_);rw [Cp];by_cases J:g=f
    ·rw [p_ J,show (g==f)=f_ from EI.mpr J];exact h
    ·rw [l_ J,show (g==f)=c_ from E5.mpr J];trivial
   ·by_cases J:g=f
    ·exact r_.mpr (.inl J)
    ·exact Cj (show (if g=f then a_ u else d_)=d_ from l_ J) j
end
def sX1 (C:h_) (ta tv:TE) (f:Cy):TS:=fun D σ H=>tv σ H fun y H1=>ta σ H1 fun x H2=>∃a,x=.ref a/\H2 a=a_ (XO a C d_)/\∀d,H2 d=d_->d≠a->D.nx σ (upd (upd H2 d (XD d [(f,y)])) a (XO a C (a_ d)))
section
variable {f:Cy} {ta:TE} 
theorem ps_x1 (c:PE X o ta) (hv:PE X value tv) (Z:zw X.K C f) (b: ~~~(Dx value (a_ (.Attribute o f pos')) pos.line X.env=DC c_)):PS X (.Assign [.Attribute o f pos'] value pos) (sX1 C ta tv f):=by
 intro pins s σ H D I h;refine JO (thn (hv pins s σ H _ I h) fun u J ⟨y,H1,i,S,q⟩=>thn (c pins J σ H1 _ i q) fun Y k ⟨x,H2,g,U,a,ex,ea,q2⟩=>?_) b;subst ex;cases (show Y=x_ a from U);exact xset1_ok g ea Z S fun d j h1 h2 e=>⟨σ,_,e,q2 d h1 h2⟩
end
theorem fn_at {f:h_} (X:K.In h) (e:JZ K (.ref f)=a_ (.type "function")):∃o,h.get? f=a_ o/\o.cls=.type "function":=by
 unfold JZ at e;cases q:K.lookup f with
 |none=>simp only [q] at e;cases e
 |some o=>
  simp only [q] at e;exact ⟨o,X _ _ q,by simpa using e⟩
theorem uw {M:Kb} {q:Cy} {N:h_} {bs:List i_} 
  {x:Mb i_} {Q:Flow->t_->Prop} (j:tl.contains (.type "BaseException")=f_) (f:A.handled=d_)
  (z:s_ M A x (fun v J=>∃e oe,v=.ref e/\J.heap.get? C=a_ (IP nm q C N bs tl hdct sn sub ab col dd k0 k1 k2 k3 k5 newId)/\J.heap.get? e=a_ oe/\oe.cls=.ref C/\(∃vs,oe.data=.fields vs/\vs[1]? =a_ .none)/\E (.ref e) J) E s) :
  s_ M A
    (raiseStmt env (a_ x) d_) Q E s:=by
 have k:(x_ C::tl).contains (.type "BaseException")=f_:=by rw [LO,j,Kx]
 unfold raiseStmt;refine b_ (thn z fun v J S=>?_);obtain ⟨e,oe,rfl,a,h,Y,⟨vs,hd,U⟩,i⟩:=S;obtain ⟨oc,b,c,osl⟩:=oe;dsimp only at Y hd;subst Y hd;obtain ⟨l,g,d,tk,os⟩:=J;repeat (first|(with_reducible refine ML a ?_;rw [k])|with_reducible refine GB h ?_|with_reducible refine GB a ?_|wp_step)
 rw [U];refine e_ ?_;rw [l_ (by decide)];exact e_ (wpAny_raiseNew_none f i)
def XEq2 (X:Cx) (E:XK) (C:h_):Prop:=∀(pins:Pn) (σ:St) (H:Hp) (s':t_) (a d:h_),Inv X pins σ H s'->ExA s'.heap a (.ref C) (a_ d) d_->X.s₀.heap.get? a=d_->H a=d_->E (.ref C) (a_ d) H->X.xe (.ref a) s'
section
variable {P:Cn} {base:CQ} {f:h_} {E:XK} 
theorem xeqD2:XEq2 (xm (CXd P w) P w K mg base N qual scope f cd A outer s H E) E C:=fun _ _ _ _ _ _ J x S fa q=>xe_of J x S (fun T U=>nomatch U) fa q
end
def tFldX (i:Nat) (a d:h_) (f:Cy):TE:=fun σ H Q=>σ[i]? =a_ (a_ (.ref a))/\∃gs v,H d=a_ (.xd gs)/\gs.lookup f=a_ v/\Q v H
section
variable {d:h_} {n f:Cy} 
theorem pe_xfld (FB:E9 B bmB) (Z:zv X.K C) (Y:zw X.K C f) (A:oe.cls=.ref C) (hd:∃vs,oe.data=.fields vs) (p:oe.dict=a_ d)
  (E: ~~~(X.N[i]? =a_ n)) (hv:autoParam (Vis X.env.scope n) Jq3) (e:((n==("__debug__":Cy))=c_)⁻¹) (c:((n==("__classdict__":Cy))=c_)⁻¹)
  (D: ~~~(DH (.Name n p1) f X.env (Cf (.Name n p1) X.env)=Cf (.Name n p1) X.env)):PE (X.hand a oe) (.Attribute (.Name n p1) f pos) (tFldX i a d f):=by
 intro pins s σ H Q I h;obtain ⟨e1,gs,v,z,y,q⟩:=h;refine BZ (env:=(X.hand a oe).env) D (thn (pv (X:=X.hand a oe) i E hv e c pins s σ H (fun x H1=>x=.ref a/\H1=H) I ⟨.ref a,e1,rfl,rfl⟩) fun u g ⟨x,H1,S,k,ex,F⟩=>?_);subst ex F;cases (show u=x_ a from k);have l:=(S.pin (a,oe) (Cz ..)).1;obtain ⟨mA,m,r⟩:=(show bK X.prog X.w H1 g.heap d (.xd gs) from S.hok d _ z)
 obtain ⟨od,w,U⟩:=sV m;obtain ⟨G,t,j⟩:=pF.some_of (v:=v) (o:=mA f) (by rw [<- y];exact r f);obtain ⟨vs,b⟩:=hd;have J:Et g.heap a oe C (a_ od):=⟨l,A,by unfold Jt;rw [b],by rw [p];exact w⟩
 exact x_get FB S.kIn J Z Y (by rw [U,t]) (t4 j) ⟨v,H1,S.tok _,j,q⟩
end
def mr (O:List Nat) (C:h_) (fb:ah->M Flo) (fx:List (Cy×Dat)->ah->M ah):ah->M Flo:=fun ρ=>match fb (erase O ρ) with
 |.ok fl=>.ok fl
 |.error (.exc J (f::fs))=>if J=C then (fx (f::fs) ρ).bind fun ρ'=>.ok (.nx ρ') else .error .stuck
 |.error _=>.error .stuck
theorem tI {fb:ah->M Flo} {fl:Flo} (h:fb (erase O ρ)=.ok fl):mr O C fb fx ρ=.ok fl:=by unfold mr;rw [h]
theorem pb {fb:ah->M Flo} {f:Cy×Dat} {fs:List (Cy×Dat)} (h:fb (erase O ρ)=.error (.exc C (f::fs))):mr O C fb fx ρ=(fx (f::fs) ρ).bind fun ρ'=>.ok (.nx ρ'):=by unfold mr;rw [h];exact p_ rfl
section
variable {fb:ah->M Flo} 
theorem rs_tryF (U:∀(a d:h_) (gs:List (Cy×V)) (fs:List (Cy×Dat)) (FB F H:Hp) (ρ:ah),Rep K F0 H0 FB O F H σ ρ->F d=a_ (.xd gs)->kr K F fs gs->bY K Wno ro F0 H0 FB OL O D ((fx fs ρ).bind fun ρ'=>.ok (.nx ρ'))->ts a (a_ d) (D.less i) (σ.set i (a_ (.ref a))) H)
  (t:tS K Wno ro F0 H0 OL O O (mr O C fb fx) D σ H):tTry (fun E D σ H=>∃F1 H1,tS K (WE K E) ro F1 H1 OL [] O fb D σ H) i C ts D σ H:=by
 obtain ⟨FB,F,ρ,r,p⟩:=t;have J:=r.gO;refine ⟨F,H,FB,F,erase O ρ,⟨Step.refl r.st.fh,r.fb,J.len,fun m d e _=>J.sl m d e,(fun m d e h=>nomatch h),(fun m n j g c h=>nomatch h)⟩,?_⟩
 cases e:fb (erase O ρ) with
 |ok fl=>
  rw [tI e] at p;cases fl with
  |nx ρ'=>exact fun σ' F' H' r'=>p σ' F' H' (r'.back r.st)
  |rt d=>exact fun v F' H' s' q=>p v F' H' (r.st.trans s') (q.back r.st.hh)
  |bk ρ'=>exact fun σ' F' H' r'=>p σ' F' H' (r'.back r.st)
  |ct ρ'=>exact fun σ' F' H' r'=>p σ' F' H' (r'.back r.st)
 |error x=>
  cases x with
  |stuck=>exact p.stuck (by unfold mr;rw [e])
  |exc b fs=>
   cases fs with
   |nil=>exact p.stuck (by unfold mr;rw [e])
   |cons f fs=>
    by_cases S:b=C
    ·subst S;rw [pb e] at p;exact fun F' H' s' d gs hd Y=>⟨rfl,fun a _=>U a d gs _ FB F' H' ρ (r.step s') hd Y p⟩
    ·exact p.stuck (by unfold mr;rw [e];exact l_ S)
end
section
variable {n:Cy} {fb:ah->M Flo} 
theorem ds_tryF (k:∀(pins:Pn) (σ:St) (E:XK) (S:Vp),j3 (CXd X.prog X.w) (X.pJ S) pins σ E->DSat K E ro (X.pJ S) OL [] O pins σ body fb)
  (e:∀(a:h_) (oe:GX),oe.cls=.ref C->(∃vs,oe.data=.fields vs)->PSs (X.hand a oe) (b₀::suite) (ts a oe.dict))
  (l:∀(F0 H0:Hp) (D:Ends) (σ:St) (a d:h_) (gs:List (Cy×V)) (fs:List (Cy×Dat)) (FB F H:Hp) (ρ:ah),σ.length=X.N.length->Rep K F0 H0 FB O F H σ ρ->F d=a_ (.xd gs)->kr K F fs gs->bY K Wno ro F0 H0 FB OL O D ((fx fs ρ).bind fun ρ'=>.ok (.nx ρ'))->ts a (a_ d) (D.less i) (σ.set i (a_ (.ref a))) H)
  (o:um X.K C bmB) (t:bmB.contains (.type "BaseException")=f_) (g:X.mg c=a_ (.ref C)) (m:X.N.Nodup) (hi: ~~~(X.N[i]? =a_ n)) (h: ~~~(X.env.scope.names.lookup n=a_ .local))
  (j: ~~~(Gl X c)) (Y: ~~~(X.ex=[])) (J: ~~~(X.stack=X.env::X.outer)) (U: ~~~(X.env.frame=a_ X.env.locals)) (b:((c==("__debug__":Cy))=c_)⁻¹) :
  DS K Wno ro X OL O O (.Try body [.ExceptHandler (a_ (.Name c np)) (a_ n) (b₀::suite) hpos] [] [] pos) (mr O C fb fx):=fun F0 H0 pins s σ H D I z=>
 ps_try (tb:=fun E D σ H=>∃F1 H1,tS K (WE K E) ro F1 H1 OL [] O fb D σ H) (fun pins σ E S f s H D I ⟨F1,H1,q⟩=>k pins σ E S f F1 H1 s H D I q) e o t g m hi h j Y J U b pins s σ H D I (rs_tryF (fun a d gs fs FB F H ρ r h1 h2 p=>l F0 H0 D σ a d gs fs FB F H ρ I.len r h1 h2 p) z)
end
section
theorem Rep.told {vs:List V} (r:Rep K F0 H0 FB O F H σ ρ) (v:i≠j) (hi:i<σ.length) (q:j<σ.length) (b:i∉O) (Y:j∉O) (p:H l=d_) (w:au K F ds vs) :
  Rep K F0 H0 FB O (upd F l (.lst vs)) (upd H l (.lst vs)) (((σ.set i (a_ (.ref a))).set j (a_ (.ref l))).set i d_) ((ρ.set j (a_ (.lst ds))).set i d_):=by
 have k:F l=d_:=r.st.fh.free p;have u:aN F (upd F l (.lst vs)):=aN.upd k;have st:Step F H (upd F l (.lst vs)) (upd H l (.lst vs)):=by
  refine ⟨u,fun c o e=>by rw [aq (aF e p)];exact e,fun c o e=>?_,fun c o e=>?_⟩
  ·by_cases f:c=l
   ·subst f;rw [ao] at e ⊢;exact e
   ·rw [aq f] at e ⊢;exact r.st.fh c o e
  ·by_cases f:c=l
   ·subst f;exact .inr p
   ·rw [aq f] at e;exact .inl e
 have d:=r.step st;have S:∀m,m≠i->m≠j->(((σ.set i (a_ (.ref a))).set j (a_ (.ref l))).set i d_)[m]? =σ[m]?:=fun m h1 h2=>by
  rw [q_ (CV h1),q_ (CV h2),q_ (CV h1)]
 have J:∀m,m≠i->m≠j->((ρ.set j (a_ (.lst ds))).set i d_)[m]? =ρ[m]?:=fun m h1 h2=>by
  rw [q_ (CV h1),q_ (CV h2)]
 have g:∀dd,((ρ.set j (a_ (.lst ds))).set i d_)[i]?≠a_ (a_ dd):=fun dd e=>by
  rw [B_ (by rw [CB,r.len];exact hi)] at e;cases e
 refine ⟨d.st,d.fb,by simp only [CB];exact r.len,fun m dd e U=>?_,fun m dd e U=>?_,fun m n y x c U h e1 e2 e3 e4=>?_⟩
 ·by_cases h1:m=i
  ·subst h1;exact (g _ e).elim
  ·by_cases h2:m=j
   ·subst h2;rw [q_ (CV h1),B_ (by rw [r.len];exact q)] at e;cases e;refine ⟨.ref l,by rw [q_ (CV h1),B_ (by rw [CB];exact q)],l,vs,rfl,SqL.of ao,au.mono u w⟩
   ·rw [J m h1 h2] at e;rw [S m h1 h2];exact d.fz m dd e U
 ·have h1:m≠i:=fun z=>b (z▸U);have h2:m≠j:=fun z=>Y (z▸U);rw [J m h1 h2] at e;rw [S m h1 h2];exact d.ow m dd e U
 ·have h1:m≠i:=fun z=>b (z▸U);have h2:m≠j:=fun z=>Y (z▸U);have t:n≠i:=fun z=>b (z▸h);have s:n≠j:=fun z=>Y (z▸h);rw [J m h1 h2] at e1;rw [J n t s] at e2;rw [S m h1 h2] at e3;rw [S n t s] at e4;exact d.ap m n y x c U h e1 e2 e3 e4
end
section
variable {W:ck} 
theorem ps_nox {t:TS} (h:PS X.nox st t):PS X st t:=fun pins s σ H D I z=>Di (h pins s σ H D (I.pJ _) z) (fun _ _ q=>q.hW) fun _ _ y=>(show False from y).elim
theorem qP (h:DS K Wno ro X.nox OL O O' st g):DS K W ro X OL O O' st (fNoX g):=fun F0 H0=>PS.imp (ps_nox (h F0 H0)) fun D σ H ⟨FB,F,ρ,r,p⟩=>by
 refine ⟨FB,F,ρ,r,?_⟩
 have p:bY K W ro F0 H0 FB OL O' D (noX (g ρ)):=p;unfold bY at p ⊢;cases e:g ρ with
 |ok fl=>
  rw [e] at p;cases fl<;>exact p
 |error x=>rw [e] at p;exact (W.ns p).elim
end
structure XMk (K:Fg) (mg:Mq) (x:Cy) (C f:h_):Prop where
 mg:mg x=a_ (.ref C)
 ex:kf K C [.type "ValueError",.type "Exception",.type "BaseException",.type "object"] "ValueError.__new__" f=f_
 fn:JZ K (.ref f)=a_ (.type "function")
 kp:FH K (.ref C)
   =f_
structure XTry (K:Fg) (mg:Mq) (x:Cy) (C:h_):Prop where
 mg:mg x=a_ (.ref C)
 nm:um K C [.type "ValueError",.type "Exception",.type "BaseException",.type "object"]
 isi:zv K C
noncomputable def isK (k:Int):i_->Bool
 |.int i _=>i==k
 |_=>c_
section
theorem oi:∀{is:List Int} {us:List i_},Vals (is.map V.int) us->∀(m:Nat) (i:Int),is[m]? =a_ i->∃t,us[m]? =a_ (.int i t)
 |[],_,_,m,i,h=>by simp at h
 |a::is,_,.cons r rs,0,i,h=>by
  obtain ⟨t,e⟩:=(show ∃t,_=FU a t from r)
  simp at h;subst h e;exact ⟨t,rfl⟩
 |a::is,_,.cons r rs,m+1,i,h=>by simpa using oi rs m i (by simpa using h)
end
def wM:Dat->M Dat
 |.str _=>.ok (.bl f_)
 |.ins _ _=>stk
 |.dic _=>stk
 |.dil _=>stk
 |_=>.ok (.bl c_)
section
variable {W:ck} {own:Bool} {a:Dr} 
theorem BV (J:Kit K) (c: ~~~(X.K=K)):bS X (.builtin "isinstance") (fun xs H Q=>∃v,xs=[v,.ty "str"]/\rD1 K W own wM v H Q):=by
 subst c;intro pins s σ H xs us Q I r h;obtain ⟨v,rfl,F,d,Y,q,p⟩:=h;obtain ⟨u,w,rfl,a,S⟩:=r.two;cases (show w=DL "str" from S);by_cases hi:(∃C fs,d=.ins C fs)\/(∃ks,d=.dic ks)\/∃ks,d=.dil ks
 ·rcases hi with ⟨C,fs,rfl⟩|⟨ks,rfl⟩|⟨ks,rfl⟩<;>exact aw.stuck p
 ·refine B2 I Y q a J.A9 J.yf J.ya J.uO J.A7 J.nI (fun k tk b=>⟨.bl k,H,I.tok tk,rfl,?_⟩) (fun C fs e=>hi (.inl ⟨C,fs,e⟩)) (fun ks e=>hi (.inr (.inl ⟨ks,e⟩))) (fun ks e=>hi (.inr (.inr ⟨ks,e⟩)));cases d<;>first|(have U:k=_:=b;subst U;exact aw.bl (own:=own) p Y)|exact Cj (.inl ⟨_,_,rfl⟩) hi|exact Cj (.inr (.inl ⟨_,rfl⟩)) hi|exact Cj (.inr (.inr ⟨_,rfl⟩)) hi
theorem de_isi_str (S:Kit K) (d:X.mg "isinstance"=d_) (b:X.mg "str"=d_) (f:DE K W c_ X a fa) (g: ~~~(X.K=K))
  (e: ~~~(Gl X "isinstance")) (c: ~~~(Gl X "str"))
  (U: ~~~(j_ [a,.Name "str" p2] X.env=[(c_,Cf a X.env),(c_,Cf (.Name "str" p2) X.env)])) (J: ~~~(j_ [.Name "str" p2] X.env=[(c_,Cf (.Name "str" p2) X.env)])) (Y: ~~~((CZ pos (j_ [.Name "str" p2] X.env)).any (·.1)=c_)) :
  DE K W own X (.Call (.Name "isinstance" p) [a,.Name "str" p2] [] pos) (f1 wM fa):=nj (BV S g) d b (by decide +kernel) f e c (by decide) (by decide) U J Y
end
def rIsi (K:Fg) (C a:h_) (R:Hp->Prop):List V->Hp->VK->Prop:=fun xs H Q=>R H/\∃v b,xs=[.ref a,v] /\
  ((∃c,RelV v c/\(∀u,RelV v u->u=c)/\CW K (.ref C) c=a_ b)\/∃(J:h_) (ys:List h_),v=.ref J/\H J=a_ (.tup (ys.map V.ref))/\M4 K (.ref C) (ys.map x_)=a_ b)/\Q (.bl b) H
def XDk (d:h_):Hp->Prop:=fun H=>∃gs,H d=a_ (.xd gs)
noncomputable def tIsiR (i:Nat) (a:h_) (R:Hp->Prop) (b:Bool):TE:=fun σ H Q=>σ[i]? =a_ (a_ (.ref a))/\R H/\Q (.bl b) H
def tIsiTR (i:Nat) (a:h_) (R:Hp->Prop) (ys:List h_) (b:Bool):TE:=fun σ H Q=>σ[i]? =a_ (a_ (.ref a))/\∀p,H p=d_->R (upd H p (.tup (ys.map V.ref)))/\Q (.bl b) (upd H p (.tup (ys.map V.ref)))
section
variable {d:h_} 
theorem c_isiD (FB:E9 B bmB) (Z:zv X.K C) (L:oe.cls=.ref C) (hd:∃vs,oe.data=.fields vs) (E:oe.dict=a_ d):bS (X.hand a oe) (.builtin "isinstance") (rIsi X.K C a (XDk d)):=by
 intro pins s σ H xs us Q I r h;obtain ⟨⟨gs,K⟩,v,b,rfl,h1,q⟩:=h;obtain ⟨u,w,rfl,x,U⟩:=r.two;cases (show u=x_ a from x);have y:=(I.pin (a,oe) (Cz ..)).1;obtain ⟨vs,i⟩:=hd;obtain ⟨mA,⟨od,es,ep,G,g⟩,_⟩:=(show bK X.prog X.w H s.heap d (.xd gs) from I.hok d _ K)
 have J:Et s.heap a oe C (a_ od):=⟨y,L,by unfold Jt;rw [i],by rw [E];exact G⟩
 rcases h1 with ⟨c,O,S,e⟩|⟨Y,ys,rfl,F,e⟩
 ·cases S w U;exact E1 (lX FB Z) I.kIn J e (fun z=>nomatch z) fun tk=>⟨.bl b,H,I.tok tk,rfl,q⟩
 ·cases (show w=x_ Y from U);obtain ⟨_,its,t,D,p,o⟩:=(show bK X.prog X.w H s.heap Y (.tup (ys.map V.ref)) from I.hok Y _ F)
  obtain ⟨m,n,l⟩:=o;have N:its=ys.map x_:=qc t;subst N;obtain ⟨oc,A,f,osl⟩:=D;have k:oc=DL "tuple":=m;have j:f=.seq (ys.map x_).toArray n:=l;subst k j;exact LB (lX FB Z) I.kIn J p e (fun z=>nomatch z) fun tk=>⟨.bl b,H,I.tok tk,rfl,q⟩
end
section
variable {D:h_} {R:Hp->Prop} {n:Cy} {b:Bool} 
theorem pe_isO (f:bS (X.hand a oe) (.builtin "isinstance") (rIsi X.K C a R)) (k:X.mg "isinstance"=d_) (t:X.mg y=a_ (.ref D)) (m:CW X.K (.ref C) (.ref D)=a_ b)
  (r: ~~~(X.N[i]? =a_ n)) (hv:autoParam (Vis X.env.scope n) Jq3) (e:((n==("__debug__":Cy))=c_)⁻¹) (d:((n==("__classdict__":Cy))=c_)⁻¹)
  (l: ~~~(Gl (X.hand a oe) "isinstance")) (Y: ~~~(Gl (X.hand a oe) y)) (c:((y==("__debug__":Cy))=c_)⁻¹)
  (S: ~~~(j_ [.Name n p1,.Name y p2] X.env=[(c_,Cf (.Name n p1) X.env),(c_,Cf (.Name y p2) X.env)])) (J: ~~~(j_ [.Name y p2] X.env=[(c_,Cf (.Name y p2) X.env)])) (U: ~~~((CZ pos (j_ [.Name y p2] X.env)).any (·.1)=c_)) :
  PE (X.hand a oe) (.Call (.Name "isinstance" p) [.Name n p1,.Name y p2] [] pos) (tIsiR i a R b):=by
 have g:PE (X.hand a oe) (.Name y p2) (tC (.ref D)):=fun pins s σ H Q I h=>iu I Y t ⟨.ref D,H,I,rfl,h⟩ c;refine PE.imp (di (X:=X.hand a oe) f l k EK (aM (pv i r hv e d) (aM g cy J) (by rw [S,J])) (by decide) (by decide) (by rw [S,J]) U) fun σ H Q h=>?_;obtain ⟨e1,o,q⟩:=h;exact ⟨.ref a,e1,o,.ref D,b,rfl,.inl ⟨.ref D,rfl,fun u j=>j,m⟩,q⟩
theorem pe_isB (j:bS (X.hand a oe) (.builtin "isinstance") (rIsi X.K C a R)) (m:X.mg "isinstance"=d_) (c:X.mg y=d_) (U:D5 y=a_ (.type T)) (r:CW X.K (.ref C) (.type T)=a_ b)
  (t: ~~~(X.N[i]? =a_ n)) (hv:autoParam (Vis X.env.scope n) Jq3) (g:((n==("__debug__":Cy))=c_)⁻¹) (f:((n==("__classdict__":Cy))=c_)⁻¹)
  (o: ~~~(Gl (X.hand a oe) "isinstance")) (d: ~~~(Gl (X.hand a oe) y)) (k:(y≠"__name__")⁻¹) (e:((y==("__debug__":Cy))=c_)⁻¹)
  (S: ~~~(j_ [.Name n p1,.Name y p2] X.env=[(c_,Cf (.Name n p1) X.env),(c_,Cf (.Name y p2) X.env)])) (J: ~~~(j_ [.Name y p2] X.env=[(c_,Cf (.Name y p2) X.env)])) (Y: ~~~((CZ pos (j_ [.Name y p2] X.env)).any (·.1)=c_)) :
  PE (X.hand a oe) (.Call (.Name "isinstance" p) [.Name n p1,.Name y p2] [] pos) (tIsiR i a R b):=by
 refine PE.imp (di (X:=X.hand a oe) j o m EK (aM (pv i t hv g f) (aM (wF (X:=X.hand a oe) (pos:=p2) d c U k e) cy J) (by rw [S,J])) (by decide) (by decide) (by rw [S,J]) Y) fun σ H Q h=>?_;obtain ⟨e1,s,q⟩:=h;exact ⟨.ref a,e1,s,.ty T,b,rfl,.inl ⟨.type T,rfl,fun u l=>l,r⟩,q⟩
theorem pe_isT {j} (f:bS (X.hand a oe) (.builtin "isinstance") (rIsi X.K C a R)) (g:X.mg "isinstance"=d_) (o:PA (X.hand a oe) es (tRefs ys)) (k:ys.length<=n_) (m:M4 X.K (.ref C) (ys.map x_)=a_ b)
  (r: ~~~(X.N[i]? =a_ n)) (hv:autoParam (Vis X.env.scope n) Jq3) (e:((n==("__debug__":Cy))=c_)⁻¹) (d:((n==("__classdict__":Cy))=c_)⁻¹)
  (l: ~~~(Gl (X.hand a oe) "isinstance"))
  (U: ~~~(j_ [.Name n p1,.Tuple es j p2] X.env=[(c_,Cf (.Name n p1) X.env),(c_,Cf (.Tuple es j p2) X.env)])) (J: ~~~(j_ [.Tuple es j p2] X.env=[(c_,Cf (.Tuple es j p2) X.env)])) (c: ~~~((CZ pos (j_ [.Tuple es j p2] X.env)).any (·.1)=c_)) :
  PE (X.hand a oe) (.Call (.Name "isinstance" p) [.Name n p1,.Tuple es j p2] [] pos) (tIsiTR i a R ys b):=by
 refine PE.imp (di (X:=X.hand a oe) f l g EK (aM (pv i r hv e d) (aM (Ao o) cy J) (by rw [U,J])) (by decide) (by decide) (by rw [U,J]) c) fun σ H Q h=>?_;obtain ⟨e1,q⟩:=h;exact ⟨.ref a,e1,by rw [v_];exact k,fun Y S=>⟨(q Y S).1,.ref Y,b,rfl,.inr ⟨Y,ys,rfl,ao,m⟩,(q Y S).2⟩⟩
end
structure Yd (P:Cn) (w:Dv) (K:Fg) (mg:Mq) (base:CQ) (CX:CXT) (k:Nat) (x:Cy) (st:Dt) (ps:List Cy) (sp:Sp) (f:h_) (fd:EZ):Prop where
 d:Def K mg x st ps f fd
 o:iN P w K mg base CX k f fd ps sp
section
open PySem.W
end
structure XUnder (K:Fg) (C Cb:h_):Prop where
 sub:DM K C (.ref Cb)=a_ f_
 isi:zv K C
structure XBase (K:Fg) (mg:Mq) (x:Cy) (Cb:h_):Prop where
 mg:mg x=a_ (.ref Cb)
 ty:JZ K (.ref Cb)=a_ (.type "type")
 bs:DM K Cb (.type "BaseException")=a_ f_
def XR:Option h_->Hp->Prop
 |none=>fun _=>True
 |some d=>XDk d
section
theorem c_isiA (FB:E9 B bmB) (Z:zv X.K C) (S:oe.cls=.ref C) (hd:∃vs,oe.data=.fields vs):bS (X.hand a oe) (.builtin "isinstance") (rIsi X.K C a (XR oe.dict)):=by
 cases J:oe.dict with
 |none=>exact fun pins s σ H xs us Q I r h=>xt FB Z S hd J pins s σ H xs us Q I r h.2
 |some d=>exact c_isiD FB Z S hd J
end
structure XTell (K:Fg) (C:h_) (A1 A2 A3:h_) (T:String) (ys:List h_) (bs:List Bool):Prop where
 ex:∃b1 b2 b3 b4 b5,bs=[b1,b2,b3,b4,b5]/\CW K (.ref C) (.ref A1)=a_ b1/\CW K (.ref C) (.ref A2)=a_ b2/\CW K (.ref C) (.ref A3)=a_ b3/\CW K (.ref C) (.type T)=a_ b4/\M4 K (.ref C) (ys.map x_)=a_ b5
structure XTxt (K:Fg) (mg:Mq) (x:Cy) (C:h_):Prop where
 mg:mg x=a_ (.ref C)
 ex:PySem.W.excIn K C [.type "ValueError",.type "Exception",.type "BaseException",.type "object"] "ValueError.__new__"=f_
section
open PySem.W
end
structure XTwo (K:Fg) (mg:Mq) (c1 c2:Cy) (C1 C2:h_):Prop where
 b1:XBase K mg c1 C1
 b2:XBase K mg c2 C2
 isi:zv K C1
 s1:DM K C1 (.ref C1)=a_ f_
 s2:DM K C2 (.ref C2)=a_ f_
 no:DM K C2 (.ref C1)=a_ c_
theorem yE:MW (.type "list_reverseiterator") "__len__"=DC d_:=by rw [Iq,GI];kernel_rfl
theorem lri_hint:MW (.type "list_reverseiterator") "__length_hint__"=DC (a_ (.builtin "list_reverseiterator.__length_hint__")):=by rw [Iq,GI];kernel_rfl
theorem lri_self:isSubtype (.type "list_reverseiterator") (.type "list_reverseiterator")=DC f_:=by rw [KJ];kernel_rfl
theorem boot_reversed:D5 "reversed"=a_ (.type "reversed"):=by decide +kernel
section
variable {P:Cn} {Q:Vp} {R:h_} 
theorem rl (y:A.handled=d_) (n:s.heap.IsRevIter R l ((items.size:Int)-1)) (q:s.heap.IsList l items) (h:l≠R) (x:items.size<=n_)
  (m:∀h' tk acc c,(∀b o,b≠R->s.heap.get? b=a_ o->h'.get? b=a_ o)->h'.get? s.heap.objs.size=a_ {cls:=.type "list",dict:=d_,data:=.seq acc c,slots:=#[]}->Ku (fun i v=>items[items.size-1-i]? =a_ v) acc items.size->Q (.ref s.heap.objs.size) {s with heap:=h',toks:=tk}) :
  s_ (w_ P w) A (Gg (.type "list") [.ref R]) Q E s:=by
 have lo:∀{b o},s.heap.get? b=a_ o->s.heap.objs.size≠b:=fun e z=>C_ _ (z▸o_ e);have r:s.heap.objs.size≠R:=n.elim fun _ t=>lo t.1;have C:s.heap.objs.size≠l:=q.elim fun _ t=>lo t.1;refine callType_codes (Q₁:=fun u J=>u=.ref s.heap.objs.size/\J={s with heap:=s.heap.push {cls:=.type "list",data:=.seq #[]}}) F.called_list (F.typeCall_list_1 _) F.entry_list_init (code_list_new _ ⟨rfl,rfl⟩) fun u J Y=>?_;obtain ⟨rfl,rfl⟩:=Y;have f:(s.heap.push {cls:=.type "list",data:=.seq #[]}).get? s.heap.objs.size=a_ {cls:=.type "list",data:=.seq #[]}:=k_ _ rfl;refine ⟨⟨_,f,rfl⟩,F.args_list_init_2 _ _,?_⟩
 refine b_ (b_ (Ft f rfl (e_ ?_)));refine b_ (G2 f rfl ?_);have e1:=CJ (C8 fun _=>(#[]:Array i_)) f rfl;have g:∀b o,s.heap.get? b=a_ o->((s.heap.push {cls:=.type "list",data:=.seq #[]}).update s.heap.objs.size (C8 fun _=>(#[]:Array i_))).get? b=a_ o:=fun b o e=>(Ce _ _ (lo e)).trans (g_ _ e);have U:=n.at (g R)
 have j:=q.at (g l)
 have ty:Fw {s with heap:=(s.heap.push {cls:=.type "list",data:=.seq #[]}).update s.heap.objs.size (C8 fun _=>(#[]:Array i_))} (.ref R) "list_reverseiterator":=U.typeIs;have S:FJ (.ref s.heap.objs.size) (.ref R)=c_:=by simpa [FJ] using r
 refine b_ (wpAny_letGo (b_ (G9 ty ?_)));rw [S,l_ (by decide)];refine b_ (wpAny_pyIter_revIter U (b_ (Dj ?_)));refine b_ (Gm ty yE (b_ (Gm (name:=El "__length_hint__") ty lri_hint ?_)))
 wp_delta
 refine b_ (ET (T:="list_reverseiterator") (b:=f_) ty lri_self ?_);refine e_ ?_;rw [l_ (by decide)];refine e_ ⟨Fi Mc _,Ms (Walks.listRev (A:=A.in1.in1) y R l h items).toS x _ (by simp only [r_,CT,FT,MT];exact ⟨r,C⟩) _ items.size 0 _ _ _ rfl (Dg _) ⟨Dg _,by simpa using U,j⟩ e1 (MO _) fun s' d D p k a=>⟨rfl,?_⟩⟩;rw [MN p];refine m s'.heap s'.toks d D (fun b o B e=>p.heap b o (fun z=>?_) (g b o e)) k a;simp only [r_,CT,FT] at z;exact z.elim (fun z=>lo e z.symm) B
end
theorem rev_vals (r:Vals xs its) (h:Ku (fun i v=>its.toArray[its.toArray.size-1-i]? =a_ v) acc its.toArray.size):Vals xs.reverse acc.toList:=by
 have U:=r.length;have e:acc.toList=its.reverse:=by
  refine Jb fun i=>?_;by_cases hi:i<its.length
  ·have h2:i<acc.size:=by rw [h.1];simpa using hi
   have J:=h.2 i acc[i] (by simp [h2]);rw [List.getElem?_reverse hi];simp only [z_,K3] at J;rw [J];simp [h2]
  ·rw [Eg (by rw [Ct,h.1];simpa using hi),Eg (by rw [GR];omega)]
 rw [e];clear e h U
 induction r with
 |nil=>exact .nil
 |cons a b S=>rw [E3,E3];exact S.append (.cons a .nil)
section
variable {W:ck} {a:Dr} 
theorem de_lrev (m:X.mg "list"=d_) (P:X.mg "reversed"=d_) (ha:DE K W c_ X a fa) (Z: ~~~(X.calm=f_)) (n: ~~~(Gl X "list")) (R: ~~~(Gl X "reversed")) (y: ~~~(j_ [a] X.env=[(c_,Cf a X.env)]))
  (g: ~~~(j_ [.Call (.Name "reversed" p1) [a] [] pos1] X.env=[(c_,Cf (.Call (.Name "reversed" p1) [a] [] pos1) X.env)])) (hK: ~~~(X.K=K)) :
  DE K W f_ X (.Call (.Name "list" p) [.Call (.Name "reversed" p1) [a] [] pos1] [] pos) (f1 revD fa):=by
 subst hK;intro pins s σ H Q I h;obtain ⟨F,ρ,r,E,J⟩:=h;refine Em (fU I n m DY ?_ (by decide) (by decide));refine CF ?_ g rfl;rw [g];have f:s_ (w_ X.prog X.w) X.A (Cf (.Call (.Name "reversed" p1) [a] [] pos1) X.env) (fun t U=>∃Y H2 l xs vs,t=.ref Y.heap.objs.size/\U={Y with heap:=Y.heap.push (revObj l ((vs.toArray.size:Int)-1))}/\Inv X pins σ H2 Y/\SqL X.K H2 l xs/\Vals xs vs/\Y.heap.IsList l vs.toArray/\xs.length<=n_/\∀S,H2 S=d_->Q (.ref S) (upd H2 S (.lst xs.reverse))) X.xe s:=by
  refine K2 (fU I R P boot_reversed (CF (thn (aM ha cy y pos1 pins s σ H (fun us H2=>∃l xs,us=[.ref l]/\SqL X.K H2 l xs/\∀S,H2 S=d_->Q (.ref S) (upd H2 S (.lst xs.reverse))) I ?_) fun us U ⟨vs,H1,C,L,q1⟩=>?_) y rfl))
  ·refine aI r E (fun e T=>?_) fun d hd v F1 H1 U q1=>?_
   ·have z:f1 revD fa ρ=.error e:=by unfold f1;rw [T];rfl
    rw [z] at J;exact J
   ·have z:f1 revD fa ρ=revD d:=by unfold f1;rw [hd];rfl
    rw [z] at J;have J:=J.step U;cases d with
    |lst ds=>
     obtain ⟨c,xs,e,t,D⟩:=q1;exact ⟨c,xs,by rw [e],U.fh.lst t,fun S q=>J _ F1 _ (Step.grow U.fh q) ⟨S,xs.reverse,rfl,ao,U.fh.free q,q,D.reverse⟩⟩
    |_=>exact (W.ns J).elim
  ·obtain ⟨l,xs,e,k,w⟩:=q1;subst e;obtain ⟨u,rfl,G⟩:=L.one;cases (show u=x_ l from G);obtain ⟨its,i,pl,j⟩:=C.list k;exact call_reversed_list pl.isList ⟨U,H1,l,xs,its,rfl,rfl,C,k,i,pl.isList,j,w⟩
 refine Gh (thn f fun t U ⟨Y,H2,l,xs,vs,et,es,B,k,i,A,j,w⟩=>e_ ?_);subst et es;have lt:l<Y.heap.objs.size:=A.elim fun _ t=>o_ t.1;refine rl (items:=vs.toArray) (I.ok.hd Z) ⟨_,k_ _ rfl,rfl,rfl⟩ (A.at fun o e=>g_ _ e) (Cd lt) (by rw [z_,<- i.length];exact j) fun h' tk acc c N e2 O=>?_;have x:Y.heap.objs.size<(Y.heap.push (revObj l ((vs.toArray.size:Int)-1))).objs.size:=by rw [CN];exact DD _
 refine ⟨.ref _,_,B.laid (t':=tk) (fun b o e=>N b o (fun z=>?_) (g_ _ e)) (EL x) (show bK X.prog X.w _ h' _ (.lst xs.reverse) from ⟨by rw [GR];exact j,acc.toList,c,rev_vals i O,by simpa using e2⟩),rfl,w _ (B.hok.fresh (EL x))⟩
 have:=o_ e;rw [z] at this;exact C_ _ this
end
section
open PySem.SetTable
def vY (xs:List Nat):Prop:=xs.Pairwise (·<·)
theorem vY.get {xs:List Nat} (h:vY xs) {x y:Nat} (J:i<j) (U:xs[i]? =a_ x) (S:xs[j]? =a_ y):x<y:=by
 obtain ⟨h1,e1⟩:=y_.mp U;obtain ⟨h2,e2⟩:=y_.mp S;have:=G8.mp h i j h1 h2 J;omega
theorem vY.arr {xs:Array Nat} (h:vY xs.toList) {x y:Nat} (J:i<j) (U:xs[i]? =a_ x) (S:xs[j]? =a_ y):x<y:=
 h.get J (by rw [CU];exact U) (by rw [CU];exact S)
theorem rq {xs:Array Nat} {j:Nat} (h:vY xs.toList):∀(f lo hi:Nat),hi-lo<=f->lo<=hi->hi<=xs.size->(∀i x,i<lo->xs[i]? =a_ x->x<j)->(∀i x,hi<=i->xs[i]? =a_ x->j<=x) ->
  JJ xs j f lo hi<=xs.size/\(∀i x,i<JJ xs j f lo hi->xs[i]? =a_ x->x<j)/\∀i x,JJ xs j f lo hi<=i->xs[i]? =a_ x->j<=x
 |0,lo,hi,h1,h2,c,b,a=>by
  unfold JJ;have:lo=hi:=by omega
  subst this;exact ⟨c,b,a⟩
 |f+1,lo,hi,h1,h2,c,b,a=>by
  unfold JJ;by_cases Y:lo<hi
  ·rw [p_ Y];dsimp only;have U:(lo+hi)/2<xs.size:=by omega
   have d:xs[(lo+hi)/2]? =a_ (xs[(lo+hi)/2]'U):=Dq U;have k:xs.getD ((lo+hi)/2) j=xs[(lo+hi)/2]'U:=by simp [Array.getD,U]
   rw [k];by_cases g:xs[(lo+hi)/2]'U<j
   ·rw [p_ g];refine rq h f _ hi (by omega) (by omega) c (fun i x e J=>?_) a;by_cases S:i=(lo+hi)/2
    ·subst S;rw [d] at J;cases J;exact g
    ·have:=h.arr (i:=i) (j:=(lo+hi)/2) (by omega) J d;omega
   ·rw [l_ g];refine rq h f lo _ (by omega) (by omega) (by omega) b (fun i x e J=>?_);by_cases S:i=(lo+hi)/2
    ·subst S;rw [d] at J;cases J;omega
    ·have:=h.arr (i:=(lo+hi)/2) (j:=i) (by omega) d J;omega
  ·rw [l_ Y];have:lo=hi:=by omega
   subst this;exact ⟨c,b,a⟩
theorem m9 {xs:Array Nat} (h:vY xs.toList) (j:Nat):D9 xs j<=xs.size/\(∀i x,i<D9 xs j->xs[i]? =a_ x->x<j)/\∀i x,D9 xs j<=i->xs[i]? =a_ x->j<=x:=
 rq h xs.size 0 xs.size (by omega) (by omega) (by omega) (fun i x hi=>by omega) fun i x hi J=>by
  have:=(D_.mp J).1;omega
theorem no_place {xs:Array Nat} (h:vY xs.toList) (S:xs[D9 xs j]?≠a_ j):j∉xs.toList:=fun U=>by
 obtain ⟨i,hi,e⟩:=Iw U;obtain ⟨h1,h2,b⟩:=m9 h j;have J:xs[i]? =a_ j:=by rw [<- CU,Cr hi,e]
 have Y:D9 xs j<=i:=by
  rcases Nat.lt_or_ge i (D9 xs j) with z|z
  ·have:=h2 i j z J;omega
  ·exact z
 by_cases a:D9 xs j=i
 ·rw [a] at S;exact S J
 ·have c:=(D_.mp J).1;have eb:xs[D9 xs j]? =a_ (xs[D9 xs j]'(by omega)):=Dq (by omega);have f:=b _ _ (m_ _) eb;have d:=h.arr (i:=D9 xs j) (j:=i) (by omega) eb J;omega
theorem vo {xs:Array Nat} {p x:Nat}:(insertAt xs p x).toList=xs.toList.take p++x::xs.toList.drop p:=by
 unfold insertAt;simp [Array.toList_append,Fp]
theorem vn {xs:Array Nat} (h:vY xs.toList) (Y:j∉xs.toList):vY (insertAt xs (D9 xs j) j).toList:=by
 obtain ⟨h1,h2,S⟩:=m9 h j;rw [vo];refine FR.mpr ⟨h.sublist (L5 _ _),Ej.mpr ⟨fun a J=>?_,h.sublist (List.drop_sublist _ _)⟩,fun a J b c=>?_⟩
 ·obtain ⟨i,e⟩:=HJ.mp J;rw [LN] at e;have:=S (D9 xs j+i) a (by omega) (by simpa using e);have U:a≠j:=fun z=>Y (z▸List.mem_of_mem_drop J);omega
 ·have d:a<j:=by
   obtain ⟨i,e⟩:=HJ.mp J;rw [List.getElem?_take] at e;by_cases hi:i<D9 xs j
   ·rw [p_ hi] at e;exact h2 i a hi (by simpa using e)
   ·rw [l_ hi] at e;cases e
  rcases r_.mp c with z|z
  ·omega
  ·obtain ⟨i,e⟩:=HJ.mp z;rw [LN] at e;have:=S (D9 xs j+i) b (by omega) (by simpa using e);omega
def TOk (b:Bool) (t:FN):Prop:=vY t.place.toList/\t.led=b
theorem slot_no {t:FN} (h:t.place[D9 t.place j]? =a_ j):∃i,t.slot j=.live i:=by
 unfold SetTable.slot;dsimp only;rw [h];simp
theorem kD {t:FN} {g:Nat->Int} {h:Int}:∀(f:Nat) (p:Probe) (j:Nat) (d:Option Nat),(∀x,p.dummy=a_ x->t.slot x=.dummy)->Mx t g h f p=a_ (.empty j d)->t.slot j=.empty/\∀x,d=a_ x->t.slot x=.dummy
 |0,p,j,d,Y,e=>by unfold Mx at e;cases e
 |f+1,p,j,d,Y,e=>by
  unfold Mx at e;have U:∀q:Probe,(t.advance q).dummy=q.dummy:=fun q=>by
   unfold SetTable.advance;split
   ·rfl
   ·rfl
  cases S:t.slot p.j with
  |empty=>
   rw [S] at e;simp only [Dy,Met.empty.injEq] at e;obtain ⟨rfl,rfl⟩:=e;exact ⟨S,Y⟩
  |dummy=>
   rw [S] at e;refine kD f _ j d (fun x J=>?_) e;rw [U] at J;simp only [Dy] at J;subst J;exact S
  |live i=>
   rw [S] at e;dsimp only at e;split at e
   ·cases e
   ·exact kD f _ j d (fun x J=>Y x (by rw [U] at J;exact J)) e
theorem free_no {t:FN} (b:vY t.place.toList) {h:Int} {Y:Bool} (e:t.freeSlot h=a_ (j,Y)):j∉t.place.toList:=by
 unfold SetTable.freeSlot at e;have key:∃J d,t.probe (fun _=>h+1) h (t.probeStart h)=a_ (.empty J d)/\j=d.getD J:=by
  cases U:t.probe (fun _=>h+1) h (t.probeStart h) with
  |none=>rw [U] at e;cases e
  |some m=>
   rw [U] at e;cases m with
   |empty J d=>simp only [Dy,HY] at e;exact ⟨J,d,rfl,e.1.symm⟩
   |candidate _ _ _=>cases e
 obtain ⟨J,d,c,rfl⟩:=key;obtain ⟨h1,h2⟩:=kD _ _ _ _ (fun x a=>by simp [SetTable.probeStart] at a) c;refine no_place b fun z=>?_;obtain ⟨i,S⟩:=slot_no z;cases d with
 |none=>rw [show (d_:Option Nat).getD J=J from rfl,h1] at S;cases S
 |some x=>rw [show (a_ x:Option Nat).getD J=x from rfl,h2 x rfl] at S;cases S
theorem iO {b:Bool} {t:FN} (h:TOk b t):TOk b (t.standIn n):=by
 refine ⟨?_,h.2⟩
 show vY (Array.range n).toList;rw [Array.toList_range];exact Kv
theorem AR {b:Bool} {t:FN} (h:TOk b t) (es:Array (Int×i_)) (g:Int) (x:i_):TOk b (layNew t es g x).2.1:=by
 unfold layNew;cases e:t.freeSlot g with
 |none=>exact iO h
 |some p=>
  obtain ⟨j,S⟩:=p;have J:TOk b (t.put j).1:=⟨vn h.1 (free_no h.1 e),h.2⟩
  dsimp only;unfold SetTable.orStandIn;split
  ·exact J
  ·exact iO J
theorem qy (g:Nat->Option Nat):∀l:List Nat,((l.filterMap fun j=>(g j).map (j,·)).map (·.1)).Sublist l
 |[]=>by simp
 |j::l=>by
  cases e:g j with
  |none=>simp only [Fb,e,L3];exact (qy g l).trans (List.sublist_cons_self _ _)
  |some k=>simp only [Fb,e,Fo,A_];exact (qy g l).cons_cons _
theorem zZ {b:Bool} {t t':FN} (h:TOk b t) {J:Array Int} {o:Array Nat} (e:t.relaid J n=a_ (t',o)):TOk b t':=by
 unfold SetTable.relaid SetTable.laid at e;cases S:layClean (sizeAbove n-1) J with
 |none=>rw [S] at e;cases e
 |some U=>
  rw [S] at e;simp only [Option.bind_eq_bind,LL,Option.pure_def,Dy,HY] at e;obtain ⟨rfl,_⟩:=e;refine ⟨?_,h.2⟩
  show vY _;rw [Lk];exact Kv.sublist (qy (fun j=>U.getD j d_) _)
theorem uN {b:Bool} {t:FN} (h:TOk b t) (es:Array (Int×i_)) (n:Nat):TOk b (JD t es n).2.1:=by
 unfold JD;cases e:t.relaid (es.map (·.1)) n with
 |none=>exact iO h
 |some p=>
  obtain ⟨t',o⟩:=p;dsimp only;split
  ·exact zZ h e
  ·exact iO h
end
section
open PySem
noncomputable def nU:i_->Int
 |.int k _=>k
 |_=>0
def rJ (prog:Cn) (w:Dv) (b:Bool) (h:CQ) (a:h_) (ks:List Int):Prop:=
 ∃o es ep t,h.get? a=a_ o/\o.ExactSet/\o.data=.set es ep t/\LW (Ep prog w) es.toList/\(es.toList.map fun e=>nU e.2).Perm ks/\ks.Nodup/\es.size<Gw/\t.fits es.size=f_/\TOk b t
theorem rJ.at {b:Bool} (H:rJ prog w b h a ks) (e:∀o,h.get? a=a_ o->h'.get? a=a_ o):rJ prog w b h' a ks:=
 let ⟨o,es,ep,t,J,r⟩:=H;⟨o,es,ep,t,e _ J,r⟩
theorem rJ.ty {b:Bool} (H:rJ prog w b s.heap a ks):s.TypeIs (.ref a) "set":=let ⟨o,_,_,_,S,J,_⟩:=H;⟨o,S,J.1⟩
theorem key_is {k:Int} (h:(Ep prog w).is k v=f_):∃t,v=.int k t:=IT h
theorem is_key {k:Int} (h:∃j,(Ep prog w).is j v=f_):(Ep prog w).is k v=Ca (k=nU v):=by
 obtain ⟨j,h⟩:=h;obtain ⟨t,rfl⟩:=key_is h;show GF k (.int j t)=_;by_cases e:k=j
 ·subst e;simp [GF,nU]
 ·rw [show Ca (k=nU (.int j t))=c_ from DU e];cases J:GF k (.int j t) with
  |false=>rfl
  |true=>
   obtain ⟨S,e2⟩:=IT J;cases e2;exact Cj rfl e
noncomputable def uq (ks:List Int) (k:Int):List Int:=if k∈ks then ks else ks++[k]
theorem l4 {k:Int} (h:ks.Nodup):(uq ks k).Nodup:=by
 unfold uq;split
 ·exact h
 ·next S=>exact List.nodup_append.mpr ⟨h,by simp,fun a U b J=>by simp at J;intro e;subst e;subst J;exact S U⟩
theorem oQ {b:Bool} {o:GX} {es fs:Array (Int×i_)} {t u:FN} (Y:h.get? a=a_ o) (J:o.ExactSet) (hd:o.data=.set es ep t)
  (f:LW (Ep prog w) fs.toList) (U:(fs.toList.map fun e=>nU e.2).Perm ks) (c:ks.Nodup) (i:fs.size<Gw) (d:u.fits fs.size=f_) (S:TOk b u) :
  (h.update a (IU fs u)).get? a=a_ {o with data:=.set fs (ep+1) u}/\rJ prog w b (h.update a (IU fs u)) a ks:=by
 have g:(h.update a (IU fs u)).get? a=a_ {o with data:=.set fs (ep+1) u}:=by
  have:=CJ (IU fs u) Y (by rw [putSet_of fs u hd];rfl);rw [putSet_of fs u hd] at this;exact this
 exact ⟨g,_,fs,ep+1,u,g,J,rfl,f,U,c,i,d,S⟩
theorem sZ {b:Bool} {g:Bool->Mb Unit} (r:∀(c:Bool) (J:t_) (p:Unit->t_->Prop),p () J->s_ (w_ prog w) A (g c) p E J)
  {o:GX} {es fs:Array (Int×i_)} {t u:FN} (i:s.heap.get? a=a_ o) (Y:o.ExactSet) (hd:o.data=.set es ep t)
  (k:LW (Ep prog w) fs.toList) (f:(fs.toList.map fun e=>nU e.2).Perm ks) (j:ks.Nodup) (l:fs.size<Gw) (x:u.fits fs.size=f_) (d:TOk b u) {q:Bool} {R:Option Bool->t_->Prop}
  (h:∀h',Ea a s.heap h'->rJ prog w b h' a ks->R (a_ f_) {s with heap:=h'}) :
  s_ (w_ prog w) A (do
    storeSet a fs u
    if (!q&&u.tooFull)=f_ then do
      g (JD u fs (FD fs.size)).2.2
      storeSet a (JD u fs (FD fs.size)).1 (JD u fs (FD fs.size)).2.1
      DC (a_ f_)
     else DC (a_ f_)) R E s:=by
 refine b_ (Na i hd ?_ (Nl l));obtain ⟨m,z⟩:=oQ (prog:=prog) (w:=w) i Y hd k f j l x d;have n:=CM s.heap a (IU fs u);split
 ·have p2:=relayAll_perm u fs (FD fs.size);have U:=relayAll_fits u fs (FD fs.size);have S:=uN d fs (FD fs.size);generalize JD u fs (FD fs.size)=Z at p2 U S ⊢;obtain ⟨gs,v,C⟩:=Z;dsimp only at p2 U S ⊢;have B:gs.size=fs.size:=by rw [<- Ct,p2.length_eq,Ct]
  refine b_ (r _ _ _ (b_ (Na m rfl ?_ (Nl (by omega)))));obtain ⟨_,y⟩:=oQ (prog:=prog) (w:=w) (es:=fs) (t:=u) (ep:=ep+1) m Y rfl (k.perm p2) ((p2.map _).trans f) j (by omega) U S;exact e_ (h _ (n.trans (CM _ a _)) y)
 ·exact e_ (h _ n z)
theorem iset_add {b:Bool} {k:Int} {Q:Bool->t_->Prop} (H:rJ prog w b s.heap a ks) (R:ks.length+1<Gw)
  (h:∀r h',Ea a s.heap h'->rJ prog w b h' a (uq ks k)->Q r {s with heap:=h'}):s_ (w_ prog w) A (setAddHashed a (.int k tk) ((Ep prog w).hash k)) Q E s:=by
 obtain ⟨o,es,ep,t,d,n,hd,g,Y,p,I,v,D⟩:=H;have S:(Ep prog w).is k (.int k tk)=f_:=by show GF k (.int k tk)=f_;simp [GF]
 have hsz:es.size=ks.length:=by have:=Y.length_eq;simpa using this
 have f:∀e∈es.toList,(Ep prog w).is k e.2=Ca (k=nU e.2):=fun e m=>is_key (g.keys e m);unfold setAddHashed setAddHashedIn;refine Dj (b_ (FW d hd v ?_));dsimp only;rw [byScan_of rfl I g];simp only [↓reduceIte];unfold setAddByScan;refine b_ (b_ (GN (b_ (wpAny_setScan_of S d hd v g ?_))));cases F:List.findIdx? (fun e=>(Ep prog w).is k e.2) es.toList with
 |some j=>
  dsimp only;obtain ⟨G,B,_⟩:=List.findIdx?_eq_some_iff_getElem.mp F;have q:k∈ks:=by
   rw [f _ (D2 G),CK] at B;refine Y.mem_iff.mp (CA.mpr ⟨_,D2 G,B.symm⟩)
  refine e_ (e_ ?_);exact h _ s.heap (Heap.SameBut.refl a s.heap) ⟨o,es,ep,t,d,n,hd,g,by unfold uq;rw [p_ q];exact Y,l4 p,I,v,D⟩
 |none=>
  dsimp only;have q:k∉ks:=fun m=>by
   obtain ⟨e,C,N⟩:=CA.mp (Y.mem_iff.mpr m);have:=List.findIdx?_eq_none_iff.mp F e C;rw [f e C,N] at this;simp at this
  have O:∀(c:Bool) {J:t_} {i:Unit->t_->Prop},i () J->s_ (w_ prog w) A (match c with|true=>rule "set.scan.the-table-gave-way"|false=>DC ()) i E J:=fun c J i z=>by cases c<;>first|exact e_ z|exact GN z
  have p1:=layNew_perm t es ((Ep prog w).hash k) (.int k tk);have f1:=layNew_fits t es ((Ep prog w).hash k) (.int k tk);have U:=AR D es ((Ep prog w).hash k) (.int k tk);generalize layNew t es ((Ep prog w).hash k) (.int k tk)=L at p1 f1 U ⊢;obtain ⟨fs,u,P,K⟩:=L;dsimp only at p1 f1 U ⊢;rw [IV] at p1;have e1:LW (Ep prog w) fs.toList:=(g.push S rfl).perm p1;have q1:(fs.toList.map fun e=>nU e.2).Perm (uq ks k):=by
   unfold uq;rw [l_ q];refine (p1.map _).trans ?_;rw [Fz];exact Y.append (Ei _)
  have y:fs.size<Gw:=by rw [<- Ct,p1.length_eq,CP,Ct];simp;omega
  refine b_ (O _ ?_);split
  ·refine b_ ?_;rw [hashByValue_scannable 8 rfl];refine e_ (sZ (b:=b) ?_ d n hd e1 q1 (l4 p) y ?_ ?_ ?_)
   ·intro c J i z;cases c<;>first|exact e_ z|exact GN z
   ·split
    ·exact f1
    ·exact SetTable.fits_plain_off f1
   ·split
    ·exact U
    ·exact U
   ·intro h' l x;exact e_ (h _ h' l x)
  ·refine b_ (e_ ?_);simp only [↓reduceIte];refine sZ (b:=b) ?_ d n hd e1 q1 (l4 p) y f1 U ?_
   ·intro c J i z;cases c<;>first|exact e_ z|exact GN z
   ·intro h' l x;exact e_ (h _ h' l x)
end
def keysOf (is:List Int):List Int:=is.foldl uq []
theorem lY:∀(is ks:List Int),(is.foldl uq ks).length<=ks.length+is.length
 |[],ks=>by simp
 |i::is,ks=>by
  have:=lY is (uq ks i);have h2:(uq ks i).length<=ks.length+1:=by unfold uq;split<;>simp
  simp only [GL,Ci];omega
theorem AX (J:Nat->Int) (i:Nat):keysOf ((Cc (i+1)).map J)=uq (keysOf ((Cc i).map J)) (J i):=by
 unfold keysOf;rw [Ez,Fz,L6];rfl
section
open PySem
variable {R:Jv->t_->Prop} {wr:List h_} {G:Array KS->Array KS->Prop} {P:Nat->i_->Prop} {St:Nat->t_->Prop} {b:Bool}
theorem B3 (W:WalksS prog w A.in1 I fp wr G n P St) (S:h_) (j:S∉fp) (J:Nat->Int) (d:∀i v,P i v->∃t,v=.int (J i) t) (H:n+1<Gw) :
  ∀(k i:Nat) (s:t_),n-i=k->i<=n->St i s->rJ prog w b s.heap S (keysOf ((Cc i).map J)) ->
   (∀s',Moved (S::wr) G s s'->rJ prog w b s'.heap S (keysOf ((Cc n).map J))->R (.ok (.ret .none)) s')->FG (w_ prog w) A (.builtin "set.update.loop" ⟨[.ref S,.ref I],[]⟩) R s:=by
 have a:S∉wr:=fun h=>j (W.sub _ h);have U:∀c∈wr,c∈S::wr:=fun c g=>Cw _ g;intro k
 induction k with
 |zero=>
  intro i s D hi st q Y;obtain rfl:i=n:=by omega
  refine DF Hd ?_;rw [De Fy _];refine b_ (W.done s _ _ st fun s' f=>e_ (Y s' (f.mono U) (q.at fun o e=>f.heap S _ a e)))
 |succ k C=>
  intro i s D hi st q Y;refine DF Hd ?_;rw [De Fy _];refine b_ (W.item i s _ _ (by omega) st fun v s' E l f=>?_);obtain ⟨t,rfl⟩:=d i v E;have p:=q.at fun o e=>f.heap S _ a e;refine b_ (Dj ?_);unfold setAdd;refine Dj (b_ ((Ep prog w).pyHash (k:=J i) (KL _ _ _ _) ?_));have x:=lY ((Cc i).map J) [];rw [v_,Eu] at x;refine iset_add (s:={s' with toks:=s'.toks+1}) p (by unfold keysOf;simp at x ⊢;omega) fun r h' u y=>?_;rw [<- AX] at y;refine e_ ⟨Fi Fy _,C (i+1) _ (by omega) (by omega) (W.frame _ s' _ _ l (Ee _) fun c g o e=>?_) y fun B m F=>?_⟩
  ·rw [u.2 c (fun z:c=S=>j (z▸g))];exact e
  ·refine Y B (Moved.trans W.gtrans ((f.mono U).then_heap (Ee _) fun c o g e=>?_) m) F;rw [u.2 c (fun z:c=S=>g (by rw [z];exact Cz))];exact e
end
section
open PySem
noncomputable abbrev kK (w:Dv):Bool:= !w.params.followText "set-order"
theorem new_iset (v:i_) {Q₁:Vp} (h:Q₁ (.ref s.heap.objs.size) {s with heap:=s.heap.push {cls:=.type "set",dict:=d_,data:=.set #[] 0 (.fresh 0 0 (kK w))}}) :
  FG (w_ prog w) A (.call (.builtin "set.__new__") ⟨[.type "set",v],[]⟩) (wants Q₁ E) s:=by
 refine Kf ?_;show s_ (w_ prog w) A.in1 (do JY "set.__new__" ⟨[.type "set",v],[]⟩;again (.builtin "set.__new__" ⟨[.type "set",v],[]⟩)) _ _ s;refine b_ (E7 (F.newCall_set_1 v) (e_ ⟨Fi Ny _,DF F.entry_set_new ?_⟩));rw [De Ny _];unfold Builtin.«set.__new__» MB;have q:=sub_set_self;obtain ⟨J,g,d,tk,os⟩:=s;dsimp only;wp_walk;refine Ge (e_ ?_);dsimp only;simp only [newObj];exact b_ (wpAny_alloc (e_ (e_ h)))
theorem BS {Q:Vp} (hh:A.handled=d_) (hl:s.heap.IsList l items) (hi:E6 items.toList ns) (hb:items.size+1<Gw)
  (h:∀(h':CQ) (tk:Nat),rJ prog w (kK w) h' s.heap.objs.size (keysOf ns)->(∀c o,c<s.heap.objs.size->s.heap.get? c=a_ o->h'.get? c=a_ o)->Q (.ref s.heap.objs.size) {s with heap:=h',toks:=tk}) :
  s_ (w_ prog w) A (Gg (.type "set") [.ref l]) Q E s:=by
 obtain ⟨c,tl,N⟩:=Gb.mro;have K:=Gb.made;have sub:=Gb.sub;refine Ih (Kf ?_);show s_ (w_ prog w) A.in1 (callAny (.type "set") _) _ _ _;refine e_ ⟨IH _ (by decide +kernel),DF (F.entry_type_call) ?_⟩;rw [Around.under_plain (weight_type_call_type "set" [.ref l] []) rfl];have g1:=Gb.notType;have g2:=Gb.canCreate;have g3:=F.typeCall_set_1 (.ref l)
 repeat (any_goals (first|assumption|wp_step))
 generalize y:({cls:=.type "set",dict:=d_,data:=.set #[] 0 (.fresh 0 0 (kK w))}:GX)=Y at *;refine Er (new_iset (.ref l) (E:=E) (Q₁:=fun u U=>u=.ref s.heap.objs.size/\U={s with heap:=s.heap.push Y}) (by rw [y];exact ⟨rfl,rfl⟩)) fun r U G=>?_;cases r with
 |error e=>exact G
 |ok fl=>
  cases fl with
  |ret u=>
   obtain ⟨rfl,rfl⟩:=G;have x:Y.cls=.type "set":=by rw [<- y]
   have hf:Y.isFreed=c_:=by rw [<- y];rfl
   have O:(s.heap.push Y).get? s.heap.objs.size=a_ Y:=k_ _ hf;have hT:Fw {s with heap:=s.heap.push Y} (.ref s.heap.objs.size) "set":=⟨_,O,x⟩
   have li:=Gb.init.lookup;have bi:=Gb.init.bind (.ref s.heap.objs.size)
   repeat (any_goals (first|assumption|wp_step))
   refine Er (GW (R:=wants (fun r S=>r=.none/\∃h' tk,S={s with heap:=h',toks:=tk}/\rJ prog w (kK w) h' s.heap.objs.size (keysOf ns)/\(∀c o,c<s.heap.objs.size->s.heap.get? c=a_ o->h'.get? c=a_ o)) E) Gb.init.plain F.entry_set_init (check_set_init_1 hT ?_)) fun d S J=>?_
   ·obtain ⟨P,g,n,I,k⟩:=hl;obtain ⟨k1,k2,k3,W⟩:=P;simp only at n k;subst n;subst k;have f:(s.heap.push Y).get? l=a_ {cls:=.type "list",dict:=k2,data:=.seq items I,slots:=W}:=g_ _ g;have z1:=F.sub_list_set;have z2:=F.sub_list_frozenset;have z3:(DL "list"==DL "dict")=c_:=by decide
    have j:(s.heap.push Y).IsList l items:=⟨_,f,rfl,I,rfl⟩
    subst y;unfold Builtin.«set.__init__» noKeywords My;generalize H:JW=PI;wp_walk;subst H;refine Hv (j) ?_;refine b_ (m:=runValue _) (IJ ?_);have L:l<s.heap.objs.size:=o_ g;have T:l≠(s.heap.push {cls:=.type "set",dict:=d_,data:=.set #[] 0 (.fresh 0 0 (kK w))}).objs.size:=by rw [CN];exact Cd (Ey L)
    have D:s.heap.objs.size∉[(s.heap.push {cls:=.type "set",dict:=d_,data:=.set #[] 0 (.fresh 0 0 (kK w))}).objs.size,l]:=by
     rw [CN];simp only [r_,CT,FT,MT];exact ⟨Cd (DD _),Eb L⟩
    have hv:∀(i:Nat) (v:i_),items[i]? =a_ v->∃t,v=.int ((fun i=>ns.getD i 0) i) t:=fun i v q=>Jm hi i v (by rw [CU];exact q);have en:(Cc items.size).map (fun i=>ns.getD i 0)=ns:=by
     have Z:items.size=ns.length:=by have:=LI hi;simpa using this
     rw [Z];apply Mj
     ·simp
     ·intro i h3 h4;simp [h4]
    refine B3 (b:=kK w) ((JH (by simp [hh]) _ l T items).toS) s.heap.objs.size D (fun i=>ns.getD i 0) hv hb (items.size-0) 0 _ (by omega) (Dg _) ⟨⟨_,k_ _ rfl,rfl,rfl⟩,j.push _⟩ ⟨_,#[],0,.fresh 0 0 (kK w),g_ _ O,⟨rfl,rfl,rfl⟩,rfl,fun e he=>by simp at he,Ei _,F_,by decide,rfl,F_,rfl⟩ fun s' p z=>?_;rw [en] at z;obtain ⟨h',g',d',B,C⟩:=s';obtain rfl:g'=s.gens:=p.gens;obtain rfl:d'=s.drawn:=p.drawn;obtain rfl:C=s.os:=p.os;refine e_ (e_ ⟨rfl,h',B,rfl,z,fun c o x e=>p.heap c o ?_ (g_ _ (g_ _ e))⟩);rw [CN];simp only [r_,CT,FT,MT];exact ⟨Cd x,Cd (Ey x)⟩
   ·cases d with
    |error e=>exact J
    |ok a=>
     cases a with
     |ret r=>
      obtain ⟨rfl,h',tk,rfl,z,X⟩:=J
      repeat (any_goals (first|assumption|wp_step))
      exact h _ _ z X
     |_=>exact J.elim
  |_=>exact G.elim
end
section
open PySem
theorem wH:Manifest.owners.lookup (String.ofList ['r','o','t','a','r','e','t','i','_','t','e','s'].reverse)=a_ Manifest.sig_set_iterator:=by kernel_rfl
theorem aT:Slot "set_iterator" "__next__" "set_iterator.__next__":=.of (owner:="set_iterator") (n:="__next__") (by rw [Iq,GI];kernel_rfl) (by decide +kernel) (by decide +kernel) (by decide +kernel) (by first|exact .inl (by decide +kernel)|exact .inr (by decide +kernel)) (by rw [KJ];kernel_rfl)
theorem l7:Slot "set_iterator" "__iter__" "set_iterator.__iter__":=.of (owner:="set_iterator") (n:="__iter__") (by rw [Iq,GI];kernel_rfl) (by decide +kernel) (by decide +kernel) (by decide +kernel) (by first|exact .inl (by decide +kernel)|exact .inr (by decide +kernel)) (by rw [KJ];kernel_rfl)
theorem eU:entryFor table "set_iterator.__next__"=a_ Builtin.«set_iterator.__next__»:=entryFor_of_tree (by kernel_rfl)
theorem qN:entryFor table "set_iterator.__iter__"=a_ Builtin.«dict_keyiterator.__iter__»:=entryFor_alias (id':="dict_keyiterator.__iter__") (by kernel_rfl) (by first|rfl|decide +kernel|(unfold String.splitOn;simp +decide [String.splitOnAux])) (by decide +kernel) (by kernel_rfl)
theorem tH:entryFor table "set.__iter__"=a_ Builtin.«frozenset.__iter__»:=entryFor_alias (id':="frozenset.__iter__") (by kernel_rfl) rfl (by decide +kernel) (by kernel_rfl)
theorem gh (v:i_):argsOk "set_iterator.__next__" ⟨[v],[]⟩:=by
 unfold argsOk;rw [signature?_of (id:="set_iterator.__next__") (n:=['_','_','t','x','e','n','_','_']) (o:=['r','o','t','a','r','e','t','i','_','t','e','s']) (by kernel_rfl) wH];kernel_rfl
theorem uk (v:i_):argsOk "set_iterator.__iter__" ⟨[v],[]⟩:=by
 unfold argsOk;rw [signature?_of (id:="set_iterator.__iter__") (n:=['_','_','r','e','t','i','_','_']) (o:=['r','o','t','a','r','e','t','i','_','t','e','s']) (by kernel_rfl) wH];kernel_rfl
noncomputable abbrev jO (first:i_) (i:Nat) (a:h_) (n ep:Nat):GX:={cls:=.type "set_iterator",data:=.fields #[first,Ds i,.ref a,Ds n,Ds ep]}
def lR (h:CQ) (a:h_) (es:Array (Int×i_)) (ep:Nat) (t:FN):Prop:=∃o,h.get? a=a_ o/\o.data=.set es ep t
theorem s9 {vs:Array i_} (e:h.get? I=a_ {cls:=.type "set_iterator",data:=.fields vs}) (k:Nat) (v:i_):(h.update I (DQ (·.setIfInBounds k v))).get? I=a_ {cls:=.type "set_iterator",data:=.fields (vs.setIfInBounds k v)}:=by
 have:=CJ (DQ (·.setIfInBounds k v)) e rfl;exact this
section
variable {es:Array (Int×i_)} {t:FN}
theorem si_step (e:s.heap.get? I=a_ (jO first i a n ep)) (v:i_):((s.heap.update I (DQ (·.setIfInBounds 0 v))).update I (DQ (·.setIfInBounds 1 (Ds k)))).get? I=a_ (jO v k a n ep):=by
 have e1:=s9 e 0 v;have e2:=s9 e1 1 (Ds k);exact e2
theorem si_step1 (e:s.heap.get? I=a_ (jO first i a n ep)):(s.heap.update I (DQ (·.setIfInBounds 1 (Ds k)))).get? I=a_ (jO first k a n ep):=s9 e 1 (Ds k)
theorem zR {x:i_} {nx:Nat} (e:s.heap.get? I=a_ (jO (Ds sl) i a es.size ep)) (Y:lR s.heap a es ep t) (U:t.fits es.size=f_)
  (b:∀{d:D0} {c:Vp} {J:Option (i_×Nat)->t_->Prop},J (a_ (x,nx)) s->s_ (w_ prog w) d (Kq a sl i ep) J c s)
  (h:∀h',h'.get? I=a_ (jO (Ds nx) (i+1) a es.size ep)->Ea I s.heap h'->Q (a_ x) {s with heap:=h'}):s_ (w_ prog w) A (FF (.ref I)) Q E s:=by
 obtain ⟨o,S,hd⟩:=Y;have ty:s.TypeIs (.ref I) "set_iterator":=⟨_,e,rfl⟩
 unfold FF;refine b_ (Fh (CY (name:=El "__next__") ty aT (CD aT ty eU ?_ (gh _))));unfold Builtin.«set_iterator.__next__»;refine b_ (E7 (a:=(x_ I,[])) rfl (b_ (Fu e rfl ?_)));refine b_ (Gi S hd U ?_);rw [l_ (by simp)];refine b_ (b ?_);refine b_ (Dh e rfl (by simp) (b_ (Dh (s9 e 0 (Ds nx)) rfl (by simp) (e_ ⟨x,rfl,e_ (h _ (si_step e (Ds nx)) ?_)⟩))));exact (CM ..).trans (CM ..)
theorem mm (U:A.handled=d_) (e:s.heap.get? I=a_ (jO (Ds sl) i a es.size ep)) (c:lR s.heap a es ep t) (Y:t.fits es.size=f_)
  (d:∀{g:D0} {f:Vp} {J:Option (i_×Nat)->t_->Prop},J d_ s->s_ (w_ prog w) g (Kq a sl i ep) J f s)
  (h:∀h',HV I s.heap h'->Q d_ {s with heap:=h'}):s_ (w_ prog w) A (FF (.ref I)) Q E s:=by
 obtain ⟨o,S,hd⟩:=c;have ty:s.TypeIs (.ref I) "set_iterator":=⟨_,e,rfl⟩
 unfold FF;refine b_ (Fh (CY (name:=El "__next__") ty aT (CD aT ty eU ?_ (gh _))));unfold Builtin.«set_iterator.__next__»;refine b_ (E7 (a:=(x_ I,[])) rfl (b_ (Fu e rfl ?_)));refine b_ (Gi S hd Y ?_);rw [l_ (by simp)];refine b_ (d ?_);refine b_ (Dh e rfl (by simp) (b_ ?_));simp only [KI,KG];refine b_ (Ck ?_ (by size_fits));refine b_ (m:=Hh _ _) (E7 (a:=CG) (by first|rfl|(simp only [firstArgMember];rfl)) ?_);refine Ck ?_ (by size_fits);simp only [KD];refine b_ (HB ?_);rw [show A.in1.handled=d_ from U];refine b_ (e_ (II ?_));refine b_ (ET (T:="StopIteration") (b:=f_) ⟨_,k_ _ rfl,rfl⟩ IM (e_ (h _ ?_)));exact (((CM ..).extBut).push _).push _
end
end
section
open PySem
variable {T:h_} {es:Array (Int×i_)} {t:FN}
theorem si_drawn {ps:Array i_} {p:Nat} {k:Int} {x:i_} (e:s.heap.get? I=a_ (jO (.ref T) i a es.size ep)) (d:lR s.heap a es ep t) (U:t.fits es.size=f_) (c:s.heap.get? T=a_ {cls:=.type "tuple",data:=.seq ps m})
  (b:ps[i]? =a_ (.int p tk)) (Y:es[p]? =a_ (k,x)) (h:∀h',h'.get? I=a_ (jO (.ref T) (i+1) a es.size ep)->Ea I s.heap h'->Q (a_ x) {s with heap:=h'}):s_ (w_ prog w) A (FF (.ref I)) Q E s:=by
 obtain ⟨o,S,hd⟩:=d;have ty:s.TypeIs (.ref I) "set_iterator":=⟨_,e,rfl⟩
 unfold FF;refine b_ (Fh (CY (name:=El "__next__") ty aT (CD aT ty eU ?_ (gh _))));unfold Builtin.«set_iterator.__next__»;refine b_ (E7 (a:=(x_ I,[])) rfl (b_ (Fu e rfl ?_)));refine b_ (Gi S hd U ?_);rw [l_ (by simp)];refine b_ (Ft c rfl ?_);show s_ _ _ (match ps[(i:Int).toNat]? with|some (.int J _)=>_|some _=>_|none=>_) _ _ _;rw [DN,b];refine b_ (m:=setNextDrawn a (p:Int).toNat (ep:Int).toNat) ?_;rw [DN,DN];unfold setNextDrawn;refine b_ (FW S hd U ?_);dsimp only;rw [l_ (by simp),Y];refine e_ (b_ (Dh e rfl (by simp) (e_ ⟨x,rfl,e_ (h _ (si_step1 e) (CM ..))⟩)))
theorem sd {ps:Array i_} (Y:A.handled=d_) (e:s.heap.get? I=a_ (jO (.ref T) i a es.size ep)) (f:lR s.heap a es ep t) (c:t.fits es.size=f_) (d:s.heap.get? T=a_ {cls:=.type "tuple",data:=.seq ps m})
  (S:ps[i]? =d_) (h:∀h',HV I s.heap h'->Q d_ {s with heap:=h'}):s_ (w_ prog w) A (FF (.ref I)) Q E s:=by
 obtain ⟨o,U,hd⟩:=f;have ty:s.TypeIs (.ref I) "set_iterator":=⟨_,e,rfl⟩
 unfold FF;refine b_ (Fh (CY (name:=El "__next__") ty aT (CD aT ty eU ?_ (gh _))));unfold Builtin.«set_iterator.__next__»;refine b_ (E7 (a:=(x_ I,[])) rfl (b_ (Fu e rfl ?_)));refine b_ (Gi U hd c ?_);rw [l_ (by simp)];refine b_ (Ft d rfl ?_);show s_ _ _ (match ps[(i:Int).toNat]? with|some (.int J _)=>_|some _=>_|none=>_) _ _ _;rw [DN,S];refine b_ (Dh e rfl (by simp) (b_ (Dh (s9 e 0 (Ds 0)) rfl (by simp) (b_ ?_))));simp only [KI,KG];refine b_ (Ck ?_ (by size_fits));refine b_ (m:=Hh _ _) (E7 (a:=CG) (by first|rfl|(simp only [firstArgMember];rfl)) ?_);refine Ck ?_ (by size_fits);simp only [KD];refine b_ (HB ?_);rw [show A.in1.handled=d_ from Y];refine b_ (e_ (II ?_));refine b_ (ET (T:="StopIteration") (b:=f_) ⟨_,k_ _ rfl,rfl⟩ IM (e_ (h _ ?_)));exact ((((CM ..).trans (CM ..)).extBut).push _).push _
theorem uB {Q:Vp} (e:s.heap.get? I=a_ (jO first i a n ep)) (h:Q (.ref I) s):s_ (w_ prog w) A (JW (.ref I)) Q E s:=by
 have ty:s.TypeIs (.ref I) "set_iterator":=⟨_,e,rfl⟩
 refine Hu ty l7 (CD l7 ty qN ?_ (uk _));show s_ (w_ prog w) A.in1 (ret (.ref I)) _ _ s;exact e_ ⟨.ref I,rfl,"set_iterator",_,ty,aT.lookup,h⟩
theorem lR.at (H:lR h a es ep t) (e:∀o,h.get? a=a_ o->h'.get? a=a_ o):lR h' a es ep t:=let ⟨o,J,hd⟩:=H;⟨o,e _ J,hd⟩
theorem sJ {α:Type} (f:Nat->Nat):∀(m k:Nat) (J:List α) (S:Array α),J.length=m->(JE f m k J S).toList.Perm (S.toList++J)
 |0,k,J,S,h=>by
  unfold JE;rw [Gj.mp h,Ed]
 |m+1,k,J,S,h=>by
  unfold JE;have U:f k%J.length<J.length:=Nat.mod_lt _ (by omega);rw [Cr U];dsimp only;refine (sJ f m (k+1) _ _ (by rw [H_,p_ U];omega)).trans ?_;rw [IV,Ew];refine List.Perm.append (Ei _) ?_;have key:∀{β:Type} {l:List β} {i:Nat} (h:i<l.length),(l[i]::l.eraseIdx i).Perm l:=by
   intro β l
   induction l with
   |nil=>intro i h;simp at h
   |cons x xs Y=>
    intro i h;cases i with
    |zero=>simp
    |succ i=>
     simp only [Hz,Hm];exact (Ji _ _ _).trans ((Y (by simpa using h)).cons _)
  exact key U
theorem sT {Q:Option (i_×Nat)->t_->Prop} (U:w.params.followText "set-order"=f_) (Y:lR s.heap a es ep t) (S:t.fits es.size=f_) (h:Q (((IY (w.params.setOrder a ep) es)[i]?).map fun e=>(e.2,sl)) s):s_ (w_ prog w) A (Kq a sl i ep) Q E s:=by
 obtain ⟨o,J,hd⟩:=Y;unfold Kq KA;refine b_ (FW J hd S (b_ (b_ (Ge (e_ ?_)))));dsimp only;rw [p_ (show (w_ prog w).w.params.followText "set-order"=f_ from U),l_ (by simp)];unfold setWalk KA;refine b_ (b_ (FW J hd S (b_ (b_ (Ge (e_ ?_))))));dsimp only;rw [p_ (show (w_ prog w).w.params.followText "set-order"=f_ from U)];exact b_ (Ge (e_ (e_ h)))
theorem sU {Q:Option (i_×Nat)->t_->Prop} (b:w.params.followText "set-order"=c_) (S:(!t.plain&&Ca (es.size>1))=c_) (J:t.led=f_) (c:lR s.heap a es ep t) (Y:t.fits es.size=f_)
  (h:Q (match es[D9 t.place sl]?,t.place[D9 t.place sl]? with|some (_,x),a_ j=>a_ (x,j+1)|_,_=>d_) s):s_ (w_ prog w) A (Kq a sl i ep) Q E s:=by
 obtain ⟨o,U,hd⟩:=c;unfold Kq KA;refine b_ (FW U hd Y (b_ (b_ (Ge (e_ ?_)))));dsimp only;rw [l_ (show ¬(w_ prog w).w.params.followText "set-order"=f_ from by rw [show (w_ prog w).w.params.followText "set-order"=c_ from b];exact CI)];refine (?_:s_ (w_ prog w) A (if (!t.plain&&Ca (es.size>1))=f_ then _ else _) Q E s)
 rw [S,l_ CI];refine b_ (Q:=Q) (m:=if (!t.led&& !es.isEmpty)=f_ then unsupported "set:maker-not-led" else DC ()) ?_;rw [J,Gd,Ib,l_ CI];exact e_ (e_ h)
end
section
open PySem
variable {T:h_} {es:Array (Int×i_)} {t:FN}
theorem zB (j:A.handled=d_) (J:w.params.followText "set-order"=f_) (U:t.fits es.size=f_) (Y:a≠I) (f:(IY (w.params.setOrder a ep) es).toList=ord) (g:ord.length=es.size) :
  Lz prog w A I [I,a] [I] es.size (fun i v=>(ord[i]?).map (·.2)=a_ v) (fun i h=>lR h a es ep t/\h.get? I=a_ (jO (Ds 0) i a es.size ep)) where
 sub:=fun b J=>by simp at J;simp [J]
 frame:=fun _ _ _ x k=>⟨x.1.at fun o e=>k a (by simp) o e,k I (by simp) _ x.2⟩
 item:=fun i s Q E hi x S=>by
  obtain ⟨v,ev⟩:∃v,ord[i]? =a_ v:=⟨_,Cr (by omega)⟩
  have c:(IY (w.params.setOrder a ep) es)[i]? =a_ v:=by rw [<- CU,f];exact ev
  refine zR (sl:=0) (x:=v.2) (nx:=0) x.2 x.1 U (fun {r p n} q=>sT J x.1 U (by rw [c];exact q)) fun h' m d=>?_;exact S v.2 h' s.toks (by rw [ev];rfl) ⟨x.1.at fun o e=>(d.2 a Y).trans e,m⟩ fun b o J e=>d.extBut b o (fun z=>J (by simp [z])) e
 done:=fun s Q E x S=>by
  have c:(IY (w.params.setOrder a ep) es)[es.size]? =d_:=by rw [<- CU,f];exact Eg (by omega)
  exact mm (sl:=0) j x.2 x.1 U (fun {r p n} q=>sT J x.1 U (by rw [c];exact q)) fun h' e=>S h' s.toks fun b o J l=>e b o (fun z=>J (by simp [z])) l
 self:=fun _ _ _ _ x S=>uB x.2 S
theorem ze {xs:Array Nat} (h:vY xs.toList):D9 xs 0=0:=by
 obtain ⟨h1,h2,_⟩:=m9 h 0;rcases Nat.eq_zero_or_pos (D9 xs 0) with z|z
 ·exact z
 ·have:=h2 0 (xs[0]'(by omega)) z (Dq (by omega));omega
theorem zf {xs:Array Nat} (h:vY xs.toList) (e:xs[i]? =a_ j):D9 xs (j+1)=i+1:=by
 obtain ⟨h1,h2,J⟩:=m9 h (j+1);have hi:=(D_.mp e).1;rcases Jg (D9 xs (j+1)) (i+1) with z|z|z
 ·have:=J i j (by omega) e;omega
 ·exact z
 ·have e2:xs[i+1]? =a_ (xs[i+1]'(by omega)):=Dq (by omega);have U:=h2 (i+1) _ z e2;have S:=h.arr (i:=i) (j:=i+1) (by omega) e e2;omega
theorem zC (n:A.handled=d_) (J:w.params.followText "set-order"=c_) (d:(!t.plain&&Ca (es.size>1))=c_) (g:TOk f_ t) (Y:t.fits es.size=f_) (j:a≠I) :
  Lz prog w A I [I,a] [I] es.size (fun i v=>(es.toList[i]?).map (·.2)=a_ v) (fun i h=>lR h a es ep t/\∃sl:Nat,h.get? I=a_ (jO (Ds sl) i a es.size ep)/\D9 t.place sl=i) where
 sub:=fun b J=>by simp at J;simp [J]
 frame:=fun _ _ _ x k=>⟨x.1.at fun o e=>k a (by simp) o e,let ⟨sl,e,h⟩:=x.2;⟨sl,k I (by simp) _ e,h⟩⟩
 item:=fun i s Q E hi x f=>by
  obtain ⟨U,sl,c,S⟩:=x;have m:t.place.size=es.size:=by simp only [SetTable.fits,u_,EI] at Y;exact Y.1
  have e1:es[i]? =a_ (es[i]'hi):=Dq hi;have e2:t.place[i]? =a_ (t.place[i]'(by omega)):=Dq (by omega);refine zR (sl:=sl) (x:=(es[i]'hi).2) (nx:=t.place[i]'(by omega)+1) c U Y (fun {B y u} q=>sU J d g.2 U Y (by rw [S,e1,e2];exact q)) fun h' r l=>?_;exact f _ h' s.toks (by rw [CU,e1];rfl) ⟨U.at fun o e=>(l.2 a j).trans e,_,r,zf g.1 e2⟩ fun b o J e=>l.extBut b o (fun z=>J (by simp [z])) e
 done:=fun s Q E x f=>by
  obtain ⟨U,sl,c,S⟩:=x;have e1:es[es.size]? =d_:=EE (m_ _);exact mm (sl:=sl) n c U Y (fun {B y u} q=>sU J d g.2 U Y (by rw [S,e1];exact q)) fun h' e=>f h' s.toks fun b o J p=>e b o (fun z=>J (by simp [z])) p
 self:=fun _ _ _ _ x f=>by obtain ⟨_,sl,c,_⟩:=x;exact uB c f
theorem xE (y:A.handled=d_) (n:t.fits es.size=f_) (j:a≠I) (c:T≠I) {ps:List Nat} (J:ps.Perm (Cc es.size)) {m:Nat} :
  Lz prog w A I [I,a,T] [I] es.size (fun i v=>((ps.filterMap (es[·]?))[i]?).map (·.2)=a_ v) (fun i h=>lR h a es ep t/\h.get? I=a_ (jO (.ref T) i a es.size ep)/\h.get? T=a_ {cls:=.type "tuple",data:=.seq (ps.map fun (i:Nat)=>Ds i).toArray m}) where
 sub:=fun b Y=>by simp at Y;simp [Y]
 frame:=fun _ _ _ x k=>⟨x.1.at fun o e=>k a (by simp) o e,k I (by simp) _ x.2.1,k T (by simp) _ x.2.2⟩
 item:=fun i s Q E hi x f=>by
  have S:=J.length_eq;rw [Eu] at S;have d:∀p∈ps,p<es.size:=fun p U=>CO.mp (J.mem_iff.mp U);have U:ps[i]'(by omega)<es.size:=d _ (D2 _);have C:∀l:List Nat,(∀p∈l,p<es.size)->∀i (h:i<l.length),(l.filterMap (es[·]?))[i]? =es[l[i]]?:=by
   intro l
   induction l with
   |nil=>intro _ i h;simp at h
   |cons p l r=>
    intro S i h;have h1:es[p]? =a_ (es[p]'(S p (by simp))):=Dq _;rw [Fb,h1];cases i with
    |zero=>simp [h1]
    |succ i=>simp only [D3,Hz];exact r (fun q u=>S q (by simp [u])) i (by simpa using h)
  have e1:es[ps[i]'(by omega)]? =a_ (es[ps[i]'(by omega)]'U):=Dq U;refine si_drawn (p:=ps[i]'(by omega)) (tk:=0) (k:=(es[ps[i]'(by omega)]'U).1) (x:=(es[ps[i]'(by omega)]'U).2) x.2.1 x.1 n x.2.2 (by simp [show i<ps.length by omega,Ds]) e1 fun h' D g=>?_;exact f _ h' s.toks (by rw [C ps d i (by omega),e1];rfl) ⟨x.1.at fun o e=>(g.2 a j).trans e,D,(g.2 T c).trans x.2.2⟩ fun b o Y e=>g.extBut b o (fun z=>Y (by simp [z])) e
 done:=fun s Q E x f=>by
  have S:=J.length_eq;rw [Eu] at S;exact sd y x.2.1 x.1 n x.2.2 (by simp [S]) fun h' e=>f h' s.toks fun b o Y B=>e b o (fun z=>Y (by simp [z])) B
 self:=fun _ _ _ _ x f=>uB x.2.1 f
theorem yX {Q:Nat->t_->Prop} (S:m≠0) (h:Q (w.draws .order (s.drawn.get .order)%m) {s with drawn:=s.drawn.bump .order}):s_ (w_ prog w) A (choose .order m) Q E s:=fun U p J=>by
 unfold choose;rw [Sem.wp_choose];exact ⟨S,h⟩
theorem tM {α:Type}:∀(m:Nat) (xs:List α) (s:t_) {Q:List α->t_->Prop},xs.length=m->(∀ys d,ys.Perm xs->Q ys {s with drawn:=d})->s_ (w_ prog w) A (NM m xs) Q E s
 |0,xs,s,Q,h,q=>by
  unfold NM;rw [Gj.mp h] at q;exact e_ (q [] s.drawn (Ei _))
 |m+1,[],s,Q,h,q=>by simp at h
 |m+1,x::xs,s,Q,h,q=>by
  unfold NM;refine b_ (yX (by simp) ?_);have J:w.draws .order (s.drawn.get .order)%(x::xs).length<(x::xs).length:=Nat.mod_lt _ (by simp);generalize w.draws .order (s.drawn.get .order)%(x::xs).length=i at J ⊢;rw [Cr J];dsimp only;refine b_ (tM m ((x::xs).eraseIdx i) _ (by rw [H_,p_ J];simp at h ⊢;omega) fun ys d U=>e_ (q _ d ?_));have key:∀{β:Type} {l:List β} {i:Nat} (h:i<l.length),(l[i]::l.eraseIdx i).Perm l:=by
   intro β l
   induction l with
   |nil=>intro i h;simp at h
   |cons x xs S=>
    intro i h;cases i with
    |zero=>simp
    |succ i=>
     simp only [Hz,Hm];exact (Ji _ _ _).trans ((S (by simpa using h)).cons _)
  exact (U.cons _).trans (key J)
end
section
open PySem
def Begun (prog:Cn) (w:Dv) (I a:h_) (vs:List i_) (J:Nat) (h:CQ):Prop:=
 ∃(fp:List h_) (St:Nat->CQ->Prop),(∀A:D0,A.handled=d_->Lz prog w A I fp [I] vs.length (fun i v=>vs[i]? =a_ v) St)/\St 0 h/\∀c∈fp,c=a\/J<=c
theorem zQ:((ord.map (·.2))[i]? =a_ v)=((ord[i]?).map (·.2)=a_ v):=by rw [CC]
theorem Walks.by {I:h_} {fp wr:List h_} {n m:Nat} {P J:Nat->i_->Prop} {St:Nat->CQ->Prop} (W:Lz prog w A I fp wr n P St) (S:n=m) (U:∀i v,J i v=P i v):Lz prog w A I fp wr m J St:=by
 subst S;have:J=P:=funext fun i=>funext fun v=>U i v;rw [this];exact W
theorem perm_keys {es:Array (Int×i_)} (J:(es.toList.map fun e=>nU e.2).Perm ks) (h:ord.Perm es.toList):((ord.map (·.2)).map nU).Perm ks:=by
 rw [Cg];exact (h.map _).trans J
theorem vm {es:Array (Int×i_)} (S:LW (Ep prog w) es.toList) (h:ord.Perm es.toList):∀v∈ord.map (·.2),∃t,v=.int (nU v) t:=fun v hv=>by
 obtain ⟨e,m,rfl⟩:=CA.mp hv;obtain ⟨k,J⟩:=S.keys e (h.mem_iff.mp m);obtain ⟨t,U⟩:=key_is J;rw [U];exact ⟨t,rfl⟩
theorem B0 {Q:Vp} (H:rJ prog w (kK w) s.heap a ks)
  (h:∀I vs h' d,(∀c o,s.heap.get? c=a_ o->h'.get? c=a_ o)->s.heap.objs.size<=I->Begun prog w I a vs s.heap.objs.size h'->(vs.map nU).Perm ks->(∀v∈vs,∃t,v=.int (nU v) t)->Q (.ref I) {s with heap:=h',drawn:=d}):s_ (w_ prog w) A (JW (.ref a)) Q E s:=by
 have ty:=H.ty;obtain ⟨o,es,ep,t,S,y,hd,m,l,B,C,U,k⟩:=H;have p:a<s.heap.objs.size:=o_ S;refine Hu ty Nx (CD Nx ty tH ?_ (F.args_set_iter_1 _));unfold Builtin.«frozenset.__iter__» Mz slotArgs MA;simp only [List.isEmpty_nil,Gd,Dd,↓reduceIte,bind_assoc,JA,K8];unfold MC;refine b_ (e_ ?_);dsimp only;refine b_ (e_ (b_ (Gi S hd U (b_ (e_ ?_)))));unfold setDrawn KA;simp only [bind_assoc];refine b_ (FW S hd U (b_ (Ge ?_)));simp only [pure_bind];cases J:w.params.followText "set-order" with
 |true=>
  have ord:=sJ (w.params.setOrder a ep) es.size 0 es.toList #[] (by simp);refine (?_:s_ (w_ prog w) A.in1 (if (!(w.params.followText "set-order")&&_)=f_ then _ else _) _ _ s)
  rw [J,Gd,Ib,l_ CI];refine b_ (JC S hd U (b_ (Ck (e_ ⟨_,rfl,"set_iterator",_,⟨_,k_ _ rfl,rfl⟩,aT.lookup,?_⟩) (by size_fits))));have op:(IY (w.params.setOrder a ep) es).toList.Perm es.toList:=ord;refine h _ ((IY (w.params.setOrder a ep) es).toList.map (·.2)) _ s.drawn (fun c o e=>g_ _ e) (m_ _) ⟨_,_,fun q g=>Walks.by (zB (t:=t) (ep:=ep) g J U (Cd p) rfl (by have:=op.length_eq;simpa using this)) (by have:=op.length_eq;simp at this ⊢;omega) (fun i v=>zQ),⟨⟨o,g_ _ S,hd⟩,k_ _ rfl⟩,fun c Y=>?_⟩ (perm_keys l op) (vm m op);simp only [r_,CT,FT] at Y;rcases Y with z|z
  ·exact .inr (by rw [z];exact m_ _)
  ·exact .inl z
 |false=>
  have u:t.led=f_:=by rw [k.2];show (!w.params.followText "set-order")=f_;rw [J];rfl
  refine (?_:s_ (w_ prog w) A.in1 (if (!(w.params.followText "set-order")&&(!t.plain&&Ca (es.size>1)))=f_ then _ else _) _ _ s)
  rw [J,MS,IG];cases n:(!t.plain&&Ca (es.size>1)) with
  |false=>
   rw [l_ CI];refine b_ (JC S hd U (b_ (Ck (e_ ⟨_,rfl,"set_iterator",_,⟨_,k_ _ rfl,rfl⟩,aT.lookup,?_⟩) (by size_fits))));refine h _ (es.toList.map (·.2)) _ s.drawn (fun c o e=>g_ _ e) (m_ _) ⟨_,_,fun q g=>Walks.by (zC (ep:=ep) g J n ⟨k.1,u⟩ U (Cd p)) (by simp) (fun i v=>zQ),⟨⟨o,g_ _ S,hd⟩,0,k_ _ rfl,ze k.1⟩,fun c Y=>?_⟩ (perm_keys l (Ei _)) (vm m (Ei _));simp only [r_,CT,FT] at Y;rcases Y with z|z
   ·exact .inr (by rw [z];exact m_ _)
   ·exact .inl z
  |true=>
   rw [p_ rfl];have D:Gw=4096:=rfl;have x:=Du;refine b_ (tM es.size (Cc es.size) s (by simp) fun ps d b=>?_);have r:ps.length=es.size:=by have:=b.length_eq;simpa using this
   refine b_ (wpAny_newTuple ?_ (by rw [v_];omega));have f:(s.heap.push {cls:=.type "tuple",data:=.seq (ps.map fun (i:Nat)=>Ds i).toArray}).get? a=a_ o:=g_ _ S;refine b_ (JC (s:={s with heap:=s.heap.push {cls:=.type "tuple",data:=.seq (ps.map fun (i:Nat)=>Ds i).toArray},drawn:=d}) f hd U (b_ (Ck (e_ ⟨_,rfl,"set_iterator",_,⟨_,k_ _ rfl,rfl⟩,aT.lookup,?_⟩) (by size_fits))));have op:(ps.filterMap (es[·]?)).Perm es.toList:=(b.filterMap _).trans (by rw [filterMap_getElem?_range]);have j:(s.heap.push {cls:=.type "tuple",data:=.seq (ps.map fun (i:Nat)=>Ds i).toArray}).objs.size=s.heap.objs.size+1:=CN ..;refine h _ ((ps.filterMap (es[·]?)).map (·.2)) _ d (fun c o e=>g_ _ (g_ _ e)) (by rw [j];exact Ee _) ⟨_,_,fun q g=>Walks.by (xE (T:=s.heap.objs.size) (ep:=ep) g U (by rw [j];exact Cd (Ey p)) (by rw [j];exact Cd (DD _)) b) (by have:=op.length_eq;simp at this ⊢;omega) (fun i v=>zQ),⟨⟨o,g_ _ f,hd⟩,k_ _ rfl,g_ _ (k_ _ rfl)⟩,fun c Y=>?_⟩ (perm_keys l op) (vm m op);simp only [r_,CT,FT] at Y;rcases Y with z|z|z
   ·exact .inr (by rw [z,j];exact Ee _)
   ·exact .inl z
   ·exact .inr (by rw [z];exact m_ _)
theorem u6 {Q:List i_->t_->Prop} (B:A.handled=d_) (H:rJ prog w (kK w) s.heap a ks)
  (h:∀vs h' d tk,(∀c o,s.heap.get? c=a_ o->h'.get? c=a_ o)->s.heap.objs.size<=h'.objs.size->(vs.map nU).Perm ks->(∀v∈vs,∃t,v=.int (nU v) t)->Q vs {s with heap:=h',drawn:=d,toks:=tk}):s_ (w_ prog w) A (Ks (.ref a)) Q E s:=by
 have Z:=Du;have N:ks.length<4096:=by
  obtain ⟨o,es,ep,t,m,x,hd,he,k,hn,hb,hf,ht⟩:=H;have:=k.length_eq;have h4:Gw=4096:=rfl;simp at this;omega
 have C:a<s.heap.objs.size:=by obtain ⟨o,_,_,_,m,_⟩:=H;exact o_ m
 unfold Ks;refine b_ (IJ (DF (Ik) ?_));rw [De (Ij) _];show s_ (w_ prog w) A.in1 (LR [] >>= fun l=>again (.builtin "list.__iadd__" ⟨[l,.ref a],[]⟩)) _ _ s;refine b_ (Ck ?_);refine e_ ⟨Fi FP _,DF (Jw) ?_⟩;rw [De (FP) _];have H1:rJ prog w (kK w) (s.heap.push {cls:=.type "list",data:=.seq ([]:List i_).toArray}) a ks:=H.at fun o e=>g_ _ e;have ty:Fw {s with heap:=s.heap.push {cls:=.type "list",data:=.seq ([]:List i_).toArray}} (.ref a) "set":=H1.ty;have R:(s.heap.push {cls:=.type "list",data:=.seq ([]:List i_).toArray}).get? s.heap.objs.size=a_ {cls:=.type "list",data:=.seq ([]:List i_).toArray}:=k_ _ rfl;have u:(s.heap.push {cls:=.type "list",data:=.seq ([]:List i_).toArray}).objs.size=s.heap.objs.size+1:=CN ..;show s_ (w_ prog w) A.in1 (Gx (.ref s.heap.objs.size) (.ref a) (.ref s.heap.objs.size)) _ _ _;unfold Gx;refine b_ (G9 ty ?_);have k1:FJ (.ref s.heap.objs.size) (.ref a)=c_:=by simpa [FJ] using Eb C
 have k2:(DL "set"==DL "list")=c_:=by decide
 have k3:(DL "set"==DL "tuple")=c_:=by decide
 simp only [k1,k2,k3,M9,Dd,ER];refine b_ (B0 (s:={s with heap:=s.heap.push {cls:=.type "list",data:=.seq ([]:List i_).toArray}}) H1 fun I vs h1 d p G X k hi=>?_);have Y:Fw {s with heap:=h1,drawn:=d} (.ref a) "set":=by
  obtain ⟨o,_,_,_,m,x,_⟩:=H1;exact ⟨o,p _ _ m,x.1⟩
 refine b_ (Dj ?_);unfold Builtin.List.listLengthHint;refine b_ (Gm Y F.slot_set_len.lookup ?_)
 wp_delta
 refine b_ (ET (T:="set") (b:=f_) Y sub_set_self ?_);refine b_ (G9 Y (e_ ?_));rw [p_ (by decide)];refine b_ (GN (b_ ?_));have L:=p _ _ R;show s_ (w_ prog w) A.in1 (Lq s.heap.objs.size (·.push .none) >>= fun _=>Lq s.heap.objs.size (·.pop)) _ _ {s with heap:=h1,drawn:=d};refine b_ (G2 L rfl ?_);have K:=CJ (C8 (·.push CG)) L rfl;refine G2 K rfl ?_;have P:=CJ (C8 (·.pop)) K rfl;have f:∀c o,c≠s.heap.objs.size->h1.get? c=a_ o->((h1.update s.heap.objs.size (C8 (·.push CG))).update s.heap.objs.size (C8 (·.pop))).get? c=a_ o:=fun c o U e=>(Ce _ _ (CV U)).trans ((Ce _ _ (CV U)).trans e);obtain ⟨fp,St,W,st,n⟩:=X;have D:s.heap.objs.size∉fp:=fun z=>by
  rcases n _ z with q|q
  ·exact Eb C q
  ·rw [u] at q;exact Nat.not_succ_le_self _ q
 have r:vs.length<=n_:=by have:=k.length_eq;simp at this;omega
 refine e_ ⟨Fi Mc _,Ms (W A.in1 (by simp [B])).toS r _ D _ vs.length 0 _ _ _ rfl (Dg _) ((W A B).frame 0 _ _ st fun c U o e=>f c o (fun z=>D (z▸U)) e) P (MO _) fun s' S c' y g J=>?_⟩;show s_ (w_ prog w) A (load s.heap.objs.size >>= _) _ _ s';refine b_ (Ig g (e_ ?_));have ev:S.toList=vs:=by
  apply Jb;intro i;by_cases hi:i<vs.length
  ·have h2:i<S.size:=by rw [J.1];exact hi
   have O:=J.2 i S[i] (by simp [h2]);rw [O];simp [h2]
  ·rw [Eg (by rw [Ct,J.1];omega),Eg (by omega)]
 have j:=MN y;dsimp only at j;rw [j,ev];refine h vs _ d _ (fun c o e=>?_) ?_ k hi
 ·have U:c<s.heap.objs.size:=o_ e;refine y.heap c o (fun z=>?_) (f c o (Cd U) (p c o (g_ _ e)));rcases r_.mp z with z|z
  ·exact Cd U z
  ·simp at z;subst z;rw [u] at G;exact Cj U (J9.mpr (Mg G))
 ·exact EL (o_ g)
end
def gK:Dat->M Dat
 |.lst ds=>(aV ds).bind fun is=>if ds.length<64 then .ok (.lst ((dq ltZ (keysOf is)).map .int)) else stk
 |_=>stk
theorem Inv.draws {d:NA} (I:Inv X pins σ H s):Inv X pins σ H {s with drawn:=d}:=⟨I.ok,I.os,I.bare,I.base,I.loc,I.cell,I.free,I.freeC,I.pin,I.hok,I.len⟩
theorem boot_set:D5 "set"=a_ (.type "set"):=by decide +kernel
section
open PySem.W
theorem wO:∀{vs:List i_},(∀v∈vs,∃t,v=.int (nU v) t)->E6 vs (vs.map nU)
 |[],_=>.nil
 |v::vs,h=>by
  obtain ⟨t,e⟩:=h v (by simp);rw [A_,e];exact .cons _ _ (wO fun u J=>h u (by simp [J]))
theorem uA {Q:Vp} (g:A.handled=d_) (H:rJ prog w (kK w) s.heap a ks) (i:ks.length<64)
  (h:∀(h':CQ) (D:h_) (c tk:Nat) (d:NA) (vs:List i_),s.heap.objs.size<=D->(∀b o,s.heap.get? b=a_ o->h'.get? b=a_ o)->h'.get? D=a_ (D6 "list" (il (rk ltZ (vs.map nU) 0) vs).toArray c)->(vs.map nU).Perm ks->E6 vs (vs.map nU)->Q (.ref D) {s with heap:=h',drawn:=d,toks:=tk}) :
  s_ (w_ prog w) A (Gg (.builtin "sorted") [.ref a]) Q E s:=by
 have k:=Du;refine G5 ME LY LZ (L0 _) ?_;unfold Builtin.«sorted»;refine b_ (m:=MZ "sorted" 1 1 _) (e_ (b_ (u6 (A:=A.in1) g H fun vs h1 d tk J hsz U hi=>?_)));have l:vs.length=ks.length:=by have:=U.length_eq;simpa using this
 refine b_ (Jj ?_ (by omega));have Y:(h1.push (D6 "list" vs.toArray 0)).get? h1.objs.size=a_ (D6 "list" vs.toArray 0):=k_ _ rfl;have S:=wO hi;have e:∀b o,s.heap.get? b=a_ o->b≠h1.objs.size:=fun b o q=>Cd (o_ (J b o q));refine b_ (Dj (CD (s:={s with heap:=h1.push (D6 "list" vs.toArray 0),drawn:=d,toks:=tk}) KZ ⟨_,Y,rfl⟩ Km (mI (key:=rk ltZ (vs.map nU) 0) Y (by omega) (fun h2 n k3=>ui S h2) fun h' c f j=>⟨_,rfl,?_⟩) (K1 _)));exact e_ ⟨_,rfl,h h' _ c tk d vs hsz (fun b o q=>f b o (e b o q) (g_ _ (J b o q))) j U S⟩
theorem zE:∀{vs:List i_} {is:List Int},E6 vs is->Vals (is.map V.int) vs
 |_,_,.nil=>.nil
 |_,_,.cons n t r=>.cons ⟨t,rfl⟩ (zE r)
theorem out_ints {is:List Int} (h:E6 vs is):E6 (il (rk ltZ is 0) vs) (dq ltZ is):=by
 have U:=h.length;unfold il;by_cases h2:vs.length<2
 ·rw [p_ h2,mS (by omega)];exact h
 ·rw [l_ h2,U,<- sO ordZ is 0 (by omega)];obtain ⟨h1,_⟩:=pN (key:=rk ltZ is 0) (n:=is.length) (by omega);have J:∀i∈(d6 (ltK (rk ltZ is 0)) (EM is.length)).toList,i<vs.length:=fun i hi=>by
   have:=CO.mp (h1.mem_iff.mp hi);omega
  generalize (d6 (ltK (rk ltZ is 0)) (EM is.length)).toList=l at J
  induction l with
  |nil=>exact .nil
  |cons i l S=>
   obtain ⟨t,e⟩:=Jm h i (vs[i]'(J i (by simp))) (Cr _);have e2:vs.getD i CG=.int (is.getD i 0) t:=by rw [Dm,Cr (J i (by simp))];exact e
   rw [A_,A_,e2];exact .cons _ _ (S fun j Y=>J j (by simp [Y]))
end
section
variable {W:ck} {a:Dr} 
theorem xi {F:Hp}:∀is:List Int,au K F (is.map .int) (is.map V.int)
 |[]=>rfl
 |i::is=>⟨.int i,is.map V.int,rfl,rfl,xi is⟩
theorem oK {is:List Int} (h:is.length<64):(keysOf is).length<64:=by
 have:=lY is [];unfold keysOf;simp at this;omega
theorem vB (y:X.mg "sorted"=d_) (hm:X.mg "set"=d_) (ha:DE K W c_ X a fa) (N: ~~~(X.calm=f_)) (A: ~~~(Gl X "sorted")) (hg: ~~~(Gl X "set")) (G: ~~~(j_ [a] X.env=[(c_,Cf a X.env)]))
  (i: ~~~(j_ [.Call (.Name "set" p1) [a] [] pos1] X.env=[(c_,Cf (.Call (.Name "set" p1) [a] [] pos1) X.env)])) (hK: ~~~(X.K=K)) :
  DE K W f_ X (.Call (.Name "sorted" p) [.Call (.Name "set" p1) [a] [] pos1] [] pos) (f1 gK fa):=by
 subst hK;intro pins s σ H Q I h;obtain ⟨F,ρ,r,T,J⟩:=h;refine Em (fU I A y MF ?_ (by decide) (by decide));have g:s_ (w_ X.prog X.w) X.A (Cf (.Call (.Name "set" p1) [a] [] pos1) X.env) (fun t f=>∃Y H2 is h' tk,t=.ref Y.heap.objs.size/\f={Y with heap:=h',toks:=tk}/\Inv X pins σ H2 Y/\is.length<64/\rJ X.prog X.w (kK X.w) h' Y.heap.objs.size (keysOf is)/\(∀c o,c<Y.heap.objs.size->Y.heap.get? c=a_ o->h'.get? c=a_ o)/\∀S,H2 S=d_->Q (.ref S) (upd H2 S (.lst ((dq ltZ (keysOf is)).map V.int)))) X.xe s:=by
  refine K2 (fU I hg hm boot_set (CF (thn (aM ha cy G pos1 pins s σ H (fun us H2=>∃l is,us=[.ref l]/\is.length<64/\SqL X.K H2 l (is.map V.int)/\∀S,H2 S=d_->Q (.ref S) (upd H2 S (.lst ((dq ltZ (keysOf is)).map V.int)))) I ?_) fun us f ⟨vs,H1,R,r1,q1⟩=>?_) G rfl))
  ·refine aI r T (fun e he=>?_) fun d hd v F1 H1 f q1=>?_
   ·have z:f1 gK fa ρ=.error e:=by unfold f1;rw [he];rfl
    rw [z] at J;exact J
   ·have z:f1 gK fa ρ=gK d:=by unfold f1;rw [hd];rfl
    rw [z] at J;have J:=J.step f;cases d with
    |lst ds=>
     obtain ⟨c,xs,e,t,C⟩:=q1;have J:aw X.K W f_ F1 H1 ((aV ds).bind fun is=>if ds.length<64 then .ok (.lst ((dq ltZ (keysOf is)).map .int)) else stk) Q:=J;cases k:aV ds with
     |error z=>rw [k] at J;have:=du k;subst this;exact (W.ns J).elim
     |ok is=>
      rw [k] at J;have J:aw X.K W f_ F1 H1 (if ds.length<64 then .ok (.lst ((dq ltZ (keysOf is)).map .int)) else stk) Q:=J;have hx:=cD C k;subst hx;have L:ds.length=is.length:=by have:=C.length;simp at this;omega
      by_cases U:ds.length<64
      ·rw [p_ U] at J;exact ⟨c,is,by rw [e],by omega,f.fh.lst t,fun S hS=>J.lst f.fh (xi _) hS⟩
      ·rw [l_ U] at J;exact (W.ns J).elim
    |_=>exact (W.ns J).elim
  ·obtain ⟨l,is,e,U,hq,B⟩:=q1;subst e;obtain ⟨u,rfl,Z⟩:=r1.one;cases (show u=x_ l from Z);obtain ⟨its,E,pl,hz⟩:=R.list hq;have L:=E.length;rw [v_] at L;have h4:Gw=4096:=rfl;exact BS (I.ok.hd N) pl.isList (by simpa using intsAre_of E) (by rw [z_];omega) fun h' tk m x=>⟨f,H1,is,h',tk,rfl,rfl,R,U,m,x,B⟩
 refine HX ?_ i rfl;rw [i];refine Gh (thn g fun t f ⟨Y,H2,is,h',tk,et,es,P,U,m,x,B⟩=>e_ ?_);subst et es;have w:Y.heap.objs.size<h'.objs.size:=by obtain ⟨o,_,_,_,ho,_⟩:=m;exact o_ ho
 refine uA (s:={Y with heap:=h',toks:=tk}) (I.ok.hd N) m (oK U) fun h2 D c n d vs hD kp e hp ia=>?_;have O:=out_ints ia;rw [jv ordZ ((cb _).trans (hp.trans (cb (keysOf is)).symm)) (cY ordZ _) (cY ordZ _)] at O;have hll:(dq ltZ (keysOf is)).length<64:=by rw [(cb _).length_eq];exact oK U
 have j:Y.heap.objs.size<=D:=C9 (EL w) hD;have hz:=Du;exact ⟨.ref D,_,(P.laid (t':=n) (fun b o q=>kp b o (x b o (o_ q) q)) j (show bK X.prog X.w _ h2 D (.lst ((dq ltZ (keysOf is)).map V.int)) from ⟨by rw [v_];omega,_,c,zE O,e⟩)).draws,rfl,B D (P.hok.fresh j)⟩
end
def pf:Dat->Dat->M Dat
 |.lst ds,.int k=>(aV ds).bind fun xs=>.ok (.int (xs.countP (·==k):Nat))
 |_,_=>stk
@[simp] theorem e_countD (ds:List Dat) (k:Int):pf (.lst ds) (.int k)=(aV ds).bind fun xs=>.ok (.int (xs.countP (·==k):Nat)):=id rfl
def p8 (fo fe:ah->M Dat):ah->M Dat:=fun ρ=>(fo ρ).bind fun a=>if isL a=f_ then (fe ρ).bind fun b=>pf a b else stk
@[simp] theorem e_fCount (fo fe:ah->M Dat) (ρ:ah):p8 fo fe ρ=(fo ρ).bind fun a=>if isL a=f_ then (fe ρ).bind fun b=>pf a b else stk:=id rfl
def rCount (K:Fg):V->List V->Hp->VK->Prop:=fun x vs H Q=>∃(l:h_) (is:List Int) (k:Int),x=.ref l/\vs=[.int k]/\SqL K H l (is.map V.int)/\Q (.int (is.countP (·==k):Nat)) H
section
variable {W:ck}
theorem pe {k:Int}:∀{is:List Int} {us:List i_},Vals (is.map V.int) us->us.countP (isK k)=is.countP (·==k)
 |[],_,.nil=>rfl
 |a::is,_,.cons r rs=>by
  obtain ⟨t,rfl⟩:=(show ∃t,_=FU a t from r)
  rw [F7,F7,pe rs];rfl
theorem mt_count (D:X.A.units+64<D8):MtR X "list.count" (rCount X.K):=by
 intro pins s σ H x vs v us Q I f g h;obtain ⟨l,is,k,rfl,rfl,w,q⟩:=h;cases f;obtain ⟨u,rfl,i⟩:=g.one;obtain ⟨its,r,pl,C⟩:=I.list w;obtain ⟨o,n,e,J,b,S⟩:=id pl;obtain ⟨t,rfl⟩:=(show ∃t,u=FU k t from i)
 have d:is.length=its.length:=by rw [<- r.length,v_]
 obtain ⟨oc,Y,U,osl⟩:=o;refine M0 JP ⟨_,e,J⟩ PySem.F.entry_list_count (PySem.F.args_list_count_2 _ _) (SeqAt.list_countAt l its.toArray n Y osl (.int k t) (isK k)) ⟨?_,fun y j=>?_,?_⟩
 ·rw [e];cases (show oc=.type "list" from J);cases (show U=.seq its.toArray n from S);rfl
 ·have p:y∈its:=by simpa using j
  obtain ⟨m,a,rfl⟩:=Iw p;obtain ⟨t',B⟩:∃t,its[m]=.int (is[m]'(by omega)) t:=by
   obtain ⟨t,c⟩:=oi r m (is[m]'(by omega)) (Cr _);rw [Cr a] at c;exact ⟨t,Cu c⟩
  rw [B];have z:=eqAt_D (F:=H) (x:=.int (is[m]'(by omega))) (y:=.int k) (A:=X.A.in1) I (aN.refl H) (.int (is[m]'(by omega))) (.int k) (by simp [okE]) (by simp [okE]) rfl rfl ⟨t',rfl⟩ ⟨t,rfl⟩ (by show X.A.units+1+40<D8;omega);rw [show eqD (.int (is[m]'(by omega))) (.int k)=isK k (.int (is[m]'(by omega)) t') by simp [eqD,isK]] at z;exact z
 ·rw [Lk,pe r];exact ⟨.int (is.countP (·==k):Nat),H,I.tok _,⟨_,rfl⟩,q⟩
theorem de_count (m:X.A.units+64<D8) (n:DE K W c_ X o fo) (c:DE K W c_ X e fe) (v: ~~~(X.K=K)) (U: ~~~(DH o "count" X.env (Cf o X.env)=Cf o X.env))
  (Y: ~~~(((CZ cpos (j_ [e] X.env)).all (fun x=> !x.1)&&(Gk cpos (ES [] X.env)).all (fun x=>x.1.isSome)&&Ca ([e].length+([]:List Gs).length+(if ([]:List Gs).isEmpty then 0 else 1)<30))=f_))
  (S: ~~~((apos.endLine==cpos.line)=f_)) (g: ~~~(j_ [e] X.env=(c_,Cf e X.env)::j_ [] X.env)) (J: ~~~((CZ cpos (j_ [] X.env)).any (·.1)=c_)) :
  DE K W c_ X (.Call (.Attribute o "count" apos) [e] [] cpos) (p8 fo fe):=by
 subst v;refine PE.imp (pe_bm Ha JP PySem.F.type_list_count (mt_count m) n (aM c cy (by rw [g])) U Y S g J) fun σ H Q h=>?_;obtain ⟨F,ρ,r,s,p⟩:=h;refine aI r s (fun e c=>p.err (by unfold p8;rw [c];rfl)) fun a u x F1 H1 f q1=>?_;have w:p8 fo fe ρ=if isL a=f_ then (fe ρ).bind fun b=>pf a b else stk:=by unfold p8;rw [u];rfl
 rw [w] at p;have p:=p.step f;cases a with
 |lst ds=>
  have p:aw X.K W c_ F1 H1 ((fe ρ).bind fun b=>pf (.lst ds) b) Q:=p;obtain ⟨l,xs,ex,t,z⟩:=id q1;subst ex;refine ⟨.inl ⟨rfl,_,f.fh.lst t⟩,?_⟩
  refine aI (r.mono f.ff) f.fh (fun e c=>p.err (by rw [c];rfl)) fun b q y i H2 d q2=>?_;rw [q] at p;have p:aw X.K W c_ F1 H1 (pf (.lst ds) b) Q:=p;have p:=p.step d;cases b with
  |int k=>
   have p:aw X.K W c_ i H2 ((aV ds).bind fun xs=>.ok (.int (xs.countP (·==k):Nat))) Q:=p;cases hi:aV ds with
   |error e=>rw [hi] at p;rw [du hi] at p;exact aw.stuck p
   |ok is=>
    rw [hi] at p;have j:=cD z hi;subst j;cases (show y=V.int k from q2);exact ⟨l,is,k,rfl,rfl,d.fh.lst (d.ff.lst t),p (.int (is.countP (·==k):Nat)) i H2 (Step.refl d.fh) rfl⟩
  |_=>exact aw.stuck p
 |_=>exact aw.stuck p
end
structure Abt (p:h_) (F H F' H':Hp):Prop where
 ff:aN F F'
 fh:aN F' H'
 fp:F' p=d_
 nw:∀b o,F' b=a_ o->F b=a_ o\/H b=d_
 hh:∀c o,H c=a_ o->c≠p->H' c=a_ o
theorem Abt.step {x dx:h_} (U:H x=d_) (J:H dx=d_) (z:Abt x F (upd (upd H dx (.own x)) x (.ins C dx [])) F' H'):Step F H F' H' where
 ff:=z.ff
 hh:=fun c o e=>by
  have S:c≠x:=fun h=>by rw [h,U] at e;cases e
  have hd:c≠dx:=fun h=>by rw [h,J] at e;cases e
  exact z.hh c o (by rw [aq S,aq hd];exact e) S
 fh:=z.fh
 nw:=fun c o e=>by
  rcases z.nw c o e with q|q
  ·exact .inl q
  ·refine .inr ?_;by_cases S:c=x
   ·subst S;exact U
   ·by_cases hd:c=dx
    ·subst hd;exact J
    ·rw [aq S,aq hd] at q;exact q
section
end
def isiC (tb:List (h_×Bool)):Dat->M Dat
 |.ins C _=>match tb.lookup C with
  |some b=>.ok (.bl b)
  |none=>stk
 |_=>stk
section
variable {W:ck} {own:Bool} {a:Dr} {D:h_} {tb:List (h_×Bool)}
theorem c_isiC (e:∀C b,tb.lookup C=a_ b->(∃x,Kls K X.mg x C)/\CW K (.ref C) (.ref D)=a_ b) (f: ~~~(X.K=K)):bS X (.builtin "isinstance") (fun xs H Q=>∃v,xs=[v,.ref D]/\rD1 K W own (isiC tb) v H Q):=by
 subst f;intro pins s σ H xs us Q I r h;obtain ⟨v,rfl,F,d,U,q,p⟩:=h;obtain ⟨u,w,rfl,Y,J⟩:=r.two;cases (show w=x_ D from J);cases d with
 |ins C fs=>
  cases S:tb.lookup C with
  |none=>
   have p:aw X.K W own F H (match tb.lookup C with
    |some b=>.ok (.bl b)
    |none=>stk) Q:=p
   rw [S] at p;exact aw.stuck p
  |some b=>
   have p:aw X.K W own F H (match tb.lookup C with
    |some b=>.ok (.bl b)
    |none=>stk) Q:=p
   rw [S] at p;obtain ⟨⟨x,a⟩,c⟩:=e C b S;obtain ⟨l,dx,gs,e1,ea,g⟩:=q;subst e1;exact sX I Y (a.ty (U _ _ ea)) c fun tk=>⟨.bl b,H,I.tok tk,rfl,aw.bl (own:=own) p U⟩
 |_=>exact aw.stuck p
theorem de_isiC (g:∀C b,tb.lookup C=a_ b->(∃x,Kls K X.mg x C)/\CW K (.ref C) (.ref D)=a_ b) (c:X.mg "isinstance"=d_) (j:X.mg y=a_ (.ref D)) (f:DE K W c_ X a fa) (i: ~~~(X.K=K))
  (e: ~~~(Gl X "isinstance")) (Y: ~~~(Gl X y)) (hd:((y==("__debug__":Cy))=c_)⁻¹)
  (S: ~~~(j_ [a,.Name y p2] X.env=[(c_,Cf a X.env),(c_,Cf (.Name y p2) X.env)])) (J: ~~~(j_ [.Name y p2] X.env=[(c_,Cf (.Name y p2) X.env)])) (U: ~~~((CZ pos (j_ [.Name y p2] X.env)).any (·.1)=c_)) :
  DE K W own X (.Call (.Name "isinstance" p) [a,.Name y p2] [] pos) (f1 (isiC tb) fa):=
 (di (c_isiC g i) e c EK (aM f (aM (Aq (v:=.ref D) (pos:=p2) Y j rfl hd) cy J) (by rw [S,J])) (by decide) (by decide) (by rw [S,J]) U).imp fun σ H Q h=>by
  obtain ⟨F,ρ,r,s,q⟩:=rd_1 h;refine ⟨F,ρ,r,s,?_⟩
  cases e1:fa ρ with
  |error z=>rw [e1] at q;exact q
  |ok d=>rw [e1] at q;exact fun v F' H' st z=>⟨v,rfl,q v F' H' st z⟩
end
noncomputable abbrev zK (P:Cn) (w:Dv):HeapKind P w (List Int):=tupleKind (Ep P w)
theorem rS {P:Cn} {w:Dv}:∀{k:List Int} {us:List i_},Vals (k.map V.int) us->ItemsAre (Ep P w) k us
 |[],_,.nil=>.nil
 |i::k,_,.cons r t=>by
  obtain ⟨t',rfl⟩:=(show ∃t,_=FU i t from r)
  exact .cons (by simp [Ep,GF]) (rS t)
theorem o8.at {xs:List jH} (z:o8 h a xs ep) (e:∀o,h.get? a=a_ o->h'.get? a=a_ o):o8 h' a xs ep:=
 let ⟨vs,r,hd,S,J,o,es,h1,h2⟩:=z;⟨vs,r,hd,S,J,o,es,e o h1,h2⟩
theorem vA {P:Cn} {xs:List jH} (z:o8 h a xs ep):bK P w H h a (nC a xs ep):=
 ⟨z,let ⟨_,_,_,_,_,o,_,e,_⟩:=z;⟨o,e⟩,fun _ _ z e=>z.at e⟩
def nA (K:Fg) (H:Hp) (xs:List jH):Prop:=∀x∈xs,SqT K H x.2.1 (x.1.map V.int)
theorem nA.mono {xs:List jH} (z:nA K H xs) (s:aN H H'):nA K H' xs:=fun x J=>s.tup (z x J)
theorem cK.key {K:Fg} {F:Hp}:∀{ks:List (List Int×Dat)} {xs:List jH},cK K F ks xs->nA K F xs
 |[],_,h,x,J=>by rw [show _=[] from h] at J;cases J
 |(k,d)::ks,_,⟨b,v,r,e,t,q,z⟩,x,J=>by
  subst e;rcases r_.mp J with rfl|J
  ·exact t
  ·exact cK.key z x J
theorem cK.length {K:Fg} {F:Hp}:∀{ks:List (List Int×Dat)} {xs:List jH},cK K F ks xs->xs.length=ks.length
 |[],_,h=>by rw [show _=[] from h];rfl
 |(k,d)::ks,_,⟨b,v,r,e,t,q,z⟩=>by rw [e,Ci,Ci,cK.length z]
noncomputable def nV (ks:List (List Int×Dat)) (k:List Int):Option Dat:=(ks.find? fun p=>Ca (p.1=k)).map (·.2)
noncomputable def vq (xs:List jH) (k:List Int):Option V:=(xs.find? fun p=>Ca (p.1=k)).map (·.2.2)
def i9 (ks:List (List Int×Dat)) (k:List Int) (d:Dat):List (List Int×Dat):=if (nV ks k).isSome=f_ then ks.map (fun p=>if p.1=k then (p.1,d) else p) else ks++[(k,d)]
def putR (xs:List jH) (k:List Int) (b:h_) (v:V):List jH:=if (vq xs k).isSome=f_ then xs.map (fun x=>if x.1=k then (x.1,x.2.1,v) else x) else xs++[(k,b,v)]
theorem mM (xs:List jH) (k:List Int) (b:h_) (v:V):(putR xs k b v).length<=xs.length+1:=by
 unfold putR;split
 ·rw [v_];omega
 ·rw [CP];exact m_ _
theorem pZ {k:List Int}:∀{xs:List jH} {vs:List (List Int×h_×i_)},Gv iM xs vs->pF (vq xs k) ((Mt vs k).map (·.2))
 |_,_,.nil=>Ex
 |x::xs,q::vs,.cons h t=>by
  obtain ⟨h1,h2,S⟩:=h;by_cases e:x.1=k
  ·have J:q.1=k:=h1.symm.trans e;simp only [vq,Mt,JB,e,J,decide_true,Fo];exact S
  ·have J:¬q.1=k:=fun z=>e (h1.trans z);have:=pZ (k:=k) t;simpa only [vq,Mt,JB,e,J,decide_false] using this
theorem cK.at {K:Fg} {F:Hp} {k:List Int}:∀{ks:List (List Int×Dat)} {xs:List jH},cK K F ks xs->(nV ks k=d_/\vq xs k=d_)\/∃d v,nV ks k=a_ d/\vq xs k=a_ v/\aW K F d v
 |[],_,h=>by rw [show _=[] from h];exact .inl ⟨rfl,rfl⟩
 |(J,d)::ks,_,⟨b,v,r,e,t,q,z⟩=>by
  subst e;by_cases e:J=k
  ·exact .inr ⟨d,v,by simp [nV,e],by simp [vq,e],q⟩
  ·have:=cK.at (k:=k) z;simpa only [nV,vq,JB,e,decide_false] using this
theorem cK.isSome {K:Fg} {F:Hp} {k:List Int} {ks:List (List Int×Dat)} {xs:List jH} (z:cK K F ks xs):(vq xs k).isSome=(nV ks k).isSome:=by
 rcases z.at (k:=k) with ⟨e1,e2⟩|⟨d,v,e1,e2,_⟩<;>rw [e1,e2]<;>rfl
theorem cK.repl {K:Fg} {F:Hp} {k:List Int} {d:Dat} {v:V} (q:aW K F d v):∀{ks:List (List Int×Dat)} {xs:List jH},cK K F ks xs->cK K F (ks.map fun p=>if p.1=k then (p.1,d) else p) (xs.map fun x=>if x.1=k then (x.1,x.2.1,v) else x)
 |[],_,h=>by rw [show _=[] from h];rfl
 |(U,d')::ks,_,⟨b,J,r,e,t,S,z⟩=>by
  subst e;rw [A_,A_];by_cases e:U=k
  ·rw [p_ e,p_ e];exact ⟨b,v,_,rfl,t,q,cK.repl q z⟩
  ·rw [l_ e,l_ e];exact ⟨b,J,_,rfl,t,S,cK.repl q z⟩
theorem cK.snoc {K:Fg} {F:Hp} {k:List Int} {b:h_} {d:Dat} {v:V} (t:SqT K F b (k.map V.int)) (q:aW K F d v):∀{ks:List (List Int×Dat)} {xs:List jH},cK K F ks xs->cK K F (ks++[(k,d)]) (xs++[(k,b,v)])
 |[],_,h=>by rw [show _=[] from h];exact ⟨b,v,[],rfl,t,q,rfl⟩
 |(Y,d')::ks,_,⟨U,J,r,e,t',S,z⟩=>by subst e;exact ⟨U,J,_,rfl,t',S,cK.snoc t q z⟩
theorem cK.put {k:List Int} {v:V} {ks:List (List Int×Dat)} {xs:List jH} (z:cK K F ks xs) (t:SqT K F b (k.map V.int)) (q:aW K F d v):cK K F (i9 ks k d) (putR xs k b v):=by
 unfold i9 putR;rw [z.isSome];by_cases h:(nV ks k).isSome=f_
 ·rw [p_ h,p_ h];exact z.repl q
 ·rw [l_ h,l_ h];exact z.snoc t q
theorem sy {k:List Int} {v:V} {u:i_} (J:RelV v u):∀{xs:List jH} {vs:List (List Int×h_×i_)},Gv iM xs vs->Gv iM (xs.map fun x=>if x.1=k then (x.1,x.2.1,v) else x) (vs.map (putAt k u))
 |_,_,.nil=>.nil
 |x::xs,q::vs,.cons h t=>by
  rw [A_,A_];refine .cons ?_ (sy J t);obtain ⟨h1,h2,S⟩:=h;unfold putAt;by_cases e:x.1=k
  ·rw [p_ e,p_ (h1.symm.trans e)];exact ⟨h1,h2,J⟩
  ·rw [l_ e,l_ (fun z=>e (h1.trans z))];exact ⟨h1,h2,S⟩
theorem wt {k:List Int} {v:V} (J:RelV v u) {xs:List jH} {vs:List (List Int×h_×i_)} (r:Gv iM xs vs):Gv iM (putR xs k b v) (Nf vs k b u):=by
 have e:(vq xs k).isSome=(Mt vs k).isSome:=by rw [(pZ r).B5,Lj]
 unfold putR Nf;rw [e];by_cases h:(Mt vs k).isSome=f_
 ·rw [p_ h,p_ h];exact sy J r
 ·rw [l_ h,l_ h];exact Paired.snoc r ⟨rfl,rfl,J⟩
theorem wu:∀{xs:List jH} {vs:List (List Int×h_×i_)},Gv iM xs vs->∀q∈vs,∃x∈xs,x.1=q.1/\x.2.1=q.2.1
 |_,_,.nil,_,h=>nomatch h
 |x::xs,q::vs,.cons h t,y,J=>by
  rcases r_.mp J with rfl|J
  ·exact ⟨x,by simp,h.1,h.2.1⟩
  ·obtain ⟨S,h1,h2⟩:=wu t y J;exact ⟨S,by simp [h1],h2⟩
section
variable {xs:List jH} {k:List Int}
theorem pM (I:Inv X pins σ H s) (h:SqT X.K H b (k.map V.int)):(zK X.prog X.w).is s.heap k b:=by
 obtain ⟨its,r,⟨o,h1,h2,n,J⟩,_⟩:=I.tuple h;exact ⟨o,its.toArray,n,h1,h2,J,by simpa using rS r⟩
theorem xg (I:Inv X pins σ H s) (e:H a=a_ (nC a xs ep)):o8 s.heap a xs ep:=(show o8 s.heap a xs ep/\_ from I.hok a _ e).1
theorem Bx (I:Inv X pins σ H s) (e:H a=a_ (nC a xs ep)) (z:nA X.K H xs):∃vs,Gv iM xs vs/\(a==DO)=c_/\xs.length<=n_/\s.heap.DictOfH (zK X.prog X.w) a vs:=by
 obtain ⟨vs,r,hd,Y,U,o,es,h1,h2,c,b⟩:=xg I e;refine ⟨vs,r,hd,Y,o,es,ep,h1,h2,c,b,fun q S=>?_,U⟩
 obtain ⟨x,J,e1,e2⟩:=wu r q S;rw [<- e1,<- e2];exact pM I (z x J)
theorem dic_ty (I:Inv X pins σ H s) (e:H a=a_ (nC a xs ep)):s.TypeIs (.ref a) "dict"/\(∀b,x_ a=.ref b->∃J,s.heap.get? b=a_ J/\J.dict=d_):=by
 obtain ⟨_,_,_,_,_,o,_,h1,h2,_⟩:=xg I e;exact ⟨⟨o,h1,h2.1⟩,fun c q=>by cases q;exact ⟨o,h1,h2.2.1⟩⟩
theorem xh {P:Cn} {vs:List (List Int×h_×i_)} (dd:h.DictOfH (zK P w) a vs) (r:Gv iM xs vs) (hd:(a==DO)=c_) (J:xs.length<=n_):∃ep,o8 h a xs ep:=by
 obtain ⟨o,es,ep,h1,h2,Y,U,_,S⟩:=dd;exact ⟨ep,vs,r,hd,J,S,o,es,h1,h2,Y,U⟩
end
def sPut (K:Fg) (td ty tv:TE):TS:=fun D σ H=>tv σ H fun v H1=>td σ H1 fun x H2=>ty σ H2 fun y J=>∃a b k xs ep,x=.ref a/\y=.ref b/\J a=a_ (nC a xs ep)/\nA K J xs/\SqT K J b (k.map V.int)/\xs.length<n_/\∀ep',D.nx σ (upd J a (nC a (putR xs k b v) ep'))
def tGet2 (K:Fg) (td ty tx:TE):TE:=fun σ H Q=>td σ H fun x H1=>∃a xs ep,x=.ref a/\H1 a=a_ (nC a xs ep)/\ty σ H1 fun y H2=>tx σ H2 fun z J=>∃b k,y=.ref b/\J a=a_ (nC a xs ep)/\nA K J xs/\SqT K J b (k.map V.int)/\Q ((vq xs k).getD z) J
def tNewK:TE:=fun _ H Q=>∀p,H p=d_->Q (.ref p) (upd H p (nC p [] 0))
section
variable {i f:Dr} {ty tx:TE}
theorem tO (h:CQ) (J:DO<h.objs.size):o8 (h.push {cls:=.type "dict",data:=.dict #[]}) h.objs.size [] 0:=
 ⟨[],.nil,E5.mpr (CV (Cd J)),Dg _,MR,_,#[],k_ _ rfl,⟨rfl,rfl,rfl⟩,rfl,rfl⟩
theorem pe_newK:PE X (.Dict [] [] pos) tNewK:=fun pins s σ H Q I h=>
 NI ⟨.ref s.heap.objs.size,_,I.laid (a:=s.heap.objs.size) (o:=nC s.heap.objs.size [] 0) (t':=s.toks) (fun _ _ q=>g_ _ q) (m_ _) (vA (tO s.heap I.big)),rfl,h _ (I.hok.fresh (m_ _))⟩
theorem Inv.dic {xs ys:List jH} {t':Nat} (I:Inv X pins σ H s) (e:H a=a_ (nC a xs ep)) (J:Ea a s.heap h') (z:o8 h' a ys ep'):Inv X pins σ (upd H a (nC a ys ep')) {s with heap:=h',toks:=t'}:=
 I.write (x:=a) (e:=a) (by rw [e];exact Ex) (.inl rfl) (fun c q S w=>(J.2 c S).trans w) (let ⟨_,_,_,_,_,o,_,w,_⟩:=z;⟨o,w⟩) (vA z)
theorem ps_put (p:X.A.units+1<D8) (w:PE X o td) (hi:PE X i ty) (hv:PE X value tv) (q:Dx value (a_ (.Subscript o i pos')) pos.line X.env=DC c_):PS X (.Assign [.Subscript o i pos'] value pos) (sPut X.K td ty tv):=by
 intro pins s σ H D I h;refine LP (thn (hv pins s σ H _ I h) fun r e ⟨v,H1,E,j,q1⟩=>thn (w pins e σ H1 _ E q1) fun u d ⟨x,H2,C,g,q2⟩=>thn (hi pins d σ H2 _ C q2) fun m F ⟨y,K,Y,f,a,b,k,xs,ep,ex,B,ea,A,t,G,l⟩=>?_) q;subst ex B;cases (show u=x_ a from g);cases (show m=x_ b from f);obtain ⟨vs,c,hd,n,dd⟩:=Bx Y ea A;have J:vs.length<=n_:=by rw [<- G7 c];exact n
 refine MU (hsz:=J) (MX p) (pM Y t) dd fun h' U S=>?_;obtain ⟨ep',z⟩:=xh U (wt j c) hd (by have:=mM xs k b v;omega);exact ⟨σ,_,Y.dic ea S z,l ep'⟩
theorem pe_get2 (r:X.A.units+1<D8) (v:PE X o td) (B:PE X e ty) (A:PE X f tx) (m:M2 X o "get" apos e f cpos):PE X (.Call (.Attribute o "get" apos) [e,f] [] cpos) (tGet2 X.K td ty tx):=by
 intro pins s σ H Q I h;refine wpAny_Call_method m.base m.few m.line JQ Kc PySem.F.type_dict_get (thn (v pins s σ H _ I h) fun u g ⟨x,H1,U,l,a,xs,ep,ex,ea,q1⟩=>?_);subst ex;cases (show u=x_ a from l);obtain ⟨c,Y⟩:=dic_ty U ea;refine ⟨c,Y,?_⟩
 rw [m.trees];refine Hq rfl (KY (Gh (thn (B pins g σ H1 _ U q1) fun q d ⟨y,H2,D,j,q2⟩=>
  Gh (thn (A pins d σ H2 _ D q2) fun fv F ⟨z,E,S,i,b,k,C,J,w,t,p⟩=>LH ?_))))
 subst C;cases (show q=x_ b from j);obtain ⟨vs,n,hd,G,dd⟩:=Bx S J w;exact call_meetsIn Kc dd.typeIs PySem.F.entry_dict_get (PySem.F.args_dict_get_3 _ _ _) (meetsH_dict_get_default (zK X.prog X.w) a b hd fv) ⟨MX r,k,vs,pM S t,dd,_,E,S.tok _,(pZ n).getD i,p⟩
end
def lL:Dat->M (List Int)
 |.tup ds=>aV ds
 |_=>stk
noncomputable def jD (ρ:ah) (i:Nat):M (List (List Int×Dat)):=match ρ[i]? with
 |some (a_ (.dic ks))=>.ok ks
 |_=>.error .stuck
def uK (i:Nat) (fk fv:ah->M Dat):ah->M Flo:=fun ρ=>(fv ρ).bind fun d=>(jD ρ i).bind fun ks=>(fk ρ).bind fun J=>(lL J).bind fun k=>if (eh d&&Ca (ks.length<n_))=f_ then .ok (.nx (ρ.set i (a_ (.dic (i9 ks k d))))) else .error .stuck
noncomputable def jz:Dat->Bool
 |.dic _=>f_
 |_=>c_
def yL:Dat->Dat->Dat->M Dat
 |.dic ks,J,x=>(lL J).bind fun k=>.ok ((nV ks k).getD x)
 |_,_,_=>stk
def n6 (fd fk fx:ah->M Dat):ah->M Dat:=fun ρ=>(fd ρ).bind fun d=>if jz d=f_ then (fk ρ).bind fun k=>(fx ρ).bind fun x=>yL d k x else stk
theorem lZ {e:Err} (h:lL d=.error e):e=.stuck:=by
 cases d with
 |tup ds=>exact du h
 |_=>cases h;rfl
theorem qB {v:V} {k:List Int} (h:lL d=.ok k) (q:aW K F d v):∃b,v=.ref b/\SqT K F b (k.map V.int):=by
 cases d with
 |tup ds=>
  obtain ⟨b,xs,e,t,z⟩:=q;have:=cD z h;subst this;exact ⟨b,e,t⟩
 |_=>cases h
section
variable {W:ck} {fd fx:ah->M Dat} {Q:VK}
theorem kh {ks:List (List Int×Dat)} (h:jD ρ i=.ok ks):ρ[i]? =a_ (a_ (.dic ks)):=by
 unfold jD at h;split at h
 ·cases h;assumption
 ·cases h
theorem tP {e:Err} (h:jD ρ i=.error e):e=.stuck:=by
 unfold jD at h;split at h
 ·cases h
 ·cases h;rfl
theorem rs_putD (hi:i∈O) (t:tS K W ro F0 H0 OL O O (uK i fk fv) D σ H):sPut K (tVar i) (tD K W c_ fk) (tD K W c_ fv) D σ H:=by
 obtain ⟨FB,F,ρ,r,p⟩:=t;refine aI r.gC r.dg (fun e h=>p.fg (r.freeze (O2:=[]) (by simp)).st (by unfold uK;rw [h];rfl)) fun d hd v F1 H1 m q=>?_;have y:uK i fk fv ρ=(jD ρ i).bind fun ks=>(fk ρ).bind fun U=>(lL U).bind fun k=>if (eh d&&Ca (ks.length<n_))=f_ then .ok (.nx (ρ.set i (a_ (.dic (i9 ks k d))))) else .error .stuck:=by unfold uK;rw [hd];rfl
 rw [y] at p;cases c:jD ρ i with
 |error e=>
  have:=tP c;subst this;exact p.stuck (by rw [c];rfl)
 |ok ks=>
  rw [c] at p;have p:bY K W ro F0 H0 FB OL O D ((fk ρ).bind fun U=>(lL U).bind fun k=>if (eh d&&Ca (ks.length<n_))=f_ then .ok (.nx (ρ.set i (a_ (.dic (i9 ks k d))))) else .error .stuck):=p;have S:=r.eF m;obtain ⟨A,e2,a,xs,ev,⟨ep,s⟩,_,_,z⟩:=S.ow i _ (kh c) hi;subst ev;refine ⟨.ref a,e2,?_⟩
  refine aI S.gC S.dg (fun e h=>p.fg (S.freeze (O2:=[]) (by simp)).st (by rw [h];rfl)) fun U o w B H2 Y q2=>?_;rw [o] at p;have p:bY K W ro F0 H0 FB OL O D ((lL U).bind fun k=>if (eh d&&Ca (ks.length<n_))=f_ then .ok (.nx (ρ.set i (a_ (.dic (i9 ks k d))))) else .error .stuck):=p;cases J:lL U with
  |error e=>
   have:=lZ J;subst this;exact p.stuck (by rw [J];rfl)
  |ok k=>
   rw [J] at p;have p:bY K W ro F0 H0 FB OL O D (if (eh d&&Ca (ks.length<n_))=f_ then .ok (.nx (ρ.set i (a_ (.dic (i9 ks k d))))) else .error .stuck):=p;by_cases f:(eh d&&Ca (ks.length<n_))=f_
   ·rw [p_ f] at p;simp only [u_,CK] at f;obtain ⟨b,rfl,t⟩:=qB J q2;have g:=S.eF Y;have n:aW K (minus F1 (j4 O [] σ ρ)) d v:=aW.flat (r.jb m) f.1 q;have j:=z.mono (S.dH Y);have l:=S.jb Y b _ t;exact ⟨a,b,k,xs,ep,rfl,rfl,Y.hh _ _ s,j.key.mono g.st.fh,g.st.fh.tup l,by rw [z.length];exact f.2,fun ep'=>p σ _ _ (g.w6 hi (kh c) rfl e2 fun x u=>⟨a,_,rfl,⟨ep',ao⟩,x,u,j.put l (n.mono (S.dH Y))⟩)⟩
   ·rw [l_ f] at p;exact p.stuck rfl
theorem rd_getD (h:tD K W c_ (n6 fd fk fx) σ H Q):tGet2 K (tD K W c_ fd) (tD K W c_ fk) (tD K W c_ fx) σ H Q:=by
 obtain ⟨F,ρ,r,s,p⟩:=h;refine aI r s (fun e g=>p.err (by unfold n6;rw [g];rfl)) fun d hd x F1 H1 Y q1=>?_;have B:n6 fd fk fx ρ=if jz d=f_ then (fk ρ).bind fun k=>(fx ρ).bind fun x=>yL d k x else stk:=by unfold n6;rw [hd];rfl
 rw [B] at p;cases d with
 |dic ks=>
  have p:aw K W c_ F H ((fk ρ).bind fun k=>(fx ρ).bind fun x=>yL (.dic ks) k x) Q:=p;obtain ⟨a,xs,e,⟨ep,m⟩,z⟩:=q1;refine ⟨a,xs,ep,e,Y.fh _ _ m,?_⟩
  refine aI (r.mono Y.ff) Y.fh (fun e g=>(p.step Y).err (by rw [g];rfl)) fun j u y D H2 i q2=>?_;rw [u] at p;have p:aw K W c_ F H ((fx ρ).bind fun x=>yL (.dic ks) j x) Q:=p;have J:=Y.trans i;refine aI (r.mono J.ff) J.fh (fun e g=>(p.step J).err (by rw [g];rfl)) fun c A w n C U o=>?_;rw [A] at p;have p:aw K W c_ F H ((lL j).bind fun k=>.ok ((nV ks k).getD c)) Q:=p;cases S:lL j with
  |error e=>
   rw [S] at p;have:=lZ S;subst this;exact aw.stuck p
  |ok k=>
   rw [S] at p;obtain ⟨b,rfl,t⟩:=qB S q2;have f:=J.trans U;have l:=(z.mono i.ff).mono U.ff;refine ⟨b,k,rfl,U.hh _ _ (i.hh _ _ (Y.fh _ _ m)),l.key.mono U.fh,U.fh.tup (U.ff.tup t),p _ n C f ?_⟩
   show aW K n _ _;rcases l.at (k:=k) with ⟨e1,e2⟩|⟨d,v,e1,e2,q⟩
   ·rw [e1,e2];exact o
   ·rw [e1,e2];exact q
 |_=>exact aw.stuck p
end
section
variable {W:ck} {fd fx:ah->M Dat} 
theorem Bz:DE K W f_ X (.Dict [] [] pos) (fC (.dic [])):=pe_newK.imp fun σ H Q h=>by
 obtain ⟨F,ρ,r,s,q⟩:=h;exact fun a J=>q (.ref a) F _ (Step.grow s J) ⟨a,[],rfl,⟨0,ao⟩,s.free J,J,rfl⟩
theorem qU (d:X.A.units+64<D8) (S:DE K W c_ X o fd) (a:DE K W c_ X ek fk) (Y:DE K W c_ X ex fx) (c: ~~~(X.K=K))
  (b: ~~~(DH o "get" X.env (Cf o X.env)=Cf o X.env))
  (hw: ~~~(((CZ cpos (j_ [ek,ex] X.env)).all (fun x=> !x.1)&&(Gk cpos (ES [] X.env)).all (fun x=>x.1.isSome)&&Ca (([ek,ex]:List Dr).length+([]:List Gs).length+(if ([]:List Gs).isEmpty then 0 else 1)<30))=f_))
  (U: ~~~((apos.endLine==cpos.line)=f_)) (J: ~~~(CZ cpos (j_ [ek,ex] X.env)=[(c_,Cf ek X.env),(c_,Cf ex X.env)])):DE K W c_ X (.Call (.Attribute o "get" apos) [ek,ex] [] cpos) (n6 fd fk fx):=by
 subst c;exact (pe_get2 (by omega) S a Y ⟨b,hw,U,J⟩).imp fun _ _ _=>rd_getD
theorem ds_putD (d:X.A.units+64<D8) (Y:DE K W c_ X ek fk) (a:DE K W c_ X ev fv) (U:(i∈O)⁻¹) (b: ~~~(X.N[i]? =a_ x)) (hv:autoParam (Vis X.env.scope x) Jq3) (hd:((x==("__debug__":Cy))=c_)⁻¹) (J:((x==("__classdict__":Cy))=c_)⁻¹) (c: ~~~(X.K=K))
  (S: ~~~(Dx ev (a_ (.Subscript (.Name x p) ek pos')) pos.line X.env=DC c_)):DS K W ro X OL O O (.Assign [.Subscript (.Name x p) ek pos'] ev pos) (uK i fk fv):=fun F0 H0=>by
 subst c;exact PS.imp (ps_put (by omega) (pv i b hv hd J) Y a S) fun _ _ _=>rs_putD U
end
def tDisp1 (K:Fg) (ty tv:TE):TE:=fun σ H Q=>∀p,H p=d_->zI [(ty,tv)] σ (upd H p (nC p [] 0)) fun ps H2=>∃b k v,ps=[(.ref b,v)]/\H2 p=a_ (nC p [] 0)/\SqT K H2 b (k.map V.int)/\∀ep,Q (.ref p) (upd H2 p (nC p [(k,b,v)] ep))
section
variable {f:Dr} {ty:TE}
theorem pe_disp1 (j:X.A.units<D8) (m:PE X e ty) (hv:PE X f tv):PE X (.Dict [a_ e] [f] pos) (tDisp1 X.K ty tv):=by
 intro pins s σ H Q I q;have l:=I.hok.fresh (m_ s.heap.objs.size);have n:=I.laid (a:=s.heap.objs.size) (o:=nC s.heap.objs.size [] 0) (h':=s.heap.push {cls:=.type "dict",data:=.dict #[]}) (t':=s.toks) (fun _ _ q=>g_ _ q) (m_ _) (vA (tO s.heap I.big));refine wpAny_Dict_any rfl rfl (by simp) (by simp) (thn (pps_cons m hv pps_nil pins _ σ _ _ n (q _ l)) fun p w ⟨ps,H2,Y,J,b,k,v,ep,e2,t,q2⟩=>?_);subst ep;cases J with
 |@cons x y xs ys r rs=>
  cases rs;obtain ⟨c,u⟩:=y;obtain ⟨g,d⟩:=r;cases (show c=x_ b from g);obtain ⟨vs,h,hd,A,dd⟩:=Bx Y e2 (fun x i=>nomatch i);cases h;unfold storeAll;rw [MI];refine b_ (b_ (wpAny_dictSet_heap (hsz:=Dg _) (knd:=zK X.prog X.w) j (pM Y t) dd fun h' U S=>e_ ?_));show s_ _ _ (forIn [] PUnit.unit _) _ _ _;rw [JT];obtain ⟨ep',z⟩:=xh U (wt (xs:=[]) d .nil) hd (C9 (mM _ _ _ _) (show 1<=n_ by decide));exact e_ ⟨.ref s.heap.objs.size,_,Y.dic e2 S z,rfl,q2 ep'⟩
end
def mkD1 (J d:Dat):M Dat:=(lL J).bind fun k=>.ok (.dic [(k,d)])
theorem rd_disp1 {W:ck} {Q:VK} (h:tD K W f_ (f2 mkD1 fa fb) σ H Q):tDisp1 K (tD K W c_ fa) (tD K W c_ fb) σ H Q:=by
 obtain ⟨F,ρ,r,s,p⟩:=h;intro a Y;have f:Step F H F (upd H a (nC a [] 0)):=Step.grow s Y;refine aI r f.fh (fun e i=>(p.step f).err (by unfold f2;rw [i];rfl)) fun l m x F1 H1 S q1=>?_;have g:=f.trans S;refine aI (r.mono S.ff) S.fh (fun e i=>(p.step g).err (by unfold f2;rw [m];show (fb ρ).bind _=_;rw [i];rfl)) fun d hd v j H2 J q2=>?_;have e:f2 mkD1 fa fb ρ=(lL l).bind fun k=>.ok (.dic [(k,d)]):=by unfold f2;rw [m];show (fb ρ).bind _=_;rw [hd];rfl
 rw [e] at p;cases U:lL l with
 |error e=>
  rw [U] at p;have:=lZ U;subst this;exact aw.stuck p
 |ok k=>
  rw [U] at p;obtain ⟨b,rfl,t⟩:=qB U q1;have h2:H2 a=a_ (nC a [] 0):=J.hh _ _ (S.hh _ _ ao);have f2:j a=d_:=by
   cases e2:j a with
   |none=>rfl
   |some o=>
    rcases J.nw a o e2 with z|z
    ·rcases S.nw a o z with z|z
     ·rw [s.free Y] at z;cases z
     ·rw [ao] at z;cases z
    ·rw [S.hh _ _ ao] at z;cases z
  refine ⟨b,k,v,rfl,h2,J.fh.tup (J.ff.tup t),fun ep=>p (.ref a) j _ ⟨S.ff.trans J.ff,fun c o z=>?_,fun c o z=>?_,fun c o z=>?_⟩ ⟨a,_,rfl,⟨ep,ao⟩,f2,Y,b,v,[],rfl,J.ff.tup t,q2,rfl⟩⟩
  ·rw [aq (aF z Y)];exact J.hh _ _ (S.hh _ _ (by rw [aq (aF z Y)];exact z))
  ·rw [aq (aF z f2)];exact J.fh _ _ z
  ·exact (f.trans (S.trans J)).nw c o z
theorem de_disp1 {W:ck} {f:Dr} (Y:X.A.units+64<D8) (S:DE K W c_ X e fa) (J:DE K W c_ X f fb) (U: ~~~(X.K=K)):DE K W f_ X (.Dict [a_ e] [f] pos) (f2 mkD1 fa fb):=by
 subst U;exact (pe_disp1 (by omega) S J).imp fun _ _ _=>rd_disp1
def rG (h:CQ) (d:h_) (es:Array DX) (ep:Nat):Prop:=∃o,h.get? d=a_ o/\o.ExactDict/\o.data=.dict es ep
theorem rG.ty {d:h_} {es:Array DX} (z:rG s.heap d es ep):s.TypeIs (.ref d) "dict":=let ⟨o,h,c,_⟩:=z;⟨o,h,c.1⟩
theorem rG.at {d:h_} {es:Array DX} (z:rG h d es ep) (e:∀o,h.get? d=a_ o->h'.get? d=a_ o):rG h' d es ep:=let ⟨o,h,c⟩:=z;⟨o,e o h,c⟩
section
variable {d v q:h_} {es:Array DX} 
theorem yz (d:h_) (es:Array DX) (ep:Nat) (hd:(d==DO)=c_):MeetsIn prog w (Builtin.«dict.values» ⟨[.ref d],[]⟩) (fun _ R s=>rG s.heap d es ep/\R (.ok (.ret (.ref s.heap.objs.size))) {s with heap:=s.heap.push {cls:=.type "dict_values",data:=.fields #[.ref d]}}):=
 .of_wp fun A R s ⟨z,h⟩=>by
  have J:ED d=DC ():=by unfold ED;rw [hd];rfl
  refine b_ ?_;unfold Builtin.Dict.noArgs;refine b_ (L9 z.ty ?_);show s_ _ _ (DC d) _ _ s;refine e_ ?_;show s_ _ _ (ED d >>= _) _ _ s;rw [J];exact b_ (e_ (b_ (Ck (e_ ⟨_,rfl,h⟩))))
theorem yF {Q:Vp} (hv:s.heap.IsValuesView v d) (z:rG s.heap d es ep) (k:Q (.ref s.heap.objs.size) {s with heap:=s.heap.push {cls:=.type "dict_valueiterator",data:=.fields #[.ref d,.int 0 0,.int es.size 0,.int ep 0]}}):s_ (w_ prog w) A (JW (.ref v)) Q E s:=by
 obtain ⟨b,Y,a,U⟩:=id hv;obtain ⟨od,S,c,J⟩:=z;refine Hu hv.typeIs I_ (CD I_ hv.typeIs PySem.F.entry_dict_values_iter ?_ (PySem.F.args_dict_values_iter_1 _));unfold Builtin.«dict_values.__iter__»;refine b_ (e_ (b_ ?_));unfold Mf;refine b_ (EB Y U (x:=.ref d) rfl (e_ (b_ ?_)));unfold Me;refine b_ (FX S J (b_ (Gp S J ?_)));simp only [show Ec "dict_valueiterator"=c_ by decide,Dd,ER];exact Ck (e_ ⟨_,rfl,"dict_valueiterator",_,⟨_,k_ _ rfl,rfl⟩,DB.lookup,by simpa [Ds] using k⟩)
theorem yw {e:DX} (J:s.heap.IsValIter q d i es.size ep) (z:rG s.heap d es ep) (c:es[i]? =a_ e) (k:∀h',h'.IsValIter q d (i+1) es.size ep->Ea q s.heap h'->Q (a_ e.val) {s with heap:=h'}):s_ (w_ prog w) A (FF (.ref q)) Q E s:=by
 obtain ⟨f,q1,q2,S⟩:=id J;obtain ⟨od,b,g,a⟩:=z;unfold FF;refine b_ (Fh (CY (name:=El "__next__") J.typeIs DB (CD DB J.typeIs HI ?_ (HD _))));refine b_ (e_ (b_ (b_ (b_ (FA J.typeIs (e_ ?_))))));refine b_ (Fu q1 S ?_);simp only [show Ec "dict_valueiterator"=c_ by decide,Dd,ER];show s_ _ _ (if (x_ d==CG)=f_ then _ else _) _ _ s;rw [l_ (show ¬((x_ d==CG)=f_) from CI)];refine b_ (e_ (b_ (FX b a ?_)));rw [l_ (by simp)];refine b_ (e_ (b_ (Gp b a ?_)));rw [l_ (by simp)];refine e_ ?_;simp only [show ¬((i:Int)<0) from by omega,ER,DN,c];refine b_ (b_ (FA J.typeIs (e_ (b_ (Iz J.typeIs ?_)))));show s_ _ _ (KC (.ref q) 1 (Ds ((i:Int)+1)) >>= _) _ _ s;refine b_ (Dh q1 S (by simp) ?_);have Y:(s.heap.update q (DQ (·.setIfInBounds 1 (Ds ((i:Int)+1))))).IsValIter q d (i+1) es.size ep:=⟨_,CJ _ q1 (Eh (DZ S _)),(Hc ..).trans q2,by rw [DZ S];simp [Ds]⟩
 have U:Fw {s with heap:=s.heap.update q (DQ (·.setIfInBounds 1 (Ds ((i:Int)+1))))} (.ref q) "dict_valueiterator":=Y.typeIs;refine b_ (Dj (b_ (Iz U (b_ (Iz U ?_)))));show s_ _ _ (DC e.val) _ _ _;exact e_ (e_ ⟨_,rfl,e_ (k _ Y (CM ..))⟩)
theorem Bj (hh:A.handled=d_) (J:s.heap.IsValIter q d i es.size ep) (z:rG s.heap d es ep) (c:es.size<=i) (k:∀h',HV q s.heap h'->Q d_ {s with heap:=h'}):s_ (w_ prog w) A (FF (.ref q)) Q E s:=by
 obtain ⟨e,q1,q2,S⟩:=id J;obtain ⟨od,Y,f,U⟩:=z;unfold FF;refine b_ (Fh (CY (name:=El "__next__") J.typeIs DB (CD DB J.typeIs HI ?_ (HD _))));refine b_ (e_ (b_ (b_ (b_ (FA J.typeIs (e_ ?_))))));refine b_ (Fu q1 S ?_);simp only [show Ec "dict_valueiterator"=c_ by decide,Dd,ER];show s_ _ _ (if (x_ d==CG)=f_ then _ else _) _ _ s;rw [l_ (show ¬((x_ d==CG)=f_) from CI)];refine b_ (e_ (b_ (FX Y U ?_)));rw [l_ (by simp)];refine b_ (e_ (b_ (Gp Y U ?_)));rw [l_ (by simp)];refine e_ ?_;simp only [show ¬((i:Int)<0) from by omega,ER,DN,EE c];refine b_ (b_ (FA J.typeIs (e_ ?_)));show s_ _ _ (KC (.ref q) 0 .none >>= _) _ _ s;refine b_ (Dh q1 S (by simp) ?_);show s_ _ _ (KI (.type "StopIteration") [] >>= _) _ _ _;refine b_ ?_;simp only [KI,KG];refine b_ (Ck (b_ (m:=Hh _ _) (E7 (a:=CG) (by first|rfl|(simp only [firstArgMember];rfl)) (Ck ?_ (by size_fits)))) (by size_fits));simp only [KD];refine b_ (HB ?_);first|rw [show A.in1.handled=d_ from hh]|rw [hh]
 refine b_ (e_ (II ?_));refine b_ (ET (T:="StopIteration") (b:=f_) ⟨_,k_ _ rfl,rfl⟩ IM ?_);exact e_ (k _ (((CM ..).extBut.push _).push _))
end
noncomputable def VwO (T:String) (p d:h_):HO:=.ext fun h=>∃o,h.get? p=a_ o/\o.cls=.type T/\o.data=.fields #[.ref d]
theorem vw_obj {P:Cn} {p d:h_} (z:∃o,h.get? p=a_ o/\o.cls=.type T/\o.data=.fields #[.ref d]):bK P w H h p (VwO T p d):=⟨z,let ⟨o,e,_⟩:=z;⟨o,e⟩,fun _ _ ⟨o,e,r⟩ k=>⟨o,k o e,r⟩⟩
def tView (T:String) (td:TE):TE:=fun σ H Q=>td σ H fun x H1=>∃a xs ep,x=.ref a/\H1 a=a_ (nC a xs ep)/\∀p,H1 p=d_->Q (.ref p) (upd H1 p (VwO T p a))
def rSumV:List V->Hp->VK->Prop:=fun vs H Q=>∃(p a:h_) (xs:List jH) (ep:Nat) (is:List Int),vs=[.ref p]/\H p=a_ (VwO "dict_values" p a)/\H a=a_ (nC a xs ep)/\xs.map (·.2.2)=is.map V.int/\Q (.int is.sum) H
theorem zX:∀{xs:List jH} {vs:List (List Int×h_×i_)} {i:Nat} {e:DX},Gv iM xs vs->(vs.map rowE)[i]? =a_ e->∃x,xs[i]? =a_ x/\e.key=.ref x.2.1/\RelV x.2.2 e.val
 |_,_,_,_,.nil,h=>by simp at h
 |x::_,q::_,0,e,.cons r _,h=>by
  simp only [A_,Kp,Dy] at h;subst h;exact ⟨x,rfl,by rw [r.2.1];rfl,r.2.2⟩
 |_::_,_::_,i+1,e,.cons _ t,h=>by
  obtain ⟨x,h1,h2⟩:=zX (i:=i) (e:=e) t (by simpa using h);exact ⟨x,by simpa using h1,h2⟩
theorem pre_sum:∀is:List Int,preSum (fun i=>(is[i]?).getD 0) is.length=is.sum:=by
 have key:∀(is:List Int) (n:Nat),n<=is.length->preSum (fun i=>(is[i]?).getD 0) n=(is.take n).sum:=by
  intro is n
  induction n with
  |zero=>intro _;rfl
  |succ n J=>
   intro h;have S:n<is.length:=h;rw [preSum,J (Mg h),MQ,Jx];simp [Cr S]
 intro is;rw [key is _ (m_ _),Jn]
section
theorem xD (Y:A.handled=d_) (q d:h_) (J:d≠q) (es:Array DX) (ep:Nat):Lz prog w A q [q,d] [q] es.size (fun i v=>∃e,es[i]? =a_ e/\v=e.val) (fun i h=>h.IsValIter q d i es.size ep/\rG h d es ep) where
 sub:=fun b U=>by simp at U;simp [U]
 frame:=fun _ _ _ st k=>⟨let ⟨o,e,r⟩:=st.1;⟨o,k q (by simp) o e,r⟩,st.2.at fun o e=>k d (by simp) o e⟩
 item:=fun i s Q E hi st k=>yw st.1 st.2 (e:=es[i]) (by simp [hi]) fun h' z b=>k _ h' s.toks ⟨_,by simp [hi],rfl⟩ ⟨z,st.2.at fun o e=>(b.2 d J).trans e⟩ fun c o S e=>b.extBut c o (fun z=>S (by simp [z])) e
 done:=fun s Q E st k=>Bj Y st.1 st.2 (m_ _) fun h' b=>k h' s.toks fun c o S e=>b c o (fun z=>S (by simp [z])) e
 self:=fun _ _ _ _ st k=>wpAny_pyIter_valiter st.1 k
end
section
variable {xs:List jH} 
theorem raw_of (I:Inv X pins σ H s) (e:H a=a_ (nC a xs ep)):∃(vs:List (List Int×h_×i_)) (es:Array DX),Gv iM xs vs/\(a==DO)=c_/\xs.length<=n_/\rG s.heap a es ep/\es.toList=vs.map rowE/\es.size=xs.length:=by
 obtain ⟨vs,r,hd,S,Y,u,es,h1,h2,U,J⟩:=xg I e;exact ⟨vs,es,r,hd,S,⟨u,h1,h2,U⟩,J,by rw [<- Ct,J,v_,G7 r]⟩
theorem pe_vals (c:PE X o td) (e: ~~~(DH o "values" X.env (Cf o X.env)=Cf o X.env)) (d: ~~~((apos.endLine==cpos.line)=f_)):PE X (.Call (.Attribute o "values" apos) [] [] cpos) (tView "dict_values" td):=by
 intro pins s σ H Q I h;refine wpAny_Call_method0_late e d (thn (c pins s σ H _ I h) fun v J ⟨x,H1,S,b,a,xs,ep,ex,ea,q1⟩=>?_);subst ex;cases (show v=x_ a from b);obtain ⟨U,Y⟩:=dic_ty S ea;obtain ⟨vs,es,_,hd,_,z,_⟩:=raw_of S ea;exact ⟨"dict","dict.values",JQ,JL,PySem.F.type_dict_values,U,Y,Hq rfl (PySem.evalArgs_none (call_meetsIn JL U PySem.F.entry_dict_values (PySem.F.args_dict_values_1 _) (yz a es ep hd)
  ⟨z,.ref J.heap.objs.size,_,S.laid (a:=J.heap.objs.size) (o:=VwO "dict_values" J.heap.objs.size a) (t':=J.toks) (fun _ _ q=>g_ _ q) (m_ _) (vw_obj ⟨_,k_ _ rfl,rfl,rfl⟩),rfl,q1 _ (S.hok.fresh (m_ _))⟩))⟩
theorem BM (B:X.calm=f_):bS X (.builtin "sum") rSumV:=by
 intro pins s σ H vs us Q I r h;obtain ⟨p,a,xs,ep,is,rfl,n,C,hi,q⟩:=h;obtain ⟨u,rfl,k⟩:=r.one;cases (show u=x_ p from k);obtain ⟨vs,es,l,hd,E,z,y,hsz⟩:=raw_of I C;have hv:s.heap.IsValuesView p a:=(show (∃o,s.heap.get? p=a_ o/\o.cls=.type "dict_values"/\o.data=.fields #[.ref a])/\_ from I.hok p _ n).1;have d:a<s.heap.objs.size:=let ⟨o,e,_⟩:=z;o_ e;have w:is.length=es.size:=by rw [hsz,<- v_ (f:=fun x:jH=>x.2.2),hi,v_]
 refine Nm (yF hv z ⟨_,_,_,_,_,_,_,fun i=>(is[i]?).getD 0,rfl,(xD (A:=X.A.in1) (I.ok.hd B) s.heap.objs.size a (Cd d) es ep).toS,⟨⟨_,k_ _ rfl,rfl,rfl⟩,z.at fun o e=>g_ _ e⟩,fun b U=>?_,fun i v D=>?_,fun s' t' S=>?_⟩)
 ·show b<(s.heap.push _).objs.size;rw [CN];simp only [r_,CT,FT] at U;rcases U with rfl|rfl
  ·exact DD _
  ·exact Ey d
 ·obtain ⟨e,h1,rfl⟩:=D;obtain ⟨x,h2,_,g⟩:=zX (i:=i) (e:=e) l (by rw [<- y];simpa using h1);have J:(xs.map (·.2.2))[i]? =a_ x.2.2:=by rw [CC,h2];rfl
  rw [hi,CC] at J;cases c:is[i]? with
  |none=>rw [c] at J;cases J
  |some j=>
   rw [c] at J;have e4:V.int j=x.2.2:=by simpa using J
   rw [<- e4] at g;obtain ⟨t,e⟩:=(show ∃t,e.val=FU j t from g)
   exact ⟨t,by simp only [c];exact e⟩
 ·obtain ⟨h',g',d',Y,m⟩:=s';have e1:=S.gens;have e2:=S.drawn;have e3:=S.os;have e4:=S.heap;simp only at e1 e2 e3;subst e1 e2 e3;refine ⟨.int _,H,I.kept (t':=Y) fun b o e=>e4 b o (fun U=>?_) (g_ _ e),⟨t',rfl⟩,?_⟩
  ·have:b=s.heap.objs.size:=by simpa using U
   exact Cj (o_ e) (by rw [this];exact C_ _)
  ·rw [<- w,pre_sum];exact q
end
def xN:Dat->M Dat
 |.dic ks=>(aV (ks.map (·.2))).bind fun is=>.ok (.int is.sum)
 |_=>stk
theorem cK.vals {K:Fg} {F:Hp}:∀{ks:List (List Int×Dat)} {xs:List jH},cK K F ks xs->au K F (ks.map (·.2)) (xs.map (·.2.2))
 |[],_,h=>by rw [show _=[] from h];rfl
 |(k,d)::ks,_,⟨b,v,r,e,t,q,z⟩=>by subst e;exact ⟨v,_,rfl,q,cK.vals z⟩
section
variable {W:ck} {fd:ah->M Dat}
theorem rd_sumV {Q:VK} (h:tD K W c_ (f1 xN fd) σ H Q):tCB rSumV (ky (tView "dict_values" (tD K W c_ fd)) zJ) σ H Q:=by
 obtain ⟨F,ρ,r,s,p⟩:=h;refine aI r s (fun e Y=>p.err (by unfold f1;rw [Y];rfl)) fun d hd x F1 H1 J q1=>?_;have z:f1 xN fd ρ=xN d:=by unfold f1;rw [hd];rfl
 rw [z] at p;cases d with
 |dic ks=>
  obtain ⟨a,xs,e,⟨ep,S⟩,U⟩:=q1;have p:aw K W c_ F H ((aV (ks.map (·.2))).bind fun is=>.ok (.int is.sum)) Q:=p;cases hi:aV (ks.map (·.2)) with
  |error e=>
   rw [hi] at p;have:=du hi;subst this;exact aw.stuck p
  |ok is=>
   rw [hi] at p;exact ⟨a,xs,ep,e,J.fh _ _ S,fun v hv=>⟨v,a,xs,ep,is,rfl,ao,by rw [aq (aF (J.fh _ _ S) hv)];exact J.fh _ _ S,cD U.vals hi,p (.int is.sum) F1 _ (J.trans (Step.grow J.fh hv)) rfl⟩⟩
 |_=>exact aw.stuck p
end
section
variable {W:ck} {fd:ah->M Dat} 
theorem de_sumV (c:X.calm=f_) (Y:X.mg "sum"=d_) (a:DE K W c_ X o fd) (d: ~~~(DH o "values" X.env (Cf o X.env)=Cf o X.env)) (U: ~~~((apos.endLine==cpos.line)=f_)) (b: ~~~(Gl X "sum"))
  (J: ~~~(j_ [.Call (.Attribute o "values" apos) [] [] cpos] X.env=(c_,Cf (.Call (.Attribute o "values" apos) [] [] cpos) X.env)::j_ [] X.env)) (S: ~~~((CZ pos (j_ [] X.env)).any (·.1)=c_)) :
  DE K W c_ X (.Call (.Name "sum" p) [.Call (.Attribute o "values" apos) [] [] cpos] [] pos) (f1 xN fd):=
 (di (BM c) b Y boot_sum (aM (pe_vals a d U) cy J) (by decide) (by decide) J S).imp fun _ _ _=>rd_sumV
end
section
variable {fd fx:ah->M Dat}
@[simp] theorem e_getD:n6 fd fk fx ρ=(fd ρ).bind fun d=>if jz d=f_ then (fk ρ).bind fun k=>(fx ρ).bind fun x=>yL d k x else stk:=id rfl
@[simp] theorem e_getDD (ks:List (List Int×Dat)) (J x:Dat):yL (.dic ks) J x=(lL J).bind fun k=>.ok ((nV ks k).getD x):=id rfl
@[simp] theorem e_putD (i:Nat):uK i fk fv ρ=(fv ρ).bind fun d=>(jD ρ i).bind fun ks=>(fk ρ).bind fun J=>(lL J).bind fun k=>if (eh d&&Ca (ks.length<n_))=f_ then .ok (.nx (ρ.set i (a_ (.dic (i9 ks k d))))) else .error .stuck:=id rfl
@[simp] theorem e_sumVD (ks:List (List Int×Dat)):xN (.dic ks)=(aV (ks.map (·.2))).bind fun is=>.ok (.int is.sum):=id rfl
@[simp] theorem e_mkD1 (J d:Dat):mkD1 J d=(lL J).bind fun k=>.ok (.dic [(k,d)]):=id rfl
end
section
open PySem
end
section
open PySem
end
section
open PySem
end
section
variable {d q:h_} {es:Array DX} 
theorem yG {Q:Vp} (hd:(d==DO)=c_) (z:rG s.heap d es ep) (k:Q (.ref s.heap.objs.size) {s with heap:=s.heap.push {cls:=.type "dict_keyiterator",data:=.fields #[.ref d,.int 0 0,.int es.size 0,.int ep 0]}}):s_ (w_ prog w) A (JW (.ref d)) Q E s:=by
 have ty:=z.ty;have U:ED d=DC ():=by unfold ED;rw [hd];rfl
 obtain ⟨od,S,Y,J⟩:=z;refine Hu ty J7 (CD J7 ty PySem.F.entry_dict_iter ?_ (PySem.F.args_dict_iter_1 _));unfold Builtin.«dict.__iter__»;refine b_ ?_;unfold Builtin.Dict.dictSlotNone;refine b_ (L9 ty ?_);show s_ _ _ (DC (x_ d)) _ _ s;refine e_ ?_;show s_ _ _ (ED d >>= _) _ _ s;rw [U];refine b_ (e_ (b_ (FX S J (b_ (Gp S J ?_)))));exact b_ (Ck (e_ ⟨_,rfl,"dict_keyiterator",_,⟨_,k_ _ rfl,rfl⟩,DR.lookup,by simpa [Ds] using k⟩))
theorem yx {e:DX} (J:s.heap.IsKeyIter q d i es.size ep) (z:rG s.heap d es ep) (c:es[i]? =a_ e) (k:∀h',h'.IsKeyIter q d (i+1) es.size ep->Ea q s.heap h'->Q (a_ e.key) {s with heap:=h'}):s_ (w_ prog w) A (FF (.ref q)) Q E s:=by
 obtain ⟨f,q1,q2,S⟩:=id J;obtain ⟨od,a,g,Y⟩:=z;unfold FF;refine b_ (Fh (CY (name:=El "__next__") J.typeIs DR (CD DR J.typeIs HW ?_ (HN _))));refine b_ (e_ (b_ (b_ (b_ (FC J.typeIs (e_ ?_))))));refine b_ (Fu q1 S ?_);simp only [show Ec "dict_keyiterator"=c_ by decide,Dd,ER];show s_ _ _ (if (x_ d==CG)=f_ then _ else _) _ _ s;rw [l_ (show ¬((x_ d==CG)=f_) from CI)];refine b_ (e_ (b_ (FX a Y ?_)));rw [l_ (by simp)];refine b_ (e_ (b_ (Gp a Y ?_)));rw [l_ (by simp)];refine e_ ?_;simp only [show ¬((i:Int)<0) from by omega,ER,DN,c];refine b_ (b_ (FC J.typeIs (e_ (b_ (L_ J.typeIs ?_)))));show s_ _ _ (KC (.ref q) 1 (Ds ((i:Int)+1)) >>= _) _ _ s;refine b_ (Dh q1 S (by simp) ?_);have U:(s.heap.update q (DQ (·.setIfInBounds 1 (Ds ((i:Int)+1))))).IsKeyIter q d (i+1) es.size ep:=⟨_,CJ _ q1 (Eh (DZ S _)),(Hc ..).trans q2,by rw [DZ S];simp [Ds]⟩
 have b:Fw {s with heap:=s.heap.update q (DQ (·.setIfInBounds 1 (Ds ((i:Int)+1))))} (.ref q) "dict_keyiterator":=U.typeIs;refine b_ (Dj (b_ (L_ b ?_)));show s_ _ _ (DC e.key) _ _ _;exact e_ (e_ ⟨_,rfl,e_ (k _ U (CM ..))⟩)
theorem Bk (hh:A.handled=d_) (J:s.heap.IsKeyIter q d i es.size ep) (z:rG s.heap d es ep) (c:es.size<=i) (k:∀h',HV q s.heap h'->Q d_ {s with heap:=h'}):s_ (w_ prog w) A (FF (.ref q)) Q E s:=by
 obtain ⟨e,q1,q2,S⟩:=id J;obtain ⟨od,Y,f,U⟩:=z;unfold FF;refine b_ (Fh (CY (name:=El "__next__") J.typeIs DR (CD DR J.typeIs HW ?_ (HN _))));refine b_ (e_ (b_ (b_ (b_ (FC J.typeIs (e_ ?_))))));refine b_ (Fu q1 S ?_);simp only [show Ec "dict_keyiterator"=c_ by decide,Dd,ER];show s_ _ _ (if (x_ d==CG)=f_ then _ else _) _ _ s;rw [l_ (show ¬((x_ d==CG)=f_) from CI)];refine b_ (e_ (b_ (FX Y U ?_)));rw [l_ (by simp)];refine b_ (e_ (b_ (Gp Y U ?_)));rw [l_ (by simp)];refine e_ ?_;simp only [show ¬((i:Int)<0) from by omega,ER,DN,EE c];refine b_ (b_ (FC J.typeIs (e_ ?_)));show s_ _ _ (KC (.ref q) 0 .none >>= _) _ _ s;refine b_ (Dh q1 S (by simp) ?_);show s_ _ _ (KI (.type "StopIteration") [] >>= _) _ _ _;refine b_ ?_;simp only [KI,KG];refine b_ (Ck (b_ (m:=Hh _ _) (E7 (a:=CG) (by first|rfl|(simp only [firstArgMember];rfl)) (Ck ?_ (by size_fits)))) (by size_fits));simp only [KD];refine b_ (HB ?_);first|rw [show A.in1.handled=d_ from hh]|rw [hh]
 refine b_ (e_ (II ?_));refine b_ (ET (T:="StopIteration") (b:=f_) ⟨_,k_ _ rfl,rfl⟩ IM ?_);exact e_ (k _ (((CM ..).extBut.push _).push _))
end
structure KitD (K:Fg):Prop where
 i:CW K (.type "dict") (.type "int")=a_ c_
 b:CW K (.type "dict") (.type "bool")=a_ c_
def wN:Dat->M Dat
 |.dil _=>stk
 |.int _=>.ok (.bl f_)
 |.bl _=>.ok (.bl f_)
 |.ins _ _=>stk
 |_=>.ok (.bl c_)
def sY:Dat->M Dat
 |.dil _=>stk
 |.bl _=>.ok (.bl f_)
 |.ins _ _=>stk
 |_=>.ok (.bl c_)
section
variable {W:ck} {own:Bool} {a:Dr} 
theorem B1 {ks:List (List Int×Dat)} {x:V} {Q:Vp} (I:Inv X pins σ H s) (J:aN F H) (q:aW X.K F (.dic ks) x) (r:RelV x u)
  (hd:CW X.K (.type "dict") (.type T)=a_ c_) (h:∀tk,Q (.bool c_) {s with toks:=tk}):s_ (w_ X.prog X.w) X.A (Gg (.builtin "isinstance") [u,.type T]) Q X.xe s:=by
 obtain ⟨l,xs,e,⟨ep,t⟩,_⟩:=q;subst e;cases r;obtain ⟨_,_,_,_,_,o,_,h1,h2,_⟩:=xg I (J _ _ t);exact E1 IC I.kIn ⟨o,h1,h2.1⟩ hd (fun z=>nomatch z) fun tk=>h tk
theorem zb (U:Kit K) (b:KitD K) (Y: ~~~(X.K=K)):bS X (.builtin "isinstance") (fun xs H Q=>∃v,xs=[v,.ty "int"]/\rD1 K W own wN v H Q):=by
 intro pins s σ H xs us Q I r h;obtain ⟨v,rfl,F,d,J,q,p⟩:=h;cases d with
 |dic ks=>
  subst Y;obtain ⟨u,w,rfl,a,S⟩:=r.two;cases (show w=DL "int" from S);exact B1 I J q a b.i fun tk=>⟨.bl c_,H,I.tok tk,rfl,aw.bl (own:=own) p J⟩
 |_=>exact ua (W:=W) (own:=own) U Y pins s σ H _ _ Q I r ⟨v,rfl,F,_,J,q,p⟩
theorem vT (U:Kit K) (b:KitD K) (Y: ~~~(X.K=K)):bS X (.builtin "isinstance") (fun xs H Q=>∃v,xs=[v,.ty "bool"]/\rD1 K W own sY v H Q):=by
 intro pins s σ H xs us Q I r h;obtain ⟨v,rfl,F,d,J,q,p⟩:=h;cases d with
 |dic ks=>
  subst Y;obtain ⟨u,w,rfl,a,S⟩:=r.two;cases (show w=DL "bool" from S);exact B1 I J q a b.b fun tk=>⟨.bl c_,H,I.tok tk,rfl,aw.bl (own:=own) p J⟩
 |_=>exact pz (W:=W) (own:=own) U Y pins s σ H _ _ Q I r ⟨v,rfl,F,_,J,q,p⟩
theorem de_isi_intE (S:Kit K) (d:KitD K) (e:X.mg "isinstance"=d_) (b:X.mg "int"=d_) (g:DE K W c_ X a fa) (h: ~~~(X.K=K))
  (f: ~~~(Gl X "isinstance")) (c: ~~~(Gl X "int"))
  (U: ~~~(j_ [a,.Name "int" p2] X.env=[(c_,Cf a X.env),(c_,Cf (.Name "int" p2) X.env)])) (J: ~~~(j_ [.Name "int" p2] X.env=[(c_,Cf (.Name "int" p2) X.env)])) (Y: ~~~((CZ pos (j_ [.Name "int" p2] X.env)).any (·.1)=c_)) :
  DE K W own X (.Call (.Name "isinstance" p) [a,.Name "int" p2] [] pos) (f1 wN fa):=nj (zb S d h) e b (by decide +kernel) g f c (by decide) (by decide) U J Y
theorem de_isi_boolE (S:Kit K) (d:KitD K) (e:X.mg "isinstance"=d_) (b:X.mg "bool"=d_) (g:DE K W c_ X a fa) (h: ~~~(X.K=K))
  (f: ~~~(Gl X "isinstance")) (c: ~~~(Gl X "bool"))
  (U: ~~~(j_ [a,.Name "bool" p2] X.env=[(c_,Cf a X.env),(c_,Cf (.Name "bool" p2) X.env)])) (J: ~~~(j_ [.Name "bool" p2] X.env=[(c_,Cf (.Name "bool" p2) X.env)])) (Y: ~~~((CZ pos (j_ [.Name "bool" p2] X.env)).any (·.1)=c_)) :
  DE K W own X (.Call (.Name "isinstance" p) [a,.Name "bool" p2] [] pos) (f1 sY fa):=nj (vT S d h) e b (by decide +kernel) g f c (by decide) (by decide) U J Y
end
section
open PySem
structure IK (prog:Cn) (w:Dv) (κ:Type) [Mm κ] where
 is:CQ->κ->i_->Prop
 hash:κ->Int
 draws:κ->Nat
 up:Nat
 fuel:Nat
 inj:∀{h:CQ} {v:i_} {x y:κ},is h x v->is h y v->x=y
 keeps:∀{h h':CQ} {k:κ} {v:i_},is h k v->(∀(a:h_) (o:GX) (us:Array i_) (n:Nat),h.get? a=a_ o->o.data=.seq us n->h'.get? a=a_ o)->is h' k v
 pyHash:∀{A:D0} {E:Vp} {s:t_} {k:κ} {v:i_} {Q:Int->t_->Prop},A.units+up<D8->is s.heap k v->Q (hash k) {s with toks:=s.toks+draws k}->s_ (w_ prog w) A (IL v) Q E s
 eqBool:∀{A:D0} {E:Vp} {s:t_} {x y:κ} {u v:i_} {Q:Bool->t_->Prop},A.units+up<D8->is s.heap x u->is s.heap y v->Q (Ca (x=y)) s->s_ (w_ prog w) A (GO u v) Q E s
 quiet:∀{A:D0} {E:Vp} {s:t_} {k:κ} {v:i_} {Q:Bool->t_->Prop} (n:Nat),fuel<=n->is s.heap k v->Q f_ s->s_ (w_ prog w) A (Lw n v) Q E s
def TupAt (h:CQ) (a:h_) (us:List i_):Prop:=∃o n,h.get? a=a_ o/\o.cls=.type "tuple"/\o.data=.seq us.toArray n
theorem TupAt.ty (h:TupAt s.heap a us):s.TypeIs (.ref a) "tuple":=let ⟨o,_,J,S,_⟩:=h;⟨o,J,S⟩
theorem TupAt.inj {h:CQ} {a:h_} {us vs:List i_} (x:TupAt h a us) (y:TupAt h a vs):us=vs:=by
 obtain ⟨o,n,U,_,hd⟩:=x;obtain ⟨o',Y,S,_,J⟩:=y;have e:=Cu (U.symm.trans S);subst e;rw [hd] at J;injection J with h1 _
 simpa using h1
theorem TupAt.keep (x:TupAt h a us) (k:∀(a:h_) (o:GX) (us:Array i_) (n:Nat),h.get? a=a_ o->o.data=.seq us n->h'.get? a=a_ o):TupAt h' a us:=
 let ⟨o,n,J,S,hd⟩:=x;⟨o,n,k _ _ _ _ J hd,S,hd⟩
inductive Hs (prog:Cn) (w:Dv) (A:D0) (h:CQ):List i_->List Int->Nat->Prop
 |nil:Hs prog w A h [] [] 0
 |cons {v:i_} {vs:List i_} {i:Int} {is:List Int} {d n:Nat} (hv:∀(E:Vp) (s:t_) (Q:Int->t_->Prop),s.heap=h->Q i {s with toks:=s.toks+d}->s_ (w_ prog w) A (IL v) Q E s) (r:Hs prog w A h vs is n):Hs prog w A h (v::vs) (i::is) (d+n)
theorem wR {is:List Int} {Q:Int->t_->Prop} (l:A.units<D8) (f:TupAt s.heap a us) (hi:Hs prog w A.in1 s.heap us is n) (h:Q (Hg (CH is)) {s with toks:=s.toks+(n+1)}) :
  s_ (w_ prog w) A (IL (.ref a)) Q E s:=by
 have U:=f.ty;obtain ⟨o,m,p,_,hd⟩:=f;unfold IL
 first|unfold pyHashByItsType|skip
 first|refine b_ (wpAny_cRoomFor_or (.inr l) ?_)|skip
 refine b_ (Gm U Hk.lookup ?_);show s_ _ _ (ite ((a_ (Ga "tuple.__hash__")==a_ CG)=f_) _ _) Q E s;rw [l_ (by rw [beq_builtin_none];exact CI)];refine b_ (Gm U Hk.lookup ?_);show s_ _ _ (callSpecialIfBoundUnlessNone? (.ref a) "__hash__" _ >>= _) Q E s;refine b_ (wpAny_callSpecialIfBoundUnlessNone?_slot U Hk (CD Hk U F.entry_tuple_hash ?_ (F.args_tuple_hash_1 _)));show s_ _ _ (IE (.ref a) >>= _) _ _ s;refine b_ (Jq p hd ?_);refine b_ ?_;rw [<- Ln];refine JU _ (fun rest (b:Array Int) s'=>∃J m k,Hs prog w A.in1 s.heap rest J m/\b.toList++J=is/\k+m=n/\s'={s with toks:=s.toks+k}) _ ?_ ?_ _ _ ⟨is,n,0,hi,rfl,by omega,rfl⟩
 ·rintro x rest b s' ⟨J,m,k,c,S,q,rfl⟩;cases c with
  |@cons _ _ i Y d j hv r=>
   refine b_ (hv _ _ _ rfl (e_ ⟨Y,j,k+d,r,by rw [<- S];simp,by omega,?_⟩));simp [Kn]
 ·rintro b s' ⟨J,m,k,c,S,q,rfl⟩;cases c;rw [Ed] at S;have e:k=n:=by omega
  subst e;show s_ _ _ (retInt (CH b.toList)) _ _ _;rw [S];refine wpAny_ret_mkInt ?_;refine (?_:s_ _ _ (ite ((Ca (-(2:Int)^63<=CH is)&&Ca (CH is<2^63))=f_) _ _) Q E _)
  unfold Hg at h;by_cases g:(Ca (-(2:Int)^63<=CH is)&&Ca (CH is<2^63))=f_
  ·rw [p_ g] at h ⊢;exact e_ (by simpa [Kn] using h)
  ·rw [l_ g] at h ⊢;exact b_ (GN (e_ (by simpa [Kn] using h)))
inductive Es (prog:Cn) (w:Dv) (A:D0) (h:CQ):List i_->List i_->Bool->Prop
 |nil {us vs:List i_} (e:us=[]\/vs=[]):Es prog w A h us vs f_
 |cons {u v:i_} {us vs:List i_} {b c:Bool} (hv:∀(E:Vp) (s:t_) (Q:Bool->t_->Prop),s.heap=h->Q b s->s_ (w_ prog w) A (GO u v) Q E s) (r:Es prog w A h us vs c):Es prog w A h (u::us) (v::vs) (b&&c)
theorem vw {c:Bool} {P:M5->t_->Prop} (t:TupAt s.heap a us) (q:TupAt s.heap b vs) (z:Es prog w A s.heap us vs c) (h:P (.done (.ret (.bool (c&&us.length==vs.length)))) s) :
  s_ (w_ prog w) A (Builtin.«tuple.__eq__» ⟨[.ref a,.ref b],[]⟩) P E s:=by
 have o:=q.ty;obtain ⟨I,L,l,_,n⟩:=t;obtain ⟨H,K,k,_,m⟩:=q;show s_ _ _ (Js (.ref b) (.type "tuple") >>= _) _ _ s;refine b_ (ET o Ma ?_);simp only [Gd,Dd,ER];refine b_ (Jq l n (b_ (Jq k m (b_ ?_))));refine JU _ (fun rest r s'=>r.1=d_/\s'=s/\∃S J f,rest=List.zip S J/\Es prog w A s.heap S J f/\f=c) _ ?_ ?_ _ _ ⟨rfl,rfl,us,vs,c,by simp,z,rfl⟩
 ·rintro ⟨u,v⟩ rest r s' ⟨j,rfl,S,J,f,Y,U,d⟩;cases U with
  |nil e=>
   rcases e with e|e
   ·subst e;simp at Y
   ·subst e;simp at Y
  |@cons F D i g C B hv p=>
   simp only [List.zip_cons_cons,He,HY] at Y;obtain ⟨⟨rfl,rfl⟩,rfl⟩:=Y;refine b_ (hv _ _ _ rfl ?_);cases C with
   |true=>
    simp only [Gd,Dd,ER];exact e_ ⟨rfl,rfl,i,g,B,rfl,p,by rw [<- d,IG]⟩
   |false=>
    simp only [MS,Jp];have y:c=c_:=by rw [<- d];rfl
    rw [y,Ib] at h;exact b_ (e_ (e_ (e_ h)))
 ·rintro ⟨p,G⟩ s' ⟨j,rfl,S,J,f,Y,U,d⟩;simp only at j;subst j;have x:c=f_:=by
   cases U with
   |nil e=>exact d.symm
   |cons _ _=>simp at Y
  rw [x,IG] at h;refine e_ ?_;show P (.done (.ret (.bool (us.toArray.size==vs.toArray.size)))) s';exact h
theorem eq_tup {c:Bool} {Q:Bool->t_->Prop} (Y:A.units<D8) (S:TupAt s.heap a us) (U:TupAt s.heap b vs) (f:Es prog w A.in1 s.heap us vs c) (d:a=b->(c&&us.length==vs.length)=f_) (h:Q (c&&us.length==vs.length) s) :
  s_ (w_ prog w) A (GO (.ref a) (.ref b)) Q E s:=by
 unfold GO
 try with_reducible refine Dj ?_
 show s_ _ _ (ite ((x_ a==x_ b)=f_) _ _) Q E s;by_cases J:(x_ a==x_ b)=f_
 ·rw [p_ J];have e:a=b:=by have:=EG J;injection this
  rw [d e] at h;exact b_ (GN (e_ h))
 ·rw [l_ J];exact b_ (wpAny_richCompare_same_room (op:=.Eq) S.ty U.ty J6 (CD J6 S.ty F.entry_tuple_eq (vw S U f ⟨_,rfl,(fun e=>nomatch e),EF h⟩) (F.args_tuple_eq_2 _ _)) Y)
theorem sD {Q:Bool->t_->Prop} (n:Nat) (Y:TupAt s.heap a us) (c:∀v∈us,∀(E:Vp) (Q:Bool->t_->Prop),Q f_ s->s_ (w_ prog w) A (Lw n v) Q E s) (h:Q f_ s):s_ (w_ prog w) A (Lw (n+1) (.ref a)) Q E s:=by
 have b:=Y.ty;obtain ⟨o,m,d,_,hd⟩:=Y;unfold Lw;refine b_ (Gm b J6.lookup ?_);show s_ _ _ (Js (.ref a) (.type "tuple") >>= _) _ _ s;refine b_ (ET b Ma ?_);simp only [Gd,Dd,ER];refine b_ (Ft d hd (b_ ?_));show s_ _ _ (forIn us.toArray _ _) _ _ s;rw [<- Ln];refine JU _ (fun rest r s'=>r.1=d_/\s'=s/\∀v∈rest,v∈us) _ ?_ ?_ _ _ ⟨rfl,rfl,fun v hv=>by simpa using hv⟩
 ·rintro v rest r s' ⟨U,rfl,J⟩;refine b_ (c v (J v Cz) _ _ ?_);simp only [Gd,Dd,ER];exact e_ ⟨rfl,rfl,fun u S=>J u (Cw _ S)⟩
 ·rintro ⟨f,e⟩ s' ⟨U,rfl,_⟩;simp only at U;subst U;exact e_ h
end
section
open PySem
variable {μ:Type} [Mm κ] [Mm μ]
inductive ur {α β:Type} (R:α->β->Prop):List α->List β->Prop
 |nil:ur R [] []
 |cons {x:α} {y:β} {xs:List α} {ys:List β} (h:R x y) (t:ur R xs ys):ur R (x::xs) (y::ys)
theorem ur.imp {R S:α->β->Prop} (f:∀x y,R x y->S x y) {xs:List α} {ys:List β} (h:ur R xs ys):ur S xs ys:=by
 induction h with
 |nil=>exact .nil
 |cons h _ J=>exact .cons (f _ _ h) J
theorem ur.mem {R:α->β->Prop} {xs:List α} {ys:List β} (h:ur R xs ys):∀y∈ys,∃x,R x y:=by
 induction h with
 |nil=>intro y J;simp at J
 |cons h _ S=>
  intro y J;rcases r_.mp J with e|e
  ·subst e;exact ⟨_,h⟩
  ·exact S y e
noncomputable def intI (prog:Cn) (w:Dv):IK prog w Int where
 is:=fun _ k v=>∃t,v=.int k t
 hash:=Nk
 draws:=fun _=>1
 up:=0
 fuel:=0
 inj:=fun ⟨t,e⟩ ⟨u,f⟩=>by rw [e] at f;cases f;rfl
 keeps:=fun h _=>h
 pyHash:=fun _ ⟨t,e⟩ h=>by subst e;exact (Ep prog w).pyHash (KL _ _ _ _) h
 eqBool:=fun _ ⟨t,e⟩ ⟨u,f⟩ h=>by subst e f;exact (Ep prog w).eqBool (KL _ _ _ _) (KL _ _ _ _) h
 quiet:=fun n _ ⟨t,e⟩ h=>by subst e;rw [eqIsQuiet_byValue n rfl];exact e_ h
theorem hs_all (I:IK prog w κ) {A:D0} {h:CQ} (J:A.units+I.up<D8):∀{ks:List κ} {us:List i_},ur (I.is h) ks us->Hs prog w A h us (ks.map I.hash) ((ks.map I.draws).sum)
 |_,_,.nil=>.nil
 |_,_,.cons q t=>.cons (fun E s Q e S=>I.pyHash J (by rw [e];exact q) S) (hs_all I J t)
theorem es_all (I:IK prog w κ) {A:D0} {h:CQ} (S:A.units+I.up<D8):∀{ks J:List κ} {us vs:List i_},ur (I.is h) ks us->ur (I.is h) J vs->∃c,Es prog w A h us vs c/\(c&&us.length==vs.length)=Ca (ks=J)
 |_,_,_,_,.nil,.nil=>⟨f_,.nil (.inl rfl),by simp⟩
 |_,_,_,_,.nil,.cons q t=>⟨f_,.nil (.inl rfl),by simp⟩
 |_,_,_,_,.cons q t,.nil=>⟨f_,.nil (.inr rfl),by simp⟩
 |k::ks,l::J,_,_,.cons q t,.cons Y t'=>by
  obtain ⟨c,e,b⟩:=es_all I S t t';refine ⟨Ca (k=l)&&c,.cons (fun E s Q e a=>I.eqBool S (by rw [e];exact q) (by rw [e];exact Y) a) e,?_⟩
  by_cases U:k=l
  ·subst U;simp only [decide_true,IG,Ci];rw [show (∀m n:Nat,(m+1==n+1)=(m==n)) from fun m n=>by simp,b];simp
  ·simp [U]
theorem vW (I:IK prog w κ) {h:CQ}:∀{ks J:List κ} {us:List i_},ur (I.is h) ks us->ur (I.is h) J us->ks=J
 |_,_,_,.nil,.nil=>rfl
 |_,_,_,.cons q t,.cons S t'=>by rw [I.inj q S,vW I t t']
noncomputable def tupI (I:IK prog w κ):IK prog w (List κ) where
 is:=fun h ks v=>∃a us,v=.ref a/\TupAt h a us/\ur (I.is h) ks us
 hash:=fun ks=>Hg (CH (ks.map I.hash))
 draws:=fun ks=>(ks.map I.draws).sum+1
 up:=I.up+1
 fuel:=I.fuel+1
 inj:=fun ⟨a,us,e,t,q⟩ ⟨b,vs,f,t',J⟩=>by
  rw [e] at f;cases f;have:=t.inj t';subst this;exact vW I q J
 keeps:=fun ⟨a,us,e,t,q⟩ k=>⟨a,us,e,t.keep k,q.imp fun _ _ z=>I.keeps z k⟩
 pyHash:=fun {A E s k v Q} Y ⟨a,us,e,t,q⟩ h=>by
  subst e;exact wR (by omega) t (hs_all I (A:=A.in1) (by show A.units+1+I.up<D8;omega) q) h
 eqBool:=fun {A E s x y u v Q} Y ⟨a,us,e,t,q⟩ ⟨b,vs,f,t',J⟩ h=>by
  subst e f;obtain ⟨c,es,U⟩:=es_all I (A:=A.in1) (by show A.units+1+I.up<D8;omega) q J;rw [<- U] at h;refine eq_tup (by omega) t t' es (fun e=>?_) h;subst e;have:=t.inj t';subst this;rw [U,vW I q J];simp
 quiet:=fun {A E s k v Q} n i ⟨a,us,e,t,q⟩ h=>by
  subst e;obtain ⟨m,rfl⟩:∃m,n=m+1:=⟨n-1,by omega⟩
  refine sD m t (fun v hv E Q d=>?_) h;obtain ⟨g,S⟩:=q.mem v hv;exact I.quiet m (by omega) S d
noncomputable def pairI (I:IK prog w κ) (J:IK prog w μ):IK prog w (κ×μ) where
 is:=fun h k v=>∃a Y U,v=.ref a/\TupAt h a [Y,U]/\I.is h k.1 Y/\J.is h k.2 U
 hash:=fun k=>Hg (CH [I.hash k.1,J.hash k.2])
 draws:=fun k=>I.draws k.1+(J.draws k.2+0)+1
 up:=max I.up J.up+1
 fuel:=max I.fuel J.fuel+1
 inj:=fun {h v x y} ⟨a,Y,U,e,t,q1,q2⟩ ⟨b,d,c,f,t',p1,p2⟩=>by
  rw [e] at f;cases f;have:=t.inj t';simp only [He,and_true] at this;obtain ⟨rfl,rfl⟩:=this;exact JR (I.inj q1 p1) (J.inj q2 p2)
 keeps:=fun ⟨a,Y,U,e,t,q1,q2⟩ k=>⟨a,Y,U,e,t.keep k,I.keeps q1 k,J.keeps q2 k⟩
 pyHash:=fun {A E s k v Q} i ⟨a,Y,U,e,t,q1,q2⟩ h=>by
  subst e;exact wR (by omega) t (.cons (fun E s' Q e S=>I.pyHash (A:=A.in1) (by show A.units+1+I.up<D8;omega) (by rw [e];exact q1) S) (.cons (fun E s' Q e S=>J.pyHash (A:=A.in1) (by show A.units+1+J.up<D8;omega) (by rw [e];exact q2) S) .nil)) h
 eqBool:=fun {A E s x y u v Q} i ⟨a,Y,U,e,t,q1,q2⟩ ⟨b,d,c,f,t',p1,p2⟩ h=>by
  subst e f;have g:((Ca (x.1=y.1)&&(Ca (x.2=y.2)&&f_))&&[Y,U].length==[d,c].length)=Ca (x=y):=by
   obtain ⟨p,o⟩:=x;obtain ⟨l,j⟩:=y;simp [HY]
  rw [<- g] at h;refine eq_tup (by omega) t t' (.cons (fun E s' Q e S=>I.eqBool (A:=A.in1) (by show A.units+1+I.up<D8;omega) (by rw [e];exact q1) (by rw [e];exact p1) S) (.cons (fun E s' Q e S=>J.eqBool (A:=A.in1) (by show A.units+1+J.up<D8;omega) (by rw [e];exact q2) (by rw [e];exact p2) S) (.nil (.inl rfl)))) (fun e=>?_) h;subst e;have:=t.inj t';simp only [He,and_true] at this;obtain ⟨rfl,rfl⟩:=this;rw [g,JR (I.inj q1 p1) (J.inj q2 p2)];simp
 quiet:=fun {A E s k v Q} n q ⟨a,Y,U,e,t,q1,q2⟩ h=>by
  subst e;obtain ⟨m,rfl⟩:∃m,n=m+1:=⟨n-1,by omega⟩
  refine sD m t (fun v hv E Q S=>?_) h;simp only [r_,CT,FT] at hv;rcases hv with e|e
  ·subst e;exact I.quiet m (by omega) q1 S
  ·subst e;exact J.quiet m (by omega) q2 S
noncomputable def heapI (I:IK prog w κ) (j:I.fuel<=8):HeapKind prog w κ where
 is:=fun h k a=>I.is h k (.ref a)
 hash:=I.hash
 draws:=I.draws
 room:=fun A=>A.units+I.up<D8
 inj:=fun S J=>I.inj S J
 keeps:=fun {h h' k a d o es ep} x i hd g=>I.keeps x fun b l us n c f=>by
  rw [g.2 b fun e=>?_]
  ·exact c
  ·subst e;rw [i] at c;cases c;rw [hd] at f;cases f
 pyHash:=fun U Y h=>I.pyHash U Y h
 eqBool:=fun U S J h=>I.eqBool U S J h
 quiet:=fun Y h=>I.quiet 8 j Y h
noncomputable def labI (prog:Cn) (w:Dv):IK prog w LK:=pairI (intI prog w) (tupI (tupI (intI prog w)))
end
noncomputable abbrev lKind (P:Cn) (w:Dv):HeapKind P w LK:=heapI (labI P w) (by show max 0 (0+1+1)+1<=8;decide)
theorem lT.map (s:∀b xs,SqT K F b xs->SqT K F' b xs) {k:LK} (h:lT K F b k):lT K F' b k:=
 let ⟨r,bs,Y,U,l,S⟩:=h;⟨r,bs,s _ _ Y,s _ _ U,l,fun j J c e1 e2=>s _ _ (S j J c e1 e2)⟩
noncomputable def putL (ks:List LK) (k:LK):List LK:=if k∈ks then ks else ks++[k]
noncomputable def qf (xs:List (LK×h_)) (k:LK) (b:h_):List (LK×h_):=if k∈xs.map (·.1) then xs else xs++[(k,b)]
theorem yh (xs:List (LK×h_)) (k:LK) (b:h_):(qf xs k b).map (·.1)=putL (xs.map (·.1)) k:=by
 unfold qf putL;split<;>simp
theorem Ac {xs:List (LK×h_)} {k:LK} {x:LK×h_} (h:x∈qf xs k b):x∈xs\/x=(k,b):=by
 unfold qf at h;split at h
 ·exact .inl h
 ·simpa using h
theorem Ad (xs:List (LK×h_)) (k:LK) (b:h_):(qf xs k b).length<=xs.length+1:=by unfold qf;split<;>simp
noncomputable def enL (x:LK×h_):LK×h_×i_:=(x.1,x.2,.bool f_)
theorem xa (xs:List (LK×h_)):(xs.map enL).map (·.1)=xs.map (·.1):=by rw [Cg];rfl
theorem atL (xs:List (LK×h_)) (k:LK):(Mt (xs.map enL) k).isSome=Ca (k∈xs.map (·.1)):=by
 unfold Mt;rw [Lj,MJ,List.find?_isSome,CK];simp only [CA,CK];constructor
 ·rintro ⟨x,⟨y,J,rfl⟩,e⟩;exact ⟨y,J,e⟩
 ·rintro ⟨y,J,e⟩;exact ⟨enL y,⟨y,J,rfl⟩,e⟩
theorem storedL (xs:List (LK×h_)) (k:LK) (b:h_):Nf (xs.map enL) k b (.bool f_)=(qf xs k b).map enL:=by
 unfold Nf qf;rw [atL];by_cases h:k∈xs.map (·.1)
 ·rw [Ff h,p_ rfl,p_ h];rw [Cg];refine E_ fun x _=>?_;show putAt k (.bool f_) (enL x)=enL x;unfold putAt;split<;>rfl
 ·rw [DU h,l_ (by simp),l_ h];simp [enL]
section
variable {xs:List (LK×h_)} {k:LK}
theorem zH (I:Inv X pins σ H s) {vs:List V} (h:SqT X.K H b vs):∃us,Vals vs us/\TupAt s.heap b us:=by
 obtain ⟨its,r,⟨o,h1,h2,n,J⟩,_⟩:=I.tuple h;exact ⟨its,r,o,n,h1,h2,J⟩
theorem wQ:∀{J:List Int} {us:List i_} {h:CQ},Vals (J.map V.int) us->ur ((intI X.prog X.w).is h) J us
 |[],_,_,.nil=>.nil
 |i::J,_,_,.cons r t=>.cons r (wQ t)
theorem row_at (I:Inv X pins σ H s) {J:List Int} (h:SqT X.K H b (J.map V.int)):(tupI (intI X.prog X.w)).is s.heap J (.ref b):=by
 obtain ⟨us,r,t⟩:=zH I h;exact ⟨b,us,rfl,t,wQ r⟩
theorem wx (I:Inv X pins σ H s):∀{rows:List (List Int)} {bs:List h_} {us:List i_},Vals (bs.map V.ref) us->bs.length=rows.length->(∀(j:Nat) (J:List Int) (c:h_),rows[j]? =a_ J->bs[j]? =a_ c->SqT X.K H c (J.map V.int))->ur ((tupI (intI X.prog X.w)).is s.heap) rows us
 |[],[],_,.nil,_,_=>.nil
 |[],_::_,_,_,l,_=>by simp at l
 |_::_,[],_,_,l,_=>by simp at l
 |J::rows,c::bs,_,.cons r t,l,h=>by
  cases (show _=x_ c from r);exact .cons (row_at I (h 0 J c rfl rfl)) (wx I t (by simpa using l) fun j J c e1 e2=>h (j+1) J c e1 e2)
theorem AN (I:Inv X pins σ H s) (h:lT X.K H b k):(lKind X.prog X.w).is s.heap k b:=by
 obtain ⟨r,bs,e,d,l,c⟩:=h;obtain ⟨us,f,a⟩:=zH I e;obtain ⟨vs,S,J⟩:=zH I d;obtain ⟨Y,U,rfl,i,g⟩:=f.two;cases (show U=x_ r from g);exact ⟨b,Y,.ref r,rfl,a,i,r,vs,rfl,J,wx I S l c⟩
def LabsAt (K:Fg) (H:Hp) (xs:List (LK×h_)):Prop:=∀x∈xs,lT K H x.2 x.1
theorem Bu {P:Cn} {xs:List (LK×h_)} (z:w4 h a xs ep):bK P w H h a (C7 a xs ep):=by
 have S:=z;obtain ⟨h1,h2,i,o,es,U,g⟩:=z;exact ⟨S,⟨o,U⟩,fun _ _ ⟨f,d,c,o',J,b,Y⟩ e=>⟨f,d,c,o',J,e _ b,Y⟩⟩
theorem dil_ok (I:Inv X pins σ H s) (e:H a=a_ (C7 a xs ep)):w4 s.heap a xs ep:=(show w4 s.heap a xs ep/\_ from I.hok a _ e).1
theorem dil_at (I:Inv X pins σ H s) (e:H a=a_ (C7 a xs ep)) (z:LabsAt X.K H xs):(a==DO)=c_/\xs.length<=n_/\s.heap.DictOfH (lKind X.prog X.w) a (xs.map enL):=by
 obtain ⟨hd,Y,U,o,es,h1,h2,c,b⟩:=dil_ok I e;refine ⟨hd,Y,o,es,ep,h1,h2,c,?_,fun q S=>?_,by rw [xa];exact U⟩
 ·rw [b,Cg];rfl
 ·obtain ⟨x,J,rfl⟩:=CA.mp S;exact AN I (z x J)
theorem dilOk_of {P:Cn} (dd:h.DictOfH (lKind P w) a (xs.map enL)) (hd:(a==DO)=c_) (S:xs.length<=n_):∃ep,w4 h a xs ep:=by
 obtain ⟨o,es,ep,h1,h2,Y,U,_,J⟩:=dd;rw [xa] at J;refine ⟨ep,hd,S,J,o,es,h1,h2,Y,?_⟩
 rw [U,Cg];rfl
theorem Inv.dil {ys:List (LK×h_)} {t':Nat} (I:Inv X pins σ H s) (e:H a=a_ (C7 a xs ep)) (J:Ea a s.heap h') (z:w4 h' a ys ep'):Inv X pins σ (upd H a (C7 a ys ep')) {s with heap:=h',toks:=t'}:=
 I.write (x:=a) (e:=a) (by rw [e];exact Ex) (.inl rfl) (fun c q S w=>(J.2 c S).trans w) (let ⟨_,_,_,o,_,w,_⟩:=z;⟨o,w⟩) (Bu z)
theorem lroom (J:A.units+64<D8):(lKind X.prog X.w).room A.in1:=by show A.units+1+3<D8;omega
end
def tNewL:TE:=fun _ H Q=>∀p,H p=d_->Q (.ref p) (upd H p (C7 p [] 0))
def sPutT (K:Fg) (td ty tv:TE):TS:=fun D σ H=>tv σ H fun v H1=>td σ H1 fun x H2=>ty σ H2 fun y J=>∃a b k xs ep,v=.bl f_/\x=.ref a/\y=.ref b/\J a=a_ (C7 a xs ep)/\LabsAt K J xs/\lT K J b k/\xs.length<n_/\∀ep',D.nx σ (upd J a (C7 a (qf xs k b) ep'))
section
variable {i:Dr} {ty:TE}
theorem Bv (h:CQ) (J:DO<h.objs.size):w4 (h.push {cls:=.type "dict",data:=.dict #[]}) h.objs.size [] 0:=
 ⟨E5.mpr (CV (Cd J)),Dg _,MR,_,#[],k_ _ rfl,⟨rfl,rfl,rfl⟩,rfl,rfl⟩
theorem pe_newL:PE X (.Dict [] [] pos) tNewL:=fun pins s σ H Q I h=>
 NI ⟨.ref s.heap.objs.size,_,I.laid (a:=s.heap.objs.size) (o:=C7 s.heap.objs.size [] 0) (t':=s.toks) (fun _ _ q=>g_ _ q) (m_ _) (Bu (Bv s.heap I.big)),rfl,h _ (I.hok.fresh (m_ _))⟩
theorem ps_putT (m:X.A.units+64<D8) (p:PE X o td) (hi:PE X i ty) (hv:PE X value tv) (n:Dx value (a_ (.Subscript o i pos')) pos.line X.env=DC c_):PS X (.Assign [.Subscript o i pos'] value pos) (sPutT X.K td ty tv):=by
 intro pins s σ H D I h;refine LP (thn (hv pins s σ H _ I h) fun r c ⟨v,H1,B,f,q1⟩=>thn (p pins c σ H1 _ B q1) fun u Y ⟨x,H2,A,e,q2⟩=>thn (hi pins Y σ H2 _ A q2) fun j C ⟨y,F,U,d,a,b,k,xs,ep,ev,ex,w,ea,q,t,E,g⟩=>?_) n;subst ev ex w;cases (show u=x_ a from e);cases (show j=x_ b from d);cases (show r=ID f_ from f);obtain ⟨hd,l,dd⟩:=dil_at U ea q;refine MU (hsz:=by rw [v_];exact l) (lroom m) (AN U t) dd fun h' J S=>?_;rw [storedL] at J;obtain ⟨ep',z⟩:=dilOk_of J hd (by have:=Ad xs k b;omega);exact ⟨σ,_,U.dil ea S z,g ep'⟩
end
def AW:Dat->M LK
 |.tup [.int c,.tup rs]=>(fK rs).bind fun rows=>.ok (c,rows)
 |_=>stk
noncomputable def dD (k:LK):Dat:=.tup [.int k.1,.tup (k.2.map aQ)]
theorem labK_eq {k:LK} (h:AW d=.ok k):d=dD k:=by
 unfold AW at h;split at h
 ·rename_i c rs;cases e:fK rs with
  |error x=>rw [e] at h;cases h
  |ok rows=>
   rw [e] at h;cases h;rw [mf e];rfl
 ·cases h
theorem labK_err {e:Err} (h:AW d=.error e):e=.stuck:=by
 unfold AW at h;split at h
 ·rename_i c rs;cases e1:fK rs with
  |error x=>rw [e1] at h;cases h;exact mh e1
  |ok rows=>rw [e1] at h;cases h
 ·cases h;rfl
theorem rP {K:Fg} {F:Hp}:∀{rows:List (List Int)} {ys:List V},au K F (rows.map aQ) ys->∃bs:List h_,ys=bs.map V.ref/\bs.length=rows.length/\∀(j:Nat) (J:List Int) (c:h_),rows[j]? =a_ J->bs[j]? =a_ c->SqT K F c (J.map V.int)
 |[],_,h=>⟨[],h,rfl,fun j J c e=>by simp at e⟩
 |J::rows,_,⟨v,vs,e,⟨b,xs,ev,t,z⟩,r⟩=>by
  obtain ⟨bs,e1,l,h⟩:=rP r;have U:=cD z (bT _);subst U;refine ⟨b::bs,by rw [e,ev,e1];rfl,by simp [l],fun j S c q1 q2=>?_⟩
  cases j with
  |zero=>cases q1;cases q2;exact t
  |succ j=>exact h j S c q1 q2
theorem labK_at {v:V} {k:LK} (h:AW d=.ok k) (q:aW K F d v):∃b,v=.ref b/\lT K F b k:=by
 have:=labK_eq h;subst this;obtain ⟨b,xs,e,t,Y,U,e1,q1,g,J,e2,⟨r,ys,f,a,S⟩,e3⟩:=q;cases (show Y=V.int k.1 from q1);subst f;cases (show J=[] from e3);subst e2 e1;obtain ⟨bs,eb,l,c⟩:=rP S;subst eb;exact ⟨b,e,r,bs,t,a,l,c⟩
noncomputable def tN (ρ:ah) (i:Nat):M (List LK):=match ρ[i]? with
 |some (a_ (.dil ks))=>.ok ks
 |_=>.error .stuck
theorem xf {ks:List LK} (h:tN ρ i=.ok ks):ρ[i]? =a_ (a_ (.dil ks)):=by
 unfold tN at h;split at h
 ·cases h;assumption
 ·cases h
theorem Bw {e:Err} (h:tN ρ i=.error e):e=.stuck:=by
 unfold tN at h;split at h
 ·cases h
 ·cases h;rfl
noncomputable def isTr:Dat->Bool
 |.bl f_=>f_
 |_=>c_
def mv (i:Nat) (fk fv:ah->M Dat):ah->M Flo:=fun ρ=>(fv ρ).bind fun d=>(tN ρ i).bind fun ks=>(fk ρ).bind fun J=>(AW J).bind fun k=>if (isTr d&&Ca (ks.length<n_))=f_ then .ok (.nx (ρ.set i (a_ (.dil (putL ks k))))) else .error .stuck
section
variable {W:ck} 
theorem rs_putT (hi:i∈O) (t:tS K W ro F0 H0 OL O O (mv i fk fv) D σ H):sPutT K (tVar i) (tD K W c_ fk) (tD K W c_ fv) D σ H:=by
 obtain ⟨FB,F,ρ,r,p⟩:=t;refine aI r.gC r.dg (fun e l=>p.fg (r.freeze (O2:=[]) (by simp)).st (by unfold mv;rw [l];rfl)) fun d hd v F1 H1 o q=>?_;have B:mv i fk fv ρ=(tN ρ i).bind fun ks=>(fk ρ).bind fun U=>(AW U).bind fun k=>if (isTr d&&Ca (ks.length<n_))=f_ then .ok (.nx (ρ.set i (a_ (.dil (putL ks k))))) else .error .stuck:=by unfold mv;rw [hd];rfl
 rw [B] at p;cases c:tN ρ i with
 |error e=>
  have:=Bw c;subst this;exact p.stuck (by rw [c];rfl)
 |ok ks=>
  rw [c] at p;have p1:bY K W ro F0 H0 FB OL O D ((fk ρ).bind fun U=>(AW U).bind fun k=>if (isTr d&&Ca (ks.length<n_))=f_ then .ok (.nx (ρ.set i (a_ (.dil (putL ks k))))) else .error .stuck):=p;have S:=r.eF o;obtain ⟨E,e2,a,xs,ev,⟨ep,u⟩,_,_,z⟩:=S.ow i _ (xf c) hi;subst ev;refine ⟨.ref a,e2,?_⟩
  refine aI S.gC S.dg (fun e l=>p1.fg (S.freeze (O2:=[]) (by simp)).st (by rw [l];rfl)) fun U s w G H2 g q2=>?_;rw [s] at p1;have p2:bY K W ro F0 H0 FB OL O D ((AW U).bind fun k=>if (isTr d&&Ca (ks.length<n_))=f_ then .ok (.nx (ρ.set i (a_ (.dil (putL ks k))))) else .error .stuck):=p1;cases J:AW U with
  |error e=>
   have:=labK_err J;subst this;exact p2.stuck (by rw [J];rfl)
  |ok k=>
   rw [J] at p2;have p3:bY K W ro F0 H0 FB OL O D (if (isTr d&&Ca (ks.length<n_))=f_ then .ok (.nx (ρ.set i (a_ (.dil (putL ks k))))) else .error .stuck):=p2;by_cases f:(isTr d&&Ca (ks.length<n_))=f_
   ·rw [p_ f] at p3;simp only [u_,CK] at f;have C:d=.bl f_:=by
     have h1:=f.1;unfold isTr at h1;split at h1
     ·rfl
     ·cases h1
    subst C;cases (show v=V.bl f_ from q);obtain ⟨b,rfl,t⟩:=labK_at J q2;have h:=S.eF g;have m:=z.mono (S.dH g);have n:=t.map (S.jb g);have Y:xs.length=ks.length:=by rw [<- z.1,v_]
    refine ⟨a,b,k,xs,ep,rfl,rfl,rfl,g.hh _ _ u,fun x j=>(m.2 x j).mono h.st.fh,n.mono h.st.fh,by rw [Y];exact f.2,fun ep'=>p3 σ _ _ (h.w6 hi (xf c) rfl e2 fun A y=>⟨a,_,rfl,⟨ep',ao⟩,A,y,?_,fun x j=>?_⟩)⟩
    ·rw [yh,z.1]
    ·rcases Ac j with e|e
     ·exact m.2 x e
     ·subst e;exact n
   ·rw [l_ f] at p3;exact p3.stuck rfl
end
section
variable {W:ck} 
theorem de_newL:DE K W f_ X (.Dict [] [] pos) (fC (.dil [])):=pe_newL.imp fun σ H Q h=>by
 obtain ⟨F,ρ,r,s,q⟩:=h;exact fun a J=>q (.ref a) F _ (Step.grow s J) ⟨a,[],rfl,⟨0,ao⟩,s.free J,J,rfl,fun x S=>Cj S CT⟩
theorem ds_putT (S:X.A.units+64<D8) (a:DE K W c_ X ek fk) (b:DE K W c_ X ev fv) (Y:(i∈O)⁻¹) (c: ~~~(X.N[i]? =a_ x)) (hv:autoParam (Vis X.env.scope x) Jq3) (hd:((x==("__debug__":Cy))=c_)⁻¹) (J:((x==("__classdict__":Cy))=c_)⁻¹) (d: ~~~(X.K=K))
  (U: ~~~(Dx ev (a_ (.Subscript (.Name x p) ek pos')) pos.line X.env=DC c_)):DS K W ro X OL O O (.Assign [.Subscript (.Name x p) ek pos'] ev pos) (mv i fk fv):=fun F0 H0=>by
 subst d;exact PS.imp (ps_putT S (pv i c hv hd J) a b U) fun _ _ _=>rs_putT Y
end
section
open PySem
inductive Ls (prog:Cn) (w:Dv) (A:D0) (h:CQ):List i_->List i_->Bool->Prop
 |nil {us vs:List i_} (e:us=[]\/vs=[]):Ls prog w A h us vs (Ca (us.length<vs.length))
 |eq {u v:i_} {us vs:List i_} {c:Bool} (hv:∀(E:Vp) (s:t_) (Q:Bool->t_->Prop),s.heap=h->Q f_ s->s_ (w_ prog w) A (GO u v) Q E s) (r:Ls prog w A h us vs c):Ls prog w A h (u::us) (v::vs) c
 |ne {u v:i_} {us vs:List i_} {c:Bool} (hv:∀(E:Vp) (s:t_) (Q:Bool->t_->Prop),s.heap=h->Q c_ s->s_ (w_ prog w) A (GO u v) Q E s) (hl:∀(E:Vp) (s:t_) (Q:Vp),s.heap=h->Q (.bool c) s->s_ (w_ prog w) A (richCompare .Lt u v) Q E s):Ls prog w A h (u::us) (v::vs) c
end
section
open PySem.W
end
section
open PySem PySem.W
theorem walksR (g:A.handled=d_) (I d:h_) (a:d≠I) (es:Array DX) (ep:Nat) :
  Lz prog w A I [I,d] [I] es.size (fun i v=>∃e,es[i]? =a_ e/\v=e.key) (fun i h=>h.IsKeyIter I d i es.size ep/\rG h d es ep) where
 sub:=fun b J=>by simp at J;simp [J]
 frame:=fun _ _ _ st f=>⟨st.1.at fun o e=>f I (by simp) o e,st.2.at fun o e=>f d (by simp) o e⟩
 item:=fun i s Q E hi st Y=>by
  refine yx st.1 st.2 (e:=es[i]) (by simp [hi]) fun h' U S=>?_;exact Y _ h' s.toks ⟨es[i],by simp [hi],rfl⟩ ⟨U,st.2.at fun o e=>S.extBut d o a e⟩ fun b o J e=>S.extBut b o (fun h=>J (by simp [h])) e
 done:=fun s Q E st Y=>Bk g st.1 st.2 (m_ _) fun h' c=>Y h' s.toks fun b o J e=>c b o (fun h=>J (by simp [h])) e
 self:=fun _ _ _ _ st Y=>wpAny_pyIter_keyiter st.1 Y
theorem srcR {d:h_} {es:Array DX} (lo:(d==DO)=c_):KdlSrc prog w "dict" d d es.size (fun i v=>∃e,es[i]? =a_ e/\v=e.key) (fun h=>rG h d es ep) where
 type:=fun _ z=>z.ty
 there:=fun _ ⟨o,h,_⟩=>⟨o_ h,o_ h⟩
 keep:=fun _ _ z S=>z.at fun o e=>S d (.inl rfl) o e
 notList:=by decide
 notTuple:=by decide
 hint:=fun _ _ _ _ z J=>kdl_hint_dict z.ty J
 iter:=fun A s U z=>⟨_,_,(fun _ _ J=>yG lo z J),walksR U _ d (let ⟨o,h,_⟩:=z;Cd (o_ h)) es ep,⟨⟨_,k_ _ rfl,rfl,rfl⟩,z.at fun o e=>g_ _ e⟩⟩
theorem yI {es:Array DX} (h:Ku (fun i v=>∃e,es[i]? =a_ e/\v=e.key) acc es.size):acc.toList=es.toList.map (·.key):=by
 apply Jb;intro i;by_cases hi:i<es.size
 ·have h2:i<acc.size:=by rw [h.1];exact hi
  obtain ⟨e,S,J⟩:=h.2 i acc[i] (by simp [h2]);rw [CC,CU,CU,S,Fo,<- J];simp [h2]
 ·rw [Eg (by rw [Ct,h.1];omega),Eg (by rw [v_,Ct];omega)]
theorem collectR {d:h_} {es:Array DX} {Q:List i_->t_->Prop} (p:A.handled=d_) (lo:(d==DO)=c_) (z:rG s.heap d es ep) (n:es.size<=n_)
  (h:∀(h':CQ) (tk:Nat),(∀b o,s.heap.get? b=a_ o->h'.get? b=a_ o)->s.heap.objs.size<=h'.objs.size->Q (es.toList.map (·.key)) {s with heap:=h',toks:=tk}):s_ (w_ prog w) A (Ks (.ref d)) Q E s:=by
 have i:d<s.heap.objs.size:=by obtain ⟨o,m,_⟩:=z;exact o_ m
 unfold Ks;refine b_ (IJ (DF (Ik) ?_));rw [De (Ij) _];show s_ (w_ prog w) A.in1 (LR [] >>= fun l=>again (.builtin "list.__iadd__" ⟨[l,.ref d],[]⟩)) _ _ s;refine b_ (Ck ?_);refine e_ ⟨Fi FP _,DF (Jw) ?_⟩;rw [De (FP) _];have t:(s.heap.push {cls:=.type "list",data:=.seq ([]:List i_).toArray}).get? s.heap.objs.size=a_ {cls:=.type "list",data:=.seq #[]}:=k_ _ rfl;refine Di (kdl_extend (A:=A) (s:={s with heap:=s.heap.push {cls:=.type "list",data:=.seq ([]:List i_).toArray}})
  (R:=fun (q:Jv) (s':t_)=>∃(h':CQ) (tk:Nat) (acc:Array i_) (c:Nat),q=.ok (.ret (.ref s.heap.objs.size))/\s'={s with heap:=h',toks:=tk}/\(∀b o,s.heap.get? b=a_ o->h'.get? b=a_ o)/\h'.get? s.heap.objs.size=a_ {cls:=.type "list",dict:=d_,data:=.seq acc c,slots:=#[]}/\acc.toList=es.toList.map (·.key))
  (srcR (ep:=ep) lo) p (z.at fun o e=>g_ _ e) s.heap.objs.size (Eb i) (Eb i) (.ref s.heap.objs.size) 0 t
  (fun h' tk acc c Y J U=>⟨h',tk,acc,c,rfl,rfl,fun b o e=>Y b o (Cd (o_ e)) (g_ _ e),J,yI U⟩) n) (fun g s' x=>?_) fun e s' x=>?_
 ·have j:∀(s':t_),(∃(h':CQ) (tk:Nat) (acc:Array i_) (c:Nat),s'={s with heap:=h',toks:=tk}/\(∀b o,s.heap.get? b=a_ o->h'.get? b=a_ o)/\h'.get? s.heap.objs.size=a_ {cls:=.type "list",dict:=d_,data:=.seq acc c,slots:=#[]}/\acc.toList=es.toList.map (·.key))->∃(o:GX) (acc:Array i_) (c:Nat),s'.heap.get? s.heap.objs.size=a_ o/\o.data=.seq acc c/\Q acc.toList s':=fun s' ⟨h',tk,acc,c,e,Y,J,ea⟩=>by
   subst e;exact ⟨_,acc,c,J,rfl,by rw [ea];exact h h' tk Y (EL (o_ J))⟩
  cases g with
  |done f=>
   obtain ⟨h',tk,acc,c,e,r⟩:=x;cases e;obtain ⟨⟨D,C,B,v⟩,acc,c,J,hd,a⟩:=j s' ⟨h',tk,acc,c,r⟩;cases hd;show s_ _ A (load s.heap.objs.size >>= _) _ _ _;exact b_ (Ig J (e_ a))
  |again k=>
   refine ⟨x.1,Er x.2 fun q S y=>?_⟩
   obtain ⟨h',tk,acc,c,rfl,r⟩:=y;obtain ⟨⟨D,C,B,v⟩,acc,c,J,hd,a⟩:=j S ⟨h',tk,acc,c,r⟩;cases hd;show s_ _ A (load s.heap.objs.size >>= _) _ _ _;exact b_ (Ig J (e_ a))
 ·obtain ⟨_,_,_,_,u,_⟩:=x;cases u
end
section
theorem lab_deep {k:LK} (h:lT K F b k):aW K F (dD k) (.ref b):=by
 obtain ⟨r,bs,a,Y,l,U⟩:=h;refine ⟨b,_,rfl,a,V.int k.1,_,rfl,rfl,.ref r,[],rfl,⟨r,_,rfl,Y,?_⟩,rfl⟩
 refine au.of_get (by rw [v_,v_,l]) fun i d v e1 e2=>?_;rw [CC] at e1 e2;cases f1:k.2[i]? with
 |none=>rw [f1] at e1;cases e1
 |some J=>
  cases S:bs[i]? with
  |none=>rw [S] at e2;cases e2
  |some c=>
   rw [f1] at e1;rw [S] at e2;simp only [Fo,Dy] at e1 e2;subst e1 e2;exact ⟨c,_,rfl,U i J c f1 S,kW J⟩
theorem oj:∀ts:List (List Int),fK (ts.map aQ)=.ok ts
 |[]=>rfl
 |t::ts=>by
  show (aV (t.map .int)).bind _=_;rw [bT,ar];show (fK (ts.map aQ)).bind _=_;rw [oj ts];rfl
theorem labD_key (k:LK):AW (dD k)=.ok k:=by
 show (fK (k.2.map aQ)).bind _=_;rw [oj];rfl
end
section
open PySem PySem.W
end
theorem upd_low2 {d:h_} {x y z l:HO} (U:L≠a):upd (upd (upd (upd H a x) L l) d y) a z=upd (upd (upd H L l) d y) a z:=by
 funext b
 by_cases J:b=a
 ·subst J;rw [ao,ao]
 ·rw [aq J,aq J];by_cases hd:b=d
  ·subst hd;rw [ao,ao]
  ·rw [aq hd,aq hd];by_cases S:b=L
   ·subst S;rw [ao,ao]
   ·rw [aq S,aq S,aq J]
def spXL (K:Fg) (C:h_) (f1:Cy):Sp:=fun vs H Q _=>∃a l xs,vs=[.ref a,.ref l]/\H a=a_ (XO a C d_)/\SqL K H l xs/\∀L d,H L=d_->upd H L (.lst xs) d=d_->Q .non (upd (upd (upd H L (.lst xs)) d (XD d [(f1,.ref L)])) a (XO a C (a_ d)))
section
variable {f:h_} {f1:Cy} 
theorem new_xL (FB:Im B newId initId bmB) (D:kf X.K C bmB newId f=f_) (y:JZ X.K (.ref f)=a_ (.type "function")) (F:iN X.prog X.w X.K X.mg X.base CX0 k f fd ps (spXL X.K C f1)) (t:gz (k+1) X.A) (A:Binds X.K fd ps [])
  (I:Inv X pins σ H s) (r:Vals [V.ref l] us) (U:SqL X.K H l xs):s_ (w_ X.prog X.w) X.A (Gg (.ref C) us) (fun v s'=>∃a d L,v=.ref a/\s.heap.objs.size<=a/\H L=d_/\L≠a/\H a=d_/\upd H L (.lst xs) d=d_/\d≠a/\Inv X pins σ (upd (upd (upd H L (.lst xs)) d (XD d [(f1,.ref L)])) a (XO a C (a_ d))) s') X.xe s:=by
 obtain ⟨tl,N,nm,R,bs,hdct,sn,sub,ab,col,dd,k0,k1,k2,k3,k5,mN,j,i,h,g⟩:=qK I.kIn D;obtain ⟨oI,p,o⟩:=fn_at I.kIn y;obtain ⟨S,O,P,tk,os⟩:=s;have T:=Du;have x:us.length<=n_:=by rw [<- r.length];show 1<=n_;omega
 refine x_call FB g j i h p o x ?_;have m:(pI S C us).get? (S.objs.size+1)=a_ (zA C S.objs.size):=rL;have J:Inv X pins σ (upd H (S.objs.size+1) (XO (S.objs.size+1) C d_)) {(⟨S,O,P,tk,os⟩:t_) with heap:=pI S C us,toks:=tk}:=
  I.laid (fun b u q=>md q) (Ee _) (xo_ok (vs:=#[.ref S.objs.size,.none,.none,.none,.bool c_,.none]) rfl m)
 have fa:H (S.objs.size+1)=d_:=I.hok.fresh (Ee _);have w:Vals [V.ref (S.objs.size+1),V.ref l] (x_ (S.objs.size+1)::us++[]):=by rw [Ed];exact .cons rfl r
 have q:spXL X.K C f1 [V.ref (S.objs.size+1),V.ref l] (upd H (S.objs.size+1) (XO (S.objs.size+1) C d_)) (fun v H2=>v=.non/\∃d L,H L=d_/\L≠S.objs.size+1/\upd H L (.lst xs) d=d_/\d≠S.objs.size+1/\H2=upd (upd (upd H L (.lst xs)) d (XD d [(f1,.ref L)])) (S.objs.size+1) (XO (S.objs.size+1) C (a_ d))) (fun _ _ _=>False):=by
  refine ⟨_,l,xs,rfl,ao,(aN.upd fa).lst U,fun L d Y hd=>?_⟩
  have e1:L≠S.objs.size+1:=fun z=>by rw [z,ao] at Y;cases Y
  rw [aq e1] at Y;have e2:d≠S.objs.size+1:=fun z=>by rw [z,aq (CV e1),ao] at hd;cases hd
  refine ⟨rfl,d,L,Y,e1,?_,e2,upd_low2 e1⟩
  by_cases e3:d=L
  ·subst e3;rw [ao] at hd;cases hd
  ·rw [aq e3,aq e2] at hd;rw [aq e3];exact hd
 have n:(x_ (S.objs.size+1)::us++[]).length=ps.length:=w.length.symm.trans (F.len _ _ _ _ q);refine Ih (Er (F.run _ X.stack _ _ ⟨.ref (S.objs.size+1)::us,[]⟩ _ _ _ (fun _ _ _=>False) (t.make C us []) (J.env0.make C us []) (A _ (.ref (S.objs.size+1)::us) J.kIn n) w q) fun z s' U=>?_);cases z with
 |error e=>exact (show False from U).elim
 |ok fl=>
  cases fl with
  |ret u=>
   obtain ⟨v,H',Q,c,ev,d,L,h1,h2,K,G,E⟩:=J.after U;subst ev E;exact ⟨c,_,d,L,rfl,Ee _,h1,h2,fa,K,G,Q⟩
  |_=>exact DV U
end
def tRaiseL (K:Fg) (t:TA) (C:h_) (f1:Cy) (E:XK):TS:=fun _ σ H=>t σ H fun vs H1=>∃l xs,vs=[.ref l]/\SqL K H1 l xs/\∀L d,H1 L=d_->upd H1 L (.lst xs) d=d_->E (.ref C) (a_ d) (upd (upd H1 L (.lst xs)) d (.xd [(f1,.ref L)]))
section
variable {E:XK} {f:h_} {t:TA} {f1:Cy} 
theorem Ag (FB:Im B newId initId bmB) (W:XEq2 X E C) (G:kf X.K C bmB newId f=f_) (hf:JZ X.K (.ref f)=a_ (.type "function")) (hk:FH X.K (.ref C)=f_) (F:iN X.prog X.w X.K X.mg X.base CX0 k f fd ps (spXL X.K C f1)) (y:gz (k+1) X.A) (U:Binds X.K fd ps [])
  (hm:X.mg x=a_ (.ref C)) (ha:PA X [e1] t) (hg: ~~~(Gl X x)) (j:((x==("__debug__":Cy))=c_)⁻¹) (i: ~~~(j_ [e1] X.env=[(c_,Cf e1 X.env)])) :
  PS X (.Raise (a_ (.Call (.Name x np) [e1] [] cpos)) d_ pos) (tRaiseL X.K t C f1 E):=by
 intro pins s σ H D I h;obtain ⟨tl,N,nm,K,bs,hdct,sn,sub,ab,col,dd,k0,k1,k2,k3,k5,mN,P,o2,o3,O⟩:=qK I.mod.kin G;rw [arm_exec_Raise];refine b_ (HA (uw (C:=C) (nm:=nm) (q:=K) (N:=N) (bs:=bs) (tl:=tl) (hdct:=hdct) (sn:=sn) (sub:=sub) (ab:=ab) (col:=col) (dd:=dd) (k0:=k0) (k1:=k1) (k2:=k2) (k3:=k3) (k5:=k5) (newId:=newId) (O.hasType FB.hasBase) y.hd (b_ (thn ?_ fun v w S=>b_ (HA (e_ S))))));refine Em (iu I hg hm (Ju (h₀:=X.base) I.ok.mod.kin hk (thn (ha cpos pins s σ H _ I h) fun us s1 ⟨vs,H1,p,r,q1⟩=>⟨p.kIn,?_⟩) i rfl) j);obtain ⟨l,xs,rfl,Z,q1⟩:=q1;refine thn (new_xL FB G hf F y U p r Z) fun v c ⟨a,d,L,ev,hn,hL,m,n,hd,e,J⟩=>?_;subst ev;have fa:upd H1 L (.lst xs) a=d_:=by rw [aq (CV m)];exact n
 generalize hH:upd H1 L (.lst xs)=H2 at fa hd J;obtain ⟨vs,u,A⟩:=xo_get (J.hok a _ ao);have Y:upd (upd H2 d (XD d [(f1,.ref L)])) a (XO a C (a_ d)) d=a_ (XD d [(f1,.ref L)]):=by rw [aq e];exact ao
 have J2:Inv X pins σ (upd H2 d (.xd [(f1,.ref L)])) {c with heap:=c.heap,toks:=c.toks}:=by
  refine J.turn (fun b=>b=a\/b=d) (fun b o _ q=>q) (fun b g=>?_) (fun b U=>?_) (fun b o _ q=>⟨o,q⟩) fun b o U q=>?_
  ·rw [aq fun z=>g (.inr z),aq fun z=>g (.inl z),aq fun z=>g (.inr z)]
  ·rcases U with rfl|rfl
   ·exact .inl ⟨_,ao⟩
   ·exact .inl ⟨_,Y⟩
  ·rcases U with rfl|rfl
   ·rw [aq (CV e),fa] at q;cases q
   ·rw [ao] at q;cases q;obtain ⟨mA,R,Q,_⟩:=xd_get (J.hok _ _ Y);exact ⟨mA,R,Q⟩
 exact ⟨a,_,rfl,J.bk _ _ P,A,rfl,⟨vs,rfl,u⟩,W pins σ _ c a d J2 ⟨⟨_,vs,A,rfl,rfl,rfl,u⟩,fun T hT=>nomatch hT⟩ (get_none (C9 p.sz hn)) (by rw [aq (CV e)];exact fa) (by subst hH;exact q1 L d hL hd)⟩
end
noncomputable def xC (C:h_) (f1:Cy):List Dat->M Flo
 |[.lst ds]=>.error (.exc C [(f1,.lst ds)])
 |_=>.error .stuck
noncomputable def xW (C:h_) (f1:Cy) (fr:ah->M (List Dat)):ah->M Flo:=fun ρ=>(fr ρ).bind (xC C f1)
@[simp] theorem e_sExcL (C:h_) (f1:Cy) (fr:ah->M (List Dat)) (ρ:ah):xW C f1 fr ρ=(fr ρ).bind (xC C f1):=id rfl
@[simp] theorem e_xResL (C:h_) (f1:Cy) (ds:List Dat):xC C f1 [.lst ds]=.error (.exc C [(f1,.lst ds)]):=id rfl
section
variable {E:XK} {f:h_} {fr:ah->M (List Dat)} {f1:Cy} 
theorem Bt (FB:Im B newId initId bmB) (j:XEq2 X E C) (N:kf X.K C bmB newId f=f_) (v:JZ X.K (.ref f)=a_ (.type "function")) (s:FH X.K (.ref C)=f_) (F:iN X.prog X.w X.K X.mg X.base CX0 k f fd ps (spXL X.K C f1)) (m:gz (k+1) X.A) (y:Binds X.K fd ps [])
  (o:X.mg x=a_ (.ref C)) (A:DA K (WE K E) X [e1] fr) (u: ~~~(Gl X x)) (b:((x==("__debug__":Cy))=c_)⁻¹) (a: ~~~(j_ [e1] X.env=[(c_,Cf e1 X.env)])) (I: ~~~(X.K=K)) :
  DS K (WE K E) ro X OL O O' (.Raise (a_ (.Call (.Name x np) [e1] [] cpos)) d_ pos) (xW C f1 fr):=fun F0 H0=>PS.imp (Ag FB j N v s F m y o A u b a) fun D σ H ⟨R,F,ρ,r,p⟩=>by
 subst I;have h:=r.freeze (O2:=[]) (by simp);refine ic r.gC r.dg (fun e w=>p.fg h.st (by unfold xW;rw [w];rfl)) fun ds hd vs F1 H1 Y q=>?_;have P:xW C f1 fr ρ=xC C f1 ds:=by unfold xW;rw [hd];rfl
 rw [P] at p;by_cases i:∃es,ds=[.lst es]
 ·obtain ⟨es,rfl⟩:=i;obtain ⟨T,U,rfl,⟨l,xs,Q,t,z⟩,n⟩:=q;cases (show U=[] from n);subst Q;refine ⟨l,xs,rfl,Y.fh.lst t,fun L d G c=>?_⟩
  have st:=h.st.trans Y;have S:Step F1 H1 (upd F1 L (.lst xs)) (upd H1 L (.lst xs)):=Step.lay Y.fh G;have J:Step (upd F1 L (.lst xs)) (upd H1 L (.lst xs)) (upd (upd F1 L (.lst xs)) d (.xd [(f1,.ref L)])) (upd (upd H1 L (.lst xs)) d (.xd [(f1,.ref L)])):=Step.lay S.fh c;exact p _ _ (st.trans (S.trans J)) d _ ao ⟨.ref L,[],rfl,⟨L,xs,rfl,SqL.of (J.ff _ _ ao),(z.mono S.ff).mono J.ff⟩,rfl⟩
 ·have g:xC C f1 ds=.error .stuck:=by
   unfold xC;split
   ·exact Cj ⟨_,rfl⟩ i
   ·rfl
  rw [g] at p;exact ((WE X.K E).ns p).elim
end
noncomputable def og (i j:Nat) (f1:Cy) (g:Dat->M Dat):List (Cy×Dat)->ah->M ah:=fun fs ρ=>match fs.lookup f1 with
 |some a=>(g a).bind fun b=>.ok ((ρ.set j (a_ b)).set i d_)
 |_=>.error .stuck
@[simp] theorem e_xTold1 (i j:Nat) (f1:Cy) (g:Dat->M Dat) (d:Dat) (fs:List (Cy×Dat)) (ρ:ah):og i j f1 g ((f1,d)::fs) ρ=(g d).bind fun b=>.ok ((ρ.set j (a_ b)).set i d_):=by
 unfold og;rw [Cp,beq_self_eq_true]
section
variable {d:h_} {gs:List (Cy×V)} {fs:List (Cy×Dat)} {f1:Cy}
theorem Rep.told1 {b:Dat} {v:V} (r:Rep K F0 H0 FB O F H σ ρ) (o:i≠j) (hi:i<σ.length) (h:j<σ.length) (d:i∉O) (Y:j∉O) (q:aW K F b v) :
  Rep K F0 H0 FB O F H (((σ.set i (a_ (.ref a))).set j (a_ v)).set i d_) ((ρ.set j (a_ b)).set i d_):=by
 have S:∀m,m≠i->m≠j->(((σ.set i (a_ (.ref a))).set j (a_ v)).set i d_)[m]? =σ[m]?:=fun m h1 h2=>by
  rw [q_ (CV h1),q_ (CV h2),q_ (CV h1)]
 have J:∀m,m≠i->m≠j->((ρ.set j (a_ b)).set i d_)[m]? =ρ[m]?:=fun m h1 h2=>by
  rw [q_ (CV h1),q_ (CV h2)]
 have f:∀dd,((ρ.set j (a_ b)).set i d_)[i]?≠a_ (a_ dd):=fun dd e=>by
  rw [B_ (by rw [CB,r.len];exact hi)] at e;cases e
 refine ⟨r.st,r.fb,by simp only [CB];exact r.len,fun m dd e U=>?_,fun m dd e U=>?_,fun m n s p c U g e1 e2 e3 e4=>?_⟩
 ·by_cases h1:m=i
  ·subst h1;exact (f _ e).elim
  ·by_cases h2:m=j
   ·subst h2;rw [q_ (CV h1),B_ (by rw [r.len];exact h)] at e;cases e;exact ⟨v,by rw [q_ (CV h1),B_ (by rw [CB];exact h)],q⟩
   ·rw [J m h1 h2] at e;rw [S m h1 h2];exact r.fz m dd e U
 ·have h1:m≠i:=fun z=>d (z▸U);have h2:m≠j:=fun z=>Y (z▸U);rw [J m h1 h2] at e;rw [S m h1 h2];exact r.ow m dd e U
 ·have h1:m≠i:=fun z=>d (z▸U);have h2:m≠j:=fun z=>Y (z▸U);have l:n≠i:=fun z=>d (z▸g);have k:n≠j:=fun z=>Y (z▸g);rw [J m h1 h2] at e1;rw [J n l k] at e2;rw [S m h1 h2] at e3;rw [S n l k] at e4;exact r.ap m n s p c U g e1 e2 e3 e4
theorem rs_told1 {g:Dat->M Dat} (f:∀{F H:Hp} {b:Dat} {v:V} {Q:VK},aN F H->F d=a_ (.xd gs)->gs.lookup f1=a_ v->aW K F b v->aw K Wno c_ F H (g b) Q->te (σ.set i (a_ (.ref a))) H Q) (r:Rep K F0 H0 FB O F H σ ρ) (hd:F d=a_ (.xd gs)) (k:kr K F fs gs) (S:i≠j) (hi:i<σ.length) (e:j<σ.length) (U:i∉O) (J:j∉O) (q:bY K Wno ro F0 H0 FB OL O D ((og i j f1 g fs ρ).bind fun ρ'=>.ok (.nx ρ'))) :
  tAsg te (n4 j) (D.less i) (σ.set i (a_ (.ref a))) H:=by
 unfold og at q;cases h1:fs.lookup f1 with
 |none=>rw [h1] at q;exact (Wno.ns q).elim
 |some b=>
  rw [h1] at q;obtain ⟨v,h,q1⟩:=k.at.1 b h1;refine f r.st.fh hd h q1 ?_;have q:bY K Wno ro F0 H0 FB OL O D (((g b).bind fun b=>.ok ((ρ.set j (a_ b)).set i d_)).bind fun ρ'=>.ok (.nx ρ')):=q;cases Y:g b with
  |error z=>rw [Y] at q;exact q.elim
  |ok c=>
   rw [Y] at q;intro l m H2 st z;exact q _ _ _ ((r.step st).told1 S hi e U J z)
end
def tsTold1 (j:Nat) (te:h_->TE):Option h_->TS
 |none=>tNever
 |some d=>tAsg (te d) (n4 j)
section
variable {n to:Cy} {p5 p6 p7:Nu} {fb:ah->M Flo} {f1:Cy}
theorem ds_toldI (hb:∀(pins:Pn) (σ:St) (E:XK) (G:Vp),j3 (CXd X.prog X.w) (X.pJ G) pins σ E->DSat K E ro (X.pJ G) OL [] O pins σ body fb)
  (Z:XTry X.K X.mg c C) (a1:zw X.K C f1) (e:Kit K) (h:X.mg "isinstance"=d_) (k:X.mg "list"=d_) (hN:X.N.Nodup) (hK: ~~~(X.K=K)) (o:(i≠j)⁻¹) (s:(i∉O)⁻¹) (m:(j∉O)⁻¹) (hi: ~~~(X.N[i]? =a_ n)) (R: ~~~(X.N[j]? =a_ to)) (P: ~~~(X.env.scope.names.lookup n=a_ .local)) (Y: ~~~(X.env.scope.names.lookup to=a_ .local))
  (hg: ~~~(Gl X c)) (x: ~~~(X.ex=[])) (S: ~~~(X.stack=X.env::X.outer)) (w: ~~~(X.env.frame=a_ X.env.locals)) (y:((c==("__debug__":Cy))=c_)⁻¹) (A:((n==("__debug__":Cy))=c_)⁻¹) (z:((n==("__classdict__":Cy))=c_)⁻¹)
  (t: ~~~(Gl X "isinstance")) (u: ~~~(Gl X "list"))
  (B: ~~~(DH (.Name n p3) f1 X.env (Cf (.Name n p3) X.env)=Cf (.Name n p3) X.env))
  (U: ~~~(j_ [.Attribute (.Name n p3) f1 p4,.Name "list" p2] X.env=[(c_,Cf (.Attribute (.Name n p3) f1 p4) X.env),(c_,Cf (.Name "list" p2) X.env)])) (J: ~~~(j_ [.Name "list" p2] X.env=[(c_,Cf (.Name "list" p2) X.env)])) (g: ~~~((CZ p6 (j_ [.Name "list" p2] X.env)).any (·.1)=c_))
  (f: ~~~(Dx (.Call (.Name "isinstance" p5) [.Attribute (.Name n p3) f1 p4,.Name "list" p2] [] p6) (a_ (.Name to p1)) p7.line X.env=DC c_)) :
  DS K Wno ro X OL O O (.Try body [.ExceptHandler (a_ (.Name c np)) (a_ n) [.Assign [.Name to p1] (.Call (.Name "isinstance" p5) [.Attribute (.Name n p3) f1 p4,.Name "list" p2] [] p6) p7] hpos] [] [] pos) (mr O C fb (og i j f1 ee)):=by
 subst hK;refine ds_tryF (ts:=fun a dx=>tsTold1 j (fun d=>tCB (fun xs H Q=>∃v,xs=[v,.ty "list"]/\rD1 X.K Wno c_ ee v H Q) (ky (tFldX i a d f1) (ky (tC (.ty "list")) zJ))) dx) hb (fun a oe hc hd=>?_) (fun F0 H0 D σ a d gs fs FB F H ρ N r h1 h2 p=>?_) Z.nm (by decide +kernel) Z.mg hN hi P hg x S w y
 ·cases hx:oe.dict with
  |none=>exact Ae
  |some d=>exact qg (Af (X:=X.hand a oe) hN R (.inl Y) (di (X:=X.hand a oe) (px (X:=X.hand a oe) (own:=c_) (W:=Wno) e rfl) t h EK (aM (pe_xfld F.attrBase_ValueError Z.isi a1 hc hd hx hi (.inl P) A z B) (aM (wF (X:=X.hand a oe) (pos:=p2) (T:="list") u k (by decide +kernel) (by decide) (by decide)) cy J) (by rw [U,J])) (by decide) (by decide) (by rw [U,J]) g) f (.inr Y))
 ·have L:i<σ.length:=by rw [N];exact (y_.mp hi).1
  exact rs_told1 (te:=tCB (fun xs H Q=>∃v,xs=[v,.ty "list"]/\rD1 X.K Wno c_ ee v H Q) (ky (tFldX i a d f1) (ky (tC (.ty "list")) zJ))) (gs:=gs) (d:=d) (fun {F H b v Q} I hd l q p=>⟨by rw [B_ L],gs,v,I _ _ hd,l,v,rfl,F,b,I,q,p⟩) r h1 h2 o L (by rw [N];exact (y_.mp R).1) s m p
end
section
variable {W:ck} {own:Bool} {a b:Dr} {f:ah->M Dat} 
theorem ds_drop (h:DE K W own X e f) (S: ~~~(Dx e d_ pos.line X.env=DC c_)):DS K W ro X OL O O (.Expr e pos) (oz O f):=fun F0 H0=>PS.imp (uW h S) fun D σ H ⟨FB,F,ρ,r,p⟩=>by
 refine aI r.gO r.st.fh (fun e U=>p.fg r.st (by unfold oz;rw [U];rfl)) fun d hd v F1 H1 J q=>?_;have z:oz O f ρ=.ok (.nx ρ):=by unfold oz;rw [hd];rfl
 rw [z] at p;exact p σ F1 H1 (r.step J)
noncomputable def orN (a:Dat) (b:M Dat):M Dat:=match a with
 |.non=>b
 |.lst []=>b
 |.lst (d::ds)=>.ok (.lst (d::ds))
 |_=>.error .stuck
def fOrN (fa fb:ah->M Dat):ah->M Dat:=fun ρ=>(fa ρ).bind fun a=>orN a (fb ρ)
@[simp] theorem e_fOrN (fa fb:ah->M Dat) (ρ:ah):fOrN fa fb ρ=(fa ρ).bind fun a=>orN a (fb ρ):=id rfl
@[simp] theorem e_orN0 (b:M Dat):orN .non b=b:=id rfl
@[simp] theorem e_orN1 (b:M Dat):orN (.lst []) b=b:=id rfl
@[simp] theorem e_orN2 (d:Dat) (ds:List Dat) (b:M Dat):orN (.lst (d::ds)) b=.ok (.lst (d::ds)):=id rfl
theorem de_orN (t:DE K W c_ X a fa) (o:DE K W c_ X (.BoolOp .Or (b::rest) pos) fb) (u: ~~~(X.K=K)):DE K W c_ X (.BoolOp .Or (a::b::rest) pos) (fOrN fa fb):=by
 subst u;intro pins s σ H Q I h;obtain ⟨F,ρ,r,m,p⟩:=h;refine BoolOp_or (thn (t pins s σ H (fun x H1=>∃F1 d,fa ρ=.ok d/\Step F H F1 H1/\aW X.K F1 d x) I (aI r m (fun e n=>p.err (by unfold fOrN;rw [n];rfl)) fun d hd x F1 H1 J q1=>⟨F1,d,hd,J,q1⟩)) fun v J ⟨x,H1,f,j,F1,d,hd,st,q⟩=>?_);have w:fOrN fa fb ρ=orN d (fb ρ):=by unfold fOrN;rw [hd];rfl
 rw [w] at p;have i:∀(J:t_) (f:Inv X pins σ H1 J),aw X.K W c_ F H (fb ρ) Q->s_ (w_ X.prog X.w) X.A (Cf (.BoolOp .Or (b::rest) pos) X.env) (EP X pins σ Q) X.xe J:=fun J f p=>o pins J σ H1 Q f ⟨F1,ρ,r.mono st.ff,st.fh,p.step st⟩;have U:∀(k:Bool),truD d=.ok k->s_ (w_ X.prog X.w) X.A (MY v) (fun c S=>c=k/\Inv X pins σ H1 S) X.xe J:=fun k g=>thn (tru_ok pins J σ H1 x v (fun c H'=>c=k/\H'=H1) f j ⟨k,tru_of st.fh q g,rfl,rfl⟩) fun c S ⟨H',Y,e1,e2⟩=>by subst e2;exact ⟨e1,Y⟩
 have l:truD d=.ok c_->aw X.K W c_ F H (fb ρ) Q->s_ (w_ X.prog X.w) X.A (MY v) (fun c S=>if c=f_ then EP X pins σ Q v S else s_ (w_ X.prog X.w) X.A (Cf (.BoolOp .Or (b::rest) pos) X.env) (EP X pins σ Q) X.xe S) X.xe J:=fun g p=>thn (U c_ g) fun c S ⟨e1,Y⟩=>by
  subst e1;exact i S Y p
 cases d with
 |non=>exact l rfl p
 |lst ds=>
  cases ds with
  |nil=>exact l rfl p
  |cons d ds=>
   refine thn (U f_ rfl) fun c S ⟨e1,Y⟩=>?_;subst e1;exact ⟨x,H1,Y,j,p x F1 H1 st q⟩
 |_=>exact aw.stuck p
end
mutual
noncomputable def dE:Dat->Bool
 |.tup ds=>ik ds
 |.lst ds=>ik ds
 |.ins _ _=>c_
 |.dic _=>c_
 |.dil _=>c_
 |_=>f_
noncomputable def ik:List Dat->Bool
 |[]=>f_
 |d::ds=>dE d&&ik ds
end
mutual
theorem aW.plain {K:Fg} {F F':Hp} (s:∀a xs,SqT K F a xs->SqT K F' a xs) (t:∀a xs,SqL K F a xs->SqL K F' a xs):∀{d:Dat} {v:V},dE d=f_->aW K F d v->aW K F' d v
 |.non,_,_,h=>h
 |.bl _,_,_,h=>h
 |.int _,_,_,h=>h
 |.str _,_,_,h=>h
 |.tup ds,_,f,⟨a,xs,e,q,r⟩=>⟨a,xs,e,s _ _ q,au.plain s t (by simpa [dE] using f) r⟩
 |.lst ds,_,f,⟨a,xs,e,q,r⟩=>⟨a,xs,e,t _ _ q,au.plain s t (by simpa [dE] using f) r⟩
 |.ins _ _,_,f,_=>by simp [dE] at f
 |.dic _,_,f,_=>by simp [dE] at f
 |.dil _,_,f,_=>by simp [dE] at f
theorem au.plain {K:Fg} {F F':Hp} (s:∀a xs,SqT K F a xs->SqT K F' a xs) (t:∀a xs,SqL K F a xs->SqL K F' a xs):∀{ds:List Dat} {xs:List V},ik ds=f_->au K F ds xs->au K F' ds xs
 |[],_,_,h=>h
 |d::ds,_,f,⟨v,vs,e,q,r⟩=>by
  simp only [ik,u_] at f;exact ⟨v,vs,e,aW.plain s t f.1 q,au.plain s t f.2 r⟩
end
def l8 (i:Nat) (fk fv:ah->M Dat):ah->M Flo:=fun ρ=>(fv ρ).bind fun d=>(jD ρ i).bind fun ks=>(fk ρ).bind fun J=>(lL J).bind fun k=>if (dE d&&Ca (ks.length<n_))=f_ then .ok (.nx (ρ.set i (a_ (.dic (i9 ks k d))))) else .error .stuck
@[simp] theorem e_putDL (i:Nat) (fk fv:ah->M Dat) (ρ:ah):l8 i fk fv ρ=(fv ρ).bind fun d=>(jD ρ i).bind fun ks=>(fk ρ).bind fun J=>(lL J).bind fun k=>if (dE d&&Ca (ks.length<n_))=f_ then .ok (.nx (ρ.set i (a_ (.dic (i9 ks k d))))) else .error .stuck:=id rfl
section
variable {W:ck} 
theorem Rep.minusL {ks:List (List Int×Dat)} (r:Rep K F0 H0 FB [i] F H σ ρ) (hd:ρ[i]? =a_ (a_ (.dic ks))) (s:Step (plus F H (j4 [i] [] σ ρ)) H F1 H1) (b:h_) (xs:List V) (h:SqL K F1 b xs):SqL K (minus F1 (j4 [i] [] σ ρ)) b xs:=by
 have key:∀{b:h_} {o:HO},F1 b=a_ o->(∀f,o≠.ext f)->minus F1 (j4 [i] [] σ ρ) b=a_ o:=fun {b o} h n=>by
  by_cases J:j4 [i] [] σ ρ b
  ·obtain ⟨j,d,S,_,_,e1,e2⟩:=id J;have:=G0.mp S;subst this;rw [hd] at e1;cases e1;obtain ⟨v,e3,a,ys,ev,⟨ep,U⟩,_⟩:=r.ow j _ hd Cz;rw [e2] at e3;cases e3;cases ev;have:=s.ff _ _ (by rw [ij J];exact U);rw [h] at this;cases this;exact Cj rfl (n _)
  ·rw [eZ J];exact h
 rcases h with (h|⟨o,h⟩)|h
 ·exact .inl (.inl (key h fun f z=>nomatch z))
 ·exact .inl (.inr ⟨o,key h fun f z=>nomatch z⟩)
 ·exact .inr h
theorem rs_putDL (t:tS K W ro F0 H0 OL [i] [i] (l8 i fk fv) D σ H):sPut K (tVar i) (tD K W c_ fk) (tD K W c_ fv) D σ H:=by
 obtain ⟨FB,F,ρ,r,p⟩:=t;have hi:i∈[i]:=Cz;refine aI r.gC r.dg (fun e j=>p.fg (r.freeze (O2:=[]) (by simp)).st (by unfold l8;rw [j];rfl)) fun d hd v F1 H1 g q=>?_;have y:l8 i fk fv ρ=(jD ρ i).bind fun ks=>(fk ρ).bind fun U=>(lL U).bind fun k=>if (dE d&&Ca (ks.length<n_))=f_ then .ok (.nx (ρ.set i (a_ (.dic (i9 ks k d))))) else .error .stuck:=by unfold l8;rw [hd];rfl
 rw [y] at p;cases Y:jD ρ i with
 |error e=>
  have:=tP Y;subst this;exact p.stuck (by rw [Y];rfl)
 |ok ks=>
  rw [Y] at p;have p1:bY K W ro F0 H0 FB OL [i] D ((fk ρ).bind fun U=>(lL U).bind fun k=>if (dE d&&Ca (ks.length<n_))=f_ then .ok (.nx (ρ.set i (a_ (.dic (i9 ks k d))))) else .error .stuck):=p;have S:=r.eF g;obtain ⟨A,e2,a,xs,ev,⟨ep,s⟩,_,_,z⟩:=S.ow i _ (kh Y) hi;subst ev;refine ⟨.ref a,e2,?_⟩
  refine aI S.gC S.dg (fun e j=>p1.fg (S.freeze (O2:=[]) (by simp)).st (by rw [j];rfl)) fun U o w B H2 c q2=>?_;rw [o] at p1;have p2:bY K W ro F0 H0 FB OL [i] D ((lL U).bind fun k=>if (dE d&&Ca (ks.length<n_))=f_ then .ok (.nx (ρ.set i (a_ (.dic (i9 ks k d))))) else .error .stuck):=p1;cases J:lL U with
  |error e=>
   have:=lZ J;subst this;exact p2.stuck (by rw [J];rfl)
  |ok k=>
   rw [J] at p2;have p3:bY K W ro F0 H0 FB OL [i] D (if (dE d&&Ca (ks.length<n_))=f_ then .ok (.nx (ρ.set i (a_ (.dic (i9 ks k d))))) else .error .stuck):=p2;by_cases f:(dE d&&Ca (ks.length<n_))=f_
   ·rw [p_ f] at p3;simp only [u_,CK] at f;obtain ⟨b,rfl,t⟩:=qB J q2;have h:=S.eF c;have n:aW K (minus F1 (j4 [i] [] σ ρ)) d v:=aW.plain (r.jb g) (r.minusL (kh Y) g) f.1 q;have l:=z.mono (S.dH c);have m:=S.jb c b _ t;exact ⟨a,b,k,xs,ep,rfl,rfl,c.hh _ _ s,l.key.mono h.st.fh,h.st.fh.tup m,by rw [z.length];exact f.2,fun ep'=>p3 σ _ _ (h.w6 hi (kh Y) rfl e2 fun x u=>⟨a,_,rfl,⟨ep',ao⟩,x,u,l.put m (n.mono (S.dH c))⟩)⟩
   ·rw [l_ f] at p3;exact p3.stuck rfl
end
section
variable {W:ck} 
theorem xc (c:X.A.units+64<D8) (U:DE K W c_ X ek fk) (Y:DE K W c_ X ev fv) (a: ~~~(X.N[i]? =a_ x)) (hv:autoParam (Vis X.env.scope x) Jq3) (hd:((x==("__debug__":Cy))=c_)⁻¹) (J:((x==("__classdict__":Cy))=c_)⁻¹) (b: ~~~(X.K=K))
  (S: ~~~(Dx ev (a_ (.Subscript (.Name x p) ek pos')) pos.line X.env=DC c_)):DS K W ro X OL [i] [i] (.Assign [.Subscript (.Name x p) ek pos'] ev pos) (l8 i fk fv):=fun F0 H0=>by
 subst b;exact PS.imp (ps_put (by omega) (pv i a hv hd J) U Y S) fun _ _ _=>rs_putDL
end
section
open PySem PySem.W
theorem zP {d:h_} {es:Array DX} {Q:Vp} (i:A.handled=d_) (lo:(d==DO)=c_) (z:rG s.heap d es ep) (hv:es.toList.map (·.key)=vs) (g:vs.length<2)
  (h:∀(h':CQ) (D:h_) (c tk:Nat),s.heap.objs.size<=D->(∀b o,s.heap.get? b=a_ o->h'.get? b=a_ o)->h'.get? D=a_ (D6 "list" vs.toArray c)->Q (.ref D) {s with heap:=h',toks:=tk}) :
  s_ (w_ prog w) A (Gg (.builtin "sorted") [.ref d]) Q E s:=by
 have J:=Du;have hsz:es.size=vs.length:=by rw [<- hv,v_,Ct]
 refine G5 ME LY LZ (L0 _) ?_;unfold Builtin.«sorted»;refine b_ (m:=MZ "sorted" 1 1 _) (e_ (b_ (collectR (A:=A.in1) i lo z (by omega) fun h1 tk Y U=>?_)));rw [hv];refine b_ (Jj ?_ (by omega));have a:(h1.push (D6 "list" vs.toArray 0)).get? h1.objs.size=a_ (D6 "list" vs.toArray 0):=k_ _ rfl;have e:∀b o,s.heap.get? b=a_ o->b≠h1.objs.size:=fun b o q=>Cd (o_ (Y b o q));refine b_ (Dj (CD (s:={s with heap:=h1.push (D6 "list" vs.toArray 0),toks:=tk}) KZ ⟨_,a,rfl⟩ Km (mI (key:=fun _=>0) a (by omega) (fun h2=>Cj h2 (by omega)) fun h' c f S=>⟨_,rfl,?_⟩) (K1 _)));unfold il at S;rw [p_ g] at S;exact e_ ⟨_,rfl,h h' _ c tk U (fun b o q=>f b o (e b o q) (g_ _ (Y b o q))) S⟩
theorem min_one {Q:Vp} (D:A.handled=d_) (n:s.heap.IsList l #[v]) (h:∀h' tk,(∀b o,s.heap.get? b=a_ o->h'.get? b=a_ o)->Q v {s with heap:=h',toks:=tk}) :
  s_ (w_ prog w) A (Gg (.builtin "min") [.ref l]) Q E s:=by
 have J:(toString "min"++toString ".loop":String)="min.loop":=by decide
 refine PySem.call_function_tree F.kind_min F.plain_min F.entry_min (F.args_min1 _) ?_;show s_ _ A.in1 (HP "min" ["key","default"] 0 ⟨[],[]⟩ >>= _) _ _ s;refine b_ (E7 (show HP "min" ["key","default"] 0 ⟨[],[]⟩=DC [d_,d_] from rfl) (b_ (e_ ?_)));have c:l<s.heap.objs.size:=by obtain ⟨_,e,_⟩:=n;exact o_ e
 refine b_ (Hv n ?_);refine b_ (Ck ?_);rw [J];have W:=JH (prog:=prog) (w:=w) (A:=A.in1) D s.heap.objs.size l (Cd c) #[v];have r:(s.heap.push {cls:=.type "list_iterator",data:=.fields #[.ref l,.int 0 0]}).objs.size=s.heap.objs.size+1:=CN ..;have U:(s.heap.push {cls:=.type "list_iterator",data:=.fields #[.ref l,.int 0 0]}).objs.size∉[s.heap.objs.size,l]:=by
  rw [r];simp only [r_,CT,FT,MT];exact ⟨Hr _,Eb (Ey c)⟩
 have Y:∀b o,s.heap.get? b=a_ o->(s.heap.push {cls:=.type "list_iterator",data:=.fields #[.ref l,.int 0 0]}).get? b=a_ o:=fun b o e=>g_ _ e;have i:s.heap.get? (s.heap.push {cls:=.type "list_iterator",data:=.fields #[.ref l,.int 0 0]}).objs.size=d_:=HU (by rw [r];exact Ee _);have m:∀b∈[s.heap.objs.size],s.heap.get? b=d_:=fun b G=>by rw [G0.mp G];exact HU (m_ _)
 generalize p:s.heap.push {cls:=.type "list_iterator",data:=.fields #[.ref l,.int 0 0]}=h1 at U Y i ⊢;have j:h1.IsListIter s.heap.objs.size l 0/\h1.IsList l #[v]:=by subst p;exact ⟨⟨_,k_ _ rfl,rfl,rfl⟩,n.push _⟩
 refine e_ ⟨Fi HC _,DF M6 ?_⟩;rw [De HC _];show s_ _ A.in1 (Lr (.ref h1.objs.size) >>= _) _ _ _;have B:(h1.push {cls:=.type "list",data:=.seq ([]:List i_).toArray}).get? h1.objs.size=a_ {cls:=.type "list",data:=.seq ([]:List i_).toArray}:=k_ _ rfl;have g:h1.objs.size∉[s.heap.objs.size]:=fun h=>U (W.sub _ h);have u:∀{b:h_} {o:GX},s.heap.get? b=a_ o->h1.objs.size≠b:=fun e z=>by rw [<- z,i] at e;cases e
 have t:∀{b:h_} {o:GX},s.heap.get? b=a_ o->b∉[s.heap.objs.size]:=fun e z=>by rw [m _ z] at e;cases e
 refine b_ (Ft B rfl ?_);show s_ _ A.in1 (tryCatch (FF (.ref s.heap.objs.size)) _ >>= _) _ _ _;refine b_ (wpAny_tryCatch (W.item 0 _ _ _ (Nat.one_pos) (W.frame _ _ _ j fun b _ o e=>g_ _ e) fun S h' tk H a f=>?_));have hv:S=v:=by
  have:(#[v]:Array i_)[0]? =a_ S:=H;simpa using this.symm
 subst hv;have y:=f h1.objs.size _ g B;show s_ _ A.in1 (Lq h1.objs.size (fun _=>#[S,S]) >>= _) _ _ _;refine b_ (G2 y rfl ?_);rw [J];have k:∀b o,s.heap.get? b=a_ o->(h'.update h1.objs.size (C8 fun _=>#[S,S])).get? b=a_ o:=fun b o e=>(Ce _ _ (u e)).trans (f b o (t e) (g_ _ (Y b o e)));refine e_ ⟨Fi HC _,DF M6 ?_⟩;rw [De HC _];have x:=CJ (C8 fun _=>#[S,S]) y rfl;show s_ _ A.in1 (Lr (.ref h1.objs.size) >>= _) _ _ _;refine b_ (Ft x rfl ?_);show s_ _ A.in1 (tryCatch (FF (.ref s.heap.objs.size)) _ >>= _) _ _ _;refine b_ (wpAny_tryCatch (W.done _ _ _ (W.frame _ _ _ a fun b q o e=>(Ce _ _ (fun z:h1.objs.size=b=>U (by rw [z];exact q))).trans e) fun h2 C d=>?_));show s_ _ A.in1 (Lq h1.objs.size (fun _=>#[]) >>= _) _ _ _;refine b_ (G2 (d _ _ g x) rfl (b_ (wpAny_letGo (e_ ?_))));exact h _ _ fun b o e=>(Ce _ _ (u e)).trans (d b o (t e) (k b o e))
end
def jN:List Dat->M Dat
 |[.dil []]=>.ok (.lst [])
 |[.dil [k]]=>.ok (.lst [dD k])
 |_=>stk
def minL1:List Dat->M Dat
 |[.lst [d]]=>.ok d
 |_=>stk
section
variable {W:ck}
theorem za (w: ~~~(X.calm=f_)) (J: ~~~(X.K=K)):lU K W f_ X (.builtin "sorted") jN:=by
 subst J;intro pins s σ H xs us Q I n h;obtain ⟨F,d,x,g,e,q,p⟩:=kE (fun ds=>by match ds with|[d]=>exact .inl ⟨d,rfl⟩|[]=>exact .inr rfl|a::b::c=>exact .inr (by unfold jN;split<;>simp_all)) h;subst e;obtain ⟨u,rfl,m⟩:=n.one;have l:∀{ks:List LK},ks.length<2->aW X.K F (.dil ks) x->aw X.K W f_ F H (.ok (.lst (ks.map dD))) Q->s_ (w_ X.prog X.w) X.A (Gg (.builtin "sorted") [u]) (EP X pins σ Q) X.xe s:=fun {ks} h2 q p=>by
  obtain ⟨a,rs,e1,⟨ep,Y⟩,ek,J⟩:=q;subst e1;cases m;rw [<- ek] at p h2;rw [v_] at h2;obtain ⟨hd,U,i,o,es,A,z,y,f⟩:=dil_ok I (g _ _ Y);refine zP (vs:=rs.map fun r=>x_ r.2) (I.ok.hd w) hd ⟨o,A,z,y⟩ (by rw [f,Cg];rfl) (by rw [v_];exact h2) fun h' D c tk j t e=>?_;have vs:Vals (rs.map fun r=>V.ref r.2) (rs.map fun r=>x_ r.2):=by
   clear e p J i U ek f Y h2
   induction rs with
   |nil=>exact .nil
   |cons r rs S=>exact .cons rfl S
  have B:au X.K F ((rs.map Prod.fst).map dD) (rs.map fun r=>V.ref r.2):=by
   clear e p vs i U ek f Y h2
   induction rs with
   |nil=>rfl
   |cons r rs S=>exact ⟨_,_,rfl,lab_deep (J r (by simp)),S fun r' v=>J r' (by simp [v])⟩
  have C:Inv X pins σ (upd H D (.lst (rs.map fun r=>V.ref r.2))) {s with heap:=h',toks:=tk}:=I.laid (t':=tk) t j (show bK X.prog X.w _ h' D (.lst _) from ⟨by rw [v_];exact U,_,c,vs,e⟩);exact ⟨.ref D,_,C,rfl,p.lst g B (I.hok.fresh j)⟩
 match d,q,p with
 |.dil [],q,p=>exact l (ks:=[]) (by decide) q p
 |.dil [k],q,p=>exact l (ks:=[k]) (by simp) q p
 |.dil (a::b::c),q,p=>exact aw.stuck p
 |.non,q,p=>exact aw.stuck p
 |.bl _,q,p=>exact aw.stuck p
 |.int _,q,p=>exact aw.stuck p
 |.str _,q,p=>exact aw.stuck p
 |.tup _,q,p=>exact aw.stuck p
 |.lst _,q,p=>exact aw.stuck p
 |.ins _ _,q,p=>exact aw.stuck p
 |.dic _,q,p=>exact aw.stuck p
theorem c_minL1 (j: ~~~(X.calm=f_)) (k: ~~~(X.K=K)):lU K W c_ X (.builtin "min") minL1:=by
 subst k;intro pins s σ H xs us Q I Y h;obtain ⟨F,d,x,J,e,q,p⟩:=kE (fun ds=>by match ds with|[d]=>exact .inl ⟨d,rfl⟩|[]=>exact .inr rfl|a::b::c=>exact .inr (by unfold minL1;split<;>simp_all)) h;subst e;obtain ⟨u,rfl,U⟩:=Y.one
 match d,q,p with
 |.lst [d],q,p=>
  obtain ⟨a,ys,e1,t,v,vs,e2,q1,q2⟩:=q;subst e1 e2;cases (show vs=[] from q2);cases U;obtain ⟨its,S,pl,l⟩:=I.list (J.lst t);cases S with
  |cons g f=>
   cases f;exact min_one (I.ok.hd j) pl.isList fun h' tk i=>⟨v,H,I.kept (t':=tk) i,g,(show aw X.K W c_ F H (.ok d) Q from p) v F H (Step.refl J) q1⟩
 |.lst [],q,p=>exact aw.stuck p
 |.lst (a::b::c),q,p=>exact aw.stuck p
 |.dil _,q,p=>exact aw.stuck p
 |.non,q,p=>exact aw.stuck p
 |.bl _,q,p=>exact aw.stuck p
 |.int _,q,p=>exact aw.stuck p
 |.str _,q,p=>exact aw.stuck p
 |.tup _,q,p=>exact aw.stuck p
 |.ins _ _,q,p=>exact aw.stuck p
 |.dic _,q,p=>exact aw.stuck p
end
section
variable {W:ck} 
theorem kU {J:List Dt}:DSs K W ro X OL O O' J sStk:=fun F0 H0 pins s σ H D I h=>by
 obtain ⟨FB,F,ρ,r,p⟩:=h;exact (W.ns p).elim
end
structure B7 where
 f:h_
 c:i_
 A:D0
 o:List J8
 s:t_
 H:Hp
 E:XK
section
variable {P:Cn} {base:CQ} {q:Cy} 
def YO (_:∃f fd,Def K mg x st ps f fd) (P:Cn) (w:Dv) (base:CQ) (k:Nat) (ro:Bool) (m:List Dat->M Dat):Prop:=∃f fd,Yd P w K mg base CX0 k x st ps (spF K ro m ps.length) f fd
def YX (_:∃f fd,Def K mg x st ps f fd) (P:Cn) (w:Dv) (base:CQ) (k:Nat) (ro:Bool) (m:List Dat->M Dat):Prop:=∃f fd,Yd P w K mg base (CXd P w) k x st ps (spX K ro m ps.length) f fd
def YM (_:∃f fd,Mth K C x q st ps f fd) (P:Cn) (w:Dv) (mg:Mq) (base:CQ) (k:Nat) (ro:Bool) (m:List Dat->M Dat):Prop:=∃f fd,Mth K C x q st ps f fd/\iN P w K mg base CX0 k f fd ps (spF K ro m ps.length)
theorem fY (N:List Cy) {h:∃f fd,Def K mg x st ps f fd}
  (U:∀z:B7,N.Nodup->gz k (z.A.deeper (FV x (aB st) z.s.heap.objs.size z.f z.c))->DSs K Wno ro (xm CX0 P w K mg base N x (aB st) z.f z.c z.A z.o z.s z.H z.E).nox [] [] [] (br st) g)
  (S:gq N ps (aB st):=by exact ⟨rfl,rfl,rfl,by decide +kernel,rfl,by decide +kernel,by decide +kernel⟩):YO h P w base (k+1) ro (bL N.length ps.length g):=
 let ⟨f,fd,D⟩:=h
 ⟨f,fd,D,fn_D D.fn S ro g fun c A o s H E J=>U ⟨f,c,A,o,s,H,E⟩ S.nd J⟩
theorem fX (N:List Cy) {h:∃f fd,Def K mg x st ps f fd}
  (U:∀z:B7,N.Nodup->gz k (z.A.deeper (FV x (aB st) z.s.heap.objs.size z.f z.c))->DSs K (WE K z.E) ro (xm (CXd P w) P w K mg base N x (aB st) z.f z.c z.A z.o z.s z.H z.E) [] [] [] (br st) g)
  (S:gq N ps (aB st):=by exact ⟨rfl,rfl,rfl,by decide +kernel,rfl,by decide +kernel,by decide +kernel⟩):YX h P w base (k+1) ro (bL N.length ps.length g):=
 let ⟨f,fd,D⟩:=h
 ⟨f,fd,D,fn_X D.fn S ro g fun c A o s H E J=>U ⟨f,c,A,o,s,H,E⟩ S.nd J⟩
theorem fM (N:List Cy) {h:∃f fd,Mth K C x q st ps f fd}
  (U:∀z:B7,N.Nodup->gz k (z.A.deeper (FV q (aB st) z.s.heap.objs.size z.f z.c))->DSs K Wno ro (xm CX0 P w K mg base N q (aB st) z.f z.c z.A z.o z.s z.H z.E).nox [] [] [] (br st) g)
  (S:gq N ps (aB st):=by exact ⟨rfl,rfl,rfl,by decide +kernel,rfl,by decide +kernel,by decide +kernel⟩):YM h P w mg base (k+1) ro (bL N.length ps.length g):=
 let ⟨f,fd,D⟩:=h
 ⟨f,fd,D,fn_D D.fn S ro g fun c A o s H E J=>U ⟨f,c,A,o,s,H,E⟩ S.nd J⟩
end
section
variable {W:ck} {a b d:Dr} {f:ah->M Dat} {fr:ah->M (List Dat)}
theorem dY (Y:∃f fd,Yd X.prog X.w X.K X.mg X.base CX0 k x st ps (spF K ro (bL nN n g) n) f fd) (a:gz j X.A)
  (d:DA K Wno X (e::es) fr) (b:(k<=j)⁻¹) (c: ~~~(Gl X x)) (U:((x==("__debug__":Cy))=c_)⁻¹) (J: ~~~(j_ (e::es) X.env=(c_,Cf e X.env)::j_ es X.env)) (S: ~~~((CZ pos (j_ es X.env)).any (·.1)=c_)) :
  DE K Wno ro X (.Call (.Name x p) (e::es) [] pos) (fL (bL nN n g) fr):=let ⟨_,_,Y⟩:=Y;de_call Y.o (a.mono b) Y.d.mg Y.d.fn.kp Y.d.bd d c U J S
theorem da1 (S:DE K W c_ X a fa) (J: ~~~(j_ [a] X.env=[(c_,Cf a X.env)])):DA K W X [a] (a9 fa ax):=bH S bB J
theorem da2 (Y:DE K W c_ X a fa) (U:DE K W c_ X b fb) (S: ~~~(j_ [a,b] X.env=[(c_,Cf a X.env),(c_,Cf b X.env)])) (J: ~~~(j_ [b] X.env=[(c_,Cf b X.env)])):DA K W X [a,b] (a9 fa (a9 fb ax)):=bH Y (da1 U J) (by rw [S,J])
theorem da3 {f1 J:ah->M Dat} (h1:DE K W c_ X e1 f1) (h2:DE K W c_ X e2 J) (a:DE K W c_ X e3 f3) (Y: ~~~(j_ [e1,e2,e3] X.env=(c_,Cf e1 X.env)::j_ [e2,e3] X.env)) (U: ~~~(j_ [e2,e3] X.env=(c_,Cf e2 X.env)::j_ [e3] X.env)) (S: ~~~(j_ [e3] X.env=(c_,Cf e3 X.env)::j_ [] X.env)):DA K W X [e1,e2,e3] (a9 f1 (a9 J (a9 f3 ax))):=(bH h1 (bH h2 (bH a bB S) U) Y)
theorem da4 {f1 J:ah->M Dat} (h1:DE K W c_ X e1 f1) (h2:DE K W c_ X e2 J) (c:DE K W c_ X e3 f3) (b:DE K W c_ X e4 f4) (a: ~~~(j_ [e1,e2,e3,e4] X.env=(c_,Cf e1 X.env)::j_ [e2,e3,e4] X.env)) (Y: ~~~(j_ [e2,e3,e4] X.env=(c_,Cf e2 X.env)::j_ [e3,e4] X.env)) (U: ~~~(j_ [e3,e4] X.env=(c_,Cf e3 X.env)::j_ [e4] X.env)) (S: ~~~(j_ [e4] X.env=(c_,Cf e4 X.env)::j_ [] X.env)):DA K W X [e1,e2,e3,e4] (a9 f1 (a9 J (a9 f3 (a9 f4 ax)))):=(bH h1 (bH h2 (bH c (bH b bB S) U) Y) a)
theorem da5 {f1 J:ah->M Dat} (h1:DE K W c_ X e1 f1) (h2:DE K W c_ X e2 J) (e:DE K W c_ X e3 f3) (d:DE K W c_ X e4 f4) (c:DE K W c_ X e5 f5) (b: ~~~(j_ [e1,e2,e3,e4,e5] X.env=(c_,Cf e1 X.env)::j_ [e2,e3,e4,e5] X.env)) (a: ~~~(j_ [e2,e3,e4,e5] X.env=(c_,Cf e2 X.env)::j_ [e3,e4,e5] X.env)) (Y: ~~~(j_ [e3,e4,e5] X.env=(c_,Cf e3 X.env)::j_ [e4,e5] X.env)) (U: ~~~(j_ [e4,e5] X.env=(c_,Cf e4 X.env)::j_ [e5] X.env)) (S: ~~~(j_ [e5] X.env=(c_,Cf e5 X.env)::j_ [] X.env)):DA K W X [e1,e2,e3,e4,e5] (a9 f1 (a9 J (a9 f3 (a9 f4 (a9 f5 ax))))):=(bH h1 (bH h2 (bH e (bH d (bH c bB S) U) Y) a) b)
theorem da6 {J:Dr} {f1 U S:ah->M Dat} (h1:DE K W c_ X e1 f1) (h2:DE K W c_ X e2 U) (i:DE K W c_ X e3 f3) (h:DE K W c_ X e4 f4) (g:DE K W c_ X e5 f5) (f:DE K W c_ X J S) (e: ~~~(j_ [e1,e2,e3,e4,e5,J] X.env=(c_,Cf e1 X.env)::j_ [e2,e3,e4,e5,J] X.env)) (d: ~~~(j_ [e2,e3,e4,e5,J] X.env=(c_,Cf e2 X.env)::j_ [e3,e4,e5,J] X.env)) (c: ~~~(j_ [e3,e4,e5,J] X.env=(c_,Cf e3 X.env)::j_ [e4,e5,J] X.env)) (b: ~~~(j_ [e4,e5,J] X.env=(c_,Cf e4 X.env)::j_ [e5,J] X.env)) (a: ~~~(j_ [e5,J] X.env=(c_,Cf e5 X.env)::j_ [J] X.env)) (Y: ~~~(j_ [J] X.env=(c_,Cf J X.env)::j_ [] X.env)):DA K W X [e1,e2,e3,e4,e5,J] (a9 f1 (a9 U (a9 f3 (a9 f4 (a9 f5 (a9 S ax)))))):=(bH h1 (bH h2 (bH i (bH h (bH g (bH f bB Y) a) b) c) d) e)
theorem aO (a:X.N.Nodup) (Y:DE K W c_ X e f) (hi: ~~~(X.N[i]? =a_ x)) (J:autoParam (Loc X.env.scope x) Jq6) (S: ~~~(Dx e (a_ (.Name x pos')) pos.line X.env=DC c_)) (U:autoParam (X.fn x=f_\/X.env.scope.names.lookup x=a_ .local) Jq4) :
  DS K W ro X OL O (aft c_ i O) (.Assign [.Name x pos'] e pos) (ay O i f):=Br a Y hi J S U
theorem j8 (a:X.N.Nodup) (Y:DE K W f_ X e f) (hi: ~~~(X.N[i]? =a_ x)) (J:autoParam (Loc X.env.scope x) Jq6) (S: ~~~(Dx e (a_ (.Name x pos')) pos.line X.env=DC c_)) (U:autoParam (X.fn x=f_\/X.env.scope.names.lookup x=a_ .local) Jq4) :
  DS K W ro X OL O (aft f_ i O) (.Assign [.Name x pos'] e pos) (ay O i f):=Br a Y hi J S U
end
section
variable {f:h_} {q:Cy} {kV:i_}
theorem dF (S:K.In h) (G:h.Ns CS mg) (a:autoParam (Mu K CS x=a_ (a_ (.ref f))) Jq2) (l:autoParam (K.lookup f=a_ ⟨oc,od,.func (Jf x x (cN st) (br st) (aB st) .none kV doc pm an cdv ct),osl⟩) Jq2) (c:autoParam (J0 K cdv x=f_) Jq2) (k:autoParam (FH K (.ref f)=f_) Jq2)
  (J:∀(kV doc pm:i_) (an:Option h_) (cdv ct:i_) (us:List i_),us.length=ps.length->IQ (Jf x x (cN st) (br st) (aB st) .none kV doc pm an cdv ct) ⟨us,[]⟩=DC (ps.zip us)):∃f fd,Def K mg x st ps f fd:=⟨_,_,def_of S G a l c k J⟩
theorem mF (a:autoParam (Cm K (.ref C) x=a_ (a_ (.ref f))) Jq2) (i:autoParam (GD K (.ref f)=f_) Jq2) (l:autoParam (K.lookup f=a_ ⟨oc,od,.func (Jf x q (cN st) (br st) (aB st) .none kV doc pm an cdv ct),osl⟩) Jq2) (c:autoParam (J0 K cdv q=f_) Jq2) (k:autoParam (FH K (.ref f)=f_) Jq2)
  (J:∀(kV doc pm:i_) (an:Option h_) (cdv ct:i_) (us:List i_),us.length=ps.length->IQ (Jf x q (cN st) (br st) (aB st) .none kV doc pm an cdv ct) ⟨us,[]⟩=DC (ps.zip us)):∃f fd,Mth K C x q st ps f fd:=⟨_,_,mth_of a i l c k J⟩
theorem kF (g:K.In h) (G:h.Ns CS mg) (a:autoParam (Mu K CS x=a_ (a_ (.ref C))) Jq2) (U:autoParam (Fv K C Mw=f_) Jq2) (hd:autoParam (Fc K C=f_) Jq2) (S:autoParam (LA K C=f_) Jq2)
  (J:autoParam (Cm K (.ref C) "__setattr__"=a_ (a_ (.builtin "object.__setattr__"))) Jq2) (Y:autoParam (Gq K C=f_) Jq2) (b:autoParam (FH K (.ref C)=f_) Jq2)
  (f:autoParam (Cm K (.ref C) "__class__"=a_ (a_ (.builtin "object.__class__"))) Jq2) (e:autoParam (I9 K (.builtin "object.__class__") "__get__"=a_ (a_ (.builtin "getset_descriptor.__get__"))) Jq2)
  (d:autoParam (Nn K (.builtin "object.__class__")=a_ f_) Jq2) (c:autoParam (DM K C (.type "object")=a_ f_) Jq2):Kls K mg x C:=kls_of g G a U hd S J Y b f e d c
theorem xF (b:K.In h) (G:h.Ns CS mg) (a:autoParam (Mu K CS x=a_ (a_ (.ref C))) Jq2) (i:autoParam (Cm K (.ref C) "__init__"=a_ (a_ (.ref f))) Jq2) (ex:kf K C [.type "ValueError",.type "Exception",.type "BaseException",.type "object"] "ValueError.__new__" f=f_:=by first|k_is|kernel_rfl)
  (U:autoParam (Cm K (.ref C) "__getattribute__"=a_ (a_ (.builtin "BaseException.__getattribute__"))) Jq2) (Y:autoParam (Cm K (.ref C) "__class__"=a_ (a_ (.builtin "object.__class__"))) Jq2) (S:autoParam (Cm K (.ref C) "__getattr__"=a_ d_) Jq2)
  (bs:autoParam (DM K C (.type "BaseException")=a_ f_) Jq2) (J:autoParam (DM K C (.type "object")=a_ f_) Jq2) (is:(J1 K C).isSome=f_:=by first|k_is|kernel_rfl):XTry K mg x C:=
 ⟨mg_of b G a,xnamed2 ex,⟨U,Y,S,bs,J,E2.mp is⟩⟩
theorem xM (U:K.In h) (G:h.Ns CS mg) (N:∃f fd,Mth K C "__init__" q st ps f fd) (a:autoParam (Mu K CS x=a_ (a_ (.ref C))) Jq2) (i:autoParam (Cm K (.ref C) "__init__"=a_ (a_ (.ref f))) Jq2) (ex:kf K C [.type "ValueError",.type "Exception",.type "BaseException",.type "object"] "ValueError.__new__" f=f_:=by first|k_is|kernel_rfl)
  (S:autoParam (GD K (.ref f)=f_) Jq2) (J:autoParam (FH K (.ref C)=f_) Jq2):∃f fd,Mth K C "__init__" q st ps f fd/\XMk K mg x C f:=by
 obtain ⟨Y,fd,M⟩:=N;have e:=M.mt.1.symm.trans i;cases e;exact ⟨_,fd,M,mg_of U G a,ex,EI.mp S,J⟩
theorem lF (U:K.In h) (G:h.Ns CS mg) (a:autoParam (Mu K CS x=a_ (a_ (.ref f))) Jq2) (l:autoParam (K.lookup f=a_ ⟨oc,od,.func (Jf x x (cN st) (br st) (aB st) .none kV doc pm an cdv ct),osl⟩) Jq2) (c:autoParam (J0 K cdv x=f_) Jq2) (k:autoParam (FH K (.ref f)=f_) Jq2)
  (J:∀(kV doc pm:i_) (an:Option h_) (cdv ct:i_) (v:i_),IQ (Jf x x (cN st) (br st) (aB st) .none kV doc pm an cdv ct) ⟨[v],[]⟩=DC [(y,v)]:=by intros;rfl):∃f fd,Def K mg x st [y] f fd/\∀(s:t_) (v:i_),Io s fd ⟨[v],[]⟩ [(y,v)]:=
 ⟨_,_,def_of U G a l c k fun _ _ _ _ _ _ us S=>match us,S with|[_],_=>J ..,fun _ _=>.of_eq (J ..)⟩
theorem Fun.uniq {J:EZ} (a:Fun K x q st f fd) (b:Fun K x q st f J):fd=J:=by
 obtain ⟨oc,od,kV,doc,pm,an,cdv,ct,osl,rfl,i,_⟩:=a.ex;obtain ⟨h,g,j,Y,d,l,c,k,U,rfl,S,_⟩:=b.ex;have e:=i.symm.trans S;cases e;rfl
end
end L2
namespace Ru
open PySem L2 PyProof.Rows
variable {K:Fg} {mg:Mq} {C CL:h_} {fd:EZ} {n m i k j s:Nat} {d:Dat} {u x:Int} {ts ks:List Int} {rows:List (List Int)}
def fy (CR CL:h_) (n:Nat):ah->M Flo:=
 sIf (fB (f2 gtD (fL qz (a9 (aa 2) ax)) (fC (.int 0))))
   (ay [] 3 (f2 jy (f2 ixD (aa 2) (f2 jy (aa 1) (fL qz (a9 (aa 2) ax)))) (f2 powD (fC (.int 10)) (fC (.int 24)))))
   cG
def gW (CR CL:h_) (n:Nat):ah->M Flo:=
 (aP (ay [] 2 (fSl ie (aa 0) uZ (mB (fC (.int 63)))))
  (aP (ay [] 3 (f2 hG (f2 rF (fC (.int 11)) (aa 1)) (fC (.int 3))))
  (aP (fy CR CL n)
  (aP (ay [] 4 (f2 jy (f2 rF (f2 hG (f2 hG (aa 3) (f2 rF (f2 rF (aa 1) (aa 1)) (fC (.int 7919)))) (fL qz (a9 (aa 2) ax))) (fC (.int 48271))) (fC (.int 2305843009213693951))))
  (d7 (f2 jy (f2 hG (f2 rF (aa 4) (fC (.int 1442695040888963407))) (fC (.int 4321))) (fC (.int 2305843009213693921))))))))
def bw (CR CL:h_) (n:Nat):List Dat->M Dat:=bL 5 2 (gW CR CL n)
def eW (CR CL:h_) (n:Nat):ah->M Flo:=
 sIf (fB (f2 eqM (f2 jy (aa 7) (fC (.int 16))) (fC (.int 15))))
   (ay [3,5] 8 (f2 jy (f2 jC (aa 7) (fC (.int 16))) (f2 hG (f2 powD (fC (.int 10)) (fC (.int 6))) (fC (.int 1)))))
   cG
def eV (CR CL:h_) (n:Nat):ah->M Flo:=
 sIf (fB (f2 ltD (f2 jy (aa 7) (fC (.int 16))) (fC (.int 3))))
   (ay [3,5] 8 (fC (.int 0)))
   cG
def bR (CR CL:h_) (n:Nat):ah->M Flo:=
 (aP (ay [3,5] 7 (fL (bw CR CL n) (a9 (aa 0) (a9 (f2 hG (f2 hG (aa 1) (f2 rF (aa 4) (aa 2))) (aa 6)) ax))))
  (aP (ay [3,5] 8 (f2 jy (f2 jC (aa 7) (fC (.int 16))) (fC (.int 7))))
  (aP (eW CR CL n)
  (aP (eV CR CL n)
  (gM [3,5] 5 (aa 8))))))
def gZ (CR CL:h_) (n:Nat):ah->M Flo:=
 (aP (ay [3] 5 (fL cz ax))
  (aP (gL [3,5] (gF j6 (a9 (aa 2) ax)) (.nm 6) (bR CR CL n))
  (gM [3] 3 (aa 5))))
def mY (CR CL:h_) (n:Nat):ah->M Flo:=
 (aP (ay [] 3 (fL cz ax))
  (aP (gL [3] (gF j6 (a9 (aa 2) ax)) (.nm 4) (gZ CR CL n))
  (d7 (aa 3))))
def gR (CR CL:h_) (n:Nat):List Dat->M Dat:=bL 9 3 (mY CR CL n)
def k8 (CR CL:h_) (n:Nat):ah->M Flo:=
 (d7 (cj (fIt (aa 0)) [d_] (.nm 0) g7 (fL kJ (a9 (aa 0) ax))))
def eQ (CR CL:h_) (n:Nat):List Dat->M Dat:=bL 1 1 (k8 CR CL n)
def pA (CR CL:h_) (n:Nat):ah->M Flo:=
 sIf (fOr (zt (wY (f1 m5 (aa 0)))) (wY (f1 jY (aa 0))))
   (d7 (fC (.bl c_)))
   cG
def wV (CR CL:h_) (n:Nat):ah->M Flo:=
 (aP (pA CR CL n)
  (d7 (i6 leD leD (fC (.int 0)) (aa 0) (fC (.int 1000000)))))
def iV (CR CL:h_) (n:Nat):List Dat->M Dat:=bL 1 1 (wV CR CL n)
def lp (CR CL:h_) (n:Nat):ah->M Flo:=
 (d7 (tB (f1 ee (aa 0)) (tB (f2 eqM (fL qz (a9 (aa 0) ax)) (aa 1)) (fL allD (a9 (cj (fIt (aa 0)) [d_] (.nm 0) g7 (fL (iV CR CL n) (a9 (aa 0) ax))) ax)))))
def cV (CR CL:h_) (n:Nat):List Dat->M Dat:=bL 2 2 (lp CR CL n)
def i8 (CR CL:h_) (n:Nat):ah->M Flo:=
 sIf (zt (fB (i6 leD leD (fC (.int 1)) (aa 1) (fC (.int 6)))))
   sStk
   cG
def i7 (CR CL:h_) (n:Nat):ah->M Flo:=
 sIf (zt (wY (fL allD (a9 (cj (fIt (aa 0)) [d_,a_ 1] (.nm 0) g7 (fL (cV CR CL n) (a9 (aa 0) (a9 (aa 1) ax)))) ax))))
   sStk
   cG
def jf (CR CL:h_) (n:Nat):ah->M Flo:=
 (aP (ay [] 1 (fL qz (a9 (aa 0) ax)))
  (aP (i8 CR CL n)
  (aP (i7 CR CL n)
  (d7 (fL (eQ CR CL n) (a9 (aa 0) ax))))))
def aY (CR CL:h_) (n:Nat):List Dat->M Dat:=bL 2 1 (jf CR CL n)
def bX (CR CL:h_) (n:Nat):ah->M Flo:=
 sIf (fB (f2 eqM (f2 jy (aa 6) (fC (.int 8))) (fC (.int 1))))
   (ay [4] 8 (f2 powD (fC (.int 10)) (fC (.int 9))))
   cG
def bW (CR CL:h_) (n:Nat):ah->M Flo:=
 sIf (fB (f2 eqM (f2 jy (aa 6) (fC (.int 8))) (fC (.int 2))))
   (ay [4] 8 (f2 hG (aa 7) (f2 jy (f2 jC (aa 6) (fC (.int 512))) (fC (.int 4)))))
   cG
def bV (CR CL:h_) (n:Nat):ah->M Flo:=
 sIf (fB (f2 eqM (f2 jy (aa 6) (fC (.int 8))) (fC (.int 3))))
   (ay [4] 10 (f2 jy (aa 6) (f2 hG (f2 powD (fC (.int 10)) (fC (.int 9))) (fC (.int 1)))))
   cG
def b9 (CR CL:h_) (n:Nat):ah->M Flo:=
 (aP (ay [4] 6 (fL (bw CR CL n) (a9 (aa 0) (a9 (f2 hG (aa 1) (aa 5)) ax))))
  (aP (ay [4] 7 (f2 jy (f2 jC (aa 6) (fC (.int 8))) (fC (.int 30))))
  (aP (ay [4] 8 (f2 hG (aa 7) (f2 jy (f2 jC (aa 6) (fC (.int 512))) (fC (.int 40)))))
  (aP (bX CR CL n)
  (aP (bW CR CL n)
  (aP (ay [4] 9 (f2 jy (f2 jC (aa 6) (fC (.int 32768))) (fC (.int 50))))
  (aP (ay [4] 10 (f2 jy (f2 jC (aa 6) (fC (.int 2097152))) (fC (.int 7))))
  (aP (bV CR CL n)
  (gM [4] 4 (fL bo (a9 (f2 jy (f2 jC (aa 6) (fC (.int 16777216))) (aa 2)) (a9 (aa 7) (a9 (aa 8) (a9 (aa 9) (a9 (aa 10) ax)))))))))))))))
def jg (CR CL:h_) (n:Nat):ah->M Flo:=
 (aP (ay [] 4 (fL cz ax))
  (aP (gL [4] (gF j6 (a9 (aa 3) ax)) (.nm 5) (b9 CR CL n))
  (d7 (aa 4))))
def dW (CR CL:h_) (n:Nat):List Dat->M Dat:=bL 11 4 (jg CR CL n)
def fH (CR CL:h_) (n:Nat):ah->M Flo:=
 (aP (ay [2] 4 (fL (bw CR CL n) (a9 (aa 0) (a9 (f2 hG (f2 hG (aa 1) (fC (.int 1))) (aa 3)) ax))))
  (aP (ay [2] 5 (f2 jy (f2 jC (aa 4) (fC (.int 8))) (fC (.int 40))))
  (gM [2] 2 (fL bo (a9 (aa 5) (a9 (f2 hG (f2 hG (aa 5) (fC (.int 1))) (f2 jy (f2 jC (aa 4) (fC (.int 512))) (fC (.int 9)))) ax))))))
def k9 (CR CL:h_) (n:Nat):ah->M Flo:=
 (aP (ay [] 2 (fL cz ax))
  (aP (gL [2] (gF j6 (a9 (f2 jy (f2 jC (fL (bw CR CL n) (a9 (aa 0) (a9 (aa 1) ax))) (fC (.int 64))) (fC (.int 4))) ax)) (.nm 3) (fH CR CL n))
  (d7 (aa 2))))
def eR (CR CL:h_) (n:Nat):List Dat->M Dat:=bL 6 2 (k9 CR CL n)
def jk (CR CL:h_) (n:Nat):ah->M Flo:=
 sIf (fB (f2 neM (aa 12) (aa 8)))
   (ay [5] 13 (f2 ixD (f2 ixD (aa 1) (f2 ixD (f2 ixD (aa 2) (aa 11)) (fC (.int 0)))) (f2 ixD (f2 ixD (aa 2) (aa 7)) (fC (.int 0)))))
   cG
def e9 (CR CL:h_) (n:Nat):ah->M Flo:=
 (aP (sv [5] (.tp [11,12]) (f2 ixD (aa 4) (aa 10)))
  (aP (ay [5] 13 (f2 ixD (f2 ixD (aa 0) (f2 ixD (f2 ixD (aa 2) (aa 11)) (fC (.int 0)))) (f2 ixD (f2 ixD (aa 2) (aa 7)) (fC (.int 0)))))
  (aP (jk CR CL n)
  (sx c_ 9 (fL maxD (a9 (aa 9) (a9 (f2 hG (f2 ixD (aa 5) (aa 10)) (aa 13)) ax)))))))
def dX (CR CL:h_) (n:Nat):ah->M Flo:=
 sIf (fB (i6 leD ltD (aa 15) (aa 9) (aa 16)))
   (ay [5] 9 (aa 16))
   cG
def cf (CR CL:h_) (n:Nat):ah->M Flo:=
 (dX CR CL n)
def e8 (CR CL:h_) (n:Nat):ah->M Flo:=
 (gL [5] (fIt (aa 3)) (.tp [15,16]) (cf CR CL n))
def gp (CR CL:h_) (n:Nat):ah->M Flo:=
 sIf (fB (f2 gtD (aa 9) (f2 ixD (f2 ixD (aa 2) (aa 7)) (fC (.int 2)))))
   (d7 (fC .non))
   cG
def bA (CR CL:h_) (n:Nat):ah->M Flo:=
 (aP (sv [5] (.tp [7,8]) (f2 ixD (aa 4) (aa 6)))
  (aP (ay [5] 9 (f2 ixD (f2 ixD (aa 2) (aa 7)) (fC (.int 1))))
  (aP (gL [5] (gF j6 (a9 (aa 6) ax)) (.nm 10) (e9 CR CL n))
  (aP (gL [5] (gF j6 (a9 (fL qz (a9 (aa 3) ax)) ax)) (.nm 14) (e8 CR CL n))
  (aP (gp CR CL n)
  (gM [5] 5 (aa 9)))))))
def iB (CR CL:h_) (n:Nat):ah->M Flo:=
 (aP (ay [] 5 (fL cz ax))
  (aP (gL [5] (gF j6 (a9 (fL qz (a9 (aa 4) ax)) ax)) (.nm 6) (bA CR CL n))
  (d7 (aa 5))))
def cW (CR CL:h_) (n:Nat):List Dat->M Dat:=bL 17 5 (iB CR CL n)
def jj (CR CL:h_) (n:Nat):ah->M Flo:=
 sIf (fB (f2 eqM (aa 1) (fC (.int 0))))
   (d7 (fL cz (a9 (fL bo ax) ax)))
   cG
def lq (CR CL:h_) (n:Nat):ah->M Flo:=
 (aP (jj CR CL n)
  (aP (ay [] 2 (fL cz ax))
  sStk))
def fS (CR CL:h_) (n:Nat):List Dat->M Dat:=bL 6 2 (lq CR CL n)
def iA (CR CL:h_) (n:Nat):ah->M Flo:=
 (aP (ay [] 3 (fTR (gF j6 (a9 (fL maxD (a9 (fC (.int 0)) (a9 (f2 subD (aa 2) (aa 1)) ax))) ax))))
  (aP (ay [] 4 (fLR (gF uM (a9 (fL qz (a9 (aa 3) ax)) (a9 (fL minD (a9 (aa 0) (a9 (f2 hG (aa 2) (aa 1)) ax))) ax)))))
  (d7 (cj (fIt (fL (fS CR CL n) (a9 (aa 4) (a9 (f2 subD (aa 2) (fL qz (a9 (aa 3) ax))) ax)))) [d_,a_ 3] (.nm 0) g7 (f2 hG (aa 1) (aa 0))))))
def cC (CR CL:h_) (n:Nat):List Dat->M Dat:=bL 5 3 (iA CR CL n)
def i3 (CR CL:h_) (n:Nat):ah->M Flo:=
 (d7 (cj (ji (aa 0)) [d_,d_,a_ 0] (.tp [0,1]) g7 (fL bo (a9 (f2 hG (fSl ie (aa 2) uZ (mB (aa 0))) (fSl ie (aa 2) (mB (f2 hG (aa 0) (fC (.int 1)))) uZ)) (a9 (aa 1) ax)))))
def b8 (CR CL:h_) (n:Nat):List Dat->M Dat:=bL 1 1 (i3 CR CL n)
def fF (CR CL:h_) (n:Nat):ah->M Flo:=
 (uK 4 (aa 5) (fL sumD (a9 (cj (fIt (fL (b8 CR CL n) (a9 (aa 5) ax))) [d_,d_,a_ 2] (.tp [0,1]) g7 (n6 (aa 2) (aa 0) (fC (.int 0)))) ax)))
def dz (CR CL:h_) (n:Nat):ah->M Flo:=
 (aP (ay [] 4 (fC (.dic [])))
  (aP (gL [4] (fIt (fL (cC CR CL n) (a9 (aa 0) (a9 (aa 1) (a9 (aa 3) ax))))) (.nm 5) (fF CR CL n))
  (ay [] 2 (aa 4))))
def jZ (CR CL:h_) (n:Nat):ah->M Flo:=
 (aP (ay [] 2 (f2 mkD1 (fL bo ax) (fC (.int 1))))
  (aP (gL [] (gF uM (a9 (fC (.int 1)) (a9 (f2 hG (aa 0) (fC (.int 1))) ax))) (.nm 3) (dz CR CL n))
  (d7 (f1 xN (aa 2)))))
def eO (CR CL:h_) (n:Nat):List Dat->M Dat:=bL 6 2 (jZ CR CL n)
def f9 (CR CL:h_) (n:Nat):ah->M Flo:=
 (d7 (fC (.int 1)))
def aJ (CR CL:h_) (n:Nat):List Dat->M Dat:=bL 1 1 (f9 CR CL n)
def dZ (CR CL:h_) (n:Nat):ah->M Flo:=
 (ay [] 3 (f2 rF (aa 3) (eT CR "many_strips" (aJ CR CL n) (aa 0) ax)))
def lj (CR CL:h_) (n:Nat):ah->M Flo:=
 (aP (ay [] 3 (fL (eO CR CL n) (a9 (aa 1) (a9 (aa 2) ax))))
  (aP (gL [] (gF j6 (a9 (aa 1) ax)) (.nm 4) (dZ CR CL n))
  (d7 (aa 3))))
def fQ (CR CL:h_) (n:Nat):List Dat->M Dat:=bL 5 3 (lj CR CL n)
def fw (CR CL:h_) (n:Nat):ah->M Flo:=
 sIf (fB (f2 gtD (fL (fQ CR CL n) (a9 (aa 0) (a9 (fL qz (a9 (aa 1) ax)) (a9 (aa 2) ax)))) (fC (.int 5000))))
   sStk
   cG
def gD (CR CL:h_) (n:Nat):ah->M Flo:=
 (fw CR CL n)
def cH (CR CL:h_) (n:Nat):List Dat->M Dat:=bL 3 3 (gD CR CL n)
def cu (CR CL:h_) (n:Nat):ah->M Flo:=
 (sExt [2] 2 (fL (cC CR CL n) (a9 (aa 0) (a9 (aa 1) (a9 (aa 3) ax)))))
def i5 (CR CL:h_) (n:Nat):ah->M Flo:=
 (aP (ay [] 2 (fL cz ax))
  (aP (gL [2] (gF j6 (a9 (f2 hG (aa 0) (fC (.int 1))) ax)) (.nm 3) (cu CR CL n))
  (d7 (aa 2))))
def cS (CR CL:h_) (n:Nat):List Dat->M Dat:=bL 4 2 (i5 CR CL n)
def lQ (CR CL:h_) (n:Nat):ah->M Flo:=
 sStk
def jd (CR CL:h_) (n:Nat):ah->M Flo:=
 (aP (gL [] (fIt (aa 0)) (.nm 2) (lQ CR CL n))
  (d7 (fC (.bl c_))))
def gk (CR CL:h_) (n:Nat):List Dat->M Dat:=bL 3 2 (jd CR CL n)
def iK (CR CL:h_) (n:Nat):ah->M Flo:=
 sIf (zt (wY (fL (gk CR CL n) (a9 (aa 1) (a9 (aa 2) ax)))))
   (gM [1] 1 (aa 2))
   cG
def iL (CR CL:h_) (n:Nat):ah->M Flo:=
 (iK CR CL n)
def gU (CR CL:h_) (n:Nat):ah->M Flo:=
 (aP (ay [] 1 (fL cz ax))
  (aP (gL [1] (fIt (fL jN (a9 (aa 0) ax))) (.nm 2) (iL CR CL n))
  (d7 (aa 1))))
def bN (CR CL:h_) (n:Nat):List Dat->M Dat:=bL 3 1 (gU CR CL n)
def fW (CR CL:h_) (n:Nat):ah->M Flo:=
 (d7 (fL qz (a9 (f1 (zi [CR] "gaps") (aa 0)) ax)))
def cn (CR CL:h_) (n:Nat):List Dat->M Dat:=bL 1 1 (fW CR CL n)
def k7 (CR CL:h_) (n:Nat):ah->M Flo:=
 (aP (ay [] 1 (fL mi (a9 (cj (gF j6 (a9 (eT CR "many_kinds" (cn CR CL n) (aa 0) ax) ax)) [d_] (.nm 0) g7 (f1 negD (fC (.int 1)))) ax)))
  (d7 (fL bo (a9 (fC (.int 0)) (a9 (fL mi (a9 (cj (gF j6 (a9 (eT CR "many_strips" (aJ CR CL n) (aa 0) ax) ax)) [d_,a_ 1] (.nm 0) g7 (aa 1)) ax)) ax)))))
def eP (CR CL:h_) (n:Nat):List Dat->M Dat:=bL 2 1 (k7 CR CL n)
def bD (CR CL:h_) (n:Nat):ah->M Flo:=
 sIf (Bf (wY (aa 1)) (fB (f2 leD (aa 2) (f2 ixD (f2 ixD (aa 1) (f1 negD (fC (.int 1)))) (fC (.int 1))))))
   (uI 1 (f1 negD (fC (.int 1))) (fL bo (a9 (f2 ixD (f2 ixD (aa 1) (f1 negD (fC (.int 1)))) (fC (.int 0))) (a9 (fL maxD (a9 (aa 3) (a9 (f2 ixD (f2 ixD (aa 1) (f1 negD (fC (.int 1)))) (fC (.int 1))) ax))) ax))))
   (gM [1] 1 (fL bo (a9 (aa 2) (a9 (aa 3) ax))))
def bc (CR CL:h_) (n:Nat):ah->M Flo:=
 (bD CR CL n)
def fV (CR CL:h_) (n:Nat):ah->M Flo:=
 (aP (ay [] 1 (fL cz ax))
  (aP (gL [1] (fIt (fL kz (a9 (aa 0) ax))) (.tp [2,3]) (bc CR CL n))
  (d7 (aa 1))))
def cm (CR CL:h_) (n:Nat):List Dat->M Dat:=bL 4 1 (fV CR CL n)
def kl (CR CL:h_) (n:Nat):ah->M Flo:=
 sIf (fB (i6 leD ltD (aa 2) (aa 1) (aa 3)))
   (d7 (aa 3))
   cG
def gY (CR CL:h_) (n:Nat):ah->M Flo:=
 (kl CR CL n)
def jA (CR CL:h_) (n:Nat):ah->M Flo:=
 (aP (gL [] (fIt (fL (cm CR CL n) (a9 (aa 0) ax))) (.tp [2,3]) (gY CR CL n))
  (d7 (aa 1)))
def cT (CR CL:h_) (n:Nat):List Dat->M Dat:=bL 4 2 (jA CR CL n)
def ll (CR CL:h_) (n:Nat):ah->M Flo:=
 (aP (uJ 3 (cj (fIt (aa 0)) [d_] (.nm 0) g7 (fL kJ (a9 (aa 0) ax))) (aa 2) (f2 ixD (aa 1) (fC (.int 1))) (f2 ixD (aa 1) (fC (.int 0))))
  (d7 (fL mi (a9 (cj (fIt (aa 3)) [d_] (.nm 0) g7 (fL mi (a9 (aa 0) ax))) ax))))
def fR (CR CL:h_) (n:Nat):List Dat->M Dat:=bL 4 3 (ll CR CL n)
def mW (CR CL:h_) (n:Nat):ah->M Flo:=
 (aP (ay [] 2 (f2 ixD (aa 0) (fC (.int 3))))
  (aP (ay [] 3 (f2 ixD (aa 0) (fC (.int 4))))
  (d7 (f2 rF (aa 3) (fL maxD (a9 (fC (.int 0)) (a9 (f2 subD (aa 1) (aa 2)) ax)))))))
def dN (CR CL:h_) (n:Nat):List Dat->M Dat:=bL 4 2 (mW CR CL n)
def kc (CR CL:h_) (n:Nat):ah->M Flo:=
 (d7 (f2 ixD (f2 ixD (f1 (zi [CR] "gaps") (aa 0)) (f2 ixD (aa 1) (fC (.int 0)))) (f2 ixD (aa 2) (fC (.int 0)))))
def bO (CR CL:h_) (n:Nat):List Dat->M Dat:=bL 3 3 (kc CR CL n)
def dv (CR CL:h_) (n:Nat):ah->M Flo:=
 sIf (fB (f2 neM (aa 7) (f1 negD (fC (.int 1)))))
   (gM [3] 3 (f2 hG (aa 7) (eT CR "apart" (bO CR CL n) (aa 0) (a9 (fL bo (a9 (aa 6) (a9 (aa 4) ax))) (a9 (aa 2) ax)))))
   cG
def cq (CR CL:h_) (n:Nat):ah->M Flo:=
 (dv CR CL n)
def dB (CR CL:h_) (n:Nat):ah->M Flo:=
 (gL [3] (ji (aa 5)) (.tp [6,7]) (cq CR CL n))
def i4 (CR CL:h_) (n:Nat):ah->M Flo:=
 (aP (ay [] 3 (fL cz ax))
  (aP (gL [3] (ji (aa 1)) (.tp [4,5]) (dB CR CL n))
  (d7 (aa 3))))
def cR (CR CL:h_) (n:Nat):List Dat->M Dat:=bL 8 3 (i4 CR CL n)
def eI (CR CL:h_) (n:Nat):ah->M Flo:=
 sIf (fB (f2 gtD (aa 8) (f2 ixD (aa 6) (fC (.int 2)))))
   (d7 (fC .non))
   cG
def gm (CR CL:h_) (n:Nat):ah->M Flo:=
 (aP (ay [] 6 (f2 ixD (aa 1) (aa 4)))
  (aP (ay [] 7 (fL bo (a9 (f2 ixD (aa 6) (fC (.int 0))) (a9 (aa 5) ax))))
  (aP (ay [] 8 (fL (cT CR CL n) (a9 (aa 2) (a9 (fL maxD (a9 (f2 hG (fL cz (a9 (f2 ixD (aa 6) (fC (.int 1))) ax)) (fL (cR CR CL n) (a9 (aa 0) (a9 (f2 ixD (aa 3) (fC (.int 1))) (a9 (aa 7) ax))))) ax)) ax))))
  (aP (eI CR CL n)
  (d7 (fL bo (a9 (f2 hG (f2 ixD (aa 3) (fC (.int 0))) (fL (dN CR CL n) (a9 (aa 6) (a9 (aa 8) ax)))) (a9 (fL (fR CR CL n) (a9 (f2 ixD (aa 3) (fC (.int 1))) (a9 (aa 7) (a9 (aa 8) ax)))) ax))))))))
def bZ (CR CL:h_) (n:Nat):List Dat->M Dat:=bL 9 6 (gm CR CL n)
def dQ (CR CL:h_) (n:Nat):ah->M Flo:=
 sIf (fB (f2 yv (aa 10) (fC .non)))
   (mv 5 (aa 10) (fC (.bl f_)))
   cG
def bI (CR CL:h_) (n:Nat):ah->M Flo:=
 (aP (ay [5] 10 (fL (bZ CR CL n) (a9 (aa 0) (a9 (aa 1) (a9 (aa 2) (a9 (aa 8) (a9 (aa 7) (a9 (aa 9) ax))))))))
  (dQ CR CL n))
def dR (CR CL:h_) (n:Nat):ah->M Flo:=
 (gL [5] (gF j6 (a9 (eT CR "many_strips" (aJ CR CL n) (aa 0) ax) ax)) (.nm 9) (bI CR CL n))
def aX (CR CL:h_) (n:Nat):ah->M Flo:=
 (gL [5] (fIt (n6 (aa 3) (aa 6) (fL cz ax))) (.nm 8) (dR CR CL n))
def iz (CR CL:h_) (n:Nat):ah->M Flo:=
 (aP (ay [] 5 (fC (.dil [])))
  (aP (gL [5] (fIt (fL (b8 CR CL n) (a9 (aa 4) ax))) (.tp [6,7]) (aX CR CL n))
  (d7 (aa 5))))
def cA (CR CL:h_) (n:Nat):List Dat->M Dat:=bL 11 5 (iz CR CL n)
def iH (CR CL:h_) (n:Nat):ah->M Flo:=
 sIf (fB (f2 eqM (aa 5) (fL bo ax)))
   (l8 4 (aa 5) (fL cz (a9 (fL (eP CR CL n) (a9 (aa 0) ax)) ax)))
   (l8 4 (aa 5) (fL (bN CR CL n) (a9 (fL (cA CR CL n) (a9 (aa 0) (a9 (aa 1) (a9 (aa 2) (a9 (aa 4) (a9 (aa 5) ax)))))) ax)))
def eB (CR CL:h_) (n:Nat):ah->M Flo:=
 (iH CR CL n)
def oV (CR CL:h_) (n:Nat):ah->M Flo:=
 (aP (oz [] (fL (cH CR CL n) (a9 (aa 0) (a9 (aa 1) (a9 (aa 3) ax)))))
  (aP (ay [] 4 (fC (.dic [])))
  (aP (gL [4] (fIt (fL (cS CR CL n) (a9 (fL qz (a9 (aa 1) ax)) (a9 (aa 3) ax)))) (.nm 5) (eB CR CL n))
  (d7 (aa 4)))))
def iT (CR CL:h_) (n:Nat):List Dat->M Dat:=bL 6 4 (oV CR CL n)
def nv (CR CL:h_) (n:Nat):ah->M Flo:=
 sIf (fB (f2 eqM (fL (bZ CR CL n) (a9 (aa 0) (a9 (aa 1) (a9 (aa 2) (a9 (aa 8) (a9 (aa 7) (a9 (aa 9) ax))))))) (aa 5)))
   (d7 (fL bo (a9 (aa 6) (a9 (aa 8) (a9 (fL bo (a9 (aa 7) (a9 (aa 9) ax))) ax)))))
   cG
def jF (CR CL:h_) (n:Nat):ah->M Flo:=
 (nv CR CL n)
def ny (CR CL:h_) (n:Nat):ah->M Flo:=
 (gL [] (gF j6 (a9 (eT CR "many_strips" (aJ CR CL n) (aa 0) ax) ax)) (.nm 9) (jF CR CL n))
def fE (CR CL:h_) (n:Nat):ah->M Flo:=
 (gL [] (fIt (n6 (aa 3) (aa 6) (fL cz ax))) (.nm 8) (ny CR CL n))
def t5 (CR CL:h_) (n:Nat):ah->M Flo:=
 (gL [] (fIt (fL (b8 CR CL n) (a9 (aa 4) ax))) (.tp [6,7]) (fE CR CL n))
def jW (CR CL:h_) (n:Nat):List Dat->M Dat:=bL 10 6 (t5 CR CL n)
def gJ (CR CL:h_) (n:Nat):ah->M Bool:=
 (fB (f2 neM (f2 ixD (aa 6) (fC (.int 0))) (fL bo ax)))
def jG (CR CL:h_) (n:Nat):ah->M Flo:=
 (aP (ay [7] 8 (fL (jW CR CL n) (a9 (aa 0) (a9 (aa 1) (a9 (aa 2) (a9 (aa 3) (a9 (f2 ixD (aa 6) (fC (.int 0))) (a9 (f2 ixD (aa 6) (fC (.int 1))) ax))))))))
  (aP (gM [7] 7 (f2 ixD (aa 8) (fC (.int 2))))
  (ay [7] 6 (fL bo (a9 (f2 ixD (aa 8) (fC (.int 0))) (a9 (f2 ixD (aa 8) (fC (.int 1))) ax))))))
def t6 (CR CL:h_) (n:Nat):ah->M Flo:=
 (aP (ay [] 6 (fL bo (a9 (aa 4) (a9 (aa 5) ax))))
  (aP (ay [] 7 (fL cz ax))
  (aP (eK (gJ CR CL n) (jG CR CL n) n)
  (d7 (f1 revD (aa 7))))))
def jX (CR CL:h_) (n:Nat):List Dat->M Dat:=bL 9 6 (t6 CR CL n)
def oU (CR CL:h_) (n:Nat):ah->M Flo:=
 (d7 (cj (fIt (aa 1)) [d_,d_,a_ 0] (.tp [0,1]) g7 (fL bo (a9 (f2 ixD (f2 ixD (aa 2) (aa 0)) (fC (.int 0))) (a9 (aa 1) ax)))))
def iS (CR CL:h_) (n:Nat):List Dat->M Dat:=bL 2 2 (oU CR CL n)
def mX (CR CL:h_) (n:Nat):ah->M Flo:=
 (d7 (cj (gF j6 (a9 (aa 3) ax)) [d_,a_ 0,a_ 1,a_ 2,a_ 3] (.nm 0) g7 (f2 hG (f2 ixD (aa 3) (aa 0)) (eT CR "apart" (bO CR CL n) (aa 1) (a9 (f2 ixD (aa 2) (aa 0)) (a9 (f2 ixD (aa 2) (aa 4)) ax))))))
def gQ (CR CL:h_) (n:Nat):List Dat->M Dat:=bL 4 4 (mX CR CL n)
def lx (CR CL:h_) (n:Nat):ah->M Flo:=
 sIf (fB (f2 gtD (aa 9) (f2 ixD (aa 8) (fC (.int 2)))))
   sStk
   cG
def gc (CR CL:h_) (n:Nat):ah->M Flo:=
 (aP (ay [5] 8 (f2 ixD (aa 1) (f2 ixD (aa 7) (fC (.int 0)))))
  (aP (sx c_ 9 (fL (cT CR CL n) (a9 (aa 2) (a9 (fL maxD (a9 (f2 hG (fL cz (a9 (f2 ixD (aa 8) (fC (.int 1))) ax)) (fL (gQ CR CL n) (a9 (aa 0) (a9 (aa 4) (a9 (aa 5) (a9 (aa 6) ax)))))) ax)) ax))))
  (aP (lx CR CL n)
  (gM [5] 5 (aa 9)))))
def oS (CR CL:h_) (n:Nat):ah->M Flo:=
 (aP (ay [] 4 (fL (iS CR CL n) (a9 (aa 1) (a9 (aa 3) ax))))
  (aP (ay [] 5 (fL cz ax))
  (aP (gL [5] (qJ (aa 3)) (.tp [6,7]) (gc CR CL n))
  (d7 (aa 5)))))
def iR (CR CL:h_) (n:Nat):List Dat->M Dat:=bL 10 4 (oS CR CL n)
def t7 (CR CL:h_) (n:Nat):ah->M Flo:=
 (d7 (fL sumD (a9 (cj (Be (aa 1) (aa 2)) [d_,d_,a_ 0] (.tp [0,1]) g7 (fL (dN CR CL n) (a9 (f2 ixD (aa 2) (f2 ixD (aa 0) (fC (.int 0)))) (a9 (aa 1) ax)))) ax)))
def iq (CR CL:h_) (n:Nat):List Dat->M Dat:=bL 3 3 (t7 CR CL n)
def gE (CR CL:h_) (n:Nat):ah->M Flo:=
 (d7 (cj (qJ (aa 0)) [d_,d_,a_ 1,a_ 2] (.tp [0,1]) (Bf (fB (f2 leD (aa 2) (f2 ixD (aa 1) (fC (.int 1))))) (fB (f2 leD (f2 ixD (aa 1) (fC (.int 2))) (aa 3)))) (aa 0)))
def cJ (CR CL:h_) (n:Nat):List Dat->M Dat:=bL 3 3 (gE CR CL n)
def g9 (CR CL:h_) (n:Nat):ah->M Flo:=
 sIf (fOr (fB (f2 neM (aa 3) (aa 4))) (fB (f2 gtD (p8 (aa 0) (aa 3)) (fC (.int 1)))))
   (gM [2] 2 (fL bo (a9 (aa 3) (a9 (aa 4) ax))))
   cG
def cZ (CR CL:h_) (n:Nat):ah->M Flo:=
 (g9 CR CL n)
def eC (CR CL:h_) (n:Nat):ah->M Flo:=
 (gL [2] (fIt (aa 1)) (.nm 4) (cZ CR CL n))
def oW (CR CL:h_) (n:Nat):ah->M Flo:=
 (aP (ay [] 1 (f1 gK (aa 0)))
  (aP (ay [] 2 (fL cz ax))
  (aP (gL [2] (fIt (aa 1)) (.nm 3) (eC CR CL n))
  (d7 (aa 2)))))
def iU (CR CL:h_) (n:Nat):List Dat->M Dat:=bL 5 1 (oW CR CL n)
def fG (CR CL:h_) (n:Nat):ah->M Flo:=
 (gM [2] 2 (eT CR "apart" (bO CR CL n) (aa 0) (a9 (fL bo (a9 (aa 3) (a9 (fC (.int 0)) ax))) (a9 (fL bo (a9 (aa 4) (a9 (aa 5) ax))) ax))))
def dA (CR CL:h_) (n:Nat):ah->M Flo:=
 (gL [2] (gF j6 (a9 (eT CR "many_strips" (aJ CR CL n) (aa 0) ax) ax)) (.nm 5) (fG CR CL n))
def gT (CR CL:h_) (n:Nat):ah->M Flo:=
 (aP (ay [] 2 (fL cz ax))
  (aP (gL [2] (fIt (fL (iU CR CL n) (a9 (aa 1) ax))) (.tp [3,4]) (dA CR CL n))
  (d7 (fL minD (a9 (aa 2) ax)))))
def dn (CR CL:h_) (n:Nat):List Dat->M Dat:=bL 6 2 (gT CR CL n)
def iI (CR CL:h_) (n:Nat):ah->M Flo:=
 sIf (fB (f2 ltD (fL qz (a9 (aa 2) ax)) (fC (.int 2))))
   (d7 (fC (.bl c_)))
   cG
def kN (CR CL:h_) (n:Nat):ah->M Flo:=
 (aP (iI CR CL n)
  (aP (ay [] 3 (fL minD (a9 (cj (fIt (aa 2)) [d_,a_ 1] (.nm 0) g7 (f2 ixD (f2 ixD (aa 1) (aa 0)) (fC (.int 1)))) ax)))
  (aP (ay [] 4 (fL maxD (a9 (cj (fIt (aa 2)) [d_,a_ 1] (.nm 0) g7 (f2 ixD (f2 ixD (aa 1) (aa 0)) (fC (.int 2)))) ax)))
  (aP (ay [] 5 (cj (fIt (aa 2)) [d_,a_ 1] (.nm 0) g7 (f2 ixD (f2 ixD (aa 1) (aa 0)) (fC (.int 0)))))
  (d7 (f2 gtD (f2 rF (fL (dn CR CL n) (a9 (aa 0) (a9 (aa 5) ax))) (f2 subD (fL qz (a9 (aa 2) ax)) (fC (.int 1)))) (f2 subD (aa 4) (aa 3))))))))
def cI (CR CL:h_) (n:Nat):List Dat->M Dat:=bL 6 3 (kN CR CL n)
def iJ (CR CL:h_) (n:Nat):ah->M Flo:=
 sIf (wY (fL (cI CR CL n) (a9 (aa 0) (a9 (aa 1) (a9 (aa 6) ax)))))
   (d7 (aa 6))
   cG
def eD (CR CL:h_) (n:Nat):ah->M Flo:=
 (aP (ay [] 6 (fL (cJ CR CL n) (a9 (aa 1) (a9 (aa 4) (a9 (aa 5) ax)))))
  (iJ CR CL n))
def gd (CR CL:h_) (n:Nat):ah->M Flo:=
 (gL [] (fIt (aa 3)) (.nm 5) (eD CR CL n))
def kO (CR CL:h_) (n:Nat):ah->M Flo:=
 (aP (ay [] 2 (f1 gK (cj (fIt (aa 1)) [d_] (.nm 0) g7 (f2 ixD (aa 0) (fC (.int 1))))))
  (aP (ay [] 3 (f1 gK (cj (fIt (aa 1)) [d_] (.nm 0) g7 (f2 ixD (aa 0) (fC (.int 2))))))
  (aP (gL [] (fIt (aa 2)) (.nm 4) (gd CR CL n))
  (d7 (fC .non)))))
def dO (CR CL:h_) (n:Nat):List Dat->M Dat:=bL 7 2 (kO CR CL n)
def dw (CR CL:h_) (n:Nat):ah->M Flo:=
 sIf (zt (wY (aa 6)))
   (xW CL "crowd" (a9 (fNoX (fOrN (fL (dO CR CL n) (a9 (aa 0) (a9 (aa 1) ax))) (fL cz ax))) ax))
   cG
def cU (CR CL:h_) (n:Nat):ah->M Flo:=
 (aP (fNoX (ay [] 4 (fL (iT CR CL n) (a9 (aa 0) (a9 (aa 1) (a9 (aa 2) (a9 (aa 3) ax)))))))
  (aP (fNoX (ay [] 5 (fTR (gF j6 (a9 (fL qz (a9 (aa 1) ax)) ax)))))
  (aP (fNoX (ay [] 6 (n6 (aa 4) (aa 5) (fL cz ax))))
  (aP (dw CR CL n)
  (fNoX (aP (ay [] 7 (fL (jX CR CL n) (a9 (aa 0) (a9 (aa 1) (a9 (aa 2) (a9 (aa 4) (a9 (aa 5) (a9 (fL minL1 (a9 (aa 6) ax)) ax))))))))
  (aP (ay [] 8 (fL (iR CR CL n) (a9 (aa 0) (a9 (aa 1) (a9 (aa 2) (a9 (aa 7) ax))))))
  (d7 (fL bo (a9 (fL (iq CR CL n) (a9 (aa 1) (a9 (aa 7) (a9 (aa 8) ax)))) (a9 (aa 7) (a9 (aa 8) ax))))))))))))
def dP (CR CL:h_) (n:Nat):List Dat->M Dat:=bL 9 4 (cU CR CL n)
def cP (CR CL:h_) (n:Nat):ah->M Flo:=
 mr [] CL (ay [] 3 (fL (dP CR CL n) (a9 (aa 0) (a9 (aa 1) (a9 (aa 2) (a9 (fC (.int 0)) ax)))))) (og 4 3 "crowd" ee)
def iC (CR CL:h_) (n:Nat):ah->M Flo:=
 (aP (ay [] 3 (fC .non))
  (aP (cP CR CL n)
  (d7 (aa 3))))
def bM (CR CL:h_) (n:Nat):List Dat->M Dat:=bL 5 3 (iC CR CL n)
def eJ (CR CL:h_) (n:Nat):ah->M Flo:=
 sIf (fB (f2 ltD (aa 1) (fL qz (a9 (aa 0) ax))))
   (d7 (f2 jy (f2 ixD (aa 0) (aa 1)) (f2 powD (fC (.int 10)) (fC (.int 24)))))
   cG
def gn (CR CL:h_) (n:Nat):ah->M Flo:=
 (aP (eJ CR CL n)
  (d7 (fC (.int 0))))
def bh (CR CL:h_) (n:Nat):List Dat->M Dat:=bL 2 2 (gn CR CL n)
def eX (CR CL:h_) (n:Nat):ah->M Flo:=
 (ay [] 3 (f2 hG (aa 3) (f2 rF (f2 ixD (f2 ixD (aa 0) (f2 ixD (aa 4) (fC (.int 0)))) (fC (.int 4))) (fL maxD (a9 (fC (.int 0)) (a9 (f2 subD (aa 5) (f2 ixD (f2 ixD (aa 0) (f2 ixD (aa 4) (fC (.int 0)))) (fC (.int 3)))) ax))))))
def mZ (CR CL:h_) (n:Nat):ah->M Flo:=
 (aP (ay [] 3 (fC (.int 0)))
  (aP (gL [] (Be (aa 1) (aa 2)) (.tp [4,5]) (eX CR CL n))
  (d7 (aa 3))))
def gS (CR CL:h_) (n:Nat):List Dat->M Dat:=bL 6 3 (mZ CR CL n)
def rp (CR CL:h_) (n:Nat):ah->M Flo:=
 sIf (fB (f2 eqM (f2 jy (f2 jC (fL (bh CR CL n) (a9 (aa 0) (a9 (fC (.int 1)) ax))) (fC (.int 64))) (fC (.int 8))) (fC (.int 5))))
   (ay [] 2 (fC (.int 40)))
   cG
def rn (CR CL:h_) (n:Nat):ah->M Flo:=
 sIf (fB (f2 eqM (f2 jy (fL (bh CR CL n) (a9 (aa 0) (a9 (fC (.int 2)) ax))) (fC (.int 2))) (fC (.int 1))))
   (ay [] 5 (cj (fIt (aa 5)) [d_] (.nm 0) g7 (fL bo (a9 (f2 ixD (aa 0) (fC (.int 0))) (a9 (f2 ixD (aa 0) (fC (.int 1))) (a9 (f2 powD (fC (.int 10)) (fC (.int 9))) (a9 (f2 ixD (aa 0) (fC (.int 3))) (a9 (f2 ixD (aa 0) (fC (.int 4))) ax))))))))
   cG
def vR (CR CL:h_) (n:Nat):ah->M Flo:=
 sIf (fB (f2 neM (aa 9) (fL cz (a9 (aa 5) (a9 (aa 6) ax)))))
   (d7 (fC (.bl c_)))
   cG
def vQ (CR CL:h_) (n:Nat):ah->M Flo:=
 sIf (fB (f2 isND (aa 8) (fC .non)))
   (d7 (f2 isBD (aa 10) (fC (.bl f_))))
   cG
def BU (CR CL:h_) (n:Nat):ah->M Flo:=
 sIf (fB (f2 neM (aa 10) (fL bo (a9 (fL (gS CR CL n) (a9 (aa 5) (a9 (aa 7) (a9 (aa 8) ax)))) (a9 (aa 7) (a9 (aa 8) ax))))))
   (d7 (fC (.bl c_)))
   cG
def g_law (CR CL:h_) (n:Nat):ah->M Flo:=
 (aP (ay [] 1 (f2 hG (fC (.int 1)) (f2 jy (f2 jy (f2 rF (fL (bh CR CL n) (a9 (aa 0) (a9 (fC (.int 0)) ax))) (fC (.int 16807))) (fC (.int 2147483647))) (fC (.int 6)))))
  (aP (ay [] 2 (f2 jy (f2 jy (f2 rF (fL (bh CR CL n) (a9 (aa 0) (a9 (fC (.int 1)) ax))) (fC (.int 39373))) (fC (.int 2147483629))) (fC (.int 13))))
  (aP (rp CR CL n)
  (aP (ay [] 3 (fL (gR CR CL n) (a9 (aa 0) (a9 (fC (.int 3)) (a9 (aa 1) ax)))))
  (aP (ay [] 4 (fL (newR CR (aY CR CL n)) (a9 (aa 3) ax)))
  (aP (ay [] 5 (fL (dW CR CL n) (a9 (aa 0) (a9 (fC (.int 80)) (a9 (aa 1) (a9 (aa 2) ax))))))
  (aP (rn CR CL n)
  (aP (ay [] 6 (fL (eR CR CL n) (a9 (aa 0) (a9 (fC (.int 130)) ax))))
  (aP (ay [] 7 (cj (gF j6 (a9 (aa 2) ax)) [d_] (.nm 0) g7 (fL bo (a9 (aa 0) (a9 (fC (.int 0)) ax)))))
  (aP (ay [] 8 (fL (cW CR CL n) (a9 (aa 3) (a9 (fL cz ax) (a9 (aa 5) (a9 (aa 6) (a9 (aa 7) ax)))))))
  (aP (ay [] 9 (fL cz (a9 (fL kJ (a9 (aa 5) ax)) (a9 (fL kJ (a9 (aa 6) ax)) ax))))
  (aP (ay [] 10 (fL (bM CR CL n) (a9 (aa 4) (a9 (f2 ixD (aa 9) (fC (.int 0))) (a9 (f2 ixD (aa 9) (fC (.int 1))) ax)))))
  (aP (vR CR CL n)
  (aP (vQ CR CL n)
  (aP (BU CR CL n)
  (aP (ay [] 11 (cj (fIt (aa 5)) [d_] (.nm 0) g7 (fL bo (a9 (f2 ixD (aa 0) (fC (.int 0))) (a9 (f2 ixD (aa 0) (fC (.int 1))) (a9 (f2 ixD (aa 0) (fC (.int 2))) (a9 (f2 ixD (aa 0) (fC (.int 3))) (a9 (fC (.int 0)) ax))))))))
  (d7 (f2 eqM (fL (bM CR CL n) (a9 (aa 4) (a9 (aa 11) (a9 (aa 6) ax)))) (fL bo (a9 (fC (.int 0)) (a9 (aa 7) (a9 (aa 8) ax))))))))))))))))))))))
def AK (CR CL:h_) (n:Nat):List Dat->M Dat:=bL 12 1 (g_law CR CL n)
noncomputable def top (i:Nat):Dt:=M7.main.body.getD i (.Pass ⟨0,0,0,0⟩)
abbrev pV:Dt:=top 57
abbrev uG:Dt:=top 58
abbrev pS:Dt:=top 52
abbrev s_is_gap:Dt:=top 50
abbrev sk:Dt:=top 51
abbrev ja:Dt:=top 53
abbrev nG:Dt:=top 59
abbrev pW:Dt:=top 60
abbrev sr:Dt:=top 61
abbrev so:Dt:=top 26
abbrev mq:Dt:=top 27
abbrev lB:Dt:=top 28
abbrev pP:Dt:=top 29
abbrev jr:Dt:=inClass (top 54) 2
abbrev si:Dt:=top 32
abbrev kA:Dt:=top 33
abbrev lD:Dt:=top 34
abbrev nF:Dt:=top 36
abbrev pU:Dt:=top 37
abbrev jQ:Dt:=inClass (top 54) 1
abbrev pR:Dt:=top 20
abbrev jP:Dt:=top 17
abbrev uC:Dt:=top 18
abbrev sj:Dt:=top 22
abbrev uD:Dt:=top 2
abbrev pX:Dt:=inClass (top 54) 3
abbrev lC:Dt:=top 21
abbrev nE:Dt:=top 23
abbrev mn:Dt:=top 35
abbrev xS:Dt:=top 38
abbrev zT:Dt:=top 44
abbrev zU:Dt:=top 45
abbrev xR:Dt:=top 40
abbrev uE:Dt:=top 41
abbrev xQ:Dt:=top 42
abbrev zV:Dt:=top 3
abbrev kB:Dt:=top 8
abbrev xT:Dt:=top 5
abbrev pQ:Dt:=top 6
abbrev xU:Dt:=top 7
abbrev xV:Dt:=top 9
abbrev uF:Dt:=top 46
abbrev su:Dt:=top 64
abbrev nH:Dt:=top 56
abbrev uH:Dt:=top 62
abbrev s_law:Dt:=top 65
abbrev s_nR:Dt:=inClass (top 54) 0
abbrev s_nCL:Dt:=inClass (top 15) 0
structure Zs (K:Fg) (mg:Mq) (CR CL:h_):Prop where
 xCL:XTry K mg "NoPlan" CL
 kR:Kls K mg "Rules" CR
 aCL_crowd:zw K CL "crowd"
 qI:∀C∈[CR],Cls K C/\kq K C "gaps"
 z_all:mg "all"=d_
 z_bool:mg "bool"=d_
 eY:mg "enumerate"=d_
 z_int:mg "int"=d_
 fO:mg "isinstance"=d_
 j5:mg "len"=d_
 jL:mg "list"=d_
 rK:mg "max"=d_
 z_min:mg "min"=d_
 bE:mg "range"=d_
 xA:mg "reversed"=d_
 z_set:mg "set"=d_
 jK:mg "sorted"=d_
 z_sum:mg "sum"=d_
 kx:mg "tuple"=d_
 z_zip:mg "zip"=d_
 nW:∃t,mg "GREATEST_GAP"=a_ (.int 1000000 t)
 t9:∃t,mg "MOST_KINDS"=a_ (.int 6 t)
 t8:∃t,mg "MOST_PLANS"=a_ (.int 5000 t)
 kit:Kit K
 r6:∃f fd,Def K mg "_law_number" pV ["_law_script","_law_k"] f fd
 vL:∃f fd,Def K mg "_law_gaps" uG ["_law_script","_law_start","_law_kinds"] f fd
 qY:∃f fd,Def K mg "copied_rows" pS ["rows"] f fd
 d_is_gap:∃f fd,Def K mg "is_gap" s_is_gap ["number"] f fd
 tT:∃f fd,Def K mg "is_gap_row" sk ["row","kinds"] f fd
 nZ:∃f fd,Def K mg "checked_rows" ja ["rows"] f fd
 o5:∃f fd,Def K mg "_law_flights" nG ["_law_script","_law_start","_law_kinds","_law_many"] f fd
 r9:∃f fd,Def K mg "_law_closed" pW ["_law_script","_law_start"] f fd
 tV:∃f fd,Def K mg "_law_times" sr ["_law_gaps_here","_law_beside","_law_flights_here","_law_closed_here","_law_plan"] f fd
 tU:∃f fd,Def K mg "choices_of" so ["pool","size"] f fd
 nq:∃f fd,Def K mg "beginnings_of" mq ["many","shift","size"] f fd
 lM:∃f fd,Def K mg "smaller_by_one" lB ["some"] f fd
 qV:∃f fd,Def K mg "many_orders" pP ["many","shift"] f fd
 tQ:∃f fd,Def K mg "many_plans" si ["rules","many","shift"] f fd
 kY:∃f fd,Def K mg "refuse_too_many" kA ["rules","flights","shift"] f fd
 lO:∃f fd,Def K mg "all_beginnings" lD ["many","shift"] f fd
 nY:∃f fd,Def K mg "has_no_worse" nF ["labels","label"] f fd
 qZ:∃f fd,Def K mg "best_labels" pU ["labels"] f fd
 qX:∃f fd,Def K mg "first_label" pR ["rules"] f fd
 ki:∃f fd,Def K mg "joined_stretches" jP ["closed"] f fd
 vH:∃f fd,Def K mg "next_open" uC ["closed","time"] f fd
 tR:∃f fd,Def K mg "lasts_with" sj ["lasts","spot","time"] f fd
 vI:∃f fd,Def K mg "late_cost" uD ["flight","time"] f fd
 lN:∃f fd,Def K mg "last_gap_times" lC ["rules","lasts","spot"] f fd
 nX:∃f fd,Def K mg "label_behind" nE ["rules","flights","closed","label","flight","strip"] f fd
 nk:∃f fd,Def K mg "labels_behind" mn ["rules","flights","closed","paper","some"] f fd
 yT:∃f fd,Def K mg "paper_of" xS ["rules","flights","closed","shift"] f fd
 BA:∃f fd,Def K mg "step_to" zT ["rules","flights","closed","paper","some","label"] f fd
 BB:∃f fd,Def K mg "plan_to" zU ["rules","flights","closed","paper","some","label"] f fd
 yS:∃f fd,Def K mg "spots_of" xR ["flights","plan"] f fd
 vJ:∃f fd,Def K mg "gap_times" uE ["rules","spots","times","place"] f fd
 yR:∃f fd,Def K mg "times_of" xQ ["rules","flights","closed","plan"] f fd
 BC:∃f fd,Def K mg "cost_of" zV ["flights","plan","times"] f fd
 kZ:∃f fd,Def K mg "flights_between" kB ["flights","first","last"] f fd
 yU:∃f fd,Def K mg "pairs_of" xT ["kinds"] f fd
 qW:∃f fd,Def K mg "least_apart" pQ ["rules","kinds"] f fd
 yV:∃f fd,Def K mg "is_crowd" xU ["rules","flights","some"] f fd
 yW:∃f fd,Def K mg "crowd_of" xV ["rules","flights"] f fd
 vK:∃f fd,Def K mg "best_plan" uF ["rules","flights","closed","shift"] f fd
 tW:∃f fd,Def K mg "_law_asked" su ["_law_rules","_law_flights_here","_law_closed_here"] f fd
 o6:∃f fd,Def K mg "_law_cell_at" nH ["_law_script","_law_k"] f fd
 vM:∃f fd,Def K mg "_law_cost" uH ["_law_flights_here","_law_plan","_law_times_here"] f fd
 d_law:∃f fd,Def K mg "law" s_law ["_law_script"] f fd/\∀(s:t_) (v:i_),Io s fd ⟨[v],[]⟩ [("_law_script",v)]
 m_M_R_many_strips:∃f fd,Mth K CR "many_strips" "Rules.many_strips" jr ["self"] f fd
 m_M_R_many_kinds:∃f fd,Mth K CR "many_kinds" "Rules.many_kinds" jQ ["self"] f fd
 m_M_R_apart:∃f fd,Mth K CR "apart" "Rules.apart" pX ["self","one","other"] f fd
 n_CL:∃f fd,Mth K CL "__init__" "NoPlan.__init__" s_nCL ["self","crowd"] f fd/\XMk K mg "NoPlan" CL f
 n_R:∃f fd,Mth K CR "__init__" "Rules.__init__" s_nR ["self","gaps"] f fd
noncomputable abbrev Zq (_:Nat) (_:Cn) (_:Dv) (_:CQ):=Zs
theorem law_d {x:Cy} {st:Dt} {ps:List Cy} {q:EZ->Prop} (h:∃f fd,Def K mg x st ps f fd/\q fd):∃f fd,Def K mg x st ps f fd:=let ⟨f,fd,D,_⟩:=h;⟨f,fd,D⟩
theorem sc_nCL:gq ["self","crowd"] ["self","crowd"] (aB s_nCL):=⟨rfl,rfl,rfl,by decide +kernel,rfl,by decide +kernel,by decide +kernel⟩
theorem okn_CL {P:Cn} {w:Dv} {base:CQ} {f:h_} (N:Fun K "__init__" "NoPlan.__init__" s_nCL f fd) (Y:zw K C "crowd") (U:mg "list"=d_):iN P w K mg base CX0 1 f fd ["self","crowd"] (spXL K C "crowd"):=by
 refine N.okX sc_nCL (fun vs H Q E h=>?_) (fun cdv A outer s H vs Q E e h=>?_)
 ·obtain ⟨a,l,xs,rfl,_⟩:=h;rfl
 ·obtain ⟨a,l,xs,rfl,J,b,q⟩:=h;refine ⟨_,qg (ps_x1 (pv 0) (jR lu rfl U DY (aM (pv 1) cy)) Y),?_⟩
  exact ⟨.ref l,rfl,l,xs,rfl,.inl b,fun L S=>⟨.ref a,rfl,a,rfl,by rw [aq (fun z=>by rw [z,S] at J;cases J)];exact J,fun d hd c=>q L d S hd⟩⟩
section
variable {P:Cn} {w:Dv} {base:CQ} {CR:h_} (Z:Zq n P w base K mg CR CL)
include Z
theorem dU:YO Z.r6 P w base 1 c_ (bw CR CL n):=
 fY ["_law_script","_law_k","_law_cells","_law_cell","_law_number_here"] fun z J S=>(ae (aO J (av (de_sl x_sl (ai 0) vz (vy af)))) (ae (aO J (av (aA dk (aA lK af (ai 1)) af))) (ae (cL (bx o_gt (aD j9 Z.j5 Df (da1 (ai 2))) af) (ak (aO J (aA dC (aE bC (ai 2) (aA dC (ai 1) (aD j9 Z.j5 Df (da1 (ai 2))))) (aA yt af af)))) bp) (ae (aO J (aA dC (aA lK (av (aA dk (av (aA dk (ai 3) (aA lK (aA lK (ai 1) (ai 1)) af))) (aD j9 Z.j5 Df (da1 (ai 2))))) af) af)) (ak (aG (aA dC (av (aA dk (aA lK (ai 4) af) af)) af)))))))
theorem sR:YO Z.vL P w base 2 c_ (gR CR CL n):=
 fY ["_law_script","_law_start","_law_kinds","_law_rows","_law_one","_law_row","_law_other","_law_number_here","_law_gap"] fun z J S=>(ae (j8 J (bU bB)) (ae (ba (pt:=.nm 4) (cM Z.bE (da1 (ai 2))) (fm J) (ae (j8 J (bU bB)) (bf (O2:=[3,5]) (ae (ba (pt:=.nm 6) (cM Z.bE (da1 (ai 2))) (fm J) (ae (aO J (dY (dU Z) S (da2 (ai 0) (av (aA dk (av (aA dk (ai 1) (aA lK (ai 4) (ai 2)))) (ai 6)))))) (ae (aO J (aA dC (aA hZ (ai 7) af) af)) (ae (cL (bx (AD S.units) (aA dC (ai 7) af) af) (ak (aO J (aA dC (aA hZ (ai 7) af) (av (aA dk (aA yt af af) af))))) bp) (ae (cL (bx o_lt (aA dC (ai 7) af) af) (ak (aO J af)) bp) (ak (eG (i:=5) (ai 8)))))))) (bf (O2:=[3]) (ak (eG (i:=3) (ai 5)))))))) (bf (O2:=[]) (ak (aG (ai 3))))))
theorem nO:YO Z.qY P w base 1 c_ (eQ CR CL n):=
 fY ["rows"] fun z J S=>(ak (aG (av (cF ["row"] [d_] (bq (ai 0)) (fun _ _ _ _ _=>ej (by decide +kernel)) (aK rfl) (fun _ _ _ _ _=>bz) (fun _ _ _ _ _=>(av (eu xr Z.jL DY (da1 (ai 0)))))))))
theorem Ay:YO Z.d_is_gap P w base 1 c_ (iV CR CL n):=
 fY ["number"] fun z J S=>(ae (cL (PW.pt (dw_or (tK (nc (yQ Z.kit Z.fO Z.z_int (ai 0)))) (dw_or1 (nc (vE Z.kit Z.fO Z.z_bool (ai 0)))))) (ak (aG vG)) bp) (ak (aG (de_chain o_le o_le af (ai 0) (vF Z.nW)))))
theorem qo:YO Z.tT P w base 2 c_ (cV CR CL n):=
 fY ["row","kinds"] fun z S J=>(ak (aG (de_and (vC Z.kit Z.fO Z.jL (ai 0)) (de_and (xk (AD J.units) (aD j9 Z.j5 Df (da1 (ai 0))) (ai 1)) (de_one (aD (c_all rfl) Z.z_all boot_all (da1 (av (cF ["number"] [d_] (bq (ai 0)) (fun _ _ _ _ _=>ej (by decide +kernel)) (aK rfl) (fun _ _ _ _ _=>bz) (fun _ _ _ _ _=>(dY (Ay Z) J (da1 (ai 0)))))))))))))
theorem mE:YO Z.nZ P w base 3 c_ (aY CR CL n):=
 fY ["rows","kinds"] fun z S J=>(ae (aO S (aD j9 Z.j5 Df (da1 (ai 0)))) (ae (cL (tK (qO o_le o_le af (ai 1) (vF Z.t9))) kU bp) (ae (cL (tK (nc (aD (c_all rfl) Z.z_all boot_all (da1 (av (cF ["row","kinds"] [d_,a_ 1] (bq (ai 0)) (fun _ _ _ _ _=>ej (by decide +kernel)) (aK rfl) (fun _ _ _ _ _=>bz) (fun _ _ _ _ _=>(dY (qo Z) J (da2 (ai 0) (ai 1)))))))))) kU bp) (ak (aG (dY (nO Z) J (da1 (ai 0))))))))
end
theorem sc_nR:gq ["self","gaps"] ["self","gaps"] (aB s_nR):=⟨rfl,rfl,rfl,by decide +kernel,rfl,by decide +kernel,by decide +kernel⟩
theorem okn_R {P:Cn} {w:Dv} {base:CQ} {CR:h_} {Y f:h_} {a:EZ} (U:Def K mg "checked_rows" ja ["rows"] Y a) (B:iN P w K mg base CX0 3 Y a ["rows"] (spF K c_ (aY CR CL n) 1))
  (N:Fun K "__init__" "Rules.__init__" s_nR f fd) (y:Cls K C) (l:kq K C "gaps"):iN P w K mg base CX0 4 f fd ["self","gaps"] (spI1 K C (aY CR CL n)):=by
 refine N.okX sc_nR (fun vs H Q E h=>?_) (fun cdv A outer s H vs Q E t h=>?_)
 ·obtain ⟨p,dx,v,F,d,rfl,_⟩:=h;rfl
 ·obtain ⟨p,dx,v,F,d,rfl,b,x,i,k,q⟩:=h;refine ⟨_,qg (ps_fld (pv 0) (Ar B t (by rfl) U.mg U.fn.kp U.bd .nil Av (aM (pv 1) cy)) rfl),?_⟩
  refine ⟨v,rfl,F,[d],i,⟨v,[],rfl,k,rfl⟩,rfl,?_⟩
  skip;cases g:aY CR CL n [d] with
  |error e=>rw [g] at q;exact q
  |ok r=>
   rw [g] at q;intro u F' H' st j;have J:F' p=d_:=by
    cases m:F' p with
    |none=>rfl
    |some o=>
     rcases st.nw p o m with z|z
     ·rw [x] at z;cases z
     ·rw [b] at z;cases z
   refine ⟨_,rfl,p,C,dx,[],rfl,st.hh _ _ b,y,l,(by show 0<1000;decide),?_⟩
   refine q u F' _ st.ff (fun c o e=>?_) J st.nw (fun c o e S=>by rw [aq S];exact st.hh _ _ e) ao j;have S:c≠p:=fun z=>by rw [z,J] at e;cases e
   rw [aq S];exact st.fh _ _ e
section
variable {P:Cn} {w:Dv} {base:CQ} {CR:h_} (Z:Zq n P w base K mg CR CL)
include Z
theorem mG:YO Z.o5 P w base 2 c_ (dW CR CL n):=
 fY ["_law_script","_law_start","_law_kinds","_law_many","_law_flights_here","_law_k","_law_number_here","_law_first","_law_last","_law_due","_law_price"] fun z J S=>(ae (j8 J (bU bB)) (ae (ba (pt:=.nm 5) (cM Z.bE (da1 (ai 3))) (fm J) (ae (aO J (dY (dU Z) S (da2 (ai 0) (av (aA dk (ai 1) (ai 5)))))) (ae (aO J (aA dC (aA hZ (ai 6) af) af)) (ae (aO J (av (aA dk (ai 7) (aA dC (aA hZ (ai 6) af) af)))) (ae (cL (bx (AD S.units) (aA dC (ai 6) af) af) (ak (aO J (aA yt af af))) bp) (ae (cL (bx (AD S.units) (aA dC (ai 6) af) af) (ak (aO J (av (aA dk (ai 7) (aA dC (aA hZ (ai 6) af) af))))) bp) (ae (aO J (aA dC (aA hZ (ai 6) af) af)) (ae (aO J (aA dC (aA hZ (ai 6) af) af)) (ae (cL (bx (AD S.units) (aA dC (ai 6) af) af) (ak (aO J (aA dC (ai 6) (av (aA dk (aA yt af af) af))))) bp) (ak (eG (i:=4) (bG (da5 (aA dC (aA hZ (ai 6) af) (ai 2)) (ai 7) (ai 8) (ai 9) (ai 10)))))))))))))) (bf (O2:=[]) (ak (aG (ai 4))))))
theorem nQ:YO Z.r9 P w base 2 c_ (eR CR CL n):=
 fY ["_law_script","_law_start","_law_closed_here","_law_k","_law_number_here","_law_begin"] fun z J S=>(ae (j8 J (bU bB)) (ae (ba (pt:=.nm 3) (cM Z.bE (da1 (aA dC (aA hZ (dY (dU Z) S (da2 (ai 0) (ai 1))) af) af))) (fm J) (ae (aO J (dY (dU Z) S (da2 (ai 0) (av (aA dk (av (aA dk (ai 1) af)) (ai 3)))))) (ae (aO J (aA dC (aA hZ (ai 4) af) af)) (ak (eG (i:=2) (bG (da2 (ai 5) (av (aA dk (av (aA dk (ai 5) af)) (aA dC (aA hZ (ai 4) af) af)))))))))) (bf (O2:=[]) (ak (aG (ai 2))))))
theorem qq:YO Z.tV P w base 1 c_ (cW CR CL n):=
 fY ["_law_gaps_here","_law_beside","_law_flights_here","_law_closed_here","_law_plan","_law_times_here","_law_place","_law_flight","_law_strip","_law_time","_law_ahead","_law_other","_law_there","_law_gap","_law_turn","_law_start","_law_stop"] fun z J S=>(ae (j8 J (bU bB)) (ae (ba (pt:=.nm 6) (cM Z.bE (da1 (aD j9 Z.j5 Df (da1 (ai 4))))) (fm J) (ae (Bq (aE bC (ai 4) (ai 6)) (iF rfl (aR (i:=7) J (aR (i:=8) J cE)))) (ae (aO J (aE bC (aE bC (ai 2) (ai 7)) af)) (ae (ba (pt:=.nm 10) (cM Z.bE (da1 (ai 6))) (fm J) (ae (Bq (aE bC (ai 4) (ai 10)) (iF rfl (aR (i:=11) J (aR (i:=12) J cE)))) (ae (aO J (aE bC (aE bC (ai 0) (aE bC (aE bC (ai 2) (ai 11)) af)) (aE bC (aE bC (ai 2) (ai 7)) af))) (ae (cL (bx (o_ne S.units) (ai 12) (ai 8)) (ak (aO J (aE bC (aE bC (ai 1) (aE bC (aE bC (ai 2) (ai 11)) af)) (aE bC (aE bC (ai 2) (ai 7)) af)))) bp) (ak (Bs (i:=9) (own:=c_) J (aD (u9 rfl) Z.rK HQ (da2 (ai 9) (av (aA dk (aE bC (ai 5) (ai 10)) (ai 13))))))))))) (ae (ba (pt:=.nm 14) (cM Z.bE (da1 (aD j9 Z.j5 Df (da1 (ai 3))))) (fm J) (ak (ba (pt:=.tp [15,16]) (bq (ai 3)) (iF rfl (aR (i:=15) J (aR (i:=16) J cE))) (ak (cL (qO o_le o_lt (ai 15) (ai 9) (ai 16)) (ak (aO J (ai 16))) bp))))) (ae (cL (bx o_gt (ai 9) (aE bC (aE bC (ai 2) (ai 7)) af)) (bf (O2:=[]) (ak (aG pd))) bp) (ak (eG (i:=5) (ai 9))))))))) (bf (O2:=[]) (ak (aG (ai 5))))))
theorem qp:YO Z.tU P w base 1 c_ (fS CR CL n):=
 fY ["pool","size","choices","place","one","rest"] fun z J S=>(ae (cL (bx (AD S.units) (ai 1) af) (ak (aG (av (bU (da1 (bG bB)))))) bp) (ae (aO J (av (bU bB))) kU))
theorem hX:YO Z.nq P w base 2 f_ (cC CR CL n):=
 fY ["many","shift","size","sure","free"] fun z J S=>(ae (aO J (xj Z.kx Z.bE (da1 (aD (u9 rfl) Z.rK HQ (da2 af (aA yr (ai 2) (ai 1))))))) (ae (aO J (av (de_lrng2 Z.jL Z.bE (da2 (aD j9 Z.j5 Df (da1 (ai 3))) (aD (c_min rfl) Z.z_min MG (da2 (ai 0) (av (aA dk (ai 2) (ai 1))))))))) (ak (aG (cF ["some","sure"] [d_,a_ 3] (bq (dY (qp Z) S (da2 (ai 4) (aA yr (ai 2) (aD j9 Z.j5 Df (da1 (ai 3))))))) (fun _ _ _ _ _=>ej (by decide +kernel)) (aK rfl) (fun _ _ _ _ _=>bz) (fun _ _ _ _ _=>(av (aA dk (ai 1) (ai 0)))))))))
theorem dJ:YO Z.lM P w base 1 c_ (b8 CR CL n):=
 fY ["some"] fun z J S=>(ak (aG (av (cF ["place","flight","some"] [d_,d_,a_ 0] (qQ Z.eY (ai 0)) (fun _ _ _ _ _=>iF rfl (cO (i:=0) (by decide +kernel) (cO (i:=1) (by decide +kernel) cE))) (ir (by decide)) (fun _ _ _ _ _=>bz) (fun _ _ _ _ _=>(bG (da2 (av (aA dk (av (de_sl x_sl (ai 2) vz (vy (ai 0)))) (av (de_sl x_sl (ai 2) (vy (av (aA dk (ai 0) af))) vz)))) (ai 1))))))))
theorem nK:YO Z.qV P w base 3 c_ (eO CR CL n):=
 fY ["many","shift","counts","size","grown","some"] fun z J S=>(ae (aO J (av (de_disp1 S.units (bG bB) af))) (ae (ba (pt:=.nm 3) (di_rng2 Z.bE (da2 af (av (aA dk (ai 0) af)))) (fm J) (ae (j8 J Bz) (ae (ba (pt:=.nm 5) (bq (av (dY (hX Z) S (da3 (ai 0) (ai 1) (ai 3))))) (fm J) (ak (ds_putD (i:=4) S.units (ai 5) (aD (c_sum rfl) Z.z_sum boot_sum (da1 (av (cF ["smaller","flight","counts"] [d_,d_,a_ 2] (bq (dY (dJ Z) S (da1 (ai 5)))) (fun _ _ _ _ _=>iF rfl (cO (i:=0) (by decide +kernel) (cO (i:=1) (by decide +kernel) cE))) (ir (by decide)) (fun _ _ _ _ _=>bz) (fun _ _ _ _ _=>(qU S.units (ai 2) (ai 0) af))))))))) (bf (O2:=[]) (ak (aO J (ai 4))))))) (ak (aG (de_sumV rfl Z.z_sum (ai 2))))))
theorem bF:YM Z.m_M_R_many_strips P w mg base 1 c_ (aJ CR CL n):=
 fM ["self"] fun z J S=>(ak (aG af))
theorem ql:YO Z.tQ P w base 4 c_ (fQ CR CL n):=
 fY ["rules","many","shift","plans","flight"] fun z S U=>let ⟨_,_,Y,J⟩:=bF Z;(ae (aO S (dY (nK Z) U (da2 (ai 1) (ai 2)))) (ae (ba (pt:=.nm 4) (cM Z.bE (da1 (ai 1))) (fm S) (ak (aO S (aA lK (ai 3) (gG Z.kR.cl Y.mt J (U.mono (by decide)) Y.bd (ai 0)))))) (ak (aG (ai 3)))))
theorem jS:YO Z.kY P w base 5 c_ (cH CR CL n):=
 fY ["rules","flights","shift"] fun z S J=>(ak (cL (bx o_gt (dY (ql Z) J (da3 (ai 0) (aD j9 Z.j5 Df (da1 (ai 1))) (ai 2))) (vF Z.t8)) kU bp))
theorem kH:YO Z.lO P w base 3 c_ (cS CR CL n):=
 fY ["many","shift","beginnings","size"] fun z J S=>(ae (j8 J (bU bB)) (ae (ba (pt:=.nm 3) (cM Z.bE (da1 (av (aA dk (ai 0) af)))) (fm J) (ak (ds_ext (i:=2) (dY (hX Z) S (da3 (ai 0) (ai 1) (ai 3)))))) (bf (O2:=[]) (ak (aG (ai 2))))))
theorem mD:YO Z.nY P w base 1 c_ (gk CR CL n):=
 fY ["labels","label","one"] fun z J S=>(ae (ba (pt:=.nm 2) (bq (ai 0)) (fm J) kU) (ak (aG vG)))
theorem nP:YO Z.qZ P w base 2 c_ (bN CR CL n):=
 fY ["labels","best","label"] fun z J S=>(ae (j8 J (bU bB)) (ae (ba (pt:=.nm 2) (bq (av (aD za Z.jK MF (da1 (ai 0))))) (fm J) (ak (cL (tK (nc (dY (mD Z) S (da2 (ai 1) (ai 2))))) (ak (eG (i:=1) (ai 2))) bp))) (bf (O2:=[]) (ak (aG (ai 1))))))
theorem lJ:YM Z.m_M_R_many_kinds P w mg base 1 c_ (cn CR CL n):=
 fM ["self"] fun z J S=>(ak (aG (aD j9 Z.j5 Df (da1 (de_fld (Cs:=[CR]) Z.qI (ai 0))))))
theorem nM:YO Z.qX P w base 2 c_ (eP CR CL n):=
 fY ["rules","row"] fun z b Y=>let ⟨_,_,U,S⟩:=lJ Z;let ⟨_,_,a,J⟩:=bF Z;(ae (aO b (eu rm Z.kx EX (da1 (av (cF ["kind"] [d_] (cM Z.bE (da1 (gG Z.kR.cl U.mt S Y U.bd (ai 0)))) (fun _ _ _ _ _=>ej (by decide +kernel)) (aK rfl) (fun _ _ _ _ _=>bz) (fun _ _ _ _ _=>(yP yu af))))))) (ak (aG (bG (da2 af (eu rm Z.kx EX (da1 (av (cF ["strip","row"] [d_,a_ 1] (cM Z.bE (da1 (gG Z.kR.cl a.mt J Y a.bd (ai 0)))) (fun _ _ _ _ _=>ej (by decide +kernel)) (aK rfl) (fun _ _ _ _ _=>bz) (fun _ _ _ _ _=>(ai 1)))))))))))
theorem jw:YO Z.ki P w base 1 c_ (cm CR CL n):=
 fY ["closed","joined","start","stop"] fun z J S=>(ae (j8 J (bU bB)) (ae (ba (pt:=.tp [2,3]) (bq (av (aD c_sorted Z.jK MF (da1 (ai 0))))) (iF rfl (aR (i:=2) J (aR (i:=3) J cE))) (ak (cL (PW.pt (dw_and (nc (ai 1)) (Bp (bx o_le (ai 2) (aE bC (aE bC (ai 1) (yP yu af)) af))))) (ak (ds_setI (i:=1) (bG (da2 (aE bC (aE bC (ai 1) (yP yu af)) af) (aD (u9 rfl) Z.rK HQ (da2 (ai 3) (aE bC (aE bC (ai 1) (yP yu af)) af))))) (yP yu af))) (ak (eG (i:=1) (bG (da2 (ai 2) (ai 3)))))))) (bf (O2:=[]) (ak (aG (ai 1))))))
theorem l9:YO Z.vH P w base 2 c_ (cT CR CL n):=
 fY ["closed","time","start","stop"] fun z J S=>(ae (ba (pt:=.tp [2,3]) (bq (dY (jw Z) S (da1 (ai 0)))) (iF rfl (aR (i:=2) J (aR (i:=3) J cE))) (ak (cL (qO o_le o_lt (ai 2) (ai 1) (ai 3)) (ak (aG (ai 3))) bp))) (ak (aG (ai 1))))
theorem qm:YO Z.tR P w base 1 c_ (fR CR CL n):=
 fY ["lasts","spot","time","rows"] fun z J S=>(ds_rows (i:=3) ["row"] [d_] J (bq (ai 0)) (fun _ _ _ _ _=>ej (by decide +kernel)) (aK rfl) (fun _ _ _ _ _=>bz) (fun _ _ _ _ _=>(eu xr Z.jL DY (da1 (ai 0)))) AO (ai 2) (aE bC (ai 1) af) (aE bC (ai 1) af) (ak (aG (eu rm Z.kx EX (da1 (av (cF ["row"] [d_] (bq (ai 3)) (fun _ _ _ _ _=>ej (by decide +kernel)) (aK rfl) (fun _ _ _ _ _=>bz) (fun _ _ _ _ _=>(eu rm Z.kx EX (da1 (ai 0)))))))))))
theorem lb:YO Z.vI P w base 1 c_ (dN CR CL n):=
 fY ["flight","time","due","price"] fun z J S=>(ae (aO J (aE bC (ai 0) af)) (ae (aO J (aE bC (ai 0) af)) (ak (aG (aA lK (ai 3) (aD (u9 rfl) Z.rK HQ (da2 af (aA yr (ai 1) (ai 2)))))))))
theorem jx:YM Z.m_M_R_apart P w mg base 1 c_ (bO CR CL n):=
 fM ["self","one","other"] fun z J S=>(ak (aG (aE bC (aE bC (de_fld (Cs:=[CR]) Z.qI (ai 0)) (aE bC (ai 1) af)) (aE bC (ai 2) af))))
theorem kG:YO Z.lN P w base 2 c_ (cR CR CL n):=
 fY ["rules","lasts","spot","times","strip","row","kind","last"] fun z S U=>let ⟨_,_,Y,J⟩:=jx Z;(ae (j8 S (bU bB)) (ae (ba (pt:=.tp [4,5]) (qQ Z.eY (ai 1)) (iF rfl (aR (i:=4) S (aR (i:=5) S cE))) (ak (ba (pt:=.tp [6,7]) (qQ Z.eY (ai 5)) (iF rfl (aR (i:=6) S (aR (i:=7) S cE))) (ak (cL (bx (o_ne U.units) (ai 7) (yP yu af)) (ak (eG (i:=3) (av (aA dk (ai 7) (qT Z.kR.cl Y.mt J U Y.bd (ai 0) (da2 (bG (da2 (ai 6) (ai 4))) (ai 2))))))) bp))))) (bf (O2:=[]) (ak (aG (ai 3))))))
theorem ip:YO Z.nX P w base 3 c_ (bZ CR CL n):=
 fY ["rules","flights","closed","label","flight","strip","told","spot","time"] fun z S J=>(ae (aO S (aE bC (ai 1) (ai 4))) (ae (aO S (bG (da2 (aE bC (ai 6) af) (ai 5)))) (ae (aO S (dY (l9 Z) J (da2 (ai 2) (aD (u9 rfl) Z.rK HQ (da1 (av (aA dk (av (bU (da1 (aE bC (ai 6) af)))) (dY (kG Z) J (da3 (ai 0) (aE bC (ai 3) af) (ai 7)))))))))) (ae (cL (bx o_gt (ai 8) (aE bC (ai 6) af)) (ak (aG pd)) bp) (ak (aG (bG (da2 (av (aA dk (aE bC (ai 3) af) (dY (lb Z) J (da2 (ai 6) (ai 8))))) (dY (qm Z) J (da3 (aE bC (ai 3) af) (ai 7) (ai 8)))))))))))
theorem lH:YO Z.nk P w base 4 c_ (cA CR CL n):=
 fY ["rules","flights","closed","paper","some","found","smaller","flight","label","strip","behind"] fun z S U=>let ⟨_,_,Y,J⟩:=bF Z;(ae (j8 S de_newL) (ae (ba (pt:=.tp [6,7]) (bq (dY (dJ Z) U (da1 (ai 4)))) (iF rfl (aR (i:=6) S (aR (i:=7) S cE))) (ak (ba (pt:=.nm 8) (bq (qU U.units (ai 3) (ai 6) (av (bU bB)))) (fm S) (ak (ba (pt:=.nm 9) (cM Z.bE (da1 (gG Z.kR.cl Y.mt J (U.mono (by decide)) Y.bd (ai 0)))) (fm S) (ae (aO S (dY (ip Z) U (da6 (ai 0) (ai 1) (ai 2) (ai 8) (ai 7) (ai 9)))) (ak (cL (bx o_notN (ai 10) pd) (ak (ds_putT (i:=5) U.units (ai 10) vG)) bp)))))))) (bf (O2:=[]) (ak (aG (ai 5))))))
theorem v9:YO Z.yT P w base 6 c_ (iT CR CL n):=
 fY ["rules","flights","closed","shift","paper","some"] fun z S J=>(ae (ds_drop (own:=c_) (dY (jS Z) J (da3 (ai 0) (ai 1) (ai 3)))) (ae (j8 S Bz) (ae (ba (pt:=.nm 5) (bq (dY (kH Z) J (da2 (aD j9 Z.j5 Df (da1 (ai 1))) (ai 3)))) (fm S) (ak (cL (bx (AD J.units) (ai 5) (bG bB)) (ak (xc (i:=4) J.units (ai 5) (av (bU (da1 (dY (nM Z) J (da1 (ai 0)))))))) (ak (xc (i:=4) J.units (ai 5) (dY (nP Z) J (da1 (dY (lH Z) J (da5 (ai 0) (ai 1) (ai 2) (ai 4) (ai 5)))))))))) (bf (O2:=[]) (ak (aG (ai 4)))))))
theorem yo:YO Z.BA P w base 4 c_ (jW CR CL n):=
 fY ["rules","flights","closed","paper","some","label","smaller","flight","ahead","strip"] fun z U S=>let ⟨_,_,Y,J⟩:=bF Z;(ak (ba (pt:=.tp [6,7]) (bq (dY (dJ Z) S (da1 (ai 4)))) (iF rfl (aR (i:=6) U (aR (i:=7) U cE))) (ak (ba (pt:=.nm 8) (bq (qU S.units (ai 3) (ai 6) (av (bU bB)))) (fm U) (ak (ba (pt:=.nm 9) (cM Z.bE (da1 (gG Z.kR.cl Y.mt J (S.mono (by decide)) Y.bd (ai 0)))) (fm U) (ak (cL (bx (AD S.units) (dY (ip Z) S (da6 (ai 0) (ai 1) (ai 2) (ai 8) (ai 7) (ai 9))) (ai 5)) (ak (aG (bG (da3 (ai 6) (ai 8) (bG (da2 (ai 7) (ai 9))))))) bp))))))))
theorem yp:YO Z.BB P w base 5 c_ (jX CR CL n):=
 fY ["rules","flights","closed","paper","some","label","there","plan","step"] fun z J S=>(ae (aO J (bG (da2 (ai 4) (ai 5)))) (ae (j8 J (bU bB)) (ae (ds_while (m:=n) (bx (o_ne S.units) (aE bC (ai 6) af) (bG bB)) (ae (aO J (dY (yo Z) S (da6 (ai 0) (ai 1) (ai 2) (ai 3) (aE bC (ai 6) af) (aE bC (ai 6) af)))) (ae (eG (i:=7) (aE bC (ai 8) af)) (ak (aO J (bG (da2 (aE bC (ai 8) af) (aE bC (ai 8) af)))))))) (bf (O2:=[]) (ak (aG (av (de_lrev Z.jL Z.xA (ai 7)))))))))
theorem v8:YO Z.yS P w base 1 c_ (iS CR CL n):=
 fY ["flights","plan"] fun z J S=>(ak (aG (av (cF ["flight","strip","flights"] [d_,d_,a_ 0] (bq (ai 1)) (fun _ _ _ _ _=>iF rfl (cO (i:=0) (by decide +kernel) (cO (i:=1) (by decide +kernel) cE))) (ir (by decide)) (fun _ _ _ _ _=>bz) (fun _ _ _ _ _=>(bG (da2 (aE bC (aE bC (ai 2) (ai 0)) af) (ai 1))))))))
theorem sP:YO Z.vJ P w base 2 c_ (gQ CR CL n):=
 fY ["rules","spots","times","place"] fun z Y U=>let ⟨_,_,S,J⟩:=jx Z;(ak (aG (av (cF ["ahead","rules","spots","times","place"] [d_,a_ 0,a_ 1,a_ 2,a_ 3] (cM Z.bE (da1 (ai 3))) (fun _ _ _ _ _=>ej (by decide +kernel)) (aK rfl) (fun _ _ _ _ _=>bz) (fun _ _ _ _ _=>(av (aA dk (aE bC (ai 3) (ai 0)) (qT Z.kR.cl S.mt J U S.bd (ai 1) (da2 (aE bC (ai 2) (ai 0)) (aE bC (ai 2) (ai 4)))))))))))
theorem v7:YO Z.yR P w base 3 c_ (iR CR CL n):=
 fY ["rules","flights","closed","plan","spots","times","place","entry","flight","time"] fun z J S=>(ae (aO J (dY (v8 Z) S (da2 (ai 1) (ai 3)))) (ae (j8 J (bU bB)) (ae (ba (pt:=.tp [6,7]) (By Z.eY (ai 3)) (iF rfl (aR (i:=6) J (aR (i:=7) J cE))) (ae (aO J (aE bC (ai 1) (aE bC (ai 7) af))) (ae (Bs (i:=9) (own:=c_) J (dY (l9 Z) S (da2 (ai 2) (aD (u9 rfl) Z.rK HQ (da1 (av (aA dk (av (bU (da1 (aE bC (ai 8) af)))) (dY (sP Z) S (da4 (ai 0) (ai 4) (ai 5) (ai 6)))))))))) (ae (cL (bx o_gt (ai 9) (aE bC (ai 8) af)) (bf (O2:=[]) kU) bp) (ak (eG (i:=5) (ai 9))))))) (bf (O2:=[]) (ak (aG (ai 5)))))))
theorem yq:YO Z.BC P w base 2 c_ (iq CR CL n):=
 fY ["flights","plan","times"] fun z S J=>(ak (aG (aD (c_sum rfl) Z.z_sum boot_sum (da1 (av (cF ["entry","time","flights"] [d_,d_,a_ 0] (di_zip Z.z_zip (ai 1) (ai 2)) (fun _ _ _ _ _=>iF rfl (cO (i:=0) (by decide +kernel) (cO (i:=1) (by decide +kernel) cE))) (ir (by decide)) (fun _ _ _ _ _=>bz) (fun _ _ _ _ _=>(dY (lb Z) J (da2 (aE bC (ai 2) (aE bC (ai 0) af)) (ai 1))))))))))
theorem jT:YO Z.kZ P w base 1 c_ (cJ CR CL n):=
 fY ["flights","first","last"] fun z J S=>(ak (aG (av (cF ["number","flight","first","last"] [d_,d_,a_ 1,a_ 2] (By Z.eY (ai 0)) (fun _ _ _ _ _=>iF rfl (cO (i:=0) (by decide +kernel) (cO (i:=1) (by decide +kernel) cE))) (ir (by decide)) (fun _ _ _ _ _=>pts_one (PW.pt (dw_and (bx o_le (ai 2) (aE bC (ai 1) af)) (Bp (bx o_le (aE bC (ai 1) af) (ai 3)))))) (fun _ _ _ _ _=>(ai 0))))))
theorem vc:YO Z.yU P w base 1 c_ (iU CR CL n):=
 fY ["kinds","there","pairs","kind","other"] fun z J S=>(ae (aO J (av (vB Z.jK Z.z_set (ai 0)))) (ae (j8 J (bU bB)) (ae (ba (pt:=.nm 3) (bq (ai 1)) (fm J) (ak (ba (pt:=.nm 4) (bq (ai 1)) (fm J) (ak (cL (PW.pt (dw_or (bx (o_ne S.units) (ai 3) (ai 4)) (dw_or1 (bx o_gt (de_count S.units (ai 0) (ai 3)) af)))) (ak (eG (i:=2) (bG (da2 (ai 3) (ai 4))))) bp))))) (bf (O2:=[]) (ak (aG (ai 2)))))))
theorem nL:YO Z.qW P w base 2 c_ (dn CR CL n):=
 fY ["rules","kinds","found","kind","other","strip"] fun z U Y=>let ⟨_,_,a,S⟩:=jx Z;let ⟨_,_,b,J⟩:=bF Z;(ae (j8 U (bU bB)) (ae (ba (pt:=.tp [3,4]) (bq (dY (vc Z) Y (da1 (ai 1)))) (iF rfl (aR (i:=3) U (aR (i:=4) U cE))) (ak (ba (pt:=.nm 5) (cM Z.bE (da1 (gG Z.kR.cl b.mt J Y b.bd (ai 0)))) (fm U) (ak (eG (i:=2) (qT Z.kR.cl a.mt S Y a.bd (ai 0) (da2 (bG (da2 (ai 3) af)) (bG (da2 (ai 4) (ai 5)))))))))) (bf (O2:=[]) (ak (aG (aD (c_min rfl) Z.z_min MG (da1 (ai 2))))))))
theorem vd:YO Z.yV P w base 3 c_ (cI CR CL n):=
 fY ["rules","flights","some","first","last","kinds"] fun z J S=>(ae (cL (bx o_lt (aD j9 Z.j5 Df (da1 (ai 2))) af) (ak (aG vG)) bp) (ae (aO J (aD (c_min rfl) Z.z_min MG (da1 (av (cF ["number","flights"] [d_,a_ 1] (bq (ai 2)) (fun _ _ _ _ _=>ej (by decide +kernel)) (aK rfl) (fun _ _ _ _ _=>bz) (fun _ _ _ _ _=>(aE bC (aE bC (ai 1) (ai 0)) af))))))) (ae (aO J (aD (u9 rfl) Z.rK HQ (da1 (av (cF ["number","flights"] [d_,a_ 1] (bq (ai 2)) (fun _ _ _ _ _=>ej (by decide +kernel)) (aK rfl) (fun _ _ _ _ _=>bz) (fun _ _ _ _ _=>(aE bC (aE bC (ai 1) (ai 0)) af))))))) (ae (m7 (i:=5) c_ ["number","flights"] [d_,a_ 1] J (bq (ai 2)) (fun _ _ _ _ _=>ej (by decide +kernel)) (aK rfl) (fun _ _ _ _ _=>bz) (fun _ _ _ _ _=>(aE bC (aE bC (ai 1) (ai 0)) af))) (ak (aG (xk o_gt (aA lK (dY (nL Z) S (da2 (ai 0) (ai 5))) (aA yr (aD j9 Z.j5 Df (da1 (ai 2))) af)) (aA yr (ai 4) (ai 3)))))))))
theorem ve:YO Z.yW P w base 4 c_ (dO CR CL n):=
 fY ["rules","flights","firsts","lasts","first","last","some"] fun z J S=>(ae (aO J (av (vB Z.jK Z.z_set (av (cF ["flight"] [d_] (bq (ai 1)) (fun _ _ _ _ _=>ej (by decide +kernel)) (aK rfl) (fun _ _ _ _ _=>bz) (fun _ _ _ _ _=>(aE bC (ai 0) af))))))) (ae (aO J (av (vB Z.jK Z.z_set (av (cF ["flight"] [d_] (bq (ai 1)) (fun _ _ _ _ _=>ej (by decide +kernel)) (aK rfl) (fun _ _ _ _ _=>bz) (fun _ _ _ _ _=>(aE bC (ai 0) af))))))) (ae (ba (pt:=.nm 4) (bq (ai 2)) (fm J) (ak (ba (pt:=.nm 5) (bq (ai 3)) (fm J) (ae (aO J (dY (jT Z) S (da3 (ai 1) (ai 4) (ai 5)))) (ak (cL (nc (dY (vd Z) S (da3 (ai 0) (ai 1) (ai 6)))) (ak (aG (ai 6))) bp)))))) (ak (aG pd)))))
theorem on_CL:∃f fd,Mth K CL "__init__" "NoPlan.__init__" s_nCL ["self","crowd"] f fd/\XMk K mg "NoPlan" CL f/\iN P w K mg base CX0 1 f fd ["self","crowd"] (spXL K CL "crowd"):=
 let ⟨_,_,N,X⟩:=Z.n_CL;⟨_,_,N,X,okn_CL N.fn Z.aCL_crowd Z.jL⟩
theorem sQ:YX Z.vK P w base 7 c_ (dP CR CL n):=
 fX ["rules","flights","closed","shift","paper","everyone","labels","plan","times"] fun z Y U=>let ⟨_,_,a,J,S⟩:=on_CL Z;(ae (qP (aO Y (dY (v9 Z) U (da4 (ai 0) (ai 1) (ai 2) (ai 3))))) (ae (qP (aO Y (xj Z.kx Z.bE (da1 (aD j9 Z.j5 Df (da1 (ai 1))))))) (ae (qP (aO Y (qU U.units (ai 4) (ai 5) (av (bU bB))))) (ae (cL (tK (nc (ai 6))) (ak (Bt PySem.F.excBase_ValueError xeqD2 J.ex J.fn J.kp S (U.mono (by decide)) a.bd J.mg (da1 (de_lift (de_orN (dY (ve Z) U (da2 (ai 0) (ai 1))) (de_one (av (bU bB)))))))) bp) (dss_lift (ae (aO Y (dY (yp Z) U (da6 (ai 0) (ai 1) (ai 2) (ai 4) (ai 5) (aD c_minL1 Z.z_min MG (da1 (ai 6)))))) (ae (aO Y (dY (v7 Z) U (da4 (ai 0) (ai 1) (ai 2) (ai 7)))) (ak (aG (bG (da3 (dY (yq Z) U (da3 (ai 1) (ai 7) (ai 8))) (ai 7) (ai 8))))))))))))
theorem jU:YO Z.tW P w base 8 c_ (bM CR CL n):=
 fY ["_law_rules","_law_flights_here","_law_closed_here","_law_told","e"] fun z S U=>let ⟨_,_,J⟩:=sQ Z;(ae (aO S pd) (ae (ds_toldI (i:=4) (j:=3) (fun pins σ E a Y=>(dsa_set (own:=c_) S (dea_call J.o Y U J.d.mg J.d.fn.kp J.d.bd (da4 (ai 0) (ai 1) (ai 2) af)))) Z.xCL Z.aCL_crowd Z.kit Z.fO Z.jL S) (ak (aG (ai 3)))))
theorem dj:YO Z.o6 P w base 1 c_ (bh CR CL n):=
 fY ["_law_script","_law_k"] fun z J S=>(ae (cL (bx o_lt (ai 1) (aD j9 Z.j5 Df (da1 (ai 0)))) (ak (aG (aA dC (aE bC (ai 0) (ai 1)) (aA yt af af)))) bp) (ak (aG af)))
theorem sS:YO Z.vM P w base 1 c_ (gS CR CL n):=
 fY ["_law_flights_here","_law_plan","_law_times_here","_law_total","_law_spot","_law_time"] fun z J S=>(ae (aO J af) (ae (ba (pt:=.tp [4,5]) (di_zip Z.z_zip (ai 1) (ai 2)) (iF rfl (aR (i:=4) J (aR (i:=5) J cE))) (ak (aO J (av (aA dk (ai 3) (aA lK (aE bC (aE bC (ai 0) (aE bC (ai 4) af)) af) (aD (u9 rfl) Z.rK HQ (da2 af (aA yr (ai 5) (aE bC (aE bC (ai 0) (aE bC (ai 4) af)) af)))))))))) (ak (aG (ai 3)))))
theorem on_R:∃f fd,Mth K CR "__init__" "Rules.__init__" s_nR ["self","gaps"] f fd/\iN P w K mg base CX0 4 f fd ["self","gaps"] (spI1 K CR (aY CR CL n)):=
 let ⟨_,_,Y⟩:=mE Z;let ⟨_,_,N⟩:=Z.n_R;⟨_,_,N,okn_R Y.d Y.o N.fn Z.kR.cl (Z.qI CR (by simp)).2⟩
theorem ok_law:YO (law_d Z.d_law) P w base 9 c_ (AK CR CL n):=
 fY ["_law_script","_law_kinds","_law_many","_law_gaps_here","_law_rules","_law_flights_here","_law_closed_here","_law_plan","_law_times_here","_law_handed","_law_told","_law_free"] fun z S J=>let ⟨_,_,Y,U⟩:=on_R Z;(ae (aO S (av (aA dk af (aA dC (aA dC (aA lK (dY (dj Z) J (da2 (ai 0) af)) af) af) af)))) (ae (aO S (aA dC (aA dC (aA lK (dY (dj Z) J (da2 (ai 0) af)) af) af) af)) (ae (cL (bx (AD J.units) (aA dC (aA hZ (dY (dj Z) J (da2 (ai 0) af)) af) af) af) (ak (aO S af)) bp) (ae (aO S (dY (sR Z) J (da3 (ai 0) af (ai 1)))) (ae (aO S (de_newR ⟨Z.kR.mks,Y.mt.at_,Y.mt.fn,Z.kR.kp⟩ U (J.mono (by decide)) Z.kR.mg Y.bd (da1 (ai 3)))) (ae (aO S (dY (mG Z) J (da4 (ai 0) af (ai 1) (ai 2)))) (ae (cL (bx (AD J.units) (aA dC (dY (dj Z) J (da2 (ai 0) af)) af) af) (ak (m7 (i:=5) c_ ["_law_flight"] [d_] S (bq (ai 5)) (fun _ _ _ _ _=>ej (by decide +kernel)) (aK rfl) (fun _ _ _ _ _=>bz) (fun _ _ _ _ _=>(bG (da5 (aE bC (ai 0) af) (aE bC (ai 0) af) (aA yt af af) (aE bC (ai 0) af) (aE bC (ai 0) af)))))) bp) (ae (aO S (dY (nQ Z) J (da2 (ai 0) af))) (ae (m7 (i:=7) c_ ["_law_flight"] [d_] S (cM Z.bE (da1 (ai 2))) (fun _ _ _ _ _=>ej (by decide +kernel)) (aK rfl) (fun _ _ _ _ _=>bz) (fun _ _ _ _ _=>(bG (da2 (ai 0) af)))) (ae (aO S (dY (qq Z) J (da5 (ai 3) (av (bU bB)) (ai 5) (ai 6) (ai 7)))) (ae (aO S (av (bU (da2 (av (eu xr Z.jL DY (da1 (ai 5)))) (av (eu xr Z.jL DY (da1 (ai 6)))))))) (ae (aO S (dY (jU Z) J (da3 (ai 4) (aE bC (ai 9) af) (aE bC (ai 9) af)))) (ae (cL (bx (o_ne J.units) (ai 9) (av (bU (da2 (ai 5) (ai 6))))) (ak (aG vG)) bp) (ae (cL (bx o_isN (ai 8) pd) (ak (aG (xk o_isB (ai 10) vG))) bp) (ae (cL (bx (o_ne J.units) (ai 10) (bG (da3 (dY (sS Z) J (da3 (ai 5) (ai 7) (ai 8))) (ai 7) (ai 8)))) (ak (aG vG)) bp) (ae (m7 (i:=11) c_ ["_law_flight"] [d_] S (bq (ai 5)) (fun _ _ _ _ _=>ej (by decide +kernel)) (aK rfl) (fun _ _ _ _ _=>bz) (fun _ _ _ _ _=>(bG (da5 (aE bC (ai 0) af) (aE bC (ai 0) af) (aE bC (ai 0) af) (aE bC (ai 0) af) af)))) (ak (aG (xk (AD J.units) (dY (jU Z) J (da3 (ai 4) (ai 11) (ai 6))) (bG (da3 af (ai 7) (ai 8))))))))))))))))))))))
end
noncomputable abbrev bJ:=Int×Int
variable {cs as done:List bJ} {p:bJ}
noncomputable def stD (p:bJ):Dat:=.tup [.int p.1,.int p.2]
theorem rQ:∀cs:List bJ,fK (cs.map stD)=.ok (cs.map fun p=>[p.1,p.2])
 |[]=>rfl
 |p::cs=>by simp [fK,tupD,stD,aV,rQ cs]
theorem zO (cs:List bJ) (i:cs.length<64):∃S:List bJ,kz [.lst (cs.map stD)]=.ok (.lst (S.map stD))/\S.Perm cs/\S.Pairwise (fun p q=>p.1<=q.1):=by
 cases d:cs with
 |nil=>exact ⟨[],by simp [kz,rY,aV,dq],Ei _,F_⟩
 |cons p ps=>
  rw [<- d];have hi:∃e,aV (cs.map stD)=.error e:=⟨.stuck,by rw [d];simp [aV,stD,asI]⟩
  obtain ⟨e,j⟩:=hi;have U:((cs.map fun p=>[p.1,p.2]).all fun t=> !t.isEmpty)=f_:=by simp
  have es:kz [.lst (cs.map stD)]=.ok (.lst ((dq mL (cs.map fun p=>[p.1,p.2])).map aQ)):=by
   simp only [kz,rY,v_,i,Jp,j,rQ,ar,U]
  have c:=cb (lt:=mL) (cs.map fun p=>[p.1,p.2]);have f:=cY Aw (cs.map fun p=>[p.1,p.2]);generalize dq mL (cs.map fun p=>[p.1,p.2])=L at *
  let J:List Int->bJ:=fun l=>(l.getD 0 0,l.getD 1 0)
  have Y:∀l∈L,∃p:bJ,l=[p.1,p.2]:=fun l h=>by
   have:=c.mem_iff.mp h;simp only [CA] at this;obtain ⟨p,_,e⟩:=this;exact ⟨p,e.symm⟩
  refine ⟨L.map J,?_,?_,?_⟩
  ·rw [es,Cg]
   congr 2
   refine E_ fun l h=>?_;obtain ⟨p,rfl⟩:=Y l h;rfl
  ·have:=c.map J;rw [Cg] at this;have e2:List.map (J∘fun p=>[p.1,p.2]) cs=cs:=by
    rw [E_ (g:=id)]
    ·simp
    ·intro p _;rfl
   rwa [e2] at this
  ·rw [Ja];refine f.imp_of_mem fun {a b} m k h=>?_;obtain ⟨p,rfl⟩:=Y a m;obtain ⟨q,rfl⟩:=Y b k;show p.1<=q.1;simp only [mL] at h;by_cases e1:q.1=p.1
   ·omega
   ·rw [l_ e1] at h;have:=Ie h;omega
@[simp] theorem getI_c0 (a:Dat) (l:List Dat):jI (a::l) 0=.ok a:=by
 unfold jI atI ixN;rw [p_ (by omega),p_ (by simp<;>omega)];rfl
@[simp] theorem getI_c1 (a b:Dat) (l:List Dat):jI (a::b::l) 1=.ok b:=by
 unfold jI atI ixN;rw [p_ (by omega),p_ (by simp<;>omega)];rfl
@[simp] theorem getI_c2 (a b c:Dat) (l:List Dat):jI (a::b::c::l) 2=.ok c:=by
 unfold jI atI ixN;rw [p_ (by omega),p_ (by simp<;>omega)];rfl
@[simp] theorem getI_c3 (a b c d:Dat) (l:List Dat):jI (a::b::c::d::l) 3=.ok d:=by
 unfold jI atI ixN;rw [p_ (by omega),p_ (by simp<;>omega)];rfl
@[simp] theorem getI_c4 (a b c d e:Dat) (l:List Dat):jI (a::b::c::d::e::l) 4=.ok e:=by
 unfold jI atI ixN;rw [p_ (by omega),p_ (by simp<;>omega)];rfl
section
variable (CR CL:h_)
noncomputable def lE (r:List Int):Dat:=.lst (r.map .int)
def cx (rows:List (List Int)):Dat:=.lst (rows.map lE)
def nB (k:Nat) (r:List Int):Prop:=r.length=k/\∀x∈r,0<=x/\x<=1000000
def cv (k:Nat) (rows:List (List Int)):Prop:=rows.length=k/\∀r∈rows,nB k r
theorem xY {lo:Int} (h:(az lo m)[i]? =a_ d):i<m/\d=.int (lo+i):=by
 unfold az at h;rw [CC] at h;obtain ⟨a,h1,h2⟩:=Kd.mp h;have hi:=(y_.mp h1).1;rw [Eu] at hi;rw [GS hi] at h1;cases h1;exact ⟨hi,h2.symm⟩
theorem iP (h:(az 0 m)[i]? =a_ d):i<m/\d=.int i:=by
 obtain ⟨h1,h2⟩:=xY h;exact ⟨h1,by rw [h2,K4]⟩
theorem bu (lo:Int) (m:Nat):(az lo m).length=m:=by unfold az;simp
end
section
variable (CR CL:h_)
theorem B4 (n:Nat) (x:Int) (J:0<=x) (h1:x<=1000000):iV CR CL n [.int x]=.ok (.bl f_):=by simp [iV,wV,pA,J,h1]
theorem qC (n:Nat) (k:Nat) (r:List Int) (Y:k<=6) (h:nB k r):cV CR CL n [lE r,.int k]=.ok (.bl f_):=by
 have U:r.length<=16777216:=by have:=h.1;omega
 have J:k<=16777216:=by omega
 have e:aH (.nm 0) g7 (fL (iV CR CL n) (a9 (aa 0) ax)) [d_] (r.map .int)=.ok ((r.map fun _=>f_).map Dat.bl):=by
  have:=fq (p:=.nm 0) (fe:=fL (iV CR CL n) (a9 (aa 0) ax)) (ρ0:=[d_]) (fun _=>.bl f_) (r.map .int) (fun d hd=>by
   obtain ⟨x,S,rfl⟩:=CA.mp hd;exact ⟨[a_ (.int x)],by simp,by simp [B4 CR CL n x (h.2 x S).1 (h.2 x S).2]⟩)
  rw [this,Cg,Cg];rfl
 simp [cV,lp,lE,e,U,J,h.1,-Cg]
theorem BF (n:Nat) (rows:List (List Int)) (U:rows.length<=1000):eQ CR CL n [cx rows]=.ok (cx rows):=by
 have J:rows.length<=16777216:=by omega
 have e:aH (.nm 0) g7 (fL kJ (a9 (aa 0) ax)) [d_] (rows.map lE)=.ok (rows.map lE):=by
  have:=fq (p:=.nm 0) (fe:=fL kJ (a9 (aa 0) ax)) (ρ0:=[d_]) id (rows.map lE) (fun d hd=>by
   obtain ⟨x,S,rfl⟩:=CA.mp hd;exact ⟨[a_ (lE x)],by simp,by simp [lE]⟩)
  rw [this,List.map_id]
 simp [eQ,k8,cx,e,J]
theorem yY (n:Nat) (k:Nat) (rows:List (List Int)) (h1:1<=k) (U:k<=6) (h:cv k rows):aY CR CL n [cx rows]=.ok (cx rows):=by
 have J:rows.length<=16777216:=by have:=h.1;omega
 have e:aH (.nm 0) g7 (fL (cV CR CL n) (a9 (aa 0) (a9 (aa 1) ax))) [d_,a_ (.int rows.length)] (rows.map lE)=.ok ((rows.map fun _=>f_).map Dat.bl):=by
  have:=fq (p:=.nm 0) (fe:=fL (cV CR CL n) (a9 (aa 0) (a9 (aa 1) ax))) (ρ0:=[d_,a_ (.int rows.length)]) (fun _=>.bl f_) (rows.map lE) (fun d hd=>by
   obtain ⟨x,S,rfl⟩:=CA.mp hd;exact ⟨[a_ (lE x),a_ (.int rows.length)],by simp,by simp [h.1,qC CR CL n k x U (h.2 x S)]⟩)
  rw [this,Cg,Cg];rfl
 have a:(1:Int)<=rows.length:=by have:=h.1;omega
 have Y:(rows.length:Int)<=6:=by have:=h.1;omega
 have e3:=BF CR CL n rows (by have:=h.1;omega);simp only [cx] at e3;simp [aY,jf,i8,i7,cx,e,e3,J,a,Y,-Cg]
end
structure Fli where
 kind:Int
 first:Int
 last:Int
 due:Int
 price:Int
variable {fl:List Fli}
noncomputable def flD (f:Fli):Dat:=.tup [.int f.kind,.int f.first,.int f.last,.int f.due,.int f.price]
structure fJ (k:Nat) (f:Fli):Prop where
 k0:0<=f.kind
 k1:f.kind<k
 f0:0<=f.first
 f1:f.first<=f.last
 l1:f.last<=1000000000
 d0:0<=f.due
 d1:f.due<=1000000000
 p0:0<=f.price
 p1:f.price<=1000000000
@[simp] theorem flatTop_f (d:Dat):kQ c_ d=eh d:=by cases d<;>rfl
@[simp] theorem flatD_int (i:Int):eh (.int i)=f_:=by rw [eh]<;>simp
noncomputable def eS (fl:List Fli) (i:Int):Fli:=match fl[i.toNat]? with
 |some f=>f
 |none=>⟨0,0,0,0,0⟩
theorem Bc {i:Int} (S:0<=i) (h1:i<fl.length):jI (fl.map flD) i=.ok (flD (eS fl i))/\eS fl i∈fl:=by
 have J:i.toNat<fl.length:=by omega
 have e:eS fl i=fl[i.toNat]:=by unfold eS;rw [Cr J]
 refine ⟨?_,by rw [e];exact D2 J⟩
 have:=iZ (ds:=fl.map flD) (k:=i.toNat) (by simpa using J);rw [show ((i.toNat:Nat):Int)=i by omega] at this;rw [this,e];simp
def Cov (cs:List bJ) (t:Int):Prop:=∃p∈cs,p.1<=t/\t<p.2
def jl (cs:List bJ) (t u:Int):Prop:=t<=u/\¬Cov cs u/\∀v,t<=v->v<u->Cov cs v
theorem jl.uniq {t v:Int} (h:jl cs t u) (k:jl cs t v):u=v:=by
 rcases Ml u v with e|e|e
 ·exact Cj (k.2.2 u h.1 e) h.2.1
 ·exact e
 ·exact Cj (h.2.2 v k.1 e) k.2.1
theorem BE (t:Int):¬Cov [] t:=fun ⟨_,h,_⟩=>by simp at h
theorem xn {t:Int}:Cov (p::cs) t↔(p.1<=t/\t<p.2)\/Cov cs t:=by
 constructor
 ·rintro ⟨q,h,h2⟩;rcases r_.mp h with e|e
  ·subst e;exact .inl h2
  ·exact .inr ⟨q,e,h2⟩
 ·rintro (h|⟨q,h,h2⟩)
  ·exact ⟨p,by simp,h⟩
  ·exact ⟨q,by simp [h],h2⟩
theorem gH {bs:List bJ} {t:Int}:Cov (as++bs) t↔Cov as t\/Cov bs t:=by
 constructor
 ·rintro ⟨q,h,h2⟩;rcases Dw.mp h with e|e
  ·exact .inl ⟨q,e,h2⟩
  ·exact .inr ⟨q,e,h2⟩
 ·rintro (⟨q,h,h2⟩|⟨q,h,h2⟩)
  ·exact ⟨q,by simp [h],h2⟩
  ·exact ⟨q,by simp [h],h2⟩
theorem cov_perm {bs:List bJ} (h:as.Perm bs) {t:Int}:Cov as t↔Cov bs t:=⟨fun ⟨p,m,q⟩=>⟨p,h.mem_iff.mp m,q⟩,fun ⟨p,m,q⟩=>⟨p,h.mem_iff.mpr m,q⟩⟩
theorem vN {t:Int}:Cov [p] t↔p.1<=t/\t<p.2:=by rw [xn];simp [BE]
noncomputable def tAt (ts:List Int) (i:Nat):Int:=ts.getD i 0
noncomputable def qAt (qs:List bJ) (i:Nat):bJ:=qs.getD i (0,0)
noncomputable def rwAt (rows:List (List Int)) (i:Int):List Int:=rows.getD i.toNat []
def at2 (rows:List (List Int)) (i j:Int):Int:=(rwAt rows i).getD j.toNat 0
theorem getQ {qs:List bJ} (h:i<qs.length):jI (qs.map stD) (i:Int)=.ok (stD (qAt qs i)):=by
 rw [iZ (by simpa using h)];simp [qAt,h]
theorem getT (h:i<ts.length):jI (ts.map .int) (i:Int)=.ok (.int (tAt ts i)):=by
 rw [iZ (by simpa using h)];simp [tAt,h]
theorem vq (g:cv k rows) {i:Int} (U:0<=i) (h1:i<k):jI (rows.map lE) i=.ok (lE (rwAt rows i))/\nB k (rwAt rows i):=by
 have S:=g.1;have J:i.toNat<rows.length:=by omega
 have e:rwAt rows i=rows[i.toNat]:=by simp [rwAt,J]
 refine ⟨?_,by rw [e];exact g.2 _ (D2 J)⟩
 have:=iZ (ds:=rows.map lE) (k:=i.toNat) (by simpa using J);rw [show ((i.toNat:Nat):Int)=i by omega] at this;rw [this,e];simp
theorem getA (g:cv k rows) {i j:Int} (U:0<=i) (h1:i<k) (h2:0<=j) (a:j<k):jI ((rwAt rows i).map .int) j=.ok (.int (at2 rows i j))/\0<=at2 rows i j:=by
 have S:=(vq g U h1).2;have Y:=S.1;have J:j.toNat<(rwAt rows i).length:=by omega
 have e:at2 rows i j=(rwAt rows i)[j.toNat]:=by simp [at2,J]
 refine ⟨?_,by rw [e];exact (S.2 _ (D2 J)).1⟩
 rw [getI_int h2 (by omega),e]
theorem lookA1 (d:Dat):D1 ("apart":Cy) [(("gaps":Cy),d)]=d_:=by
 rw [Cp,show ((("apart":Cy)==("gaps":Cy))=c_) from by decide +kernel];rfl
def pG (js:List bJ):Prop:=js.Pairwise (fun p q=>p.2<q.1)/\∀p∈js,p.1<p.2
theorem wL (n:Nat):ixN (n+1) (-1)=a_ n:=by unfold ixN;simp<;>omega
@[simp] theorem getI_last (ds:List Dat) (d:Dat):jI (ds++[d]) (-1)=.ok d:=by
 unfold jI atI;rw [CP,HK,wL];simp
def hV (js done:List bJ):Prop:=pG js/\(∀t,Cov js t↔Cov done t)/\js.length<=done.length/\∀j∈js,∃d∈done,d.1=j.1
theorem hV.new {js:List bJ} (h:hV js done) (Y:p.1<p.2) (J:∀x∈js,x.2<p.1):hV (js++[p]) (done++[p]):=by
 obtain ⟨⟨h1,h2⟩,k,i,g⟩:=h;refine ⟨⟨?_,?_⟩,?_,by simp;exact i,?_⟩
 ·rw [FR];exact ⟨h1,by simp,fun a f b S=>by simp at S;subst S;exact J a f⟩
 ·intro x U;rcases Dw.mp U with e|e
  ·exact h2 x e
  ·simp at e;subst e;exact Y
 ·intro t;rw [gH,gH,k]
 ·intro j c;rcases Dw.mp c with e|e
  ·obtain ⟨d,m,z⟩:=g j e;exact ⟨d,by simp [m],z⟩
  ·simp at e;subst e;exact ⟨j,by simp,rfl⟩
theorem hV.more {J:List bJ} {q:bJ} (h:hV (J++[q]) done) (u:p.1<p.2) (h1:q.1<=p.1) (h2:p.1<=q.2):hV (J++[(q.1,dM p.2 q.2)]) (done++[p]):=by
 obtain ⟨⟨S,c⟩,r,o,Y⟩:=h;have s:q.1<q.2:=c q (by simp);have k:p.2<=dM p.2 q.2:=by unfold dM;split<;>omega
 have i:q.2<=dM p.2 q.2:=by unfold dM;split<;>omega
 have g:dM p.2 q.2=p.2\/dM p.2 q.2=q.2:=by unfold dM;split<;>omega
 rw [FR] at S;refine ⟨⟨?_,?_⟩,?_,by simp at o ⊢;omega,?_⟩
 ·rw [FR];exact ⟨S.1,by simp,fun a n b U=>by simp at U;subst U;exact S.2.2 a n q (by simp)⟩
 ·intro x f;rcases Dw.mp f with e|e
  ·exact c x (by simp [e])
  ·simp at e;subst e;show q.1<dM p.2 q.2;omega
 ·intro t;have:=r t;rw [gH,vN] at this;rw [gH,gH,<- this,vN,vN];show Cov J t\/q.1<=t/\t<dM p.2 q.2↔_;constructor
  ·rintro (z|z)
   ·exact .inl (.inl z)
   ·by_cases e:t<q.2
    ·exact .inl (.inr ⟨z.1,e⟩)
    ·exact .inr (by omega)
  ·rintro ((z|z)|z)
   ·exact .inl z
   ·exact .inr (by omega)
   ·exact .inr (by omega)
 ·intro j l;rcases Dw.mp l with e|e
  ·obtain ⟨d,m,z⟩:=Y j (by simp [e]);exact ⟨d,by simp [m],z⟩
  ·simp at e;subst e;obtain ⟨d,m,z⟩:=Y q (by simp);exact ⟨d,by simp [m],z⟩
theorem tw {g:ah->M Flo} {c:Option Dat} {t:Int} (r:bJ->Dat) (a:∀p:bJ,g [c,a_ (.int t),a_ (.int p.1),a_ (.int p.2)]=if p.1<=t/\t<p.2 then .ok (.rt (r p)) else .ok (.nx [c,a_ (.int t),a_ (.int p.1),a_ (.int p.2)])) :
  ∀(js:List bJ) (S J:Option Dat),(∃p∈js,(p.1<=t/\t<p.2)/\bQ (.tp [2,3]) g (js.map stD) [c,a_ (.int t),S,J]=.ok (.rt (r p)))\/(¬Cov js t/\∃Y U,bQ (.tp [2,3]) g (js.map stD) [c,a_ (.int t),S,J]=.ok (.nx [c,a_ (.int t),Y,U]))
 |[],S,J=>.inr ⟨BE t,S,J,rfl⟩
 |p::js,S,J=>by
  have d:d9 (.tp [2,3]) (stD p) [c,a_ (.int t),S,J]=.ok [c,a_ (.int t),a_ (.int p.1),a_ (.int p.2)]:=by simp [stD]
  by_cases h:p.1<=t/\t<p.2
  ·refine .inl ⟨p,by simp,h,?_⟩;rw [A_,bQ,d,ar,a,p_ h];rfl
  ·have e:bQ (.tp [2,3]) g ((p::js).map stD) [c,a_ (.int t),S,J]=bQ (.tp [2,3]) g (js.map stD) [c,a_ (.int t),a_ (.int p.1),a_ (.int p.2)]:=by
    rw [A_,bQ,d,ar,a,l_ h];rfl
   rcases tw r a js (a_ (.int p.1)) (a_ (.int p.2)) with ⟨q,f,h2,b⟩|⟨h2,b⟩
   ·exact .inl ⟨q,by simp [f],h2,by rw [e];exact b⟩
   ·refine .inr ⟨fun z=>?_,by rw [e];exact b⟩;rcases xn.mp z with z|z
    ·exact h z
    ·exact h2 z
theorem pG.tri:∀{js:List bJ},pG js->∀p∈js,∀q∈js,p=q\/p.2<q.1\/q.2<p.1
 |[],_,p,J,_,_=>by simp at J
 |a::js,⟨h1,h2⟩,p,J,q,U=>by
  rw [Ej] at h1;rcases r_.mp J with e|e<;>rcases r_.mp U with e2|e2
  ·exact .inl (e.trans e2.symm)
  ·subst e;exact .inr (.inl (h1.1 q e2))
  ·subst e2;exact .inr (.inr (h1.1 p e))
  ·exact pG.tri (js:=js) ⟨h1.2,fun x S=>h2 x (by simp [S])⟩ p e q e2
section
variable (CR CL:h_)
theorem AY (n:Nat) (cs:List bJ) (E:cs.length<64) (D:∀p∈cs,p.1<p.2):∃js:List bJ,cm CR CL n [.lst (cs.map stD)]=.ok (.lst (js.map stD))/\pG js/\(∀t,Cov js t↔Cov cs t)/\js.length<=cs.length:=by
 obtain ⟨b,e,s,hw⟩:=zO cs E;have A:b.length=cs.length:=s.length_eq;have key:=j0 (p:=.tp [2,3]) (g:=bc CR CL n)
  (fun k ρ=>∃js l h,ρ=[a_ (.lst (cs.map stD)),a_ (.lst (js.map stD)),l,h]/\hV js (b.take k)) (b.map stD) 0 [a_ (.lst (cs.map stD)),a_ (.lst []),d_,d_] ⟨[],d_,d_,rfl,⟨by simp [pG],fun t=>Iff.rfl,by simp,by simp⟩⟩ (by
  rintro i d ρ hd ⟨js,l,h,rfl,J⟩;rw [CC] at hd;obtain ⟨p,a,rfl⟩:=Kd.mp hd;obtain ⟨hi,r⟩:=y_.mp a;have o:b.take (0+i+1)=b.take (0+i)++[p]:=by rw [F9,MQ,a];rfl
  have Y:p.1<p.2:=D p (s.mem_iff.mp (E4 a));have U:∀j∈js,j.1<=p.1:=fun j w=>by
   obtain ⟨d,B,G⟩:=J.2.2.2 j w;rw [F9] at B;obtain ⟨m,F,u⟩:=List.mem_take_iff_getElem.mp B;have:=G8.mp hw m i (by omega) hi (by omega);rw [u,r] at this;omega
  have y:js.length<64:=by
   have:=J.2.2.1;rw [FZ] at this;omega
  refine ⟨_,by simp [stD];rfl,?_⟩
  rw [o];rcases List.eq_nil_or_concat js with f|⟨S,q,f⟩
  ·subst f;refine ⟨_,.inl (by simp [bc,bD];rfl),[p],a_ (.int p.1),a_ (.int p.2),by simp [stD],by simpa using J.new Y (by simp)⟩
  ·rw [List.concat_eq_append] at f;subst f;by_cases z:p.1<=q.2
   ·refine ⟨_,.inl (by simp [bc,bD,stD,z,eh,oZ,wL];rfl),S++[(q.1,dM p.2 q.2)],a_ (.int p.1),a_ (.int p.2),?_,J.more Y (U q (by simp)) z⟩
    simp [stD]
   ·have v:∀x∈S++[q],x.2<p.1:=fun x C=>by
     rcases Dw.mp C with e|e
     ·have h1:=(FR.mp J.1.1).2.2 x e q (by simp);have h2:=J.1.2 q (by simp);omega
     ·simp at e;subst e;omega
    simp at y;have c:S.length+1<16777216:=by omega
    refine ⟨_,.inl (by simp [bc,bD,stD,z,c];rfl),S++[q]++[p],a_ (.int p.1),a_ (.int p.2),by simp [stD],J.new Y v⟩)
 obtain ⟨ρ',e2,js,l,h,rfl,J⟩:=key;refine ⟨js,?_,J.1,fun t=>?_,?_⟩
 ·simp [cm,fV,e,e2]
 ·rw [J.2.1 t,F9,v_,Jn];exact cov_perm s
 ·have:=J.2.2.1;rw [FZ,v_] at this;omega
theorem next_ok (n:Nat) (cs:List bJ) (t:Int) (b:cs.length<64) (Y:∀p∈cs,p.1<p.2):∃u,cT CR CL n [.lst (cs.map stD),.int t]=.ok (.int u)/\jl cs t u:=by
 obtain ⟨js,e,U,S,_⟩:=AY CR CL n cs b Y;rcases tw (g:=gY CR CL n) (c:=a_ (.lst (cs.map stD))) (t:=t) (fun p=>.int p.2) (fun p=>by by_cases h1:p.1<=t<;>by_cases h2:t<p.2<;>simp [gY,kl,h1,h2]) js d_ d_ with ⟨p,J,h,e2⟩|⟨h,f,d,e2⟩
 ·refine ⟨p.2,by simp [cT,jA,e,e2],by omega,fun z=>?_,fun v h1 h2=>(S v).mp ⟨p,J,by omega,h2⟩⟩
  obtain ⟨q,a,i⟩:=(S _).mpr z;rcases U.tri p J q a with e|e|e
  ·subst e;omega
  ·omega
  ·have:=U.2 p J;omega
 ·exact ⟨t,by simp [cT,jA,e,e2],Eo _,fun z=>h ((S t).mpr z),fun v h1 h2=>by omega⟩
end
def late (f:Fli) (t:Int):Int:=f.price*dM 0 (t-f.due)
def fN (fl:List Fli):List bJ->List Int->List Int
 |p::qs,t::ts=>late (eS fl p.1) t::fN fl qs ts
 |_,_=>[]
section
variable (CR CL:h_)
theorem AU (n:Nat) (f:Fli) (t:Int) (U:0<=f.price) (h1:f.price<=1000000000):dN CR CL n [flD f,.int t]=.ok (.int (late f t)):=by
 have S: -18446744073709551616<f.price:=by omega
 have J:f.price<18446744073709551616:=by omega
 simp [dN,mW,flD,S,J,late]
theorem u3 (n:Nat) (k:Nat) (fl:List Fli) (J:∀f∈fl,fJ k f):∀(qs:List bJ) (ts:List Int),(∀p∈qs,0<=p.1/\p.1<fl.length)->aH (.tp [0,1]) g7 (fL (dN CR CL n) (a9 (f2 ixD (aa 2) (f2 ixD (aa 0) (fC (.int 0)))) (a9 (aa 1) ax))) [d_,d_,a_ (.lst (fl.map flD))] (ku (qs.map stD) (ts.map .int))=.ok ((fN fl qs ts).map .int)
 |[],ts,_=>by rw [Fs,ku.eq_def];rfl
 |p::qs,[],_=>by rw [Fs,A_,ku.eq_def];rfl
 |p::qs,t::ts,h=>by
  obtain ⟨U,S⟩:=h p (by simp);obtain ⟨e,b⟩:=Bc U S;have g:=J _ b;have c:=AU CR CL n (eS fl p.1) t g.p0 g.p1;have Y:=u3 n k fl J qs ts fun q a=>h q (by simp [a]);rw [A_,A_,ku,aH];simp [stD,e,c,Y,fN]
theorem zx:∀(ds es:List Dat),(ku ds es).length<=ds.length
 |[],_=>by rw [ku.eq_def];simp
 |_::_,[]=>by rw [ku.eq_def];simp
 |d::ds,e::es=>by rw [ku,Ci,Ci];have:=zx ds es;omega
end
theorem qr (n:Nat):∀ts:List Int,kI (ts.map .int) (n+1)=f_
 |[]=>by simp [kI]
 |p::cs=>by simp [kI,okE,qr n cs]
theorem qM:∀cs:List Int,kg (cs.map .int) (cs.map .int)=f_
 |[]=>by simp [kg]
 |p::cs=>by simp [kg,eqD,qM cs]
noncomputable def rC (J:Nat->Int):Nat->List Int->List Int
 |_,[]=>[]
 |j,x::xs=>if x= -1 then rC J (j+1) xs else (x+J j)::rC J (j+1) xs
theorem wy (J:Nat->Int):∀(j:Nat) (xs:List Int),(rC J j xs).length<=xs.length
 |_,[]=>by simp [rC]
 |j,x::xs=>by
  have:=wy J (j+1) xs;unfold rC;split<;>simp<;>omega
theorem ke:∀(xs:List Int) (x:Int),xs.foldl dM x=x\/xs.foldl dM x∈xs
 |[],x=>.inl rfl
 |y::xs,x=>by
  rw [GL];have J:dM x y=x\/dM x y=y:=by unfold dM;split<;>omega
  rcases ke xs (dM x y) with h|h
  ·rcases J with z|z
   ·exact .inl (h.trans z)
   ·exact .inr (by rw [h,z];simp)
  ·exact .inr (by simp [h])
noncomputable def cnt (cs:List bJ) (t:Int):Nat:=cs.countP fun p=>Ca (t<p.2)
theorem xp {t:Int} (h:t<=u):cnt cs u<=cnt cs t:=by
 unfold cnt;exact List.countP_mono_left fun p _ J=>by simp at J ⊢;omega
theorem BJ:∀{cs:List bJ} {p:bJ} {t:Int},p∈cs->t<p.2->cnt cs p.2<cnt cs t
 |[],p,t,J,_=>by simp at J
 |a::cs,p,t,J,S=>by
  have Y:=xp (cs:=cs) (t:=t) (u:=p.2) (by omega);unfold cnt at *;rw [F7,F7];rcases r_.mp J with e|e
  ·subst e;simp [S];omega
  ·have U:=BJ (cs:=cs) e S;unfold cnt at U;by_cases h1:p.2<a.2
   ·have:t<a.2:=by omega
    simp [h1,this];omega
   ·by_cases h2:t<a.2<;>simp [h1,h2]<;>omega
noncomputable def stops (cs:List bJ) (t:Int):List Int:=(cs.filter fun p=>Ca (p.1<=t)&&Ca (t<p.2)).map (·.2)
theorem ixN_nat (h:i<n):ixN n (i:Int)=a_ i:=by
 unfold ixN;rw [p_ (by omega),p_ (by omega)];simp
theorem take63 {ns:List Int} (h:ns.length<=63):ie (.lst (ns.map .int)) d_ (a_ 63)=.ok (.lst (ns.map .int)):=by
 show Dz (Dat.lst (BD (ns.map Dat.int) d_ (a_ 63)))=_
 congr 2
 unfold BD cX;rw [Gu,Fp];simp;omega
section
variable (CR CL:h_)
theorem vP (n:Nat) (ns:List Int) (j:Nat):∃x,bh CR CL n [.lst (ns.map .int),.int j]=.ok (.int x)/\0<=x:=by
 by_cases h:j<ns.length
 ·refine ⟨ns[j]%1000000000000000000000000,?_,HM _ (by decide)⟩
  have e:=iZ (ds:=ns.map Dat.int) (k:=j) (by simpa using h);simp [bh,gn,eJ,h,e]
 ·exact ⟨0,by simp [bh,gn,eJ,h],by omega⟩
theorem wI (y:Int):0<=(y*1442695040888963407+4321)%2305843009213693921:=HM _ (by decide)
theorem jV (n:Nat) (ns:List Int) (c:ns.length<=63) (k:Int) (i:0<=k) (h1:k<1000000):∃x,bw CR CL n [.lst (ns.map .int),.int k]=.ok (.int x)/\0<=x:=by
 have U: -18446744073709551616<k:=by omega
 have S:k<18446744073709551616:=by omega
 have h:=take63 c;by_cases Y:0<ns.length
 ·have f:0<=k%(ns.length:Int):=HM _ (by omega);have d:k%(ns.length:Int)<(ns.length:Int):=L8 _ (by omega);have g:(0:Int)<ns.length:=by omega
  have J:ns≠[]:=fun e=>by rw [e] at Y;simp at Y
  refine ⟨_,?_,wI ((ns[(k%(ns.length:Int)).toNat]'(by omega)%1000000000000000000000000+k*k*7919+ns.length)*48271%2305843009213693951)⟩
  simp [bw,gW,fy,h,Y,J,getI_int f d,Bn g,U,S]
 ·have J:ns=[]:=by cases ns with|nil=>rfl|cons a b=>simp at Y
  subst J;refine ⟨_,?_,wI ((11*k+3+k*k*7919+0)*48271%2305843009213693951)⟩
  simp only [Fs] at h;simp [bw,gW,fy,h,U,S]
theorem gap_row (n:Nat) (ns:List Int) (o:ns.length<=63) (b:Int) (k:Nat) (J:Nat) (rows:List Dat) (j h f:Option Dat) (D:0<=b) (C:b<=100) (B:k<=6) (G:J<k) :
  ∃(r:List Int) (Y U S:Option Dat),nB k r/\bQ (.nm 6) (bR CR CL n) (az 0 k) [a_ (.lst (ns.map .int)),a_ (.int b),a_ (.int k),a_ (.lst rows),a_ (.int J),a_ (.lst []),j,h,f]=.ok (.nx [a_ (.lst (ns.map .int)),a_ (.int b),a_ (.int k),a_ (.lst rows),a_ (.int J),a_ (lE r),Y,U,S]):=by
 obtain ⟨ρ',e,r,Y,U,S,rfl,h1,h2⟩:=j0 (p:=.nm 6) (g:=bR CR CL n)
  (fun i ρ=>∃(r:List Int) (j h f:Option Dat),ρ=[a_ (.lst (ns.map .int)),a_ (.int b),a_ (.int k),a_ (.lst rows),a_ (.int J),a_ (lE r),j,h,f]/\r.length=i/\∀x∈r,0<=x/\x<=1000000) (az 0 k) 0 _ ⟨[],j,h,f,rfl,rfl,by simp⟩ (by
  rintro i d ρ hd ⟨r,j,h,f,rfl,w,m⟩;obtain ⟨hi,rfl⟩:=iP hd;have H:(J:Int)*k<=36:=by
   have:J*k<=6*6:=Nat.mul_le_mul (by omega) B
   exact_mod_cast this
  have A:0<=(J:Int)*k:=Int.mul_nonneg (by omega) (by omega);obtain ⟨x,e,F⟩:=jV CR CL n ns o (b+(J:Int)*k+(i:Int)) (by omega) (by omega);have c: -18446744073709551616<(J:Int):=by omega
  have a:(J:Int)<18446744073709551616:=by omega
  have q:r.length<16777216:=by omega
  obtain ⟨g,t,s,E⟩:∃g:Int,0<=g/\g<=1000000/\bR CR CL n [a_ (.lst (ns.map .int)),a_ (.int b),a_ (.int k),a_ (.lst rows),a_ (.int J),a_ (lE r),a_ (.int (i:Int)),h,f]=.ok (.nx [a_ (.lst (ns.map .int)),a_ (.int b),a_ (.int k),a_ (.lst rows),a_ (.int J),a_ (lE (r++[g])),a_ (.int (i:Int)),a_ (.int x),a_ (.int g)]):=by
   by_cases u:x%16<3
   ·refine ⟨0,by omega,by omega,?_⟩
    have l:¬x%16=15:=by omega
    simp [bR,eW,eV,e,c,a,u,l,q,lE]
   ·by_cases l:x%16=15
    ·refine ⟨x/16%1000001,by omega,by omega,?_⟩
     simp [bR,eW,eV,e,c,a,l,q,lE]
    ·refine ⟨x/16%7,by omega,by omega,?_⟩
     simp [bR,eW,eV,e,c,a,u,l,q,lE]
  refine ⟨_,rfl,_,.inl E,r++[g],_,_,_,rfl,by simp;omega,fun y v=>?_⟩
  rcases Dw.mp v with z|z
  ·exact m y z
  ·simp at z;subst z;exact ⟨t,s⟩)
 rw [F9,bu] at h1;exact ⟨r,Y,U,S,⟨h1,h2⟩,e⟩
theorem gaps_ok (n:Nat) (ns:List Int) (h:ns.length<=63) (b:Int) (k:Nat) (l:0<=b) (j:b<=100) (u:k<=6):∃rows,cv k rows/\gR CR CL n [.lst (ns.map .int),.int b,.int k]=.ok (cx rows):=by
 have k1: -4611686018427387904<=(k:Int):=by omega
 have k2:(k:Int)<4611686018427387904:=by omega
 obtain ⟨ρ',e,rows,C,B,A,x,w,rfl,h1,h2⟩:=j0 (p:=.nm 4) (g:=gZ CR CL n)
  (fun i ρ=>∃(rows:List (List Int)) (o m c Y S:Option Dat),ρ=[a_ (.lst (ns.map .int)),a_ (.int b),a_ (.int k),a_ (cx rows),o,m,c,Y,S]/\rows.length=i/\∀r∈rows,nB k r) (az 0 k) 0 [a_ (.lst (ns.map .int)),a_ (.int b),a_ (.int k),a_ (.lst []),d_,d_,d_,d_,d_] ⟨[],d_,d_,d_,d_,d_,rfl,rfl,by simp⟩ (by
  rintro i d ρ hd ⟨rows,o,m,c,Y,S,rfl,s,f⟩;obtain ⟨hi,rfl⟩:=iP hd;obtain ⟨r,a,U,J,v,e⟩:=gap_row CR CL n ns h b k i (rows.map lE) c Y S l j u hi;have t:rows.length<16777216:=by omega
  refine ⟨_,by simp;rfl,?_⟩
  refine ⟨_,.inl (by simp [gZ,cx,k1,k2,e,t];rfl),rows++[r],a_ (.int i),a_ (lE r),a,U,J,by simp [cx],by simp;omega,fun y q=>?_⟩
  rcases Dw.mp q with z|z
  ·exact f y z
  ·simp at z;subst z;exact v)
 rw [F9,bu] at h1;exact ⟨rows,⟨h1,h2⟩,by simp [gR,mY,k1,k2,e]⟩
theorem yN (n:Nat) (ns:List Int) (d:ns.length<=63) (k:Nat) (st:Int) (J i:Nat) (fl:List Fli) (p o m l b:Option Dat) (w:1<=k) (v:0<=st) (u:st<=1000) (A:J<=40) (hi:i<J) (y:fl.length<=40) :
  ∃(f:Fli) (t s r q c:Option Dat),fJ k f/\f.first<=29/\b9 CR CL n [a_ (.lst (ns.map .int)),a_ (.int st),a_ (.int k),a_ (.int J),a_ (.lst (fl.map flD)),a_ (.int i),p,o,m,l,b]=.ok (.nx [a_ (.lst (ns.map .int)),a_ (.int st),a_ (.int k),a_ (.int J),a_ (.lst ((fl++[f]).map flD)),a_ (.int i),t,s,r,q,c]):=by
 obtain ⟨x,e,z⟩:=jV CR CL n ns d (st+(i:Int)) (by omega) (by omega);have U:(0:Int)<k:=by omega
 have a:0<=x/16777216%(k:Int):=HM _ (by omega);have Y:x/16777216%(k:Int)<k:=L8 _ U;have S:fl.length<16777216:=by omega
 by_cases j:x%8=1
 ·refine ⟨⟨x/16777216%(k:Int),x/8%30,1000000000,x/32768%50,x/2097152%7⟩,a_ (.int x),a_ (.int (x/8%30)),a_ (.int (1000000000)),a_ (.int (x/32768%50)),a_ (.int (x/2097152%7)),⟨a,Y,by show 0<=x/8%30;omega,by show x/8%30<=1000000000;omega,by show (1000000000:Int)<=1000000000;omega,by show 0<=x/32768%50;omega,by show x/32768%50<=1000000000;omega,by show 0<=x/2097152%7;omega,by show x/2097152%7<=1000000000;omega⟩,by show x/8%30<=29;omega,?_⟩
  have h:¬x%8=2:=by omega
  have g:¬x%8=3:=by omega
  simp [b9,bX,bW,bV,e,j,Bn U,S,flD]
 ·by_cases h:x%8=2
  ·refine ⟨⟨x/16777216%(k:Int),x/8%30,x/8%30+x/512%4,x/32768%50,x/2097152%7⟩,a_ (.int x),a_ (.int (x/8%30)),a_ (.int (x/8%30+x/512%4)),a_ (.int (x/32768%50)),a_ (.int (x/2097152%7)),⟨a,Y,by show 0<=x/8%30;omega,by show x/8%30<=x/8%30+x/512%4;omega,by show x/8%30+x/512%4<=1000000000;omega,by show 0<=x/32768%50;omega,by show x/32768%50<=1000000000;omega,by show 0<=x/2097152%7;omega,by show x/2097152%7<=1000000000;omega⟩,by show x/8%30<=29;omega,?_⟩
   simp [b9,bX,bW,bV,e,h,Bn U,S,flD]
  ·by_cases g:x%8=3
   ·refine ⟨⟨x/16777216%(k:Int),x/8%30,x/8%30+x/512%40,x/32768%50,x%1000000001⟩,a_ (.int x),a_ (.int (x/8%30)),a_ (.int (x/8%30+x/512%40)),a_ (.int (x/32768%50)),a_ (.int (x%1000000001)),⟨a,Y,by show 0<=x/8%30;omega,by show x/8%30<=x/8%30+x/512%40;omega,by show x/8%30+x/512%40<=1000000000;omega,by show 0<=x/32768%50;omega,by show x/32768%50<=1000000000;omega,by show 0<=x%1000000001;omega,by show x%1000000001<=1000000000;omega⟩,by show x/8%30<=29;omega,?_⟩
    simp [b9,bX,bW,bV,e,g,Bn U,S,flD]
   ·refine ⟨⟨x/16777216%(k:Int),x/8%30,x/8%30+x/512%40,x/32768%50,x/2097152%7⟩,a_ (.int x),a_ (.int (x/8%30)),a_ (.int (x/8%30+x/512%40)),a_ (.int (x/32768%50)),a_ (.int (x/2097152%7)),⟨a,Y,by show 0<=x/8%30;omega,by show x/8%30<=x/8%30+x/512%40;omega,by show x/8%30+x/512%40<=1000000000;omega,by show 0<=x/32768%50;omega,by show x/32768%50<=1000000000;omega,by show 0<=x/2097152%7;omega,by show x/2097152%7<=1000000000;omega⟩,by show x/8%30<=29;omega,?_⟩
    simp [b9,bX,bW,bV,e,j,h,g,Bn U,S,flD]
theorem yM (n:Nat) (ns:List Int) (m:ns.length<=63) (k:Nat) (st:Int) (J:Nat) (o:1<=k) (j:0<=st) (h:st<=1000) (A:J<=40) :
  ∃fl:List Fli,fl.length=J/\(∀f∈fl,fJ k f/\f.first<=29)/\dW CR CL n [.lst (ns.map .int),.int st,.int k,.int J]=.ok (.lst (fl.map flD)):=by
 have k1: -4611686018427387904<=(J:Int):=by omega
 have k2:(J:Int)<4611686018427387904:=by omega
 obtain ⟨ρ',e,fl,C,v,u,t,s,U,rfl,h1,h2⟩:=j0 (p:=.nm 5) (g:=b9 CR CL n)
  (fun i ρ=>∃(fl:List Fli) (r c b a Y S:Option Dat),ρ=[a_ (.lst (ns.map .int)),a_ (.int st),a_ (.int k),a_ (.int J),a_ (.lst (fl.map flD)),r,c,b,a,Y,S]/\fl.length=i/\∀f∈fl,fJ k f/\f.first<=29) (az 0 J) 0 [a_ (.lst (ns.map .int)),a_ (.int st),a_ (.int k),a_ (.int J),a_ (.lst []),d_,d_,d_,d_,d_,d_] ⟨[],d_,d_,d_,d_,d_,d_,rfl,rfl,by simp⟩ (by
  rintro i d ρ hd ⟨fl,r,c,b,a,Y,S,rfl,x,l⟩;obtain ⟨hi,rfl⟩:=iP hd;obtain ⟨f,v,u,t,s,U,B,q,e⟩:=yN CR CL n ns m k st J i fl c b a Y S o j h A hi (by omega);refine ⟨_,by simp<;>rfl,_,.inl e,fl++[f],a_ (.int i),v,u,t,s,U,rfl,by simp;omega,fun y w=>?_⟩
  rcases Dw.mp w with z|z
  ·exact l y z
  ·simp at z;subst z;exact ⟨B,q⟩)
 rw [F9,bu] at h1;exact ⟨fl,by omega,h2,by simp [dW,jg,k1,k2,e]⟩
end
theorem addK_mem {k:Int}:x∈uq ks k↔x∈ks\/x=k:=by
 unfold uq;split
 ·next h=>exact ⟨.inl,fun z=>z.elim id fun e=>e▸h⟩
 ·simp
theorem wX:∀(is ks:List Int) (x:Int),x∈is.foldl uq ks↔x∈ks\/x∈is
 |[],ks,x=>by simp
 |i::is,ks,x=>by rw [GL,wX is (uq ks i) x,addK_mem];simp [or_assoc]
def there (ks:List Int):List Int:=dq ltZ (keysOf ks)
theorem gA (ks:List Int) (x:Int):x∈there ks↔x∈ks:=by
 unfold there keysOf;rw [(cb (lt:=ltZ) _).mem_iff,wX];simp
theorem rT (ks:List Int):(there ks).length<=ks.length:=by
 unfold there keysOf;rw [(cb (lt:=ltZ) _).length_eq];have:=lY ks [];simpa using this
noncomputable def many1 (ks:List Int) (x y:Int):Bool:= !decide (x=y)||Ca (1<ks.countP (·==x))
def prs (ks:List Int):List bJ:=(there ks).flatMap fun x=>((there ks).filter (many1 ks x)).map fun y=>(x,y)
theorem Ai:p∈prs ks↔p.1∈ks/\p.2∈ks/\many1 ks p.1 p.2=f_:=by
 unfold prs;rw [Mh];constructor
 ·rintro ⟨x,S,h⟩;obtain ⟨y,J,rfl⟩:=CA.mp h;obtain ⟨h1,h2⟩:=Dc.mp J;exact ⟨(gA _ _).mp S,(gA _ _).mp h1,h2⟩
 ·rintro ⟨h1,h2,U⟩;exact ⟨p.1,(gA _ _).mpr h1,CA.mpr ⟨p.2,Dc.mpr ⟨(gA _ _).mpr h2,U⟩,rfl⟩⟩
section
variable (CR CL:h_)
theorem qk (n:Nat) (ks:List Int) (J:Option Dat) (x:Int):∀(ys:List Int) (acc:List bJ) (S:Option Dat),acc.length+ys.length<=100000->∃U,
  bQ (.nm 4) (cZ CR CL n) (ys.map .int) [a_ (.lst (ks.map .int)),J,a_ (.lst (acc.map stD)),a_ (.int x),S]=.ok (.nx [a_ (.lst (ks.map .int)),J,a_ (.lst ((acc++(ys.filter (many1 ks x)).map fun y=>(x,y)).map stD)),a_ (.int x),U])
 |[],acc,S,_=>⟨S,by simp [bQ]⟩
 |y::ys,acc,S,h=>by
  have Y:acc.length<16777216:=by simp at h;omega
  have eb:cZ CR CL n [a_ (.lst (ks.map .int)),J,a_ (.lst (acc.map stD)),a_ (.int x),a_ (.int y)]=.ok (.nx [a_ (.lst (ks.map .int)),J,a_ (.lst ((if many1 ks x y=f_ then acc++[(x,y)] else acc).map stD)),a_ (.int x),a_ (.int y)]):=by
   unfold many1;by_cases h1:x=y
   ·subst h1;by_cases h2:1<ks.countP (·==x)
    ·have b:(1:Int)<(ks.countP (·==x):Nat):=by omega
     simp [cZ,g9,isL,h2,Y,stD];omega
    ·simp [cZ,g9,isL,h2,Y,stD];omega
   ·simp [cZ,g9,h1,Y,stD]
  rw [A_,bQ,show d9 (.nm 4) (.int y) [a_ (.lst (ks.map .int)),J,a_ (.lst (acc.map stD)),a_ (.int x),S]=.ok [a_ (.lst (ks.map .int)),J,a_ (.lst (acc.map stD)),a_ (.int x),a_ (.int y)] from rfl,ar,eb,ar];cases a:many1 ks x y with
  |true=>
   rw [p_ rfl,Fd a,A_];obtain ⟨U,e⟩:=qk n ks J x ys (acc++[(x,y)]) (a_ (.int y)) (by simp at h ⊢;omega);rw [Ew] at e;exact ⟨U,e⟩
  |false=>
   rw [l_ (by simp),Fe (by simp [a])];exact qk n ks J x ys acc (a_ (.int y)) (by simp at h ⊢;omega)
theorem sN (n:Nat) (ks th:List Int) (U:th.length<=64):∀(xs:List Int) (acc:List bJ) (S J:Option Dat),acc.length+xs.length*64<=10000->∃a Y,
  bQ (.nm 3) (eC CR CL n) (xs.map .int) [a_ (.lst (ks.map .int)),a_ (.lst (th.map .int)),a_ (.lst (acc.map stD)),S,J]=.ok (.nx [a_ (.lst (ks.map .int)),a_ (.lst (th.map .int)),a_ (.lst ((acc++xs.flatMap fun x=>(th.filter (many1 ks x)).map fun y=>(x,y)).map stD)),a,Y])
 |[],acc,S,J,_=>⟨S,J,by simp [bQ]⟩
 |x::xs,acc,S,J,h=>by
  simp only [Ci] at h;obtain ⟨Y,e⟩:=qk CR CL n ks (a_ (.lst (th.map .int))) x th acc J (by omega);have c:(th.filter (many1 ks x)).length<=64:=C9 (HL _ _) U;obtain ⟨a,b,e2⟩:=sN n ks th U xs (acc++(th.filter (many1 ks x)).map fun y=>(x,y)) (a_ (.int x)) Y (by simp;omega);have eb:eC CR CL n [a_ (.lst (ks.map .int)),a_ (.lst (th.map .int)),a_ (.lst (acc.map stD)),a_ (.int x),J]=.ok (.nx [a_ (.lst (ks.map .int)),a_ (.lst (th.map .int)),a_ (.lst ((acc++(th.filter (many1 ks x)).map fun y=>(x,y)).map stD)),a_ (.int x),Y]):=by
   simp [eC,e]
  refine ⟨a,b,?_⟩
  rw [A_,bQ,show d9 (.nm 3) (.int x) [a_ (.lst (ks.map .int)),a_ (.lst (th.map .int)),a_ (.lst (acc.map stD)),S,J]=.ok [a_ (.lst (ks.map .int)),a_ (.lst (th.map .int)),a_ (.lst (acc.map stD)),a_ (.int x),J] from rfl,ar,eb,ar,L7];rw [Ew] at e2;exact e2
theorem pairs_ok (n:Nat) (ks:List Int) (h:ks.length<64):iU CR CL n [.lst (ks.map .int)]=.ok (.lst ((prs ks).map stD)):=by
 have U:=rT ks;have es:gK (.lst (ks.map .int))=.ok (.lst ((there ks).map .int)):=by
  show (aV (ks.map .int)).bind (fun is=>if (ks.map Dat.int).length<64 then Dz (Dat.lst ((dq ltZ (keysOf is)).map Dat.int)) else stk)=_;rw [bT,ar,p_ (by simpa using h)];rfl
 obtain ⟨S,J,e⟩:=sN CR CL n ks (there ks) (by omega) (there ks) [] d_ d_ (by simp;omega);simp only [Fs,Jz] at e;have e:bQ (.nm 3) (eC CR CL n) ((there ks).map .int) [a_ (.lst (ks.map .int)),a_ (.lst ((there ks).map .int)),a_ (.lst []),d_,d_]=.ok (.nx [a_ (.lst (ks.map .int)),a_ (.lst ((there ks).map .int)),a_ (.lst ((prs ks).map stD)),S,J]):=e;simp [iU,oW,es,e]
end
section
variable (CR CL:h_)
theorem prs_len (ks:List Int) (h:ks.length<64):(prs ks).length<=64*64:=by
 unfold prs;have S:=rT ks;have key:∀xs:List Int,(xs.flatMap fun x=>((there ks).filter (many1 ks x)).map fun y=>(x,y)).length<=xs.length*64:=by
  intro xs
  induction xs with
  |nil=>simp
  |cons x xs J=>
   have:=HL (many1 ks x) (there ks);simp only [L7,CP,v_,Ci];omega
 have:=key (there ks);have:(there ks).length*64<=64*64:=Nat.mul_le_mul_right _ (by omega);omega
noncomputable def cg (fl:List Fli) (is:List Int):List Int:=is.map fun i=>(eS fl i).kind
theorem rg (fl:List Fli) (j:Int) (g:Fli->Int) (J:∀f,jI [.int f.kind,.int f.first,.int f.last,.int f.due,.int f.price] j=.ok (.int (g f))):∀is:List Int,(∀i∈is,0<=i/\i<fl.length) ->
  aH (.nm 0) g7 (f2 ixD (f2 ixD (aa 1) (aa 0)) (fC (.int j))) [d_,a_ (.lst (fl.map flD))] (is.map .int)=.ok ((is.map fun i=>g (eS fl i)).map .int)
 |[],_=>rfl
 |i::is,h=>by
  have S:=rg fl j g J is fun x U=>h x (by simp [U]);obtain ⟨Y,h1⟩:=h i (by simp);obtain ⟨e,_⟩:=Bc Y h1;have e2:=J (eS fl i);rw [A_,aH];simp only [flD] at e;simp [e,e2,S]
noncomputable def lawP (is:List Int):List bJ:=is.flatMap fun i=>(is.filter fun j=> !decide (i=j)).map fun j=>(i,j)
theorem lW {is:List Int} :p∈lawP is↔p.1∈is/\p.2∈is/\p.1≠p.2:=by
 unfold lawP;rw [Mh];constructor
 ·rintro ⟨x,S,h⟩;obtain ⟨y,J,rfl⟩:=CA.mp h;obtain ⟨h1,h2⟩:=Dc.mp J;exact ⟨S,h1,by simpa using h2⟩
 ·rintro ⟨h1,h2,U⟩;exact ⟨p.1,h1,CA.mpr ⟨p.2,Dc.mpr ⟨h2,by simpa using U⟩,rfl⟩⟩
noncomputable def kk (fl:List Fli) (p:bJ):bJ:=((eS fl p.1).kind,(eS fl p.2).kind)
theorem tZ {fl:List Fli}:∀{is:List Int},is.Nodup->∀{k:Int},1<(cg fl is).countP (·==k)->∃i∈is,∃j∈is,i≠j/\(eS fl i).kind=k/\(eS fl j).kind=k
 |[],_,k,h=>by simp [cg] at h
 |i::is,J,k,h=>by
  have J:=GK.mp J;unfold cg at h;rw [A_,F7] at h;by_cases S:(eS fl i).kind=k
  ·rw [p_ (by simpa using S)] at h;have:0<(cg fl is).countP (·==k):=by unfold cg;omega
   obtain ⟨x,Y,e⟩:=Ll.mp this;obtain ⟨j,U,rfl⟩:=CA.mp Y;exact ⟨i,by simp,j,by simp [U],fun z=>J.1 (z▸U),S,by simpa using e⟩
  ·rw [l_ (by simpa using S)] at h;obtain ⟨a,d,b,c,r⟩:=tZ J.2 (k:=k) (by unfold cg;omega);exact ⟨a,by simp [d],b,by simp [c],r⟩
theorem rN {fl:List Fli}:∀{is:List Int} {i j:Int},i∈is->j∈is->i≠j->(eS fl i).kind=(eS fl j).kind->1<(cg fl is).countP (·==(eS fl i).kind)
 |[],i,j,h,_,_,_=>by simp at h
 |x::is,i,j,hi,U,J,e=>by
  unfold cg;rw [A_,F7];have pos:∀y∈is,(eS fl y).kind=(eS fl i).kind->0<(is.map fun i=>(eS fl i).kind).countP (·==(eS fl i).kind):=fun y Y a=>Ll.mpr ⟨_,Iv Y,by simpa using a⟩;rcases r_.mp hi with z|z
  ·subst z;rcases r_.mp U with z|z
   ·exact Cj z.symm J
   ·have:=pos j z e.symm;rw [p_ (by simp)];omega
  ·rcases r_.mp U with S|S
   ·subst S;have:=pos i z rfl;rw [p_ (by simpa using e.symm)];omega
   ·have:=rN z S J e;unfold cg at this;omega
theorem ym {is:List Int} (c:is.Nodup) (p:bJ):p∈prs (cg fl is)↔∃q∈lawP is,kk fl q=p:=by
 rw [Ai];constructor
 ·rintro ⟨h1,h2,S⟩;obtain ⟨i,hi,e1⟩:=CA.mp h1;obtain ⟨j,d,e2⟩:=CA.mp h2;unfold many1 at S;by_cases J:p.1=p.2
  ·have g:1<(cg fl is).countP (·==p.1):=by simpa [J] using S
   obtain ⟨a,f,b,e,U,ea,eb⟩:=tZ c g;exact ⟨(a,b),lW.mpr ⟨f,e,U⟩,by unfold kk;rw [ea,eb];exact JR rfl J⟩
  ·refine ⟨(i,j),lW.mpr ⟨hi,d,fun z=>J ?_⟩,?_⟩
   ·have z:i=j:=z;rw [<- e1,<- e2,z]
   ·unfold kk;exact JR e1 e2
 ·rintro ⟨q,Y,rfl⟩;obtain ⟨h1,h2,S⟩:=lW.mp Y;refine ⟨Iv h1,Iv h2,?_⟩
  unfold many1 kk;by_cases J:(eS fl q.1).kind=(eS fl q.2).kind
  ·have:=rN h1 h2 S J;simp [this]
  ·simp [J]
end
noncomputable def aL (m:Nat):List Int:=(Cc m).map fun k:Nat=>(k:Int)
theorem jt (m:Nat):az 0 m=(aL m).map .int:=by
 unfold az aL;rw [Cg];exact E_ fun k _=>by simp
theorem cQ (m:Nat):(aL m).length=m:=by unfold aL;simp
theorem xG (m:Nat):(aL m).Nodup:=by
 unfold aL;rw [List.Nodup,Ja];exact List.nodup_range.imp fun h=>by omega
theorem wa:x∈aL m↔0<=x/\x<m:=by
 unfold aL;constructor
 ·intro h;obtain ⟨j,J,rfl⟩:=CA.mp h;have:=CO.mp J;omega
 ·intro h;exact CA.mpr ⟨x.toNat,CO.mpr (by omega),by omega⟩
theorem jB {β:Type} (f:Int->Option β):∀{l:List Int},l.Pairwise (·<=·)->match l.findSome? f with
  |none=>∀x∈l,f x=d_
  |some r=>∃x∈l,f x=a_ r/\∀y∈l,y<x->f y=d_
 |[],_=>by simp
 |a::l,h=>by
  obtain ⟨h1,h2⟩:=Ej.mp h;have S:=jB f h2;rw [Iy];cases b:f a with
  |some r=>exact ⟨a,by simp,b,fun y U J=>by
    rcases r_.mp U with z|z
    ·omega
    ·have:=h1 y z;omega⟩
  |none=>
   dsimp only;cases e:l.findSome? f with
   |none=>
    rw [e] at S;intro x Y;rcases r_.mp Y with z|z
    ·rw [z];exact b
    ·exact S x z
   |some r=>
    rw [e] at S;obtain ⟨x,Y,e1,e2⟩:=S;exact ⟨x,by simp [Y],e1,fun y U J=>by
     rcases r_.mp U with z|z
     ·rw [z];exact b
     ·exact e2 y z J⟩
theorem tm {β:Type} (f:Int->Option β) {l m:List Int} (g:l.Pairwise (·<=·)) (d:m.Pairwise (·<=·)) (h:∀x,x∈l↔x∈m):l.findSome? f=m.findSome? f:=by
 have a:=jB f g;have b:=jB f d;cases e1:l.findSome? f with
 |none=>
  rw [e1] at a;cases e2:m.findSome? f with
  |none=>rfl
  |some r=>
   rw [e2] at b;obtain ⟨x,U,e,_⟩:=b;rw [a x ((h x).mpr U)] at e;cases e
 |some r=>
  rw [e1] at a;obtain ⟨x,U,ex,S⟩:=a;cases e2:m.findSome? f with
  |none=>rw [e2] at b;rw [b x ((h x).mp U)] at ex;cases ex
  |some r'=>
   rw [e2] at b;obtain ⟨y,c,Y,J⟩:=b;have:x=y:=by
    rcases Ml x y with z|z|z
    ·rw [J x ((h x).mp U) z] at ex;cases ex
    ·exact z
    ·rw [S y ((h y).mpr c) z] at Y;cases Y
   subst this;rw [ex] at Y;exact Y
theorem m4 (l:List Int):(dq ltZ l).Pairwise (·<=·):=(cY ordZ l).imp fun {x y} h=>by
 unfold ltZ at h;have:=Ie h;omega
noncomputable def inB (fl:List Fli) (a b k:Int):Bool:=Ca (a<=(eS fl k).first)&&Ca ((eS fl k).last<=b)
def btw (fl:List Fli) (a b:Int):List Int:=(aL fl.length).filter (inB fl a b)
theorem BW (fl:List Fli) (a b:Int):(btw fl a b).Nodup:=(xG _).sublist (List.filter_sublist)
theorem btw_in (fl:List Fli) (a b:Int):∀j∈btw fl a b,0<=j/\j<fl.length:=fun j J=>wa.mp (Dc.mp J).1
theorem btw_len (fl:List Fli) (a b:Int):(btw fl a b).length<=fl.length:=by
 have:=HL (inB fl a b) (aL fl.length);rw [cQ] at this;exact this
theorem p9:∀(fl J:List Fli),d8 J.length (fl.map flD)=((H9 J.length fl.length).map fun k:Nat=>Dat.tup [.int k,flD (eS (J++fl) k)])
 |[],J=>rfl
 |f::fl,J=>by
  have S:=p9 fl (J++[f]);rw [CP,HK,Ew] at S;rw [A_,d8,S,Ci,Jo,A_]
  congr 2
  unfold eS;simp
section
variable (CR CL:h_)
theorem xo (fl:List Fli) (a b:Int):∀ks:List Nat,(∀k∈ks,k<fl.length)->aH (.tp [0,1]) (Bf (fB (f2 leD (aa 2) (f2 ixD (aa 1) (fC (.int 1))))) (fB (f2 leD (f2 ixD (aa 1) (fC (.int 2))) (aa 3)))) (aa 0) [d_,d_,a_ (.int a),a_ (.int b)] (ks.map fun k:Nat=>Dat.tup [.int k,flD (eS fl k)])=.ok (((ks.map fun k:Nat=>(k:Int)).filter (inB fl a b)).map .int)
 |[],_=>rfl
 |k::ks,h=>by
  have J:=xo fl a b ks fun x S=>h x (by simp [S]);rw [A_,aH,A_];by_cases h1:a<=(eS fl k).first
  ·by_cases h2:(eS fl k).last<=b
   ·rw [Fd (by simp [inB,h1,h2])];simp [flD] at J ⊢;simp [h1,h2,J]
   ·rw [Fe (by simp [inB,h2])];simp [flD] at J ⊢;simp [h1,h2,J]
  ·rw [Fe (by simp [inB,h1])];simp [flD] at J ⊢;simp [h1,J]
theorem zd (n:Nat) (fl:List Fli) (U:fl.length<=1000) (a b:Int):cJ CR CL n [.lst (fl.map flD),.int a,.int b]=.ok (.lst ((btw fl a b).map .int)):=by
 have e1:=p9 fl [];rw [JA,Jz,<- HZ] at e1;have e2:=xo fl a b (Cc fl.length) fun k S=>CO.mp S;rw [<- e1] at e2;have e2:aH (.tp [0,1]) (Bf (fB (f2 leD (aa 2) (f2 ixD (aa 1) (fC (.int 1))))) (fB (f2 leD (f2 ixD (aa 1) (fC (.int 2))) (aa 3)))) (aa 0) [d_,d_,a_ (.int a),a_ (.int b)] (d8 0 (fl.map flD))=.ok ((btw fl a b).map .int):=e2;have J:(d8 0 (fl.map flD)).length<=16777216:=by rw [e1,v_,Eu];omega
 simp [cJ,gE,e2,J]
def cw (cr:List Int->Bool) (fl:List Fli) (a b:Int):Option Dat:=if cr (btw fl a b)=f_ then a_ (.lst ((btw fl a b).map .int)) else d_
noncomputable def early (x:Option Dat) (ρ:ah):M Flo:=match x with
 |some r=>.ok (.rt r)
 |none=>.ok (.nx ρ)
noncomputable def told (x:Option Dat):Dat:=x.getD .non
def answer (cr:List Int->Bool) (fl:List Fli):Option Dat:=(dq ltZ (fl.map fun f=>f.first)).findSome? fun a=>(dq ltZ (fl.map fun f=>f.last)).findSome? fun b=>cw cr fl a b
theorem set_ok (xs:List Int) (h:xs.length<64):gK (.lst (xs.map .int))=.ok (.lst ((there xs).map .int)):=by
 show (aV (xs.map .int)).bind (fun is=>if (xs.map Dat.int).length<64 then Dz (Dat.lst ((dq ltZ (keysOf is)).map Dat.int)) else stk)=_;rw [bT,ar,p_ (by simpa using h)];rfl
theorem BH (fl:List Fli):aH (.nm 0) g7 (f2 ixD (aa 0) (fC (.int 1))) [d_] (fl.map flD)=.ok ((fl.map fun f=>f.first).map .int):=by
 have:=fq (p:=.nm 0) (fe:=f2 ixD (aa 0) (fC (.int 1))) (ρ0:=[d_]) (fun d=>match d with|.tup [_,x,_,_,_]=>x|_=>.non) (fl.map flD) (fun d hd=>by
  obtain ⟨f,_,rfl⟩:=CA.mp hd;exact ⟨[a_ (flD f)],by simp,by simp [flD]⟩)
 rw [this,Cg,Cg];rfl
theorem BG (fl:List Fli):aH (.nm 0) g7 (f2 ixD (aa 0) (fC (.int 2))) [d_] (fl.map flD)=.ok ((fl.map fun f=>f.last).map .int):=by
 have:=fq (p:=.nm 0) (fe:=f2 ixD (aa 0) (fC (.int 2))) (ρ0:=[d_]) (fun d=>match d with|.tup [_,_,x,_,_]=>x|_=>.non) (fl.map flD) (fun d hd=>by
  obtain ⟨f,_,rfl⟩:=CA.mp hd;exact ⟨[a_ (flD f)],by simp,by simp [flD]⟩)
 rw [this,Cg,Cg];rfl
theorem tY (n:Nat) {fl:List Fli} (f:fl.length<64) {rd:Dat} {cr:List Int->Bool} (g:∀is:List Int,(∀j∈is,0<=j/\j<fl.length)->is.Nodup->is.length<64->cI CR CL n [rd,.lst (fl.map flD),.lst (is.map .int)]=.ok (.bl (cr is))) (U S:Option Dat) (a:Int):∀(d:List Int) (Y J:Option Dat),∃k i,
  bQ (.nm 5) (eD CR CL n) (d.map .int) [a_ rd,a_ (.lst (fl.map flD)),U,S,a_ (.int a),Y,J]=early (d.findSome? fun b=>cw cr fl a b) [a_ rd,a_ (.lst (fl.map flD)),U,S,a_ (.int a),k,i]
 |[],Y,J=>⟨Y,J,rfl⟩
 |b::d,Y,J=>by
  have c:=zd CR CL n fl (by omega) a b;have e:=g (btw fl a b) (btw_in fl a b) (BW fl a b) (by have:=btw_len fl a b;omega);have eb:eD CR CL n [a_ rd,a_ (.lst (fl.map flD)),U,S,a_ (.int a),a_ (.int b),J]=early (cw cr fl a b) [a_ rd,a_ (.lst (fl.map flD)),U,S,a_ (.int a),a_ (.int b),a_ (.lst ((btw fl a b).map .int))]:=by
   unfold cw;cases h:cr (btw fl a b) with
   |true=>
    rw [h] at e;simp [eD,c,iJ,e,early]
   |false=>
    rw [h] at e;simp [eD,c,iJ,e,early]
  obtain ⟨m,l,e2⟩:=tY n f g U S a d (a_ (.int b)) (a_ (.lst ((btw fl a b).map .int)));refine ⟨m,l,?_⟩
  rw [A_,bQ,show d9 (.nm 5) (.int b) [a_ rd,a_ (.lst (fl.map flD)),U,S,a_ (.int a),Y,J]=.ok [a_ rd,a_ (.lst (fl.map flD)),U,S,a_ (.int a),a_ (.int b),J] from rfl,ar,eb,Iy];cases hw:cw cr fl a b with
  |some r=>rfl
  |none=>exact e2
theorem tX (n:Nat) {fl:List Fli} (d:fl.length<64) {rd:Dat} {cr:List Int->Bool} (h:∀is:List Int,(∀j∈is,0<=j/\j<fl.length)->is.Nodup->is.length<64->cI CR CL n [rd,.lst (fl.map flD),.lst (is.map .int)]=.ok (.bl (cr is))) (Y:Option Dat) (J:List Int):∀(fs:List Int) (c U S:Option Dat),∃i g f,
  bQ (.nm 4) (gd CR CL n) (fs.map .int) [a_ rd,a_ (.lst (fl.map flD)),Y,a_ (.lst (J.map .int)),c,U,S]=early (fs.findSome? fun a=>J.findSome? fun b=>cw cr fl a b) [a_ rd,a_ (.lst (fl.map flD)),Y,a_ (.lst (J.map .int)),i,g,f]
 |[],c,U,S=>⟨c,U,S,rfl⟩
 |a::fs,c,U,S=>by
  obtain ⟨g,f,e⟩:=tY CR CL n d h Y (a_ (.lst (J.map .int))) a J U S;have eb:gd CR CL n [a_ rd,a_ (.lst (fl.map flD)),Y,a_ (.lst (J.map .int)),a_ (.int a),U,S]=early (J.findSome? fun b=>cw cr fl a b) [a_ rd,a_ (.lst (fl.map flD)),Y,a_ (.lst (J.map .int)),a_ (.int a),g,f]:=by
   rw [<- e];simp [gd]
  obtain ⟨m,l,k,e2⟩:=tX n d h Y J fs (a_ (.int a)) g f;refine ⟨m,l,k,?_⟩
  rw [A_,bQ,show d9 (.nm 4) (.int a) [a_ rd,a_ (.lst (fl.map flD)),Y,a_ (.lst (J.map .int)),c,U,S]=.ok [a_ rd,a_ (.lst (fl.map flD)),Y,a_ (.lst (J.map .int)),a_ (.int a),U,S] from rfl,ar,eb,Iy];cases hw:J.findSome? fun b=>cw cr fl a b with
  |some r=>rfl
  |none=>exact e2
theorem crowd_ok (n:Nat) (J:fl.length<64) {rd:Dat} {cr:List Int->Bool} (h:∀is:List Int,(∀j∈is,0<=j/\j<fl.length)->is.Nodup->is.length<64->cI CR CL n [rd,.lst (fl.map flD),.lst (is.map .int)]=.ok (.bl (cr is))):dO CR CL n [rd,.lst (fl.map flD)]=.ok (told (answer cr fl)):=by
 have U:=set_ok (fl.map fun f=>f.first) (by simpa using J);have S:=set_ok (fl.map fun f=>f.last) (by simpa using J);have g:=BH fl;have d:=BG fl;have Y:fl.length<=16777216:=by omega
 obtain ⟨l,k,i,e⟩:=tX CR CL n J h (a_ (.lst ((there (fl.map fun f=>f.first)).map .int))) (there (fl.map fun f=>f.last)) (there (fl.map fun f=>f.first)) d_ d_ d_;have ea:((there (fl.map fun f=>f.first)).findSome? fun a=>(there (fl.map fun f=>f.last)).findSome? fun b=>cw cr fl a b)=answer cr fl:=by
  unfold answer;have h1:∀a,((there (fl.map fun f=>f.last)).findSome? fun b=>cw cr fl a b)=(dq ltZ (fl.map fun f=>f.last)).findSome? fun b=>cw cr fl a b:=fun a=>tm _ (m4 _) (m4 _) fun x=>by rw [gA,(cb (lt:=ltZ) _).mem_iff]
  simp only [h1];exact tm _ (m4 _) (m4 _) fun x=>by rw [gA,(cb (lt:=ltZ) _).mem_iff]
 rw [ea] at e;generalize (there (fl.map fun f=>f.first)).map Dat.int=A at U e;generalize (there (fl.map fun f=>f.last)).map Dat.int=B at S e;cases c:answer cr fl with
 |none=>
  rw [c] at e;simp only [early] at e;simp [dO,kO,g,d,Y,U,S,e,told,isL,-Cg]
 |some r=>
  rw [c] at e;simp only [early] at e;simp [dO,kO,g,d,Y,U,S,e,told,-Cg]
end
section
variable (CR CL:h_)
theorem BK (n:Nat) (ns:List Int) (J:ns.length<=63):∃cs:List bJ,cs.length<=3/\(∀p∈cs,p.1<p.2)/\eR CR CL n [.lst (ns.map .int),.int 130]=.ok (.lst (cs.map stD)):=by
 obtain ⟨x,ex,s⟩:=jV CR CL n ns J 130 (by omega) (by omega);obtain ⟨m,t,j⟩:∃m:Nat,m<=3/\(x/64%4:Int)=m:=⟨(x/64%4).toNat,by omega,by omega⟩
 have k1: -4611686018427387904<=(m:Int):=by omega
 have k2:(m:Int)<4611686018427387904:=by omega
 obtain ⟨ρ',e,cs,o,l,k,rfl,h1,h2⟩:=j0 (p:=.nm 3) (g:=fH CR CL n)
  (fun i ρ=>∃(cs:List bJ) (a Y U:Option Dat),ρ=[a_ (.lst (ns.map .int)),a_ (.int 130),a_ (.lst (cs.map stD)),a,Y,U]/\cs.length=i/\∀p∈cs,p.1<p.2) (az 0 m) 0 [a_ (.lst (ns.map .int)),a_ (.int 130),a_ (.lst []),d_,d_,d_] ⟨[],d_,d_,d_,rfl,rfl,by simp⟩ (by
  rintro i d ρ hd ⟨cs,a,Y,U,rfl,c,S⟩;obtain ⟨hi,rfl⟩:=iP hd;obtain ⟨y,b,r⟩:=jV CR CL n ns J (130+1+(i:Int)) (by omega) (by omega);have h:cs.length<16777216:=by omega
  refine ⟨_,rfl,[a_ (.lst (ns.map .int)),a_ (.int 130),a_ (.lst ((cs++[(y/8%40,y/8%40+1+y/512%9)]).map stD)),a_ (.int (i:Int)),a_ (.int y),a_ (.int (y/8%40))],.inl ?_,_,_,_,_,rfl,by simp;omega,fun q f=>?_⟩
  ·simp only [Int.reduceAdd] at b;simp [fH,b,h,stD]
  ·rcases Dw.mp f with z|z
   ·exact S q z
   ·simp at z;subst z;show y/8%40<y/8%40+1+y/512%9;omega)
 rw [F9,bu] at h1;exact ⟨cs,by omega,h2,by simp [eR,k9,ex,j,k1,k2,e]⟩
end
theorem lookM1 (d:Dat):D1 ("many_strips":Cy) [(("gaps":Cy),d)]=d_:=by
 rw [Cp,show ((("many_strips":Cy)==("gaps":Cy))=c_) from by decide +kernel];rfl
theorem lookK1 (d:Dat):D1 ("many_kinds":Cy) [(("gaps":Cy),d)]=d_:=by
 rw [Cp,show ((("many_kinds":Cy)==("gaps":Cy))=c_) from by decide +kernel];rfl
def vals1 (rows:List (List Int)) (p:bJ):Int:=at2 rows p.1 p.2
section
variable (CR CL:h_)
def rD (rows:List (List Int)):Dat:=.ins CR [("gaps",cx rows)]
theorem gaps1 (rows:List (List Int)):zi [CR] "gaps" (rD CR rows)=.ok (cx rows):=by
 have h1:((("gaps":Cy)==("gaps":Cy))=f_):=by decide +kernel
 show (if ([CR].contains CR)=f_ then (match D1 ("gaps":Cy) [(("gaps":Cy),cx rows)] with|some d=>Dz d|none=>stk) else stk)=_;rw [p_ (by simp),Cp,h1]
theorem apart1 (n:Nat) (S:cv k rows) {a b:Int} (J:0<=a/\a<k) (U:0<=b/\b<k) (s t:Dat) (fo f1 Y:ah->M Dat) (ρ:ah) (e:fo ρ=.ok (rD CR rows)) (h1:f1 ρ=.ok (.tup [.int a,s])) (h2:Y ρ=.ok (.tup [.int b,t])) :
  eT CR "apart" (bO CR CL n) fo (a9 f1 (a9 Y ax)) ρ=.ok (.int (at2 rows a b)):=by
 obtain ⟨c,_⟩:=vq S J.1 J.2;obtain ⟨q1,_⟩:=getA S J.1 J.2 U.1 U.2;unfold eT;rw [e,ar];have d:isC CR "apart" (rD CR rows)=f_:=by
  show ((CR==CR)&&(D1 ("apart":Cy) [(("gaps":Cy),cx rows)]).isNone)=f_;rw [lookA1];simp
 rw [p_ d];simp [h1,h2,bO,kc,gaps1,cx,c,lE,q1]
theorem mj (n:Nat) (rows:List (List Int)) (fo:ah->M Dat) (ρ:ah) (S:fo ρ=.ok (rD CR rows)):eT CR "many_strips" (aJ CR CL n) fo ax ρ=.ok (.int 1):=by
 unfold eT;rw [S,ar];have J:isC CR "many_strips" (rD CR rows)=f_:=by
  show ((CR==CR)&&(D1 ("many_strips":Cy) [(("gaps":Cy),cx rows)]).isNone)=f_;rw [lookM1];simp
 rw [p_ J];simp [aJ,f9]
theorem kinds1 (n:Nat) (S:cv k rows) (fo:ah->M Dat) (ρ:ah) (Y:fo ρ=.ok (rD CR rows)):eT CR "many_kinds" (cn CR CL n) fo ax ρ=.ok (.int k):=by
 have J:=S.1;unfold eT;rw [Y,ar];have U:isC CR "many_kinds" (rD CR rows)=f_:=by
  show ((CR==CR)&&(D1 ("many_kinds":Cy) [(("gaps":Cy),cx rows)]).isNone)=f_;rw [lookK1];simp
 rw [p_ U];simp [cn,fW,gaps1,cx,J]
theorem new1 (n:Nat) (h1:1<=k) (S:k<=6) (J:cv k rows):newR CR (aY CR CL n) [cx rows]=.ok (rD CR rows):=by
 have e:=yY CR CL n k rows h1 S J;unfold newR;simp only [e];rfl
theorem pE (n:Nat) {k:Nat} {rows:List (List Int)} (f:cv k rows) (J:Option Dat):∀(ps:List bJ) (acc:List Int) (Y U S:Option Dat),(∀p∈ps,(0<=p.1/\p.1<k)/\0<=p.2/\p.2<k)->acc.length+2*ps.length<=100000->∃b a i,
  bQ (.tp [3,4]) (dA CR CL n) (ps.map stD) [a_ (rD CR rows),J,a_ (.lst (acc.map .int)),Y,U,S]=.ok (.nx [a_ (rD CR rows),J,a_ (.lst ((acc++ps.map (vals1 rows)).map .int)),b,a,i])
 |[],acc,Y,U,S,_,_=>⟨Y,U,S,by simp [bQ]⟩
 |p::ps,acc,Y,U,S,h,m=>by
  simp only [Ci] at m;obtain ⟨r,o⟩:=h p (by simp);have c:acc.length<16777216:=by omega
  have j:fG CR CL n [a_ (rD CR rows),J,a_ (.lst (acc.map .int)),a_ (.int p.1),a_ (.int p.2),a_ (.int 0)]=.ok (.nx [a_ (rD CR rows),J,a_ (.lst ((acc++[vals1 rows p]).map .int)),a_ (.int p.1),a_ (.int p.2),a_ (.int 0)]):=by
   have e:=apart1 CR CL n f r o (.int 0) (.int 0) (aa 0) (fL bo (a9 (aa 3) (a9 (fC (.int 0)) ax))) (fL bo (a9 (aa 4) (a9 (aa 5) ax))) [a_ (rD CR rows),J,d_,a_ (.int p.1),a_ (.int p.2),a_ (.int 0)] (by simp) (by simp) (by simp);simp [fG,e,c,vals1]
  have eb:dA CR CL n [a_ (rD CR rows),J,a_ (.lst (acc.map .int)),a_ (.int p.1),a_ (.int p.2),S]=.ok (.nx [a_ (rD CR rows),J,a_ (.lst ((acc++[vals1 rows p]).map .int)),a_ (.int p.1),a_ (.int p.2),a_ (.int 0)]):=by
   have d:=mj CR CL n rows (aa 0) [a_ (rD CR rows),J,d_,a_ (.int p.1),a_ (.int p.2),S] (by simp);have s:j6 [.int 1]=.ok [.int 0]:=by simp [az]
   simp [dA,d,s,bQ,j,-tJ]
  obtain ⟨b,a,g,e2⟩:=pE n f J ps (acc++[vals1 rows p]) (a_ (.int p.1)) (a_ (.int p.2)) (a_ (.int 0)) (fun q l=>h q (by simp [l])) (by simp;omega);refine ⟨b,a,g,?_⟩
  rw [A_,bQ,show d9 (.tp [3,4]) (stD p) [a_ (rD CR rows),J,a_ (.lst (acc.map .int)),Y,U,S]=.ok [a_ (rD CR rows),J,a_ (.lst (acc.map .int)),a_ (.int p.1),a_ (.int p.2),S] from rfl,ar,eb,ar,A_];rw [Ew] at e2;exact e2
theorem least1 (n:Nat) (Y:cv k rows) (J:∀x∈ks,0<=x/\x<k) (U:ks.length<64) :
  dn CR CL n [rD CR rows,.lst (ks.map .int)]=minD [.lst (((prs ks).map (vals1 rows)).map .int)]:=by
 have ep:=pairs_ok CR CL n ks U;have a:=prs_len ks U;obtain ⟨f,d,c,e⟩:=pE CR CL n Y (a_ (.lst (ks.map .int))) (prs ks) [] d_ d_ d_ (fun p b=>by
  obtain ⟨h1,h2,_⟩:=Ai.mp b;exact ⟨J _ h1,J _ h2⟩) (by simp;omega)
 simp only [Fs,Jz] at e;generalize S:minD [.lst (((prs ks).map (vals1 rows)).map .int)]=z at e ⊢;cases z with
 |ok v=>simp [dn,gT,ep,e,S,-Bo,-Cg]
 |error x=>simp [dn,gT,ep,e,S,-Bo,-Cg]
theorem prs_some {is:List Int} (J:is.Nodup) (h2:2<=is.length):prs (cg fl is)≠[]:=by
 match is,J,h2 with
 |a::b::r,J,_=>
  have S:a≠b:=fun z=>by simp [z] at J
  have:=(ym (fl:=fl) J (kk fl (a,b))).mpr ⟨(a,b),lW.mpr ⟨by simp,by simp,S⟩,rfl⟩;exact fun z=>by rw [z] at this;cases this
theorem crowd_is (n:Nat) (y:cv k rows) (h:∀f∈fl,0<=f.kind/\f.kind<k) {is:List Int} (J:∀j∈is,0<=j/\j<fl.length) (z:is.Nodup) (A:is.length<64) :
  ∃b,cI CR CL n [rD CR rows,.lst (fl.map flD),.lst (is.map .int)]=.ok (.bl b):=by
 by_cases h2:is.length<2
 ·have S:(is.length:Int)<2:=by omega
  exact ⟨c_,by simp [cI,kN,iI,S]⟩
 ·have S:¬(is.length:Int)<2:=by omega
  have C:=rg fl 1 (fun f=>f.first) (fun f=>by simp) is J;have B:=rg fl 2 (fun f=>f.last) (fun f=>by simp) is J;have D:=rg fl 0 (fun f=>f.kind) (fun f=>by simp) is J;obtain ⟨U,r,q⟩:∃U r,is=U::r:=by
   cases is with
   |nil=>simp at h2
   |cons a b=>exact ⟨a,b,rfl⟩
  obtain ⟨lo,l⟩:∃lo,minD [.lst ((is.map fun i=>(eS fl i).first).map .int)]=.ok (.int lo):=by
   refine ⟨(r.map fun i=>(eS fl i).first).foldl nR (eS fl U).first,?_⟩
   rw [q];show (aV (((U::r).map fun i=>(eS fl i).first).map .int)).bind minL=_;rw [bT,ar];rfl
  obtain ⟨hi,o⟩:∃hi,maxD [.lst ((is.map fun i=>(eS fl i).last).map .int)]=.ok (.int hi):=by
   refine ⟨(r.map fun i=>(eS fl i).last).foldl dM (eS fl U).last,?_⟩
   rw [q];show (aV (((U::r).map fun i=>(eS fl i).last).map .int)).bind maxL=_;rw [bT,ar];rfl
  have e:∀x∈cg fl is,0<=x/\x<k:=fun x w=>by
   obtain ⟨i,c,rfl⟩:=CA.mp w;obtain ⟨_,m⟩:=Bc (J i c).1 (J i c).2;exact h _ m
  have g:(cg fl is).length<64:=by unfold cg;rw [v_];exact A
  have e1:=least1 CR CL n y e g;have d:=prs_some (fl:=fl) z (by omega);obtain ⟨v,t⟩:∃v,minD [.lst (((prs (cg fl is)).map (vals1 rows)).map .int)]=.ok (.int v):=by
   cases u:prs (cg fl is) with
   |nil=>exact Cj u d
   |cons a p=>
    refine ⟨(p.map (vals1 rows)).foldl nR (vals1 rows a),?_⟩
    show (aV (((a::p).map (vals1 rows)).map .int)).bind minL=_;rw [bT,ar];rfl
  rw [t] at e1;have Y:rF (.int v) (.int ((is.length:Int)-1))=.ok (.int (v*((is.length:Int)-1))):=Bl (by simp only [ml,u_,CK];omega);have s:is.length<=16777216:=by omega
  unfold cg at e1;refine ⟨Ca (hi-lo<v*((is.length:Int)-1)),?_⟩
  simp [cI,kN,iI,S,C,B,D,l,o,e1,Y,s,-Bo,-xb,-Cg,-Bl,-Bm]
theorem crowd1 (n:Nat) (c:cv k rows) (S:∀f∈fl,0<=f.kind/\f.kind<k) (J:fl.length<64) :
  dO CR CL n [rD CR rows,.lst (fl.map flD)]=.ok .non\/∃is:List Int,dO CR CL n [rD CR rows,.lst (fl.map flD)]=.ok (.lst (is.map .int)):=by
 have H:∀is:List Int,∃b,(∀j∈is,0<=j/\j<fl.length)->is.Nodup->is.length<64->cI CR CL n [rD CR rows,.lst (fl.map flD),.lst (is.map .int)]=.ok (.bl b):=fun is=>by
  by_cases h:(∀j∈is,0<=j/\j<fl.length)/\is.Nodup/\is.length<64
  ·obtain ⟨b,e⟩:=crowd_is CR CL n c S h.1 h.2.1 h.2.2;exact ⟨b,fun _ _ _=>e⟩
  ·exact ⟨f_,fun h1 h2 U=>Cj ⟨h1,h2,U⟩ h⟩
 have e:=crowd_ok CR CL n J (rd:=rD CR rows) (cr:=fun is=>(H is).choose) (fun is h1 h2 U=>(H is).choose_spec h1 h2 U);rw [e];cases Y:answer (fun is=>(H is).choose) fl with
 |none=>exact .inl rfl
 |some d=>
  refine .inr ?_;unfold answer at Y;obtain ⟨a,_,h1⟩:=Jc Y;obtain ⟨b,_,h2⟩:=Jc h1;unfold cw at h2;split at h2
  ·cases h2;exact ⟨_,rfl⟩
  ·cases h2
end
theorem dI (lo:Int) (m:Nat):az lo (m+1)=.int lo::az (lo+1) m:=by
 unfold az;rw [Hy,A_,Cg]
 congr 1
 ·simp
 ·refine E_ fun k _=>?_;simp only [Fn]
  congr 1
  omega
theorem vi (a b:Int):a<=dM a b/\b<=dM a b/\(dM a b=a\/dM a b=b):=by unfold dM;split<;>omega
theorem tAt_app {us:List Int} (h:i<ts.length):tAt (ts++us) i=tAt ts i:=by
 unfold tAt;rw [Dm,Dm,DJ h]
theorem tAt_new (ts us:List Int) (t:Int):tAt (ts++t::us) ts.length=t:=by
 unfold tAt;simp
def nx (cs:List bJ) (t:Int):Int:=open Classical in if h:∃u,jl cs t u then h.choose else 0
theorem nx_eq {t:Int} (h:jl cs t u):nx cs t=u:=by
 have J:∃u,jl cs t u:=⟨u,h⟩
 unfold nx;rw [dif_pos J];exact J.choose_spec.uniq h
structure W1 where
 k:Nat
 rows:List (List Int)
 fl:List Fli
 cs:List bJ
variable {w:W1}
structure W1.Good (w:W1):Prop where
 k1:1<=w.k
 k6:w.k<=6
 rows:cv w.k w.rows
 fl:∀f∈w.fl,fJ w.k f
 many:w.fl.length<=40
 cs:w.cs.length<=3
 st:∀p∈w.cs,p.1<p.2
noncomputable def W1.f (w:W1) (i:Nat):Fli:=eS w.fl i
def W1.ap (w:W1) (j i:Nat):Int:=at2 w.rows (w.f j).kind (w.f i).kind
def W1.low (w:W1) (ts:List Int) (i j:Nat):Int:=(Cc j).foldl (fun t l=>dM t (tAt ts l+w.ap l i)) (w.f i).first
theorem W1.iX (w:W1) (ts:List Int) (i j:Nat):w.low ts i (j+1)=dM (w.low ts i j) (tAt ts j+w.ap j i):=by
 unfold W1.low;rw [Ez,L6];rfl
theorem W1.mJ (w:W1) (ts:List Int) (i:Nat):∀j,(w.f i).first<=w.low ts i j
 |0=>Eo _
 |j+1=>by
  have h1:=w.mJ ts i j;have h2:=vi (w.low ts i j) (tAt ts j+w.ap j i);rw [w.iX];omega
theorem W1.vj (w:W1) (ts:List Int) (i:Nat):∀j l,l<j->tAt ts l+w.ap l i<=w.low ts i j
 |0,l,h=>Cj h (JN _)
 |j+1,l,h=>by
  have h2:=vi (w.low ts i j) (tAt ts j+w.ap j i);rw [w.iX];by_cases e:l=j
  ·subst e;exact h2.2.1
  ·have:=w.vj ts i j l (by omega);omega
theorem W1.low_le (w:W1) (ts:List Int) (i:Nat) (t:Int) (J:(w.f i).first<=t):∀j,(∀l,l<j->tAt ts l+w.ap l i<=t)->w.low ts i j<=t
 |0,_=>J
 |j+1,h=>by
  have h1:=w.low_le ts i t J j fun l S=>h l (by omega);have h2:=h j (by omega);rw [w.iX];rcases (vi (w.low ts i j) (tAt ts j+w.ap j i)).2.2 with e|e<;>omega
def W1.tms (w:W1):Nat->List Int
 |0=>[]
 |i+1=>w.tms i++[nx w.cs (w.low (w.tms i) i i)]
def W1.t (w:W1) (i:Nat):Int:=nx w.cs (w.low (w.tms i) i i)
theorem W1.jn (w:W1):∀i,(w.tms i).length=i
 |0=>rfl
 |i+1=>by rw [W1.tms,CP,w.jn i];rfl
theorem W1.wj (w:W1):∀(m i:Nat),i<m->tAt (w.tms m) i=w.t i
 |0,i,h=>Cj h (JN _)
 |m+1,i,h=>by
  rw [W1.tms];by_cases e:i=m
  ·subst e;have:=tAt_new (w.tms i) [] (nx w.cs (w.low (w.tms i) i i));rw [w.jn] at this;exact this
  ·rw [tAt_app (by rw [w.jn];omega)];exact w.wj m i (by omega)
def W1.okT (w:W1) (i:Nat):Prop:=w.t i<=(w.f i).last
theorem W1.Good.fAt (hw:w.Good) (h:i<w.fl.length):jI (w.fl.map flD) (i:Int)=.ok (flD (w.f i))/\fJ w.k (w.f i):=by
 obtain ⟨h1,h2⟩:=Bc (fl:=w.fl) (i:=(i:Int)) (by omega) (by omega);exact ⟨h1,hw.fl _ h2⟩
theorem W1.Good.ap0 (hw:w.Good) (U:j<w.fl.length) (hi:i<w.fl.length):0<=w.ap j i:=by
 have S:=(hw.fAt U).2;have J:=(hw.fAt hi).2;exact (getA hw.rows S.k0 S.k1 J.k0 J.k1).2
section
variable (CR CL:h_)
theorem next1 (n:Nat) (hw:w.Good) (t:Int):cT CR CL n [.lst (w.cs.map stD),.int t]=.ok (.int (nx w.cs t))/\jl w.cs t (nx w.cs t):=by
 obtain ⟨u,e,h⟩:=next_ok CR CL n w.cs t (L4 hw.cs (by decide)) hw.st;rw [nx_eq h];exact ⟨e,h⟩
end
theorem W1.Good.nxt (hw:w.Good) (t:Int):jl w.cs t (nx w.cs t):=(next1 0 0 0 hw t).2
theorem W1.Good.t_low (hw:w.Good) (i:Nat):w.low (w.tms i) i i<=w.t i:=(hw.nxt _).1
theorem W1.Good.t0 (hw:w.Good) (h:i<w.fl.length):0<=w.t i:=by
 have h1:=hw.t_low i;have h2:=w.mJ (w.tms i) i i;have J:=(hw.fAt h).2.f0;omega
theorem W1.Good.t_gap (hw:w.Good) {l:Nat} (h:l<i):w.t l+w.ap l i<=w.t i:=by
 have h1:=hw.t_low i;have h2:=w.vj (w.tms i) i i l h;rw [w.wj i l h] at h2;omega
noncomputable def jq (t:Int) (p:bJ):Int:=if p.1<=t/\t<p.2 then p.2 else t
noncomputable def pass (cs:List bJ) (t:Int):Int:=cs.foldl jq t
def Reach (cs:List bJ) (t u:Int):Prop:=t<=u/\∀v,t<=v->v<u->Cov cs v
theorem Reach.step {t:Int} (h:Reach cs t u) (J:p∈cs):Reach cs t (jq u p):=by
 unfold jq;split
 ·rename_i c;refine ⟨by have:=h.1;omega,fun v h1 h2=>?_⟩
  by_cases hv:v<u
  ·exact h.2 v h1 hv
  ·exact ⟨p,J,by omega,by omega⟩
 ·exact h
theorem Reach.pass {cs:List bJ} {t:Int}:∀(ds:List bJ) (u:Int),(∀p∈ds,p∈cs)->Reach cs t u->Reach cs t (pass ds u)
 |[],_,_,h=>h
 |d::ds,u,hd,h=>Reach.pass ds (jq u d) (fun p J=>hd p (by simp [J])) (h.step (hd d (by simp)))
theorem step_ge (t:Int) (p:bJ):t<=jq t p:=by unfold jq;split<;>omega
theorem Au:∀(ds:List bJ) (u:Int),u<=pass ds u
 |[],_=>Eo _
 |d::ds,u=>HF (step_ge u d) (Au ds _)
theorem wG {cs:List bJ}:∀(ds:List bJ) (u:Int),(∀p∈ds,p∈cs)->(pass ds u=u/\∀p∈ds,¬(p.1<=u/\u<p.2))\/cnt cs (pass ds u)<cnt cs u
 |[],u,_=>.inl ⟨rfl,fun p J=>by cases J⟩
 |d::ds,u,hd=>by
  have S:∀p∈ds,p∈cs:=fun p J=>hd p (by simp [J]);show (pass ds (jq u d)=u/\_)\/cnt cs (pass ds (jq u d))<_;by_cases c:d.1<=u/\u<d.2
  ·have e:jq u d=d.2:=by unfold jq;rw [p_ c]
   rw [e];have h1:=BJ (hd d (by simp)) c.2;have h2:=xp (cs:=cs) (Au ds d.2);exact .inr (by omega)
  ·have e:jq u d=u:=by unfold jq;rw [l_ c]
   rw [e];rcases wG ds u S with ⟨h1,h2⟩|h
   ·exact .inl ⟨h1,fun p J=>by
     rcases r_.mp J with z|z
     ·rw [z];exact c
     ·exact h2 p z⟩
   ·exact .inr h
noncomputable def passes (cs:List bJ):Nat->Int->Int
 |0,t=>t
 |m+1,t=>passes cs m (pass cs t)
theorem oG {cs:List bJ} {t:Int} (h:pass cs t=t):∀m,passes cs m t=t
 |0=>rfl
 |m+1=>by rw [passes,h];exact oG h m
theorem my {cs:List bJ} {S:Int}:∀(m:Nat) (t:Int),Reach cs S t->cnt cs t<=m->jl cs S (passes cs m t)
 |0,t,h,U=>⟨h.1,fun ⟨p,J,h1,h2⟩=>by
   have:cnt cs p.2<cnt cs t:=BJ J h2;omega,h.2⟩
 |m+1,t,h,U=>by
  rcases wG cs t (fun p J=>J) with ⟨h1,h2⟩|h1
  ·rw [oG h1];exact ⟨h.1,fun ⟨p,J,Y⟩=>h2 p J Y,h.2⟩
  ·rw [passes];exact my m _ (h.pass cs t fun p J=>J) (by omega)
theorem cnt_len (cs:List bJ) (t:Int):cnt cs t<=cs.length:=List.countP_le_length
theorem As (cs:List bJ) (t:Int):passes cs cs.length t=nx cs t:=(nx_eq (my cs.length t ⟨Eo _,fun v h1 h2=>by omega⟩ (cnt_len cs t))).symm
noncomputable def aS (m:Nat):List bJ:=(Cc m).map fun i:Nat=>((i:Int),(0:Int))
theorem dh (m:Nat):(aS m).length=m:=by simp [aS]
theorem wC (h:i<m):jI ((aS m).map stD) (i:Int)=.ok (.tup [.int i,.int 0]):=by
 have h1:=getQ (qs:=aS m) (i:=i) (by rw [dh];exact h);have h2:qAt (aS m) i=((i:Int),0):=by simp [qAt,aS,h]
 rw [h2] at h1;exact h1
section
variable (CR CL:h_)
theorem low_turn (n:Nat) (hw:w.Good) (hi:i<w.fl.length) (o:j<i) (f Y U S d c b:Option Dat) (t:Int) (ts:List Int) (k:ts.length=i) :
  e9 CR CL n [a_ (cx w.rows),a_ (.lst []),a_ (.lst (w.fl.map flD)),a_ (.lst (w.cs.map stD)),a_ (.lst ((aS w.fl.length).map stD)),a_ (.lst (ts.map .int)),f,a_ (.int i),a_ (.int 0),a_ (.int t),a_ (.int j),d,c,b,Y,U,S]=.ok (.nx [a_ (cx w.rows),a_ (.lst []),a_ (.lst (w.fl.map flD)),a_ (.lst (w.cs.map stD)),a_ (.lst ((aS w.fl.length).map stD)),a_ (.lst (ts.map .int)),f,a_ (.int i),a_ (.int 0),a_ (.int (dM t (tAt ts j+w.ap j i))),a_ (.int j),a_ (.int j),a_ (.int 0),a_ (.int (w.ap j i)),Y,U,S]):=by
 have J:j<w.fl.length:=by omega
 obtain ⟨f1,e⟩:=hw.fAt hi;obtain ⟨l,a⟩:=hw.fAt J;obtain ⟨h,_⟩:=vq hw.rows a.k0 a.k1;obtain ⟨m,_⟩:=getA hw.rows a.k0 a.k1 e.k0 e.k1;have g:=getT (ts:=ts) (i:=j) (by omega);have p1:=wC J;simp [e9,jk,p1,f1,l,flD,cx,h,lE,m,g,W1.ap]
theorem wJ (n:Nat) {w:W1} (hw:w.Good) {i:Nat} (hi:i<w.fl.length) (m c b a:Option Dat) (ts:List Int) (l:ts.length=i):∀(r j:Nat) (Y U S J:Option Dat),j+r=i->∃k g f d,
  bQ (.nm 10) (e9 CR CL n) (az (j:Int) r) [a_ (cx w.rows),a_ (.lst []),a_ (.lst (w.fl.map flD)),a_ (.lst (w.cs.map stD)),a_ (.lst ((aS w.fl.length).map stD)),a_ (.lst (ts.map .int)),m,a_ (.int i),a_ (.int 0),a_ (.int (w.low ts i j)),Y,U,S,J,c,b,a]=.ok (.nx [a_ (cx w.rows),a_ (.lst []),a_ (.lst (w.fl.map flD)),a_ (.lst (w.cs.map stD)),a_ (.lst ((aS w.fl.length).map stD)),a_ (.lst (ts.map .int)),m,a_ (.int i),a_ (.int 0),a_ (.int (w.low ts i i)),k,g,f,d,c,b,a])
 |0,j,Y,U,S,J,h=>⟨Y,U,S,J,by
   have:j=i:=by omega
   subst this;rfl⟩
 |r+1,j,Y,U,S,J,h=>by
  have o:=low_turn CR CL n hw hi (j:=j) (by omega) m c b a U S J (w.low ts i j) ts l;obtain ⟨k,g,f,d,e⟩:=wJ n hw hi m c b a ts l r (j+1) (a_ (.int j)) (a_ (.int j)) (a_ (.int 0)) (a_ (.int (w.ap j i))) (by omega);refine ⟨k,g,f,d,?_⟩
  rw [dI,bQ,vx,ar];simp only [EO,EN];rw [o,ar,<- w.iX];exact e
theorem sM (n:Nat) (q p o m l k j i h a Y U S J:Option Dat):∀(ds:List bJ) (t:Int) (c b:Option Dat),∃g f,
  bQ (.tp [15,16]) (cf CR CL n) (ds.map stD) [q,p,o,m,l,k,j,i,h,a_ (.int t),a,Y,U,S,J,c,b]=.ok (.nx [q,p,o,m,l,k,j,i,h,a_ (.int (pass ds t)),a,Y,U,S,J,g,f])
 |[],t,c,b=>⟨c,b,rfl⟩
 |d::ds,t,c,b=>by
  obtain ⟨g,f,e⟩:=sM n q p o m l k j i h a Y U S J ds (jq t d) (a_ (.int d.1)) (a_ (.int d.2));refine ⟨g,f,?_⟩
  have u:cf CR CL n [q,p,o,m,l,k,j,i,h,a_ (.int t),a,Y,U,S,J,a_ (.int d.1),a_ (.int d.2)]=.ok (.nx [q,p,o,m,l,k,j,i,h,a_ (.int (jq t d)),a,Y,U,S,J,a_ (.int d.1),a_ (.int d.2)]):=by
   unfold jq;by_cases r:d.1<=t
   ·by_cases s:t<d.2
    ·rw [p_ ⟨r,s⟩];simp [cf,dX,r,s]
    ·rw [l_ (fun z=>s z.2)];simp [cf,dX,r,s]
   ·rw [l_ (fun z=>r z.1)];simp [cf,dX,r]
  rw [A_,bQ,show d9 (.tp [15,16]) (stD d) [q,p,o,m,l,k,j,i,h,a_ (.int t),a,Y,U,S,J,c,b]=.ok [q,p,o,m,l,k,j,i,h,a_ (.int t),a,Y,U,S,J,a_ (.int d.1),a_ (.int d.2)] from rfl,ar,u,ar];exact e
theorem mz (n:Nat) (cs:List bJ) (q p o m l k i h b a Y U:Option Dat):∀(r:Nat) (j:Int) (t:Int) (c S J:Option Dat),∃g f d,
  bQ (.nm 14) (e8 CR CL n) (az j r) [q,p,o,a_ (.lst (cs.map stD)),m,l,k,i,h,a_ (.int t),b,a,Y,U,c,S,J]=.ok (.nx [q,p,o,a_ (.lst (cs.map stD)),m,l,k,i,h,a_ (.int (passes cs r t)),b,a,Y,U,g,f,d])
 |0,j,t,c,S,J=>⟨c,S,J,rfl⟩
 |r+1,j,t,c,S,J=>by
  obtain ⟨u,s,e1⟩:=sM CR CL n q p o (a_ (.lst (cs.map stD))) m l k i h b a Y U (a_ (.int j)) cs t S J;obtain ⟨g,f,d,e⟩:=mz n cs q p o m l k i h b a Y U r (j+1) (pass cs t) (a_ (.int j)) u s;refine ⟨g,f,d,?_⟩
  have v:e8 CR CL n [q,p,o,a_ (.lst (cs.map stD)),m,l,k,i,h,a_ (.int t),b,a,Y,U,a_ (.int j),S,J]=.ok (.nx [q,p,o,a_ (.lst (cs.map stD)),m,l,k,i,h,a_ (.int (pass cs t)),b,a,Y,U,a_ (.int j),u,s]):=by
   simp [e8,e1]
  rw [dI,bQ,vx,ar];simp only [EO,EN];rw [v,ar];exact e
theorem xK (n:Nat) (hw:w.Good) (hi:i<w.fl.length) (q p o h g f e U S J:Option Dat) :
  ((w.f i).last<w.t i/\bA CR CL n [a_ (cx w.rows),a_ (.lst []),a_ (.lst (w.fl.map flD)),a_ (.lst (w.cs.map stD)),a_ (.lst ((aS w.fl.length).map stD)),a_ (.lst ((w.tms i).map .int)),a_ (.int i),q,p,o,h,g,f,e,U,S,J]=.ok (.rt .non)) \/
  (w.okT i/\∃u t s d b a Y l k j,bA CR CL n [a_ (cx w.rows),a_ (.lst []),a_ (.lst (w.fl.map flD)),a_ (.lst (w.cs.map stD)),a_ (.lst ((aS w.fl.length).map stD)),a_ (.lst ((w.tms i).map .int)),a_ (.int i),q,p,o,h,g,f,e,U,S,J]=.ok (.nx [a_ (cx w.rows),a_ (.lst []),a_ (.lst (w.fl.map flD)),a_ (.lst (w.cs.map stD)),a_ (.lst ((aS w.fl.length).map stD)),a_ (.lst ((w.tms (i+1)).map .int)),a_ (.int i),u,t,s,d,b,a,Y,l,k,j])):=by
 obtain ⟨f1,C⟩:=hw.fAt hi;have p1:=wC hi;have A:=hw.many;have B:=hw.cs;have v:w.low (w.tms i) i 0=(w.f i).first:=rfl;obtain ⟨d,b,a,Y,e1⟩:=wJ CR CL n hw hi (a_ (.int i)) U S J (w.tms i) (w.jn i) i 0 h g f e (by omega);obtain ⟨l,k,j,e2⟩:=mz CR CL n w.cs (a_ (cx w.rows)) (a_ (.lst [])) (a_ (.lst (w.fl.map flD))) (a_ (.lst ((aS w.fl.length).map stD))) (a_ (.lst ((w.tms i).map .int))) (a_ (.int i)) (a_ (.int i)) (a_ (.int 0)) d b a Y w.cs.length 0 (w.low (w.tms i) i i) U S J;rw [As] at e2;have m:nx w.cs (w.low (w.tms i) i i)=w.t i:=rfl;rw [m] at e2;rw [v] at e1;have k1:(-4611686018427387904:Int)<=(i:Int):=by omega
 have k2:(i:Int)<4611686018427387904:=by omega
 have k3:(-4611686018427387904:Int)<=(w.cs.length:Int):=by omega
 have r:(w.cs.length:Int)<4611686018427387904:=by omega
 have z:((0:Nat):Int)=0:=rfl;rw [z] at e1;have y:(w.tms i).length<16777216:=by rw [w.jn];omega
 have x:w.tms (i+1)=w.tms i++[w.t i]:=rfl;by_cases c:(w.f i).last<w.t i
 ·left;refine ⟨c,?_⟩
  simp [bA,gp,p1,f1,flD,k1,k2,k3,r,e1,e2,c]
 ·right;refine ⟨by unfold W1.okT;omega,a_ (.int i),a_ (.int 0),a_ (.int (w.t i)),d,b,a,Y,l,k,j,?_⟩
  rw [x];simp [bA,gp,p1,f1,flD,k1,k2,k3,r,e1,e2,c,y]
theorem om (n:Nat) {w:W1} (hw:w.Good):∀(r i:Nat) (u t s q d b a Y U S J:Option Dat),i+r=w.fl.length ->
  ((∃j,i<=j/\j<w.fl.length/\¬w.okT j)/\bQ (.nm 6) (bA CR CL n) (az (i:Int) r) [a_ (cx w.rows),a_ (.lst []),a_ (.lst (w.fl.map flD)),a_ (.lst (w.cs.map stD)),a_ (.lst ((aS w.fl.length).map stD)),a_ (.lst ((w.tms i).map .int)),u,t,s,q,d,b,a,Y,U,S,J]=.ok (.rt .non)) \/
  ((∀j,i<=j->j<w.fl.length->w.okT j)/\∃A y x v p o m l k g f,bQ (.nm 6) (bA CR CL n) (az (i:Int) r) [a_ (cx w.rows),a_ (.lst []),a_ (.lst (w.fl.map flD)),a_ (.lst (w.cs.map stD)),a_ (.lst ((aS w.fl.length).map stD)),a_ (.lst ((w.tms i).map .int)),u,t,s,q,d,b,a,Y,U,S,J]=.ok (.nx [a_ (cx w.rows),a_ (.lst []),a_ (.lst (w.fl.map flD)),a_ (.lst (w.cs.map stD)),a_ (.lst ((aS w.fl.length).map stD)),a_ (.lst ((w.tms w.fl.length).map .int)),A,y,x,v,p,o,m,l,k,g,f]))
 |0,i,u,t,s,q,d,b,a,Y,U,S,J,h=>by
  right;have e:i=w.fl.length:=by omega
  refine ⟨fun j h1 h2=>by omega,u,t,s,q,d,b,a,Y,U,S,J,?_⟩
  rw [e];rfl
 |r+1,i,u,t,s,q,d,b,a,Y,U,S,J,h=>by
  have hi:i<w.fl.length:=by omega
  rw [dI,bQ,vx,ar];simp only [EO,EN];rcases xK CR CL n hw hi t s q d b a Y U S J with ⟨c,e⟩|⟨c,L,K,I,H,G,F,E,D,C,B,e⟩
  ·left;refine ⟨⟨i,by omega,hi,fun z=>by unfold W1.okT at z;omega⟩,?_⟩
   rw [e];rfl
  ·rw [e];rcases om n hw r (i+1) (a_ (.int i)) L K I H G F E D C B (by omega) with ⟨⟨j,h1,h2,N⟩,e2⟩|⟨O,A,y,x,v,p,o,m,l,k,g,f,e2⟩
   ·left;exact ⟨⟨j,by omega,h2,N⟩,e2⟩
   ·right;refine ⟨fun j h1 h2=>?_,A,y,x,v,p,o,m,l,k,g,f,e2⟩
    by_cases z:j=i
    ·rw [z];exact c
    ·exact O j (by omega) h2
theorem AS (n:Nat) (hw:w.Good) :
  ((∃j,j<w.fl.length/\¬w.okT j)/\cW CR CL n [cx w.rows,.lst [],.lst (w.fl.map flD),.lst (w.cs.map stD),.lst ((aS w.fl.length).map stD)]=.ok .non) \/
  ((∀j,j<w.fl.length->w.okT j)/\cW CR CL n [cx w.rows,.lst [],.lst (w.fl.map flD),.lst (w.cs.map stD),.lst ((aS w.fl.length).map stD)]=.ok (.lst ((w.tms w.fl.length).map .int))):=by
 have o:=hw.many;have k1:(-4611686018427387904:Int)<=(w.fl.length:Int):=by omega
 have k2:(w.fl.length:Int)<4611686018427387904:=by omega
 have J:((0:Nat):Int)=0:=rfl;have e1:w.tms 0=[]:=rfl;rcases om CR CL n hw w.fl.length 0 d_ d_ d_ d_ d_ d_ d_ d_ d_ d_ d_ (by omega) with ⟨⟨j,_,h2,g⟩,e⟩|⟨c,m,l,k,i,f,d,b,a,Y,U,S,e⟩
 ·left;refine ⟨⟨j,h2,g⟩,?_⟩
  rw [J,e1] at e;simp at e;simp [cW,iB,dh,k1,k2,e]
 ·right;refine ⟨fun j h=>c j (by omega) h,?_⟩
  rw [J,e1] at e;simp at e;simp [cW,iB,dh,k1,k2,e]
end
def W1.las (w:W1):Nat->List Int
 |0=>Dl w.k (-1)
 |i+1=>(w.las i).set (w.f i).kind.toNat (w.t i)
def W1.cst (w:W1):Nat->Int
 |0=>0
 |i+1=>w.cst i+late (w.f i) (w.t i)
def W1.lab (w:W1) (i:Nat):LK:=(w.cst i,[w.las i])
theorem W1.qA (w:W1):∀i,(w.las i).length=w.k
 |0=>by simp [W1.las]
 |i+1=>by rw [W1.las,CB];exact w.qA i
def W1.LasAt (w:W1) (i:Nat) (a:Nat) (x:Int):Prop:=(x= -1/\∀j,j<i->(w.f j).kind≠a)\/∃j,j<i/\(w.f j).kind=a/\x=w.t j/\∀l,l<i->(w.f l).kind=a->w.t l<=w.t j
theorem W1.Good.AV {w:W1} (hw:w.Good):∀i,i<=w.fl.length->∀a,a<w.k->w.LasAt i a (tAt (w.las i) a)
 |0,_,a,J=>.inl ⟨by simp [W1.las,tAt,J],fun j h=>by omega⟩
 |i+1,hi,a,J=>by
  have c:=hw.AV i (by omega) a J;have g:=(hw.fAt (i:=i) (by omega)).2;have f:=g.k0;have d:=w.qA i;by_cases e:(w.f i).kind=a
  ·have U:(w.f i).kind.toNat=a:=by omega
   have ev:tAt (w.las (i+1)) a=w.t i:=by
    rw [W1.las,U];simp [tAt,d,J]
   refine .inr ⟨i,by omega,e,ev,fun l h1 h2=>?_⟩;by_cases z:l=i
   ·rw [z];exact Eo _
   ·have b:=hw.t_gap (l:=l) (i:=i) (by omega);have Y:=hw.ap0 (j:=l) (i:=i) (by omega) (by omega);omega
  ·have U:(w.f i).kind.toNat≠a:=by omega
   have ev:tAt (w.las (i+1)) a=tAt (w.las i) a:=by
    rw [W1.las];unfold tAt;rw [Dm,Dm,q_ U]
   rw [ev];rcases c with ⟨h1,h2⟩|⟨j,h1,h2,b,Y⟩
   ·refine .inl ⟨h1,fun j k=>?_⟩;by_cases z:j=i
    ·rw [z];exact e
    ·exact h2 j (by omega)
   ·refine .inr ⟨j,by omega,h2,b,fun l m S=>?_⟩;by_cases z:l=i
    ·rw [z] at S;exact Cj S e
    ·exact Y l (by omega) S
theorem q9 (S:Nat->Int):∀(xs:List Int) (j:Nat) (y:Int),y∈rC S j xs↔∃a,a<xs.length/\tAt xs a≠ -1/\y=tAt xs a+S (j+a)
 |[],j,y=>by simp [rC]
 |x::xs,j,y=>by
  have Y:=q9 S xs (j+1) y;have U:(∃a,a<xs.length/\tAt xs a≠ -1/\y=tAt xs a+S (j+1+a))↔∃a,0<a/\a<(x::xs).length/\tAt (x::xs) a≠ -1/\y=tAt (x::xs) a+S (j+a):=by
   constructor
   ·rintro ⟨a,h1,h2,J⟩;refine ⟨a+1,by omega,by simpa using h1,h2,?_⟩
    rw [J];have:j+1+a=j+(a+1):=by omega
    rw [this];rfl
   ·rintro ⟨a,c,h1,h2,J⟩;obtain ⟨b,rfl⟩:∃b,a=b+1:=⟨a-1,by omega⟩
    refine ⟨b,by simpa using h1,h2,?_⟩
    rw [J];have:j+1+b=j+(b+1):=by omega
    rw [this];rfl
  by_cases e:x= -1
  ·rw [rC,p_ e,Y,U];constructor
   ·rintro ⟨a,_,h⟩;exact ⟨a,h⟩
   ·rintro ⟨a,h1,h2,J⟩;cases a with
    |zero=>exact Cj e (by simpa [tAt] using h2)
    |succ a=>exact ⟨a+1,by omega,h1,h2,J⟩
  ·rw [rC,l_ e,r_,Y,U];constructor
   ·rintro (h|⟨a,_,h⟩)
    ·exact ⟨0,by simp,by simpa [tAt] using e,by simpa [tAt] using h⟩
    ·exact ⟨a,h⟩
   ·rintro ⟨a,h1,h2,J⟩;cases a with
    |zero=>exact .inl (by simpa [tAt] using J)
    |succ a=>exact .inr ⟨a+1,by omega,h1,h2,J⟩
theorem foldl_max (xs:List Int) (x:Int):(xs.foldl dM x=x\/xs.foldl dM x∈xs)/\x<=xs.foldl dM x/\∀y∈xs,y<=xs.foldl dM x:=⟨ke xs x,(L2.fold_max xs x).2⟩
theorem W1.Good.las_low (hw:w.Good) (hi:i<w.fl.length):(rC (fun a=>at2 w.rows a (w.f i).kind) 0 (w.las i)).foldl dM (w.f i).first=w.low (w.tms i) i i:=by
 obtain ⟨f,d,c⟩:=foldl_max (rC (fun a=>at2 w.rows a (w.f i).kind) 0 (w.las i)) (w.f i).first;have m:=w.qA i;refine Int.le_antisymm ?_ ?_
 ·rcases f with e|e
  ·rw [e];exact w.mJ _ _ _
  ·obtain ⟨a,h1,h2,k⟩:=(q9 _ _ _ _).mp e;rw [k];rcases hw.AV i (by omega) a (by omega) with ⟨z,_⟩|⟨j,U,b,Y,_⟩
   ·exact Cj z h2
   ·have:=w.vj (w.tms i) i i j U;rw [w.wj i j U] at this;rw [Y];unfold W1.ap at this;rw [b] at this;simpa using this
 ·refine w.low_le _ _ _ d _ fun l J=>?_;rw [w.wj i l J];have g:=(hw.fAt (i:=l) (by omega)).2;have k0:=g.k0;have k1:=g.k1;have S:((w.f l).kind.toNat:Int)=(w.f l).kind:=by omega
  have p:=hw.t0 (i:=l) (by omega);rcases hw.AV i (by omega) (w.f l).kind.toNat (by omega) with ⟨_,z⟩|⟨j,U,b,Y,h⟩
  ·exact Cj S.symm (z l J)
  ·have o:=h l J S.symm;have n:=c (tAt (w.las i) (w.f l).kind.toNat+at2 w.rows (w.f l).kind (w.f i).kind) ((q9 _ _ _ _).mpr ⟨(w.f l).kind.toNat,by omega,by omega,by rw [F9,S]⟩);unfold W1.ap;omega
section
variable (CR CL:h_)
theorem AQ (n:Nat) {k:Nat} {rows:List (List Int)} (i:cv k rows) (b:Int) (m:0<=b) (l:b<k) (J U:Option Dat):∀(S:List Int) (j:Nat) (ts:List Int) (e d:Option Dat),j+S.length<=k->ts.length+S.length<=1000 ->
  ∃c Y,bQ (.tp [6,7]) (cq CR CL n) (d8 j (S.map .int)) [a_ (rD CR rows),J,a_ (.tup [.int b,.int 0]),a_ (.lst (ts.map .int)),a_ (.int 0),U,e,d]=.ok (.nx [a_ (rD CR rows),J,a_ (.tup [.int b,.int 0]),a_ (.lst ((ts++rC (fun j=>at2 rows j b) j S).map .int)),a_ (.int 0),U,c,Y])
 |[],j,ts,e,d,_,_=>⟨e,d,by simp [d8,bQ,rC]⟩
 |x::S,j,ts,e,d,p,o=>by
  simp only [Ci] at p o;by_cases g:x= -1
  ·obtain ⟨c,Y,f⟩:=AQ n i b m l J U S (j+1) ts (a_ (.int j)) (a_ (.int x)) (by omega) (by omega);refine ⟨c,Y,?_⟩
   rw [A_,d8,bQ];simp only [rC,p_ g];rw [<- f];simp [cq,dv,g]
  ·obtain ⟨c,Y,f⟩:=AQ n i b m l J U S (j+1) (ts++[x+at2 rows j b]) (a_ (.int j)) (a_ (.int x)) (by omega) (by simp;omega);refine ⟨c,Y,?_⟩
   have q:=apart1 CR CL n i (a:=j) (b:=b) ⟨by omega,by omega⟩ ⟨m,l⟩ (.int 0) (.int 0) (aa 0) (fL bo (a9 (aa 6) (a9 (aa 4) ax))) (aa 2) [a_ (rD CR rows),J,a_ (.tup [.int b,.int 0]),d_,a_ (.int 0),U,a_ (.int j),a_ (.int x)] (by simp) (by simp) (by simp);have h:ts.length<16777216:=by omega
   rw [A_,d8,bQ];simp only [rC,l_ g];rw [Ew,List.singleton_append] at f;rw [<- f];simp [cq,dv,g,q,h]
theorem lg_ok (n:Nat) (Y:cv k rows) (g:k<=6) (b:Int) (d:0<=b) (c:b<k) (J:List Int) (f:J.length=k):cR CR CL n [rD CR rows,.tup [aQ J],.tup [.int b,.int 0]]=.ok (.lst ((rC (fun j=>at2 rows j b) 0 J).map .int)):=by
 obtain ⟨U,S,e⟩:=AQ CR CL n Y b d c (a_ (.tup [aQ J])) (a_ (aQ J)) J 0 [] d_ d_ (by omega) (by simp;omega);simp at e;have a:dB CR CL n [a_ (rD CR rows),a_ (.tup [aQ J]),a_ (.tup [.int b,.int 0]),a_ (.lst []),a_ (.int 0),a_ (aQ J),d_,d_]=.ok (.nx [a_ (rD CR rows),a_ (.tup [aQ J]),a_ (.tup [.int b,.int 0]),a_ (.lst ((rC (fun j=>at2 rows j b) 0 J).map .int)),a_ (.int 0),a_ (aQ J),U,S]):=by
  unfold aQ at *;simp [dB,iy,e]
 simp [cR,i4,iy,d8,bQ,a]
theorem lasts_ok (n:Nat) (J:List Int) (U:j<J.length) (Y:J.length<=10) (x:Int):fR CR CL n [.tup [aQ J],.tup [.int j,.int 0],.int x]=.ok (.tup [aQ (J.set j x)]):=by
 have S:J.length<=16777216:=by omega
 have h1:aH (.nm 0) g7 (fL kJ (a9 (aa 0) ax)) [d_] [aQ J]=.ok [.lst (J.map .int)]:=by
  unfold aQ;simp [aH,S]
 have h2:aH (.nm 0) g7 (fL mi (a9 (aa 0) ax)) [d_] [.lst ((J.set j x).map .int)]=.ok [aQ (J.set j x)]:=by
  unfold aQ;have:(J.set j x).length<=16777216:=by simp;omega
  simp [aH,this,S,-NF]
 have e1:rowAt [.lst (J.map .int)] 0=.ok (0,J.map .int):=by simp [rowAt,ixN]
 have e2:oy [.lst (J.map .int)] (0,J.map .int) (j:Int) (.int x)=.ok [.lst ((J.set j x).map .int)]:=by
  unfold oy;simp only [v_];rw [ixN_nat U];simp
 simp [fR,ll,uJ,zY,xX,sA,lstOf,asI,h1,e1,e2,h2,-NF]
theorem BX (n:Nat) (hw:w.Good) (hi:i<w.fl.length) :
  bZ CR CL n [rD CR w.rows,.lst (w.fl.map flD),.lst (w.cs.map stD),dD (w.lab i),.int i,.int 0]=.ok (if (w.f i).last<w.t i then .non else dD (w.lab (i+1))):=by
 obtain ⟨g,S⟩:=hw.fAt hi;have d:=hw.k6;have p:=w.qA i;have f:=lg_ok CR CL n hw.rows d (w.f i).kind S.k0 S.k1 (w.las i) p;obtain ⟨ev,_⟩:=next1 CR CL n hw (w.low (w.tms i) i i);have q:nx w.cs (w.low (w.tms i) i i)=w.t i:=rfl;rw [q,<- hw.las_low hi] at ev;have m:=AU CR CL n (w.f i) (w.t i) S.p0 S.p1;obtain ⟨U,a⟩:∃U:Nat,(w.f i).kind=U:=⟨(w.f i).kind.toNat,by have:=S.k0;omega⟩
 have l:=lasts_ok CR CL n (w.las i) (j:=U) (by have:=S.k1;omega) (by omega) (w.t i);rw [<- a] at l;have c:(w.f i).kind.toNat=U:=by omega
 have e:=wy (fun j=>at2 w.rows j (w.f i).kind) 0 (w.las i);generalize h:rC (fun j=>at2 w.rows j (w.f i).kind) 0 (w.las i)=A at f e ev;have o:maxD [.lst (.int (w.f i).first::A.map .int)]=.ok (.int (A.foldl dM (w.f i).first)):=by
  show (aV (((w.f i).first::A).map .int)).bind maxL=_;rw [bT,ar,maxL]
 have k:1+A.length<=16777216:=by omega
 have Y:dD (w.lab (i+1))=.tup [.int (w.cst i+late (w.f i) (w.t i)),.tup [aQ ((w.las i).set U (w.t i))]]:=by
  rw [<- c];rfl
 have b:dD (w.lab i)=.tup [.int (w.cst i),.tup [aQ (w.las i)]]:=rfl;rw [Y,b];simp only [flD] at g m;by_cases J:(w.f i).last<w.t i
 ·rw [p_ J];simp [bZ,gm,eI,g,f,hG,k,o,ev,J,-xb]
 ·rw [l_ J];simp [bZ,gm,eI,g,f,hG,k,o,ev,J,m,l,-xb]
theorem first1 (n:Nat) (hw:w.Good):eP CR CL n [rD CR w.rows]=.ok (dD (w.lab 0)):=by
 have e:=hw.k6;have ek:=kinds1 CR CL n hw.rows (aa 0) [a_ (rD CR w.rows),d_] (by simp);have es:=mj CR CL n w.rows (aa 0) [a_ (rD CR w.rows),a_ (aQ (Dl w.k (-1)))] (by simp);have k1: -4611686018427387904<=(w.k:Int):=by omega
 have k2:(w.k:Int)<4611686018427387904:=by omega
 have Y:aH (.nm 0) g7 (f1 negD (fC (.int 1))) [d_] (az 0 w.k)=.ok ((Dl w.k (-1)).map Dat.int):=by
  have:=fq (p:=.nm 0) (fe:=f1 negD (fC (.int 1))) (ρ0:=[d_]) (fun _=>.int (-1)) (az 0 w.k) (fun d _=>⟨[a_ d],by simp,by simp⟩);rw [this,List.map_const',bu,LM]
 have b:j6 [.int 1]=.ok [.int 0]:=by simp [az]
 have a:(az 0 w.k).length<=16777216:=by rw [bu];omega
 have U:dD (w.lab 0)=.tup [.int 0,.tup [.tup ((Dl w.k (-1)).map Dat.int)]]:=rfl;rw [U];simp only [aQ] at es;generalize c:(Dl w.k (-1)).map Dat.int=S at Y es ⊢;have J:S.length<=16777216:=by rw [<- c];simp;omega
 simp [eP,k7,ek,k1,k2,a,Y,J,es,b,aH,-LM,-tJ];simp [k1,k2,a,Y,J,es,b,aH]
end
theorem g8 {α:Type} {p:Pat} {fe:ah->M Dat} {ρ0:ah} (g f:α->Dat):∀(L:List α),(∀x∈L,∃ρ,d9 p (g x) ρ0=.ok ρ/\fe ρ=.ok (f x))->aH p g7 fe ρ0 (L.map g)=.ok (L.map f)
 |[],_=>rfl
 |d::ds,h=>by
  obtain ⟨ρ,e1,e2⟩:=h d (by simp);rw [A_,aH,e1];simp only [ar,g7,e2,g8 g f ds fun x J=>h x (by simp [J])];simp
theorem kT:∀(b:List Int) (j:Nat),d8 j (b.map .int)=(Cc b.length).map fun i=>Dat.tup [.int ((j+i:Nat):Int),.int (b.getD i 0)]
 |[],_=>rfl
 |x::b,j=>by
  rw [A_,d8,kT b (j+1),Ci,Hy,A_,Cg]
  congr 1
  refine E_ fun i _=>?_;simp only [Fn];have:j+1+i=j+(i+1):=by omega
  rw [this];rfl
theorem ot (CR CL:h_) (n:Nat) (b:List Int) (g:b.length<=100):b8 CR CL n [aQ b]=.ok (.lst ((Cc b.length).map fun i=>Dat.tup [aQ (b.eraseIdx i),.int (b.getD i 0)])):=by
 have c:aH (.tp [0,1]) g7 (fL bo (a9 (f2 hG (fSl ie (aa 2) uZ (mB (aa 0))) (fSl ie (aa 2) (mB (f2 hG (aa 0) (fC (.int 1)))) uZ)) (a9 (aa 1) ax))) [d_,d_,a_ (aQ b)] (d8 0 (b.map .int))=.ok ((Cc b.length).map fun i=>Dat.tup [aQ (b.eraseIdx i),.int (b.getD i 0)]):=by
  rw [kT];refine g8 _ _ _ fun i hi=>?_;have hi:=CO.mp hi;refine ⟨[a_ (.int ((0+i:Nat):Int)),a_ (.int (b.getD i 0)),a_ (aQ b)],by simp,?_⟩
  have f:cX (b.map Dat.int).length 0 d_=0:=rfl;have e:cX (b.map Dat.int).length (b.map Dat.int).length (a_ ((0+i:Nat):Int))=i:=by
   simp only [cX];rw [l_ (by omega),v_];omega
  have d:cX (b.map Dat.int).length 0 (a_ (((0+i:Nat):Int)+1))=i+1:=by
   simp only [cX];rw [l_ (by omega),v_];omega
  have Y:ie (aQ b) d_ (a_ ((0+i:Nat):Int))=.ok (.tup ((b.take i).map .int)):=by
   unfold aQ ie;simp only [];rw [f,e,l_ (by simp;omega)];rw [cut_take _ (by omega)];simp
  have U:ie (aQ b) (a_ (((0+i:Nat):Int)+1)) d_=.ok (.tup ((b.drop (i+1)).map .int)):=by
   unfold aQ ie;simp only [];rw [d,l_ (by simp)];rw [cut_drop _ (by omega)];have:(((0+i:Nat):Int)+1).toNat=i+1:=by omega
   rw [this];simp
  have a:((b.take i).map Dat.int).length+((b.drop (i+1)).map Dat.int).length<=16777216:=by simp;omega
  simp only [e_L,e_cons,e_2,e_slF,e_varS,e_var0,e_pNone,e_pSome,e_c,ar,e_asI,Y,hG,U,Du,a,Jp,e_nil];simp [bo,aQ,List.eraseIdx_eq_take_drop_succ,Du]
 have J:(d8 0 (b.map Dat.int)).length<=16777216:=by rw [kT];simp;omega
 have S:iy (aQ b)=.ok (b.map .int):=rfl;simp [b8,i3,S,J,c]
theorem cost_ok (CR CL:h_) (n:Nat) (k:Nat) (fl:List Fli) (S:∀f∈fl,fJ k f) (qs:List bJ) (ts:List Int) (h:∀p∈qs,0<=p.1/\p.1<fl.length) (Y:qs.length<=1000):iq CR CL n [.lst (fl.map flD),.lst (qs.map stD),.lst (ts.map .int)]=.ok (.int (fN fl qs ts).sum):=by
 have U:=zx (qs.map stD) (ts.map .int);rw [v_] at U;have J:(ku (qs.map stD) (ts.map .int)).length<=16777216:=by omega
 simp [iq,t7,J,u3 CR CL n k fl S qs ts h]
theorem n5 {p:Pat} {g:ah->M Flo} (P:ah->Prop):∀(as:List Dat) (ρ:ah),P ρ->(∀a∈as,∀ρ,P ρ->∃S J,d9 p a ρ=.ok S/\g S=.ok (.nx J)/\P J)->∃ρ',P ρ'/\∀bs,bQ p g (as++bs) ρ=bQ p g bs ρ'
 |[],ρ,h,_=>⟨ρ,h,fun _=>rfl⟩
 |a::as,ρ,h,U=>by
  obtain ⟨S,J,e1,e2,h2⟩:=U a (by simp) ρ h;obtain ⟨ρ',c,e3⟩:=n5 P as J h2 fun b Y=>U b (by simp [Y]);refine ⟨ρ',c,fun bs=>?_⟩
  rw [List.cons_append,bQ,e1,ar,e2,ar];exact e3 bs
theorem uptoS (m:Nat):aL (m+1)=aL m++[(m:Int)]:=by unfold aL;rw [Ez];simp
theorem upto_ne (m:Nat):(m:Int)∉aL m:=fun h=>by have:=wa.mp h;omega
theorem wb {a b:Nat} (h:aL a=aL b):a=b:=by have:=G1 Ia h;rwa [cQ,cQ] at this
theorem kS (m:Nat):(aL (m+1)).eraseIdx m=aL m:=by
 rw [uptoS,List.eraseIdx_append_of_length_le (by rw [cQ];omega),cQ];simp
theorem tE (h:i<m):(aL (m+1)).eraseIdx i≠aL j:=fun e=>by
 have S:((aL (m+1)).eraseIdx i).length=m:=by rw [H_,cQ,p_ (by omega)];omega
 have U:j=m:=by rw [e,cQ] at S;exact S
 rw [U] at e;have J:(m:Int)∈(aL (m+1)).eraseIdx i:=by
  rw [uptoS,List.eraseIdx_append_of_lt_length (by rw [cQ];omega)];simp
 rw [e] at J;exact upto_ne m J
theorem upto_at (h:i<m):(aL m).getD i 0=(i:Int):=by
 unfold aL;simp [h]
def zu (g:Nat->Dat) (s:Nat):List (List Int×Dat):=(Cc s).map fun i=>(aL i,g i)
theorem vp {g:Nat->Dat} {k:List Int}:∀s,(∀i,i<s->k≠aL i)->nV (zu g s) k=d_
 |s,h=>by
  unfold nV zu;rw [List.find?_eq_none.mpr]
  ·rfl
  ·intro x J;obtain ⟨i,hi,rfl⟩:=CA.mp J;simp only [CK];exact fun z=>h i (CO.mp hi) z.symm
theorem Ba {g:Nat->Dat}:∀{s i:Nat},i<s->nV (zu g s) (aL i)=a_ (g i)
 |s+1,i,h=>by
  have e:zu g (s+1)=zu g s++[(aL s,g s)]:=by unfold zu;rw [Ez,Fz];rfl
  have key:∀(l:List (List Int×Dat)) (k:List Int) (p:List Int×Dat),nV (l++[p]) k=((nV l k).or (if p.1=k then a_ p.2 else d_)):=fun l k p=>by
   unfold nV;rw [List.find?_append];cases U:l.find? (fun q=>Ca (q.1=k)) with
   |some q=>simp
   |none=>
    simp only [Option.none_or,L3];by_cases c:p.1=k
    ·simp [c]
    ·simp [c]
  rw [e,key];by_cases z:i=s
  ·subst z;rw [vp i (fun j S J=>by have:=wb J;omega)];simp
  ·rw [Ba (by omega)];simp
theorem putR (g:Nat->Dat) (s:Nat):i9 (zu g s) (aL s) (g s)=zu g (s+1):=by
 unfold i9;rw [vp s (fun j S J=>by have:=wb J;omega)];simp [zu,Ez]
theorem dicR_len (g:Nat->Dat) (s:Nat):(zu g s).length=s:=by simp [zu]
theorem f7 (b:List Int):lL (aQ b)=.ok b:=by unfold aQ lL;simp [bT]
section
variable (CR CL:h_)
theorem begin0 (n S J:Nat) (c:S<=40) (b:J<=S):cC CR CL n [.int S,.int 0,.int J]=.ok (.lst [aQ (aL J)]):=by
 have k1:(-4611686018427387904:Int)<=(J:Int):=by omega
 have k2:(J:Int)<4611686018427387904:=by omega
 have e1:maxD [.int 0,.int (J:Int)]=.ok (.int J):=by
  have:dM 0 (J:Int)=J:=by unfold dM;split<;>omega
  simp [this]
 have e2:minD [.int (S:Int),.int (J:Int)]=.ok (.int J):=by
  have:nR (S:Int) J=J:=by unfold nR;split<;>omega
  simp [this]
 have e3:(az 0 J).length<=16777216:=by rw [bu];omega
 have e4:Dat.tup (az 0 J)=aQ (aL J):=by rw [jt];rfl
 have a:fS CR CL n [.lst [],.int 0]=.ok (.lst [.tup []]):=by
  simp [fS,lq,jj,eqM,okE,kI,eqD]
 have U:az (J:Int) 0=[]:=rfl;have Y:J<=16777216:=by omega
 rw [<- e4];simp [cC,iA,e1,e2,k1,k2,e3,bu,U,a,aH,hG,Y]
end
theorem sum_one (s:Nat):((Cc (s+1)).map fun i=>if i=s then (1:Int) else 0).sum=1:=by
 have S:∀m,m<=s->((Cc m).map fun i=>if i=s then (1:Int) else 0).sum=0:=by
  intro m
  induction m with
  |zero=>intro _;rfl
  |succ m J=>
   intro h;rw [Ez,Fz,Jx,J (by omega)];simp;omega
 rw [Ez,Fz,Jx,S s (m_ _)];simp
section
variable (CR CL:h_)
theorem v5 (n J s:Nat) (o:J<=40) (p:s<J) (g f:Option Dat):∃l h,
  dz CR CL n [a_ (.int J),a_ (.int 0),a_ (.dic [(aL s,.int 1)]),a_ (.int ((s+1:Nat):Int)),g,f]=.ok (.nx [a_ (.int J),a_ (.int 0),a_ (.dic [(aL (s+1),.int 1)]),a_ (.int ((s+1:Nat):Int)),l,h]):=by
 have e:=begin0 CR CL n J (s+1) o (by omega);have a:=ot CR CL n (aL (s+1)) (by rw [cQ];omega);rw [cQ] at a;have Y:∀k:List Int,nV [(aL s,Dat.int 1)] k=if aL s=k then a_ (.int 1) else d_:=fun k=>by
  unfold nV;by_cases c:aL s=k<;>simp [c]
 have S:aH (.tp [0,1]) g7 (n6 (aa 2) (aa 0) (fC (.int 0))) [d_,d_,a_ (.dic [(aL s,.int 1)])] ((Cc (s+1)).map fun i=>Dat.tup [aQ ((aL (s+1)).eraseIdx i),.int ((aL (s+1)).getD i 0)])=.ok (((Cc (s+1)).map fun i=>if i=s then (1:Int) else 0).map .int):=by
  rw [Cg];refine g8 _ _ _ fun i hi=>?_;have hi:=CO.mp hi;refine ⟨[a_ (aQ ((aL (s+1)).eraseIdx i)),a_ (.int ((aL (s+1)).getD i 0)),a_ (.dic [(aL s,.int 1)])],by simp,?_⟩
  by_cases c:i=s
  ·subst c;simp [jz,f7,Y,kS,Fn]
  ·have:=tE (m:=s) (i:=i) (j:=s) (by omega);have h2:¬aL s=(aL (s+1)).eraseIdx i:=fun z=>this z.symm;simp [jz,f7,Y,h2,c,Fn]
 have U:sumD [.lst (((Cc (s+1)).map fun i=>if i=s then (1:Int) else 0).map .int)]=.ok (.int 1):=by
  have h1:=sum_one s;generalize (Cc (s+1)).map (fun i=>if i=s then (1:Int) else 0)=L at h1;simp [h1]
 have d:((Cc (s+1)).map fun i=>Dat.tup [aQ ((aL (s+1)).eraseIdx i),.int ((aL (s+1)).getD i 0)]).length<=16777216:=by simp;omega
 refine ⟨a_ (.dic [(aL (s+1),.int 1)]),a_ (aQ (aL (s+1))),?_⟩
 have b:fF CR CL n [a_ (.int J),a_ (.int 0),a_ (.dic [(aL s,.int 1)]),a_ (.int ((s+1:Nat):Int)),a_ (.dic []),a_ (aQ (aL (s+1)))]=.ok (.nx [a_ (.int J),a_ (.int 0),a_ (.dic [(aL s,.int 1)]),a_ (.int ((s+1:Nat):Int)),a_ (.dic [(aL (s+1),.int 1)]),a_ (aQ (aL (s+1)))]):=by
  generalize r:(Cc (s+1)).map (fun i=>Dat.tup [aQ ((aL (s+1)).eraseIdx i),.int ((aL (s+1)).getD i 0)])=L at a S d;generalize q:((Cc (s+1)).map fun i=>if i=s then (1:Int) else 0).map Dat.int=N at S U;simp [fF,a,S,U,d,f7,eh,i9,nV,jD]
 simp [dz] at e b ⊢;simp [e,bQ,b]
theorem mC (n J:Nat) (d:J<=40):∀(r s:Nat) (Y U S:Option Dat),s+r=J->∃c b a,
  bQ (.nm 3) (dz CR CL n) (az ((s+1:Nat):Int) r) [a_ (.int J),a_ (.int 0),a_ (.dic [(aL s,.int 1)]),Y,U,S]=.ok (.nx [a_ (.int J),a_ (.int 0),a_ (.dic [(aL J,.int 1)]),c,b,a])
 |0,s,Y,U,S,h=>⟨Y,U,S,by
   have:s=J:=by omega
   subst this;rfl⟩
 |r+1,s,Y,U,S,h=>by
  obtain ⟨g,f,e1⟩:=v5 CR CL n J s d (by omega) U S;obtain ⟨c,b,a,e⟩:=mC n J d r (s+1) (a_ (.int ((s+1:Nat):Int))) g f (by omega);refine ⟨c,b,a,?_⟩
  rw [dI,bQ,vx,ar];simp only [EO,EN];rw [e1,ar];exact e
theorem orders0 (n J:Nat) (S:J<=40):eO CR CL n [.int J,.int 0]=.ok (.int 1):=by
 obtain ⟨a,Y,U,e⟩:=mC CR CL n J S J 0 d_ d_ d_ (by omega);have k1:(-4611686018427387904:Int)<=(J:Int)+1:=by omega
 have k2:(J:Int)+1<4611686018427387904:=by omega
 have k3:((J:Int)+1-1).toNat=J:=by omega
 have e1:(((0+1:Nat):Int))=1:=rfl;rw [e1] at e;have e2:aL 0=[]:=rfl;rw [e2] at e;have e3:mkD1 (.tup []) (.int 1)=.ok (.dic [([],.int 1)]):=by simp [mkD1,lL,aV]
 simp [eO,jZ,k1,k2,k3,e,e3,aV,asI,-e_mkD1]
theorem oF (n J:Nat) (rows:List (List Int)) (S:Option Dat):∀(r:Nat) (j:Int) (U:Option Dat),∃Y,
  bQ (.nm 4) (dZ CR CL n) (az j r) [a_ (rD CR rows),a_ (.int J),S,a_ (.int 1),U]=.ok (.nx [a_ (rD CR rows),a_ (.int J),S,a_ (.int 1),Y])
 |0,j,U=>⟨U,rfl⟩
 |r+1,j,U=>by
  obtain ⟨Y,e⟩:=oF n J rows S r (j+1) (a_ (.int j));refine ⟨Y,?_⟩
  have a:=mj CR CL n rows (aa 0) [a_ (rD CR rows),a_ (.int J),S,a_ (.int 1),a_ (.int j)] (by simp);have b:dZ CR CL n [a_ (rD CR rows),a_ (.int J),S,a_ (.int 1),a_ (.int j)]=.ok (.nx [a_ (rD CR rows),a_ (.int J),S,a_ (.int 1),a_ (.int j)]):=by
   simp [dZ,a,rF,ml]
  rw [dI,bQ,vx,ar];simp only [EO,EN];rw [b,ar];exact e
theorem refuse0 (n:Nat) (rows:List (List Int)) (fl:List Fli) (S:fl.length<=40):cH CR CL n [rD CR rows,.lst (fl.map flD),.int 0]=.ok .non:=by
 obtain ⟨U,e⟩:=oF CR CL n fl.length rows (a_ (.int 0)) fl.length 0 d_;have J:=orders0 CR CL n fl.length S;have k1:(-4611686018427387904:Int)<=(fl.length:Int):=by omega
 have k2:(fl.length:Int)<4611686018427387904:=by omega
 have ep:fQ CR CL n [rD CR rows,.int fl.length,.int 0]=.ok (.int 1):=by
  simp [fQ,lj,J,k1,k2,e]
 simp [cH,gD,fw,ep]
def zg (m:Nat):List Dat:=(Cc m).map fun i=>aQ (aL i)
theorem BY (m:Nat):zg (m+1)=zg m++[aQ (aL m)]:=by unfold zg;rw [Ez,Fz];rfl
theorem ug (n J:Nat) (a:J<=40):∀(r s:Nat) (S:Option Dat),s+r=J+1->∃U,
  bQ (.nm 3) (cu CR CL n) (az (s:Int) r) [a_ (.int J),a_ (.int 0),a_ (.lst (zg s)),S]=.ok (.nx [a_ (.int J),a_ (.int 0),a_ (.lst (zg (J+1))),U])
 |0,s,S,h=>⟨S,by
   have:s=J+1:=by omega
   subst this;rfl⟩
 |r+1,s,S,h=>by
  obtain ⟨U,e⟩:=ug n J a r (s+1) (a_ (.int s)) (by omega);refine ⟨U,?_⟩
  have b:=begin0 CR CL n J s a (by omega);have c:(zg s).length+1<=16777216:=by simp [zg];omega
  have Y:cu CR CL n [a_ (.int J),a_ (.int 0),a_ (.lst (zg s)),a_ (.int s)]=.ok (.nx [a_ (.int J),a_ (.int 0),a_ (.lst (zg (s+1))),a_ (.int s)]):=by
   rw [BY];simp [cu,b,extD];exact fun z=>Cj z (by omega)
  rw [dI,bQ,vx,ar];simp only [EO,EN];rw [Y,ar];exact e
theorem allbegs0 (n J:Nat) (S:J<=40):cS CR CL n [.int J,.int 0]=.ok (.lst (zg (J+1))):=by
 obtain ⟨U,e⟩:=ug CR CL n J S (J+1) 0 d_ (by omega);have k1:(-4611686018427387904:Int)<=(J:Int)+1:=by omega
 have k2:(J:Int)+1<4611686018427387904:=by omega
 have k3:((J:Int)+1).toNat=J+1:=by omega
 have e1:zg 0=[]:=rfl;have e2:((0:Nat):Int)=0:=rfl;rw [e1,e2] at e;simp [cS,i5,k1,k2,k3,e]
end
theorem AG (b:List Int):eqM (aQ b) (.tup [])=.ok (.bl b.isEmpty)/\neM (aQ b) (.tup [])=.ok (.bl !b.isEmpty):=by
 have h:okE (aQ b) 40=f_:=by unfold aQ;simp [okE,qr]
 constructor
 ·unfold eqM;rw [h];unfold aQ;cases b<;>simp [okE,kI,eqD,kg]
 ·unfold neM;rw [h];unfold aQ;cases b<;>simp [okE,kI,eqD,kg]
theorem eq_lab (c:Int) (r:List Int):eqM (dD (c,[r])) (dD (c,[r]))=.ok (.bl f_):=by
 have h:okE (dD (c,[r])) 40=f_:=by simp [dD,aQ,okE,kI,qr]
 unfold eqM;rw [h];simp [dD,aQ,eqD,kg,qM]
open Classical in
def W1.ent (w:W1) (i:Nat):List Dat:=if ∀j,j<i->w.okT j then [dD (w.lab i)] else []
def W1.P (w:W1):Nat->List (List Int×Dat):=zu fun i=>.lst (w.ent i)
def smD (s:Nat) (i:Nat):Dat:=.tup [aQ ((aL (s+1)).eraseIdx i),.int ((aL (s+1)).getD i 0)]
theorem smD_last (s:Nat):smD s s=.tup [aQ (aL s),.int s]:=by
 unfold smD;rw [kS,upto_at (DD s)]
theorem W1.get_no (w:W1) (h:i<s):nV (w.P m) ((aL (s+1)).eraseIdx i)=d_:=vp m fun j _=>tE h
theorem W1.wU (w:W1) (h:s<m):nV (w.P m) (aL s)=a_ (.lst (w.ent s)):=Ba h
section
variable (CR CL:h_)
theorem small1 (n s:Nat) (h:s<=40):b8 CR CL n [aQ (aL (s+1))]=.ok (.lst ((Cc s).map (smD s)++[.tup [aQ (aL s),.int s]])):=by
 have e:=ot CR CL n (aL (s+1)) (by rw [cQ];omega);rw [cQ,Ez,Fz] at e;rw [e]
 congr 3
 show [smD s s]=_;rw [smD_last]
theorem behinds1 (n:Nat) (hw:w.Good) (D:s<w.fl.length) (m:Nat) (E:s<m) :
  cA CR CL n [rD CR w.rows,.lst (w.fl.map flD),.lst (w.cs.map stD),.dic (w.P m),aQ (aL (s+1))]=.ok (.dil (open Classical in if ∀j,j<s+1->w.okT j then [w.lab (s+1)] else [])):=by
 have I:=hw.many;have L:=small1 CR CL n s (by omega);obtain ⟨ρ',⟨q,o,U,S,J,rfl⟩,ek⟩:=n5 (p:=.tp [6,7]) (g:=aX CR CL n) (fun ρ=>∃q o U S J,ρ=[a_ (rD CR w.rows),a_ (.lst (w.fl.map flD)),a_ (.lst (w.cs.map stD)),a_ (.dic (w.P m)),a_ (aQ (aL (s+1))),a_ (.dil []),q,o,U,S,J]) ((Cc s).map (smD s)) [a_ (rD CR w.rows),a_ (.lst (w.fl.map flD)),a_ (.lst (w.cs.map stD)),a_ (.dic (w.P m)),a_ (aQ (aL (s+1))),a_ (.dil []),d_,d_,d_,d_,d_] ⟨_,_,_,_,_,rfl⟩ (fun a H ρ r=>by
  obtain ⟨i,hi,rfl⟩:=CA.mp H;obtain ⟨q,o,U,S,J,rfl⟩:=r;refine ⟨[a_ (rD CR w.rows),a_ (.lst (w.fl.map flD)),a_ (.lst (w.cs.map stD)),a_ (.dic (w.P m)),a_ (aQ (aL (s+1))),a_ (.dil []),a_ (aQ ((aL (s+1)).eraseIdx i)),a_ (.int ((aL (s+1)).getD i 0)),U,S,J],[a_ (rD CR w.rows),a_ (.lst (w.fl.map flD)),a_ (.lst (w.cs.map stD)),a_ (.dic (w.P m)),a_ (aQ (aL (s+1))),a_ (.dil []),a_ (aQ ((aL (s+1)).eraseIdx i)),a_ (.int ((aL (s+1)).getD i 0)),U,S,J],rfl,?_,⟨_,_,U,S,J,rfl⟩⟩
  have b:=w.get_no (m:=m) (CO.mp hi);simp [aX,jz,f7,b,bQ])
 have b:=w.wU E;have l:=ek [.tup [aQ (aL s),.int s]];have h:∃A y x v e,bQ (.tp [6,7]) (aX CR CL n) [.tup [aQ (aL s),.int s]] [a_ (rD CR w.rows),a_ (.lst (w.fl.map flD)),a_ (.lst (w.cs.map stD)),a_ (.dic (w.P m)),a_ (aQ (aL (s+1))),a_ (.dil []),q,o,U,S,J]=.ok (.nx [a_ (rD CR w.rows),a_ (.lst (w.fl.map flD)),a_ (.lst (w.cs.map stD)),a_ (.dic (w.P m)),a_ (aQ (aL (s+1))),a_ (.dil (open Classical in if ∀j,j<s+1->w.okT j then [w.lab (s+1)] else [])),A,y,x,v,e]):=by
  by_cases c:∀j,j<s->w.okT j
  ·have u:w.ent s=[dD (w.lab s)]:=by unfold W1.ent;rw [p_ c]
   rw [u] at b;have k:=mj CR CL n w.rows (aa 0) [a_ (rD CR w.rows),a_ (.lst (w.fl.map flD)),a_ (.lst (w.cs.map stD)),a_ (.dic (w.P m)),a_ (aQ (aL (s+1))),d_,a_ (aQ (aL s)),a_ (.int s),a_ (dD (w.lab s)),S,J] (by simp);have B:j6 [.int 1]=.ok [.int 0]:=by simp [az]
   have eb:=BX CR CL n hw D;by_cases C:(w.f s).last<w.t s
   ·rw [p_ C] at eb;have Y:¬∀j,j<s+1->w.okT j:=fun z=>by have:=z s (by omega);unfold W1.okT at this;omega
    rw [l_ Y];refine ⟨a_ (aQ (aL s)),a_ (.int s),a_ (dD (w.lab s)),a_ (.int 0),a_ .non,?_⟩
    have d:bI CR CL n [a_ (rD CR w.rows),a_ (.lst (w.fl.map flD)),a_ (.lst (w.cs.map stD)),a_ (.dic (w.P m)),a_ (aQ (aL (s+1))),a_ (.dil []),a_ (aQ (aL s)),a_ (.int s),a_ (dD (w.lab s)),a_ (.int 0),J]=.ok (.nx [a_ (rD CR w.rows),a_ (.lst (w.fl.map flD)),a_ (.lst (w.cs.map stD)),a_ (.dic (w.P m)),a_ (aQ (aL (s+1))),a_ (.dil []),a_ (aQ (aL s)),a_ (.int s),a_ (dD (w.lab s)),a_ (.int 0),a_ .non]):=by
     simp [bI,dQ,eb,yv]
    simp [bQ,aX,dR,jz,f7,b,k,B,d,-tJ]
   ·rw [l_ C] at eb;have f:∀j,j<s+1->w.okT j:=fun j G=>by
     by_cases z:j=s
     ·rw [z];unfold W1.okT;omega
     ·exact c j (by omega)
    rw [p_ f];refine ⟨a_ (aQ (aL s)),a_ (.int s),a_ (dD (w.lab s)),a_ (.int 0),a_ (dD (w.lab (s+1))),?_⟩
    have F:=labD_key (w.lab (s+1));have d:bI CR CL n [a_ (rD CR w.rows),a_ (.lst (w.fl.map flD)),a_ (.lst (w.cs.map stD)),a_ (.dic (w.P m)),a_ (aQ (aL (s+1))),a_ (.dil []),a_ (aQ (aL s)),a_ (.int s),a_ (dD (w.lab s)),a_ (.int 0),J]=.ok (.nx [a_ (rD CR w.rows),a_ (.lst (w.fl.map flD)),a_ (.lst (w.cs.map stD)),a_ (.dic (w.P m)),a_ (aQ (aL (s+1))),a_ (.dil [w.lab (s+1)]),a_ (aQ (aL s)),a_ (.int s),a_ (dD (w.lab s)),a_ (.int 0),a_ (dD (w.lab (s+1)))]):=by
     have t:yv (dD (w.lab (s+1))) .non=.ok (.bl f_):=rfl;simp [bI,dQ,eb,t,mv,tN,F,isTr,putL];rfl
    simp [bQ,aX,dR,jz,f7,b,k,B,d,-tJ]
  ·have u:w.ent s=[]:=by unfold W1.ent;rw [l_ c]
   rw [u] at b;have Y:¬∀j,j<s+1->w.okT j:=fun z=>c fun j G=>z j (by omega);rw [l_ Y];refine ⟨a_ (aQ (aL s)),a_ (.int s),U,S,J,?_⟩
   simp [bQ,aX,jz,f7,b]
 obtain ⟨A,y,x,v,e,K⟩:=h;rw [K] at l;simp [cA,iz,L,l]
theorem bestlab0 (n:Nat):bN CR CL n [.dil []]=.ok (.lst []):=by
 simp [bN,gU,jN,bQ]
theorem bestlab1 (n:Nat) (k:LK):bN CR CL n [.dil [k]]=.ok (.lst [dD k]):=by
 simp [bN,gU,jN,bQ,iL,iK,gk,jd]
end
theorem yi (r:List Int):ik (r.map .int)=f_:=by
 induction r with
 |nil=>rfl
 |cons x r J=>simp [ik,dE,J]
theorem Ak (c:Int) (r:List Int):dE (.lst [dD (c,[r])])=f_:=by
 simp [dE,ik,dD,aQ,yi]
theorem Al (w:W1) (i:Nat):dE (.lst (w.ent i))=f_:=by
 unfold W1.ent;split
 ·exact Ak _ _
 ·rfl
section
variable (CR CL:h_)
theorem yk (n:Nat) (hw:w.Good) (h:s<=w.fl.length) :
  eB CR CL n [a_ (rD CR w.rows),a_ (.lst (w.fl.map flD)),a_ (.lst (w.cs.map stD)),a_ (.int 0),a_ (.dic (w.P s)),a_ (aQ (aL s))]=.ok (.nx [a_ (rD CR w.rows),a_ (.lst (w.fl.map flD)),a_ (.lst (w.cs.map stD)),a_ (.int 0),a_ (.dic (w.P (s+1))),a_ (aQ (aL s))]):=by
 have g:=hw.many;have Y:=Al w s;have d:(w.P s).length<16777216:=by unfold W1.P;rw [dicR_len];omega
 have J:i9 (w.P s) (aL s) (.lst (w.ent s))=w.P (s+1):=putR (fun i=>.lst (w.ent i)) s;have b:=(AG (aL s)).1;cases s with
 |zero=>
  have e:=first1 CR CL n hw;have f:w.ent 0=[dD (w.lab 0)]:=by unfold W1.ent;rw [p_ (fun j k=>by omega)]
  have S:eqM (aQ (aL 0)) (.tup [])=.ok (.bl f_):=b;rw [f] at Y J;simp [eB,iH,S,e,f7,Y,d,J,jD]
 |succ s=>
  have U:=behinds1 CR CL n hw (s:=s) (by omega) (s+1) (by omega);have S:eqM (aQ (aL (s+1))) (.tup [])=.ok (.bl c_):=by
   rw [b,uptoS];simp
  have a:∃L,cA CR CL n [rD CR w.rows,.lst (w.fl.map flD),.lst (w.cs.map stD),.dic (w.P (s+1)),aQ (aL (s+1))]=.ok (.dil L)/\bN CR CL n [.dil L]=.ok (.lst (w.ent (s+1))):=by
   by_cases c:∀j,j<s+1->w.okT j
   ·rw [p_ c] at U;refine ⟨_,U,?_⟩
    rw [bestlab1];unfold W1.ent;rw [p_ c]
   ·rw [l_ c] at U;refine ⟨_,U,?_⟩
    rw [bestlab0];unfold W1.ent;rw [l_ c]
  obtain ⟨L,e1,e2⟩:=a;simp [eB,iH,S,e1,e2,f7,Y,d,J,jD]
theorem oH (n:Nat) {w:W1} (hw:w.Good):∀(r s:Nat) (J:Option Dat),s+r=w.fl.length+1->∃S,
  bQ (.nm 5) (eB CR CL n) ((H9 s r).map fun i=>aQ (aL i)) [a_ (rD CR w.rows),a_ (.lst (w.fl.map flD)),a_ (.lst (w.cs.map stD)),a_ (.int 0),a_ (.dic (w.P s)),J]=.ok (.nx [a_ (rD CR w.rows),a_ (.lst (w.fl.map flD)),a_ (.lst (w.cs.map stD)),a_ (.int 0),a_ (.dic (w.P (w.fl.length+1))),S])
 |0,s,J,h=>⟨J,by
   have:s=w.fl.length+1:=by omega
   subst this;rfl⟩
 |r+1,s,J,h=>by
  have e1:=yk CR CL n hw (s:=s) (by omega);obtain ⟨S,e⟩:=oH n hw r (s+1) (a_ (aQ (aL s))) (by omega);refine ⟨S,?_⟩
  rw [Jo,A_,bQ,vx,ar];simp only [EO,EN];rw [e1,ar];exact e
theorem paper0 (n:Nat) (hw:w.Good):iT CR CL n [rD CR w.rows,.lst (w.fl.map flD),.lst (w.cs.map stD),.int 0]=.ok (.dic (w.P (w.fl.length+1))):=by
 obtain ⟨U,e⟩:=oH CR CL n hw (w.fl.length+1) 0 d_ (by omega);have h1:=refuse0 CR CL n w.rows w.fl hw.many;have h2:=allbegs0 CR CL n w.fl.length hw.many;have S:zg (w.fl.length+1)=(H9 0 (w.fl.length+1)).map fun i=>aQ (aL i):=by unfold zg;rw [HZ]
 have J:w.P 0=[]:=rfl;rw [<- S,J] at e;simp [iT,oV,h1,h2,e]
theorem step1 (n:Nat) (hw:w.Good) (q:s<w.fl.length) (U:∀j,j<s+1->w.okT j) :
  jW CR CL n [rD CR w.rows,.lst (w.fl.map flD),.lst (w.cs.map stD),.dic (w.P (w.fl.length+1)),aQ (aL (s+1)),dD (w.lab (s+1))]=.ok (.tup [aQ (aL s),dD (w.lab s),.tup [.int s,.int 0]]):=by
 have v:=hw.many;have y:=small1 CR CL n s (by omega);obtain ⟨ρ',⟨e,d,S,J,rfl⟩,ek⟩:=n5 (p:=.tp [6,7]) (g:=fE CR CL n) (fun ρ=>∃e d S J,ρ=[a_ (rD CR w.rows),a_ (.lst (w.fl.map flD)),a_ (.lst (w.cs.map stD)),a_ (.dic (w.P (w.fl.length+1))),a_ (aQ (aL (s+1))),a_ (dD (w.lab (s+1))),e,d,S,J]) ((Cc s).map (smD s)) [a_ (rD CR w.rows),a_ (.lst (w.fl.map flD)),a_ (.lst (w.cs.map stD)),a_ (.dic (w.P (w.fl.length+1))),a_ (aQ (aL (s+1))),a_ (dD (w.lab (s+1))),d_,d_,d_,d_] ⟨_,_,_,_,rfl⟩ (fun a u ρ h=>by
  obtain ⟨i,hi,rfl⟩:=CA.mp u;obtain ⟨e,d,S,J,rfl⟩:=h;refine ⟨[a_ (rD CR w.rows),a_ (.lst (w.fl.map flD)),a_ (.lst (w.cs.map stD)),a_ (.dic (w.P (w.fl.length+1))),a_ (aQ (aL (s+1))),a_ (dD (w.lab (s+1))),a_ (aQ ((aL (s+1)).eraseIdx i)),a_ (.int ((aL (s+1)).getD i 0)),S,J],[a_ (rD CR w.rows),a_ (.lst (w.fl.map flD)),a_ (.lst (w.cs.map stD)),a_ (.dic (w.P (w.fl.length+1))),a_ (aQ (aL (s+1))),a_ (dD (w.lab (s+1))),a_ (aQ ((aL (s+1)).eraseIdx i)),a_ (.int ((aL (s+1)).getD i 0)),S,J],rfl,?_,⟨_,_,S,J,rfl⟩⟩
  have f:=w.get_no (m:=w.fl.length+1) (CO.mp hi);simp [fE,jz,f7,f,bQ])
 have f:=w.wU (m:=w.fl.length+1) (s:=s) (by omega);have t:w.ent s=[dD (w.lab s)]:=by unfold W1.ent;rw [p_ (fun j z=>U j (by omega))]
 rw [t] at f;have c:=ek [.tup [aQ (aL s),.int s]];have l:=mj CR CL n w.rows (aa 0) [a_ (rD CR w.rows),a_ (.lst (w.fl.map flD)),a_ (.lst (w.cs.map stD)),a_ (.dic (w.P (w.fl.length+1))),a_ (aQ (aL (s+1))),a_ (dD (w.lab (s+1))),a_ (aQ (aL s)),a_ (.int s),a_ (dD (w.lab s)),J] (by simp);have x:j6 [.int 1]=.ok [.int 0]:=by simp [az]
 have eb:=BX CR CL n hw q;have r:¬(w.f s).last<w.t s:=by have:=U s (by omega);unfold W1.okT at this;omega
 rw [l_ r] at eb;have o:=eq_lab (w.cst (s+1)) (w.las (s+1));have Y:dD (w.lab (s+1))=dD (w.cst (s+1),[w.las (s+1)]):=rfl;rw [<- Y] at o;have k:jF CR CL n [a_ (rD CR w.rows),a_ (.lst (w.fl.map flD)),a_ (.lst (w.cs.map stD)),a_ (.dic (w.P (w.fl.length+1))),a_ (aQ (aL (s+1))),a_ (dD (w.lab (s+1))),a_ (aQ (aL s)),a_ (.int s),a_ (dD (w.lab s)),a_ (.int 0)]=.ok (.rt (.tup [aQ (aL s),dD (w.lab s),.tup [.int s,.int 0]])):=by
  simp [jF,nv,eb,o]
 have b:bQ (.tp [6,7]) (fE CR CL n) [.tup [aQ (aL s),.int s]] [a_ (rD CR w.rows),a_ (.lst (w.fl.map flD)),a_ (.lst (w.cs.map stD)),a_ (.dic (w.P (w.fl.length+1))),a_ (aQ (aL (s+1))),a_ (dD (w.lab (s+1))),e,d,S,J]=.ok (.rt (.tup [aQ (aL s),dD (w.lab s),.tup [.int s,.int 0]])):=by
  simp [bQ,fE,ny,jz,f7,f,l,x,k,-tJ]
 rw [b] at c;simp [jW,t5,y,c]
def l0 (m s:Nat):List bJ:=((aS m).drop s).reverse
theorem zh (h:s<m):l0 m s=l0 m (s+1)++[((s:Int),(0:Int))]:=by
 unfold l0;have:(aS m).drop s=((s:Int),(0:Int))::(aS m).drop (s+1):=by
  rw [EY (by rw [dh];exact h)]
  congr 1
  simp [aS]
 rw [this,E3]
theorem uh (n:Nat) {w:W1} (hw:w.Good) (S:∀j,j<w.fl.length->w.okT j) (c b:Option Dat):∀(s:Nat) (J:Nat) (U:Option Dat),s<=w.fl.length->s<J->∃Y,
  eK (gJ CR CL n) (jG CR CL n) J [a_ (rD CR w.rows),a_ (.lst (w.fl.map flD)),a_ (.lst (w.cs.map stD)),a_ (.dic (w.P (w.fl.length+1))),c,b,a_ (.tup [aQ (aL s),dD (w.lab s)]),a_ (.lst ((l0 w.fl.length s).map stD)),U]=.ok (.nx [a_ (rD CR w.rows),a_ (.lst (w.fl.map flD)),a_ (.lst (w.cs.map stD)),a_ (.dic (w.P (w.fl.length+1))),c,b,a_ (.tup [aQ (aL 0),dD (w.lab 0)]),a_ (.lst ((l0 w.fl.length 0).map stD)),Y])
 |0,J+1,U,_,_=>by
  have a:neM (aQ (aL 0)) (.tup [])=.ok (.bl c_):=(AG (aL 0)).2;refine ⟨U,?_⟩
  rw [eK];simp [gJ,a]
 |s+1,J+1,U,h1,h2=>by
  have a:neM (aQ (aL (s+1))) (.tup [])=.ok (.bl f_):=by
   rw [(AG (aL (s+1))).2,uptoS];simp
  have e1:=step1 CR CL n hw (s:=s) (by omega) (fun j g=>S j (by omega));obtain ⟨Y,e⟩:=uh n hw S c b s J (a_ (.tup [aQ (aL s),dD (w.lab s),.tup [.int s,.int 0]])) (by omega) (by omega);refine ⟨Y,?_⟩
  have f:=hw.many;have d:(l0 w.fl.length (s+1)).length<16777216:=by unfold l0;rw [GR,Hl,dh];omega
  rw [eK,<- e,zh (s:=s) (by omega)];simp [gJ,a,jG,e1,d,stD]
theorem plan0 (n:Nat) (b:64<=n) (hw:w.Good) (J:∀j,j<w.fl.length->w.okT j) :
  jX CR CL n [rD CR w.rows,.lst (w.fl.map flD),.lst (w.cs.map stD),.dic (w.P (w.fl.length+1)),aQ (aL w.fl.length),dD (w.lab w.fl.length)]=.ok (.lst ((aS w.fl.length).map stD)):=by
 have U:=hw.many;obtain ⟨a,e⟩:=uh CR CL n hw J (a_ (aQ (aL w.fl.length))) (a_ (dD (w.lab w.fl.length))) w.fl.length n d_ (m_ _) (by omega);have Y:l0 w.fl.length w.fl.length=[]:=by unfold l0;rw [Kw (by rw [dh];omega)];rfl
 have h1:(l0 w.fl.length 0).reverse=aS w.fl.length:=by unfold l0;simp
 rw [Y] at e;simp at e;have S:(l0 w.fl.length 0).length<=16777216:=by unfold l0;rw [GR,Hl,dh];omega
 simp [jX,t6,e,revD,<- List.map_reverse,h1,S]
end
noncomputable def spL (w:W1) (m:Nat):List bJ:=(Cc m).map fun i=>((w.f i).kind,(0:Int))
theorem spL_at (w:W1) (h:i<m):jI ((spL w m).map stD) (i:Int)=.ok (.tup [.int (w.f i).kind,.int 0]):=by
 have h1:=getQ (qs:=spL w m) (i:=i) (by simpa [spL] using h);have h2:qAt (spL w m) i=((w.f i).kind,0):=by simp [qAt,spL,h]
 rw [h2] at h1;exact h1
def W1.gapL (w:W1) (ts:List Int) (i:Nat):List Int:=(Cc i).map fun j=>tAt ts j+w.ap j i
theorem W1.gapL_low (w:W1) (ts:List Int) (i:Nat):(w.gapL ts i).foldl dM (w.f i).first=w.low ts i i:=by
 unfold W1.gapL W1.low;rw [List.foldl_map]
section
variable (CR CL:h_)
theorem spots0 (n:Nat) (hw:w.Good):iS CR CL n [.lst (w.fl.map flD),.lst ((aS w.fl.length).map stD)]=.ok (.lst ((spL w w.fl.length).map stD)):=by
 have U:=hw.many;have S:aH (.tp [0,1]) g7 (fL bo (a9 (f2 ixD (f2 ixD (aa 2) (aa 0)) (fC (.int 0))) (a9 (aa 1) ax))) [d_,d_,a_ (.lst (w.fl.map flD))] ((aS w.fl.length).map stD)=.ok ((spL w w.fl.length).map stD):=by
  unfold aS spL;rw [Cg,Cg];refine g8 _ _ _ fun i hi=>?_;obtain ⟨f1,_⟩:=hw.fAt (CO.mp hi);refine ⟨[a_ (.int i),a_ (.int 0),a_ (.lst (w.fl.map flD))],rfl,?_⟩
  simp [f1,flD,stD]
 have J:(aS w.fl.length).length<=16777216:=by rw [dh];omega
 simp [iS,oU,S,J,-Cg]
theorem gap0 (n:Nat) (hw:w.Good) (ts:List Int) (hi:i<w.fl.length) (g:i<=ts.length):gQ CR CL n [rD CR w.rows,.lst ((spL w w.fl.length).map stD),.lst (ts.map .int),.int i]=.ok (.lst ((w.gapL ts i).map .int)):=by
 have e:=hw.many;have k1:(-4611686018427387904:Int)<=(i:Int):=by omega
 have k2:(i:Int)<4611686018427387904:=by omega
 have d:aH (.nm 0) g7 (f2 hG (f2 ixD (aa 3) (aa 0)) (eT CR "apart" (bO CR CL n) (aa 1) (a9 (f2 ixD (aa 2) (aa 0)) (a9 (f2 ixD (aa 2) (aa 4)) ax)))) [d_,a_ (rD CR w.rows),a_ (.lst ((spL w w.fl.length).map stD)),a_ (.lst (ts.map .int)),a_ (.int i)] (az 0 i)=.ok ((w.gapL ts i).map .int):=by
  unfold az W1.gapL;rw [Cg];refine g8 _ _ _ fun j J=>?_;have J:=CO.mp J;have U:=(hw.fAt (i:=j) (by omega)).2;have S:=(hw.fAt hi).2;have b:=spL_at w (m:=w.fl.length) (i:=j) (by omega);have a:=spL_at w hi;have Y:=getT (ts:=ts) (i:=j) (by omega);refine ⟨[a_ (.int (0+(j:Int))),a_ (rD CR w.rows),a_ (.lst ((spL w w.fl.length).map stD)),a_ (.lst (ts.map .int)),a_ (.int i)],rfl,?_⟩
  rw [K4];have f:=apart1 CR CL n hw.rows ⟨U.k0,U.k1⟩ ⟨S.k0,S.k1⟩ (.int 0) (.int 0) (aa 1) (f2 ixD (aa 2) (aa 0)) (f2 ixD (aa 2) (aa 4)) [a_ (.int (j:Int)),a_ (rD CR w.rows),a_ (.lst ((spL w w.fl.length).map stD)),a_ (.lst (ts.map .int)),a_ (.int i)] (by simp) (by simp [b]) (by simp [a]);simp [f,Y,W1.ap]
 have c:(az 0 i).length<=16777216:=by rw [bu];omega
 simp [gQ,mX,k1,k2,d,c]
theorem l6 (n:Nat) {w:W1} (hw:w.Good) (b:∀j,j<w.fl.length->w.okT j):∀(r i:Nat) (a Y S J:Option Dat),i+r=w.fl.length->∃g f d c,
  bQ (.tp [6,7]) (gc CR CL n) (d8 i (((H9 i r).map fun j:Nat=>((j:Int),(0:Int))).map stD)) [a_ (rD CR w.rows),a_ (.lst (w.fl.map flD)),a_ (.lst (w.cs.map stD)),a_ (.lst ((aS w.fl.length).map stD)),a_ (.lst ((spL w w.fl.length).map stD)),a_ (.lst ((w.tms i).map .int)),a,Y,S,J]=.ok (.nx [a_ (rD CR w.rows),a_ (.lst (w.fl.map flD)),a_ (.lst (w.cs.map stD)),a_ (.lst ((aS w.fl.length).map stD)),a_ (.lst ((spL w w.fl.length).map stD)),a_ (.lst ((w.tms w.fl.length).map .int)),g,f,d,c])
 |0,i,a,Y,S,J,h=>⟨a,Y,S,J,by
   have:i=w.fl.length:=by omega
   rw [this];rfl⟩
 |r+1,i,a,Y,S,J,h=>by
  have hi:i<w.fl.length:=by omega
  have u:=hw.many;obtain ⟨g,f,d,c,e⟩:=l6 n hw b r (i+1) (a_ (.int i)) (a_ (.tup [.int i,.int 0])) (a_ (flD (w.f i))) (a_ (.int (w.t i))) (by omega);refine ⟨g,f,d,c,?_⟩
  obtain ⟨m,y⟩:=hw.fAt hi;have l:=gap0 CR CL n hw (w.tms i) hi (by rw [w.jn];omega);obtain ⟨ev,_⟩:=next1 CR CL n hw (w.low (w.tms i) i i);have v:nx w.cs (w.low (w.tms i) i i)=w.t i:=rfl;rw [v,<- w.gapL_low] at ev;have k:(w.gapL (w.tms i) i).length=i:=by simp [W1.gapL]
  have p:¬(w.f i).last<w.t i:=by have:=b i hi;unfold W1.okT at this;omega
  generalize w.gapL (w.tms i) i=A at l ev k;have x:maxD [.lst (.int (w.f i).first::A.map .int)]=.ok (.int (A.foldl dM (w.f i).first)):=by
   show (aV (((w.f i).first::A).map .int)).bind maxL=_;rw [bT,ar,maxL]
  have t:1+A.length<=16777216:=by omega
  have q:(w.tms i).length<16777216:=by rw [w.jn];omega
  have o:w.tms (i+1)=w.tms i++[w.t i]:=rfl;have s:gc CR CL n [a_ (rD CR w.rows),a_ (.lst (w.fl.map flD)),a_ (.lst (w.cs.map stD)),a_ (.lst ((aS w.fl.length).map stD)),a_ (.lst ((spL w w.fl.length).map stD)),a_ (.lst ((w.tms i).map .int)),a_ (.int i),a_ (.tup [.int i,.int 0]),S,J]=.ok (.nx [a_ (rD CR w.rows),a_ (.lst (w.fl.map flD)),a_ (.lst (w.cs.map stD)),a_ (.lst ((aS w.fl.length).map stD)),a_ (.lst ((spL w w.fl.length).map stD)),a_ (.lst ((w.tms (i+1)).map .int)),a_ (.int i),a_ (.tup [.int i,.int 0]),a_ (flD (w.f i)),a_ (.int (w.t i))]):=by
   rw [o];simp only [flD] at m ⊢;simp [gc,lx,m,l,hG,t,x,ev,p,q,-xb]
  rw [Jo,A_,A_,d8,bQ];have U:d9 (.tp [6,7]) (.tup [.int i,stD ((i:Int),(0:Int))]) [a_ (rD CR w.rows),a_ (.lst (w.fl.map flD)),a_ (.lst (w.cs.map stD)),a_ (.lst ((aS w.fl.length).map stD)),a_ (.lst ((spL w w.fl.length).map stD)),a_ (.lst ((w.tms i).map .int)),a,Y,S,J]=.ok [a_ (rD CR w.rows),a_ (.lst (w.fl.map flD)),a_ (.lst (w.cs.map stD)),a_ (.lst ((aS w.fl.length).map stD)),a_ (.lst ((spL w w.fl.length).map stD)),a_ (.lst ((w.tms i).map .int)),a_ (.int i),a_ (.tup [.int i,.int 0]),S,J]:=rfl;rw [U,ar,s,ar];exact e
theorem uX (m:Nat):aS m=(H9 0 m).map fun j:Nat=>((j:Int),(0:Int)):=by unfold aS;rw [HZ]
theorem timesof0 (n:Nat) (hw:w.Good) (J:∀j,j<w.fl.length->w.okT j):iR CR CL n [rD CR w.rows,.lst (w.fl.map flD),.lst (w.cs.map stD),.lst ((aS w.fl.length).map stD)]=.ok (.lst ((w.tms w.fl.length).map .int)):=by
 obtain ⟨a,Y,U,S,e⟩:=l6 CR CL n hw J w.fl.length 0 d_ d_ d_ d_ (by omega);have h1:=spots0 CR CL n hw;have h2:w.tms 0=[]:=rfl;rw [<- uX,h2] at e;simp only [Fs] at e;simp [iR,oS,h1,e]
theorem cost0 (n:Nat) (hw:w.Good):iq CR CL n [.lst (w.fl.map flD),.lst ((aS w.fl.length).map stD),.lst ((w.tms w.fl.length).map .int)]=.ok (.int (fN w.fl (aS w.fl.length) (w.tms w.fl.length)).sum):=
 cost_ok CR CL n w.k w.fl hw.fl _ _ (fun p J=>by
  obtain ⟨i,hi,rfl⟩:=CA.mp J;have:=CO.mp hi;exact ⟨by simp,by simpa using this⟩) (by rw [dh];have:=hw.many;omega)
theorem lh (n:Nat) (k:Nat) (fl:List Fli) (d:∀f∈fl,fJ k f) (a Y:Option Dat):∀(qs:List bJ) (ts:List Int) (c:Int) (S J:Option Dat),(∀p∈qs,0<=p.1/\p.1<fl.length)->∃i g,
  bQ (.tp [4,5]) (eX CR CL n) (ku (qs.map stD) (ts.map .int)) [a_ (.lst (fl.map flD)),a,Y,a_ (.int c),S,J]=.ok (.nx [a_ (.lst (fl.map flD)),a,Y,a_ (.int (c+(fN fl qs ts).sum)),i,g])
 |[],ts,c,S,J,_=>⟨S,J,by cases ts<;>simp [ku,bQ,fN]⟩
 |q::qs,[],c,S,J,_=>⟨S,J,by simp [ku,bQ,fN]⟩
 |q::qs,t::ts,c,S,J,h=>by
  obtain ⟨s,h1⟩:=h q (by simp);obtain ⟨u,o⟩:=Bc s h1;have j:=d _ o;obtain ⟨i,g,e⟩:=lh n k fl d a Y qs ts (c+late (eS fl q.1) t) (a_ (stD q)) (a_ (.int t)) fun p m=>h p (by simp [m]);refine ⟨i,g,?_⟩
  have b:rF (.int (eS fl q.1).price) (.int (dM 0 (t-(eS fl q.1).due)))=.ok (.int (late (eS fl q.1) t)):=Bm (by
   have:=j.p0;have:=j.p1;simp only [ml,u_,CK];omega)
  have r:eX CR CL n [a_ (.lst (fl.map flD)),a,Y,a_ (.int c),a_ (stD q),a_ (.int t)]=.ok (.nx [a_ (.lst (fl.map flD)),a,Y,a_ (.int (c+late (eS fl q.1) t)),a_ (stD q),a_ (.int t)]):=by
   simp [eX,stD,u,flD,b,-Bl,-Bm]
  have l:c+(fN fl (q::qs) (t::ts)).sum=c+late (eS fl q.1) t+(fN fl qs ts).sum:=by
   simp [fN];omega
  rw [A_,A_,ku,bQ,l];have U:d9 (.tp [4,5]) (.tup [stD q,.int t]) [a_ (.lst (fl.map flD)),a,Y,a_ (.int c),S,J]=.ok [a_ (.lst (fl.map flD)),a,Y,a_ (.int c),a_ (stD q),a_ (.int t)]:=rfl;rw [U,ar,r,ar];exact e
theorem lawcost0 (n:Nat) (hw:w.Good):gS CR CL n [.lst (w.fl.map flD),.lst ((aS w.fl.length).map stD),.lst ((w.tms w.fl.length).map .int)]=.ok (.int (fN w.fl (aS w.fl.length) (w.tms w.fl.length)).sum):=by
 obtain ⟨U,S,e⟩:=lh CR CL n w.k w.fl hw.fl (a_ (.lst ((aS w.fl.length).map stD))) (a_ (.lst ((w.tms w.fl.length).map .int))) (aS w.fl.length) (w.tms w.fl.length) 0 d_ d_ (fun p J=>by
  obtain ⟨i,hi,rfl⟩:=CA.mp J;have:=CO.mp hi;exact ⟨by simp,by simpa using this⟩)
 rw [K4] at e;simp [gS,mZ,e]
end
theorem min1 (d:Dat):minL1 [.lst [d]]=.ok d:=rfl
section
variable (CR CL:h_)
theorem best_yes (n:Nat) (a:64<=n) (hw:w.Good) (J:∀j,j<w.fl.length->w.okT j) :
  cU CR CL n [a_ (rD CR w.rows),a_ (.lst (w.fl.map flD)),a_ (.lst (w.cs.map stD)),a_ (.int 0),d_,d_,d_,d_,d_]=.ok (.rt (.tup [.int (fN w.fl (aS w.fl.length) (w.tms w.fl.length)).sum,.lst ((aS w.fl.length).map stD),.lst ((w.tms w.fl.length).map .int)])):=by
 have c:=hw.many;have e1:=paper0 CR CL n hw;have e2:=w.wU (m:=w.fl.length+1) (s:=w.fl.length) (by omega);have b:w.ent w.fl.length=[dD (w.lab w.fl.length)]:=by unfold W1.ent;rw [p_ J]
 rw [b] at e2;have e3:=plan0 CR CL n a hw J;have e4:=timesof0 CR CL n hw J;have e5:=cost0 CR CL n hw;have k1:(-4611686018427387904:Int)<=(w.fl.length:Int):=by omega
 have k2:(w.fl.length:Int)<4611686018427387904:=by omega
 have k3:(az 0 w.fl.length).length<=16777216:=by rw [bu];omega
 have Y:Dat.tup (az 0 w.fl.length)=aQ (aL w.fl.length):=by rw [jt];rfl
 have U:=min1 (dD (w.lab w.fl.length));generalize (fN w.fl (aS w.fl.length) (w.tms w.fl.length)).sum=S at e5 ⊢;generalize dD (w.lab w.fl.length)=L at e2 e3 U;generalize w.P (w.fl.length+1)=P at e1 e2 e3;simp [cU,dw,e1,k1,k2,k3,Y,jz,f7,e2,U,e3,e4,e5]
end
section
variable (CR CL:h_)
theorem best_no (n:Nat) (hw:w.Good) (S:∃j,j<w.fl.length/\¬w.okT j) :
  ∃ds,cU CR CL n [a_ (rD CR w.rows),a_ (.lst (w.fl.map flD)),a_ (.lst (w.cs.map stD)),a_ (.int 0),d_,d_,d_,d_,d_]=.error (.exc CL [("crowd",.lst ds)]):=by
 have a:=hw.many;have e1:=paper0 CR CL n hw;have e2:=w.wU (m:=w.fl.length+1) (s:=w.fl.length) (by omega);have Y:w.ent w.fl.length=[]:=by
  obtain ⟨j,h1,h2⟩:=S;unfold W1.ent;rw [l_ (fun z=>h2 (z j h1))]
 rw [Y] at e2;have k1:(-4611686018427387904:Int)<=(w.fl.length:Int):=by omega
 have k2:(w.fl.length:Int)<4611686018427387904:=by omega
 have k3:(az 0 w.fl.length).length<=16777216:=by rw [bu];omega
 have J:Dat.tup (az 0 w.fl.length)=aQ (aL w.fl.length):=by rw [jt];rfl
 generalize w.P (w.fl.length+1)=P at e1 e2;rcases crowd1 CR CL n hw.rows (fl:=w.fl) (fun f U=>⟨(hw.fl f U).k0,(hw.fl f U).k1⟩) (by omega) with e3|⟨is,e3⟩
 ·refine ⟨[],?_⟩
  simp [cU,dw,e1,k1,k2,k3,J,jz,f7,e2,e3]
 ·cases is with
  |nil=>
   refine ⟨[],?_⟩
   simp only [Fs] at e3;simp [cU,dw,e1,k1,k2,k3,J,jz,f7,e2,e3]
  |cons i is=>
   refine ⟨.int i::is.map .int,?_⟩
   simp only [A_] at e3;simp [cU,dw,e1,k1,k2,k3,J,jz,f7,e2,e3]
theorem uj (n:Nat) (Y:64<=n) (hw:w.Good) (J:∀j,j<w.fl.length->w.okT j) :
  bM CR CL n [rD CR w.rows,.lst (w.fl.map flD),.lst (w.cs.map stD)]=.ok (.tup [.int (fN w.fl (aS w.fl.length) (w.tms w.fl.length)).sum,.lst ((aS w.fl.length).map stD),.lst ((w.tms w.fl.length).map .int)]):=by
 have eb:=best_yes CR CL n Y hw J;generalize (fN w.fl (aS w.fl.length) (w.tms w.fl.length)).sum=S at eb ⊢;have U:dP CR CL n [rD CR w.rows,.lst (w.fl.map flD),.lst (w.cs.map stD),.int 0]=.ok (.tup [.int S,.lst ((aS w.fl.length).map stD),.lst ((w.tms w.fl.length).map .int)]):=by
  simp [dP,eb]
 generalize Dat.tup [.int S,.lst ((aS w.fl.length).map stD),.lst ((w.tms w.fl.length).map .int)]=R at U ⊢;have a:cP CR CL n [a_ (rD CR w.rows),a_ (.lst (w.fl.map flD)),a_ (.lst (w.cs.map stD)),a_ .non,d_]=.ok (.nx [a_ (rD CR w.rows),a_ (.lst (w.fl.map flD)),a_ (.lst (w.cs.map stD)),a_ R,d_]):=by
  unfold cP;rw [tI (fl:=.nx [a_ (rD CR w.rows),a_ (.lst (w.fl.map flD)),a_ (.lst (w.cs.map stD)),a_ R,d_])];simp [U]
 simp [bM,iC,a]
theorem asked_no (n:Nat) (hw:w.Good) (J:∃j,j<w.fl.length/\¬w.okT j) :
  bM CR CL n [rD CR w.rows,.lst (w.fl.map flD),.lst (w.cs.map stD)]=.ok (.bl f_):=by
 obtain ⟨ds,eb⟩:=best_no CR CL n hw J;have U:dP CR CL n [rD CR w.rows,.lst (w.fl.map flD),.lst (w.cs.map stD),.int 0]=.error (.exc CL [("crowd",.lst ds)]):=by
  simp [dP,eb]
 have S:cP CR CL n [a_ (rD CR w.rows),a_ (.lst (w.fl.map flD)),a_ (.lst (w.cs.map stD)),a_ .non,d_]=.ok (.nx [a_ (rD CR w.rows),a_ (.lst (w.fl.map flD)),a_ (.lst (w.cs.map stD)),a_ (.bl f_),d_]):=by
  unfold cP;rw [pb (f:=("crowd",.lst ds)) (fs:=[])]
  ·simp
  ·simp [U]
 simp [bM,iC,S]
end
noncomputable def endF (f:Fli):Fli:={f with last:=1000000000}
noncomputable def qH (f:Fli):Fli:={f with price:=0}
theorem comp_end (fl:List Fli):aH (.nm 0) g7 (fL bo (a9 (f2 ixD (aa 0) (fC (.int 0))) (a9 (f2 ixD (aa 0) (fC (.int 1))) (a9 (f2 powD (fC (.int 10)) (fC (.int 9))) (a9 (f2 ixD (aa 0) (fC (.int 3))) (a9 (f2 ixD (aa 0) (fC (.int 4))) ax)))))) [d_] (fl.map flD)=.ok ((fl.map endF).map flD):=by
 rw [Cg];refine g8 _ _ _ fun f _=>⟨[a_ (flD f)],by simp,?_⟩
 simp [flD,endF,Fn]
theorem iG (fl:List Fli):aH (.nm 0) g7 (fL bo (a9 (f2 ixD (aa 0) (fC (.int 0))) (a9 (f2 ixD (aa 0) (fC (.int 1))) (a9 (f2 ixD (aa 0) (fC (.int 2))) (a9 (f2 ixD (aa 0) (fC (.int 3))) (a9 (fC (.int 0)) ax)))))) [d_] (fl.map flD)=.ok ((fl.map qH).map flD):=by
 rw [Cg];refine g8 _ _ _ fun f _=>⟨[a_ (flD f)],by simp,?_⟩
 simp [flD,qH,Fn]
theorem fJ.end' {f:Fli} (h:fJ k f):fJ k (endF f):=⟨h.k0,h.k1,h.f0,by have:=h.f1;have:=h.l1;simp only [endF];omega,by simp [endF],h.d0,h.d1,h.p0,h.p1⟩
theorem fJ.free {f:Fli} (h:fJ k f):fJ k (qH f):=⟨h.k0,h.k1,h.f0,h.f1,h.l1,h.d0,h.d1,by simp [qH],by simp [qH]⟩
noncomputable def W1.free (w:W1):W1:={w with fl:=w.fl.map qH}
theorem flAt_map (g:Fli->Fli) (h:i<fl.length):eS (fl.map g) i=g (eS fl i):=by
 unfold eS;simp [h]
theorem W1.tj (w:W1) (h:i<w.fl.length):(w.free).f i=qH (w.f i):=flAt_map qH h
theorem W1.qG (w:W1) (ts:List Int) {i:Nat} (hi:i<w.fl.length):∀j,j<=i->(w.free).low ts i j=w.low ts i j
 |0,_=>by
  show ((w.free).f i).first=(w.f i).first;rw [w.tj hi];rfl
 |j+1,h=>by
  rw [W1.iX,W1.iX,w.qG ts hi j (by omega)];have:(w.free).ap j i=w.ap j i:=by
   unfold W1.ap;rw [w.tj hi,w.tj (by omega)];rfl
  rw [this]
theorem W1.qF (w:W1):∀i,i<=w.fl.length->(w.free).tms i=w.tms i
 |0,_=>rfl
 |i+1,h=>by
  rw [W1.tms,W1.tms,w.qF i (by omega),w.qG _ (by omega) i (m_ _)];rfl
theorem W1.free_t (w:W1) (h:i<w.fl.length):(w.free).t i=w.t i:=by
 unfold W1.t;rw [w.qF i (by omega),w.qG _ h i (m_ _)];rfl
theorem W1.Good.free {w:W1} (hw:w.Good):(w.free).Good:=⟨hw.k1,hw.k6,hw.rows,fun f S=>by
 obtain ⟨g,J,rfl⟩:=CA.mp S;exact (hw.fl g J).free,by simpa [W1.free] using hw.many,hw.cs,hw.st⟩
theorem ph (fl:List Fli) (J:∀i:Int,0<=i->i<fl.length->(eS fl i).price=0):∀(qs:List bJ) (ts:List Int),(∀p∈qs,0<=p.1/\p.1<fl.length)->(fN fl qs ts).sum=0
 |[],ts,_=>by cases ts<;>simp [fN]
 |q::qs,[],_=>by simp [fN]
 |q::qs,t::ts,h=>by
  have S:=ph fl J qs ts fun p J=>h p (by simp [J]);have:=J q.1 (h q (by simp)).1 (h q (by simp)).2;simp [fN,S,late,this]
theorem vf (n:Nat):∀cs:List bJ,kI (cs.map stD) (n+1)=f_
 |[]=>rfl
 |c::cs=>by simp [kI,okE,stD,vf n cs]
theorem qL:∀cs:List bJ,kg (cs.map stD) (cs.map stD)=f_
 |[]=>rfl
 |c::cs=>by simp [kg,eqD,stD,qL cs]
theorem AA (n:Nat):∀cs:List Fli,kI (cs.map flD) (n+1)=f_
 |[]=>rfl
 |c::cs=>by simp [kI,okE,flD,AA n cs]
theorem Bh:∀cs:List Fli,kg (cs.map flD) (cs.map flD)=f_
 |[]=>rfl
 |c::cs=>by simp [kg,eqD,flD,Bh cs]
theorem AH (fl:List Fli) (cs:List bJ):neM (.lst [.lst (fl.map flD),.lst (cs.map stD)]) (.lst [.lst (fl.map flD),.lst (cs.map stD)])=.ok (.bl c_):=by
 have h:okE (.lst [.lst (fl.map flD),.lst (cs.map stD)]) 40=f_:=by simp [okE,kI,vf,AA]
 unfold neM;rw [h];simp [eqD,kg,qL,Bh]
theorem sf (c:Int) (qs:List bJ) (ts:List Int):neM (.tup [.int c,.lst (qs.map stD),.lst (ts.map .int)]) (.tup [.int c,.lst (qs.map stD),.lst (ts.map .int)])=.ok (.bl c_)/\eqM (.tup [.int c,.lst (qs.map stD),.lst (ts.map .int)]) (.tup [.int c,.lst (qs.map stD),.lst (ts.map .int)])=.ok (.bl f_):=by
 have h:okE (.tup [.int c,.lst (qs.map stD),.lst (ts.map .int)]) 40=f_:=by simp [okE,kI,vf,qr]
 constructor
 ·unfold neM;rw [h];simp [eqD,kg,qL,qM]
 ·unfold eqM;rw [h];simp [eqD,kg,qL,qM]
section
variable (CR CL:h_)
theorem law_true:∀ns:List Int,ns.length<=63->∃n,AK CR CL n [.lst (ns.map .int)]=.ok (.bl f_):=by
 intro ns e;refine ⟨64,?_⟩
 obtain ⟨O,N,p0⟩:=vP CR CL 64 ns 0;obtain ⟨z,x,p1⟩:=vP CR CL 64 ns 1;obtain ⟨x2,L,p2⟩:=vP CR CL 64 ns 2;simp only [Int.cast_ofNat_Int,Int.natCast_zero,Int.natCast_one] at N x L;obtain ⟨k,o,l,ek⟩:∃k:Nat,1<=k/\k<=6/\(1+O*16807%2147483647%6:Int)=k:=⟨(1+O*16807%2147483647%6).toNat,by omega,by omega,by omega⟩
 obtain ⟨W,D,t⟩:∃m:Nat,m<=40/\(z*39373%2147483629%13:Int)=m:=⟨(z*39373%2147483629%13).toNat,by omega,by omega⟩
 obtain ⟨m,hm,em⟩:∃m:Nat,m<=40/\rp CR CL 64 [a_ (.lst (ns.map .int)),a_ (.int k),a_ (.int W),d_,d_,d_,d_,d_,d_,d_,d_,d_]=.ok (.nx [a_ (.lst (ns.map .int)),a_ (.int k),a_ (.int m),d_,d_,d_,d_,d_,d_,d_,d_,d_]):=by
  by_cases h:z/64%8=5
  ·exact ⟨40,by omega,by simp [rp,x,h]⟩
  ·exact ⟨W,D,by simp [rp,x,h]⟩
 obtain ⟨rows,X,eg⟩:=gaps_ok CR CL 64 ns e 3 k (by omega) (by omega) l;have Z:=new1 CR CL 64 o l X;obtain ⟨Y,b,a,ef⟩:=yM CR CL 64 ns e k 80 m o (by omega) (by omega) hm;obtain ⟨fl,q,E,e2⟩:∃fl:List Fli,fl.length=m/\(∀f∈fl,fJ k f)/\rn CR CL 64 [a_ (.lst (ns.map .int)),a_ (.int k),a_ (.int m),a_ (cx rows),a_ (rD CR rows),a_ (.lst (Y.map flD)),d_,d_,d_,d_,d_,d_]=.ok (.nx [a_ (.lst (ns.map .int)),a_ (.int k),a_ (.int m),a_ (cx rows),a_ (rD CR rows),a_ (.lst (fl.map flD)),d_,d_,d_,d_,d_,d_]):=by
  by_cases h:x2%2=1
  ·refine ⟨Y.map endF,by rw [v_,b],fun f F=>?_,?_⟩
   ·obtain ⟨g,hg,rfl⟩:=CA.mp F;exact (a g hg).1.end'
   ·have ec:=comp_end Y;have y:Y.length<=16777216:=by omega
    simp [rn,L,h,ec,y,-Cg]
  ·exact ⟨Y,b,fun f F=>(a f F).1,by simp [rn,L,h]⟩
 obtain ⟨cs,H,G,v⟩:=BK CR CL 64 ns e;have hw:W1.Good ⟨k,rows,fl,cs⟩:=⟨o,l,X,E,by show fl.length<=40;omega,H,G⟩
 have k1:(-4611686018427387904:Int)<=(m:Int):=by omega
 have k2:(m:Int)<4611686018427387904:=by omega
 have ep:aH (.nm 0) g7 (fL bo (a9 (aa 0) (a9 (fC (.int 0)) ax))) [d_] (az 0 m)=.ok ((aS m).map stD):=by
  unfold az aS;rw [Cg];refine g8 _ _ _ fun i _=>⟨[a_ (.int (0+(i:Int)))],rfl,?_⟩
  simp [stD,Fn]
 have y:(az 0 m).length<=16777216:=by rw [bu];omega
 have Q:fl.length<=16777216:=by omega
 have P:cs.length<=16777216:=by omega
 have s:=AH fl cs;rcases AS CR CL 64 hw with ⟨C,c⟩|⟨r,c⟩
 ·have ea:=asked_no CR CL 64 hw C;simp only at c ea;rw [q] at c;simp [AK,g_law,N,x,ek,t,em,eg,Z,ef,e2,v,k1,k2,y,ep,c,Q,P,ea,vR,s,vQ,isBD,-Cg]
 ·have ea:=uj CR CL 64 (by omega) hw r;have u:=lawcost0 CR CL 64 hw;have B:=hw.free;have J:(W1.free ⟨k,rows,fl,cs⟩).fl.length=m:=by simp [W1.free,q]
  have w:=uj CR CL 64 (by omega) B (fun j hj=>by
   have U:j<fl.length:=by rw [J] at hj;omega
   unfold W1.okT;rw [W1.free_t _ U,W1.tj _ U];exact r j U)
  have K:=iG fl;have I:(W1.free ⟨k,rows,fl,cs⟩).tms m=W1.tms ⟨k,rows,fl,cs⟩ m:=W1.qF _ m (by show m<=fl.length;omega);rw [ph _ (fun i h0 h1=>by
   obtain ⟨j,rfl⟩:∃j:Nat,i=j:=⟨i.toNat,by omega⟩
   have U:j<fl.length:=by rw [J] at h1;omega
   have:=W1.tj ⟨k,rows,fl,cs⟩ U;unfold W1.f at this;rw [this];rfl) _ _ (fun p hp=>by
   obtain ⟨i,hi,rfl⟩:=CA.mp hp;have:=CO.mp hi;exact ⟨by simp,by simpa using this⟩),J,I] at w
  simp only at c ea u;rw [q] at c ea u;obtain ⟨A,_⟩:=sf (fN fl (aS m) (W1.tms ⟨k,rows,fl,cs⟩ m)).sum (aS m) (W1.tms ⟨k,rows,fl,cs⟩ m);obtain ⟨_,R⟩:=sf 0 (aS m) (W1.tms ⟨k,rows,fl,cs⟩ m);have d:bM CR CL 64 [rD CR rows,.lst ((fl.map qH).map flD),.lst (cs.map stD)]=.ok (.tup [.int 0,.lst ((aS m).map stD),.lst ((W1.tms ⟨k,rows,fl,cs⟩ m).map .int)]):=w;generalize (fN fl (aS m) (W1.tms ⟨k,rows,fl,cs⟩ m)).sum=S at ea u A;generalize W1.tms ⟨k,rows,fl,cs⟩ m=T at c ea u A R d;simp [AK,g_law,N,x,ek,t,em,eg,Z,ef,e2,v,k1,k2,y,ep,c,Q,P,ea,vR,s,vQ,BU,u,A,K,d,R,-Cg]
end
theorem fin_mk {P:Cn} {w:Dv} {h:CQ} {fa CR:h_} (_:K.In h) (_:h.Ns CS mg) (J:mg "law"=a_ (.ref fa)) (Z:Zs K mg CR CL) :
  ∃fd:EZ,(∀(s:t_) (v:i_),Io s fd ⟨[v],[]⟩ [("_law_script",v)])/\∀base:CQ,K.In base->base.Ns CS mg->iN P w K mg base CX0 9 fa fd ["_law_script"] (spLaw K):=by
 obtain ⟨f,fd,D,S⟩:=Z.d_law;have e:=J.symm.trans D.mg;cases e;refine ⟨fd,S,fun base _ _=>law_ok (ro:=c_) (mlaw:=AK CR CL) (fun n=>?_) (law_true CR CL)⟩
 obtain ⟨a,U,Y⟩:=ok_law (n:=n) (P:=P) (w:=w) (base:=base) Z;have e:=D.mg.symm.trans Y.d.mg;cases e;rw [D.fn.uniq Y.d.fn];exact Y.o
theorem walk {l:IS} {q:Cn} {J:List Cy} {g:(Mq)->CQ->Prop} {U:Dv->CQ->Prop} {d:DefRec} {K:Params->Fg} (Y:l.most=a_ 63) (S:d.params.defaults=[])
  (c:∀(w:Dv) (h:CQ),U w h->(K w.params).In h)
  (F:∀(w:Dv) (mg:Mq) (fa:h_) (h:CQ),(K w.params).In h->h.Ns CS mg->mg d.name=a_ (.ref fa) ->
   ∃fd:EZ,(∀(s:t_) (u:i_),Io s fd ⟨[u],[]⟩ [("_law_script",u)])/\∀base:CQ,(K w.params).In base->base.Ns CS mg->iN l.prog w (K w.params) mg base CX0 9 fa fd ["_law_script"] (spLaw (K w.params))) :
  Lf q J g U l.row.toRowW d [] (fun f vs=>Gg f vs):=
 L2.walk_of (n:=63) (k:=9) (x:="_law_script") (CX:=fun _=>CX0) (sp:=fun w=>spLaw (K w.params)) Y (by decide) S ⟨rfl,by decide,by decide⟩ c F (fun _ _ a ns b _ e=>⟨a,ns,rfl,e,b,fun _=>rfl⟩) fun _ _ _ _ _ z=>z
end Ru
end
open PySem PySem.W PyProof.Rows
namespace PySem.W.Fast
theorem tw3584636643257248362:True:=⟨⟩
theorem tw10731194627305587011:True:=⟨⟩
theorem tw9406611764886320851:True:=⟨⟩
theorem tw17748862477782968164:True:=⟨⟩
theorem tw1587990191355092798:True:=⟨⟩
theorem tw13728482687835264295:True:=⟨⟩
theorem tw7200911440347300739:True:=⟨⟩
theorem tw6072551730811054845:True:=⟨⟩
theorem tw950019966597712116:True:=⟨⟩
theorem tw8208835414950395749:True:=⟨⟩
theorem tw13335671619355218172:True:=⟨⟩
theorem tw8570478780688177959:True:=⟨⟩
theorem tw10681004670046252313:True:=⟨⟩
theorem tw340410407372880968:True:=⟨⟩
theorem tw4644745876187329455:True:=⟨⟩
theorem tw2948704951248963453:True:=⟨⟩
theorem tw9222083024884219885:True:=⟨⟩
theorem tw7413221393009090461:True:=⟨⟩
theorem tw15981446283121740840:True:=⟨⟩
theorem tw5043595441571658190:True:=⟨⟩
theorem tw3958441546796432434:True:=⟨⟩
theorem tw10676114068792276367:True:=⟨⟩
theorem tw16328624541161145233:True:=⟨⟩
theorem tw16287858483327121685:True:=⟨⟩
theorem tw5811959168238210118:True:=⟨⟩
theorem tw15129220413456210118:True:=⟨⟩
theorem tw12708627330192095302:True:=⟨⟩
theorem tw199769307846326605:True:=⟨⟩
theorem tw9504271227836634233:True:=⟨⟩
theorem tw10124282599264809725:True:=⟨⟩
theorem tw9946736944054837451:True:=⟨⟩
theorem tw927345243752590523:True:=⟨⟩
theorem tw14000677576048710549:True:=⟨⟩
theorem tw6160999212523574975:True:=⟨⟩
theorem tw7796935555695834201:True:=⟨⟩
theorem tw16288409309311501822:True:=⟨⟩
theorem tw16353399092440290831:True:=⟨⟩
theorem tw6645636139803673606:True:=⟨⟩
theorem tw13241840005653720967:True:=⟨⟩
theorem tw5722069366227089807:True:=⟨⟩
theorem tw15453366305779492256:True:=⟨⟩
theorem tw2558871703381556438:True:=⟨⟩
theorem tw4482007392007327811:True:=⟨⟩
theorem tw1194211226615764375:True:=⟨⟩
theorem tw8679980024570802206:True:=⟨⟩
theorem tw682904976938826766:True:=⟨⟩
theorem tw17929112089774493675:True:=⟨⟩
theorem tw13816410622931139162:True:=⟨⟩
theorem tw3269886189266306271:True:=⟨⟩
theorem tw5036082844825801127:True:=⟨⟩
theorem tw16600784144315625487:True:=⟨⟩
theorem tw9706758850645836729:True:=⟨⟩
theorem tw17629509392427427300:True:=⟨⟩
theorem tw557468743314880944:True:=⟨⟩
theorem tw17056438649882235826:True:=⟨⟩
theorem tw18054711336065219704:True:=⟨⟩
theorem tw14818208678551546884:True:=⟨⟩
theorem tw15527070508146966695:True:=⟨⟩
theorem tw6394572306642273115:True:=⟨⟩
theorem tw16180286041557574341:True:=⟨⟩
theorem tw2769446576731501355:True:=⟨⟩
theorem tw16155804634783772189:True:=⟨⟩
theorem tw1391903592251822314:True:=⟨⟩
theorem tw5291791439143787636:True:=⟨⟩
theorem tw969888790277672820:True:=⟨⟩
theorem tw16657305958614819774:True:=⟨⟩
theorem tw18219344604033331703:True:=⟨⟩
theorem tw15387921121490432587:True:=⟨⟩
theorem tw12416549866879500745:True:=⟨⟩
theorem tw12203923850372190936:True:=⟨⟩
theorem tw5794470664950253660:True:=⟨⟩
theorem tw11346721596005794335:True:=⟨⟩
theorem tw2173026556340374566:True:=⟨⟩
theorem tw15575636307453278295:True:=⟨⟩
theorem tw10172245363747152246:True:=⟨⟩
theorem tw276772012609252400:True:=⟨⟩
theorem tw99757482389341461:True:=⟨⟩
theorem tw2086980056852758947:True:=⟨⟩
theorem tw10014645359624030143:True:=⟨⟩
theorem tw7769862820467321737:True:=⟨⟩
theorem tw17404645177895198146:True:=⟨⟩
theorem tw8935234925251797513:True:=⟨⟩
theorem tw16386994364542839773:True:=⟨⟩
theorem tw8257078839087028284:True:=⟨⟩
theorem tw16815616399999093799:True:=⟨⟩
theorem tw9457606057346360342:True:=⟨⟩
theorem tw8023391505356091340:True:=⟨⟩
theorem tw5883035428766816878:True:=⟨⟩
theorem tw934251558565400166:True:=⟨⟩
theorem tw15321818378983121138:True:=⟨⟩
theorem tw681049527696058653:True:=⟨⟩
theorem tw4877545868513781069:True:=⟨⟩
theorem tw4958655289037743725:True:=⟨⟩
theorem tw7176029841538294026:True:=⟨⟩
theorem tw4328342993495038839:True:=⟨⟩
theorem tw13792271856754182103:True:=⟨⟩
theorem tw14924714360469617351:True:=⟨⟩
theorem tw5373428458845340984:True:=⟨⟩
theorem tw3096835785363210690:True:=⟨⟩
theorem tw4257588379233867082:True:=⟨⟩
theorem tw15161415672434598514:True:=⟨⟩
theorem tw7362658658943547145:True:=⟨⟩
theorem tw967689681454114240:True:=⟨⟩
theorem tw4826306702787632070:True:=⟨⟩
theorem tw18408967630843419334:True:=⟨⟩
theorem tw9096185079239662585:True:=⟨⟩
theorem tw10655080519146751295:True:=⟨⟩
theorem tw5909719229350815857:True:=⟨⟩
theorem tw7943914166872517759:True:=⟨⟩
theorem tw16397941128332856855:True:=⟨⟩
theorem tw18067163302581518576:True:=⟨⟩
theorem tw8890045443658751064:True:=⟨⟩
theorem tw11280340008279679951:True:=⟨⟩
theorem tw2881219758735332239:True:=⟨⟩
theorem tw4392268511605679132:True:=⟨⟩
theorem tw5831350246736382002:True:=⟨⟩
theorem tw2455961013161119689:True:=⟨⟩
theorem tw13317327779581480430:True:=⟨⟩
theorem tw4667198728306865316:True:=⟨⟩
theorem tw3688694527725218728:True:=⟨⟩
theorem tw5657175279513725762:True:=⟨⟩
theorem tw16574247153977406477:True:=⟨⟩
theorem tw15608588170337506857:True:=⟨⟩
theorem tw7353514814197569494:True:=⟨⟩
theorem tw5882744774234000307:True:=⟨⟩
theorem tw7973085916183516198:True:=⟨⟩
theorem tw5416443589062967250:True:=⟨⟩
theorem tw4830960330803838352:True:=⟨⟩
theorem tw2873882632319893040:True:=⟨⟩
theorem tw18236751865843251097:True:=⟨⟩
theorem tw12298742518940516549:True:=⟨⟩
theorem tw9213674048551887709:True:=⟨⟩
theorem tw831495677554522375:True:=⟨⟩
theorem tw7971634056243342275:True:=⟨⟩
theorem tw15462441613668708837:True:=⟨⟩
theorem tw14304144578313219430:True:=⟨⟩
theorem tw10515258800536751640:True:=⟨⟩
theorem tw10269419257591706395:True:=⟨⟩
theorem tw16953466431062316443:True:=⟨⟩
theorem tw10303909587773606322:True:=⟨⟩
theorem tw6199289890289084820:True:=⟨⟩
theorem tw4623401541609128698:True:=⟨⟩
theorem tw3285278633620181761:True:=⟨⟩
theorem tw18223452076139876228:True:=⟨⟩
theorem tw15099738605911921690:True:=⟨⟩
theorem tw14582454622120758334:True:=⟨⟩
theorem tw348169688160450187:True:=⟨⟩
theorem tw12719865897610132730:True:=⟨⟩
theorem tw11186307106066138864:True:=⟨⟩
theorem tw6312497286873581022:True:=⟨⟩
theorem tw2243139723014752612:True:=⟨⟩
theorem tw18295609729812600181:True:=⟨⟩
theorem tw17055427385497629764:True:=⟨⟩
theorem tw11282830587882229237:True:=⟨⟩
theorem tw11070361778877462500:True:=⟨⟩
theorem tw788376200611942528:True:=⟨⟩
theorem tw8243492048050594446:True:=⟨⟩
theorem tw7281920969476928102:True:=⟨⟩
theorem tw625108144007066849:True:=⟨⟩
theorem tw2604875374704910990:True:=⟨⟩
theorem tw15844680608726261161:True:=⟨⟩
theorem tw12106078543160315177:True:=⟨⟩
theorem tw7056133254483500462:True:=⟨⟩
theorem tw6898695927769194479:True:=⟨⟩
theorem tw5575981460434687123:True:=⟨⟩
theorem tw5072892303466370955:True:=⟨⟩
theorem tw4474831745802074137:True:=⟨⟩
end PySem.W.Fast
set_option maxRecDepth 100000 in
set_option maxHeartbeats 0 in
theorem PySem.Challenge.cw_wakeorder_k66_best_in_their_order_holds : PySem.Challenge.rw_wakeorder_k66_best_in_their_order.Holds := by
 w_on;o_law;k_head;(case hw=>w_witness2)
 k_fill
 refine Ru.walk (l:=PySem.Challenge.rw_wakeorder_k66_best_in_their_order) rfl rfl (fun w h Y=>PySem.W.kIn_of Y) ?F
 case F=>
  intro w mg fa h KX G hmg;refine' Ru.fin_mk KX G hmg ?z
  case z=>
   constructor
   all_goals first|exact L2.dF KX G (J:=by intro _ _ _ _ _ _ us hl;rcases us with _|⟨_,_|⟨_,_|⟨_,_|⟨_,_|⟨_,_|⟨_,_|⟨_,us⟩⟩⟩⟩⟩⟩⟩<;>first|(simp at hl;done)|rfl)|exact PySem.W.mg_none_of KX G (by k_is)|exact ⟨_,mg_of KX G (by k_is)⟩|exact mg_of KX G (by k_is)|exact L2.mF (J:=by intro _ _ _ _ _ _ us hl;rcases us with _|⟨_,_|⟨_,_|⟨_,_|⟨_,_|⟨_,_|⟨_,_|⟨_,us⟩⟩⟩⟩⟩⟩⟩<;>first|(simp at hl;done)|rfl)|exact L2.kF KX G|exact L2.xF KX G|exact L2.xM KX G (L2.mF (J:=by intro _ _ _ _ _ _ us hl;rcases us with _|⟨_,_|⟨_,_|⟨_,_|⟨_,_|⟨_,_|⟨_,_|⟨_,us⟩⟩⟩⟩⟩⟩⟩<;>first|(simp at hl;done)|rfl))|exact L2.lF KX G|k_is|kernel_rfl|(constructor<;>first|k_is|kernel_rfl|rfl|decide +kernel)|(simp only [List.mem_cons,List.not_mem_nil,or_false,forall_eq_or_imp,forall_eq];repeat' constructor)<;>first|k_is|kernel_rfl
