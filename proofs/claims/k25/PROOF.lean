import PyProof.Rows.All
import KE.KRevIter
import PyProof.InstStoreFacts
import PyProof.ExcInit
import PyProof.IsiBase
import PyProof.ExcAttrAll.ValueError
import OpenK.KDescr
import KE.KIsAll
import PyProof.Rows.CatchOwn
import PyProof.RulesTry
import PyProof.RulesAs
import PyProof.RulesDel
import OpenK.KOwn
import PyProof.ExcBaseAll.ValueError
import PyProof.StationsW
import Wide.All
import OpenK.AllK
import Wide.FinOn
import Lean
import PyProof.EqAt
import PyProof.EqKinds
import PyProof.NeKinds
import PyProof.TupleCall
import PySem.Challenge.RW_wakeorder_k25_chains
set_option Elab.async false
set_option linter.all false
set_option maxRecDepth 100000
open PySem.W (lookIn plainOver takerIn specialIn keepIn takesIn kitOne kia_one callWith_K fnOf codeIn nsIn mg_of kitAny mg_none_of)
set_option hygiene false
set_option hygiene true
set_option hygiene false
local macro_rules
|`(tactic|show 'Ա')=>`(tactic|(
 obtain ⟨x', f1, g1⟩ := w1.atA h1
 obtain ⟨y', f2, g2⟩ := w2.atA h2
 obtain ⟨d1, k1, m1⟩ := r1.at f1
 obtain ⟨d2, k2, m2⟩ := r2.at f2
 have q := mr I hF ds j d1 k1 d2 (n := n) (A := A.in1) (d7 oa' k1) (d7 ob' k2) m1 m2 g1 g2 (by show A.units + 1 + n < cLine; omega)
 have e5 : gL ds es j = eqD d1 d2 := by simp only [gL, k1, k2]
 rw [e5]
 exact q))
|`(tactic|show 'Բ')=>`(tactic|(obtain ⟨l2, ys, e2, h2, r2⟩ := qb;subst e2;cases rb;obtain ⟨js, w2, p2, _⟩ := I.tuple (hF.tup h2)))
|`(tactic|show 'Գ')=>`(tactic|(obtain ⟨l1, xs, e1, h1, r1⟩ := qa;subst e1;cases ra;obtain ⟨is, w1, p1, _⟩ := I.tuple (hF.tup h1)))
|`(tactic|show 'Դ')=>`(tactic|(obtain ⟨l2, ys, e2, h2, r2⟩ := qb;subst e2;cases rb;obtain ⟨js, w2, p2, _⟩ := I.list (hF.lst h2)))
|`(tactic|show 'Ե')=>`(tactic|(obtain ⟨l1, xs, e1, h1, r1⟩ := qa;subst e1;cases ra;obtain ⟨is, w1, p1, _⟩ := I.list (hF.lst h1)))
|`(tactic|show 'Զ')=>`(tactic|(cases (show y = .int b from qb);obtain ⟨t2, rfl⟩ := rb))
|`(tactic|show 'Է')=>`(tactic|(cases (show y = .str b from qb);obtain ⟨t2, rfl⟩ := rb))
|`(tactic|show 'Ը')=>`(tactic|(cases (show x = .int a from qa);obtain ⟨t1, rfl⟩ := ra))
|`(tactic|show 'Թ')=>`(tactic|(cases (show x = .str a from qa);obtain ⟨t1, rfl⟩ := ra))
|`(tactic|show 'Ժ')=>`(tactic|(
 have oa' : hX ds n = true := by simpa only [okE] using oa
 have ob' : hX es n = true := by simpa only [okE] using ob))
local macro_rules
|`(tactic|show 'Ի')=>`(tactic|(obtain ⟨F, ρ, r, s, p⟩ := h))
|`(tactic|show 'Լ')=>`(tactic|(cases (show y = .bl b from qb);cases rb))
|`(tactic|show 'Խ')=>`(tactic|(cases (show x = .bl a from qa);cases ra))
|`(tactic|show 'Ծ')=>`(tactic|(cases (show x = .non from qa);cases ra))
|`(tactic|show 'Կ')=>`(tactic|(cases (show y = .non from qb);cases rb))
|`(tactic|show 'Հ')=>`(tactic|(obtain ⟨F, ρ, r, s, p⟩ := rd_L h;refine ⟨F, ρ, r, s, ?_⟩))
|`(tactic|show 'Ձ')=>`(tactic|(obtain ⟨oe, vs, he, hcl, hdx, hdt, h1⟩ := x.ob;have J := I.hand he hdt ap.na ap.fa;refine wpAny_handleBy_cons (codeAny_handlers_test (gy (X := X.hand a oe) J hg hB.mg ?_ hdb)) (by intro z; cases z)))
|`(tactic|show 'Ղ')=>`(tactic|(have z1 := w1.length;have z2 := w2.length;have y1 := r1.length;have y2 := r2.length))
|`(tactic|show 'Ճ')=>`(tactic|(intro X hP hw hK hc i pins s σ H E I hf st hg;subst hP hw hK))
|`(tactic|show 'Մ')=>`(tactic|(
 have ez : is.toArray.size = ds.length := by simp; omega
 have ez2 : js.toArray.size = es.length := by simp; omega
 rw [ez, ez2, sg _ (fun j a b h1 h2 => by simp only [gL, h1, h2])] at q))
local macro_rules
|`(tactic|show 'Յ')=>`(tactic|(subst hK;intro pins s σ H xs us Q I r h;obtain ⟨v, rfl, F, d, s1, q, p⟩ := h;obtain ⟨u, w, rfl, ru, rw'⟩ := r.two))
|`(tactic|show 'Ն')=>`(tactic|(intro pins s σ H x y v u Q I rx ry h))
|`(tactic|show 'Շ')=>`(tactic|(obtain ⟨z3, n, z4⟩ := z2;have ei : its = ys.map Value.ref := rD rv;subst ei;obtain ⟨oc, odd, odt, osl⟩ := ob;have z5 : oc = Value.type "tuple" := z3;have z6 : odt = .seq (ys.map Value.ref).toArray n := z4;subst z5 z6;exact PySem.W.kia_tup (oj FB Z) I.kIn J z1 e (fun z => nomatch z) fun tk => ⟨.bl b, H, I.tok tk, rfl, q⟩))
|`(tactic|show 'Ո')=>`(tactic|(
 refine set_plain X I Z.sa (x_open (s := { s with toks := s.toks + 1 }) X I Z fun b => ?_)
 obtain ⟨cd, hc, ho⟩ := any_some Z.cd
 rw [Bool.and_eq_true] at ho
 refine wpAny_bind (wpAny_pure (wpAny_bind (wpAny_bind (wpAny_loadPart he (wpAny_bind (Looks.here (s := { s with toks := s.toks + 1 }) (looks_clsIn X hc) ?_))))))
 rw [ho.2]))
|`(tactic|show 'Չ')=>`(tactic|(obtain ⟨FB, F, ρ, r, p⟩ := t))
|`(tactic|show 'Պ')=>`(tactic|(intro pins s σ H Q I h))
|`(tactic|show 'Ջ')=>`(tactic|(
 obtain ⟨it, fp, tn, J, H2, e, I2, T, st2, f2, tr⟩ := h2
 subst e
 refine thn (u9 hc I2 T st2 f2 ok hk hg hl ht he tr) fun acc s3 h3 => thn h3 fun cenv s4 h4 => codeAny_mono h4 fun r s5 hr => ?_
 obtain ⟨⟨fl, e1⟩, p, ys, H5, e2, I5, hp, q, ⟨m, hn⟩, c0, c1, c2, c3, c4⟩ := hr
 subst e1
 subst e2))
|`(tactic|show 'Ռ')=>`(tactic|(
 have ez : is.toArray.size = ds.length := by simp; omega
 rw [ez, aB.all_eq (F := F) _ hl (fun j a b h1 h2 => by simp only [gL, h1, h2])] at q))
|`(tactic|show 'Ս')=>`(tactic|(obtain ⟨l, xs, e1, h1, r1⟩ := q;obtain ⟨l2, ys, e2, h2, r2⟩ := r;rw [e1] at e2;cases e2))
|`(tactic|show 'Վ')=>`(tactic|(obtain ⟨l, xs, e2, _⟩ := r;rw [e1] at e2))
local macro_rules
|`(tactic|show 'Տ')=>`(tactic|(obtain ⟨l, xs, e2, _⟩ := q;rw [e1] at e2))
|`(tactic|show 'Ր')=>`(tactic|(obtain ⟨f0, f1, f2, f3, f4, f5⟩ := hf it (by simp)))
|`(tactic|show 'Ց')=>`(tactic|(rw [List.getElem?_set_self hi] at h;cases h;exact ⟨v, by rw [List.getElem?_set_self (by rw [<- r.len]; exact hi)], q⟩))
|`(tactic|show 'Ւ')=>`(tactic|(rw [e1] at p;intro vs F' H' st q;obtain ⟨F1, es1, s1, q1, z⟩ := p vs F' H' st q))
|`(tactic|show 'Փ')=>`(tactic|(intro pins s σ H D I h))
|`(tactic|show 'Ք')=>`(tactic|(intro pins s σ H xs us Q I r h;obtain ⟨a, i, is, rfl, hq, q⟩ := h;obtain ⟨u, rfl, ru⟩ := r.one;cases ru;obtain ⟨its, rv, p, hz⟩ := I.list hq;have hi := intsAre_of rv;obtain ⟨xs, e⟩ := hi.allInts.items))
|`(tactic|show 'Օ')=>`(tactic|(have hq := hw.qsl;have hf := hw.fll))
|`(tactic|show 'Ֆ')=>`(tactic|(obtain ⟨e, he, ha⟩ := has_D (A := X.A.in1) I s1 hc.2 hc.1 z rv qa rx hu1))
|`(tactic|show 'ա')=>`(tactic|(unfold iY atI ixN;rw [if_pos (by omega), if_pos (by simp <;> omega)]))
|`(tactic|show 'բ')=>`(tactic|(obtain ⟨t, rfl⟩ := rx))
local macro_rules
|`(tactic|show 'գ')=>`(tactic|(rw [show pQ f v ((k, x) :: r) = (if k = f then (k, v) :: r else (k, x) :: pQ f v r) from rfl]))
|`(tactic|show 'դ')=>`(tactic|(refine bC r s (fun e he => p.err (by unfold f1; rw [he]; rfl)) fun a ha x F1 H1 s1 q1 => ?_))
|`(tactic|show 'ե')=>`(tactic|(obtain ⟨ej, gj⟩ := hw.fAt hj;obtain ⟨ei, gi⟩ := hw.fAt hi;obtain ⟨r1, _⟩ := getR hw.rows gj.k0 gj.k1;obtain ⟨r2, _⟩ := getA hw.rows gj.k0 gj.k1 gi.k0 gi.k1))
|`(tactic|show 'զ')=>`(tactic|(obtain ⟨l, xs, e, t, z⟩ := qb;subst e;cases ry;have p' : aI X.K W own F H (if (okE a 40 && hX ds 40) = true then .ok (.bl (!ds.any fun d => eqD d a)) else stk) Q := p))
|`(tactic|show 'է')=>`(tactic|(obtain ⟨l, xs, e, t, z⟩ := qb;subst e;cases ry;have p' : aI X.K W own F H (if (okE a 40 && hX ds 40) = true then .ok (.bl (ds.any fun d => eqD d a)) else stk) Q := p))
|`(tactic|show 'ը')=>`(tactic|(obtain ⟨j, h1, h2, h3, h4, h5⟩ := vJ he;obtain ⟨w, ew, rw'⟩ := r.get h2;have hl := r.length;have hn := qv;have fin : EP X pins σ Q w s := ⟨z, H, I, rw', q⟩))
|`(tactic|show 'թ')=>`(tactic|(intro pins s σ H xs us Q I r h))
|`(tactic|show 'ժ')=>`(tactic|(
 have I1 : Inv X pins σ H { s with heap := h' } := I.turned (t' := s.toks) (fun b o hb e => (sb.2 b hb).trans e) f0 f1 f3 f4 f5
 obtain ⟨o, e, c, d⟩ := id st'))
|`(tactic|show 'ի')=>`(tactic|(obtain ⟨a, xs, e2, ha, z⟩ := r.w6 hi (iA hl);refine ⟨.ref a, e2, rp ha, ?_⟩))
|`(tactic|show 'լ')=>`(tactic|(obtain ⟨u, w, rfl, ru, rw'⟩ := r.two;cases (show u = Value.ref a from ru);have pa := (I.pin (a, oe) (List.mem_cons_self ..)).1;obtain ⟨vs, hdt⟩ := hd))
local macro_rules
|`(tactic|show 'խ')=>`(tactic|(
 rw [e] at e'; cases e'
 rw [d] at d'
 injection d' with d1 _
 have : its = its' := by simpa using congrArg Array.toList d1
 subst this
 exact r.inj r'))
|`(tactic|show 'ծ')=>`(tactic|(cases (show u = Value.ref a from rx)))
|`(tactic|show 'կ')=>`(tactic|(
 rw [e] at e'
 cases e'
 rw [d] at d'
 injection d' with d1 _
 have : i1 = i2 := by simpa using congrArg Array.toList d1
 subst this
 exact r1.inj r2))
|`(tactic|show 'հ')=>`(tactic|(intro value slice pins s σ H x y v u Q I rx ry h hs;obtain ⟨p, xs, i, z, rfl, rfl, hq, he, q⟩ := h;cases rx;obtain ⟨t, rfl⟩ := ry))
|`(tactic|show 'ձ')=>`(tactic|(obtain ⟨oc, od, kV, doc, pm, an, cdv, ct, osl, rfl, lk, hcd⟩ := F.ex))
|`(tactic|show 'ղ')=>`(tactic|(obtain ⟨its, rv, p, hz⟩ := I.list hq))
|`(tactic|show 'ճ')=>`(tactic|(rw [List.length_append, List.length_append, List.length_map, List.length_map, List.length_replicate, List.length_replicate, q.length]))
|`(tactic|show 'մ')=>`(tactic|(obtain ⟨a, ys, e1, t, r⟩ := q))
|`(tactic|show 'յ')=>`(tactic|(
 have e : b = it := by simpa using hb
 subst e
 obtain ⟨o, e, c, d⟩ := st
 exact ⟨o, e, fun v z => by rw [d] at z; cases z⟩))
|`(tactic|show 'ն')=>`(tactic|(have vD : PE (X.hand a oe) (.Name y p2) (tC (.ref D)) := fun pins s σ H Q I h => gy I hgD hD ⟨.ref D, H, I, rfl, h⟩ hd3))
local macro_rules
|`(tactic|show 'շ')=>`(tactic|(obtain ⟨F, a, b, s1, qa, qb, p⟩ := h;have hu1 : X.A.in1.units + 40 < cLine := by show X.A.units + 1 + 40 < cLine; omega))
|`(tactic|show 'ո')=>`(tactic|(have b4 : mro = Value.ref C' :: tl := hm;have b5 : l = [k0, k1, k2, k3, some (.builtin n), k5] := hs;subst b1 b2 b3 b4 b5))
|`(tactic|show 'չ')=>`(tactic|(
 have e : b = s1.heap.objs.size := by simpa using hb
 subst e
 exact I1.fpOk (Nat.le_refl _) (I1.hok.fresh (Nat.le_refl _))))
|`(tactic|show 'պ')=>`(tactic|(obtain ⟨c1, c2, mro, c4, c5, c6, c7, c8, c9, c10, del⟩ := cd;obtain ⟨l⟩ := sl;simp only [Bool.and_eq_true] at q))
|`(tactic|show 'ջ')=>`(tactic|(rw [List.getElem?_set_ne hij] at e1 e3;rw [List.getElem?_set_ne hik] at e2 e4;exact r.ap j k ds es a j1 k1 e1 e2 e3 e4))
|`(tactic|show 'ռ')=>`(tactic|(
 have k1 : -4611686018427387904 <= (many : Int) := by omega
 have k2 : (many : Int) < 4611686018427387904 := by omega))
|`(tactic|show 'ս')=>`(tactic|(have e' : (if ds.length = is.length then Except.ok (kT is ds ρ) else Except.error Err.stuck) = Except.ok ρ' := e))
|`(tactic|show 'վ')=>`(tactic|(subst e3;have e4 : ds = es := lF I hF ds es r1 r2 oa' ob';subst e4;rw [sh (n := n + 1) oa];exact SeqAt.EqAt.same _))
|`(tactic|show 'տ')=>`(tactic|(have hpl : ps.length <= N.length := by have := congrArg List.length S.pre; rw [List.length_take] at this; omega))
|`(tactic|show 'ր')=>`(tactic|(refine bC r s (fun e he => ?_) fun a ha x F1 H1 s1 q1 => ?_))
local macro_rules
|`(tactic|show 'ց')=>`(tactic|(refine ⟨F, ρ, r, s, ?_⟩))
|`(tactic|show 'ւ')=>`(tactic|(have := st (i + 1) d' ρ (by simpa using he) (by rw [show k + (i + 1) = k + 1 + i by omega]; exact hp)))
|`(tactic|show 'փ')=>`(tactic|(refine ⟨FB, F, ρ, r, ?_⟩;have p : kM K W ro F0 H0 FB OL O' D (noX (g ρ)) := p;unfold kM at p ⊢))
|`(tactic|show 'ք')=>`(tactic|(rw [hns] at ha;obtain ⟨j, hj, rfl⟩ := mem_getD ha;rw [List.length_map, Array.length_toList] at hj))
|`(tactic|show 'օ')=>`(tactic|(refine lZ r s (fun e he => ?_) fun b hb F1 H1 s1 => ?_))
|`(tactic|show 'ֆ')=>`(tactic|(obtain ⟨F, a, b, s, qa, qb, p⟩ := h))
|`(tactic|show 'א')=>`(tactic|(have e2 : v = .int b := r;rw [e1] at e2))
|`(tactic|show 'ב')=>`(tactic|(have e2 : v = .str b := r;rw [e1] at e2))
set_option hygiene true
namespace L2
open PySem PySem.Spec PyProof.Rows
noncomputable abbrev Key := Sum Int Str
noncomputable def keyIs : Key -> Value -> Bool
 | .inl k, v => Value.isInt k v
 | .inr x, v => Value.isStrOf x v
noncomputable def keyH (w : World) : Key -> Int
 | .inl k => hashInt k
 | .inr x => hashStr w x
theorem cg : ∀ {k : Key} {v : Value}, keyIs k v = true -> (∃ i t, k = Sum.inl i /\ v = Value.int i t) \/ (∃ x t, k = Sum.inr x /\ v = Value.str x t)
 | .inl i, v, h => by
  obtain ⟨t, e⟩ := Value.isInt_shape (k := i) (v := v) h
  exact .inl ⟨i, t, rfl, e⟩
 | .inr x, v, h => by
  obtain ⟨t, e⟩ := Value.isStrOf_shape (x := x) (v := v) h
  exact .inr ⟨x, t, rfl, e⟩
theorem key_ll (a b : Int) : decide ((Sum.inl a : Key) = Sum.inl b) = (a == b) := by
 by_cases e : a = b
 ·subst e; simp
 ·have h : ¬ (Sum.inl a : Key) = Sum.inl b := fun q => e (Sum.inl.inj q)
  rw [decide_eq_false h]
  exact (beq_eq_false_iff_ne.mpr e).symm
theorem key_rr (a b : Str) : decide ((Sum.inr a : Key) = Sum.inr b) = decide (a = b) := by
 by_cases e : a = b
 ·subst e; simp
 ·have h : ¬ (Sum.inr a : Key) = Sum.inr b := fun q => e (Sum.inr.inj q)
  rw [decide_eq_false h, decide_eq_false e]
theorem key_lr (a : Int) (b : Str) : decide ((Sum.inl a : Key) = Sum.inr b) = false := decide_eq_false (fun q => nomatch q)
theorem key_rl (a : Str) (b : Int) : decide ((Sum.inr a : Key) = Sum.inl b) = false := decide_eq_false (fun q => nomatch q)
noncomputable def ve (prog : Program) (w : World) : PySem.KeyKind prog w Key where
 is := keyIs
 hash := keyH w
 inj := fun v a b ha hb => by
  rcases cg ha with ⟨i, t, rfl, rfl⟩ | ⟨x, t, rfl, rfl⟩
  ·rcases cg hb with ⟨j, u, rfl, e⟩ | ⟨y, u, rfl, e⟩
   ·injection e with e1 _; rw [e1]
   ·exact nomatch e
  ·rcases cg hb with ⟨j, u, rfl, e⟩ | ⟨y, u, rfl, e⟩
   ·exact nomatch e
   ·injection e with e1 _; rw [e1]
 byValue := fun k v h => by
  rcases cg h with ⟨i, t, rfl, rfl⟩ | ⟨x, t, rfl, rfl⟩ <;> rfl
 pyHash := fun hv h => by
  rcases cg hv with ⟨i, t, rfl, rfl⟩ | ⟨x, t, rfl, rfl⟩
  ·exact wpAny_pyHash_int h
  ·exact wpAny_pyHash_str h
 eqBool := fun hu hv h => by
  rcases cg hu with ⟨i, t, rfl, rfl⟩ | ⟨x, t, rfl, rfl⟩
  ·rcases cg hv with ⟨j, u, rfl, rfl⟩ | ⟨y, u, rfl, rfl⟩
   ·rw [key_ll] at h; exact wpAny_eqBool_int h
   ·rw [key_lr] at h; exact SeqAt.EqAt.int_str i t y u _ _ _ _ h
  ·rcases cg hv with ⟨j, u, rfl, rfl⟩ | ⟨y, u, rfl, rfl⟩
   ·rw [key_rl] at h; exact SeqAt.EqAt.str_int x t j u _ _ _ _ h
   ·rw [key_rr] at h; exact wpAny_eqBool_str h
 «strs» := fun k x t v h => by
  rcases cg h with ⟨i, u, rfl, e⟩ | ⟨y, u, rfl, e⟩
  ·exact nomatch e
  ·injection e with e1 _
   subst e1
   cases v <;> rfl
end L2
namespace L2
open PySem PySem.Spec PyProof.Rows
inductive V where
 | non | bl (b : Bool) | int (i : Int) | str (x : Str) | byt (b : Array UInt8) | flt (b : UInt64) | ref (a : Addr) | ty (n : String)
 deriving DecidableEq
noncomputable def RelV : V -> Value -> Prop
 | .non, u => u = Value.none
 | .bl b, u => u = Value.bool b
 | .int i, u => ∃ t, u = Value.int i t
 | .str x, u => ∃ t, u = Value.str x t
 | .byt b, u => ∃ t, u = Value.bytes b t
 | .flt b, u => ∃ t, u = Value.float b t
 | .ref a, u => u = Value.ref a
 | .ty n, u => u = Value.type n
noncomputable abbrev Vals : List V -> List Value -> Prop := Paired RelV
theorem Vals.length {xs : List V} {us : List Value} (r : Vals xs us) : xs.length = us.length := Paired.length r
theorem Vals.get : ∀ {xs : List V} {us : List Value} {i : Nat} {x : V}, Vals xs us -> xs[i]? = some x -> ∃ u, us[i]? = some u /\ RelV x u
 | _, _, _, _, .nil, e => by simp at e
 | _, _, 0, _, .cons r _, e => by simp at e; subst e; exact ⟨_, rfl, r⟩
 | _, _, i + 1, x, .cons _ t, e => by
  obtain ⟨u, h1, h2⟩ := Vals.get (i := i) (x := x) t (by simpa using e)
  exact ⟨u, by simpa using h1, h2⟩
theorem Vals.set {x : V} {u : Value} (r : RelV x u) : ∀ {xs : List V} {us : List Value} (i : Nat), Vals xs us -> Vals (xs.set i x) (us.set i u)
 | _, _, _, .nil => .nil
 | _, _, 0, .cons _ t => .cons r t
 | _, _, i + 1, .cons q t => .cons q (Vals.set r i t)
theorem Vals.append : ∀ {xs ys : List V} {us ws : List Value}, Vals xs us -> Vals ys ws -> Vals (xs ++ ys) (us ++ ws)
 | _, _, _, _, .nil, s => s
 | _, _, _, _, .cons r t, s => .cons r (Vals.append t s)
theorem Vals.take : ∀ {xs : List V} {us : List Value} (n : Nat), Vals xs us -> Vals (xs.take n) (us.take n)
 | _, _, 0, _ => .nil
 | _, _, _ + 1, .nil => .nil
 | _, _, n + 1, .cons r t => .cons r (Vals.take n t)
theorem Vals.drop : ∀ {xs : List V} {us : List Value} (n : Nat), Vals xs us -> Vals (xs.drop n) (us.drop n)
 | _, _, 0, r => r
 | _, _, _ + 1, .nil => .nil
 | _, _, n + 1, .cons _ t => Vals.drop n t
noncomputable def ui : Option V -> Option Value -> Prop
 | some v, some u => RelV v u
 | none, none => True
 | _, _ => False
noncomputable def KV {κ : Type} : List (κ × V) -> List (κ × Value) -> Prop := Paired fun (p : κ × V) (q : κ × Value) => p.1 = q.1 /\ RelV p.2 q.2
noncomputable def kV : Key -> V
 | .inl i => .int i
 | .inr x => .str x
inductive HO where
  | lst (xs : List V)
  | tup (xs : List V)
  | dK (kvs : List (Key × V)) | dT (kvs : List (List Key × V))
  | set (S : Int -> Bool) (n : Nat)
  | ins (C dx : Addr) (fs : List (Str × V))
  | own (x : Addr)
  | xd (fs : List (Str × V))
  | met (f x : Addr)
  | rng (lo hi : Int)
  | frz (o : Obj) (u : HO)
  | tbl (ps : Array Value)
  | ext (φ : Heap -> Prop)
noncomputable abbrev Hp := Addr -> Option HO
noncomputable def upd (H : Hp) (a : Addr) (o : HO) : Hp := fun b => if b = a then some o else H b
theorem av {H : Hp} {a : Addr} {o : HO} : upd H a o a = some o := by unfold upd; rw [if_pos rfl]
theorem au {H : Hp} {a b : Addr} {o : HO} (h : b ≠ a) : upd H a o b = H b := by unfold upd; rw [if_neg h]
theorem aN {H : Hp} {a b : Addr} {o : HO} (h : H a = some o) (h' : H b = none) : a ≠ b := by
 intro e; subst e; rw [h] at h'; cases h'
section
variable (P : Program) (w : World)
noncomputable def e6 (H : Hp) (h : Heap) (a : Addr) : HO -> Prop
 | .lst xs => xs.length <= sizeLine /\ ∃ (its : List Value) (n : Nat), Vals xs its /\ h.get? a = some { cls := .type "list", data := .seq its.toArray n }
 | .tup xs => xs.length <= sizeLine /\ ∃ its : List Value, Vals xs its /\ IsTup h a its.toArray
 | .dK kvs => kvs.length <= sizeLine /\ (a == sysModules) = false /\ ∃ vs, KV kvs vs /\ h.DictOf (ve P w) a vs
 | .dT kvs => kvs.length <= sizeLine /\ (a == sysModules) = false /\ ∃ xs : List (List Key × Addr × Value),
   Paired (fun (p : List Key × V) (q : List Key × Addr × Value) => p.1 = q.1 /\ H q.2.1 = some (.tup (p.1.map kV)) /\ RelV p.2 q.2.2) kvs xs /\
   ∃ o es ep, h.get? a = some o /\ o.ExactDict /\ o.data = .dict es ep /\ es.toList = xs.map (entryOfKey (tupleKind (ve P w))) /\ (xs.map (·.1)).Nodup
 | .set S n => h.SetOf (intKind P w) a S n
 | .ins C dx fs => H dx = some (.own a) /\ fs.length <= 1000 /\ dx ≠ a /\ h.get? a = some (PySem.W.instObj C dx) /\
   ∃ mA, h.Ns1 dx mA /\ (∀ f, ui (fs.lookup f) (mA f)) /\ PySem.Within mA (fs.map (·.1))
 | .own _ => ∃ o, h.get? a = some o
 | .xd fs => ∃ mA, h.Ns1 a mA /\ ∀ f, ui (fs.lookup f) (mA f)
 | .rng lo hi => ∃ t u v, h.get? a = some { cls := .type "range", data := .fields #[.int lo t, .int hi u, .int 1 v] }
 | .frz o u => h.get? a = some o /\ e6 H h a u
 | .tbl ps => h.get? a = some { cls := .none, data := .fields ps }
 | .met f x => h.get? a = some (PySem.W.methodObj (.ref f) (.ref x))
 | .ext φ => φ h /\ (∃ o, h.get? a = some o) /\ ∀ h1 h2 : Heap, φ h1 -> (∀ o, h1.get? a = some o -> h2.get? a = some o) -> φ h2
noncomputable def HOk (H : Hp) (h : Heap) : Prop := ∀ a o, H a = some o -> e6 P w H h a o
end
section
variable {P : Program} {w : World} {H H' : Hp} {h h' : Heap} {a : Addr} {o : HO}
theorem e6.lt (x : e6 P w H h a o) : a < h.objs.size := by
 cases o with
 | lst xs => obtain ⟨_, _, _, _, e⟩ := x; exact Heap.lt_size e
 | tup xs => obtain ⟨_, _, _, p⟩ := x; exact p.lt
 | dK kvs => obtain ⟨_, _, _, _, o, _, _, e, _⟩ := x; exact Heap.lt_size e
 | dT kvs => obtain ⟨_, _, _, _, o, _, _, e, _⟩ := x; exact Heap.lt_size e
 | set S n => obtain ⟨o, _, _, _, e, _⟩ := x; exact Heap.lt_size e
 | ins C dx fs => obtain ⟨_, _, _, e, _⟩ := x; exact Heap.lt_size e
 | own y => obtain ⟨_, e⟩ := x; exact Heap.lt_size e
 | xd fs => obtain ⟨_, ⟨_, _, _, e, _⟩, _⟩ := x; exact Heap.lt_size e
 | rng lo hi => obtain ⟨_, _, _, e⟩ := x; exact Heap.lt_size e
 | frz ob u => obtain ⟨e, _⟩ := x; exact Heap.lt_size e
 | tbl ps => exact Heap.lt_size (show h.get? a = some _ from x)
 | met f y => exact Heap.lt_size (show h.get? a = some _ from x)
 | ext φ => obtain ⟨_, ⟨_, e⟩, _⟩ := x; exact Heap.lt_size e
theorem Paired.mapP {α β : Type} {F G : α -> β -> Prop} : ∀ {l₁ : List α} {l₂ : List β}, Paired F l₁ l₂ -> (∀ a b, F a b -> G a b) -> Paired G l₁ l₂
 | _, _, .nil, _ => .nil
 | _, _, .cons r t, f => .cons (f _ _ r) (Paired.mapP t f)
theorem e6.uP (x : e6 P w H h a o) (k : ∀ b u, (b = a \/ H b = some (.own a)) -> h.get? b = some u -> h'.get? b = some u)
  (ho : ∀ b, H b = some (.own a) -> H' b = some (.own a)) (ht : ∀ b xs, H b = some (.tup xs) -> H' b = some (.tup xs)) : e6 P w H' h' a o := by
 induction o with
 | lst xs => obtain ⟨z, its, n, r, e⟩ := x; exact ⟨z, its, n, r, k _ _ (.inl rfl) e⟩
 | tup xs => obtain ⟨z, its, r, ob, e, c⟩ := x; exact ⟨z, its, r, ob, k _ _ (.inl rfl) e, c⟩
 | dK kvs => obtain ⟨z, y, vs, r, ob, es, ep, e, c⟩ := x; exact ⟨z, y, vs, r, ob, es, ep, k _ _ (.inl rfl) e, c⟩
 | dT kvs =>
  obtain ⟨z, y, xs, r, ob, es, ep, e, c⟩ := x
  exact ⟨z, y, xs, Paired.mapP r fun p q z => ⟨z.1, ht _ _ z.2.1, z.2.2⟩, ob, es, ep, k _ _ (.inl rfl) e, c⟩
 | set S n => obtain ⟨ob, es, ep, t, e, c⟩ := x; exact ⟨ob, es, ep, t, k _ _ (.inl rfl) e, c⟩
 | ins C dx fs =>
  obtain ⟨d, z, ne, e, mA, ⟨od, es, ep, e2, c⟩, r⟩ := x
  exact ⟨ho _ d, z, ne, k _ _ (.inl rfl) e, mA, ⟨od, es, ep, k _ _ (.inr d) e2, c⟩, r⟩
 | own y => obtain ⟨ob, e⟩ := x; exact ⟨ob, k _ _ (.inl rfl) e⟩
 | xd fs => obtain ⟨mA, ⟨od, es, ep, e, c⟩, r⟩ := x; exact ⟨mA, ⟨od, es, ep, k _ _ (.inl rfl) e, c⟩, r⟩
 | rng lo hi => obtain ⟨t, u, v, e⟩ := x; exact ⟨t, u, v, k _ _ (.inl rfl) e⟩
 | frz ob u ih => obtain ⟨e, q⟩ := x; exact ⟨k _ _ (.inl rfl) e, ih q⟩
 | tbl ps =>
  have e : h.get? a = some { cls := .none, data := .fields ps } := x
  show h'.get? a = some { cls := .none, data := .fields ps }
  exact k a _ (.inl rfl) e
 | met f y =>
  have e : h.get? a = some (PySem.W.methodObj (.ref f) (.ref y)) := x
  show h'.get? a = some (PySem.W.methodObj (.ref f) (.ref y))
  exact k a _ (.inl rfl) e
 | ext φ => obtain ⟨p, ⟨o, e⟩, st⟩ := x; exact ⟨st _ _ p fun o q => k _ _ (.inl rfl) q, ⟨o, k _ _ (.inl rfl) e⟩, st⟩
theorem HOk.lt (x : HOk P w H h) (e : H a = some o) : a < h.objs.size := (x a o e).lt
theorem HOk.fresh (x : HOk P w H h) (e : h.objs.size <= a) : H a = none := by
 cases q : H a with
 | none => rfl
 | some u => exact absurd (Nat.lt_of_lt_of_le (x.lt q) e) (Nat.lt_irrefl _)
theorem HOk.kept (x : HOk P w H h) (k : ∀ b u, h.get? b = some u -> h'.get? b = some u) : HOk P w H h' := fun a o e =>
 (x a o e).uP (fun b u _ q => k b u q) (fun _ q => q) fun _ _ q => q
theorem HOk.laid (x : HOk P w H h) (k : ∀ b u, h.get? b = some u -> h'.get? b = some u) (hp : h.objs.size <= a) (new : e6 P w (upd H a o) h' a o) : HOk P w (upd H a o) h' := fun b u e => by
 have hn := x.fresh hp
 by_cases hb : b = a
 ·subst hb; rw [av] at e; cases e; exact new
 ·rw [au hb] at e
  exact (x b u e).uP (fun c v _ q => k c v q) (fun c q => by rw [au (aN q hn)]; exact q) fun c xs q => by rw [au (aN q hn)]; exact q
end
noncomputable def Rd (H : Hp) (a : Addr) (u : HO) : Prop := H a = some u \/ ∃ o, H a = some (.frz o u)
theorem Rd.ok {P : Program} {w : World} {H : Hp} {h : Heap} {a : Addr} {u : HO} (r : Rd H a u) (x : HOk P w H h) : e6 P w H h a u := by
 rcases r with r | ⟨o, r⟩
 ·exact x a u r
 ·obtain ⟨_, q⟩ := x a _ r
  exact q
noncomputable def Mut : Option HO -> Prop
 | some (.lst _) => True
 | some (.dK _) => True
 | some (.dT _) => True
 | some (.set _ _) => True
 | some (.ins _ _ _) => True
 | some (.ext _) => True
 | _ => False
section
variable {P : Program} {w : World} {H : Hp} {h h' : Heap} {x e : Addr} {o' : HO}
theorem HOk.write (ok : HOk P w H h) (mu : Mut (H x)) (he : e = x \/ H e = some (.own x)) (k : ∀ b u, b ≠ e -> h.get? b = some u -> h'.get? b = some u) (heo : ∃ u, h'.get? e = some u)
  (new : e6 P w (upd H x o') h' x o') : HOk P w (upd H x o') h' := fun b u q => by
 have nown : ∀ c y, H c = some (.own y) -> c ≠ x := fun c y r z => by subst z; rw [r] at mu; exact mu
 have ntup : ∀ c xs, H c = some (.tup xs) -> c ≠ x := fun c xs r z => by subst z; rw [r] at mu; exact mu
 by_cases hb : b = x
 ·subst hb; rw [av] at q; cases q; exact new
 ·rw [au hb] at q
  by_cases hbe : b = e
  ·have q' : H b = some (.own x) := by
    rcases he with z | z
    ·exact absurd (hbe.trans z) hb
    ·rw [hbe]; exact z
   rw [q] at q'; cases q'
   obtain ⟨v, hv⟩ := heo
   exact ⟨v, by rw [hbe]; exact hv⟩
  ·refine (ok b u q).uP (fun c v hc r => k c v ?_ r) (fun c r => by rw [au (nown c b r)]; exact r) fun c xs r => by rw [au (ntup c xs r)]; exact r
   rcases hc with rfl | hc
   ·exact hbe
   ·rintro rfl
    rcases he with z | z
    ·exact nown c b hc z
    ·rw [hc] at z; cases z; exact hb rfl
end
structure Un (fs ex : List Addr) (H H' : Hp) (h h' : Heap) : Prop where
 keep : ∀ b o, h.get? b = some o -> H b = none -> b ∉ fs -> b ∉ ex -> h'.get? b = some o
 slot : ∀ b o, h.get? b = some o -> H b = none -> b ∈ fs -> b ∉ ex -> ∃ sl, h'.get? b = some { o with slots := sl }
 free : ∀ b o, h.get? b = some o -> H b = none -> b ∉ ex -> H' b = none
 there : ∀ b o, h.get? b = some o -> b ∉ ex -> ∃ o', h'.get? b = some o'
 tups : ∀ b xs, H b = some (.tup xs) -> H' b = some (.tup xs)
 frzs : ∀ b o u, H b = some (.frz o u) -> H' b = some (.frz o u)
 tbls : ∀ b ps, H b = some (.tbl ps) -> ∃ more, H' b = some (.tbl (ps ++ more))
section
variable {fs fs' ex ex' : List Addr} {H H1 H2 : Hp} {h h1 h2 h' : Heap} {a x e : Addr} {o : HO}
theorem Un.any (u : Un fs ex H H1 h h1) {b : Addr} {ob : Obj} (q : h.get? b = some ob) (n : H b = none) (hx : b ∉ ex) : ∃ sl, h1.get? b = some { ob with slots := sl } := by
 by_cases hb : b ∈ fs
 ·exact u.slot b ob q n hb hx
 ·exact ⟨ob.slots, u.keep b ob q n hb hx⟩
theorem Un.trans (a : Un fs ex H H1 h h1) (b : Un fs ex H1 H2 h1 h2) : Un fs ex H H2 h h2 where
 keep := fun c ob q n hc hx => b.keep c ob (a.keep c ob q n hc hx) (a.free c ob q n hx) hc hx
 slot := fun c ob q n hc hx => by
  obtain ⟨sl, e1⟩ := a.slot c ob q n hc hx
  obtain ⟨sl', e2⟩ := b.slot c _ e1 (a.free c ob q n hx) hc hx
  exact ⟨sl', e2⟩
 free := fun c ob q n hx => by
  obtain ⟨o', e1⟩ := a.there c ob q hx
  exact b.free c o' e1 (a.free c ob q n hx) hx
 there := fun c ob q hx => by
  obtain ⟨o', e1⟩ := a.there c ob q hx
  exact b.there c o' e1 hx
 tups := fun c xs q => b.tups c xs (a.tups c xs q)
 frzs := fun c ob xs q => b.frzs c ob xs (a.frzs c ob xs q)
 tbls := fun c ps q => by
  obtain ⟨m1, e1⟩ := a.tbls c ps q
  obtain ⟨m2, e2⟩ := b.tbls c _ e1
  exact ⟨m1 ++ m2, by rw [e2, Array.append_assoc]⟩
theorem Un.kept (k : ∀ b u, h.get? b = some u -> h'.get? b = some u) : Un fs ex H H h h' :=
 ⟨fun b ob q _ _ _ => k b ob q, fun b ob q _ _ _ => ⟨ob.slots, k b ob q⟩, fun _ _ _ n _ => n, fun b ob q _ => ⟨ob, k b ob q⟩, fun _ _ q => q, fun _ _ _ q => q, fun _ ps q => ⟨#[], by rw [q]; simp⟩⟩
theorem Un.refl : Un fs ex H H h h := Un.kept fun _ _ q => q
theorem Un.laid (k : ∀ b u, h.get? b = some u -> h'.get? b = some u) (hp : h.objs.size <= a) (hn : H a = none) : Un fs ex H (upd H a o) h h' where
 keep := fun b u q _ _ _ => k b u q
 slot := fun b u q _ _ _ => ⟨u.slots, k b u q⟩
 free := fun b u q n _ => by rw [au (Nat.ne_of_lt (Nat.lt_of_lt_of_le (Heap.lt_size q) hp))]; exact n
 there := fun b u q _ => ⟨u, k b u q⟩
 tups := fun b xs q => by rw [au (aN q hn)]; exact q
 frzs := fun b u xs q => by rw [au (aN q hn)]; exact q
 tbls := fun b ps q => ⟨#[], by rw [au (aN q hn), q]; simp⟩
theorem Un.write (mu : Mut (H x)) (he : e = x \/ H e = some (.own x)) (k : ∀ b u, b ≠ e -> h.get? b = some u -> h'.get? b = some u) (heo : ∃ u, h'.get? e = some u) : Un fs ex H (upd H x o) h h' := by
 have hx : ∀ b, H b = none -> b ≠ x := fun b n z => by subst z; rw [n] at mu; exact mu
 have hb : ∀ b, H b = none -> b ≠ e := fun b n z => by
  subst z
  rcases he with r | r
  ·exact hx b n r
  ·rw [n] at r; cases r
 have hm : ∀ b u, H b = some u -> ¬ Mut (some u) -> b ≠ x := fun b u q nm z => by subst z; rw [q] at mu; exact nm mu
 refine ⟨fun b u q n _ _ => k b u (hb b n) q, fun b u q n _ _ => ⟨u.slots, k b u (hb b n) q⟩, fun b u q n _ => by rw [au (hx b n)]; exact n, fun b u q _ => ?_,
  fun b xs q => by rw [au (hm b _ q fun z => z)]; exact q, fun b u xs q => by rw [au (hm b _ q fun z => z)]; exact q, fun b ps q => ⟨#[], by rw [au (hm b _ q fun z => z), q]; simp⟩⟩
 by_cases hbe : b = e
 ·subst hbe; exact heo
 ·exact ⟨u, k b u hbe q⟩
end
noncomputable def trk (h : Heap) (H : Hp) : List Addr := (List.range h.objs.size).filter fun a => (H a).isSome
noncomputable def hidT (h : Heap) (H : Hp) : Heap := PySem.W.hideAll h (trk h H)
theorem yY (h : Heap) (H : Hp) : (hidT h H).objs.size = h.objs.size := PySem.W.hideAll_size _ _
theorem hidT_get {h : Heap} {H : Hp} {b : Addr} {o : Obj} (e : h.get? b = some o) (n : H b = none) : (hidT h H).get? b = some o :=
 PySem.W.hideAll_get _ e fun hm => by
  have q : (H b).isSome = true := (List.mem_filter.mp hm).2
  rw [n] at q; simp at q
theorem of_hidT {h : Heap} {H : Hp} {b : Addr} {o : Obj} (e : (hidT h H).get? b = some o) : h.get? b = some o /\ H b = none := by
 have e' : h.get? b = some o := PySem.W.of_hideAll (trk h H) e
 refine ⟨e', ?_⟩
 cases q : H b with
 | none => rfl
 | some x =>
  have hm : b ∈ trk h H := List.mem_filter.mpr ⟨List.mem_range.mpr (Heap.lt_size e'), by simp [q]⟩
  have z : (hidT h H).get? b = none := PySem.W.hideAll_none (trk h H) hm
  rw [z] at e; cases e
end L2
namespace L2
open PySem PySem.Spec PyProof.Rows
structure Mod (K : PySem.W.Frag) (mg : Str -> Option Value) (base : Heap) : Prop where
 kin : K.In base
 glob : base.Ns mainGlobals mg
 blt : ∃ mb, base.Ns builtinsNs mb /\ ∀ x : Str, x ≠ "__name__" -> mb x = bootBuiltins x
 nolimit : base.NoLimit
structure Cx where
 prog : Program
 w : World
 K : PySem.W.Frag
 mg : Str -> Option Value
 base : Heap
 A : Around
 N : List Str
 s₀ : Shared
 H₀ : Hp
 env : Env
 outer : List Env
 stack : List Env
 ex : List Addr
 fn : Str -> Bool
 calm : Bool
 pn : List (Addr × Obj)
 xe : Value -> Shared -> Prop
noncomputable def frs (l : List Env) : List Addr := l.filterMap (·.frame)
noncomputable abbrev Cx.fs (X : Cx) : List Addr := frs X.outer
noncomputable def Vis (sc : Scope) (x : Str) : Prop := sc.names.lookup x = some .local \/ sc.names.lookup x = some .cell \/ sc.names.lookup x = some .free
noncomputable def Loc (sc : Scope) (x : Str) : Prop := sc.names.lookup x = some .local \/ sc.names.lookup x = some .cell
noncomputable def Look (env : Env) (h : Heap) (m : Str -> Option Value) (x : Str) (u : Value) : Prop :=
 (env.kindOf x = some .local /\ m x = some u) \/ ((env.kindOf x = some .cell \/ env.kindOf x = some .free) /\ ∃ c, env.cells.lookup x = some c /\ h.IsCell c (some u))
structure Cx.Ok (X : Cx) : Prop where
 mod : Mod X.K X.mg X.base
 kind : X.env.scope.kind = .function
 glob : X.env.globals = mainGlobals
 blt : X.env.builtins = builtinsNs
 above : X.s₀.heap.objs.size <= X.env.locals
 inj : ∀ x y c, X.env.cells.lookup x = some c -> X.env.cells.lookup y = some c -> x = y
 has : ∀ x, (X.env.kindOf x = some .cell \/ X.env.kindOf x = some .free) -> ∃ c, X.env.cells.lookup x = some c
 cab : ∀ x c, X.fn x = true -> X.env.cells.lookup x = some c -> X.s₀.heap.objs.size <= c
 hd : X.calm = true -> X.A.handled = none
 frames : X.A.frames = some X.stack
 stk : X.stack = X.outer \/ (X.stack = X.env :: X.outer /\ X.env.frame = some X.env.locals)
 exf : ∀ b ∈ X.ex, b ≠ X.env.locals /\ ∀ x c, X.env.cells.lookup x = some c -> c ≠ b
 bs : ∀ b o, X.base.get? b = some o -> X.s₀.heap.get? b = some o /\ X.H₀ b = none
 bsz : X.base.objs.size <= X.s₀.heap.objs.size
 noex : ∀ b o, X.base.get? b = some o -> b ∉ X.ex
 exfs : ∀ b ∈ X.ex, b ∉ X.fs
 sP : X.s₀.heap.FunFrames X.base X.outer
 frf : ∀ b ∈ X.fs, X.H₀ b = none
structure Inv (X : Cx) (pins : List (Addr × Obj)) (σ : List (Option V)) (H : Hp) (s : Shared) : Prop where
 ok : X.Ok
 os : s.os = X.s₀.os
 bare : AllBare s.gens
 base : Un X.fs X.ex X.H₀ H X.s₀.heap s.heap
 loc : ∃ m, s.heap.Ns X.env.locals m /\ ∀ (i : Nat) (x : Str) (v : V), X.N[i]? = some x -> σ[i]? = some (some v) -> Vis X.env.scope x -> ∃ u, RelV v u /\ Look X.env s.heap m x u
 cell : ∀ x c, X.env.cells.lookup x = some c -> ∃ v, s.heap.IsCell c v
 free : H X.env.locals = none
 freeC : ∀ x c, X.env.cells.lookup x = some c -> H c = none
 pin : ∀ p ∈ X.pn ++ pins, s.heap.get? p.1 = some p.2 /\ H p.1 = none /\ p.1 ≠ X.env.locals /\ p.1 ∉ X.fs /\ ∀ v, p.2.data ≠ .cell v
 hok : HOk X.prog X.w H s.heap
 len : σ.length = X.N.length
section
variable {X : Cx} {pins : List (Addr × Obj)} {σ : List (Option V)} {H H' : Hp} {s : Shared} {h' : Heap}
theorem Cx.Ok.nofr (ok : X.Ok) {b : Addr} {o : Obj} (e : X.base.get? b = some o) : b ∉ X.fs := fun hb => by
 have := (ok.sP.mem hb).1
 rw [e] at this; cases this
theorem Inv.bs (I : Inv X pins σ H s) : ∀ b o, X.base.get? b = some o -> s.heap.get? b = some o /\ H b = none := fun b o e =>
 ⟨I.base.keep b o (I.ok.bs b o e).1 (I.ok.bs b o e).2 (I.ok.nofr e) (I.ok.noex b o e), I.base.free b o (I.ok.bs b o e).1 (I.ok.bs b o e).2 (I.ok.noex b o e)⟩
theorem Inv.bk (I : Inv X pins σ H s) : ∀ b o, X.base.get? b = some o -> s.heap.get? b = some o := fun b o e => (I.bs b o e).1
theorem Inv.mod (I : Inv X pins σ H s) : Mod X.K X.mg X.base := I.ok.mod
theorem Inv.kIn (I : Inv X pins σ H s) : X.K.In s.heap := I.ok.mod.kin.keeps I.bk
theorem Inv.lt (I : Inv X pins σ H s) : X.env.locals < s.heap.objs.size := let ⟨_, hn, _⟩ := I.loc; hn.lt
theorem Inv.sz (I : Inv X pins σ H s) : X.s₀.heap.objs.size <= s.heap.objs.size := Nat.le_trans I.ok.above (Nat.le_of_lt I.lt)
theorem Inv.nofs (I : Inv X pins σ H s) {a : Addr} (h : s.heap.objs.size <= a) : a ∉ X.fs := fun hb => by
 obtain ⟨_, o, ho, _⟩ := I.ok.sP.mem hb
 exact absurd (Nat.lt_of_lt_of_le (Heap.lt_size ho) (Nat.le_trans I.sz h)) (Nat.lt_irrefl _)
theorem Inv.cne (I : Inv X pins σ H s) : ∀ x c, X.env.cells.lookup x = some c -> c ≠ X.env.locals := fun x c e z => by
 obtain ⟨v, o, ho, hd⟩ := I.cell x c e
 obtain ⟨m, ⟨o', es, ep, ho', hd', _⟩, _⟩ := I.loc
 rw [z, ho'] at ho; cases ho; rw [hd'] at hd; cases hd
theorem Inv.sP (I : Inv X pins σ H s) : s.heap.FunFrames X.base X.outer := by
 have all : ∀ (l : List Env), (∀ b ∈ frs l, b ∈ X.fs) -> X.s₀.heap.FunFrames X.base l -> s.heap.FunFrames X.base l := by
  intro l
  induction l with
  | nil => intro _ _; trivial
  | cons env r ih =>
   intro hs hl
   obtain ⟨hk, ⟨L, o, hf, hn, ho, hd⟩, hr⟩ := hl
   have hL : L ∈ X.fs := hs L (by unfold frs; rw [List.filterMap_cons, hf]; exact List.mem_cons_self)
   obtain ⟨sl, e⟩ := I.base.slot L o ho (I.ok.frf L hL) hL fun z => I.ok.exfs L z hL
   exact ⟨hk, ⟨L, _, hf, hn, e, hd⟩, ih (fun b hb => hs b (by unfold frs; rw [List.filterMap_cons, hf]; exact List.mem_cons_of_mem _ hb)) hr⟩
 exact all X.outer (fun _ hb => hb) I.ok.sP
theorem Inv.stack (I : Inv X pins σ H s) : s.heap.FunFrames X.base X.stack := by
 rcases I.ok.stk with e | ⟨e, hf⟩
 ·rw [e]; exact I.sP
 ·rw [e]
  obtain ⟨m, hn, _⟩ := I.loc
  refine .cons (by rw [I.ok.kind]; decide) hf hn ?_ I.sP
  exact Heap.get?_none_of_le (Nat.le_trans I.ok.bsz I.ok.above)
theorem Inv.ql (I : Inv X pins σ H s) : ∀ b ∈ frs X.stack, b ∈ X.env.locals :: X.fs := fun b hb => by
 rcases I.ok.stk with e | ⟨e, hf⟩
 ·rw [e] at hb; exact List.mem_cons_of_mem _ hb
 ·rw [e] at hb
  unfold frs at hb
  rw [List.filterMap_cons, hf] at hb
  exact hb
theorem Inv.xY (I : Inv X pins σ H s) : ∀ b ∈ frs X.stack, H b = none := fun b hb => by
 rcases List.mem_cons.mp (I.ql b hb) with e | hb
 ·rw [e]; exact I.free
 ·obtain ⟨_, o, ho, _⟩ := I.ok.sP.mem hb
  exact I.base.free b o ho (I.ok.frf b hb) fun z => I.ok.exfs b z hb
theorem Inv.step {g' : Array GenState} {t' : Nat} {d' : Drawn} {ch : List Addr} (I : Inv X pins σ H s)
  (hch : ∀ b ∈ ch, (b ∈ X.ex \/ X.s₀.heap.objs.size <= b) /\ b ≠ X.env.locals /\ (∀ x c, X.env.cells.lookup x = some c -> c ≠ b) /\ ∀ p ∈ X.pn ++ pins, p.1 ≠ b)
  (keep : ∀ b o, b ≠ X.env.locals -> b ∉ X.fs -> b ∉ ch -> s.heap.get? b = some o -> H b = none -> h'.get? b = some o)
  (slot : ∀ b o, b ≠ X.env.locals -> b ∈ X.fs -> b ∉ ch -> s.heap.get? b = some o -> H b = none -> ∃ sl, h'.get? b = some { o with slots := sl }) (free : ∀ b o, b ∉ ch -> s.heap.get? b = some o -> H b = none -> H' b = none)
  (there : ∀ b o, b ∉ ch -> s.heap.get? b = some o -> ∃ o', h'.get? b = some o')
  (tups : ∀ b xs, H b = some (.tup xs) -> H' b = some (.tup xs)) (frzs : ∀ b o u, H b = some (.frz o u) -> H' b = some (.frz o u)) (tbls : ∀ b ps, H b = some (.tbl ps) -> ∃ more, H' b = some (.tbl (ps ++ more)))
  (ns : ∀ m, s.heap.Ns X.env.locals m -> h'.Ns X.env.locals m) (hok : HOk X.prog X.w H' h') (hg : AllBare g') :
  Inv X pins σ H' { s with heap := h', gens := g', drawn := d', toks := t' } := by
 have neL : ∀ b o, X.s₀.heap.get? b = some o -> b ≠ X.env.locals := fun b o e => Nat.ne_of_lt (Nat.lt_of_lt_of_le (Heap.lt_size e) I.ok.above)
 have neC : ∀ b o, X.s₀.heap.get? b = some o -> b ∉ X.ex -> b ∉ ch := fun b o e hx hb => by
  rcases (hch b hb).1 with z | z
  ·exact hx z
  ·exact absurd (Nat.lt_of_lt_of_le (Heap.lt_size e) z) (Nat.lt_irrefl _)
 have cellK : ∀ x c, X.env.cells.lookup x = some c -> ∀ v, s.heap.IsCell c v -> h'.IsCell c v := fun x c e v ⟨o, ho, hd⟩ => by
  have nch : c ∉ ch := fun z => (hch c z).2.2.1 x c e rfl
  by_cases hc : c ∈ X.fs
  ·obtain ⟨sl, q⟩ := slot c o (I.cne x c e) hc nch ho (I.freeC x c e)
   exact ⟨_, q, hd⟩
  ·exact ⟨o, keep c o (I.cne x c e) hc nch ho (I.freeC x c e), hd⟩
 refine ⟨I.ok, I.os, hg, ⟨fun b o e n hb hx => ?_, fun b o e n hb hx => ?_, fun b o e n hx => ?_, fun b o e hx => ?_, fun b xs e => tups b xs (I.base.tups b xs e), fun b o xs e => frzs b o xs (I.base.frzs b o xs e), fun b ps e => ?_⟩, ?_, fun x c e => ?_, ?_, fun x c e => ?_, fun p hp => ?_, hok, I.len⟩
 ·exact keep b o (neL b o e) hb (neC b o e hx) (I.base.keep b o e n hb hx) (I.base.free b o e n hx)
 ·obtain ⟨sl, e1⟩ := I.base.slot b o e n hb hx
  obtain ⟨sl', e2⟩ := slot b _ (neL b o e) hb (neC b o e hx) e1 (I.base.free b o e n hx)
  exact ⟨sl', e2⟩
 ·obtain ⟨o', e1⟩ := I.base.there b o e hx
  exact free b o' (neC b o e hx) e1 (I.base.free b o e n hx)
 ·obtain ⟨o', e1⟩ := I.base.there b o e hx
  exact there b o' (neC b o e hx) e1
 ·obtain ⟨m1, e1⟩ := I.base.tbls b ps e
  obtain ⟨m2, e2⟩ := tbls b _ e1
  exact ⟨m1 ++ m2, by rw [e2, Array.append_assoc]⟩
 ·obtain ⟨m, hn, hl⟩ := I.loc
  refine ⟨m, ns m hn, fun i x v e1 e2 e3 => ?_⟩
  obtain ⟨u, r, l⟩ := hl i x v e1 e2 e3
  refine ⟨u, r, ?_⟩
  rcases l with l | ⟨k, c, e, z⟩
  ·exact .inl l
  ·exact .inr ⟨k, c, e, cellK x c e _ z⟩
 ·obtain ⟨v, z⟩ := I.cell x c e
  exact ⟨v, cellK x c e v z⟩
 ·obtain ⟨m, ⟨o, _, _, ho, _⟩, _⟩ := I.loc
  exact free _ o (fun z => (hch _ z).2.1 rfl) ho I.free
 ·obtain ⟨v, o, ho, hd⟩ := I.cell x c e
  exact free c o (fun z => (hch c z).2.2.1 x c e rfl) ho (I.freeC x c e)
 ·obtain ⟨e, n, ne, nf, d⟩ := I.pin p hp
  have nch : p.1 ∉ ch := fun z => (hch p.1 z).2.2.2 p hp rfl
  exact ⟨keep p.1 p.2 ne nf nch e n, free p.1 p.2 nch e n, ne, nf, d⟩
theorem Inv.un {t' : Nat} (I : Inv X pins σ H s) (u : Un X.fs [] H H' s.heap h') (hok : HOk X.prog X.w H' h') : Inv X pins σ H' { s with heap := h', toks := t' } := by
 obtain ⟨m, ⟨o, es, ep, ho, r⟩, _⟩ := id I.loc
 obtain ⟨sl, hL⟩ := u.any ho I.free (by simp)
 exact I.step (g' := s.gens) (d' := s.drawn) (ch := []) (fun _ z => nomatch z) (fun b o _ hb _ e n => u.keep b o e n hb (by simp)) (fun b o _ hb _ e n => u.slot b o e n hb (by simp)) (fun b o _ e n => u.free b o e n (by simp)) (fun b o _ e => u.there b o e (by simp)) u.tups u.frzs u.tbls (fun m' hm => by
  obtain ⟨o', es', ep', ho', r'⟩ := hm
  rw [ho] at ho'; cases ho'
  exact ⟨_, es', ep', hL, r'⟩) hok I.bare
theorem Inv.call {g' : Array GenState} {t' : Nat} {d' : Drawn} {ch : List Addr} (I : Inv X pins σ H s) (u : Un (frs X.stack) ch H H' s.heap h') (hok : HOk X.prog X.w H' h') (hg : AllBare g')
  (hch : ∀ b ∈ ch, (b ∈ X.ex \/ X.s₀.heap.objs.size <= b) /\ b ≠ X.env.locals /\ (∀ x c, X.env.cells.lookup x = some c -> c ≠ b) /\ ∀ p ∈ X.pn ++ pins, p.1 ≠ b) :
  Inv X pins σ H' { s with heap := h', gens := g', drawn := d', toks := t' } := by
 obtain ⟨m, ⟨o, es, ep, ho, r⟩, _⟩ := id I.loc
 obtain ⟨sl, hL⟩ := u.any ho I.free fun z => (hch _ z).2.1 rfl
 exact I.step (ch := ch) hch (fun b o hL hb hc e n => u.keep b o e n (fun z => (List.mem_cons.mp (I.ql b z)).elim hL hb) hc) (fun b o _ _ hc e n => u.any e n hc) (fun b o hc e n => u.free b o e n hc) (fun b o hc e => u.there b o e hc) u.tups u.frzs u.tbls (fun m' hm => by
  obtain ⟨o', es', ep', ho', r'⟩ := hm
  rw [ho] at ho'; cases ho'
  exact ⟨_, es', ep', hL, r'⟩) hok hg
theorem Inv.turned {t' : Nat} {it : Addr} (I : Inv X pins σ H s) (k : ∀ b o, b ≠ it -> s.heap.get? b = some o -> h'.get? b = some o) (hn : H it = none) (hL : it ≠ X.env.locals)
  (h1 : it ∈ X.ex \/ X.s₀.heap.objs.size <= it) (h2 : ∀ x c, X.env.cells.lookup x = some c -> c ≠ it) (h3 : ∀ p ∈ X.pn ++ pins, p.1 ≠ it) : Inv X pins σ H { s with heap := h', toks := t' } := by
 have nit : ∀ b u, H b = some u -> b ≠ it := fun b u e z => by rw [z, hn] at e; cases e
 refine I.step (g' := s.gens) (d' := s.drawn) (ch := [it]) (fun b hb => ?_) (fun b o _ _ hc e _ => k b o (fun z => hc (by simp [z])) e) (fun b o _ _ hc e _ => ⟨o.slots, k b o (fun z => hc (by simp [z])) e⟩) (fun _ _ _ _ n => n)
  (fun b o hc e => ⟨o, k b o (fun z => hc (by simp [z])) e⟩) (fun _ _ e => e) (fun _ _ _ e => e) (fun b ps e => ⟨#[], by rw [e]; simp⟩) (fun m hm => ?_) (fun b u e => ?_) I.bare
 ·have e : b = it := by simpa using hb
  subst e
  exact ⟨h1, hL, h2, h3⟩
 ·obtain ⟨o, es, ep, ho, r⟩ := hm
  exact ⟨o, es, ep, k _ o (Ne.symm hL) ho, r⟩
 ·refine (I.hok b u e).uP (fun c v hc q => k c v ?_ q) (fun _ q => q) fun _ _ q => q
  rcases hc with z | z
  ·rw [z]; exact nit b u e
  ·exact nit c _ z
theorem Inv.tok (I : Inv X pins σ H s) (t : Nat) : Inv X pins σ H { s with toks := t } := I.un (h' := s.heap) (t' := t) Un.refl I.hok
theorem Inv.kept {t' : Nat} (I : Inv X pins σ H s) (k : ∀ b u, s.heap.get? b = some u -> h'.get? b = some u) : Inv X pins σ H { s with heap := h', toks := t' } := I.un (Un.kept k) (I.hok.kept k)
theorem Inv.laid {a : Addr} {o : HO} {t' : Nat} (I : Inv X pins σ H s) (k : ∀ b u, s.heap.get? b = some u -> h'.get? b = some u) (hp : s.heap.objs.size <= a) (new : e6 X.prog X.w (upd H a o) h' a o) :
  Inv X pins σ (upd H a o) { s with heap := h', toks := t' } := I.un (Un.laid k hp (I.hok.fresh hp)) (I.hok.laid k hp new)
theorem Inv.write {x e : Addr} {o : HO} {t' : Nat} (I : Inv X pins σ H s) (mu : Mut (H x)) (he : e = x \/ H e = some (.own x)) (k : ∀ b u, b ≠ e -> s.heap.get? b = some u -> h'.get? b = some u) (heo : ∃ u, h'.get? e = some u)
  (new : e6 X.prog X.w (upd H x o) h' x o) : Inv X pins σ (upd H x o) { s with heap := h', toks := t' } := I.un (Un.write mu he k heo) (I.hok.write mu he k heo new)
theorem Inv.weak {σ' : List (Option V)} (I : Inv X pins σ H s) (hl : σ'.length = σ.length) (w : ∀ (i : Nat) v, σ'[i]? = some (some v) -> σ[i]? = some (some v)) : Inv X pins σ' H s :=
 ⟨I.ok, I.os, I.bare, I.base, let ⟨m, hn, hl'⟩ := I.loc; ⟨m, hn, fun i x v e1 e2 e3 => hl' i x v e1 (w i v e2) e3⟩, I.cell, I.free, I.freeC, I.pin, I.hok, hl.trans I.len⟩
theorem Inv.rF {pins' : List (Addr × Obj)} (I : Inv X pins σ H s) (h : ∀ p ∈ pins', s.heap.get? p.1 = some p.2 /\ H p.1 = none /\ p.1 ≠ X.env.locals /\ p.1 ∉ X.fs /\ ∀ v, p.2.data ≠ .cell v) : Inv X pins' σ H s :=
 ⟨I.ok, I.os, I.bare, I.base, I.loc, I.cell, I.free, I.freeC, fun p hp => (List.mem_append.mp hp).elim (fun z => I.pin p (List.mem_append_left _ z)) (h p), I.hok, I.len⟩
theorem rR {N : List Str} (hN : N.Nodup) {i j : Nat} {x : Str} (a : N[i]? = some x) (b : N[j]? = some x) : i = j := by
 obtain ⟨h1, e1⟩ := List.getElem?_eq_some_iff.mp a
 obtain ⟨h2, e2⟩ := List.getElem?_eq_some_iff.mp b
 exact (List.getElem_inj hN).mp (e1.trans e2.symm)
theorem t6 {M : Model} {A : Around} {E : Value -> Shared -> Prop} {i : Nat} {x : Str} {v : V} {u : Value} {Q : Unit -> Shared -> Prop} (I : Inv X pins σ H s) (hN : X.N.Nodup) (hi : X.N[i]? = some x) (hx : Loc X.env.scope x) (r : RelV v u)
  (h : ∀ s', Inv X pins (σ.set i (some v)) H s' -> (∃ a, Heap.SameBut a s.heap s'.heap /\ (a = X.env.locals \/ X.env.cells.lookup x = some a)) -> Q () s') (hf : X.fn x = true \/ X.env.scope.names.lookup x = some .local := by first | exact .inl rfl | exact .inr rfl | assumption) : wpAny M A (storeName X.env x u) Q E s := by
 obtain ⟨m, hn, hl⟩ := id I.loc
 have hcls : (X.env.scope.kind == .class || (X.env.scope.kind == .module && X.env.locals != X.env.globals)) = false := by rw [I.ok.kind]; rfl
 have hiσ : i < σ.length := by rw [I.len]; exact (List.getElem?_eq_some_iff.mp hi).1
 have cne := I.cne
 have tracked : ∀ {a : Addr} {h' : Heap}, (∃ o, s.heap.get? a = some o /\ H a = none) -> Heap.SameBut a s.heap h' -> HOk X.prog X.w H h' := fun {a h'} ha hs b ob e => by
  obtain ⟨_, _, hfree⟩ := ha
  refine (I.hok b ob e).uP (fun c w' hc q => (hs.2 c ?_).trans q) (fun _ q => q) fun _ _ q => q
  rintro rfl
  rcases hc with rfl | hc
  ·rw [hfree] at e; cases e
  ·rw [hfree] at hc; cases hc
 rcases hx with hk | hk
 ·refine wpAny_storeName_local hk hn (fun h' hn' hs => ?_) hcls
  obtain ⟨oL, _, _, hoL, _⟩ := id hn
  refine h _ ⟨I.ok, I.os, I.bare, ⟨fun b o e n hb hx => ?_, fun b o e n hb hx => ?_, I.base.free, fun b o e hx => ?_, I.base.tups, I.base.frzs, I.base.tbls⟩, ⟨_, hn', fun j y v' e1 e2 e3 => ?_⟩, fun y c e => ?_, I.free, I.freeC, fun p hp => ?_, tracked ⟨oL, hoL, I.free⟩ hs, by simpa using I.len⟩ ⟨_, hs, .inl rfl⟩
  ·exact (hs.2 b (Nat.ne_of_lt (Nat.lt_of_lt_of_le (Heap.lt_size e) I.ok.above))).trans (I.base.keep b o e n hb hx)
  ·obtain ⟨sl, e1⟩ := I.base.slot b o e n hb hx
   exact ⟨sl, (hs.2 b (Nat.ne_of_lt (Nat.lt_of_lt_of_le (Heap.lt_size e) I.ok.above))).trans e1⟩
  ·obtain ⟨o', e1⟩ := I.base.there b o e hx
   exact ⟨o', (hs.2 b (Nat.ne_of_lt (Nat.lt_of_lt_of_le (Heap.lt_size e) I.ok.above))).trans e1⟩
  ·by_cases hj : j = i
   ·subst hj
    rw [hi] at e1; cases e1
    rw [List.getElem?_set_self hiσ] at e2
    cases e2
    exact ⟨u, r, .inl ⟨hk, by simp⟩⟩
   ·rw [List.getElem?_set_ne (Ne.symm hj)] at e2
    obtain ⟨u', r', q⟩ := hl j y v' e1 e2 e3
    refine ⟨u', r', ?_⟩
    rcases q with ⟨k, e⟩ | ⟨k, c, e, z⟩
    ·refine .inl ⟨k, ?_⟩
     have : y ≠ x := fun e => hj (rR hN e1 (e ▸ hi))
     simp [this, e]
    ·exact .inr ⟨k, c, e, z.sameBut hs (cne y c e)⟩
  ·obtain ⟨w', z⟩ := I.cell y c e
   exact ⟨w', z.sameBut hs (cne y c e)⟩
  ·obtain ⟨e, n, ne, nf, d⟩ := I.pin p hp
   exact ⟨(hs.2 p.1 ne).trans e, n, ne, nf, d⟩
 ·have hfn : X.fn x = true := by
   rcases hf with z | z
   ·exact z
   ·rw [z] at hk; cases hk
  obtain ⟨c, hc⟩ := I.ok.has x (.inl hk)
  obtain ⟨w', z⟩ := I.cell x c hc
  refine wpAny_storeName_cell I.ok.kind hk hc z (fun h' hc' hs => ?_)
  obtain ⟨oc, hoc, hocd⟩ := id z
  refine h { s with heap := h' } ⟨I.ok, I.os, I.bare, ⟨fun b o e n hb hx => ?_, fun b o e n hb hx => ?_, I.base.free, fun b o e hx => ?_, I.base.tups, I.base.frzs, I.base.tbls⟩, ⟨m, hn.sameBut hs (Ne.symm (cne x c hc)), fun j y v' e1 e2 e3 => ?_⟩, fun y c' e => ?_, I.free, I.freeC, fun p hp => ?_, tracked ⟨oc, hoc, I.freeC x c hc⟩ hs, by simpa using I.len⟩ ⟨c, hs, .inr hc⟩
  ·exact (hs.2 b (Nat.ne_of_lt (Nat.lt_of_lt_of_le (Heap.lt_size e) (I.ok.cab x c hfn hc)))).trans (I.base.keep b o e n hb hx)
  ·obtain ⟨sl, e1⟩ := I.base.slot b o e n hb hx
   exact ⟨sl, (hs.2 b (Nat.ne_of_lt (Nat.lt_of_lt_of_le (Heap.lt_size e) (I.ok.cab x c hfn hc)))).trans e1⟩
  ·obtain ⟨o', e1⟩ := I.base.there b o e hx
   exact ⟨o', (hs.2 b (Nat.ne_of_lt (Nat.lt_of_lt_of_le (Heap.lt_size e) (I.ok.cab x c hfn hc)))).trans e1⟩
  ·by_cases hj : j = i
   ·subst hj
    rw [hi] at e1; cases e1
    rw [List.getElem?_set_self hiσ] at e2
    cases e2
    exact ⟨u, r, .inr ⟨.inl hk, c, hc, hc'⟩⟩
   ·rw [List.getElem?_set_ne (Ne.symm hj)] at e2
    obtain ⟨u', r', q⟩ := hl j y v' e1 e2 e3
    refine ⟨u', r', ?_⟩
    rcases q with q | ⟨k, c', e, z'⟩
    ·exact .inl q
    ·refine .inr ⟨k, c', e, z'.sameBut hs ?_⟩
     rintro rfl
     exact hj (rR hN e1 (I.ok.inj _ _ _ e hc ▸ hi))
  ·by_cases hcc : c' = c
   ·subst hcc; exact ⟨_, hc'⟩
   ·obtain ⟨w2, z2⟩ := I.cell y c' e
    exact ⟨w2, z2.sameBut hs hcc⟩
  ·obtain ⟨e, n, ne, nf, d⟩ := I.pin p hp
   refine ⟨(hs.2 p.1 ?_).trans e, n, ne, nf, d⟩
   intro q
   rw [q, hoc] at e
   have q' : oc = p.2 := Option.some.inj e
   exact d w' (by rw [<- q']; exact hocd)
theorem og {M : Model} {A : Around} {E : Value -> Shared -> Prop} {i : Nat} {x : Str} {v : V} {u : Value} {Q : Unit -> Shared -> Prop} (I : Inv X pins σ H s) (hN : X.N.Nodup) (hi : X.N[i]? = some x) (hx : Loc X.env.scope x) (r : RelV v u)
  (h : ∀ s', Inv X pins (σ.set i (some v)) H s' -> Q () s') (hf : X.fn x = true \/ X.env.scope.names.lookup x = some .local := by first | exact .inl rfl | exact .inr rfl | assumption) : wpAny M A (storeName X.env x u) Q E s :=
 t6 I hN hi hx r (fun s' I' _ => h s' I') hf
theorem Inv.call' {s' : Shared} {ch : List Addr} (I : Inv X pins σ H s) (ho : s'.os = s.os) (u : Un (frs X.stack) ch H H' s.heap s'.heap) (hok : HOk X.prog X.w H' s'.heap) (hg : AllBare s'.gens)
  (hch : ∀ b ∈ ch, (b ∈ X.ex \/ X.s₀.heap.objs.size <= b) /\ b ≠ X.env.locals /\ (∀ x c, X.env.cells.lookup x = some c -> c ≠ b) /\ ∀ p ∈ X.pn ++ pins, p.1 ≠ b) : Inv X pins σ H' s' := by
 obtain ⟨h', g', d', t', o'⟩ := s'
 have e : o' = s.os := ho
 subst e
 exact I.call (g' := g') (t' := t') (d' := d') u hok hg hch
end
noncomputable abbrev XK := Value -> Option Addr -> Hp -> Prop
noncomputable abbrev St := List (Option V)
noncomputable abbrev VK := V -> Hp -> Prop
noncomputable abbrev TE := St -> Hp -> VK -> Prop
noncomputable abbrev TT := St -> Hp -> (Bool -> Hp -> Prop) -> Prop
noncomputable abbrev TA := St -> Hp -> (List V -> Hp -> Prop) -> Prop
structure Ends where
 nx : St -> Hp -> Prop
 rt : VK
 bk : St -> Hp -> Prop := fun _ _ => False
 ct : St -> Hp -> Prop := fun _ _ => False
noncomputable abbrev TS := Ends -> St -> Hp -> Prop
noncomputable def EP (X : Cx) (pins : List (Addr × Obj)) (σ : St) (Q : VK) (u : Value) (s' : Shared) : Prop := ∃ v H', Inv X pins σ H' s' /\ RelV v u /\ Q v H'
noncomputable def TP (X : Cx) (pins : List (Addr × Obj)) (σ : St) (Q : Bool -> Hp -> Prop) (b : Bool) (s' : Shared) : Prop := ∃ H', Inv X pins σ H' s' /\ Q b H'
noncomputable def AP (X : Cx) (pins : List (Addr × Obj)) (σ : St) (Q : List V -> Hp -> Prop) (us : List Value) (s' : Shared) : Prop := ∃ vs H', Inv X pins σ H' s' /\ Vals vs us /\ Q vs H'
noncomputable def SP (X : Cx) (pins : List (Addr × Obj)) (D : Ends) (f : Flow) (s' : Shared) : Prop :=
 match f with
 | .next => ∃ σ' H', Inv X pins σ' H' s' /\ D.nx σ' H'
 | .brk => ∃ σ' H', Inv X pins σ' H' s' /\ D.bk σ' H'
 | .cont => ∃ σ' H', Inv X pins σ' H' s' /\ D.ct σ' H'
 | .ret u => ∃ v σ' H', Inv X pins σ' H' s' /\ RelV v u /\ D.rt v H'
noncomputable def PE (X : Cx) (e : Expr) (t : TE) : Prop :=
 ∀ (pins : List (Addr × Obj)) (s : Shared) (σ : St) (H : Hp) (Q : VK), Inv X pins σ H s -> t σ H Q -> wpAny (model X.prog X.w) X.A (eval e X.env) (EP X pins σ Q) X.xe s
noncomputable def PT (X : Cx) (e : Expr) (t : TT) : Prop :=
 ∀ (pins : List (Addr × Obj)) (s : Shared) (σ : St) (H : Hp) (Q : Bool -> Hp -> Prop), Inv X pins σ H s -> t σ H Q -> wpAny (model X.prog X.w) X.A (isTrue e X.env (eval e X.env)) (TP X pins σ Q) X.xe s
noncomputable def PW (X : Cx) (e : Expr) (t : TT) : Prop :=
 ∀ (whole : Sem Value) (pins : List (Addr × Obj)) (s : Shared) (σ : St) (H : Hp) (Q : Bool -> Hp -> Prop), Inv X pins σ H s -> t σ H Q -> wpAny (model X.prog X.w) X.A (isTrue e X.env whole) (TP X pins σ Q) X.xe s
theorem PW.pt {X : Cx} {e : Expr} {t : TT} (h : PW X e t) : PT X e t := h _
noncomputable def PA (X : Cx) (es : List Expr) (t : TA) : Prop :=
 ∀ (pos : Pos) (pins : List (Addr × Obj)) (s : Shared) (σ : St) (H : Hp) (Q : List V -> Hp -> Prop), Inv X pins σ H s -> t σ H Q -> wpAny (model X.prog X.w) X.A (spliced (backTo pos (starEach es X.env))) (AP X pins σ Q) X.xe s
noncomputable def PS (X : Cx) (st : Stmt) (t : TS) : Prop :=
 ∀ (pins : List (Addr × Obj)) (s : Shared) (σ : St) (H : Hp) (D : Ends), Inv X pins σ H s -> t D σ H -> wpAny (model X.prog X.w) X.A (exec st X.env) (SP X pins D) X.xe s
noncomputable def PSs (X : Cx) (st : List Stmt) (t : TS) : Prop :=
 ∀ (pins : List (Addr × Obj)) (s : Shared) (σ : St) (H : Hp) (D : Ends), Inv X pins σ H s -> t D σ H -> wpAny (model X.prog X.w) X.A (execs st X.env) (SP X pins D) X.xe s
theorem thn {α : Type} {t : Sem α} {Q Q' : α -> Shared -> Prop} {M : Model} {A : Around} {E : Value -> Shared -> Prop} {s : Shared} (h : wpAny M A t Q E s) (hQ : ∀ a s, Q a s -> Q' a s) : wpAny M A t Q' E s := wpAny_mono h hQ fun _ _ x => x
end L2
namespace L2
open PySem PySem.Spec PyProof.Rows
section
variable {X : Cx}
noncomputable def tVar (i : Nat) : TE := fun σ H Q => ∃ v, σ[i]? = some (some v) /\ Q v H
noncomputable def tC (v : V) : TE := fun _ H Q => Q v H
theorem pe_var {i : Nat} {x : Str} {pos : Pos} (hN : X.N[i]? = some x) (hv : Vis X.env.scope x) (hd : (x == ("__debug__" : Str)) = false := by decide) (hcd : (x == ("__classdict__" : Str)) = false := by decide) : PE X (.Name x pos) (tVar i) := by
 show 'Պ'
 obtain ⟨v, e, h⟩ := h
 obtain ⟨m, hn, hl⟩ := I.loc
 obtain ⟨u, r, l⟩ := hl i x v hN e hv
 have fin : EP X pins σ Q u s := ⟨v, H, I, r, h⟩
 rcases l with ⟨hk, hm⟩ | ⟨hk, c, hc, hcell⟩
 ·exact wpAny_Name (wpAny_loadName_local I.ok.kind hk hn hm fin) hd
 ·rcases hk with hk | hk
  ·exact wpAny_Name (wpAny_loadName_cell I.ok.kind hk hc hcell fin) hd
  ·exact wpAny_Name (wpAny_loadName_free I.ok.kind hk hc hcell fin hcd) hd
theorem vY {i j pos} : PE X (.Constant (.int i) j pos) (tC (.int i)) := fun _ _ _ H _ I h => wpAny_Constant_int ⟨.int i, H, I.tok _, ⟨_, rfl⟩, h⟩
theorem pe_bl {b j pos} : PE X (.Constant (.bool b) j pos) (tC (.bl b)) := fun _ _ _ H _ I h => Constant_bool ⟨.bl b, H, I, rfl, h⟩
theorem pe_non {j pos} : PE X (.Constant .none j pos) (tC .non) := fun _ _ _ H _ I h => Constant_none ⟨.non, H, I, rfl, h⟩
theorem pe_str {x j pos} : PE X (.Constant (.str x) j pos) (tC (.str x)) := fun _ _ _ H _ I h => Calls.Constant_str ⟨.str x, H, I.tok _, ⟨_, rfl⟩, h⟩
noncomputable def Gl (X : Cx) (x : Str) : Prop := X.env.kindOf x = some .globalImplicit
theorem gy {E : Value -> Shared -> Prop} {pins : List (Addr × Obj)} {s : Shared} {σ : St} {H : Hp} {x : Str} {u : Value} {pos : Pos} {Q : Value -> Shared -> Prop} (I : Inv X pins σ H s) (hg : Gl X x) (hm : X.mg x = some u) (h : Q u s)
  (hd : (x == ("__debug__" : Str)) = false := by decide) : wpAny (model X.prog X.w) X.A (eval (.Name x pos) X.env) Q E s :=
 Calls.Name_function_global I.ok.kind hg (Calls.loadGlobal_global (by rw [I.ok.glob]; exact I.mod.glob.keeps I.bk) hm h) hd
theorem nU {E : Value -> Shared -> Prop} {pins : List (Addr × Obj)} {s : Shared} {σ : St} {H : Hp} {x : Str} {u : Value} {pos : Pos} {Q : Value -> Shared -> Prop} (I : Inv X pins σ H s) (hg : Gl X x) (hm : X.mg x = none) (hv : bootBuiltins x = some u) (h : Q u s)
  (hn : x ≠ "__name__" := by decide) (hd : (x == ("__debug__" : Str)) = false := by decide) : wpAny (model X.prog X.w) X.A (eval (.Name x pos) X.env) Q E s := by
 obtain ⟨mb, h1, h2⟩ := I.mod.blt
 exact Calls.Name_function_global I.ok.kind hg (Calls.loadGlobal_builtin (by rw [I.ok.glob]; exact I.mod.glob.keeps I.bk) hm (by rw [I.ok.blt]; exact h1.keeps I.bk) ((h2 x hn).trans hv) h) hd
theorem yv {x : Str} {v : V} {u : Value} {pos : Pos} (hg : Gl X x) (hm : X.mg x = some u) (r : RelV v u) (hd : (x == ("__debug__" : Str)) = false := by decide) : PE X (.Name x pos) (tC v) :=
 fun _ _ _ H _ I h => gy I hg hm ⟨v, H, I, r, h⟩ hd
theorem pe_bltn {x : Str} {v : V} {u : Value} {pos : Pos} (hg : Gl X x) (hm : X.mg x = none) (hv : bootBuiltins x = some u) (r : RelV v u) (hn : x ≠ "__name__" := by decide) (hd : (x == ("__debug__" : Str)) = false := by decide) : PE X (.Name x pos) (tC v) :=
 fun _ _ _ H _ I h => nU I hg hm hv ⟨v, H, I, r, h⟩ hn hd
variable {a b : Expr} {ta tb : TE} {pos : Pos}
variable {tA tB' : TT} {rest : List Expr}
noncomputable def tAnd (t u : TT) : TT := fun σ H Q => t σ H fun c H1 => if c = true then u σ H1 Q else Q false H1
noncomputable def tOr (t u : TT) : TT := fun σ H Q => t σ H fun c H1 => if c = true then Q true H1 else u σ H1 Q
noncomputable def tNot (t : TT) : TT := fun σ H Q => t σ H fun c H1 => Q (!c) H1
theorem pw_and1 (ha : PT X a tA) : PW X (.BoolOp .And [a] pos) tA := by
 intro wh pins s σ H Q I h
 refine isTrue_and (thn (ha pins s σ H Q I h) fun c s1 e => ?_)
 cases c with
 | true => exact isTrue_and_nil e
 | false => exact e
theorem pw_or1 (ha : PT X a tA) : PW X (.BoolOp .Or [a] pos) tA := by
 intro wh pins s σ H Q I h
 refine isTrue_or (thn (ha pins s σ H Q I h) fun c s1 e => ?_)
 cases c with
 | false => exact isTrue_or_nil e
 | true => exact e
theorem pw_and (ha : PT X a tA) (hb : PW X (.BoolOp .And (b :: rest) pos) tB') : PW X (.BoolOp .And (a :: b :: rest) pos) (tAnd tA tB') := by
 intro wh pins s σ H Q I h
 refine isTrue_and (thn (ha pins s σ H _ I h) fun c s1 ⟨H1, I1, q1⟩ => ?_)
 cases c with
 | true => exact hb wh pins s1 σ H1 Q I1 q1
 | false => exact ⟨H1, I1, q1⟩
theorem pw_or (ha : PT X a tA) (hb : PW X (.BoolOp .Or (b :: rest) pos) tB') : PW X (.BoolOp .Or (a :: b :: rest) pos) (tOr tA tB') := by
 intro wh pins s σ H Q I h
 refine isTrue_or (thn (ha pins s σ H _ I h) fun c s1 ⟨H1, I1, q1⟩ => ?_)
 cases c with
 | true => exact ⟨H1, I1, q1⟩
 | false => exact hb wh pins s1 σ H1 Q I1 q1
theorem pt_not (ha : PT X a tA) : PT X (.UnaryOp .Not a pos) (tNot tA) := by
 show 'Պ'
 exact isTrue_not (ha pins s σ H (fun c H1 => Q (!c) H1) I h)
noncomputable def tAndV (ta tb : TE) : TE := fun σ H Q => ta σ H fun x H1 => ∃ c, x = .bl c /\ if c = true then tb σ H1 Q else Q (.bl false) H1
noncomputable def tNotV (ta : TE) : TE := fun σ H Q => ta σ H fun x H1 => ∃ c, x = .bl c /\ Q (.bl (!c)) H1
theorem pe_one {op} {t : TE} (h : PE X a t) : PE X (.BoolOp op [a] pos) t := fun pins s σ H Q I hw => BoolOp_one (h pins s σ H Q I hw)
theorem yx (ha : PE X a ta) (hb : PE X (.BoolOp .And (b :: rest) pos) tb) : PE X (.BoolOp .And (a :: b :: rest) pos) (tAndV ta tb) := by
 show 'Պ'
 refine BoolOp_and (thn (ha pins s σ H _ I h) fun v s1 ⟨x, H1, I1, r1, q1⟩ => ?_)
 obtain ⟨c, rfl, q1⟩ := q1
 cases r1
 refine wpAny_truthy_bool ?_
 cases c with
 | true => exact hb pins s1 σ H1 Q I1 q1
 | false => exact ⟨.bl false, H1, I1, rfl, q1⟩
theorem pe_not (ha : PE X a ta) : PE X (.UnaryOp .Not a pos) (tNotV ta) := by
 show 'Պ'
 refine UnaryOp_ (thn (ha pins s σ H _ I h) fun v s1 ⟨x, H1, I1, r1, q1⟩ => ?_)
 obtain ⟨c, rfl, q1⟩ := q1
 cases r1
 exact not_of (wpAny_truthy_bool ⟨.bl (!c), H1, I1, rfl, q1⟩)
noncomputable def tIf (t : TT) (ta tb : TE) : TE := fun σ H Q => t σ H fun c H1 => if c = true then ta σ H1 Q else tb σ H1 Q
theorem pe_ifExp {c : Expr} (hc : PT X c tA) (ha : PE X a ta) (hb : PE X b tb) : PE X (.IfExp c a b pos) (tIf tA ta tb) := by
 show 'Պ'
 refine wpAny_IfExp (thn (hc pins s σ H _ I h) fun d s1 ⟨H1, I1, q1⟩ => ?_)
 cases d with
 | true => exact ha pins s1 σ H1 Q I1 q1
 | false => exact hb pins s1 σ H1 Q I1 q1
end
end L2
namespace L2
open PySem PySem.Spec PyProof.Rows
noncomputable def SqL (K : PySem.W.Frag) (H : Hp) (a : Addr) (xs : List V) : Prop :=
 Rd H a (.lst xs) \/
  ∃ (o : Obj) (its : Array Value) (n : Nat), K.lookup a = some o /\ o.cls = .type "list" /\ o.dict = none /\ o.data = .seq its n /\ its.size <= sizeLine /\ Vals xs its.toList
noncomputable def SqT (K : PySem.W.Frag) (H : Hp) (a : Addr) (xs : List V) : Prop :=
 Rd H a (.tup xs) \/
  ∃ (o : Obj) (its : Array Value) (n : Nat), K.lookup a = some o /\ o.cls = .type "tuple" /\ o.data = .seq its n /\ its.size <= sizeLine /\ Vals xs its.toList
noncomputable def absV : Value -> Option V
 | .none => some .non
 | .bool b => some (.bl b)
 | .int i _ => some (.int i)
 | .str x _ => some (.str x)
 | .bytes b _ => some (.byt b)
 | .float b _ => some (.flt b)
 | .ref a => some (.ref a)
 | .type n => some (.ty n)
 | _ => none
theorem RelV.abs {x : V} {u : Value} (r : RelV x u) : absV u = some x := by
 cases x with
 | non => cases r; rfl
 | bl _ => cases r; rfl
 | int _ => obtain ⟨t, rfl⟩ := r; rfl
 | str _ => obtain ⟨t, rfl⟩ := r; rfl
 | byt _ => obtain ⟨t, rfl⟩ := r; rfl
 | flt _ => obtain ⟨t, rfl⟩ := r; rfl
 | ref _ => cases r; rfl
 | ty _ => cases r; rfl
theorem RelV.inj {x y : V} {u : Value} (r : RelV x u) (q : RelV y u) : x = y := Option.some.inj (r.abs.symm.trans q.abs)
theorem Vals.inj : ∀ {xs ys : List V} {us : List Value}, Vals xs us -> Vals ys us -> xs = ys
 | _, _, _, .nil, .nil => rfl
 | _, _, _, .cons r t, .cons r' t' => by rw [r.inj r', Vals.inj t t']
section
variable {X : Cx} {pins : List (Addr × Obj)} {σ : St} {H : Hp} {s : Shared} {a : Addr} {xs ys : List V}
theorem SqL.of {K : PySem.W.Frag} (h : H a = some (.lst xs)) : SqL K H a xs := .inl (.inl h)
theorem SqT.of {K : PySem.W.Frag} (h : H a = some (.tup xs)) : SqT K H a xs := .inl (.inl h)
theorem Inv.list (I : Inv X pins σ H s) (h : SqL X.K H a xs) : ∃ its : List Value, Vals xs its /\ PlainL s.heap a its.toArray /\ xs.length <= sizeLine := by
 rcases h with h | ⟨o, its, n, hk, hc, hd, hs, hz, r⟩
 ·obtain ⟨z, its, n, r, e⟩ := h.ok I.hok
  exact ⟨its, r, ⟨_, n, e, rfl, rfl, rfl⟩, z⟩
 ·refine ⟨its.toList, r, ⟨o, n, I.kIn a o hk, hc, hd, by simpa using hs⟩, ?_⟩
  have e := r.length
  simp only [Array.length_toList] at e
  omega
theorem Inv.tuple (I : Inv X pins σ H s) (h : SqT X.K H a xs) : ∃ its : List Value, Vals xs its /\ IsTup s.heap a its.toArray /\ xs.length <= sizeLine := by
 rcases h with h | ⟨o, its, n, hk, hc, hs, hz, r⟩
 ·obtain ⟨z, its, r, p⟩ := h.ok I.hok
  exact ⟨its, r, p, z⟩
 ·refine ⟨its.toList, r, ⟨o, I.kIn a o hk, hc, n, by simpa using hs⟩, ?_⟩
  have e := r.length
  simp only [Array.length_toList] at e
  omega
theorem Inv.w9 (I : Inv X pins σ H s) (h : SqL X.K H a xs) (h' : SqL X.K H a ys) : xs = ys := by
 obtain ⟨its, r, ⟨o, n, e, _, _, d⟩, _⟩ := I.list h
 obtain ⟨its', r', ⟨o', n', e', _, _, d'⟩, _⟩ := I.list h'
 show 'խ'
theorem Inv.xU (I : Inv X pins σ H s) (h : SqT X.K H a xs) (h' : SqT X.K H a ys) : xs = ys := by
 obtain ⟨its, r, ⟨o, e, _, n, d⟩, _⟩ := I.tuple h
 obtain ⟨its', r', ⟨o', e', _, n', d'⟩, _⟩ := I.tuple h'
 show 'խ'
end
noncomputable abbrev Cx.sU (X : Cx) (E : Value -> Shared -> Prop) : Cx := { X with xe := E }
noncomputable abbrev Cx.nox (X : Cx) : Cx := X.sU fun _ _ => False
theorem Cx.Ok.sU {X : Cx} (ok : X.Ok) (E : Value -> Shared -> Prop) : (X.sU E).Ok :=
 ⟨ok.mod, ok.kind, ok.glob, ok.blt, ok.above, ok.inj, ok.has, ok.cab, ok.hd, ok.frames, ok.stk, ok.exf, ok.bs, ok.bsz, ok.noex, ok.exfs, ok.sP, ok.frf⟩
theorem Cx.Ok.kG {X : Cx} {E : Value -> Shared -> Prop} (ok : (X.sU E).Ok) : X.Ok :=
 ⟨ok.mod, ok.kind, ok.glob, ok.blt, ok.above, ok.inj, ok.has, ok.cab, ok.hd, ok.frames, ok.stk, ok.exf, ok.bs, ok.bsz, ok.noex, ok.exfs, ok.sP, ok.frf⟩
section
variable {X : Cx} {pins : List (Addr × Obj)} {σ : St} {H : Hp} {s : Shared} {E : Value -> Shared -> Prop}
theorem Inv.sU (I : Inv X pins σ H s) (E : Value -> Shared -> Prop) : Inv (X.sU E) pins σ H s := ⟨I.ok.sU E, I.os, I.bare, I.base, I.loc, I.cell, I.free, I.freeC, I.pin, I.hok, I.len⟩
theorem Inv.kG (I : Inv (X.sU E) pins σ H s) : Inv X pins σ H s := ⟨I.ok.kG, I.os, I.bare, I.base, I.loc, I.cell, I.free, I.freeC, I.pin, I.hok, I.len⟩
theorem SP.kG {D : Ends} {f : Flow} {s' : Shared} (h : SP (X.sU E) pins D f s') : SP X pins D f s' := by
 cases f with
 | next => obtain ⟨σ', H', I, q⟩ := h; exact ⟨σ', H', I.kG, q⟩
 | brk => obtain ⟨σ', H', I, q⟩ := h; exact ⟨σ', H', I.kG, q⟩
 | cont => obtain ⟨σ', H', I, q⟩ := h; exact ⟨σ', H', I.kG, q⟩
 | ret u => obtain ⟨v, σ', H', I, r, q⟩ := h; exact ⟨v, σ', H', I.kG, r, q⟩
theorem PT.nox {e : Expr} {t : TT} (h : PT X.nox e t) : PT X e t := fun pins s σ H Q I hw =>
 wpAny_mono (h pins s σ H Q (I.sU _) hw) (fun _ _ ⟨H', I', q⟩ => ⟨H', I'.kG, q⟩) fun _ _ z => False.elim z
theorem PSs.nox {st : List Stmt} {t : TS} (h : PSs X.nox st t) : PSs X st t := fun pins s σ H D I hw =>
 wpAny_mono (h pins s σ H D (I.sU _) hw) (fun _ _ q => q.kG) fun _ _ z => False.elim z
end
section
variable {X : Cx} {st : Stmt} {rest : List Stmt} {t u : TS} {e : Expr} {te : TE} {pos : Pos}
noncomputable def tNext : TS := fun D σ H => D.nx σ H
noncomputable def tSeq (t u : TS) : TS := fun D σ H => t { D with nx := u D } σ H
theorem yi : PSs X [] tNext := fun _ _ σ H _ I h => wpAny_execs_nil ⟨σ, H, I, h⟩
theorem mI (h1 : PS X st t) (h2 : PSs X rest u) : PSs X (st :: rest) (tSeq t u) := by
 show 'Փ'
 refine wpAny_execs_cons (thn (h1 pins s σ H { D with nx := u D } I h) fun f s1 q => ?_)
 cases f with
 | next =>
  obtain ⟨σ', H', I', q⟩ := q
  exact h2 pins s1 σ' H' D I' q
 | ret v => exact q
 | brk => exact q
 | cont => exact q
theorem nu (h1 : PS X st t) : PSs X [st] t := by
 show 'Փ'
 refine wpAny_execs_cons (thn (h1 pins s σ H D I h) fun f s1 q => ?_)
 cases f with
 | next => exact wpAny_execs_nil q
 | ret v => exact q
 | brk => exact q
 | cont => exact q
theorem Inv.quiet {pins : List (Addr × Obj)} {σ : St} {H : Hp} {s : Shared} (I : Inv X pins σ H s) : interactive X.env = false := by simp [interactive, I.ok.kind]
noncomputable def tDrop (te : TE) : TS := fun D σ H => te σ H fun _ H1 => D.nx σ H1
theorem uX (he : PE X e te) (hs : swapsWith e none pos.line X.env = pure false := by rfl) : PS X (.Expr e pos) (tDrop te) := by
 show 'Փ'
 exact wpAny_Expr_any (thn (he pins s σ H _ I h) fun v s1 ⟨x, H1, I1, r1, q1⟩ => ⟨σ, H1, I1, q1⟩) I.quiet hs
noncomputable def tRet (te : TE) : TS := fun D σ H => te σ H D.rt
theorem ps_ret (he : PE X e te) : PS X (.Return (some e) pos) (tRet te) := by
 show 'Փ'
 exact wpAny_Return_some (thn (he pins s σ H _ I h) fun v s1 ⟨x, H1, I1, r1, q1⟩ => ⟨x, σ, H1, I1, r1, q1⟩)
noncomputable def tIfS (c : TT) (t u : TS) : TS := fun D σ H => c σ H fun b H1 => if b = true then t D σ H1 else u D σ H1
theorem ps_if {c : Expr} {a b : List Stmt} {tc : TT} (hc : PT X c tc) (ha : PSs X a t) (hb : PSs X b u) : PS X (.If c a b pos) (tIfS tc t u) := by
 show 'Փ'
 refine wpAny_If (thn (hc pins s σ H _ I h) fun d s1 ⟨H1, I1, q1⟩ => ?_)
 cases d with
 | true => exact ha pins s1 σ H1 D I1 q1
 | false => exact hb pins s1 σ H1 D I1 q1
noncomputable def tNever : TS := fun _ _ _ => False
theorem yj {sts : List Stmt} : PSs X sts tNever := fun _ _ _ _ _ _ h => h.elim
end
noncomputable abbrev TG := V -> St -> Hp -> (St -> Hp -> Prop) -> Prop
noncomputable abbrev TGs := List V -> St -> Hp -> (St -> Hp -> Prop) -> Prop
noncomputable def PG (X : Cx) (target : Expr) (t : TG) : Prop :=
 ∀ (pins : List (Addr × Obj)) (s : Shared) (σ : St) (H : Hp) (v : V) (u : Value) (Q : St -> Hp -> Prop), Inv X pins σ H s -> RelV v u -> t v σ H Q ->
  wpAny (model X.prog X.w) X.A (assign target X.env u) (fun _ s' => ∃ σ' H', Inv X pins σ' H' s' /\ Q σ' H') X.xe s
noncomputable def PGs (X : Cx) (ts : List Expr) (t : TGs) : Prop :=
 ∀ (pins : List (Addr × Obj)) (s : Shared) (σ : St) (H : Hp) (vs : List V) (us : List Value) (Q : St -> Hp -> Prop), Inv X pins σ H s -> Vals vs us -> t vs σ H Q ->
  wpAny (model X.prog X.w) X.A (assignInOrder ((assignEach ts X.env).map (·.2)) us) (fun _ s' => ∃ σ' H', Inv X pins σ' H' s' /\ Q σ' H') X.xe s
noncomputable abbrev TSet := V -> V -> V -> Hp -> (Hp -> Prop) -> Prop
noncomputable def PSet (X : Cx) (t : TSet) : Prop :=
 ∀ (pins : List (Addr × Obj)) (s : Shared) (σ : St) (H : Hp) (o i v : V) (ov iv u : Value) (Q : Hp -> Prop), Inv X pins σ H s -> RelV o ov -> RelV i iv -> RelV v u -> t o i v H Q ->
  wpAny (model X.prog X.w) X.A (setItem ov iv u) (fun _ s' => ∃ H', Inv X pins σ H' s' /\ Q H') X.xe s
section
variable {X : Cx} {pos : Pos}
noncomputable def mP (i : Nat) : TG := fun v σ H Q => Q (σ.set i (some v)) H
theorem uZ {i : Nat} {x : Str} (hN : X.N.Nodup) (hi : X.N[i]? = some x) (hx : Loc X.env.scope x) (hf : X.fn x = true \/ X.env.scope.names.lookup x = some .local := by first | exact .inl rfl | exact .inr rfl | assumption) : PG X (.Name x pos) (mP i) := by
 intro pins s σ H v u Q I r h
 exact wpAny_assign_Name (og I hN hi hx r (fun s' I' => ⟨_, H, I', h⟩) hf)
noncomputable def gNil : TGs := fun vs σ H Q => vs = [] /\ Q σ H
noncomputable def gCons (t : TG) (u : TGs) : TGs := fun vs σ H Q => ∃ v r, vs = v :: r /\ t v σ H fun σ' H' => u r σ' H' Q
theorem pgs_nil : PGs X [] gNil := by
 intro pins s σ H vs us Q I r h
 obtain ⟨e, h⟩ := h
 subst e
 cases r
 exact assignInOrder_nil ⟨σ, H, I, h⟩
theorem vW {e : Expr} {es : List Expr} {t : TG} {u : TGs} (h1 : PG X e t) (h2 : PGs X es u)
  (hs : (assignEach (e :: es) X.env).map (·.2) = assign e X.env :: (assignEach es X.env).map (·.2) := by rfl) : PGs X (e :: es) (gCons t u) := by
 intro pins s σ H vs us Q I r h
 obtain ⟨v, vr, e1, h⟩ := h
 subst e1
 cases r with
 | cons r rr =>
  rw [hs]
  refine assignInOrder_cons (thn (h1 pins s σ H _ _ _ I r h) fun _ s1 ⟨σ1, H1, I1, q1⟩ => ?_)
  exact h2 pins s1 σ1 H1 _ _ Q I1 rr q1
noncomputable def gTup (K : PySem.W.Frag) (n : Nat) (t : TGs) : TG := fun v σ H Q => ∃ a xs, v = .ref a /\ SqT K H a xs /\ xs.length = n /\ t xs σ H Q
theorem pg_tup {es : List Expr} {k : Nat} {t : TGs} {n : Nat} (hc : X.calm = true) (h : PGs X es t)
  (hn : (assignEach es X.env).length = n := by rfl) (hst : (assignEach es X.env).findIdx? (·.1) = none := by rfl) : PG X (.Tuple es k pos) (gTup X.K n t) := by
 intro pins s σ H v u Q I r hw
 obtain ⟨a, xs, e1, hq, hl, hw⟩ := hw
 subst e1
 cases r
 obtain ⟨its, rv, ht, hz⟩ := I.tuple hq
 refine assign_Tuple_tuple (I.ok.hd hc) ht (by simp [hn, <- hl, rv.length]) hst fun h' hx => ?_
 have I1 : Inv X pins σ H { s with heap := h' } := I.kept (t' := s.toks) fun b o e => hx b o (Nat.ne_of_lt (Heap.lt_size e)) e
 exact h pins _ σ H xs _ Q I1 (by simpa using rv) hw
noncomputable def gSub (to ti : TE) (t : TSet) : TG := fun v σ H Q => to σ H fun o H1 => ti σ H1 fun i H2 => t o i v H2 fun H3 => Q σ H3
theorem pg_sub {o i : Expr} {to ti : TE} {t : TSet} (ho : PE X o to) (hi : PE X i ti) (hs : PSet X t)
  (ha : ∀ v, assign (.Subscript o i pos) X.env v = (do
   let ov <- holding [v] (eval o X.env)
   let iv <- holding [v, ov] (eval i X.env)
   standAt pos
   holding [v, ov, iv] (setItem ov iv v)
   release [v, ov, iv] []) := by intro _; rfl) : PG X (.Subscript o i pos) (gSub to ti t) := by
 intro pins s σ H v u Q I r h
 rw [ha]
 refine wpAny_bind (wpAny_holding (thn (ho pins s σ H _ I h) fun ov s1 ⟨x, H1, I1, r1, q1⟩ => ?_))
 refine wpAny_bind (wpAny_holding (thn (hi pins s1 σ H1 _ I1 q1) fun iv s2 ⟨y, H2, I2, r2, q2⟩ => ?_))
 refine wpAny_bind (wpAny_standAt (wpAny_bind (wpAny_holding (thn (hs pins s2 σ H2 x y v ov iv u _ I2 r1 r2 r q2) fun _ s3 ⟨H3, I3, q3⟩ => ?_))))
 exact wpAny_release ⟨σ, H3, I3, q3⟩
noncomputable def wW (te : TE) (g : TG) : TS := fun D σ H => te σ H fun x H1 => g x σ H1 D.nx
theorem ym {tg e : Expr} {te : TE} {g : TG} (he : PE X e te) (hg : PG X tg g) (hs : swapsWithSole [tg] e pos.line X.env = pure false := by rfl) (hw : swappedStores [tg] e X.env = pure none := by rfl)
  (h1 : (assignEach [tg] X.env).map (·.2) = [assign tg X.env] := by rfl) : PS X (.Assign [tg] e pos) (wW te g) := by
 show 'Փ'
 refine wpAny_Assign_stores (thn (he pins s σ H _ I h) fun v s1 ⟨x, H1, I1, r1, q1⟩ => ?_) hs hw
 rw [h1]
 exact thn (hg pins s1 σ H1 x v _ I1 r1 q1) fun _ s2 q => q
theorem tB {i : Nat} {x : Str} {e : Expr} {te : TE} {pos' : Pos} (hN : X.N.Nodup) (hi : X.N[i]? = some x) (hx : Loc X.env.scope x) (he : PE X e te) (hs : swapsWith e (some (.Name x pos')) pos.line X.env = pure false := by rfl) (hf : X.fn x = true \/ X.env.scope.names.lookup x = some .local := by first | exact .inl rfl | exact .inr rfl | assumption) :
  PS X (.Assign [.Name x pos'] e pos) (wW te (mP i)) := by
 show 'Փ'
 refine wpAny_Assign_Name (thn (he pins s σ H _ I h) fun v s1 ⟨y, H1, I1, r1, q1⟩ => ?_) hs
 exact og I1 hN hi hx r1 (fun s2 I2 => ⟨_, H1, I2, q1⟩) hf
end
section
variable {X : Cx} {pos : Pos}
noncomputable def tWhile (c : TT) (tb : TS) : TS := fun D σ H => ∃ W : Nat -> St -> Hp -> Prop, (∃ m, W m σ H) /\ ∀ m σ H, W m σ H ->
 c σ H fun b H1 => if b = true then ∃ N : St -> Hp -> Prop, (∀ σ' H', N σ' H' -> ∃ m', m' < m /\ W m' σ' H') /\ tb { D with nx := N, ct := N, bk := D.nx } σ H1 else D.nx σ H1
theorem ps_while {c : Expr} {body : List Stmt} {tc : TT} {tb : TS} (hp : PassesOwn (model X.prog X.w) X.A X.env X.xe) (hc : PT X c tc) (hb : PSs X body tb) : PS X (.While c body [] pos) (tWhile tc tb) := by
 show 'Փ'
 obtain ⟨W, ⟨m0, w0⟩, turn⟩ := h
 refine wpAny_While (codeAny_whileLoop (fun n s' => ∃ σ' H', Inv X pins σ' H' s' /\ W n σ' H') ?_ m0 ⟨σ, H, I, w0⟩)
 rintro n s1 ⟨σ1, H1, I1, w1⟩
 refine wpAny_passesOwn hp (thn (hc pins s1 σ1 H1 _ I1 (turn n σ1 H1 w1)) fun b s2 ⟨H2, I2, q2⟩ => ?_)
 cases b with
 | true =>
  obtain ⟨N, hN, q2⟩ := q2
  rw [if_pos rfl]
  refine wpAny_passesOwn hp (thn (hb pins s2 σ1 H2 _ I2 q2) fun f s3 q3 => ?_)
  cases f with
  | next =>
   obtain ⟨σ3, H3, I3, n3⟩ := q3
   obtain ⟨m', hm, w3⟩ := hN σ3 H3 n3
   exact ⟨m', hm, σ3, H3, I3, w3⟩
  | cont =>
   obtain ⟨σ3, H3, I3, n3⟩ := q3
   obtain ⟨m', hm, w3⟩ := hN σ3 H3 n3
   exact ⟨m', hm, σ3, H3, I3, w3⟩
  | brk => exact q3
  | ret v => exact q3
 | false =>
  rw [if_neg Bool.false_ne_true]
  exact wpAny_execs_nil ⟨σ1, H2, I2, q2⟩
end
structure It where
 go : Nat -> Hp -> Prop
 yld : Nat -> Hp -> V -> Hp -> Prop
 stop : Nat -> Hp -> Prop
noncomputable def xK (X : Cx) (pins : List (Addr × Obj)) (H : Hp) (b : Addr) : Prop :=
 H b = none /\ b ≠ X.env.locals /\ b ∉ X.fs /\ (b ∈ X.ex \/ X.s₀.heap.objs.size <= b) /\ (∀ x c, X.env.cells.lookup x = some c -> c ≠ b) /\ ∀ p ∈ X.pn ++ pins, p.1 ≠ b
theorem Inv.fpOk {X : Cx} {pins : List (Addr × Obj)} {σ : St} {H H' : Hp} {s : Shared} {b : Addr} (I : Inv X pins σ H s) (hb : s.heap.objs.size <= b) (hn : H' b = none) : xK X pins H' b := by
 refine ⟨hn, Nat.ne_of_gt (Nat.lt_of_lt_of_le I.lt hb), I.nofs hb, .inr (Nat.le_trans I.sz hb), fun x c e z => ?_, fun p hp z => ?_⟩
 ·obtain ⟨v, q⟩ := I.cell x c e
  exact absurd (Nat.lt_of_lt_of_le q.lt (by rw [z]; exact hb)) (Nat.lt_irrefl _)
 ·exact absurd (Nat.lt_of_lt_of_le (Heap.lt_size (I.pin p hp).1) (by rw [z]; exact hb)) (Nat.lt_irrefl _)
structure Turn (P : Program) (w : World) (K : PySem.W.Frag) (tg : Expr) (J : It) (fp : List Addr) (it : Addr) (tn : Nat -> Heap -> Prop) : Prop where
 mem : it ∈ fp
 obj : ∀ i h, tn i h -> ∀ b ∈ fp, ∃ o, h.get? b = some o /\ ∀ v, o.data ≠ .cell v
 keep : ∀ i h h', tn i h -> (∀ b ∈ fp, ∀ o, h.get? b = some o -> h'.get? b = some o) -> tn i h'
 item : ∀ (X : Cx), X.prog = P -> X.w = w -> X.K = K -> X.calm = true -> ∀ (i : Nat) (pins : List (Addr × Obj)) (s : Shared) (σ : St) (H : Hp) (E : Value -> Shared -> Prop), Inv X pins σ H s -> (∀ b ∈ fp, xK X pins H b) -> tn i s.heap -> J.go i H ->
  wpAny (model P w) X.A (pyNext (.ref it)) (fun r s1 => ∃ u, r = some u /\
   wpAny (model P w) X.A (letOwnedTupleGo tg (.ref it) u) (fun _ s2 => ∃ x H', Inv X pins σ H' s2 /\ RelV x u /\ J.yld i H x H' /\ tn (i + 1) s2.heap /\ ∀ b ∈ fp, H' b = none) E s1) E s
 done : ∀ (X : Cx), X.prog = P -> X.w = w -> X.K = K -> X.calm = true -> ∀ (i : Nat) (pins : List (Addr × Obj)) (s : Shared) (σ : St) (H : Hp) (E : Value -> Shared -> Prop), Inv X pins σ H s -> (∀ b ∈ fp, xK X pins H b) -> tn i s.heap -> J.stop i H ->
  wpAny (model P w) X.A (pyNext (.ref it)) (fun r s1 => r = none /\ Inv X pins σ H s1) E s
 self : ∀ (A : Around) (i : Nat) (s : Shared) (Q : Value -> Shared -> Prop) (E : Value -> Shared -> Prop), tn i s.heap -> Q (.ref it) s -> wpAny (model P w) A (pyIter (.ref it)) Q E s
noncomputable abbrev TI := St -> Hp -> (It -> Hp -> Prop) -> Prop
noncomputable def PIE (X : Cx) (pins : List (Addr × Obj)) (σ : St) (tg : Expr) (R : It -> Hp -> Prop) (itv : Value) (s2 : Shared) : Prop :=
 ∃ (it : Addr) (fp : List Addr) (tn : Nat -> Heap -> Prop) (J : It) (H' : Hp), itv = .ref it /\ Inv X pins σ H' s2 /\ Turn X.prog X.w X.K tg J fp it tn /\ tn 0 s2.heap /\ (∀ b ∈ fp, xK X pins H' b) /\ R J H'
noncomputable def PI (X : Cx) (tg iter : Expr) (wi : TI) : Prop :=
 ∀ (pins : List (Addr × Obj)) (s : Shared) (σ : St) (H : Hp) (R : It -> Hp -> Prop), Inv X pins σ H s -> wi σ H R ->
  wpAny (model X.prog X.w) X.A (eval iter X.env) (fun v s1 => wpAny (model X.prog X.w) X.A (pyIter v) (PIE X pins σ tg R) X.xe s1) X.xe s
theorem go_of {M : Model} {A : Around} {E : Value -> Shared -> Prop} {s : Shared} {tg : Expr} {it : Addr} {u : Value} {o : Obj} {n : String} {vs : Array Value} {Q : Unit -> Shared -> Prop} (ho : s.heap.get? it = some o) (hc : o.cls = .type n) (hd : o.data = .fields vs)
    (hn : ["enumerate", "zip", "dict_itemiterator", "dict_reverseitemiterator", "odict_iterator", "itertools.zip_longest", "itertools.pairwise"].contains n = false) (hQ : Q () s) : wpAny M A (letOwnedTupleGo tg (.ref it) u) Q E s := by
  unfold letOwnedTupleGo
  cases tg <;> first
    | exact wpAny_pure hQ
    | (cases u <;> first
        | exact wpAny_pure hQ
        | (refine wpAny_bind (wpAny_load ho ?_)
           rw [hc, hd]
           show wpAny M A (if (["enumerate", "zip", "dict_itemiterator", "dict_reverseitemiterator", "odict_iterator", "itertools.zip_longest", "itertools.pairwise"].contains n && vs[0]? == some (rawInt _)) = true then _ else _) Q E s
           rw [if_neg (by intro h; rw [hn, Bool.false_and] at h; cases h)]
           exact wpAny_pure hQ))
noncomputable def Itl (K : PySem.W.Frag) (a : Addr) : It :=
 ⟨fun i H => ∃ xs x, SqL K H a xs /\ xs[i]? = some x, fun i H x H' => H' = H /\ ∀ xs, SqL K H a xs -> xs[i]? = some x, fun i H => ∃ xs, SqL K H a xs /\ xs.length <= i⟩
noncomputable def Itt (K : PySem.W.Frag) (a : Addr) : It :=
 ⟨fun i H => ∃ xs x, SqT K H a xs /\ xs[i]? = some x, fun i H x H' => H' = H /\ ∀ xs, SqT K H a xs -> xs[i]? = some x, fun i H => ∃ xs, SqT K H a xs /\ xs.length <= i⟩
noncomputable def Itr (lo : Int) (n : Nat) : It := ⟨fun i _ => i < n, fun i H x H' => H' = H /\ x = .int (lo + i), fun i _ => n <= i⟩
theorem xS {P : Program} {w : World} {K : PySem.W.Frag} {tg : Expr} (a it : Addr) : Turn P w K tg (Itl K a) [it] it (fun i h => h.IsListIter it a i) where
 mem := by simp
 obj := fun i h st b hb => by
  show 'յ'
 keep := fun i h h' st k => st.at fun o e => k it (by simp) o e
 item := by
  show 'Ճ'
  obtain ⟨xs, x, hq, hx⟩ := hg
  show 'ղ'
  obtain ⟨u, hu, ru⟩ := rv.get hx
  show 'Ր'
  refine wpAny_pyNext_list_item st p.isList (x := u) (by simpa using hu) fun h' st' sb => ?_
  show 'ժ'
  exact ⟨u, rfl, go_of (s := { s with heap := h' }) e c d (by decide) ⟨x, H, I1, ru, ⟨rfl, fun ys hy => by rw [I.w9 hy hq]; exact hx⟩, st', fun b hb => (hf b hb).1⟩⟩
 done := by
  show 'Ճ'
  obtain ⟨xs, hq, hx⟩ := hg
  show 'ղ'
  show 'Ր'
  have hl := rv.length
  exact wpAny_pyNext_list_end (I.ok.hd hc) st p.isList (by simp; omega) fun h' eb => ⟨rfl, I.turned (t' := s.toks) (fun b o hb e => eb b o hb e) f0 f1 f3 f4 f5⟩
 self := fun _ _ _ _ _ st h => wpAny_pyIter_listiter st h
theorem wU {P : Program} {w : World} {K : PySem.W.Frag} {tg : Expr} (a it : Addr) : Turn P w K tg (Itt K a) [it] it (fun i h => h.IsTupleIter it a i) where
 mem := by simp
 obj := fun i h st b hb => by
  show 'յ'
 keep := fun i h h' st k => st.at fun o e => k it (by simp) o e
 item := by
  show 'Ճ'
  obtain ⟨xs, x, hq, hx⟩ := hg
  obtain ⟨its, rv, p, hz⟩ := I.tuple hq
  obtain ⟨u, hu, ru⟩ := rv.get hx
  show 'Ր'
  refine wpAny_pyNext_tuple_item st (show s.heap.IsTuple a its.toArray from p) (x := u) (by simpa using hu) fun h' st' sb => ?_
  show 'ժ'
  exact ⟨u, rfl, go_of (s := { s with heap := h' }) e c d (by decide) ⟨x, H, I1, ru, ⟨rfl, fun ys hy => by rw [I.xU hy hq]; exact hx⟩, st', fun b hb => (hf b hb).1⟩⟩
 done := by
  show 'Ճ'
  obtain ⟨xs, hq, hx⟩ := hg
  obtain ⟨its, rv, p, hz⟩ := I.tuple hq
  show 'Ր'
  have hl := rv.length
  exact wpAny_pyNext_tuple_end (I.ok.hd hc) st (show s.heap.IsTuple a its.toArray from p) (by simp; omega) fun h' eb => ⟨rfl, I.turned (t' := s.toks) (fun b o hb e => eb b o hb e) f0 f1 f3 f4 f5⟩
 self := fun _ _ _ _ _ st h => wpAny_pyIter_tupleiter st h
theorem wV {P : Program} {w : World} {K : PySem.W.Frag} {tg : Expr} (it : Addr) (lo : Int) (n : Nat) : Turn P w K tg (Itr lo n) [it] it (fun i h => IsRangeIter h it (lo + (i : Nat) * 1) ((n : Int) - (i : Nat)) 1) where
 mem := by simp
 obj := fun i h st b hb => by
  have e : b = it := by simpa using hb
  subst e
  exact ⟨_, st, fun v z => by
   have z' : Data.fields _ = Data.cell v := z
   cases z'⟩
 keep := fun i h h' st k => k it (by simp) _ st
 item := by
  show 'Ճ'
  show 'Ր'
  have W := Walks.range (prog := X.prog) (w := X.w) (I.ok.hd hc) it lo 1 n
  refine W.item i s _ _ hg st fun v h' tk hv st' kk => ?_
  obtain ⟨t, rfl⟩ := hv
  have I1 : Inv X pins σ H { s with heap := h', toks := tk } := I.turned (fun b o hb e => kk b o (by simpa using hb) e) f0 f1 f3 f4 f5
  refine ⟨_, rfl, go_of (s := { s with heap := h', toks := tk }) (n := "range_iterator") st' rfl rfl (by decide) ⟨.int (lo + i), H, I1, ⟨t, ?_⟩, ⟨rfl, rfl⟩, st', fun b hb => (hf b hb).1⟩⟩
  rw [Int.mul_one]
 done := by
  show 'Ճ'
  show 'Ր'
  exact wpAny_pyNext_range_end (I.ok.hd hc) st (by have : n <= i := hg; omega) fun h' eb => ⟨rfl, I.turned (t' := s.toks) (fun b o hb e => eb b o hb e) f0 f1 f3 f4 f5⟩
 self := fun _ _ _ _ _ st h => wpAny_pyIter_rangeiter st h
end L2
namespace L2
open PySem PySem.Spec PyProof.Rows
section
variable {X : Cx} {tg : Expr}
theorem vV {pins : List (Addr × Obj)} {σ : St} {H : Hp} {s : Shared} {R : It -> Hp -> Prop} {E : Value -> Shared -> Prop} {lo hi : Int} {t u v : Tok} {tk : Nat} (I : Inv X pins σ H s) (h1 : -(2 ^ 62) <= lo) (h2 : lo < 2 ^ 62) (h3 : -(2 ^ 62) <= hi) (h4 : hi < 2 ^ 62)
  (q : R (Itr lo (hi - lo).toNat) H) : wpAny (model X.prog X.w) X.A (pyIter (.ref s.heap.objs.size)) (PIE X pins σ tg R) E { s with heap := s.heap.push { cls := .type "range", data := .fields #[.int lo t, .int hi u, .int 1 v] }, toks := tk } := by
 refine wpAny_pyIter_range (IsRange.new ..) (small_one h1 h2 h3 h4) ?_
 have I1 : Inv X pins σ H { s with heap := s.heap.push { cls := .type "range", data := .fields #[.int lo t, .int hi u, .int 1 v] }, toks := tk } := I.kept fun b o e => Heap.get?_push_of_some _ e
 refine ⟨(s.heap.push { cls := .type "range", data := .fields #[.int lo t, .int hi u, .int 1 v] }).objs.size, [(s.heap.push { cls := .type "range", data := .fields #[.int lo t, .int hi u, .int 1 v] }).objs.size], _, _, H, rfl,
  I1.kept (t' := tk) fun b o e => Heap.get?_push_of_some _ e, wV _ lo (hi - lo).toNat, ?_, fun b hb => ?_, q⟩
 ·have e1 : lo + ((0 : Nat) : Int) * 1 = lo := by simp
  have e2 : (((hi - lo).toNat : Nat) : Int) - ((0 : Nat) : Int) = Builtin.Range.rangeSize lo hi 1 := by rw [rangeSize_one]; split <;> omega
  show IsRangeIter _ _ (lo + ((0 : Nat) : Int) * 1) ((((hi - lo).toNat : Nat) : Int) - ((0 : Nat) : Int)) 1
  rw [e1, e2]
  exact Heap.get?_push_size _ rfl
 ·have e : b = (s.heap.push { cls := .type "range", data := .fields #[.int lo t, .int hi u, .int 1 v] }).objs.size := by simpa using hb
  subst e
  exact I1.fpOk (Nat.le_refl _) (I1.hok.fresh (Nat.le_refl _))
noncomputable def iRng1 (ta : TA) : TI := fun σ H R => ta σ H fun vs H1 => ∃ j : Int, vs = [.int j] /\ -(2 ^ 62) <= j /\ j < 2 ^ 62 /\ R (Itr 0 j.toNat) H1
noncomputable def iRng2 (ta : TA) : TI := fun σ H R => ta σ H fun vs H1 => ∃ i j : Int, vs = [.int i, .int j] /\ (-(2 ^ 62) <= i /\ i < 2 ^ 62 /\ -(2 ^ 62) <= j /\ j < 2 ^ 62) /\ R (Itr i (j - i).toNat) H1
theorem yq {a : Expr} {ta : TA} {p pos : Pos} (hg : Gl X "range") (hm : X.mg "range" = none) (ha : PA X [a] ta) (hs : starEach [a] X.env = [(false, eval a X.env)] := by rfl) : PI X tg (.Call (.Name "range" p) [a] [] pos) (iRng1 ta) := by
 intro pins s σ H R I h
 refine Call_ (nU I hg hm boot_range (PyProof.Rows.callWith_type1 (thn (ha pos pins s σ H _ I h) fun us s1 ⟨vs, H1, I1, r1, q1⟩ => ?_) hs rfl))
 obtain ⟨j, e, q1, q2, q⟩ := q1
 subst e
 cases r1 with
 | cons r rr =>
  cases rr
  obtain ⟨t, rfl⟩ := r
  exact call_range_1 (vV I1 (by omega) (by omega) q1 q2 (by simpa using q))
theorem yp {a b : Expr} {ta : TA} {p pos : Pos} (hg : Gl X "range") (hm : X.mg "range" = none) (ha : PA X [a, b] ta) (hs : starEach [a, b] X.env = [(false, eval a X.env), (false, eval b X.env)] := by rfl) (hs2 : starEach [b] X.env = [(false, eval b X.env)] := by rfl) :
  PI X tg (.Call (.Name "range" p) [a, b] [] pos) (iRng2 ta) := by
 intro pins s σ H R I h
 refine Call_ (nU I hg hm boot_range (PyProof.Rows.callWith_type1 (thn (ha pos pins s σ H _ I h) fun us s1 ⟨vs, H1, I1, r1, q1⟩ => ?_) (by rw [hs, hs2]) (by rw [hs2]; rfl)))
 obtain ⟨i, j, e, ⟨q1, q2, q3, q4⟩, q⟩ := q1
 subst e
 cases r1 with
 | cons r rr =>
  cases rr with
  | cons r' rr =>
   cases rr
   obtain ⟨t, rfl⟩ := r
   obtain ⟨t', rfl⟩ := r'
   exact call_range_2 (vV I1 q1 q2 q3 q4 q)
noncomputable def tFor (wi : TI) (g : TG) (tb : TS) : TS := fun D σ H => wi σ H fun J H1 => ∃ W : Nat -> Nat -> St -> Hp -> Prop, (∃ m, W 0 m σ H1) /\ ∀ i m σ H, W i m σ H ->
 (J.stop i H /\ D.nx σ H) \/ (J.go i H /\ ∃ N : St -> Hp -> Prop, (∀ σ' H', N σ' H' -> ∃ m', m' < m /\ W (i + 1) m' σ' H') /\ ∀ x H', J.yld i H x H' -> g x σ H' fun σ2 H2 => tb { D with nx := N, ct := N, bk := D.nx } σ2 H2)
noncomputable def tF (fp : List Addr) (h : Heap) : List (Addr × Obj) := fp.filterMap fun b => (h.get? b).map fun o => (b, o)
theorem lN {fp : List Addr} {h : Heap} {b : Addr} {o : Obj} (hb : b ∈ fp) (e : h.get? b = some o) : (b, o) ∈ tF fp h := List.mem_filterMap.mpr ⟨b, hb, by rw [e]; rfl⟩
theorem yD {fp : List Addr} {h : Heap} {p : Addr × Obj} (hp : p ∈ tF fp h) : p.1 ∈ fp /\ h.get? p.1 = some p.2 := by
 obtain ⟨b, hb, e⟩ := List.mem_filterMap.mp hp
 cases q : h.get? b with
 | none => rw [q] at e; cases e
 | some o =>
  rw [q] at e
  have e' : (b, o) = p := Option.some.inj e
  subst e'
  exact ⟨hb, q⟩
theorem Inv.pinned {pins : List (Addr × Obj)} {σ : St} {H : Hp} {s : Shared} {fp : List Addr} (I : Inv X pins σ H s) (hf : ∀ b ∈ fp, xK X pins H b) (ho : ∀ b ∈ fp, ∃ o, s.heap.get? b = some o /\ ∀ v, o.data ≠ .cell v) : Inv X (pins ++ tF fp s.heap) σ H s :=
 I.rF fun p hp => (List.mem_append.mp hp).elim (fun z => I.pin p (List.mem_append_right _ z)) fun z => by
  obtain ⟨hb, e⟩ := yD z
  obtain ⟨f0, f1, f2, _⟩ := hf p.1 hb
  obtain ⟨o, e', d⟩ := ho p.1 hb
  rw [e] at e'; cases e'
  exact ⟨e, f0, f1, f2, d⟩
theorem Inv.rn {pins pl : List (Addr × Obj)} {σ : St} {H : Hp} {s : Shared} (I : Inv X (pins ++ pl) σ H s) : Inv X pins σ H s := I.rF fun p hp => I.pin p (List.mem_append_right _ (List.mem_append_left _ hp))
theorem ps_for {iter : Expr} {body : List Stmt} {wi : TI} {g : TG} {tb : TS} {pos : Pos} (hp : PassesOwn (model X.prog X.w) X.A X.env X.xe) (hc : X.calm = true) (hi : PI X tg iter wi) (hg : PG X tg g) (hb : PSs X body tb)
  (hs : ∀ x, foldedSetIterable iter X.env x = pure x := by intro _; rfl) : PS X (.For tg iter body [] pos) (tFor wi g tb) := by
 show 'Փ'
 refine wpAny_For (thn (hi pins s σ H _ I h) fun v s1 h1 => thn h1 fun itv s2 h2 => ?_) hs
 obtain ⟨it, fp, tn, J, H2, e, I2, T, st2, f2, W, ⟨m0, w0⟩, turn⟩ := h2
 subst e
 have stat : ∀ {H' : Hp}, (∀ b ∈ fp, H' b = none) -> ∀ b ∈ fp, xK X pins H' b := fun hn b hb => ⟨hn b hb, (f2 b hb).2⟩
 refine codeAny_forLoop_any (fun n s' => ∃ i σ' H', Inv X pins σ' H' s' /\ tn i s'.heap /\ (∀ b ∈ fp, H' b = none) /\ W i n σ' H') ?_ m0 ⟨0, σ, H2, I2, st2, fun b hb => (f2 b hb).1, w0⟩
 rintro n s3 ⟨i, σ3, H3, I3, st3, fr3, w3⟩
 rcases turn i n σ3 H3 w3 with ⟨stop, qn⟩ | ⟨go, N, hN, step⟩
 ·refine wpAny_passesOwn hp (thn (T.done X rfl rfl rfl hc i pins s3 σ3 H3 X.xe I3 (stat fr3) st3 stop) fun r s4 ⟨hr, I4⟩ => ?_)
  subst hr
  exact wpAny_execs_nil ⟨σ3, H3, I4, qn⟩
 ·refine wpAny_passesOwn hp (thn (T.item X rfl rfl rfl hc i pins s3 σ3 H3 X.xe I3 (stat fr3) st3 go) fun r s4 ⟨u, hr, h4⟩ => ?_)
  subst hr
  refine wpAny_passesOwn hp (thn h4 fun _ s5 ⟨x, H5, I5, r5, y5, st5, fr5⟩ => ?_)
  have I5' := I5.pinned (stat fr5) (T.obj _ _ st5)
  refine wpAny_passesOwn hp (thn (hg _ s5 σ3 H5 x u _ I5' r5 (step x H5 y5)) fun _ s6 ⟨σ6, H6, I6, q6⟩ => ?_)
  refine wpAny_passesOwn hp (thn (hb _ s6 σ6 H6 _ I6 q6) fun f s7 q7 => ?_)
  have again : ∀ {σ7 : St} {H7 : Hp}, Inv X (pins ++ tF fp s5.heap) σ7 H7 s7 -> N σ7 H7 -> ∃ m, m < n /\ ∃ i σ' H', Inv X pins σ' H' s7 /\ tn i s7.heap /\ (∀ b ∈ fp, H' b = none) /\ W i m σ' H' := fun {σ7 H7} I7 n7 => by
   obtain ⟨m', hm, w7⟩ := hN σ7 H7 n7
   refine ⟨m', hm, i + 1, σ7, H7, I7.rn, T.keep _ _ _ st5 fun b hb o e => (I7.pin (b, o) (List.mem_append_right _ (List.mem_append_right _ (lN hb e)))).1, fun b hb => ?_, w7⟩
   obtain ⟨o, e, d⟩ := T.obj _ _ st5 b hb
   exact (I7.pin (b, o) (List.mem_append_right _ (List.mem_append_right _ (lN hb e)))).2.1
  cases f with
  | next => obtain ⟨σ7, H7, I7, n7⟩ := q7; exact again I7 n7
  | cont => obtain ⟨σ7, H7, I7, n7⟩ := q7; exact again I7 n7
  | brk => obtain ⟨σ7, H7, I7, q7⟩ := q7; exact ⟨σ7, H7, I7.rn, q7⟩
  | ret v => obtain ⟨x7, σ7, H7, I7, r7, q7⟩ := q7; exact ⟨x7, σ7, H7, I7.rn, r7, q7⟩
end
end L2
namespace L2
open PySem PySem.Spec PyProof.Rows
noncomputable abbrev R2 := V -> V -> Hp -> VK -> Prop
noncomputable def OpR (X : Cx) (f : Value -> Value -> Sem Value) (r : R2) : Prop :=
 ∀ (pins : List (Addr × Obj)) (s : Shared) (σ : St) (H : Hp) (x y : V) (v u : Value) (Q : VK), Inv X pins σ H s -> RelV x v -> RelV y u -> r x y H Q ->
  wpAny (model X.prog X.w) X.A (f v u) (EP X pins σ Q) X.xe s
noncomputable def UnR (X : Cx) (f : Value -> Sem Value) (r : V -> Hp -> VK -> Prop) : Prop :=
 ∀ (pins : List (Addr × Obj)) (s : Shared) (σ : St) (H : Hp) (x : V) (v : Value) (Q : VK), Inv X pins σ H s -> RelV x v -> r x H Q ->
  wpAny (model X.prog X.w) X.A (f v) (EP X pins σ Q) X.xe s
noncomputable def dq (X : Cx) (f : Value) (r : List V -> Hp -> VK -> Prop) : Prop :=
 ∀ (pins : List (Addr × Obj)) (s : Shared) (σ : St) (H : Hp) (xs : List V) (us : List Value) (Q : VK), Inv X pins σ H s -> Vals xs us -> r xs H Q ->
  wpAny (model X.prog X.w) X.A (call f us) (EP X pins σ Q) X.xe s
noncomputable def TruR (X : Cx) (r : V -> Hp -> (Bool -> Hp -> Prop) -> Prop) : Prop :=
 ∀ (pins : List (Addr × Obj)) (s : Shared) (σ : St) (H : Hp) (x : V) (v : Value) (Q : Bool -> Hp -> Prop), Inv X pins σ H s -> RelV x v -> r x H Q ->
  wpAny (model X.prog X.w) X.A (truthy v) (TP X pins σ Q) X.xe s
noncomputable def tOp (r : R2) (ta tb : TE) : TE := fun σ H Q => ta σ H fun x H1 => tb σ H1 fun y H2 => r x y H2 Q
noncomputable def tUn (r : V -> Hp -> VK -> Prop) (ta : TE) : TE := fun σ H Q => ta σ H fun x H1 => r x H1 Q
noncomputable def rI (C : Int -> Int -> Prop) (g : Int -> Int -> V) : R2 := fun x y H Q => ∃ i j, x = .int i /\ y = .int j /\ C i j /\ Q (g i j) H
noncomputable def rI0 (g : Int -> Int -> V) : R2 := fun x y H Q => ∃ i j, x = .int i /\ y = .int j /\ Q (g i j) H
noncomputable def rU (g : Int -> V) : V -> Hp -> VK -> Prop := fun x H Q => ∃ i, x = .int i /\ Q (g i) H
section
variable {X : Cx} {a b c : Expr} {ta tb tc : TE} {pos : Pos}
theorem binT (ha : PE X a ta) (hb : PE X b tb) {pins : List (Addr × Obj)} {s : Shared} {σ : St} {H : Hp} {R : V -> V -> Hp -> Prop} (I : Inv X pins σ H s)
  (h : ta σ H fun x H1 => tb σ H1 fun y H2 => R x y H2) {Q : Value -> Shared -> Prop} {f : Value -> Value -> Sem Value}
  (hf : ∀ v u s2 x y H2, Inv X pins σ H2 s2 -> RelV x v -> RelV y u -> R x y H2 -> wpAny (model X.prog X.w) X.A (f v u) Q X.xe s2) :
  wpAny (model X.prog X.w) X.A (eval a X.env) (fun v s₁ => wpAny (model X.prog X.w) X.A (eval b X.env) (fun u s₂ => wpAny (model X.prog X.w) X.A (f v u) Q X.xe s₂) X.xe s₁) X.xe s := by
 refine thn (ha pins s σ H _ I h) fun v s1 ⟨x, H1, I1, r1, q1⟩ => ?_
 refine thn (hb pins s1 σ H1 _ I1 q1) fun u s2 ⟨y, H2, I2, r2, q2⟩ => ?_
 exact hf v u s2 x y H2 I2 r1 r2 q2
theorem pe_op {op : Operator} {r : R2} (ho : OpR X (binaryOp op) r) (ha : PE X a ta) (hb : PE X b tb) : PE X (.BinOp a op b pos) (tOp r ta tb) := by
 show 'Պ'
 exact wpAny_BinOp (binT ha hb I h fun v u s2 x y H2 I2 rx ry q => ho pins s2 σ H2 x y v u Q I2 rx ry q)
theorem pe_un {op : UnaryOp} {r : V -> Hp -> VK -> Prop} (ho : UnR X (unaryOp op) r) (ha : PE X a ta) : PE X (.UnaryOp op a pos) (tUn r ta) := by
 show 'Պ'
 exact UnaryOp_ (thn (ha pins s σ H _ I h) fun v s1 ⟨x, H1, I1, r1, q1⟩ => ho pins s1 σ H1 x v Q I1 r1 q1)
theorem opI {f : Value -> Value -> Sem Value} {C : Int -> Int -> Prop} {g : Int -> Int -> Int}
  (rule : ∀ (i j : Int) (t u : Tok) (s : Shared) (Q : Value -> Shared -> Prop) (E : Value -> Shared -> Prop), C i j -> Q (.int (g i j) s.toks) { s with toks := s.toks + 1 } -> wpAny (model X.prog X.w) X.A (f (.int i t) (.int j u)) Q E s) :
  OpR X f (rI C fun i j => .int (g i j)) := by
 show 'Ն'
 obtain ⟨i, j, rfl, rfl, hc, q⟩ := h
 show 'բ'
 obtain ⟨t', rfl⟩ := ry
 exact rule i j t t' s _ _ hc ⟨.int (g i j), H, I.tok _, ⟨_, rfl⟩, q⟩
theorem opI0 {f : Value -> Value -> Sem Value} {g : Int -> Int -> Int}
  (rule : ∀ (i j : Int) (t u : Tok) (s : Shared) (Q : Value -> Shared -> Prop) (E : Value -> Shared -> Prop), Q (.int (g i j) s.toks) { s with toks := s.toks + 1 } -> wpAny (model X.prog X.w) X.A (f (.int i t) (.int j u)) Q E s) :
  OpR X f (rI0 fun i j => .int (g i j)) := by
 show 'Ն'
 obtain ⟨i, j, rfl, rfl, q⟩ := h
 show 'բ'
 obtain ⟨t', rfl⟩ := ry
 exact rule i j t t' s _ _ ⟨.int (g i j), H, I.tok _, ⟨_, rfl⟩, q⟩
theorem opB0 {f : Value -> Value -> Sem Value} {g : Int -> Int -> Bool}
  (rule : ∀ (i j : Int) (t u : Tok) (s : Shared) (Q : Value -> Shared -> Prop) (E : Value -> Shared -> Prop), Q (.bool (g i j)) s -> wpAny (model X.prog X.w) X.A (f (.int i t) (.int j u)) Q E s) :
  OpR X f (rI0 fun i j => .bl (g i j)) := by
 show 'Ն'
 obtain ⟨i, j, rfl, rfl, q⟩ := h
 show 'բ'
 obtain ⟨t', rfl⟩ := ry
 exact rule i j t t' s _ _ ⟨.bl (g i j), H, I, rfl, q⟩
noncomputable def CPow (i j : Int) : Prop := 0 <= j /\ j <= 1000000 /\ i.natAbs < 2 ^ 64
noncomputable def CMul (i j : Int) : Prop := (-(2 ^ 64) < i /\ i < 2 ^ 64) \/ (-(2 ^ 64) < j /\ j < 2 ^ 64)
theorem CMul.ok {i j : Int} (h : CMul i j) : IntMulOk i j := by
 rcases h with ⟨h1, h2⟩ | ⟨h1, h2⟩
 ·exact .of_left (intBits_le_64 h1 h2)
 ·exact .of_right (intBits_le_64 h1 h2)
theorem op_add : OpR X (binaryOp .Add) (rI0 fun i j => .int (i + j)) := opI0 fun _ _ _ _ _ _ _ q => add_int q
theorem op_sub : OpR X (binaryOp .Sub) (rI0 fun i j => .int (i - j)) := opI0 fun _ _ _ _ _ _ _ q => sub_int q
theorem op_mul : OpR X (binaryOp .Mult) (rI CMul fun i j => .int (i * j)) := opI fun _ _ _ _ _ _ _ hc q => mul_int q hc.ok
theorem op_mod : OpR X (binaryOp .Mod) (rI (fun _ j => 0 < j) fun i j => .int (i % j)) := opI fun i j _ _ _ _ _ hc q => by
 have h1 : (0 : Int) < j := hc
 exact mod_int' (by omega) (by rw [Int.fmod_eq_emod_of_nonneg i (by omega)]; exact q)
theorem op_pow : OpR X (binaryOp .Pow) (rI CPow fun i j => .int (i ^ j.toNat)) := opI fun _ _ _ _ _ _ _ hc q => pow_int_small hc.1 hc.2.1 hc.2.2 q
theorem unI {f : Value -> Sem Value} {g : Int -> Int}
  (rule : ∀ (i : Int) (t : Tok) (s : Shared) (Q : Value -> Shared -> Prop) (E : Value -> Shared -> Prop), Q (.int (g i) s.toks) { s with toks := s.toks + 1 } -> wpAny (model X.prog X.w) X.A (f (.int i t)) Q E s) :
  UnR X f (rU fun i => .int (g i)) := by
 intro pins s σ H x v Q I rx h
 obtain ⟨i, rfl, q⟩ := h
 show 'բ'
 exact rule i t s _ _ ⟨.int (g i), H, I.tok _, ⟨_, rfl⟩, q⟩
theorem un_neg : UnR X (unaryOp .USub) (rU fun i => .int (-i)) := unI fun _ _ _ _ _ q => neg_int q
end
noncomputable def scal : V -> V -> Bool
 | .non, .non => true | .non, .int _ => true | .int _, .non => true | .non, .bl _ => true | .bl _, .non => true | .non, .str _ => true | .str _, .non => true
 | .int _, .int _ => true | .bl _, .bl _ => true | .str _, .str _ => true | .byt _, .byt _ => true
 | .int _, .str _ => true | .str _, .int _ => true | .bl _, .str _ => true | .str _, .bl _ => true
 | _, _ => false
noncomputable def rNe : R2 := fun x y H Q => scal x y = true /\ Q (.bl (!decide (x = y))) H
theorem dec_int {i j : Int} : decide (V.int i = V.int j) = (i == j) := by
 rw [Bool.eq_iff_iff]
 simp
theorem dec_bl {i j : Bool} : decide (V.bl i = V.bl j) = (i == j) := by
 rw [Bool.eq_iff_iff]
 simp
theorem dec_str {i j : Str} : decide (V.str i = V.str j) = (i == j) := by
 rw [Bool.eq_iff_iff]
 simp
theorem dec_byt {i j : Array UInt8} : decide (V.byt i = V.byt j) = (i.toList == j.toList) := by
 rw [Bool.eq_iff_iff]
 cases i
 cases j
 simp
section
variable {X : Cx} {a b c : Expr} {ta tb tc : TE} {pos : Pos}
theorem gD {pins : List (Addr × Obj)} {σ : St} {H : Hp} {s : Shared} {Q : VK} {k k' : Bool} (I : Inv X pins σ H s) (q : Q (.bl k) H) (e : k = k') : EP X pins σ Q (.bool k') s := by
 subst e
 exact ⟨.bl k, H, I, rfl, q⟩
theorem op_ne : OpR X (compareOp .NotEq) rNe := by
 show 'Ն'
 obtain ⟨hs, q⟩ := h
 cases x with
 | non =>
  cases rx
  cases y with
  | non => cases ry; exact PySem.EqNone.ne_none_none (gD I q (by simp))
  | bl j => cases ry; exact PySem.EqNone.ne_none_bool (gD I q (by simp))
  | int j => obtain ⟨t', rfl⟩ := ry; exact PySem.EqNone.ne_none_int (gD I q (by simp))
  | str j => obtain ⟨t', rfl⟩ := ry; exact PySem.EqNone.ne_none_str (gD I q (by simp))
  | _ => exact absurd (show false = true from hs) Bool.false_ne_true
 | bl i =>
  cases rx
  cases y with
  | non => cases ry; exact PySem.EqNone.ne_bool_none (gD I q (by simp))
  | bl j => cases ry; exact ne_bool (gD I q (congrArg not dec_bl))
  | str j => obtain ⟨t', rfl⟩ := ry; exact PySem.EqMixed.ne_bool_str (gD I q (by simp))
  | _ => exact absurd (show false = true from hs) Bool.false_ne_true
 | int i =>
  show 'բ'
  cases y with
  | non => cases ry; exact PySem.EqNone.ne_int_none (gD I q (by simp))
  | int j => obtain ⟨t', rfl⟩ := ry; exact ne_int (gD I q (congrArg not dec_int))
  | str j => obtain ⟨t', rfl⟩ := ry; exact PySem.EqMixed.ne_int_str (gD I q (by simp))
  | _ => exact absurd (show false = true from hs) Bool.false_ne_true
 | str i =>
  show 'բ'
  cases y with
  | non => cases ry; exact PySem.EqNone.ne_str_none (gD I q (by simp))
  | bl j => cases ry; exact PySem.EqMixed.ne_str_bool (gD I q (by simp))
  | int j => obtain ⟨t', rfl⟩ := ry; exact PySem.EqMixed.ne_str_int (gD I q (by simp))
  | str j => obtain ⟨t', rfl⟩ := ry; exact ne_str (gD I q (congrArg not dec_str))
  | _ => exact absurd (show false = true from hs) Bool.false_ne_true
 | byt i =>
  show 'բ'
  cases y with
  | byt j => obtain ⟨t', rfl⟩ := ry; exact PySem.W.ne_bytes (gD I q (congrArg not dec_byt))
  | _ => exact absurd (show false = true from hs) Bool.false_ne_true
 | _ => cases y <;> exact absurd (show false = true from hs) Bool.false_ne_true
theorem op_lt : OpR X (compareOp .Lt) (rI0 fun i j => .bl (decide (i < j))) := opB0 fun _ _ _ _ _ _ _ q => lt_int q
theorem op_le : OpR X (compareOp .LtE) (rI0 fun i j => .bl (decide (i <= j))) := opB0 fun _ _ _ _ _ _ _ q => le_int q
theorem op_gt : OpR X (compareOp .Gt) (rI0 fun i j => .bl (decide (j < i))) := opB0 fun _ _ _ _ _ _ _ q => gt_int q
theorem op_isN : OpR X (compareOp .Is) (fun x y H Q => y = .non /\ Q (.bl (decide (x = .non))) H) := by
 show 'Ն'
 obtain ⟨rfl, q⟩ := h
 cases ry
 refine is_none_gen (gD I q ?_)
 cases x <;> first
  | (cases rx; rfl)
  | (obtain ⟨t, rfl⟩ := rx; rfl)
noncomputable def isObj : HO -> Bool
 | .lst _ => true
 | .ins _ _ _ => true
 | _ => false
theorem OpR.or {f : Value -> Value -> Sem Value} {r r' : R2} (h : OpR X f r) (h' : OpR X f r') : OpR X f (fun x y H Q => r x y H Q \/ r' x y H Q) := by
 intro pins s σ H x y v u Q I rx ry q
 rcases q with q | q
 ·exact h pins s σ H x y v u Q I rx ry q
 ·exact h' pins s σ H x y v u Q I rx ry q
theorem yG (b : Expr) {op : CmpOp} (h : op ≠ .In := by decide) (h2 : op ≠ .NotIn := by decide) : behindInMarks op b = false := by
 have e1 : (op == CmpOp.In) = false := by cases op <;> first | rfl | exact absurd rfl h
 have e2 : (op == CmpOp.NotIn) = false := by cases op <;> first | rfl | exact absurd rfl h2
 cases b <;> simp [behindInMarks, e1, e2]
theorem pe_cmpR {op : CmpOp} {r : R2} (ho : OpR X (compareOp op) r) (ha : PE X a ta) (hb : PE X b tb) (hm : behindInMarks op b = false) : PE X (.Compare a [op] [b] pos) (tOp r ta tb) := by
 show 'Պ'
 exact wpAny_Compare1 (binT ha hb I h fun v u s2 x y H2 I2 rx ry q => ho pins s2 σ H2 x y v u Q I2 rx ry q) hm
noncomputable def tTest (t : TE) : TT := fun σ H Q => t σ H fun x H' => ∃ k, x = .bl k /\ Q k H'
theorem yh {op : CmpOp} {r : R2} (ho : OpR X (compareOp op) r) (ha : PE X a ta) (hb : PE X b tb) (hm : behindInMarks op b = false) : PT X (.Compare a [op] [b] pos) (tTest (tOp r ta tb)) := by
 show 'Պ'
 refine wpAny_isTrue_Compare1 (thn (ha pins s σ H _ I h) fun v s1 ⟨x, H1, I1, r1, q1⟩ => thn (hb pins s1 σ H1 _ I1 q1) fun u s2 ⟨y, H2, I2, r2, q2⟩ =>
  thn (ho pins s2 σ H2 x y v u _ I2 r1 r2 q2) fun c s3 ⟨z, H3, I3, r3, k, e, q3⟩ => ?_) hm
 subst e
 cases r3
 exact wpAny_truthy_bool ⟨H3, I3, q3⟩
noncomputable def xX (r r' : R2) (ta tb tc : TE) : TE := fun σ H Q => ta σ H fun x H1 => tb σ H1 fun y H2 => r x y H2 fun z H3 => ∃ k, z = .bl k /\
 (if k = true then tc σ H3 fun w' H4 => r' y w' H4 Q else Q (.bl false) H3)
theorem pe_chain {op op' : CmpOp} {r r' : R2} (ho : OpR X (compareOp op) r) (ho' : OpR X (compareOp op') r') (ha : PE X a ta) (hb : PE X b tb) (hc : PE X c tc)
  (hm : lastMarks [op, op'] [b, c] = false := by with_unfolding_all rfl) : PE X (.Compare a [op, op'] [b, c] pos) (xX r r' ta tb tc) := by
 show 'Պ'
 refine Compare_chain (thn (ha pins s σ H _ I h) fun v s1 ⟨x, H1, I1, r1, q1⟩ => chain_link (thn (hb pins s1 σ H1 _ I1 q1) fun u s2 ⟨y, H2, I2, r2, q2⟩ =>
  thn (ho pins s2 σ H2 x y v u _ I2 r1 r2 q2) fun d s3 ⟨z, H3, I3, r3, k, e, q3⟩ => ?_)) hm
 subst e
 cases r3
 refine wpAny_truthy_bool ?_
 cases k with
 | false => exact ite_ff ⟨.bl false, H3, I3, rfl, q3⟩
 | true => exact ite_tt (chain_last (thn (hc pins s3 σ H3 _ I3 q3) fun w' s4 ⟨z', H4, I4, r4, q4⟩ => ho' pins s4 σ H4 y z' u w' Q I4 r2 r4 q4))
theorem pt_chain {op op' : CmpOp} {r r' : R2} (ho : OpR X (compareOp op) r) (ho' : OpR X (compareOp op') r') (ha : PE X a ta) (hb : PE X b tb) (hc : PE X c tc)
  (hm : lastMarks [op, op'] [b, c] = false := by with_unfolding_all rfl) : PT X (.Compare a [op, op'] [b, c] pos) (tTest (xX r r' ta tb tc)) := by
 show 'Պ'
 refine isTrue_chain (thn (ha pins s σ H _ I h) fun v s1 ⟨x, H1, I1, r1, q1⟩ => test_link (thn (hb pins s1 σ H1 _ I1 q1) fun u s2 ⟨y, H2, I2, r2, q2⟩ =>
  thn (ho pins s2 σ H2 x y v u _ I2 r1 r2 q2) fun d s3 ⟨z, H3, I3, r3, k, e, q3⟩ => ?_)) hm
 subst e
 cases r3
 refine wpAny_truthy_bool ?_
 cases k with
 | false =>
  obtain ⟨k', e', q'⟩ := q3
  cases e'
  exact ite_ff ⟨H3, I3, q'⟩
 | true =>
  refine ite_tt (test_last (thn (hc pins s3 σ H3 _ I3 q3) fun w' s4 ⟨z', H4, I4, r4, q4⟩ => thn (ho' pins s4 σ H4 y z' u w' _ I4 r2 r4 q4) fun d' s5 ⟨z2, H5, I5, r5, k2, e2, q5⟩ => ?_))
  subst e2
  cases r5
  exact wpAny_truthy_bool ⟨H5, I5, q5⟩
noncomputable def TruV (K : PySem.W.Frag) (x : V) (H : Hp) (k : Bool) : Prop :=
 match x with
 | .non => k = false
 | .bl b => k = b
 | .int i => k = (i != 0)
 | .str y => y.length <= sizeLine /\ k = ((y.length : Int) != 0)
 | .byt y => y.size <= sizeLine /\ k = ((y.size : Int) != 0)
 | .ref p => (∃ xs, SqL K H p xs /\ k = !xs.isEmpty) \/ (∃ xs, SqT K H p xs /\ k = !xs.isEmpty) \/ ∃ kvs, H p = some (.dK kvs) /\ k = !kvs.isEmpty
 | _ => False
theorem xr {κ : Type} {kvs : List (κ × V)} {vs : List (κ × Value)} (r : KV kvs vs) : (!vs.isEmpty) = !kvs.isEmpty := by
 cases r <;> rfl
theorem qB {xs : List V} {its : List Value} (r : Vals xs its) : (!its.toArray.isEmpty) = !xs.isEmpty := by
 cases r <;> simp
theorem qv : (sizeLine : Nat) < 2 ^ 63 := by rw [sizeLine_eq]; decide
theorem tru_ok : TruR X (fun x H Q => ∃ k, TruV X.K x H k /\ Q k H) := by
 intro pins s σ H x v Q I rx h
 obtain ⟨k, e, q⟩ := h
 have hl := qv
 have hs : sizeLine = 16777216 := sizeLine_eq
 cases x with
 | non =>
  cases rx
  have e' : k = false := e
  subst e'
  exact truthy_none ⟨H, I, q⟩
 | bl b =>
  cases rx
  have e' : k = b := e
  subst e'
  exact wpAny_truthy_bool ⟨H, I, q⟩
 | int i =>
  show 'բ'
  have e' : k = (i != 0) := e
  subst e'
  exact PySem.P.truthy_int ⟨H, I, q⟩
 | str y =>
  show 'բ'
  obtain ⟨hy, e'⟩ : y.length <= sizeLine /\ k = ((y.length : Int) != 0) := e
  subst e'
  exact PySem.P.truthy_str (by omega) ⟨H, I.tok _, q⟩
 | byt y =>
  show 'բ'
  obtain ⟨hy, e'⟩ : y.size <= sizeLine /\ k = ((y.size : Int) != 0) := e
  subst e'
  exact PySem.W.truthy_bytes (by omega) ⟨H, I.tok _, q⟩
 | ref p =>
  cases rx
  have e' : (∃ xs, SqL X.K H p xs /\ k = !xs.isEmpty) \/ (∃ xs, SqT X.K H p xs /\ k = !xs.isEmpty) \/ ∃ kvs, H p = some (.dK kvs) /\ k = !kvs.isEmpty := e
  rcases e' with ⟨xs, hx, e'⟩ | ⟨xs, hx, e'⟩ | ⟨kvs, hx, e'⟩
  ·subst e'
   obtain ⟨its, r, pl, hz⟩ := I.list hx
   have hlen := r.length
   exact wpAny_truthy_list pl.isList (by simp only [List.size_toArray]; omega) ⟨H, I.tok _, by rw [qB r]; exact q⟩
  ·subst e'
   obtain ⟨its, r, pl, hz⟩ := I.tuple hx
   have hlen := r.length
   exact truthy_tuple pl (by simp only [List.size_toArray]; omega) ⟨H, I.tok _, by rw [qB r]; exact q⟩
  ·subst e'
   obtain ⟨hz, hS, vs, r, m⟩ : kvs.length <= sizeLine /\ (p == sysModules) = false /\ ∃ vs, KV kvs vs /\ s.heap.DictOf (ve X.prog X.w) p vs := I.hok p _ hx
   have hlen : kvs.length = vs.length := Paired.length r
   exact wpAny_truthy_dict hS m (by omega) ⟨H, I.tok _, by rw [xr r]; exact q⟩
 | _ => exact (show False from e).elim
theorem pt_truth (ha : PE X a ta) (he : ∀ whole, isTrue a X.env whole = (do let v <- whole; standAt a.pos; holding [v] (truthy v))) :
  PT X a (fun σ H Q => ta σ H fun x H' => ∃ k, TruV X.K x H' k /\ Q k H') := by
 show 'Պ'
 exact isTrue_plain (thn (ha pins s σ H _ I h) fun v s1 ⟨x, H1, I1, r1, q1⟩ => tru_ok pins s1 σ H1 x v Q I1 r1 q1) (he _)
theorem xc : OpR X (binaryOp .Add) (fun x y H Q => ∃ i j, x = .str i /\ y = .str j /\ i.length + j.length <= sizeLine /\ Q (.str (i ++ j)) H) := by
 show 'Ն'
 obtain ⟨i, j, rfl, rfl, hz, q⟩ := h
 show 'բ'
 obtain ⟨t', rfl⟩ := ry
 exact add_str (fun t' tk => ⟨.str (i ++ j), H, I.tok _, ⟨_, rfl⟩, q⟩) hz
theorem vals1 {x : V} {us : List Value} (r : Vals [x] us) : ∃ u, us = [u] /\ RelV x u := by
 cases r with
 | cons r1 r2 => cases r2; exact ⟨_, rfl, r1⟩
theorem vals2 {x y : V} {us : List Value} (r : Vals [x, y] us) : ∃ u w', us = [u, w'] /\ RelV x u /\ RelV y w' := by
 cases r with
 | cons r1 r2 =>
  cases r2 with
  | cons r3 r4 => cases r4; exact ⟨_, _, rfl, r1, r3⟩
theorem zH (hc : X.calm = true) : dq X (.builtin "max") (fun xs H Q => ∃ i j, xs = [.int i, .int j] /\ Q (.int (if j > i then j else i)) H) := by
 show 'թ'
 obtain ⟨i, j, rfl, q⟩ := h
 obtain ⟨u, w', rfl, ⟨t, rfl⟩, ⟨t', rfl⟩⟩ := vals2 r
 refine max_two_ints (I.ok.hd hc) fun h' tk k => ⟨_, H, I.kept k, ?_, q⟩
 by_cases hj : j > i
 ·rw [if_pos hj, if_pos hj]; exact ⟨_, rfl⟩
 ·rw [if_neg hj, if_neg hj]; exact ⟨_, rfl⟩
theorem zF (hc : X.calm = true) : dq X (.builtin "min") (fun xs H Q => ∃ i j, xs = [.int i, .int j] /\ Q (.int (if j < i then j else i)) H) := by
 show 'թ'
 obtain ⟨i, j, rfl, q⟩ := h
 obtain ⟨u, w', rfl, ⟨t, rfl⟩, ⟨t', rfl⟩⟩ := vals2 r
 refine min_two_ints (I.ok.hd hc) fun h' tk k => ⟨_, H, I.kept k, ?_, q⟩
 by_cases hj : j < i
 ·rw [if_pos hj, if_pos hj]; exact ⟨_, rfl⟩
 ·rw [if_neg hj, if_neg hj]; exact ⟨_, rfl⟩
theorem ud : dq X (.type "int") (fun xs H Q => (∃ i, xs = [.int i] /\ Q (.int i) H) \/ ∃ k, xs = [.bl k] /\ Q (.int (if k then 1 else 0)) H) := by
 show 'թ'
 rcases h with ⟨i, rfl, q⟩ | ⟨k, rfl, q⟩
 ·obtain ⟨u, rfl, t, rfl⟩ := vals1 r
  exact call_int_int ⟨.int i, H, I, ⟨_, rfl⟩, q⟩
 ·obtain ⟨u, rfl, r1⟩ := vals1 r
  cases r1
  exact call_int_bool ⟨.int (if k then 1 else 0), H, I.tok _, ⟨_, rfl⟩, q⟩
end
end L2
namespace L2
open PySem PySem.Spec PyProof.Rows
structure ObjM (h : Heap) (x dx C : Addr) (mA : Str -> Option Value) : Prop where
 obj : h.get? x = some (PySem.W.instObj C dx)
 ns : h.Ns1 dx mA
 ne : dx ≠ x
theorem yM {h : Heap} {dx : Addr} {mA : Str -> Option Value} (n : h.Ns1 dx mA) : ∃ od, h.get? dx = some od /\ ∀ name, lookIn name od = some (mA name) := by
 obtain ⟨o, es, ep, ho, hd, hk, _, hm⟩ := n
 refine ⟨o, ho, fun name => ?_⟩
 have e := hm name
 unfold nsFind findBy at e
 rw [<- Array.find?_toList] at e
 unfold lookIn
 rw [hd]
 dsimp only
 split
 ·rename_i y q
  rw [q] at e
  exact congrArg some e
 ·rename_i q
  rw [q] at e
  have a : es.toList.any (·.refKey) = false := by
   rw [List.any_eq_false]
   intro y hy
   obtain ⟨z, t, hkey⟩ := hk y (Array.mem_toList_iff.mp hy)
   simp [DictEntry.refKey, hkey]
  have a' : ¬ es.toList.any (·.refKey) = true := by rw [a]; exact Bool.false_ne_true
  rw [if_neg a']
  exact congrArg some e
theorem ObjM.look {h : Heap} {x dx C : Addr} {mA : Str -> Option Value} (I : ObjM h x dx C mA) : ∃ od, PySem.W.InstAt h x (PySem.W.instObj C dx) C (some od) /\ ∀ name, lookIn name od = some (mA name) :=
 let ⟨od, ho, hl⟩ := yM I.ns
 ⟨od, ⟨I.obj, rfl, rfl, ho⟩, hl⟩
section
variable {prog : Program} {w : World} {A : Around} {E : Value -> Shared -> Prop} {s : Shared} {K : PySem.W.Frag} {x dx C f : Addr} {mA : Str -> Option Value} {name : Str} {v : Value}
theorem get_map {expr : Bool} {Q : Value -> Shared -> Prop} (X : K.In s.heap) (I : ObjM s.heap x dx C mA) (hg : PySem.W.plainGet K C name = true) (hh : PySem.W.hasDictIn K C = true)
  (ha : PySem.W.findIn K (.ref C) name = some none) (hv : mA name = some v) (hv' : PySem.W.handedIn v = true) (h : Q v { s with toks := s.toks + 1 }) :
  wpAny (model prog w) A (getAttr (.ref x) name expr) Q E s := by
 obtain ⟨od, J, hl⟩ := I.look
 exact PySem.W.get_value X J (PySem.W.plainGet_of hg).1 (PySem.W.findObj_own hh ha rfl (by rw [hl, hv])) hv' h
theorem get_meth {pl : Sem Bool} {Q : Value × List Value -> Shared -> Prop} (X : K.In s.heap) (I : ObjM s.heap x dx C mA) (hg : PySem.W.plainGet K C name = true)
  (hf : PySem.W.findIn K (.ref C) name = some (some (.ref f))) (ht : PySem.W.isFn K (.ref f) = true) (hv : mA name = none) (h : Q (.ref f, [.ref x]) s) :
  wpAny (model prog w) A (getMethod (.ref x) name pl) Q E s := by
 obtain ⟨od, J, hl⟩ := I.look
 exact PySem.W.method_fn X J (PySem.W.plainGet_of hg).1 (PySem.W.plainGet_of hg).2 hf (beq_iff_eq.mp ht) (by show (lookIn name od).map (·.isSome) = some false; rw [hl, hv]; rfl) h
theorem set_map {ns : List Str} {Q : Unit -> Shared -> Prop} (X : K.In s.heap) (I : ObjM s.heap x dx C mA)
  (hs : PySem.W.findIn K (.ref C) "__setattr__" = some (some (.builtin "object.__setattr__"))) (hp : plainOver K C = true) (ht : takerIn K C name = some none) (hh : PySem.W.hasDictIn K C = true)
  (hw : PySem.Within mA ns) (hsz : ns.length <= sizeLine)
  (h : ∀ h', ObjM h' x dx C (fun y => if y = name then some v else mA y) -> Heap.SameBut dx s.heap h' -> Q () { s with heap := h', toks := s.toks + 2 }) :
  wpAny (model prog w) A (setAttr (.ref x) name v) Q E s := by
 obtain ⟨od, J, hl⟩ := I.look
 refine PySem.W.set_plain X J hs (PySem.W.osa_open (s := { s with toks := s.toks + 1 }) (r := none) X J hp ht fun b => ?_)
 obtain ⟨cd, hc, hd'⟩ := PySem.W.any_some hh
 have hx : s.heap.get? x = some ⟨.ref C, some dx, .plain, #[]⟩ := I.obj
 refine wpAny_bind (wpAny_pure (wpAny_bind (wpAny_bind (wpAny_loadPart hx (wpAny_bind (PySem.W.Looks.here (s := { s with toks := s.toks + 1 }) (PySem.W.looks_clsIn X hc) ?_))))))
 rw [hd']
 refine wpAny_pure (a := some dx) (wpAny_bind (wpAny_pure (wpAny_bind ?_)))
 refine wpAny_nsSet1 (s := { s with toks := s.toks + 1 }) I.ns fun h' hn2 hs2 => ?_
 obtain ⟨oD, esD, epD, hoD, hdD, hcD⟩ := hn2.count (PySem.Within.cons name v hw)
 refine wpAny_bind (wpAny_lookBehind hoD (by rw [hdD]; exact pastItsLine_dict (Nat.le_trans hcD (by rw [List.length_cons]; omega))) ?_)
 exact wpAny_pure (h _ ⟨(hs2.2 _ (Ne.symm I.ne)).trans I.obj, hn2, I.ne⟩ hs2)
theorem make_map {R : Result -> Shared -> Prop} {vs : List Value} {kw : List (Str × Value)} (X : K.In s.heap) (hm : PySem.W.makesIn K C = true)
  (hi : PySem.W.findIn K (.ref C) "__init__" = some (some (.ref f))) (hf : PySem.W.typeIn K (.ref f) = some (.type "function"))
  (h : codeAny (model prog w) (A.under (.builtin "type.__call__" ⟨.ref C :: vs, kw⟩)) (.call (.ref f) ⟨.ref (s.heap.objs.size + 1) :: vs, kw⟩) (PySem.W.InitBack (s.heap.objs.size + 1) R)
   { s with heap := (s.heap.push PySem.W.emptyDict).push (PySem.W.instObj C s.heap.objs.size) }) :
  codeAny (model prog w) A (.call (.ref C) ⟨vs, kw⟩) R s := by
 obtain ⟨hh, g, d, t, os⟩ := s
 exact PySem.W.make_core (PySem.W.makes_of X hm) (PySem.W.looks_findIn X hi) (fun self => PySem.W.bind_fn X self hf) (.inl rfl) h
end
noncomputable def pQ (f : Str) (v : V) : List (Str × V) -> List (Str × V)
 | [] => [(f, v)]
 | (g, x) :: r => if g = f then (g, v) :: r else (g, x) :: pQ f v r
theorem m9 (f g : Str) (v : V) : ∀ fs : List (Str × V), (pQ f v fs).lookup g = if g = f then some v else fs.lookup g
 | [] => by
  show List.lookup g [(f, v)] = _
  by_cases h : g = f
  ·have hb : (g == f) = true := beq_iff_eq.mpr h
   simp only [List.lookup, hb, if_pos h]
  ·have hb : (g == f) = false := beq_eq_false_iff_ne.mpr h
   simp only [List.lookup, hb, if_neg h]
 | (k, x) :: r => by
  have ih := m9 f g v r
  show 'գ'
  by_cases hk : k = f
  ·rw [if_pos hk]
   by_cases h : g = k
   ·have hb : (g == k) = true := beq_iff_eq.mpr h
    simp only [List.lookup, hb, if_pos (h.trans hk)]
   ·have hb : (g == k) = false := beq_eq_false_iff_ne.mpr h
    simp only [List.lookup, hb, if_neg (fun e : g = f => h (e.trans hk.symm))]
  ·rw [if_neg hk]
   by_cases h : g = k
   ·have hb : (g == k) = true := beq_iff_eq.mpr h
    simp only [List.lookup, hb, if_neg (fun e : g = f => hk (h.symm.trans e))]
   ·have hb : (g == k) = false := beq_eq_false_iff_ne.mpr h
    simp only [List.lookup, hb]
    exact ih
theorem l7 (f : Str) (v : V) : ∀ fs : List (Str × V), f ∈ (pQ f v fs).map (·.1) /\ ∀ g, g ∈ fs.map (·.1) -> g ∈ (pQ f v fs).map (·.1)
 | [] => ⟨by simp [pQ], fun g h => by simp at h⟩
 | (k, x) :: r => by
  obtain ⟨i1, i2⟩ := l7 f v r
  show 'գ'
  by_cases hk : k = f
  ·rw [if_pos hk]
   subst hk
   exact ⟨by simp, fun g h => by simpa using h⟩
  ·rw [if_neg hk]
   refine ⟨?_, fun g h => ?_⟩
   ·rw [List.map_cons]
    exact List.mem_cons_of_mem _ i1
   ·rw [List.map_cons] at h ⊢
    rcases List.mem_cons.mp h with e | e
    ·exact List.mem_cons.mpr (.inl e)
    ·exact List.mem_cons_of_mem _ (i2 g e)
theorem oS (f : Str) (v : V) : ∀ fs : List (Str × V), (pQ f v fs).length <= fs.length + 1
 | [] => by simp [pQ]
 | (k, x) :: r => by
  have ih := oS f v r
  show 'գ'
  by_cases hk : k = f
  ·rw [if_pos hk, List.length_cons, List.length_cons]; omega
  ·rw [if_neg hk, List.length_cons, List.length_cons]; omega
theorem ui.some_of {v : V} {o : Option Value} (r : ui (some v) o) : ∃ u, o = some u /\ RelV v u := by
 cases o with
 | none => exact (show False from r).elim
 | some u => exact ⟨u, rfl, r⟩
theorem ui.none_of {o : Option Value} (r : ui none o) : o = none := by
 cases o with
 | none => rfl
 | some u => exact (show False from r).elim
theorem yZ {v : V} {u : Value} (r : RelV v u) : PySem.W.handedIn u = true := by
 cases v with
 | non => cases (show u = Value.none from r); rfl
 | bl b => cases (show u = Value.bool b from r); rfl
 | int i => obtain ⟨t, e⟩ := (show ∃ t, u = Value.int i t from r); cases e; rfl
 | str x => obtain ⟨t, e⟩ := (show ∃ t, u = Value.str x t from r); cases e; rfl
 | byt b => obtain ⟨t, e⟩ := (show ∃ t, u = Value.bytes b t from r); cases e; rfl
 | flt b => obtain ⟨t, e⟩ := (show ∃ t, u = Value.float b t from r); cases e; rfl
 | ref a => cases (show u = Value.ref a from r); rfl
 | ty n => cases (show u = Value.type n from r); rfl
section
variable {P : Program} {w : World} {H H' : Hp} {h h' : Heap} {a C dx : Addr} {fs fs' : List (Str × V)}
theorem rX (hok : HOk P w H h) (e : H a = some (.ins C dx fs)) : ∃ mA, ObjM h a dx C mA /\ (∀ f, ui (fs.lookup f) (mA f)) /\ PySem.Within mA (fs.map (·.1)) /\ fs.length <= 1000 /\ H dx = some (.own a) := by
 obtain ⟨d, z, ne, ob, mA, n, r, q⟩ := (show e6 P w H h a (.ins C dx fs) from hok a _ e)
 exact ⟨mA, ⟨ob, n, ne⟩, r, q, z, d⟩
end
structure Cls (K : PySem.W.Frag) (C : Addr) : Prop where
 pg : PySem.W.plainGet K C Str.empty = true
 hd : PySem.W.hasDictIn K C = true
 po : plainOver K C = true
 sa : PySem.W.findIn K (.ref C) "__setattr__" = some (some (.builtin "object.__setattr__"))
theorem Cls.get {K : PySem.W.Frag} {C : Addr} (c : Cls K C) (f : Str) : PySem.W.plainGet K C f = true := c.pg
noncomputable def kL (K : PySem.W.Frag) (C : Addr) (f : Str) : Prop := PySem.W.findIn K (.ref C) f = some none
theorem kL.taker {K : PySem.W.Frag} {C : Addr} {f : Str} (n : kL K C f) : takerIn K C f = some none := by
 unfold takerIn
 rw [show PySem.W.findIn K (.ref C) f = some none from n]
 rfl
structure Con (K : PySem.W.Frag) (C : Addr) (f : Str) (v : V) (u : Value) : Prop where
 at_ : PySem.W.findIn K (.ref C) f = some (some u)
 rel : RelV v u
 get : specialIn K u "__get__" = some none
 cp : PySem.W.copiedNames.contains f = false
structure Meth (K : PySem.W.Frag) (C : Addr) (m : Str) (f : Addr) : Prop where
 at_ : PySem.W.findIn K (.ref C) m = some (some (.ref f))
 fn : PySem.W.isFn K (.ref f) = true
 kp : keepIn K (.ref f) = true
section
variable {X : Cx} {pins : List (Addr × Obj)} {σ : St} {H : Hp} {s : Shared} {a C dx : Addr} {fs : List (Str × V)} {f : Str} {v : V} {A : Around} {E : Value -> Shared -> Prop}
theorem xt {b : Bool} {Q : Value -> Shared -> Prop} (I : Inv X pins σ H s) (e : H a = some (.ins C dx fs)) (c : Cls X.K C) (n : kL X.K C f) (l : fs.lookup f = some v)
  (h : ∀ u s', Inv X pins σ H s' -> RelV v u -> Q u s') : wpAny (model X.prog X.w) A (getAttr (.ref a) f b) Q E s := by
 obtain ⟨mA, O, r, _, _, _⟩ := rX I.hok e
 obtain ⟨u, hu, ru⟩ := ui.some_of (v := v) (o := mA f) (by rw [<- l]; exact r f)
 exact get_map I.kIn O (c.get f) c.hd n hu (yZ ru) (h u _ (I.tok _) ru)
theorem qE {m : Str} {g : Addr} {pl : Sem Bool} {Q : Value × List Value -> Shared -> Prop} (I : Inv X pins σ H s) (e : H a = some (.ins C dx fs)) (c : Cls X.K C) (k : Meth X.K C m g) (l : fs.lookup m = none)
  (h : Q (.ref g, [.ref a]) s) : wpAny (model X.prog X.w) A (getMethod (.ref a) m pl) Q E s := by
 obtain ⟨mA, O, r, _, _, _⟩ := rX I.hok e
 have hn : mA m = none := ui.none_of (by rw [<- l]; exact r m)
 exact get_meth I.kIn O (c.get m) k.at_ k.fn hn h
theorem wZ {y : V} {u : Value} {Q : Unit -> Shared -> Prop} (I : Inv X pins σ H s) (e : H a = some (.ins C dx fs)) (c : Cls X.K C) (n : kL X.K C f) (hl : fs.length < 1000) (ry : RelV y u)
  (h : ∀ s', Inv X pins σ (upd H a (.ins C dx (pQ f y fs))) s' -> Q () s') : wpAny (model X.prog X.w) A (setAttr (.ref a) f u) Q E s := by
 obtain ⟨mA, O, r, wi, _, ho⟩ := rX I.hok e
 have hz : (fs.map (·.1)).length <= sizeLine := by rw [List.length_map, sizeLine_eq]; omega
 refine set_map I.kIn O c.sa c.po n.taker c.hd wi hz fun h' O' sb => h _ ?_
 have hd : ∃ o, h'.get? dx = some o := let ⟨o, _, _, e', _⟩ := O'.ns; ⟨o, e'⟩
 refine I.write (x := a) (e := dx) (by rw [e]; exact True.intro) (.inr ho) (fun b q hb z => (sb.2 b hb).trans z) hd ?_
 refine ⟨by rw [au O.ne]; exact ho, ?_, O.ne, O'.obj, _, O'.ns, fun g => ?_, fun g hg => ?_⟩
 ·have := oS f y fs; omega
 ·show ui ((pQ f y fs).lookup g) (if g = f then some u else mA g)
  rw [m9]
  by_cases q : g = f
  ·rw [if_pos q, if_pos q]; exact ry
  ·rw [if_neg q, if_neg q]; exact r g
 ·by_cases q : g = f
  ·rw [q]; exact (l7 f y fs).1
  ·refine (l7 f y fs).2 g (wi g fun z => hg ?_)
   show (if g = f then some u else mA g) = none
   rw [if_neg q]; exact z
theorem Inv.made (I : Inv X pins σ H s) : Inv X pins σ (upd (upd H s.heap.objs.size (.own (s.heap.objs.size + 1))) (s.heap.objs.size + 1) (.ins C s.heap.objs.size []))
  { s with heap := (s.heap.push PySem.W.emptyDict).push (PySem.W.instObj C s.heap.objs.size) } := by
 have e1 : (s.heap.push PySem.W.emptyDict).get? s.heap.objs.size = some PySem.W.emptyDict := Heap.get?_push_size s.heap rfl
 have e2 : ((s.heap.push PySem.W.emptyDict).push (PySem.W.instObj C s.heap.objs.size)).get? (s.heap.objs.size + 1) = some (PySem.W.instObj C s.heap.objs.size) := by
  have := Heap.get?_push_size (s.heap.push PySem.W.emptyDict) (o := PySem.W.instObj C s.heap.objs.size) rfl
  rwa [Heap.size_push] at this
 have e3 : (s.heap.push PySem.W.emptyDict).Ns s.heap.objs.size (fun _ => none) := ⟨PySem.W.emptyDict, #[], _, e1, rfl, (fun e he => absurd he (by simp)), fun _ => rfl⟩
 have I1 := I.laid (a := s.heap.objs.size) (o := .own (s.heap.objs.size + 1)) (h' := s.heap.push PySem.W.emptyDict) (t' := s.toks) (fun b u q => Heap.get?_push_of_some _ q) (Nat.le_refl _) ⟨_, e1⟩
 refine I1.laid (a := s.heap.objs.size + 1) (o := .ins C s.heap.objs.size []) (t' := s.toks) (fun b u q => Heap.get?_push_of_some _ q) (Nat.le_of_eq (Heap.size_push _ _)) ?_
 have ne : s.heap.objs.size ≠ s.heap.objs.size + 1 := Nat.ne_of_lt (Nat.lt_succ_self _)
 refine ⟨by rw [au ne, av], Nat.zero_le _, ne, e2, fun _ => none, (Heap.Ns1.of_empty e3).at fun o q => Heap.get?_push_of_some _ q, fun _ => True.intro, fun y hy => absurd rfl hy⟩
theorem attr_of {prog : Program} {w : World} {env : Env} {e : Expr} {f : Str} {pos : Pos} {s : Shared} {Q : Value -> Shared -> Prop} (hb : attributeBase e f env (eval e env) = eval e env)
  (h : wpAny (model prog w) A (eval e env) (fun o s₁ => wpAny (model prog w) A (getAttr o f true) Q E s₁) E s) : wpAny (model prog w) A (eval (.Attribute e f pos) env) Q E s :=
 Attribute_any_ h (by rw [arm_eval_Attribute, hb])
end
noncomputable def tFld (K : PySem.W.Frag) (ta : TE) (f : Str) : TE := fun σ H Q => ta σ H fun x H1 => ∃ a C dx fs v, x = .ref a /\ H1 a = some (.ins C dx fs) /\ Cls K C /\ kL K C f /\ fs.lookup f = some v /\ Q v H1
noncomputable def sFld (K : PySem.W.Frag) (ta tv : TE) (f : Str) : TS := fun D σ H => tv σ H fun y H1 => ta σ H1 fun x H2 => ∃ a C dx fs, x = .ref a /\ H2 a = some (.ins C dx fs) /\ Cls K C /\ kL K C f /\ fs.length < 1000 /\
 D.nx σ (upd H2 a (.ins C dx (pQ f y fs)))
section
variable {X : Cx} {o e value : Expr} {f : Str} {pos pos' tpos : Pos} {ta tv : TE}
theorem yw (he : PE X e ta) (hb : attributeBase e f X.env (eval e X.env) = eval e X.env) : PE X (.Attribute e f pos) (tFld X.K ta f) := by
 show 'Պ'
 refine attr_of hb (thn (he pins s σ H _ I h) fun u s1 ⟨x, H1, I1, rx, a, C, dx, fs, v, ex, ea, c, n, l, q⟩ => ?_)
 subst ex
 obtain rfl : u = Value.ref a := rx
 exact xt I1 ea c n l fun u' s2 I2 ru => ⟨v, H1, I2, ru, q⟩
theorem ps_fld (ha : PE X o ta) (hv : PE X value tv) (hs : swapsWith value (some (.Attribute o f pos')) pos.line X.env = pure false) : PS X (.Assign [.Attribute o f pos'] value pos) (sFld X.K ta tv f) := by
 show 'Փ'
 refine plainObj_wpAny_Assign_Attribute (thn (hv pins s σ H _ I h) fun u s1 ⟨y, H1, I1, ry, q⟩ => thn (ha pins s1 σ H1 _ I1 q) fun ov s2 ⟨x, H2, I2, rx, a, C, dx, fs, ex, ea, c, n, l, q2⟩ => ?_) hs
 subst ex
 obtain rfl : ov = Value.ref a := rx
 exact wZ I2 ea c n l ry fun s3 I3 => ⟨σ, _, I3, q2⟩
theorem methcall_of {pl : Sem Bool} {m : Str} {apos : Pos} {args : List Expr} {pins : List (Addr × Obj)} {s : Shared} {σ : St} {H : Hp} {Q : Value -> Shared -> Prop} {te : TE} (he : PE X e te) (I : Inv X pins σ H s)
  (h : te σ H fun x H1 => ∃ a C dx fs g, x = .ref a /\ H1 a = some (.ins C dx fs) /\ Cls X.K C /\ Meth X.K C m g /\ fs.lookup m = none /\
   ∀ s1, Inv X pins σ H1 s1 -> wpAny (model X.prog X.w) X.A (callWith pos (.ref g) [.ref a] (backTo pos (starEach args X.env)) (backToKw pos (keywordEach [] X.env))) Q X.xe s1)
  (ht : eval (.Call (.Attribute e m apos) args [] pos) X.env = (do
   let ov <- eval e X.env
   standAt apos.atName
   let (f, first) <- holding [ov] (getMethod ov m pl)
   callWith pos f first (backTo pos (starEach args X.env)) (backToKw pos (keywordEach [] X.env)))) :
  wpAny (model X.prog X.w) X.A (eval (.Call (.Attribute e m apos) args [] pos) X.env) Q X.xe s := by
 refine PySem.W.methodCall_KW (pl := pl) (thn (he pins s σ H _ I h) fun u s1 ⟨x, H1, I1, rx, a, C, dx, fs, g, ex, ea, c, k, l, q⟩ => ?_) ht
 subst ex
 obtain rfl : u = Value.ref a := rx
 exact qE I1 ea c k l (q s1 I1)
end
section
variable {X : Cx} {pins : List (Addr × Obj)} {σ : St} {H : Hp} {s : Shared} {A : Around} {E : Value -> Shared -> Prop} {Q : Value -> Shared -> Prop} {c : Value} {b : Bool}
inductive wM (K : PySem.W.Frag) (H : Hp) : V -> Value -> Prop where
 | non : wM K H .non (.type "NoneType")
 | bl (x : Bool) : wM K H (.bl x) (.type "bool")
 | int (i : Int) : wM K H (.int i) (.type "int")
 | str (x : Str) : wM K H (.str x) (.type "str")
 | flt (x : UInt64) : wM K H (.flt x) (.type "float")
 | lst {a : Addr} {xs : List V} (e : H a = some (.lst xs)) : wM K H (.ref a) (.type "list")
 | frz {a : Addr} {o : Obj} {xs : List V} (e : H a = some (.frz o (.lst xs))) : wM K H (.ref a) (.type "list")
 | tup {a : Addr} {xs : List V} (e : H a = some (.tup xs)) : wM K H (.ref a) (.type "tuple")
 | dK {a : Addr} {kvs : List (Key × V)} (e : H a = some (.dK kvs)) : wM K H (.ref a) (.type "dict")
 | dT {a : Addr} {kvs : List (List Key × V)} (e : H a = some (.dT kvs)) : wM K H (.ref a) (.type "dict")
 | ins {a C dx : Addr} {fs : List (Str × V)} (e : H a = some (.ins C dx fs)) (cl : Cls K C) (ha : PySem.W.findIn K (.ref C) "__class__" = some (some (.builtin "object.__class__")))
   (hn : specialIn K (.builtin "object.__class__") "__get__" = some (some (.builtin "getset_descriptor.__get__"))) (htk : takesIn K (.builtin "object.__class__") = some true)
   (hm : PySem.W.mroIn K C (.type "object") = some true) : wM K H (.ref a) (.ref C)
theorem yT {x : V} {u t : Value} (I : Inv X pins σ H s) (rx : RelV x u) (ty : wM X.K H x t) (e : kitOne X.K t c = some b) (h : ∀ tk, Q (.bool b) { s with toks := tk }) :
  wpAny (model X.prog X.w) A (call (.builtin "isinstance") [u, c]) Q E s := by
 cases ty with
 | non => cases (show u = Value.none from rx); exact kia_one PySem.W.kitx_none I.kIn True.intro e (fun z => nomatch z) h
 | bl y => cases (show u = Value.bool y from rx); exact kia_one PySem.W.kitx_bool I.kIn True.intro e (fun z => nomatch z) h
 | int i => obtain ⟨t, q⟩ := (show ∃ t, u = Value.int i t from rx); cases q; exact kia_one PySem.W.kitx_int I.kIn True.intro e (fun z => nomatch z) h
 | str y => obtain ⟨t, q⟩ := (show ∃ t, u = Value.str y t from rx); cases q; exact kia_one PySem.W.kitx_str I.kIn True.intro e (fun z => nomatch z) h
 | flt y => obtain ⟨t, q⟩ := (show ∃ t, u = Value.float y t from rx); cases q; exact kia_one PySem.W.kitx_float I.kIn True.intro e (fun z => nomatch z) h
 | @lst a xs ea =>
  show 'ծ'
  obtain ⟨_, _, n, _, h1⟩ := (show e6 X.prog X.w H s.heap a (.lst xs) from I.hok a _ ea)
  exact kia_one PySem.W.kitx_list I.kIn ⟨_, h1, rfl⟩ e (fun z => nomatch z) h
 | @frz a ob xs ea =>
  show 'ծ'
  obtain ⟨_, _, _, n, _, h1⟩ := (show e6 X.prog X.w H s.heap a (.frz ob (.lst xs)) from I.hok a _ ea)
  exact kia_one PySem.W.kitx_list I.kIn ⟨_, h1, rfl⟩ e (fun z => nomatch z) h
 | @tup a xs ea =>
  show 'ծ'
  obtain ⟨_, _, _, p⟩ := (show e6 X.prog X.w H s.heap a (.tup xs) from I.hok a _ ea)
  obtain ⟨o, h1, h2, _⟩ := p
  exact kia_one PySem.W.kitx_tuple I.kIn ⟨o, h1, h2⟩ e (fun z => nomatch z) h
 | @dK a kvs ea =>
  show 'ծ'
  obtain ⟨_, _, vs, _, p⟩ := (show e6 X.prog X.w H s.heap a (.dK kvs) from I.hok a _ ea)
  obtain ⟨o, es, ep, h1, h2, _⟩ := p
  exact kia_one PySem.W.kitx_dict I.kIn ⟨o, h1, h2.1⟩ e (fun z => nomatch z) h
 | @dT a kvs ea =>
  show 'ծ'
  obtain ⟨_, _, xs, _, o, es, ep, h1, h2, _⟩ := (show e6 X.prog X.w H s.heap a (.dT kvs) from I.hok a _ ea)
  exact kia_one PySem.W.kitx_dict I.kIn ⟨o, h1, h2.1⟩ e (fun z => nomatch z) h
 | @ins a C dx fs ea cl ha hn htk hm =>
  show 'ծ'
  obtain ⟨mA, O, _⟩ := rX I.hok ea
  obtain ⟨od, J, _⟩ := O.look
  exact kia_one (PySem.W.kitx_own (cl.get _) cl.hd ha hn htk hm) I.kIn J e (fun z => nomatch z) h
end
end L2
namespace L2
open PySem PySem.Spec PyProof.Rows
structure jJ (k : Nat) (A : Around) : Prop where
 hd : A.handled = none
 dp : A.depth + 3 * k + 5 < recursionLimit
 un : A.units + 16 * k + 200 < cLine
theorem jJ.mono {j k : Nat} {A : Around} (r : jJ k A) (h : j <= k) : jJ j A := ⟨r.hd, by have := r.dp; omega, by have := r.un; omega⟩
theorem jJ.deeper {k : Nat} {A : Around} (r : jJ (k + 1) A) (env : Env) : jJ k (A.deeper env) :=
 ⟨r.hd, by have := r.dp; show A.depth + 1 + 3 * k + 5 < _; omega, by have := r.un; show A.units + 3 + 16 * k + 200 < _; omega⟩
theorem xi {A : Around} {C : Addr} {us : List Value} {kw : List (Str × Value)} : (A.under (.builtin "type.__call__" ⟨.ref C :: us, kw⟩)).depth = A.depth + 1 := by
 first | rfl | simp [Around.under, Code.weight, Code.isCreation, Code.isGuard, Code.isCaller, Code.frames, Code.isFrame, guardIds]
theorem xh {A : Around} {C : Addr} {us : List Value} {kw : List (Str × Value)} : (A.under (.builtin "type.__call__" ⟨.ref C :: us, kw⟩)).units = A.units + 1 := by
 first | rfl | simp [Around.under, Code.cUnits, Code.frames, Code.isFrame]
theorem jJ.make {k : Nat} {A : Around} (r : jJ (k + 1) A) (C : Addr) (us : List Value) (kw : List (Str × Value)) : jJ k (A.under (.builtin "type.__call__" ⟨.ref C :: us, kw⟩)) :=
 ⟨r.hd, by have := r.dp; rw [xi]; omega, by have := r.un; rw [xh]; omega⟩
theorem jJ.depth {k : Nat} {A : Around} (r : jJ k A) : A.depth < recursionLimit := by have := r.dp; omega
theorem jJ.units {k : Nat} {A : Around} (r : jJ k A) : A.units + 64 < cLine := by have := r.un; omega
noncomputable def tNil : TA := fun _ H Q => Q [] H
noncomputable def t5 (ta : TE) (tr : TA) : TA := fun σ H Q => ta σ H fun x H1 => tr σ H1 fun xs H2 => Q (x :: xs) H2
section
variable {X : Cx} {e : Expr} {es : List Expr} {te : TE} {t : TA} {pos : Pos}
theorem dk : PA X [] tNil := fun _ _ _ _ H Q I h => Calls.spliced_nil ⟨[], H, I, .nil, h⟩
theorem aS (ha : PE X e te) (hr : PA X es t) (hs : starEach (e :: es) X.env = (false, eval e X.env) :: starEach es X.env := by rfl) : PA X (e :: es) (t5 te t) := by
 intro pos pins s σ H Q I h
 rw [hs]
 show wpAny _ _ (spliced ((false, eval e X.env) :: backTo pos (starEach es X.env))) _ _ s
 refine Calls.spliced_cons (thn (ha pins s σ H _ I h) fun u s1 ⟨x, H1, I1, r1, q1⟩ => ?_)
 exact thn (hr pos pins s1 σ H1 _ I1 q1) fun us s2 ⟨xs, H2, I2, r2, q2⟩ => ⟨x :: xs, H2, I2, .cons r1 r2, q2⟩
noncomputable def tTup (t : TA) : TE := fun σ H Q => t σ H fun xs H1 => xs.length <= sizeLine /\ ∀ p, H1 p = none -> Q (.ref p) (upd H1 p (.tup xs))
noncomputable def tLst (t : TA) : TE := fun σ H Q => t σ H fun xs H1 => xs.length <= sizeLine /\ ∀ p, H1 p = none -> Q (.ref p) (upd H1 p (.lst xs))
theorem yt {x1} (h : PA X es t) : PE X (.Tuple es x1 pos) (tTup t) := by
 intro pins s σ H Q I hq
 refine wpAny_Tuple_spliced (thn (h pos pins s σ H _ I hq) fun us s1 ⟨xs, H1, I1, r, z, q⟩ => ⟨by rw [<- r.length]; exact z, ?_⟩)
 have hf : H1 s1.heap.objs.size = none := I1.hok.fresh (Nat.le_refl _)
 refine ⟨.ref s1.heap.objs.size, upd H1 s1.heap.objs.size (.tup xs), I1.laid (t' := s1.toks) (fun b u e => Heap.get?_push_of_some _ e) (Nat.le_refl _) ?_, rfl, q _ hf⟩
 exact ⟨z, us, r, ⟨_, Heap.get?_push_size _ rfl, rfl, _, rfl⟩⟩
theorem pe_lst (h : PA X es t) : PE X (.List es pos) (tLst t) := by
 intro pins s σ H Q I hq
 refine wpAny_List_spliced (thn (h pos pins s σ H _ I hq) fun us s1 ⟨xs, H1, I1, r, z, q⟩ => ⟨by rw [<- r.length]; exact z, ?_⟩)
 have hf : H1 s1.heap.objs.size = none := I1.hok.fresh (Nat.le_refl _)
 refine ⟨.ref s1.heap.objs.size, upd H1 s1.heap.objs.size (.lst xs), I1.laid (t' := s1.toks) (fun b u e => Heap.get?_push_of_some _ e) (Nat.le_refl _) ?_, rfl, q _ hf⟩
 exact ⟨z, us, 0, r, Heap.get?_push_size _ rfl⟩
end
noncomputable abbrev Sp := List V -> Hp -> VK -> XK -> Prop
noncomputable abbrev CXT := List Env -> Hp -> Shared -> XK -> Value -> Shared -> Prop
structure Env0 (P : Program) (w : World) (K : PySem.W.Frag) (mg : Str -> Option Value) (base : Heap) (A : Around) (outer : List Env) (s : Shared) (H : Hp) : Prop where
 frames : A.frames = some outer
 mod : Mod K mg base
 bs : ∀ b o, base.get? b = some o -> s.heap.get? b = some o /\ H b = none
 bsz : base.objs.size <= s.heap.objs.size
 sP : s.heap.FunFrames base outer
 frf : ∀ b ∈ frs outer, H b = none
 hok : HOk P w H s.heap
 bare : AllBare s.gens
noncomputable def CE (outer : List Env) (P : Program) (w : World) (H : Hp) (s : Shared) (Q : VK) (u : Value) (s' : Shared) : Prop :=
 ∃ v H', s'.os = s.os /\ AllBare s'.gens /\ Un (frs outer) [] H H' s.heap s'.heap /\ HOk P w H' s'.heap /\ RelV v u /\ Q v H'
noncomputable def CR (CX : CXT) (outer : List Env) (P : Program) (w : World) (H : Hp) (s : Shared) (Q : VK) (E : XK) (r : Result) (s' : Shared) : Prop :=
 match r with
 | .ok (.ret u) => CE outer P w H s Q u s'
 | .ok _ => False
 | .error e => CX outer H s E e s'
structure cJ (P : Program) (w : World) (K : PySem.W.Frag) (mg : Str -> Option Value) (base : Heap) (CX : CXT) (k : Nat) (f : Addr) (fd : FuncData) (ps : List Str) (sp : Sp) : Prop where
 len : ∀ vs H Q E, sp vs H Q E -> vs.length = ps.length
 run : ∀ (A : Around) (outer : List Env) (s : Shared) (H : Hp) (args : Args) (us : List Value) (vs : List V) (Q : VK) (E : XK), jJ k A -> Env0 P w K mg base A outer s H -> BindsTo s fd args (ps.zip us) -> Vals vs us -> sp vs H Q E ->
  codeAny (model P w) A (.call (.ref f) args) (CR CX outer P w H s Q E) s
theorem Env0.make {P : Program} {w : World} {K : PySem.W.Frag} {mg : Str -> Option Value} {base : Heap} {A : Around} {outer : List Env} {s : Shared} {H : Hp} (e : Env0 P w K mg base A outer s H) (C : Addr) (us : List Value) (kw : List (Str × Value)) :
  Env0 P w K mg base (A.under (.builtin "type.__call__" ⟨.ref C :: us, kw⟩)) outer s H := ⟨by first | exact e.frames | (simpa [Around.under, Code.envs, Code.isFrame, pushEnvs] using e.frames), e.mod, e.bs, e.bsz, e.sP, e.frf, e.hok, e.bare⟩
section
variable {X : Cx} {pins : List (Addr × Obj)} {σ : St} {H : Hp} {s s' : Shared}
theorem Inv.env0 (I : Inv X pins σ H s) : Env0 X.prog X.w X.K X.mg X.base X.A X.stack s H :=
 ⟨I.ok.frames, I.ok.mod, I.bs, Nat.le_trans I.ok.bsz I.sz, I.stack, I.xY, I.hok, I.bare⟩
theorem Inv.after {Q : VK} {u : Value} (I : Inv X pins σ H s) (h : CE X.stack X.prog X.w H s Q u s') : EP X pins σ Q u s' := by
 obtain ⟨v, H', os, bare, un, hok, r, q⟩ := h
 obtain ⟨hh, g, d, t, os'⟩ := s'
 obtain rfl : os' = s.os := os
 exact ⟨v, H', I.call (h' := hh) (g' := g) (d' := d) (t' := t) (ch := []) un hok bare (fun b z => absurd z (by simp)), r, q⟩
end
noncomputable def tCall (sp : Sp) (dvs : List V) (E : XK) (t : TA) : TE := fun σ H Q => t σ H fun vs H1 => sp (vs ++ dvs) H1 Q E
noncomputable def tMeth (C : Addr) (m : Str) (sp : Sp) (dvs : List V) (E : XK) (ta : TE) (t : TA) : TE := fun σ H Q => ta σ H fun x H1 => ∃ a dx fs, x = .ref a /\ H1 a = some (.ins C dx fs) /\ fs.lookup m = none /\
 t σ H1 fun vs H2 => sp (x :: (vs ++ dvs)) H2 Q E
noncomputable def tMake (C : Addr) (sp : Sp) (dvs : List V) (E : XK) (t : TA) : TE := fun σ H Q => t σ H fun vs H1 => ∀ x dx, H1 x = none -> H1 dx = none -> dx ≠ x ->
 sp (.ref x :: (vs ++ dvs)) (upd (upd H1 dx (.own x)) x (.ins C dx [])) (fun v H2 => v = .non /\ Q (.ref x) H2) E
noncomputable def Binds (K : PySem.W.Frag) (fd : FuncData) (ps : List Str) (ds : List Value) : Prop :=
 ∀ (s : Shared) (us : List Value), K.In s.heap -> (us ++ ds).length = ps.length -> BindsTo s fd ⟨us, []⟩ (ps.zip (us ++ ds))
theorem Binds.all {K : PySem.W.Frag} {fd : FuncData} {ps : List Str} (h : ∀ us : List Value, us.length = ps.length -> bindArgs fd ⟨us, []⟩ = pure (ps.zip us)) : Binds K fd ps [] := fun s us _ hl => by
 rw [List.append_nil] at hl ⊢
 exact .of_eq (h us hl)
noncomputable def Passes (CX : CXT) (X : Cx) (E : XK) : Prop := ∀ (pins : List (Addr × Obj)) (σ : St) (H : Hp) (s : Shared) (e : Value) (s' : Shared), Inv X pins σ H s -> CX X.stack H s E e s' -> X.xe e s'
section
variable {X : Cx} {CX : CXT} {k : Nat} {f C : Addr} {fd : FuncData} {ps : List Str} {sp : Sp} {dvs : List V} {ds : List Value} {E : XK} {x m : Str} {p pos apos : Pos} {e o : Expr} {es : List Expr} {ta : TE} {t : TA}
theorem yb {pins : List (Addr × Obj)} {σ : St} {H : Hp} {s : Shared} {Q : VK} {us : List Value} {vs : List V} (F : cJ X.prog X.w X.K X.mg X.base CX k f fd ps sp) (hr : jJ k X.A) (hb : Binds X.K fd ps ds) (hd : Vals dvs ds) (hx : Passes CX X E)
  (I : Inv X pins σ H s) (r : Vals vs us) (h : sp (vs ++ dvs) H Q E) : wpAny (model X.prog X.w) X.A (call (.ref f) us) (EP X pins σ Q) X.xe s := by
 have r2 : Vals (vs ++ dvs) (us ++ ds) := r.append hd
 have hl : (us ++ ds).length = ps.length := by rw [<- r2.length]; exact F.len _ _ _ _ h
 refine wpAny_call (codeAny_mono (F.run X.A X.stack s H ⟨us, []⟩ (us ++ ds) (vs ++ dvs) Q E hr I.env0 (hb s us I.kIn hl) r2 h) fun r s' hq => ?_)
 cases r with
 | error e => exact hx pins σ H s e s' I hq
 | ok fl =>
  cases fl with
  | ret u => exact I.after hq
  | next => exact False.elim hq
  | brk => exact False.elim hq
  | cont => exact False.elim hq
theorem oM (F : cJ X.prog X.w X.K X.mg X.base CX k f fd ps sp) (hr : jJ k X.A) (hg : Gl X x) (hm : X.mg x = some (.ref f)) (hk : keepIn X.K (.ref f) = true) (hb : Binds X.K fd ps ds) (hd : Vals dvs ds) (hx : Passes CX X E)
  (ha : PA X (e :: es) t) (hdb : (x == ("__debug__" : Str)) = false := by decide) (he : starEach (e :: es) X.env = (false, eval e X.env) :: starEach es X.env := by rfl) (hpl : (backTo pos (starEach es X.env)).any (·.1) = false := by rfl) :
  PE X (.Call (.Name x p) (e :: es) [] pos) (tCall sp dvs E t) := by
 show 'Պ'
 refine wpAny_Call_Name_kw (gy I hg hm ?_ hdb)
 refine callWith_K (h₀ := X.base) I.ok.mod.kin hk (thn (ha pos pins s σ H _ I h) fun us s1 ⟨vs, H1, I1, r, q⟩ => ⟨I1.kIn, ?_⟩) he hpl
 exact yb F hr hb hd hx I1 r q
theorem pe_meth {pl : Sem Bool} (he : PE X o ta) (c : Cls X.K C) (hm : Meth X.K C m f) (F : cJ X.prog X.w X.K X.mg X.base CX k f fd ps sp) (hr : jJ k X.A) (hb : Binds X.K fd ps ds) (hd : Vals dvs ds) (hx : Passes CX X E) (ha : PA X (e :: es) t)
  (hst : starEach (e :: es) X.env = (false, eval e X.env) :: starEach es X.env := by rfl) (hpl : (backTo pos (starEach es X.env)).any (·.1) = false := by rfl)
  (ht : eval (.Call (.Attribute o m apos) (e :: es) [] pos) X.env = (do
   let ov <- eval o X.env
   standAt apos.atName
   let (f, first) <- holding [ov] (getMethod ov m pl)
   callWith pos f first (backTo pos (starEach (e :: es) X.env)) (backToKw pos (keywordEach [] X.env))) := by rfl) :
  PE X (.Call (.Attribute o m apos) (e :: es) [] pos) (tMeth C m sp dvs E ta t) := by
 show 'Պ'
 refine PySem.W.methodCall_KW (pl := pl) (thn (he pins s σ H _ I h) fun u s1 ⟨x, H1, I1, rx, a, dx, fs, ex, ea, l, q⟩ => ?_) ht
 subst ex
 obtain rfl : u = Value.ref a := rx
 refine qE I1 ea c hm l ?_
 refine callWith_K (first := [.ref a]) (h₀ := X.base) I.ok.mod.kin hm.kp (thn (ha pos pins s1 σ H1 _ I1 q) fun us s2 ⟨vs, H2, I2, r, q2⟩ => ⟨I2.kIn, ?_⟩) hst hpl
 exact yb (us := .ref a :: us) (vs := .ref a :: vs) F hr hb hd hx I2 (.cons rfl r) q2
structure Mk (K : PySem.W.Frag) (C f : Addr) : Prop where
 makes : PySem.W.makesIn K C = true
 init : PySem.W.findIn K (.ref C) "__init__" = some (some (.ref f))
 fn : PySem.W.isFn K (.ref f) = true
 kp : keepIn K (.ref C) = true
theorem run_make {pins : List (Addr × Obj)} {σ : St} {H : Hp} {s : Shared} {Q : VK} {us : List Value} {vs : List V} (M : Mk X.K C f) (F : cJ X.prog X.w X.K X.mg X.base CX k f fd ps sp) (hr : jJ (k + 1) X.A) (hb : Binds X.K fd ps ds) (hd : Vals dvs ds)
  (hx : Passes CX X E) (I : Inv X pins σ H s) (r : Vals vs us)
  (h : ∀ x dx, H x = none -> H dx = none -> dx ≠ x -> sp (.ref x :: (vs ++ dvs)) (upd (upd H dx (.own x)) x (.ins C dx [])) (fun v H2 => v = .non /\ Q (.ref x) H2) E) :
  wpAny (model X.prog X.w) X.A (call (.ref C) us) (EP X pins σ Q) X.xe s := by
 have hq := h (s.heap.objs.size + 1) s.heap.objs.size (I.hok.fresh (Nat.le_succ _)) (I.hok.fresh (Nat.le_refl _)) (Nat.ne_of_lt (Nat.lt_succ_self _))
 have I2 := Inv.made (C := C) I
 have r2 : Vals (V.ref (s.heap.objs.size + 1) :: (vs ++ dvs)) (Value.ref (s.heap.objs.size + 1) :: (us ++ ds)) := .cons rfl (r.append hd)
 have hl : (Value.ref (s.heap.objs.size + 1) :: us ++ ds).length = ps.length := by
  have e := r2.length
  rw [F.len _ _ _ _ hq] at e
  exact e.symm
 refine wpAny_call (make_map (f := f) I.kIn M.makes M.init (beq_iff_eq.mp M.fn) (codeAny_mono (F.run _ X.stack _ _ ⟨Value.ref (s.heap.objs.size + 1) :: us, []⟩ (Value.ref (s.heap.objs.size + 1) :: (us ++ ds)) _ _ E (hr.make C us [])
  (I2.env0.make C us []) (hb _ (Value.ref (s.heap.objs.size + 1) :: us) I2.kIn hl) r2 hq) fun r s' hq' => ?_))
 cases r with
 | error e => exact hx pins σ _ _ e s' I2 hq'
 | ok fl =>
  cases fl with
  | ret u =>
   obtain ⟨v, H', I3, rv, ev, q3⟩ := I2.after hq'
   subst ev
   exact ⟨rv, ⟨V.ref (s.heap.objs.size + 1), H', I3, rfl, q3⟩⟩
  | next => exact False.elim hq'
  | brk => exact False.elim hq'
  | cont => exact False.elim hq'
theorem yu (M : Mk X.K C f) (F : cJ X.prog X.w X.K X.mg X.base CX k f fd ps sp) (hr : jJ (k + 1) X.A) (hg : Gl X x) (hm : X.mg x = some (.ref C)) (hb : Binds X.K fd ps ds) (hd : Vals dvs ds) (hx : Passes CX X E)
  (ha : PA X (e :: es) t) (hdb : (x == ("__debug__" : Str)) = false := by decide) (he : starEach (e :: es) X.env = (false, eval e X.env) :: starEach es X.env := by rfl) (hpl : (backTo pos (starEach es X.env)).any (·.1) = false := by rfl) :
  PE X (.Call (.Name x p) (e :: es) [] pos) (tMake C sp dvs E t) := by
 show 'Պ'
 refine wpAny_Call_Name_kw (gy I hg hm ?_ hdb)
 refine callWith_K (h₀ := X.base) I.ok.mod.kin M.kp (thn (ha pos pins s σ H _ I h) fun us s1 ⟨vs, H1, I1, r, q⟩ => ⟨I1.kIn, ?_⟩) he hpl
 exact run_make M F hr hb hd hx I1 r q
end
section
variable {X : Cx} {CX : CXT} {k : Nat} {f C : Addr} {fd : FuncData} {ps ks : List Str} {sp : Sp} {E : XK} {x m : Str} {p pos apos kpos : Pos} {e o : Expr} {es : List Expr} {kws : List Keyword} {te ta : TE} {t tk : TA} {nm : Option Str}
structure KBinds (K : PySem.W.Frag) (fd : FuncData) (ps ks : List Str) (g : List Value -> List Value -> List Value) (gV : List V -> List V -> List V) : Prop where
 to : ∀ (s : Shared) (us ws : List Value), K.In s.heap -> (g us ws).length = ps.length -> BindsTo s fd ⟨us, ks.zip ws⟩ (ps.zip (g us ws))
 rel : ∀ {vs : List V} {us : List Value} {zs : List V} {ws : List Value}, Vals vs us -> Vals zs ws -> Vals (gV vs zs) (g us ws)
variable {g : List Value -> List Value -> List Value} {gV : List V -> List V -> List V}
end
structure aH (N P : List Str) (sc : Scope) : Prop where
 kind : sc.kind = .function
 co : sc.isCoroutine = false
 gen : sc.isGenerator = false
 nd : N.Nodup
 pre : N.take P.length = P
 par : ∀ x ∈ P, sc.names.lookup x = some .local \/ sc.names.lookup x = some .cell
 nofree : ∀ y ∈ sc.names, y.2 ≠ .free
theorem ue {kindOf : Str -> Option NameKind} {x : Str} : ∀ {binds : List (Str × Value)} {m : Str -> Option Value}, (∀ v, (x, v) ∉ binds) -> bindL kindOf binds m x = m x
 | [], _, _ => rfl
 | (n, v) :: r, m, h => by
  unfold bindL
  rw [ue fun w hw => h w (List.mem_cons_of_mem _ hw)]
  split
  ·have : x ≠ n := by rintro rfl; exact h v List.mem_cons_self
   simp [this]
  ·rfl
theorem ug {kindOf : Str -> Option NameKind} {x : Str} : ∀ {binds : List (Str × Value)} {m : Str -> Option Value}, (∀ v, (x, v) ∉ binds) -> bindC kindOf binds m x = m x
 | [], _, _ => rfl
 | (n, v) :: r, m, h => by
  unfold bindC
  rw [ug fun w hw => h w (List.mem_cons_of_mem _ hw)]
  split
  ·rfl
  ·have : x ≠ n := by rintro rfl; exact h v List.mem_cons_self
   simp [this]
theorem uf {kindOf : Str -> Option NameKind} {x : Str} {v : Value} : ∀ {P : List Str} {vs : List Value} {i : Nat} {m : Str -> Option Value}, P.Nodup -> P[i]? = some x -> vs[i]? = some v -> kindOf x = some .local ->
  bindL kindOf (P.zip vs) m x = some v
 | [], _, _, _, _, h, _, _ => by simp at h
 | _ :: _, [], _, _, _, _, h, _ => by simp at h
 | p :: P, w :: vs, 0, m, nd, h1, h2, hk => by
  simp at h1 h2; subst h1; subst h2
  show bindL kindOf ((p, w) :: P.zip vs) m p = _
  unfold bindL
  rw [ue fun v hv => (List.nodup_cons.mp nd).1 (List.of_mem_zip hv).1, if_pos hk]
  simp
 | p :: P, w :: vs, i + 1, m, nd, h1, h2, hk => by
  show bindL kindOf ((p, w) :: P.zip vs) m x = _
  unfold bindL
  exact uf (i := i) (List.nodup_cons.mp nd).2 (by simpa using h1) (by simpa using h2) hk
theorem uh {kindOf : Str -> Option NameKind} {x : Str} {v : Value} : ∀ {P : List Str} {vs : List Value} {i : Nat} {m : Str -> Option Value}, P.Nodup -> P[i]? = some x -> vs[i]? = some v -> kindOf x ≠ some .local ->
  bindC kindOf (P.zip vs) m x = some v
 | [], _, _, _, _, h, _, _ => by simp at h
 | _ :: _, [], _, _, _, _, h, _ => by simp at h
 | p :: P, w :: vs, 0, m, nd, h1, h2, hk => by
  simp at h1 h2; subst h1; subst h2
  show bindC kindOf ((p, w) :: P.zip vs) m p = _
  unfold bindC
  rw [ug fun v hv => (List.nodup_cons.mp nd).1 (List.of_mem_zip hv).1, if_neg hk]
  simp
 | p :: P, w :: vs, i + 1, m, nd, h1, h2, hk => by
  show bindC kindOf ((p, w) :: P.zip vs) m x = _
  unfold bindC
  exact uh (i := i) (List.nodup_cons.mp nd).2 (by simpa using h1) (by simpa using h2) hk
noncomputable def start (N : List Str) (vs : List V) : St := vs.map some ++ List.replicate (N.length - vs.length) none
noncomputable def xD (CX : CXT) (P : Program) (w : World) (K : PySem.W.Frag) (mg : Str -> Option Value) (base : Heap) (N : List Str) (qual : Str) (scope : Scope) (f : Addr) (cd : Value) (A : Around) (outer : List Env) (s : Shared) (H : Hp) (E : XK) : Cx where
 prog := P
 w := w
 K := K
 mg := mg
 base := base
 A := A.deeper (envOfC qual scope s.heap.objs.size f cd)
 N := N
 s₀ := s
 H₀ := H
 env := envOfC qual scope s.heap.objs.size f cd
 outer := outer
 stack := envOfC qual scope s.heap.objs.size f cd :: outer
 ex := []
 calm := true
 fn := fun _ => true
 pn := []
 xe := fun e s' => wpAny (model P w) (A.deeper (envOfC qual scope s.heap.objs.size f cd)) (leaving (envOfC qual scope s.heap.objs.size f cd) e) (fun _ s'' => CX outer H s E e s'') (fun e' s'' => CX outer H s E e' s'') s'
theorem wG {sc : Scope} {n : Nat} {x : Str} (h : sc.names.lookup x = some .cell) : ∃ c, (cellsFrom n sc.names []).lookup x = some c := by
 have q := PySem.W.cellsFrom_some sc.names n [] (.inl h)
 exact Option.isSome_iff_exists.mp q
theorem yW {CX : CXT} {P : Program} {w : World} {K : PySem.W.Frag} {mg : Str -> Option Value} {base : Heap} {N ps : List Str} {qual : Str} {scope : Scope} {f : Addr} {cd : Value} {A : Around} {outer : List Env} {s s1 : Shared} {H : Hp} {E : XK} {us : List Value} {vs : List V}
  (S : aH N ps scope) (hd : A.handled = none) (e0 : Env0 P w K mg base A outer s H) (hl : vs.length = ps.length) (r : Vals vs us)
  (x : InCallC s s.heap.objs.size (bindL (envOfC qual scope s.heap.objs.size f cd).kindOf (ps.zip us) fun _ => none) (cellsFrom (s.heap.objs.size + 1) scope.names []) (bindC (envOfC qual scope s.heap.objs.size f cd).kindOf (ps.zip us) fun _ => none) s1) :
  Inv (xD CX P w K mg base N qual scope f cd A outer s H E) [] (start N vs) H s1 := by
 show 'տ'
 obtain ⟨h1, tk, rfl, hk⟩ := x.done
 have noA : ∀ b : Addr, b ∉ (xD CX P w K mg base N qual scope f cd A outer s H E).ex := fun b z => absurd (show b ∈ ([] : List Addr) from z) (by simp)
 refine ⟨⟨e0.mod, S.kind, rfl, rfl, Nat.le_refl _, fun y z c h1 h2 => ?_, fun y hy => ?_, fun y c _ h => ?_, fun _ => hd, Around.frames_deeper e0.frames, .inr ⟨rfl, rfl⟩, fun b z => absurd z (noA b), e0.bs, e0.bsz, fun b _ _ => noA b, fun b z => absurd z (noA b), e0.sP, e0.frf⟩,
  rfl, e0.bare, Un.kept hk, ⟨_, x.toInCall.ns, fun i y v h1 h2 h3 => ?_⟩, fun y c h => ⟨_, x.cell y c h⟩, e0.hok.fresh (Nat.le_refl _), fun y c h => ?_, fun p hp => absurd (show p ∈ ([] : List (Addr × Obj)) from hp) (by simp), e0.hok.kept hk, ?_⟩
 ·exact name_of_addr x.apart (PySem.mem_of_lookup h1) (PySem.mem_of_lookup h2)
 ·have hy : scope.names.lookup y = some .cell \/ scope.names.lookup y = some .free := hy
  rcases hy with hy | hy
  ·exact wG hy
  ·exact absurd rfl (S.nofree _ (PySem.mem_of_lookup hy))
 ·exact Nat.le_of_lt (x.above y c (PySem.mem_of_lookup h))
 ·have hi : i < vs.length := by
   unfold start at h2
   by_cases hi : i < vs.length
   ·exact hi
   ·rw [List.getElem?_append_right (by simpa using hi)] at h2
    rw [List.getElem?_replicate] at h2
    split at h2 <;> cases h2
  have ha : vs[i]? = some v := by
   unfold start at h2
   rw [List.getElem?_append_left (by simpa using hi), List.getElem?_map] at h2
   cases e : vs[i]? with
   | none => rw [e] at h2; cases h2
   | some a => rw [e] at h2; cases h2; rfl
  obtain ⟨u, hu, rv⟩ := r.get ha
  have hp : ps[i]? = some y := by
   rw [<- S.pre, List.getElem?_take_of_lt (by omega)]; exact h1
  have ndP : ps.Nodup := by rw [<- S.pre]; exact S.nd.sublist (List.take_sublist _ _)
  refine ⟨u, rv, ?_⟩
  rcases S.par y (List.mem_of_getElem? hp) with k | k
  ·exact .inl ⟨k, uf ndP hp hu k⟩
  ·obtain ⟨c, e⟩ := wG (n := s.heap.objs.size + 1) k
   refine .inr ⟨.inl k, c, e, ?_⟩
   have q := x.cell y c e
   rw [uh ndP hp hu (by show scope.names.lookup y ≠ _; rw [k]; decide)] at q
   exact q
 ·exact e0.hok.fresh (Nat.le_of_lt (x.above y c (PySem.mem_of_lookup h)))
 ·unfold start
  show _ = N.length
  rw [List.length_append, List.length_map, List.length_replicate]
  omega
theorem fn_of {CX : CXT} {P : Program} {w : World} {K : PySem.W.Frag} {mg : Str -> Option Value} {base : Heap} {k : Nat} {f : Addr} {name qual : Str} {params : Arguments} {body : List Stmt} {scope : Scope} {dV kV doc pm cdv ct oc : Value} {an od : Option Addr}
  {osl : Array (Option Value)} {N ps : List Str} {sp : Sp} (lk : K.lookup f = some ⟨oc, od, .func (fnOf name qual params body scope dV kV doc pm an cdv ct), osl⟩) (hcd : codeIn K cdv qual = true) (S : aH N ps scope)
  (len : ∀ vs H Q E, sp vs H Q E -> vs.length = ps.length)
  (hbody : ∀ (A : Around) (outer : List Env) (s : Shared) (H : Hp) (vs : List V) (Q : VK) (E : XK), jJ k (A.deeper (envOfC qual scope s.heap.objs.size f cdv)) -> sp vs H Q E ->
   ∃ t, PSs (xD CX P w K mg base N qual scope f cdv A outer s H E) body t /\ t { nx := fun _ H' => Q .non H', rt := Q } (start N vs) H) :
  cJ P w K mg base CX (k + 1) f (fnOf name qual params body scope dV kV doc pm an cdv ct) ps sp := by
 refine ⟨len, fun A outer s H args us vs Q E hr e0 hb r hsp => ?_⟩
 have hl := len _ _ _ _ hsp
 have KX : K.In s.heap := e0.mod.kin.keeps fun b o e => (e0.bs b o e).1
 have lim : s.heap.NoLimit := e0.mod.nolimit.keeps fun b o e => (e0.bs b o e).1
 have hkind : ∀ y ∈ ps.zip us, scope.names.lookup y.1 = some .local \/ (scope.names.lookup y.1 = some .cell /\ ((cellsFrom (s.heap.objs.size + 1) scope.names []).lookup y.1).isSome = true) := fun ⟨n, v⟩ hy => by
  rcases S.par n (List.of_mem_zip hy).1 with q | q
  ·exact .inl q
  ·exact .inr ⟨q, PySem.W.cellsFrom_some _ _ _ (.inl q)⟩
 refine codeAny_call_function hr.depth (KX _ _ lk) rfl S.co S.gen rfl (PySem.W.codeRec_of KX hcd) (hb _ _ _ _ ?_)
 refine wpAny_newFunctionEnv_cells S.kind hkind fun env he s1 x => ?_
 subst he
 refine ⟨lim.keeps x.toInCall.keep, codeAny_func ?_⟩
 obtain ⟨t, ht, hq⟩ := hbody A outer s H vs Q E (hr.deeper _) hsp
 have I : Inv (xD CX P w K mg base N qual scope f cdv A outer s H E) [] (start N vs) H s1 := yW S hr.hd e0 hl r x
 refine wpAny_mono (ht [] s1 (start N vs) H _ I hq) (fun fl s' hs => ?_) fun e s' hs => hs
 have fin : ∀ {σ' : St} {H' : Hp} {v : V} {u : Value}, Inv (xD CX P w K mg base N qual scope f cdv A outer s H E) [] σ' H' s' -> RelV v u -> Q v H' -> CE outer P w H s Q u s' :=
  fun {σ' H' v u} J rv q => ⟨v, H', J.os, J.bare, J.base, J.hok, rv, q⟩
 cases fl with
 | ret u =>
  obtain ⟨v, σ', H', J, rv, q⟩ := hs
  exact fin J rv q
 | next =>
  obtain ⟨σ', H', J, q⟩ := hs
  exact fin (v := V.non) (u := Value.none) J rfl q
 | brk =>
  obtain ⟨_, _, _, q⟩ := hs
  exact False.elim q
 | cont =>
  obtain ⟨_, _, _, q⟩ := hs
  exact False.elim q
end L2
namespace L2
open PySem PySem.Spec PyProof.Rows
section
variable {X : Cx} {x : Str} {p pos : Pos} {e : Expr} {es : List Expr} {t : TA} {id T : String} {r : List V -> Hp -> VK -> Prop}
noncomputable def tCB (r : List V -> Hp -> VK -> Prop) (t : TA) : TE := fun σ H Q => t σ H fun vs H1 => r vs H1 Q
theorem fV (hc : dq X (.builtin id) r) (hg : Gl X x) (hm : X.mg x = none) (hv : bootBuiltins x = some (.builtin id)) (ha : PA X (e :: es) t) (hn : x ≠ "__name__" := by decide) (hdb : (x == ("__debug__" : Str)) = false := by decide)
  (he : starEach (e :: es) X.env = (false, eval e X.env) :: starEach es X.env := by rfl) (hpl : (backTo pos (starEach es X.env)).any (·.1) = false := by rfl) : PE X (.Call (.Name x p) (e :: es) [] pos) (tCB r t) := by
 show 'Պ'
 refine wpAny_Call_Name_kw (nU I hg hm hv ?_ hn hdb)
 exact PyProof.Rows.callWith_builtin1 (thn (ha pos pins s σ H _ I h) fun us s1 ⟨vs, H1, I1, r1, q1⟩ => hc pins s1 σ H1 vs us Q I1 r1 q1) he hpl
theorem tG (hc : dq X (.type T) r) (hg : Gl X x) (hm : X.mg x = none) (hv : bootBuiltins x = some (.type T)) (ha : PA X (e :: es) t) (hn : x ≠ "__name__" := by decide) (hdb : (x == ("__debug__" : Str)) = false := by decide)
  (he : starEach (e :: es) X.env = (false, eval e X.env) :: starEach es X.env := by rfl) (hpl : (backTo pos (starEach es X.env)).any (·.1) = false := by rfl) : PE X (.Call (.Name x p) (e :: es) [] pos) (tCB r t) := by
 show 'Պ'
 refine wpAny_Call_Name_kw (nU I hg hm hv ?_ hn hdb)
 exact PyProof.Rows.callWith_type1 (thn (ha pos pins s σ H _ I h) fun us s1 ⟨vs, H1, I1, r1, q1⟩ => hc pins s1 σ H1 vs us Q I1 r1 q1) he hpl
end
end L2
namespace HT
open PySem PyProof.Rows
section
open PySem.SeqAt
open PySem.AutoSeq1 (wpAny_loadPart')
open PySem.MeetsSeq PySem.MeetsSeq2 PySem.MeetsSeq3
end
section
variable {prog : Program} {w : World} {A : Around} {E : Value -> Shared -> Prop} {s : Shared}
theorem cat_tup {t b : Addr} {vs ws : List Value} {Q : Value -> Shared -> Prop} (ht : IsTup s.heap t vs.toArray) (hb : IsTup s.heap b ws.toArray) (hv : vs ≠ [])
  (h1 : ws = [] -> Q (.ref t) s) (h2 : ws ≠ [] -> Q (.ref s.heap.objs.size) { s with heap := s.heap.push { cls := .type "tuple", data := .seq (vs ++ ws).toArray } })
  (hsz : vs.length + ws.length <= sizeLine) : wpAny (model prog w) A (binaryOp .Add (.ref t) (.ref b)) Q E s := by
 obtain ⟨⟨cls, dd, data, sl⟩, ho, hc, n, hd⟩ := id ht
 obtain ⟨⟨cls2, dd2, data2, sl2⟩, ho2, hc2, n2, hd2⟩ := id hb
 simp only at hc hd hc2 hd2
 subst hc hd hc2 hd2
 have e : vs.toArray ++ ws.toArray = (vs ++ ws).toArray := by simp
 by_cases hw : ws = []
 ·exact concat_meets ⟨_, ho, rfl⟩ ⟨_, ho2, rfl⟩ noFill_tuple_add seq_tuple_add PySem.F.slot_tuple_add PySem.F.entry_tuple_add (PySem.F.args_tuple_add_2 _ _)
   (tuple_addW1 t b vs.toArray ws.toArray n n2 dd dd2 sl sl2 (by simpa using hv) (by simp [hw])) ⟨ho, ho2, h1 hw⟩
 ·refine concat_meets ⟨_, ho, rfl⟩ ⟨_, ho2, rfl⟩ noFill_tuple_add seq_tuple_add PySem.F.slot_tuple_add PySem.F.entry_tuple_add (PySem.F.args_tuple_add_2 _ _)
   (tuple_addW2 t b vs.toArray ws.toArray n n2 dd dd2 sl sl2 (by simpa using hv) (by simpa using hw) (by rw [List.size_toArray, List.size_toArray]; exact hsz)) ⟨ho, ho2, ?_⟩
  rw [e]
  exact h2 hw
end
end HT
namespace L2
open PySem PySem.Spec PyProof.Rows
theorem intsAre_of {ns : List Int} : ∀ {us : List Value}, Vals (ns.map V.int) us -> IntsAre us ns := by
 induction ns with
 | nil => intro us r; rw [List.map_nil] at r; cases r; exact .nil
 | cons n ns ih =>
  intro us r
  rw [List.map_cons] at r
  cases r with
  | cons r1 r2 =>
   obtain ⟨t, e⟩ := r1
   subst e
   exact .cons n t (ih r2)
section
variable {X : Cx} {e : Expr} {te : TE} {lo hi : Option Expr} {tl th : TO} {pos p2 : Pos}
noncomputable def rCatT (K : PySem.W.Frag) : R2 := fun x y H Q => ∃ a b xs ys, x = .ref a /\ y = .ref b /\ SqT K H a xs /\ SqT K H b ys /\ xs ≠ [] /\ xs.length + ys.length <= sizeLine /\
 (ys = [] -> Q (.ref a) H) /\ (ys ≠ [] -> ∀ p, H p = none -> Q (.ref p) (upd H p (.tup (xs ++ ys))))
theorem Vals.vd {xs : List V} {us : List Value} (r : Vals xs us) : us = [] ↔ xs = [] := by
 cases r with
 | nil => simp
 | cons _ _ => simp
theorem op_catT : OpR X (binaryOp .Add) (rCatT X.K) := by
 show 'Ն'
 obtain ⟨a, b, xs, ys, rfl, rfl, ha, hb, hx, hz, q1, q2⟩ := h
 cases rx
 cases ry
 obtain ⟨its, r1, p1, _⟩ := I.tuple ha
 obtain ⟨its2, r2, p2, _⟩ := I.tuple hb
 refine HT.cat_tup p1 p2 (fun z => hx (r1.vd.mp z)) (fun z => ⟨.ref a, H, I, rfl, q1 (r2.vd.mp z)⟩) (fun z => ?_) (by rw [<- r1.length, <- r2.length]; exact hz)
 refine ⟨.ref s.heap.objs.size, _, I.laid (t' := s.toks) (o := .tup (xs ++ ys)) (fun b ob q => Heap.get?_push_of_some _ q) (Nat.le_refl _) ?_, rfl, q2 (fun w => z (r2.vd.mpr w)) _ (I.hok.fresh (Nat.le_refl _))⟩
 exact ⟨by rw [List.length_append]; exact hz, _, r1.append r2, IsTup.new _ _⟩
end
end L2
namespace L2
open PySem PySem.Spec PyProof.Rows
noncomputable def ixN (n : Nat) (i : Int) : Option Nat := if 0 <= i then (if i < n then some i.toNat else none) else if -(n : Int) <= i then some (i + n).toNat else none
noncomputable def atI {α : Type} (xs : List α) (i : Int) : Option α := (ixN xs.length i).bind fun j => xs[j]?
theorem vg {n : Nat} {i : Int} {j : Nat} (h : ixN n i = some j) : seqIndex? i n = some j /\ j < n /\ -(n : Int) <= i /\ i < n := by
 unfold ixN at h
 by_cases h0 : 0 <= i
 ·rw [if_pos h0] at h
  by_cases h1 : i < n
  ·rw [if_pos h1] at h
   have e : i.toNat = j := Option.some.inj h
   exact ⟨by rw [seqIndex_of h0 h1, e], by omega, by omega, h1⟩
  ·rw [if_neg h1] at h; cases h
 ·rw [if_neg h0] at h
  by_cases h1 : -(n : Int) <= i
  ·rw [if_pos h1] at h
   have e : (i + n).toNat = j := Option.some.inj h
   exact ⟨by rw [seqIndex_neg (by omega) h1, e], by omega, h1, by omega⟩
  ·rw [if_neg h1] at h; cases h
theorem vJ {α : Type} {xs : List α} {i : Int} {v : α} (h : atI xs i = some v) : ∃ j, seqIndex? i xs.length = some j /\ xs[j]? = some v /\ j < xs.length /\ -(xs.length : Int) <= i /\ i < xs.length := by
 unfold atI at h
 cases e : ixN xs.length i with
 | none => rw [e] at h; cases h
 | some j =>
  rw [e] at h
  obtain ⟨h1, h2, h3, h4⟩ := vg e
  exact ⟨j, h1, h, h2, h3, h4⟩
noncomputable def zX (b : Expr) : Prop := ∀ o i, subscripted b false o i = operate [o, i] (getItem o i)
noncomputable def IxR (X : Cx) (r : R2) : Prop :=
 ∀ (value slice : Expr) (pins : List (Addr × Obj)) (s : Shared) (σ : St) (H : Hp) (x y : V) (v u : Value) (Q : VK), Inv X pins σ H s -> RelV x v -> RelV y u -> r x y H Q ->
  subscripted slice false v u = operate [v, u] (getItem v u) -> wpAny (model X.prog X.w) X.A (subscriptTail value slice v u) (EP X pins σ Q) X.xe s
noncomputable def MtR (X : Cx) (id : String) (r : V -> List V -> Hp -> VK -> Prop) : Prop :=
 ∀ (pins : List (Addr × Obj)) (s : Shared) (σ : St) (H : Hp) (x : V) (xs : List V) (v : Value) (us : List Value) (Q : VK), Inv X pins σ H s -> RelV x v -> Vals xs us -> r x xs H Q ->
  wpAny (model X.prog X.w) X.A (call (.builtin id) (v :: us)) (EP X pins σ Q) X.xe s
section
variable {X : Cx} {a b : Expr} {ta tb : TE} {pos : Pos}
theorem IxR.or {r r' : R2} (h : IxR X r) (h' : IxR X r') : IxR X (fun x y H Q => r x y H Q \/ r' x y H Q) := by
 intro value slice pins s σ H x y v u Q I rx ry q hs
 rcases q with q | q
 ·exact h value slice pins s σ H x y v u Q I rx ry q hs
 ·exact h' value slice pins s σ H x y v u Q I rx ry q hs
theorem pe_ix {r : R2} (hr : IxR X r) (ha : PE X a ta) (hb : PE X b tb) (hs : zX b) : PE X (.Subscript a b pos) (tOp r ta tb) := by
 show 'Պ'
 exact Subscript_ (binT ha hb I h fun v u s2 x y H2 I2 rx ry q => hr a b pins s2 σ H2 x y v u Q I2 rx ry q (hs _ _))
noncomputable def rIxL (K : PySem.W.Frag) : R2 := fun x y H Q => ∃ p xs i v, x = .ref p /\ y = .int i /\ SqL K H p xs /\ atI xs i = some v /\ Q v H
noncomputable def rIxT (K : PySem.W.Frag) : R2 := fun x y H Q => ∃ p xs i v, x = .ref p /\ y = .int i /\ SqT K H p xs /\ atI xs i = some v /\ Q v H
noncomputable def rIxS : R2 := fun x y H Q => ∃ z i c, x = .str z /\ y = .int i /\ z.length <= sizeLine /\ atI z.cps.toList i = some c /\ Q (.str ⟨#[c]⟩) H
theorem yQ : IxR X (rIxL X.K) := by
 show 'հ'
 obtain ⟨its, r, pl, hz⟩ := I.list hq
 show 'ը'
 by_cases h0 : 0 <= i
 ·have hj : i.toNat = j := by
   rw [seqIndex_of h0 h5] at h1
   exact Option.some.inj h1
  exact item_listR pl.isList h0 (by omega) (by rw [hj]; simpa using ew) fin hs
 ·have hj : (i + (its.toArray.size : Int)).toNat = j := by
   rw [seqIndex_neg (by omega) h4] at h1
   rw [List.size_toArray, <- hl]
   exact Option.some.inj h1
  exact subscriptTail_builtinR (x := w) pl.isList.typeIs slot_list_getitem.lookup
   (wpAny_getItem_list_neg (Q := fun r s' => r = w /\ EP X pins σ Q r s') pl.isList (by omega) (by rw [List.size_toArray] <;> omega) (by omega) (by rw [hj]; simpa using ew) ⟨rfl, fin⟩) hs
theorem ix_tup : IxR X (rIxT X.K) := by
 show 'հ'
 obtain ⟨its, r, pl, hz⟩ := I.tuple hq
 show 'ը'
 exact subscriptTail_builtinR (x := w) pl.typeIs slot_tuple_getitem.lookup
  (getItem_tuple (j := j) (Q := fun r s' => r = w /\ EP X pins σ Q r s') pl (by omega) (by omega) (by rw [List.size_toArray, <- hl]; exact h1) (by simpa using ew) ⟨rfl, fin⟩) hs
theorem ix_str : IxR X rIxS := by
 intro value slice pins s σ H x y v u Q I rx ry h hs
 obtain ⟨z, i, c, rfl, rfl, hz, he, q⟩ := h
 show 'բ'
 obtain ⟨t', rfl⟩ := ry
 obtain ⟨j, h1, h2, h3, h4, h5⟩ := vJ he
 have hl : z.cps.toList.length = z.length := by simp [Str.length]
 rw [hl] at h1 h4 h5
 have hn := qv
 exact tail_any (typeIs_str s z t) slot_str_getitem.lookup (getItem_str (c := c) (by
  have e1 : decide (i < -(2 ^ 63 : Int)) = false := decide_eq_false (by omega)
  have e2 : decide (i >= 2 ^ 63) = false := decide_eq_false (by omega)
  rw [e1, e2, Bool.or_false]) (by rw [h1]; simpa using h2) ⟨.str ⟨#[c]⟩, H, I.tok _, ⟨_, rfl⟩, q⟩) hs
noncomputable def rIx (K : PySem.W.Frag) : R2 := fun x y H Q => rIxL K x y H Q \/ rIxT K x y H Q \/ rIxS x y H Q
theorem ix_seq : IxR X (rIx X.K) := yQ.or (ix_tup.or ix_str)
theorem xg (its : List Value) (n j : Nat) (u : Value) : Obj.mapSeq (·.setIfInBounds j u) { cls := .type "list", data := .seq its.toArray n } = { cls := .type "list", data := .seq (its.set j u).toArray n } := by
 simp [Obj.mapSeq]
theorem Inv.lst {pins : List (Addr × Obj)} {σ : St} {H : Hp} {s : Shared} {p : Addr} {xs : List V} (I : Inv X pins σ H s) (h : H p = some (.lst xs)) :
  ∃ (its : List Value) (n : Nat), Vals xs its /\ s.heap.get? p = some { cls := .type "list", data := .seq its.toArray n } /\ xs.length <= sizeLine := by
 obtain ⟨z, its, n, r, e⟩ := I.hok p _ h
 exact ⟨its, n, r, e, z⟩
theorem Inv.lstUpd {pins : List (Addr × Obj)} {σ : St} {H : Hp} {s : Shared} {p : Addr} {xs ys : List V} {its its' : List Value} {n n' : Nat} {f : Obj -> Obj} (I : Inv X pins σ H s) (h : H p = some (.lst xs))
  (ho : s.heap.get? p = some { cls := .type "list", data := .seq its.toArray n }) (hf : f { cls := .type "list", data := .seq its.toArray n } = { cls := .type "list", data := .seq its'.toArray n' }) (r : Vals ys its') (hz : ys.length <= sizeLine) (t : Nat) :
  Inv X pins σ (upd H p (.lst ys)) { s with heap := s.heap.update p f, toks := t } := by
 have e : (s.heap.update p f).get? p = some { cls := .type "list", data := .seq its'.toArray n' } := by
  rw [Heap.get?_update_self f ho (by rw [hf] <;> rfl), hf]
 refine I.write (x := p) (e := p) (by rw [h]; trivial) (.inl rfl) (fun b u hb q => (Heap.get?_update_other _ _ (Ne.symm hb)).trans q) ⟨_, e⟩ ?_
 exact ⟨hz, its', n', r, e⟩
noncomputable def rSetL : V -> V -> V -> Hp -> (Hp -> Prop) -> Prop := fun o i v H Q => ∃ p xs k j, o = .ref p /\ i = .int k /\ H p = some (.lst xs) /\ ixN xs.length k = some j /\ Q (upd H p (.lst (xs.set j v)))
theorem set_list : PSet X rSetL := by
 intro pins s σ H o i v ov iv u Q I ro ri rv h
 obtain ⟨p, xs, k, j, rfl, rfl, hp, hj, q⟩ := h
 cases ro
 obtain ⟨t, rfl⟩ := ri
 obtain ⟨its, n, r, ho, hz⟩ := I.lst hp
 obtain ⟨h1, h2, h3, h4⟩ := vg hj
 have hl := r.length
 have hn := qv
 have I' : Inv X pins σ (upd H p (.lst (xs.set j v))) { s with heap := s.heap.update p (Obj.mapSeq (·.setIfInBounds j u)) } :=
  I.lstUpd hp ho (xg its n j u) (r.set rv j) (by rw [List.length_set]; exact hz) s.toks
 by_cases h0 : 0 <= k
 ·have hk : k.toNat = j := by
   rw [seqIndex_of h0 h4] at h1
   exact Option.some.inj h1
  exact PySem.W.ki_setAt ho h0 (by omega) (by rw [List.size_toArray, <- hl]; exact h4) (by rw [hk]; exact ⟨_, I', q⟩)
 ·have hk : (k + (its.toArray.size : Int)).toNat = j := by
   rw [seqIndex_neg (by omega) h3] at h1
   rw [List.size_toArray, <- hl]
   exact Option.some.inj h1
  exact PySem.W.ki_setBack ho (by omega) (by rw [List.size_toArray, <- hl]; exact h3) (by omega) (by rw [hk]; exact ⟨_, I', q⟩)
noncomputable def flatV : V -> Bool
 | .non => true
 | .bl _ => true
 | .int _ => true
 | .str _ => true
 | _ => false
noncomputable def eqV : V -> V -> Bool
 | .non, .non => true
 | .bl a, .bl b => a == b
 | .bl a, .int b => (if a then 1 else 0) == b
 | .int a, .bl b => a == (if b then 1 else 0)
 | .int a, .int b => a == b
 | .str a, .str b => a == b
 | _, _ => false
theorem lI : dq X (.builtin "len") (fun xs H Q => ∃ p ys, xs = [.ref p] /\ (SqL X.K H p ys \/ SqT X.K H p ys) /\ Q (.int ys.length) H) := by
 show 'թ'
 obtain ⟨p, ys, rfl, hq, q⟩ := h
 obtain ⟨u, rfl, rx⟩ := vals1 r
 cases rx
 have hn := qv
 rcases hq with hq | hq
 ·obtain ⟨its, r', pl, hz⟩ := I.list hq
  have hlen := r'.length
  exact Calls.call_len_list pl.isList (by simp only [List.size_toArray] <;> omega) ⟨.int ys.length, H, I.tok _, ⟨s.toks + 1, by rw [List.size_toArray, hlen]⟩, q⟩
 ·obtain ⟨its, r', pl, hz⟩ := I.tuple hq
  have hlen := r'.length
  exact len_tuple pl (by simp only [List.size_toArray] <;> omega) ⟨.int ys.length, H, I.tok _, ⟨s.toks + 1, by rw [List.size_toArray, hlen]⟩, q⟩
theorem dq.or {f : Value} {r r' : List V -> Hp -> VK -> Prop} (h : dq X f r) (h' : dq X f r') : dq X f (fun xs H Q => r xs H Q \/ r' xs H Q) := by
 intro pins s σ H xs us Q I rs q
 rcases q with q | q
 ·exact h pins s σ H xs us Q I rs q
 ·exact h' pins s σ H xs us Q I rs q
theorem uc : dq X (.type "list") (fun xs H Q => ∃ p ys, xs = [.ref p] /\ (SqL X.K H p ys \/ SqT X.K H p ys) /\ ∀ l, H l = none -> Q (.ref l) (upd H l (.lst ys))) := by
 show 'թ'
 obtain ⟨p, ys, rfl, hq, q⟩ := h
 obtain ⟨u, rfl, rx⟩ := vals1 r
 cases rx
 have fin : ∀ (its : List Value), Vals ys its -> ys.length <= sizeLine -> ∀ (h' : Heap) (c' : Nat), (∀ b o', s.heap.get? b = some o' -> h'.get? b = some o') ->
   h'.get? s.heap.objs.size = some { cls := .type "list", dict := none, data := .seq its.toArray c', slots := #[] } -> EP X pins σ Q (.ref s.heap.objs.size) { s with heap := h' } := fun its r' hz h' c' kp e =>
  ⟨.ref s.heap.objs.size, _, I.laid (t' := s.toks) kp (Nat.le_refl _) (show e6 X.prog X.w _ h' _ (.lst ys) from ⟨hz, its, c', r', e⟩), rfl, q _ (I.hok.fresh (Nat.le_refl _))⟩
 rcases hq with hq | hq
 ·obtain ⟨its, r', pl, hz⟩ := I.list hq
  have hlen := r'.length
  obtain ⟨o, ho, hc, n, hd⟩ := pl.isList
  exact call_list_seq p (.inl rfl) ho hc hd (fun h' c' kp e => fin its r' hz h' c' kp e) (by simp only [List.size_toArray] <;> omega)
 ·obtain ⟨its, r', pl, hz⟩ := I.tuple hq
  have hlen := r'.length
  obtain ⟨o, ho, hc, n, hd⟩ := pl
  exact call_list_seq p (.inr rfl) ho hc hd (fun h' c' kp e => fin its r' hz h' c' kp e) (by simp only [List.size_toArray] <;> omega)
noncomputable def tyV (K : PySem.W.Frag) (T : String) (x : V) (H : Hp) : Prop := match x with
 | .str _ => T = "str"
 | .int _ => T = "int"
 | .ref p => (T = "list" /\ ∃ xs, SqL K H p xs) \/ (T = "tuple" /\ ∃ o, K.lookup p = some o /\ o.cls = .type "tuple" /\ o.dict = none) \/
   (T = "dict" /\ ((∃ kvs, H p = some (.dK kvs)) \/ ∃ kvs, H p = some (.dT kvs))) \/ (T = "set" /\ ∃ S n, H p = some (.set S n))
 | _ => False
theorem tyV_is {pins : List (Addr × Obj)} {σ : St} {H : Hp} {s : Shared} {T : String} {x : V} {v : Value} (I : Inv X pins σ H s) (r : RelV x v) (ty : tyV X.K T x H) :
  s.TypeIs v T /\ ∀ a, v = .ref a -> ∃ ob, s.heap.get? a = some ob /\ ob.dict = none := by
 cases x with
 | str z =>
  obtain ⟨t, rfl⟩ := r
  cases (show T = "str" from ty)
  exact ⟨typeIs_str s z t, fun _ e => nomatch e⟩
 | int i =>
  obtain ⟨t, rfl⟩ := r
  cases (show T = "int" from ty)
  exact ⟨typeIs_int s i t, fun _ e => nomatch e⟩
 | ref p =>
  cases r
  rcases ty with ⟨rfl, xs, hq⟩ | ⟨rfl, o, hk, hc, hd⟩ | ⟨rfl, hk⟩ | ⟨rfl, S, n, hk⟩
  ·obtain ⟨its, _, pl, _⟩ := I.list hq
   refine ⟨pl.isList.typeIs, fun a e => ?_⟩
   cases e
   obtain ⟨o, n, e, c, hd, _⟩ := pl
   exact ⟨o, e, hd⟩
  ·refine ⟨⟨o, I.kIn p o hk, hc⟩, fun a e => ?_⟩
   cases e
   exact ⟨o, I.kIn _ o hk, hd⟩
  ·have z : ∃ o, s.heap.get? p = some o /\ o.ExactDict := by
    rcases hk with ⟨kvs, hk⟩ | ⟨kvs, hk⟩
    ·obtain ⟨_, _, _, _, o, _, _, e, ex, _⟩ := I.hok p _ hk
     exact ⟨o, e, ex⟩
    ·obtain ⟨_, _, _, _, o, _, _, e, ex, _⟩ := I.hok p _ hk
     exact ⟨o, e, ex⟩
   obtain ⟨o, e, ex⟩ := z
   refine ⟨⟨o, e, ex.1⟩, fun a e2 => ?_⟩
   cases e2
   exact ⟨o, e, ex.2.1⟩
  ·obtain ⟨o, _, _, _, e, ex, _⟩ := I.hok p _ hk
   refine ⟨⟨o, e, ex.1⟩, fun a e2 => ?_⟩
   cases e2
   exact ⟨o, e, ex.2.1⟩
 | _ => exact False.elim ty
noncomputable def tBM (K : PySem.W.Frag) (T : String) (r : V -> List V -> Hp -> VK -> Prop) (to : TE) (t : TA) : TE := fun σ H Q => to σ H fun x H1 => tyV K T x H1 /\ t σ H1 fun xs H2 => r x xs H2 Q
variable {o e : Expr} {es : List Expr} {to : TE} {t : TA} {name : Str} {apos cpos : Pos} {T id : String} {r : V -> List V -> Hp -> VK -> Prop}
theorem pe_bm (pa : PlainAttrs T) (slot : Slot T name id) (hty : typeOf (.builtin id) = pure (.type "method_descriptor")) (hm : MtR X id r) (ho : PE X o to) (ha : PA X (e :: es) t)
  (hbase : attributeBase o name X.env (eval o X.env) = eval o X.env := by rfl)
  (hfew : ((backTo cpos (starEach (e :: es) X.env)).all (fun x => !x.1) && (backToKw cpos (keywordEach [] X.env)).all (fun x => x.1.isSome)
   && decide ((e :: es).length + ([] : List Keyword).length + (if ([] : List Keyword).isEmpty then 0 else 1) < 30)) = true := by rfl)
  (hline : (apos.endLine == cpos.line) = true := by rfl) (hs : starEach (e :: es) X.env = (false, eval e X.env) :: starEach es X.env := by rfl) (hplain : (backTo cpos (starEach es X.env)).any (·.1) = false := by rfl) :
  PE X (.Call (.Attribute o name apos) (e :: es) [] cpos) (tBM X.K T r to t) := by
 show 'Պ'
 refine wpAny_Call_method_late hbase hfew hline rfl (thn (ho pins s σ H _ I h) fun v s1 ⟨x, H1, I1, r1, ty, q1⟩ => ?_)
 obtain ⟨h1, h2⟩ := tyV_is I1 r1 ty
 refine ⟨T, id, pa, slot, hty, h1, h2, ?_⟩
 have hA := ha cpos pins s1 σ H1 _ I1 q1
 rw [hs] at hA ⊢
 refine Calls.callWith_builtin (by show (false || (backTo cpos (starEach es X.env)).any (·.1)) = false; rw [hplain] <;> rfl) (Calls.evalArgs_plain ?_)
 exact thn hA fun us s2 ⟨vs, H2, I2, r2, q2⟩ => hm pins s2 σ H2 x vs v us Q I2 r1 r2 q2
/- xs.append(e), list.index on a module's tuple .. are MtR facts of 06m -/
end
end L2
namespace L2
open PySem PySem.Spec PyProof.Rows
noncomputable def MtM (X : Cx) (id : String) (r : V -> List V -> Hp -> VK -> Prop) : Prop :=
 ∀ (pins : List (Addr × Obj)) (s : Shared) (σ : St) (H : Hp) (x : V) (xs : List V) (v : Value) (us : List Value) (Q : VK), Inv X pins σ H s -> RelV x v -> Vals xs us -> r x xs H Q ->
  wpAny (model X.prog X.w) X.A (call (.builtin id) (v :: us)) (EP X pins σ Q) X.xe s
theorem Vals.one : ∀ {x : V} {us : List Value}, Vals [x] us -> ∃ u, us = [u] /\ RelV x u
 | _, _, .cons r .nil => ⟨_, rfl, r⟩
theorem Vals.two : ∀ {x y : V} {us : List Value}, Vals [x, y] us -> ∃ u v, us = [u, v] /\ RelV x u /\ RelV y v
 | _, _, _, .cons r (.cons q .nil) => ⟨_, _, rfl, r, q⟩
theorem Vals.zero : ∀ {us : List Value}, Vals [] us -> us = []
 | _, .nil => rfl
theorem Vals.eraseIdx : ∀ {xs : List V} {us : List Value} (i : Nat), Vals xs us -> Vals (xs.eraseIdx i) (us.eraseIdx i)
 | _, _, _, .nil => .nil
 | _, _, 0, .cons _ t => t
 | _, _, i + 1, .cons r t => .cons r (Vals.eraseIdx i t)
theorem Vals.reverse {xs : List V} {us : List Value} (h : Vals xs us) : Vals xs.reverse us.reverse := by
 induction h with
 | nil => exact .nil
 | cons r t ih => rw [List.reverse_cons, List.reverse_cons]; exact Vals.append ih (.cons r .nil)
theorem tT {α : Type} : ∀ (l : List α) (i : Nat), (l.eraseIdx i).length <= l.length
 | [], _ => Nat.le_refl _
 | _ :: _, 0 => Nat.le_succ _
 | _ :: r, i + 1 => Nat.succ_le_succ (tT r i)
section
variable {X : Cx} {pins : List (Addr × Obj)} {σ : St} {H : Hp} {s : Shared} {l b : Addr} {xs ys zs : List V}
theorem Inv.lset {its its' : List Value} {n : Nat} {f : Array Value -> Array Value} {t' : Nat} (I : Inv X pins σ H s) (hH : H l = some (.lst xs))
  (e : s.heap.get? l = some { cls := .type "list", data := .seq its.toArray n }) (hf : f its.toArray = its'.toArray) (hv : Vals ys its') (hz : ys.length <= sizeLine) :
  Inv X pins σ (upd H l (.lst ys)) { s with heap := s.heap.update l (Obj.mapSeq f), toks := t' } := by
 have q := PySem.IsL.update e f
 rw [hf] at q
 refine I.write (x := l) (e := l) (by rw [hH]; exact trivial) (.inl rfl) (fun b' u hb hu => (Heap.get?_update_other s.heap (Obj.mapSeq f) (Ne.symm hb)).trans hu) ⟨_, q⟩ ?_
 exact ⟨hz, its', _, hv, q⟩
theorem Inv.lnew {its : List Value} {t' : Nat} (I : Inv X pins σ H s) (hv : Vals ys its) (hz : ys.length <= sizeLine) :
  Inv X pins σ (upd H s.heap.objs.size (.lst ys)) { s with heap := s.heap.push { cls := .type "list", data := .seq its.toArray }, toks := t' } :=
 I.laid (fun _ _ q => Heap.get?_push_of_some _ q) (Nat.le_refl _) ⟨hz, its, 0, hv, Heap.get?_push_size _ rfl⟩
theorem Inv.fresh (I : Inv X pins σ H s) : H s.heap.objs.size = none := I.hok.fresh (Nat.le_refl _)
theorem Inv.lstM (I : Inv X pins σ H s) (hH : H l = some (.lst xs)) : xs.length <= sizeLine /\ ∃ (its : List Value) (n : Nat), Vals xs its /\ xs.length = its.length /\ s.heap.get? l = some { cls := .type "list", data := .seq its.toArray n } := by
 obtain ⟨z, its, n, r, e⟩ := I.hok l _ hH
 exact ⟨z, its, n, r, r.length, e⟩
end
section
variable {X : Cx}
noncomputable def yf : V -> List V -> Hp -> VK -> Prop := fun x vs H Q => ∃ l xs y, x = .ref l /\ vs = [y] /\ H l = some (.lst xs) /\ xs.length < sizeLine /\ Q .non (upd H l (.lst (xs ++ [y])))
theorem tR : MtM X "list.append" yf := by
 intro pins s σ H x vs v us Q I rx rv h
 obtain ⟨l, xs, y, rfl, rfl, hH, hz, q⟩ := h
 cases rx
 obtain ⟨u, rfl, ru⟩ := rv.one
 obtain ⟨z, its, n, r, hl, e⟩ := I.lstM hH
 refine call_meets F.slot_list_append ⟨_, e, rfl⟩ F.entry_list_append (F.args_list_append_2 _ _) (PySem.list_append l its.toArray n u (by rw [List.size_toArray]; omega)) ⟨e, ?_⟩
 refine ⟨.non, _, I.lset (its' := its ++ [u]) hH e (by simp) (r.append (.cons ru .nil)) ?_, rfl, q⟩
 rw [List.length_append, List.length_singleton]
 omega
noncomputable def rPopAt : V -> List V -> Hp -> VK -> Prop := fun x vs H Q => ∃ l xs i k y, x = .ref l /\ vs = [.int i] /\ H l = some (.lst xs) /\ -(2 ^ 63) <= i /\ i < 2 ^ 63 /\ seqIndex? i xs.length = some k /\ xs[k]? = some y /\ Q y (upd H l (.lst (xs.eraseIdx k)))
theorem mt_popAt : MtM X "list.pop" rPopAt := by
 intro pins s σ H x vs v us Q I rx rv h
 obtain ⟨l, xs, i, k, y, rfl, rfl, hH, h1, h2, hk, hy, q⟩ := h
 cases rx
 obtain ⟨u, rfl, ru⟩ := rv.one
 obtain ⟨t, rfl⟩ := ru
 obtain ⟨z, its, n, r, hl, e⟩ := I.lstM hH
 obtain ⟨w, hw, rw'⟩ := r.get hy
 refine call_meets F.slot_list_pop ⟨_, e, rfl⟩ F.entry_list_pop (F.args_list_pop_2 _ _)
  (MeetsSeq.list_pop_at l its.toArray n i t k w (fitsIndex_both h1 h2) (by rw [List.size_toArray, <- hl]; exact hk) (by rw [<- Array.getElem?_toList]; exact hw) (by rw [List.size_toArray]; omega)) ⟨e, ?_⟩
 refine ⟨y, _, I.lset (its' := its.eraseIdx k) hH e ?_ (r.eraseIdx k) ?_, rw', q⟩
 ·show its.toArray.eraseIdxIfInBounds k = (its.eraseIdx k).toArray
  rw [List.eraseIdxIfInBounds_toArray]
 ·have := tT xs k
  omega
end
end L2
namespace Att
open PySem PySem.W PySem.Calls PyProof.Rows
theorem oX {P : Params} {h : Heap} : ∀ (ns : List Int) (vs : List Value), WellAll P h vs (ns.map WData.int) -> IntsAre vs ns := by
 intro ns
 induction ns with
 | nil =>
  intro vs w
  rw [List.map_nil] at w
  cases w
  exact .nil
 | cons n ns ih =>
  intro vs w
  rw [List.map_cons] at w
  cases w with
  | cons a b =>
   cases a
   exact .cons _ _ (ih _ b)
theorem xZ {l : OpenLaw} {n : Nat} (hn : l.most = some n) {P : Params} {h : Heap} {args : List WData} {vals : List Value}
  (hpre : l.row.toRowW.claim.pre args = true) (hwl : WellAll P h vals args) :
  ∃ a vs ns, vals = [Value.ref a] /\ args = [WData.list (ns.map WData.int)] /\ h.get? a = some { cls := .type "list", data := .seq vs.toArray } /\ IntsAre vs ns /\ ns.length <= n := by
 have hsh : WShape.hasAll [] args [.list .int] = true := (pre_splitW hpre).1
 have hc : l.pre.holds [] { args := args } = true := (pre_splitW hpre).2
 obtain ⟨d, r, rfl, h1, h2⟩ := hasAllW_cons hsh
 obtain rfl := hasAllW_nil h2
 obtain ⟨xs, rfl, h3⟩ := hasW_list h1
 obtain ⟨ns, rfl⟩ := items_int h3
 have hlen : ns.length <= n := by
  unfold OpenLaw.pre at hc
  have h4 : (WTm.not (.lt (.lit (.int (n : Int))) (.len (.arg 0)))).holds [] { args := [.list (ns.map .int)] } = true := by
   have h4 := (holds_andW hc).1
   rw [hn] at h4
   exact h4
  have h5 := condW_of h4 (w_not (w_lt w_lit (w_len_list (w_arg rfl))))
  rw [List.length_map] at h5
  refine Nat.le_of_not_lt fun q => ?_
  have q' : (n : Int) < ((ns.length : Nat) : Int) := by omega
  first
   | (rw [decide_eq_true q'] at h5; exact absurd h5 (by decide))
   | (simp at h5; omega)
 cases hwl with
 | cons w1 w2 =>
  cases w2
  cases w1 with
  | list ho hall => exact ⟨_, _, ns, rfl, rfl, ho, oX ns _ hall, hlen⟩
theorem yn (l : OpenLaw) (args : List WData) : l.row.toRowW.claim.post args (.bool true) args = true :=
 postW_of (r := l.row.toRowW) (X := (true == true))
  (show WShape.has [] (.bool true) .bool = true by first | rfl | decide | simp [WShape.has, WShape.arms, WShape.armsAll])
  (show (WTm.eq .res (.lit (.bool true))).value [] { args := args, res := some (.bool true), after := args } = some (.bool (true == true)) from w_eq_bool (w_res rfl) w_lit) rfl
theorem vI {l : OpenLaw} {n : Nat} {q : Program} {loose : List Str} {XP : (Str -> Option Value) -> Heap -> Prop} {YP : World -> Heap -> Prop} {d : DefRec}
  (hn : l.most = some n) (hdf : d.params.defaults = [])
  (call : ∀ (w : World) (s₀ s₁ : Shared) (mg mb : Str -> Option Value) (fa : Addr) (o : Obj) (pm cd doc : Value) (a : Addr) (vs : List Value) (ns : List Int),
   Ground q loose [] XP w s₀ mg mb s₁.heap -> YP w s₁.heap ->
   s₁.heap.get? fa = some o -> o.data = .func (docDef d.name d.params d.body d.scope pm cd doc) -> s₁.heap.CodeRec cd d.name -> mg d.name = some (.ref fa) ->
   s₁.heap.get? a = some { cls := .type "list", data := .seq vs.toArray } -> IntsAre vs ns -> ns.length <= n -> s₁.gens = #[] ->
   codeAny (model l.prog w) callerA (.call (.ref fa) ⟨[.ref a], []⟩) (fun r s' => r = .ok (.ret (.bool true)) /\ OldK s₁.heap s'.heap /\ s'.os = s₁.os /\ AllBare s'.gens) s₁) :
  WalkO q loose XP YP l.row.toRowW d [] (fun f vs => PySem.call f vs) := by
 intro w s₀ s₁ mg mb G Y fa o pm cd doc dV kV ho hd hcd hD hmg hg args vals as hpre hlay hrd hwl hlo
 obtain rfl : dV = .none := Dflts.none hD hdf
 obtain rfl : kV = .none := Dflts.noKw hD
 obtain ⟨a, vs, ns, rfl, rfl, hobj, hints, hlen⟩ := xZ hn hpre hwl
 refine enter_call (codeAny_mono (call w s₀ s₁ mg mb fa o pm cd doc a vs ns G Y ho (fd_plain hd) hcd hmg hobj hints hlen hg) fun r s' hq => ?_)
 obtain ⟨rfl, h2, h3, h4⟩ := hq
 exact ⟨.inl ⟨.bool true, .bool true, [], rfl, fun _ => rfl, .bool true, yn l _, fun _ => ⟨List.Pairwise.nil, fun _ hm => (nomatch hm)⟩⟩, h2, h3, h4⟩
section
variable {prog : Program} {w : World} {A : Around} {E : Value -> Shared -> Prop} {s : Shared} {K : Frag}
theorem make_obj {R : Result -> Shared -> Prop} {C fI : Addr} {rest : List Value} {kw : List (Str × Value)}
  (X : K.In s.heap) (hm : makesIn K C = true) (hi : findIn K (.ref C) "__init__" = some (some (.ref fI))) (hf : isFn K (.ref fI) = true)
  (h : codeAny (model prog w) (A.under (.builtin "type.__call__" ⟨.ref C :: rest, kw⟩)) (.call (.ref fI) ⟨.ref (s.heap.objs.size + 1) :: rest, kw⟩) (InitBack (s.heap.objs.size + 1) R)
   { s with heap := (s.heap.push emptyDict).push (instObj C s.heap.objs.size) }) : codeAny (model prog w) A (.call (.ref C) ⟨rest, kw⟩) R s := by
 obtain ⟨hh, g, d, t, os⟩ := s
 exact make_core (makes_of X hm) (looks_findIn X hi) (fun self => bind_fn X self (beq_iff_eq.mp hf)) (.inl rfl) h
theorem get_field {x C : Addr} {ox : Obj} {es : List DictEntry} {n : Nat} {name : Str} {expr : Bool} {v : Value} {Q : Value -> Shared -> Prop}
  (X : K.In s.heap) (I : PySem.W.InstAt s.heap x ox C (some (dictOf es n))) (hg : plainGet K C name = true) (hh : hasDictIn K C = true) (ha : findIn K (.ref C) name = some none)
  (hl : getL name es = some (some v)) (hv : handedIn v = true) (h : Q v { s with toks := s.toks + 1 }) : wpAny (model prog w) A (getAttr (.ref x) name expr) Q E s :=
 get_value X I (plainGet_of hg).1 (findObj_own hh ha rfl hl) hv h
end
end Att
namespace L2
open PySem PySem.Spec PyProof.Rows
theorem sV : ∀ {vs : List Value} {ns : List Int}, IntsAre vs ns -> Vals (ns.map V.int) vs
 | _, _, .nil => .nil
 | _, _, .cons n t h => .cons ⟨t, rfl⟩ (sV h)
noncomputable def Only (H : Hp) : Prop := ∀ b, H b = none \/ ∃ o xs, H b = some (.frz o (.lst xs))
theorem law_call {P : Program} {w : World} {K : PySem.W.Frag} {mg mb : Str -> Option Value} {CX : CXT} {k : Nat} {fa a : Addr} {fd : FuncData} {x : Str} {sp : Sp} {s₁ : Shared} {vs : List Value} {ns : List Int}
  (KX : K.In s₁.heap) (hns : s₁.heap.Ns mainGlobals mg) (hb : s₁.heap.Ns builtinsNs mb) (hbb : ∀ x : Str, x ≠ "__name__" -> mb x = bootBuiltins x) (hlim : s₁.heap.NoLimit) (hg : s₁.gens = #[])
  (ha : s₁.heap.get? a = some { cls := .type "list", data := .seq vs.toArray }) (hi : IntsAre vs ns) (hl : ns.length <= sizeLine) (hr : jJ k callerA)
  (F : ∀ base : Heap, K.In base -> base.Ns mainGlobals mg -> cJ P w K mg base CX k fa fd [x] sp) (hbind : ∀ (s : Shared) (u : Value), BindsTo s fd ⟨[u], []⟩ [(x, u)])
  (hsp : ∀ H : Hp, Only H -> SqL K H a (ns.map V.int) -> sp [.ref a] H (fun v _ => v = .bl true) fun _ _ _ => False)
  (hCX : ∀ H e s', CX [] H s₁ (fun _ _ _ => False) e s' -> False) :
  codeAny (model P w) callerA (.call (.ref fa) ⟨[.ref a], []⟩) (fun r s' => r = .ok (.ret (.bool true)) /\ OldK s₁.heap s'.heap /\ s'.os = s₁.os /\ AllBare s'.gens) s₁ := by
 have rv := sV hi
 have lenV := hi.length
 have core : ∀ H : Hp, Only H -> SqL K H a (ns.map V.int) -> HOk P w H s₁.heap -> (∀ b, H b ≠ none -> b = a) -> (H a ≠ none -> K.lookup a = none) ->
   codeAny (model P w) callerA (.call (.ref fa) ⟨[.ref a], []⟩) (fun r s' => r = .ok (.ret (.bool true)) /\ OldK s₁.heap s'.heap /\ s'.os = s₁.os /\ AllBare s'.gens) s₁ := by
  intro H hO hS hok hA hK
  have base_of : ∀ {b : Addr} {o : Obj}, s₁.heap.get? b = some o -> H b = none -> (hidT s₁.heap H).get? b = some o := fun e n => hidT_get e n
  have noA : ∀ {b : Addr} {o : Obj} {es : Array DictEntry} {ep : Nat}, s₁.heap.get? b = some o -> o.data = .dict es ep -> H b = none := fun {b o es ep} e d => by
   cases q : H b with
   | none => rfl
   | some u =>
    have e' : b = a := hA b (by rw [q]; simp)
    subst e'
    rw [ha] at e; cases e
    have d' : Data.seq vs.toArray _ = Data.dict es ep := d
    cases d'
  have nsK : ∀ {b : Addr} {m : Str -> Option Value}, s₁.heap.Ns b m -> (hidT s₁.heap H).Ns b m := fun {b m} ⟨o, es, ep, e, d, r⟩ => ⟨o, es, ep, base_of e (noA e d), d, r⟩
  have hKb : K.In (hidT s₁.heap H) := fun b o e => base_of (KX b o e) (by
   cases q : H b with
   | none => rfl
   | some u =>
    have e' : b = a := hA b (by rw [q]; simp)
    subst e'
    rw [hK (by rw [q]; simp)] at e; cases e)
  have hM : Mod K mg (hidT s₁.heap H) := ⟨hKb, nsK hns, ⟨mb, nsK hb, hbb⟩, let ⟨mc, h1, h2⟩ := hlim; ⟨mc, nsK h1, h2⟩⟩
  have e0 : Env0 P w K mg (hidT s₁.heap H) callerA [] s₁ H := ⟨rfl, hM, fun b o e => of_hidT e, Nat.le_of_eq (yY _ _), trivial, fun b hb => absurd (show b ∈ ([] : List Addr) from hb) (by simp), hok, .of_eq hg⟩
  refine codeAny_mono ((F _ hKb (nsK hns)).run callerA [] s₁ H ⟨[.ref a], []⟩ [.ref a] [.ref a] _ _ hr e0 (hbind s₁ (.ref a)) (.cons rfl .nil) (hsp H hO hS)) fun r s' h => ?_
  cases r with
  | error e => exact (hCX H e s' h).elim
  | ok fl =>
   cases fl with
   | next => exact False.elim h
   | brk => exact False.elim h
   | cont => exact False.elim h
   | ret u =>
    obtain ⟨v, H', os, bare, un, hok', r', q⟩ := h
    have q' : v = .bl true := q
    subst q'
    obtain rfl : u = Value.bool true := r'
    refine ⟨rfl, OldK.of_keep fun b o e => ?_, os, bare⟩
    cases q : H b with
    | none => exact un.keep b o e q (by intro z; exact absurd (show b ∈ ([] : List Addr) from z) (by simp)) (by simp)
    | some u =>
     rcases hO b with z | ⟨ob, xs, z⟩
     ·rw [q] at z; cases z
     ·have z2 := un.frzs b ob _ z
      obtain ⟨e1, _⟩ := hok b _ z
      obtain ⟨e2, _⟩ := hok' b _ z2
      rw [e] at e1; cases e1
      exact e2
 cases hk : K.lookup a with
 | some o =>
  have e := KX a o hk
  rw [ha] at e
  cases e
  refine core (fun _ => none) (fun _ => .inl rfl) (.inr ⟨_, vs.toArray, _, hk, rfl, rfl, rfl, by rw [List.size_toArray, lenV]; exact hl, by simpa using rv⟩) (fun b u z => by have z' : (none : Option HO) = some u := z; cases z') (fun b z => absurd rfl z) fun z => absurd rfl z
 | none =>
  refine core (fun b => if b = a then some (.frz { cls := .type "list", data := .seq vs.toArray } (.lst (ns.map V.int))) else none) (fun b => ?_) (.inl (.inr ⟨{ cls := .type "list", data := .seq vs.toArray }, if_pos rfl⟩)) (fun b u z => ?_) (fun b z => ?_) fun _ => hk
  ·by_cases hb : b = a
   ·exact .inr ⟨_, _, if_pos hb⟩
   ·exact .inl (if_neg hb)
  ·by_cases hb : b = a
   ·have z' := (if_pos hb).symm.trans z
    cases z'
    subst hb
    exact ⟨ha, by rw [List.length_map]; exact hl, vs, _, rv, ha⟩
   ·have z' := (if_neg hb).symm.trans z
    cases z'
  ·by_cases hb : b = a
   ·exact hb
   ·exact absurd (if_neg hb) z
end L2
namespace L2
open PySem PySem.Spec PyProof.Rows
theorem walk_of {l : PySem.W.OpenLaw} {n k : Nat} {q : Program} {loose : List Str} {XP : (Str -> Option Value) -> Heap -> Prop} {YP : World -> Heap -> Prop} {d : DefRec} {K : Params -> PySem.W.Frag} {CX : World -> CXT} {sp : World -> Sp} {x : Str}
  (hn : l.most = some n) (hn2 : n <= sizeLine) (hdf : d.params.defaults = []) (hr : jJ k callerA)
  (hY : ∀ (w : World) (h : Heap), YP w h -> (K w.params).In h)
  (F : ∀ (w : World) (mg : Str -> Option Value) (fa : Addr) (h : Heap), (K w.params).In h -> h.Ns mainGlobals mg -> mg d.name = some (.ref fa) ->
   ∃ fd : FuncData, (∀ (s : Shared) (u : Value), BindsTo s fd ⟨[u], []⟩ [(x, u)]) /\
    ∀ base : Heap, (K w.params).In base -> base.Ns mainGlobals mg -> cJ l.prog w (K w.params) mg base (CX w) k fa fd [x] (sp w))
  (hsp : ∀ (w : World) (H : Hp) (a : Addr) (ns : List Int), ns.length <= n -> Only H -> SqL (K w.params) H a (ns.map V.int) -> sp w [.ref a] H (fun v _ => v = .bl true) fun _ _ _ => False)
  (hCX : ∀ (w : World) (H : Hp) (s : Shared) (e : Value) (s' : Shared), CX w [] H s (fun _ _ _ => False) e s' -> False) :
  PySem.W.WalkO q loose XP YP l.row.toRowW d [] (fun f vs => PySem.call f vs) := by
 refine Att.vI hn hdf fun w s₀ s₁ mg mb fa o pm cd doc a vs ns G Y ho hd hcd hmg hobj hints hlen hg => ?_
 have KX := hY w _ Y
 obtain ⟨fd, hb, hF⟩ := F w mg fa _ KX G.T.g hmg
 exact law_call KX G.T.g G.T.b G.T.builtins G.T.nolimit hg hobj hints (Nat.le_trans hlen hn2) hr hF hb (fun H hO hS => hsp w H a ns hlen hO hS) fun H e s' => hCX w H s₁ e s'
end L2
namespace L2
open PySem PySem.Spec PyProof.Rows
noncomputable def inClass (s : Stmt) (j : Nat) : Stmt := match s with
 | .ClassDef _ _ _ body _ _ _ _ _ _ _ => body.getD j (.Pass ⟨0, 0, 0, 0⟩)
 | _ => .Pass ⟨0, 0, 0, 0⟩
noncomputable def dn (s : Stmt) : Arguments := match s with
 | .FunctionDef _ a _ _ _ _ _ _ _ _ => a
 | _ => { posonlyargs := [], args := [], vararg := none, kwonlyargs := [], kw_defaults := [], kwarg := none, defaults := [] }
noncomputable def cm (s : Stmt) : List Stmt := match s with
 | .FunctionDef _ _ b _ _ _ _ _ _ _ => b
 | _ => []
noncomputable def aq (s : Stmt) : Scope := match s with
 | .FunctionDef _ _ _ _ _ _ sc _ _ _ => sc
 | _ => { kind := .function, names := [], isGenerator := false, isCoroutine := false }
noncomputable abbrev CX0 : CXT := fun _ _ _ _ _ _ => False
noncomputable abbrev E0 : XK := fun _ _ _ => False
theorem v3 {X : Cx} : Passes CX0 X E0 := fun _ _ _ _ _ _ _ h => h.elim
structure Fun (K : PySem.W.Frag) (x qual : Str) (st : Stmt) (f : Addr) (fd : FuncData) : Prop where
 ex : ∃ (oc : Value) (od : Option Addr) (kV doc pm : Value) (an : Option Addr) (cdv ct : Value) (osl : Array (Option Value)),
  fd = fnOf x qual (dn st) (cm st) (aq st) .none kV doc pm an cdv ct /\ K.lookup f = some ⟨oc, od, .func fd, osl⟩ /\ codeIn K cdv qual = true
 kp : keepIn K (.ref f) = true
section
variable {P : Program} {w : World} {K : PySem.W.Frag} {mg : Str -> Option Value} {base : Heap}
theorem Fun.binds {x qual : Str} {st : Stmt} {f : Addr} {fd : FuncData} {ps : List Str} (F : Fun K x qual st f fd)
  (h : ∀ (kV doc pm : Value) (an : Option Addr) (cdv ct : Value) (us : List Value), us.length = ps.length -> bindArgs (fnOf x qual (dn st) (cm st) (aq st) .none kV doc pm an cdv ct) ⟨us, []⟩ = pure (ps.zip us)) : Binds K fd ps [] := by
 show 'ձ'
 exact .all (h kV doc pm an cdv ct)
theorem wk {x qual : Str} {st : Stmt} {f : Addr} {oc : Value} {od an : Option Addr} {osl : Array (Option Value)} {kV doc pm cdv ct : Value} (l : K.lookup f = some ⟨oc, od, .func (fnOf x qual (dn st) (cm st) (aq st) .none kV doc pm an cdv ct), osl⟩)
  (c : codeIn K cdv qual = true) (k : keepIn K (.ref f) = true) : Fun K x qual st f (fnOf x qual (dn st) (cm st) (aq st) .none kV doc pm an cdv ct) := ⟨⟨oc, od, kV, doc, pm, an, cdv, ct, osl, rfl, l, c⟩, k⟩
end
section
variable {X : Cx}
theorem pv (i : Nat) {x : Str} {pos : Pos} (hN : X.N[i]? = some x := by rfl) (hv : Vis X.env.scope x := by first | exact Or.inl rfl | exact Or.inr (Or.inl rfl) | exact Or.inr (Or.inr rfl)) (hd : (x == ("__debug__" : Str)) = false := by decide)
  (hcd : (x == ("__classdict__" : Str)) = false := by decide) : PE X (.Name x pos) (tVar i) := pe_var hN hv hd hcd
end
theorem iteF {A B : Prop} (h : B) : if false = true then A else B := by
 rw [if_neg Bool.false_ne_true]
 exact h
theorem iteNS {c A B : Prop} [Decidable c] (hc : c) (h : B) : if (!decide c) = true then A else B := by
 rw [decide_eq_true hc]
 exact iteF h
noncomputable def aY (H H' : Hp) : Prop := ∀ b o, H b = some o -> H' b = some o
theorem aY.refl (H : Hp) : aY H H := fun _ _ h => h
theorem aY.trans {H H1 H2 : Hp} (a : aY H H1) (b : aY H1 H2) : aY H H2 := fun c o h => b c o (a c o h)
theorem aY.free {H H' : Hp} (e : aY H H') {l : Addr} (h : H' l = Option.none) : H l = Option.none := by
 cases q : H l with
 | none => rfl
 | some o =>
  rw [e l o q] at h
  cases h
end L2
set_option maxHeartbeats 4000000
namespace L2
open PySem PySem.Spec PyProof.Rows
noncomputable def qP (cells : List (Str × Addr)) : List (Str × NameKind) -> List (Str × Addr) -> List (Str × Addr)
 | [], acc => acc
 | (x, k) :: r, acc => qP cells r (if (k == NameKind.free) = true then (x, (cells.lookup x).getD 0) :: acc else acc)
theorem gt_ne {a b c : Addr} (h1 : b < a) (h2 : a < c) : c ≠ b := by
 rintro rfl
 exact absurd (Nat.lt_trans h1 h2) (Nat.lt_irrefl _)
theorem xp {a b : Addr} {n : Nat} (h1 : a < n) (h2 : n <= b) : a ≠ b := by
 rintro rfl
 exact absurd (Nat.lt_of_lt_of_le h1 h2) (Nat.lt_irrefl _)
theorem qO {cells : List (Str × Addr)} {x : Str} {c : Addr} : ∀ (ns : List (Str × NameKind)) (acc : List (Str × Addr)), (qP cells ns acc).lookup x = some c ->
  ((x, NameKind.free) ∈ ns /\ c = (cells.lookup x).getD 0) \/ acc.lookup x = some c
 | [], _, h => .inr h
 | (y, k) :: r, acc, h => by
  unfold qP at h
  rcases qO r _ h with ⟨m, e⟩ | q
  ·exact .inl ⟨List.mem_cons_of_mem _ m, e⟩
  ·by_cases hk : (k == NameKind.free) = true
   ·rw [if_pos hk, List.lookup_cons] at q
    cases hy : x == y with
    | true =>
     rw [hy] at q
     have e1 := eq_of_beq hy
     have e2 := eq_of_beq hk
     subst e1 e2
     exact .inl ⟨List.mem_cons_self, (Option.some.inj q).symm⟩
    | false => rw [hy] at q; exact .inr q
   ·rw [if_neg hk] at q; exact .inr q
theorem pB {cells : List (Str × Addr)} {x : Str} : ∀ (ns : List (Str × NameKind)) (acc : List (Str × Addr)), ((x, NameKind.free) ∈ ns \/ (acc.lookup x).isSome = true) -> ((qP cells ns acc).lookup x).isSome = true
 | [], _, h => h.elim (fun z => nomatch z) id
 | (y, k) :: r, acc, h => by
  unfold qP
  refine pB r _ ?_
  rcases h with h | h
  ·rcases List.mem_cons.mp h with e | h
   ·cases e
    refine .inr ?_
    rw [if_pos (by decide), List.lookup_cons]
    simp
   ·exact .inl h
  ·refine .inr ?_
   by_cases hk : (k == NameKind.free) = true
   ·rw [if_pos hk, List.lookup_cons]
    cases hy : x == y with
    | true => rfl
    | false => exact h
   ·rw [if_neg hk]; exact h
theorem mv {x : Str} {c : Addr} : ∀ (ns : List (Str × NameKind)) (n : Nat) (acc : List (Str × Addr)), (cellsFrom n ns acc).lookup x = some c -> (n <= c /\ (x, NameKind.cell) ∈ ns) \/ acc.lookup x = some c
 | [], _, _, h => .inr h
 | (y, k) :: r, n, acc, h => by
  unfold cellsFrom at h
  by_cases hk : (k == NameKind.cell) = true
  ·rw [if_pos hk] at h
   rcases mv r (n + 1) _ h with ⟨a, m⟩ | q
   ·exact .inl ⟨by omega, List.mem_cons_of_mem _ m⟩
   ·rw [List.lookup_cons] at q
    cases hy : x == y with
    | true =>
     rw [hy] at q
     have e1 := eq_of_beq hy
     have e2 := eq_of_beq hk
     have e3 := Option.some.inj q
     subst e1 e2 e3
     exact .inl ⟨Nat.le_refl _, List.mem_cons_self⟩
    | false => rw [hy] at q; exact .inr q
  ·rw [if_neg hk] at h
   rcases mv r n acc h with ⟨a, m⟩ | q
   ·exact .inl ⟨a, List.mem_cons_of_mem _ m⟩
   ·exact .inr q
theorem pC : ∀ (ns : List (Str × NameKind)) (n : Nat) (acc : List (Str × Addr)), (∀ x y c, acc.lookup x = some c -> acc.lookup y = some c -> x = y) -> (∀ x c, acc.lookup x = some c -> c < n) ->
  ∀ x y c, (cellsFrom n ns acc).lookup x = some c -> (cellsFrom n ns acc).lookup y = some c -> x = y
 | [], _, _, hi, _ => hi
 | (z, k) :: r, n, acc, hi, hl => by
  unfold cellsFrom
  by_cases hk : (k == NameKind.cell) = true
  ·rw [if_pos hk]
   refine pC r (n + 1) _ (fun x y c h1 h2 => ?_) (fun x c h1 => ?_)
   ·rw [List.lookup_cons] at h1 h2
    cases hx : x == z with
    | true =>
     rw [hx] at h1
     have e1 := Option.some.inj h1
     cases hy : y == z with
     | true => rw [eq_of_beq hx, eq_of_beq hy]
     | false =>
      rw [hy] at h2
      have h3 := hl y c h2
      rw [<- e1] at h3
      exact absurd h3 (Nat.lt_irrefl _)
    | false =>
     rw [hx] at h1
     cases hy : y == z with
     | true =>
      rw [hy] at h2
      have e2 := Option.some.inj h2
      have h3 := hl x c h1
      rw [<- e2] at h3
      exact absurd h3 (Nat.lt_irrefl _)
     | false =>
      rw [hy] at h2
      exact hi x y c h1 h2
   ·rw [List.lookup_cons] at h1
    cases hx : x == z with
    | true =>
     rw [hx] at h1
     have e1 := Option.some.inj h1
     rw [<- e1]
     exact Nat.lt_succ_self _
    | false =>
     rw [hx] at h1
     exact Nat.lt_succ_of_lt (hl x c h1)
  ·rw [if_neg hk]
   exact pC r n acc hi hl
theorem nt {x : Str} {c : Addr} : ∀ (ns : List (Str × NameKind)) (h : Heap) (acc : List (Str × Addr)), (cellsFrom h.objs.size ns acc).lookup x = some c ->
  acc.lookup x = some c \/ (h.objs.size <= c /\ (pushCells h ns).IsCell c none)
 | [], _, _, e => .inl e
 | (y, k) :: r, h, acc, e => by
  unfold cellsFrom at e
  unfold pushCells
  by_cases hk : (k == NameKind.cell) = true
  ·rw [if_pos hk] at e ⊢
   have q := nt (x := x) (c := c) r (h.push { cls := .type "cell", data := .cell none }) ((y, h.objs.size) :: acc) (by rw [Heap.size_push]; exact e)
   rcases q with q | ⟨q1, q2⟩
   ·rw [List.lookup_cons] at q
    cases hy : x == y with
    | true =>
     rw [hy] at q
     have e1 := Option.some.inj q
     subst e1
     exact .inr ⟨Nat.le_refl _, Heap.IsCell.keeps ⟨_, Heap.get?_push_size _ rfl, rfl⟩ (pushCells_keeps r _)⟩
    | false => rw [hy] at q; exact .inl q
   ·rw [Heap.size_push] at q1
    exact .inr ⟨by omega, q2⟩
  ·rw [if_neg hk] at e ⊢
   exact nt r h acc e
theorem nH {env : Env} (f : Str × NameKind -> List (Str × Addr) -> Sem (ForInStep (List (Str × Addr))))
  (hf : ∀ n k cs, f (n, k) cs = if (k == NameKind.free) = true then (do let a <- cellOf env n; pure (.yield ((n, a) :: cs))) else pure (.yield cs)) :
  ∀ (ns : List (Str × NameKind)) (acc : List (Str × Addr)), (∀ x ∈ ns, x.2 = NameKind.free -> ∃ c, env.cells.lookup x.1 = some c) -> forIn ns acc f = (pure (qP env.cells ns acc) : Sem _)
 | [], acc, _ => by rw [List.forIn_nil]; rfl
 | (y, k) :: r, acc, hc => by
  have hr : ∀ x ∈ r, x.2 = NameKind.free -> ∃ c, env.cells.lookup x.1 = some c := fun x hx => hc x (List.mem_cons_of_mem _ hx)
  rw [List.forIn_cons, hf]
  unfold qP
  by_cases hk : (k == NameKind.free) = true
  ·rw [if_pos hk, if_pos hk]
   obtain ⟨c, e⟩ := hc (y, k) List.mem_cons_self (eq_of_beq hk)
   have e' : env.cells.lookup y = some c := e
   have e2 : cellOf env y = pure c := by unfold cellOf; rw [e']
   rw [e2, e']
   exact nH f hf r _ hr
  ·rw [if_neg hk, if_neg hk]
   exact nH f hf r _ hr
theorem qN {scope : Scope} {env : Env} (hc : ∀ x ∈ scope.names, x.2 = NameKind.free -> ∃ c, env.cells.lookup x.1 = some c) : closureFor scope env = pure (qP env.cells scope.names []) := by
 simp only [closureFor]
 rw [nH (env := env) _ (fun n k cs => by cases h : (k == NameKind.free) <;> simp [h]) scope.names [] hc]
 rfl
theorem yH {M : Model} {A : Around} {E : Value -> Shared -> Prop} {s : Shared} {scope : Scope} {gl : Addr} {cl : List (Str × Addr)} {qual : Str} {around : Env} {Q : Env -> Shared -> Prop}
  (hQ : ∀ h1 : Heap, (∀ b o, s.heap.get? b = some o -> h1.get? b = some o) -> h1.Ns s.heap.objs.size (fun _ => none) ->
   (∀ x c, (cellsFrom (s.heap.objs.size + 1) scope.names cl).lookup x = some c -> cl.lookup x = some c \/ (s.heap.objs.size < c /\ h1.IsCell c none)) ->
   Q { scope := scope, locals := s.heap.objs.size, globals := gl, cells := cellsFrom (s.heap.objs.size + 1) scope.names cl, qual := qual, func := none, code := around.code, frame := around.frame, builtins := around.builtins } { s with heap := h1 }) :
  wpAny M A (newFunctionEnv scope gl cl [] qual none .none (some around)) Q E s := by
 simp only [newFunctionEnv, Option.isSome_some, if_true]
 refine wpAny_bind (wpAny_alloc ?_)
 refine wpAny_bind (wpAny_layCells _ (fun name kind cells => by cases hkc : kind == NameKind.cell <;> simp [hkc]) _ _ _ _ ?_)
 rw [show ({ s with heap := s.heap.push { cls := .type "dict", data := .dict #[] } } : Shared).heap.objs.size = s.heap.objs.size + 1 from Heap.size_push ..]
 rw [List.forIn_nil]
 refine wpAny_bind (wpAny_pure (wpAny_pure ?_))
 refine hQ _ (fun b o e => pushCells_keeps _ _ b o (Heap.get?_push_of_some _ e)) ((Heap.Ns.new s.heap (.type "dict")).keeps (pushCells_keeps _ _)) fun x c e => ?_
 have q := nt (x := x) (c := c) scope.names (s.heap.push { cls := .type "dict", data := .dict #[] }) cl (by rw [Heap.size_push]; exact e)
 rw [Heap.size_push] at q
 exact q.imp id fun ⟨a, b⟩ => ⟨by omega, b⟩
theorem qq {env : Env} {x : Str} : ∀ {ns : List (Str × NameKind)}, ns.lookup x = some .free ->
  (ns.map fun (n, k) => if (k == NameKind.free && env.scope.kind == .function && env.kindOf n == some .cell) then (n, NameKind.cell) else (n, k)).lookup x = some .cell \/
  (ns.map fun (n, k) => if (k == NameKind.free && env.scope.kind == .function && env.kindOf n == some .cell) then (n, NameKind.cell) else (n, k)).lookup x = some .free
 | [], h => by simp at h
 | (n, k) :: r, h => by
  have ih := @qq env x r
  rw [List.map_cons]
  dsimp only
  by_cases hc : (k == NameKind.free && env.scope.kind == .function && env.kindOf n == some .cell) = true
  ·rw [if_pos hc, List.lookup_cons]
   cases hx : x == n with
   | true => exact .inl rfl
   | false => rw [List.lookup_cons, hx] at h; exact ih h
  ·rw [if_neg hc, List.lookup_cons]
   cases hx : x == n with
   | true =>
    rw [List.lookup_cons, hx] at h
    have e := Option.some.inj h
    subst e
    exact .inr rfl
   | false => rw [List.lookup_cons, hx] at h; exact ih h
theorem qr {env : Env} {x : Str} : ∀ {ns : List (Str × NameKind)},
  ((ns.map fun (n, k) => if (k == NameKind.free && env.scope.kind == .function && env.kindOf n == some .cell) then (n, NameKind.cell) else (n, k)).lookup x = some .cell \/
  (ns.map fun (n, k) => if (k == NameKind.free && env.scope.kind == .function && env.kindOf n == some .cell) then (n, NameKind.cell) else (n, k)).lookup x = some .free) ->
  ns.lookup x = some .cell \/ ns.lookup x = some .free
 | [], h => by simp at h
 | (n, k) :: r, h => by
  have ih := @qr env x r
  rw [List.map_cons] at h
  dsimp only at h
  by_cases hc : (k == NameKind.free && env.scope.kind == .function && env.kindOf n == some .cell) = true
  ·rw [if_pos hc, List.lookup_cons] at h
   rw [List.lookup_cons]
   cases hx : x == n with
   | true =>
    have : k = NameKind.free := by
     rw [Bool.and_eq_true, Bool.and_eq_true] at hc
     exact eq_of_beq hc.1.1
    subst this
    exact .inr rfl
   | false => rw [hx] at h; exact ih h
  ·rw [if_neg hc, List.lookup_cons] at h
   rw [List.lookup_cons]
   cases hx : x == n with
   | true => rw [hx] at h; exact h
   | false => rw [hx] at h; exact ih h
noncomputable def ba (X : Cx) (N' : List Str) (sc : Scope) (L : Addr) (cs : List (Str × Addr)) (s : Shared) (H : Hp) (fp : List Addr) : Cx :=
 { X with
  N := N', s₀ := s, H₀ := H, outer := X.stack, ex := fp, pn := [], xe := fun _ _ => False
  fn := fun x => !(sc.names.any fun p => p.1 == x && p.2 == NameKind.free)
  env := { scope := relabel sc X.env, locals := L, globals := X.env.globals, cells := cs, qual := X.env.qual, func := none, code := X.env.code, frame := X.env.frame, builtins := X.env.builtins } }
noncomputable def inS (ix : List (Option Nat)) (σ : St) : St := ix.map fun o => match o with
 | none => none
 | some j => (σ[j]?).join
noncomputable def bA (N : List Str) (osc : Scope) (N' : List Str) (sc : Scope) (ix : List (Option Nat)) : Bool :=
 decide (ix.length = N'.length) &&
 ((List.range ix.length).all fun i => match ix[i]? with
  | some (some j) => (match N'[i]?, N[j]? with
   | some x, some y => x == y && sc.names.lookup x == some NameKind.free
   | _, _ => false)
  | _ => true) &&
 (sc.names.all fun p => (p.2 != NameKind.free || (osc.names.lookup p.1 == some NameKind.cell || osc.names.lookup p.1 == some NameKind.free)) && (p.2 != NameKind.local || sc.names.lookup p.1 == some NameKind.local)) &&
 (sc.names.all fun p => sc.names.all fun q => !(p.1 == q.1) || p.2 == q.2)
section
variable {X : Cx} {pins : List (Addr × Obj)} {σ : St} {H : Hp} {s : Shared} {N' : List Str} {sc : Scope} {ix : List (Option Nat)}
theorem bA.len (ok : bA X.N X.env.scope N' sc ix = true) : ix.length = N'.length := by
 unfold bA at ok
 rw [Bool.and_eq_true, Bool.and_eq_true, Bool.and_eq_true] at ok
 exact of_decide_eq_true ok.1.1.1
theorem bA.at (ok : bA X.N X.env.scope N' sc ix = true) {i j : Nat} {x : Str} (h : ix[i]? = some (some j)) (hx : N'[i]? = some x) : X.N[j]? = some x /\ sc.names.lookup x = some .free := by
 unfold bA at ok
 rw [Bool.and_eq_true, Bool.and_eq_true, Bool.and_eq_true] at ok
 have q := List.all_eq_true.mp ok.1.1.2 i (List.mem_range.mpr (List.getElem?_eq_some_iff.mp h).1)
 rw [h, hx] at q
 dsimp only at q
 cases e : X.N[j]? with
 | none => rw [e] at q; cases q
 | some y =>
  rw [e] at q
  dsimp only at q
  rw [Bool.and_eq_true] at q
  exact ⟨by rw [eq_of_beq q.1], eq_of_beq q.2⟩
theorem bA.fr (ok : bA X.N X.env.scope N' sc ix = true) {x : Str} (h : (x, NameKind.free) ∈ sc.names) : X.env.kindOf x = some .cell \/ X.env.kindOf x = some .free := by
 unfold bA at ok
 rw [Bool.and_eq_true, Bool.and_eq_true] at ok
 have q := List.all_eq_true.mp ok.1.2 _ h
 rw [Bool.and_eq_true] at q
 have q1 := q.1
 rw [Bool.or_eq_true] at q1
 rcases q1 with z | z
 ·exact absurd z (by simp)
 ·rw [Bool.or_eq_true] at z
  exact z.imp (fun e => eq_of_beq e) fun e => eq_of_beq e
theorem bA.loc (ok : bA X.N X.env.scope N' sc ix = true) : ∀ x ∈ sc.names, x.2 = NameKind.local -> sc.names.lookup x.1 = some .local := fun x hx e => by
 unfold bA at ok
 rw [Bool.and_eq_true, Bool.and_eq_true] at ok
 have q := List.all_eq_true.mp ok.1.2 _ hx
 rw [Bool.and_eq_true] at q
 have q1 := q.2
 rw [Bool.or_eq_true] at q1
 rcases q1 with z | z
 ·rw [e] at z; exact absurd z (by decide)
 ·exact eq_of_beq z
theorem bA.apart (ok : bA X.N X.env.scope N' sc ix = true) {x : Str} (h1 : (x, NameKind.cell) ∈ sc.names) (h2 : (x, NameKind.free) ∈ sc.names) : False := by
 unfold bA at ok
 rw [Bool.and_eq_true] at ok
 have q := List.all_eq_true.mp (List.all_eq_true.mp ok.2 _ h1) _ h2
 simp at q
theorem pz (I : Inv X pins σ H s) (ok : bA X.N X.env.scope N' sc ix = true) : ∀ x ∈ sc.names, x.2 = NameKind.free -> ∃ c, X.env.cells.lookup x.1 = some c := fun x hx e => by
 obtain ⟨n, k⟩ := x
 have e' : k = NameKind.free := e
 subst e'
 exact I.ok.has n (bA.fr ok hx)
theorem zA (I : Inv X pins σ H s) (ok : bA X.N X.env.scope N' sc ix = true) {x : Str} {c : Addr} (h : (qP X.env.cells sc.names []).lookup x = some c) : (x, NameKind.free) ∈ sc.names /\ X.env.cells.lookup x = some c := by
 rcases qO _ _ h with ⟨m, e⟩ | z
 ·obtain ⟨d, hd⟩ := pz I ok _ m rfl
  have hd' : X.env.cells.lookup x = some d := hd
  rw [hd'] at e
  have e2 : c = d := e
  subst e2
  exact ⟨m, hd'⟩
 ·simp at z
theorem comp_inv {fp : List Addr} {L : Addr} {h1 : Heap} (I : Inv X pins σ H s) (hf : ∀ b ∈ fp, xK X pins H b) (hb : ∀ b ∈ fp, ∃ o, s.heap.get? b = some o) (ok : bA X.N X.env.scope N' sc ix = true) (hk : sc.kind = .function) (hL : s.heap.objs.size <= L)
  (kp : ∀ b o, s.heap.get? b = some o -> h1.get? b = some o) (ns : h1.Ns L fun _ => none)
  (hc : ∀ x c, (cellsFrom (L + 1) sc.names (qP X.env.cells sc.names [])).lookup x = some c -> (qP X.env.cells sc.names []).lookup x = some c \/ (L < c /\ h1.IsCell c none)) :
  Inv (ba X N' sc L (cellsFrom (L + 1) sc.names (qP X.env.cells sc.names [])) s H fp) [] (inS ix σ) H { s with heap := h1 } := by
 have cc : ∀ x c, (qP X.env.cells sc.names []).lookup x = some c -> (x, NameKind.free) ∈ sc.names /\ X.env.cells.lookup x = some c /\ (∃ v, s.heap.IsCell c v) /\ c < s.heap.objs.size := fun x c e => by
  obtain ⟨m, e'⟩ := zA I ok e
  obtain ⟨v, z⟩ := I.cell x c e'
  exact ⟨m, e', ⟨v, z⟩, z.lt⟩
 have fpl : ∀ b ∈ fp, b < s.heap.objs.size := fun b z => let ⟨o, e⟩ := hb b z; Heap.lt_size e
 have cne : ∀ b ∈ fp, ∀ x c, (cellsFrom (L + 1) sc.names (qP X.env.cells sc.names [])).lookup x = some c -> c ≠ b := fun b z x c e => by
  have hlt := fpl b z
  rcases hc x c e with q | ⟨q, _⟩
  ·exact (hf b z).2.2.2.2.1 x c (cc x c q).2.1
  ·exact gt_ne (Nat.lt_of_lt_of_le hlt hL) q
 have okk : (ba X N' sc L (cellsFrom (L + 1) sc.names (qP X.env.cells sc.names [])) s H fp).Ok := by
  refine ⟨I.ok.mod, hk, I.ok.glob, I.ok.blt, hL, ?_, ?_, ?_, I.ok.hd, I.ok.frames, .inl rfl, ?_, I.bs, Nat.le_trans I.ok.bsz I.sz, ?_, ?_, I.stack, I.xY⟩
  ·refine pC sc.names (L + 1) _ (fun x y c e1 e2 => I.ok.inj x y c (cc x c e1).2.1 (cc y c e2).2.1) fun x c e => ?_
   exact Nat.lt_succ_of_lt (Nat.lt_of_lt_of_le (cc x c e).2.2.2 hL)
  ·intro x hx
   have hx' := qr (env := X.env) (x := x) (ns := sc.names) hx
   have q : ((cellsFrom (L + 1) sc.names (qP X.env.cells sc.names [])).lookup x).isSome = true := by
    rcases hx' with z | z
    ·exact PySem.W.cellsFrom_some _ _ _ (.inl z)
    ·exact PySem.W.cellsFrom_some _ _ _ (.inr (pB _ _ (.inl (PySem.mem_of_lookup z))))
   exact Option.isSome_iff_exists.mp q
  ·intro x c hfn e
   show s.heap.objs.size <= c
   rcases hc x c e with q | ⟨q, _⟩
   ·have m := (cc x c q).1
    have hfn' : (!(sc.names.any fun p => p.1 == x && p.2 == NameKind.free)) = true := hfn
    have z : (sc.names.any fun p => p.1 == x && p.2 == NameKind.free) = true := List.any_eq_true.mpr ⟨_, m, by simp⟩
    rw [z] at hfn'
    cases hfn'
   ·exact Nat.le_trans hL (Nat.le_of_lt q)
  ·intro b z
   have hlt := fpl b z
   exact ⟨Nat.ne_of_lt (Nat.lt_of_lt_of_le hlt hL), cne b z⟩
  ·intro b o e z
   rcases (hf b z).2.2.2.1 with q | q
   ·exact I.ok.noex b o e q
   ·exact absurd (Nat.lt_of_lt_of_le (Heap.lt_size e) (Nat.le_trans I.ok.bsz q)) (Nat.lt_irrefl _)
  ·intro b z hs
   rcases List.mem_cons.mp (I.ql b hs) with q | q
   ·exact (hf b z).2.1 q
   ·exact (hf b z).2.2.1 q
 refine ⟨okk, rfl, I.bare, Un.kept kp, ⟨_, ns, fun i x v h1' h2 h3 => ?_⟩, fun x c e => ?_, I.hok.fresh hL, fun x c e => ?_, fun p hp => absurd hp (by simp [ba]), I.hok.kept kp, ?_⟩
 ·have hix : ∃ j, ix[i]? = some (some j) /\ σ[j]? = some (some v) := by
   unfold inS at h2
   rw [List.getElem?_map] at h2
   cases e : ix[i]? with
   | none => rw [e] at h2; cases h2
   | some o =>
    rw [e] at h2
    cases o with
    | none => cases h2
    | some j =>
     have h2' : (σ[j]?).join = some v := Option.some.inj h2
     refine ⟨j, rfl, ?_⟩
     cases e2 : σ[j]? with
     | none => rw [e2] at h2'; cases h2'
     | some w =>
      rw [e2] at h2'
      have h2'' : w = some v := h2'
      rw [h2'']
  obtain ⟨j, e1, e2⟩ := hix
  obtain ⟨e3, e4⟩ := bA.at ok e1 h1'
  have hfr := bA.fr ok (PySem.mem_of_lookup e4)
  obtain ⟨m, hn, hl⟩ := I.loc
  obtain ⟨u, r, l⟩ := hl j x v e3 e2 (hfr.elim (fun z => .inr (.inl z)) fun z => .inr (.inr z))
  refine ⟨u, r, .inr ⟨qq (env := X.env) (x := x) (ns := sc.names) e4, ?_⟩⟩
  rcases l with ⟨k, _⟩ | ⟨k, c, e, z⟩
  ·rcases hfr with q | q <;> rw [q] at k <;> cases k
  ·have q1 := pB (cells := X.env.cells) sc.names [] (.inl (PySem.mem_of_lookup e4))
   obtain ⟨c2, q2⟩ := Option.isSome_iff_exists.mp q1
   have q3 := (cc x c2 q2).2.1
   rw [e] at q3
   cases q3
   have q4 := PySem.W.cellsFrom_some (x := x) sc.names (L + 1) (qP X.env.cells sc.names []) (.inr q1)
   obtain ⟨c3, q5⟩ := Option.isSome_iff_exists.mp q4
   rcases hc x c3 q5 with q6 | ⟨q6, q7⟩
   ·rw [q2] at q6
    cases q6
    exact ⟨c, q5, z.keeps kp⟩
   ·exfalso
    rcases mv _ _ _ q5 with ⟨_, m'⟩ | q8
    ·exact bA.apart ok m' (PySem.mem_of_lookup e4)
    ·rw [q2] at q8
     cases q8
     exact absurd (Nat.lt_trans (Nat.lt_of_lt_of_le (cc x c q2).2.2.2 hL) q6) (Nat.lt_irrefl _)
 ·rcases hc x c e with q | ⟨_, q⟩
  ·obtain ⟨v, z⟩ := (cc x c q).2.2.1
   exact ⟨v, z.keeps kp⟩
  ·exact ⟨_, q⟩
 ·rcases hc x c e with q | ⟨q, _⟩
  ·exact I.freeC x c (cc x c q).2.1
  ·exact I.hok.fresh (Nat.le_trans hL (Nat.le_of_lt q))
 ·show (inS ix σ).length = N'.length
  unfold inS
  rw [List.length_map]
  exact bA.len ok
end
noncomputable def PTs (X : Cx) (ifs : List Expr) (t : TT) : Prop :=
 ∀ (pins : List (Addr × Obj)) (s : Shared) (σ : St) (H : Hp) (Q : Bool -> Hp -> Prop), Inv X pins σ H s -> t σ H Q ->
  wpAny (model X.prog X.w) X.A (forIn ifs true fun c r => if r = true then do let ok <- isTrue c X.env (eval c X.env); pure (ForInStep.yield ok) else pure (ForInStep.yield r)) (TP X pins σ Q) X.xe s
noncomputable def tYes : TT := fun _ H Q => Q true H
theorem pts_nil {X : Cx} : PTs X [] tYes := fun _ _ _ H _ I h => wpAny_tests_nil ⟨H, I, h⟩
theorem pts_one {X : Cx} {c : Expr} {t : TT} (h : PT X c t) : PTs X [c] t := fun pins s σ H Q I q => wpAny_tests_one (h pins s σ H Q I q)
theorem ua {prog : Program} {w : World} {A : Around} {R : Result -> Shared -> Prop} {s : Shared} {elt tg iter : Expr} {ifs : List Expr} {scope : Scope} {pos : Pos} {it acc : Value} {env : Env} (J : Nat -> Shared -> Prop)
  (turn : ∀ n s, J n s -> wpAny (model prog w) A (pyNext it) (fun r s1 => match r with
   | none => R (.ok .next) s1
   | some v => wpAny (model prog w) A (letOwnedTupleGo tg it v) (fun _ s1' => wpAny (model prog w) A (assign tg env v) (fun _ s2 =>
     wpAny (model prog w) A (forIn ifs true fun c r => if r = true then do let ok <- isTrue c env (eval c env); pure (ForInStep.yield ok) else pure (ForInStep.yield r)) (fun ok s3 =>
      if ok = true then wpAny (model prog w) A (eval elt env) (fun x s4 => wpAny (model prog w) A (call (.builtin "list.append") [acc, x]) (fun _ s5 => ∃ m, m < n /\ J m s5) (fun _ _ => False) s4) (fun _ _ => False) s3
      else ∃ m, m < n /\ J m s3) (fun _ _ => False) s2) (fun _ _ => False) s1') (fun _ _ => False) s1) (fun _ _ => False) s)
  (n : Nat) (h : J n s) : codeAny (model prog w) A (.compLoop (.ListComp elt [⟨tg, iter, ifs, 0⟩] scope pos) 0 it acc env) R s := by
 refine codeAny_loop rfl J (fun n s hJ => ?_) n h
 show wpAny _ A ((compTurn (.ListComp elt [⟨tg, iter, ifs, 0⟩] scope pos) 0 it acc env).onRaise (fun x => do noteFrame x env; theTreesLotGoes x)) _ _ s
 refine wpAny_noted ?_
 rw [compTurn_list]
 refine wpAny_bind (wpAny_standAt (wpAny_bind (wpAny_mono (turn n s hJ) (fun r s1 h1 => ?_) fun _ _ z => z.elim)))
 cases r with
 | none => exact wpAny_pure h1
 | some v =>
  refine wpAny_bind (wpAny_mono h1 (fun _ s1' h1' => ?_) fun _ _ z => z.elim)
  refine wpAny_bind (wpAny_mono h1' (fun _ s2 h2 => wpAny_bind (wpAny_mono h2 (fun ok s3 h3 => ?_) fun _ _ z => z.elim)) fun _ _ z => z.elim)
  cases ok with
  | false => exact wpAny_pure ⟨rfl, h3⟩
  | true =>
   exact wpAny_bind (wpAny_bind (wpAny_mono h3 (fun x s4 h4 => wpAny_bind (wpAny_mono h4 (fun _ s5 h5 => wpAny_pure (wpAny_pure ⟨rfl, h5⟩)) fun _ _ z => z.elim)) fun _ _ z => z.elim))
noncomputable def pA (J : It) (ix : List (Option Nat)) (g : TG) (tt : TT) (te : TE) (σ : St) (F : List V -> Hp -> Prop) (H : Hp) : Prop :=
 ∃ W : Nat -> Nat -> List V -> Hp -> Prop, (∃ m, W 0 m [] H) /\ ∀ i m ys H, W i m ys H ->
  (J.stop i H /\ ys.length <= sizeLine /\ F ys H) \/ (J.go i H /\ ys.length <= sizeLine /\ ∃ N : List V -> Hp -> Prop, (∀ ys' H', N ys' H' -> ∃ m', m' < m /\ W (i + 1) m' ys' H') /\
   ∀ x H', J.yld i H x H' -> g x (inS ix σ) H' fun σ2 H2 => tt σ2 H2 fun b H3 => if b = true then te σ2 H3 fun y H4 => N (ys ++ [y]) H4 else N ys H3)
section
variable {X : Cx} {pins : List (Addr × Obj)} {σ : St} {H : Hp} {s : Shared} {N' : List Str} {sc : Scope} {ix : List (Option Nat)}
theorem Inv.slots0 {X : Cx} {σ' : St} (I : Inv X pins σ' H s) (h : ∀ (i : Nat) v, (inS ix σ)[i]? = some (some v) -> σ'[i]? = some (some v)) (hl : (inS ix σ).length = X.N.length) : Inv X pins (inS ix σ) H s :=
 I.weak (by rw [hl, I.len]) h
theorem u9 {tg elt iter : Expr} {ifs : List Expr} {pos : Pos} {g : TG} {tt : TT} {te : TE} {J : It} {fp : List Addr} {it : Addr} {tn : Nat -> Heap -> Prop} {F : List V -> Hp -> Prop} {E : Value -> Shared -> Prop}
  (hc : X.calm = true) (I : Inv X pins σ H s) (T : Turn X.prog X.w X.K tg J fp it tn) (st : tn 0 s.heap) (hf : ∀ b ∈ fp, xK X pins H b) (ok : bA X.N X.env.scope N' sc ix = true) (hk : sc.kind = .function)
  (hg : ∀ L cs s H fp, PG (ba X N' sc L cs s H fp) tg g) (hkeep : ∀ x σ' H' (Q : St -> Hp -> Prop), g x σ' H' Q -> g x σ' H' fun σ2 H2 => Q σ2 H2 /\ ∀ (i : Nat) v, σ'[i]? = some (some v) -> (∃ j, ix[i]? = some (some j)) -> σ2[i]? = some (some v))
  (ht : ∀ L cs s H fp, PTs (ba X N' sc L cs s H fp) ifs tt) (he : ∀ L cs s H fp, PE (ba X N' sc L cs s H fp) elt te)
  (tr : pA J ix g tt te σ F H) :
  wpAny (model X.prog X.w) X.A (newList []) (fun acc s3 => wpAny (model X.prog X.w) X.A (newFunctionEnv sc X.env.globals (qP X.env.cells sc.names []) [] X.env.qual none .none (some X.env)) (fun cenv s4 =>
   codeAny (model X.prog X.w) X.A (.compStart (.ListComp elt [⟨tg, iter, ifs, 0⟩] sc pos) 0 (.ref it) acc { cenv with scope := relabel sc X.env }) (fun r s' => (∃ fl, r = .ok fl) /\
    ∃ (p : Addr) (ys : List V) (H2 : Hp), acc = .ref p /\ Inv X pins σ (upd H2 p (.lst ys)) s' /\ H2 p = none /\ F ys H2 /\ (∃ m, s'.heap.Ns cenv.locals m) /\ (upd H2 p (.lst ys)) cenv.locals = none /\ cenv.locals ≠ X.env.locals /\
     X.s₀.heap.objs.size <= cenv.locals /\ (∀ x c, X.env.cells.lookup x = some c -> c ≠ cenv.locals) /\ ∀ q ∈ X.pn ++ pins, q.1 ≠ cenv.locals) s4) E s3) E s := by
 obtain ⟨W, ⟨m0, w0⟩, turn⟩ := tr
 refine wpAny_newObj_type (yH fun h1 kp ns hcl => ?_)
 dsimp only at kp ns hcl ⊢
 generalize hH2 : s.heap.push { cls := .type "list", dict := none, data := .seq ([] : List Value).toArray } = HH at kp ns hcl ⊢
 have eL : HH.objs.size = s.heap.objs.size + 1 := by rw [<- hH2, Heap.size_push]
 have kp0 : ∀ b o, s.heap.get? b = some o -> h1.get? b = some o := fun b o e => kp b o (hH2 ▸ Heap.get?_push_of_some _ e)
 have hD0 : h1.PlainList s.heap.objs.size #[] := ⟨_, kp _ _ (hH2 ▸ Heap.get?_push_size _ rfl)⟩
 have fpo : ∀ b ∈ fp, ∃ o, s.heap.get? b = some o := fun b z => let ⟨o, e, _⟩ := T.obj 0 _ st b z; ⟨o, e⟩
 have fpl : ∀ b ∈ fp, b < s.heap.objs.size := fun b z => let ⟨o, e⟩ := fpo b z; Heap.lt_size e
 have sL : s.heap.objs.size <= HH.objs.size := by rw [eL]; exact Nat.le_succ _
 have sL' : s.heap.objs.size < HH.objs.size := by rw [eL]; exact Nat.lt_succ_self _
 have I0 := comp_inv (h1 := h1) I hf fpo ok hk sL kp0 ns hcl
 generalize hXX : ba X N' sc HH.objs.size (cellsFrom (HH.objs.size + 1) sc.names (qP X.env.cells sc.names [])) s H fp = Y at I0
 have eY1 : Y.prog = X.prog := by subst hXX; rfl
 have eY2 : Y.w = X.w := by subst hXX; rfl
 have eY3 : Y.K = X.K := by subst hXX; rfl
 have eY4 : Y.calm = true := by subst hXX; exact hc
 have eY5 : Y.A = X.A := by subst hXX; rfl
 have eY6 : Y.env = { scope := relabel sc X.env, locals := HH.objs.size, globals := X.env.globals, cells := cellsFrom (HH.objs.size + 1) sc.names (qP X.env.cells sc.names []), qual := X.env.qual, func := none, code := X.env.code, frame := X.env.frame, builtins := X.env.builtins } := by subst hXX; rfl
 have eY7 : Y.xe = fun _ _ => False := by subst hXX; rfl
 have eY8 : Y.pn = [] := by subst hXX; rfl
 have eY9 : Y.fs = frs X.stack := by subst hXX; rfl
 have eY10 : Y.s₀ = s := by subst hXX; rfl
 have eY11 : Y.H₀ = H := by subst hXX; rfl
 have eY12 : Y.ex = fp := by subst hXX; rfl
 have eY13 : Y.N = N' := by subst hXX; rfl
 have hgY : PG Y tg g := by subst hXX; exact hg _ _ _ _ _
 have htY : PTs Y ifs tt := by subst hXX; exact ht _ _ _ _ _
 have heY : PE Y elt te := by subst hXX; exact he _ _ _ _ _
 have lenI : (inS ix σ).length = Y.N.length := by rw [eY13]; unfold inS; rw [List.length_map]; exact bA.len ok
 have cellN : ∀ (b : Addr), b <= HH.objs.size -> (∀ x c, X.env.cells.lookup x = some c -> c ≠ b) -> ∀ x c, Y.env.cells.lookup x = some c -> c ≠ b := fun b hb hx x c e => by
  rw [eY6] at e
  rcases hcl x c e with q | ⟨q, _⟩
  ·exact hx x c (zA I ok q).2
  ·exact (xp (Nat.lt_of_le_of_lt hb (Nat.lt_succ_self _)) q).symm
 have oldc : ∀ x c, X.env.cells.lookup x = some c -> c < s.heap.objs.size := fun x c e => let ⟨v, z⟩ := I.cell x c e; z.lt
 have nfs : ∀ b, s.heap.objs.size <= b -> b ∉ frs X.stack := fun b hb z => by
  rcases List.mem_cons.mp (I.ql b z) with q | q
  ·exact xp I.lt hb q.symm
  ·exact I.nofs hb q
 have fpY : ∀ (pp : List (Addr × Obj)) (H' : Hp), (∀ b ∈ fp, H' b = none) -> (∀ q ∈ pp, q.1 ∉ fp) -> ∀ b ∈ fp, xK Y pp H' b := fun pp H' hn hq b z => by
  have hlt := fpl b z
  refine ⟨hn b z, ?_, ?_, .inl (by rw [eY12]; exact z), cellN b (Nat.le_of_lt (Nat.lt_trans hlt sL')) ((hf b z).2.2.2.2.1), fun q hq' e => ?_⟩
  ·rw [eY6]; exact xp hlt sL
  ·rw [eY9]; intro hs
   rcases List.mem_cons.mp (I.ql b hs) with q | q
   ·exact (hf b z).2.1 q
   ·exact (hf b z).2.2.1 q
  ·rw [eY8] at hq'
   exact hq q (by simpa using hq') (by rw [e]; exact z)
 have Dfp : s.heap.objs.size ∉ fp := fun z => absurd (fpl _ z) (Nat.lt_irrefl _)
 have Dok : ∀ (pp : List (Addr × Obj)) (H' : Hp), H' s.heap.objs.size = none -> (∀ q ∈ pp, q.1 ≠ s.heap.objs.size) -> xK Y pp H' s.heap.objs.size := fun pp H' hn hq => by
  refine ⟨hn, ?_, by rw [eY9]; exact nfs _ (Nat.le_refl _), .inr (by rw [eY10]; exact Nat.le_refl _), cellN _ sL (fun x c e => Nat.ne_of_lt (oldc x c e)), fun q hq' => ?_⟩
  ·rw [eY6]; exact Nat.ne_of_lt sL'
  ·rw [eY8] at hq'
   exact hq q (by simpa using hq')
 have loop : codeAny (model X.prog X.w) X.A (.compLoop (.ListComp elt [⟨tg, iter, ifs, 0⟩] sc pos) 0 (.ref it) (.ref s.heap.objs.size) Y.env) (fun r s' => (∃ fl, r = .ok fl) /\
    ∃ (p : Addr) (ys : List V) (H2 : Hp), Value.ref s.heap.objs.size = .ref p /\ Inv X pins σ (upd H2 p (.lst ys)) s' /\ H2 p = none /\ F ys H2 /\ (∃ m, s'.heap.Ns HH.objs.size m) /\ (upd H2 p (.lst ys)) HH.objs.size = none /\ HH.objs.size ≠ X.env.locals /\
     X.s₀.heap.objs.size <= HH.objs.size /\ (∀ x c, X.env.cells.lookup x = some c -> c ≠ HH.objs.size) /\ ∀ q ∈ X.pn ++ pins, q.1 ≠ HH.objs.size) { s with heap := h1 } := by
  refine ua (fun n s' => ∃ i ys its H', Inv Y [] (inS ix σ) H' s' /\ tn i s'.heap /\ (∀ b ∈ fp, H' b = none) /\ H' s.heap.objs.size = none /\ s'.heap.PlainList s.heap.objs.size its /\ Vals ys its.toList /\ W i n ys H') ?_ m0
   ⟨0, [], #[], H, I0, T.keep _ _ _ st fun b _ o e => kp0 b o e, fun b z => (hf b z).1, I.hok.fresh (Nat.le_refl _), hD0, .nil, w0⟩
  rintro n s3 ⟨i, ys, its, H3, I3, st3, fr3, hD3, pl3, vs3, w3⟩
  obtain ⟨nD, oD⟩ := pl3
  have hpD : ∀ q ∈ [((s.heap.objs.size : Addr), ({ cls := .type "list", data := .seq its nD } : Obj))], q.1 ∉ fp := fun q hq => by
   have : q = _ := List.mem_singleton.mp hq
   rw [this]; exact Dfp
  have I3' : Inv Y [((s.heap.objs.size : Addr), ({ cls := .type "list", data := .seq its nD } : Obj))] (inS ix σ) H3 s3 := I3.rF fun q hq => by
   have e : q = _ := List.mem_singleton.mp hq
   obtain ⟨d0, d1, d2, _⟩ := Dok [] H3 hD3 (fun _ z => nomatch z)
   rw [e]
   exact ⟨oD, d0, d1, d2, fun v z => by cases z⟩
  rcases turn i n ys H3 w3 with ⟨stop, ln, qn⟩ | ⟨go, ln, NN, hNN, step⟩
  ·have h1 := T.done Y eY1 eY2 eY3 eY4 i _ s3 _ H3 (fun _ _ => False) I3' (fpY _ H3 fr3 hpD) st3 stop
   rw [eY5] at h1
   refine wpAny_mono h1 (fun r s4 ⟨hr, I4⟩ => ?_) fun _ _ z => z
   subst hr
   obtain ⟨oD4, hD4, _⟩ := I4.pin ((s.heap.objs.size : Addr), ({ cls := .type "list", data := .seq its nD } : Obj)) (by rw [eY8]; simp)
   refine ⟨⟨_, rfl⟩, s.heap.objs.size, ys, H3, rfl, ?_, hD3, qn, ?_, ?_, ?_, ?_, ?_, ?_⟩
   ·have ub : Un (frs X.stack) fp H H3 s.heap s4.heap := by
     have := I4.base
     rw [eY9, eY10, eY11, eY12] at this
     exact this
    have hok4 : HOk X.prog X.w H3 s4.heap := by
     have := I4.hok
     rw [eY1, eY2] at this
     exact this
    refine I.call' (ch := fp) (by have := I4.os; rw [eY10] at this; exact this) ⟨ub.keep, ub.slot, fun b o e nn hx => ?_, ub.there, fun b xs q => ?_, fun b o u q => ?_, fun b ps q => ?_⟩ (fun b u e => ?_) I4.bare (fun b hb => ?_)
    ·rw [au (Nat.ne_of_lt (Heap.lt_size e))]; exact ub.free b o e nn hx
    ·rw [au (aN (ub.tups b xs q) hD3)]; exact ub.tups b xs q
    ·rw [au (aN (ub.frzs b o u q) hD3)]; exact ub.frzs b o u q
    ·obtain ⟨more, z⟩ := ub.tbls b ps q
     exact ⟨more, by rw [au (aN z hD3)]; exact z⟩
    ·by_cases hb : b = s.heap.objs.size
     ·subst hb
      rw [av] at e
      cases e
      exact ⟨ln, its.toList, nD, vs3, by simpa using oD4⟩
     ·rw [au hb] at e
      exact (hok4 b u e).uP (fun _ _ _ q => q) (fun c q => by rw [au (aN q hD3)]; exact q) fun c xs q => by rw [au (aN q hD3)]; exact q
    ·obtain ⟨f0, f1, f2, f3, f4, f5⟩ := hf b hb
     exact ⟨f3, f1, f4, f5⟩
   ·obtain ⟨m, hn, _⟩ := I4.loc
    rw [eY6] at hn
    exact ⟨m, hn⟩
   ·rw [au (Nat.ne_of_gt sL')]
    have := I4.free
    rw [eY6] at this
    exact this
   ·exact Nat.ne_of_gt (Nat.lt_trans I.lt sL')
   ·exact Nat.le_trans I.sz sL
   ·exact fun x c e => xp (oldc x c e) sL
   ·exact fun q hq => xp (Heap.lt_size (I.pin q hq).1) sL
  ·have h1 := T.item Y eY1 eY2 eY3 eY4 i _ s3 _ H3 (fun _ _ => False) I3' (fpY _ H3 fr3 hpD) st3 go
   rw [eY5] at h1
   refine wpAny_mono h1 (fun r s4 ⟨u, hr, h4⟩ => ?_) fun _ _ z => z
   subst hr
   refine wpAny_mono h4 (fun _ s5 ⟨x, H5, I5, r5, y5, st5, fr5⟩ => ?_) fun _ _ z => z
   have I5' := I5.pinned (fpY _ H5 fr5 hpD) (T.obj _ _ st5)
   have h5 := hgY _ s5 _ H5 x u _ I5' r5 (hkeep x _ H5 _ (step x H5 y5))
   rw [eY1, eY2, eY5, eY7] at h5
   refine wpAny_mono h5 (fun _ s6 ⟨σ6, H6, I6, q6, k6⟩ => ?_) fun _ _ z => z
   have h6 := htY _ s6 σ6 H6 _ I6 q6
   rw [eY1, eY2, eY5, eY7] at h6
   refine wpAny_mono h6 (fun b s7 ⟨H7, I7, q7⟩ => ?_) fun _ _ z => z
   have back : ∀ {s8 : Shared} {H8 : Hp}, Inv Y ([((s.heap.objs.size : Addr), ({ cls := .type "list", data := .seq its nD } : Obj))] ++ tF fp s5.heap) σ6 H8 s8 -> Inv Y [] (inS ix σ) H8 s8 /\ tn (i + 1) s8.heap /\ (∀ b ∈ fp, H8 b = none) /\ H8 s.heap.objs.size = none /\ s8.heap.get? s.heap.objs.size = some { cls := .type "list", data := .seq its nD } := fun {s8 H8} I8 => by
    obtain ⟨a1, a2, _⟩ := I8.pin ((s.heap.objs.size : Addr), ({ cls := .type "list", data := .seq its nD } : Obj)) (by rw [eY8]; simp)
    refine ⟨(I8.rF (pins' := []) fun _ z => nomatch z).slots0 (fun k v e => ?_) lenI, T.keep _ _ _ st5 fun b hb o e => (I8.pin (b, o) (List.mem_append_right _ (List.mem_append_right _ (lN hb e)))).1, fun b hb => ?_, a2, a1⟩
    ·refine k6 k v e ?_
     unfold inS at e
     rw [List.getElem?_map] at e
     cases e2 : ix[k]? with
     | none => rw [e2] at e; cases e
     | some o =>
      cases o with
      | none => rw [e2] at e; cases e
      | some j => exact ⟨j, rfl⟩
    ·obtain ⟨o, e, d⟩ := T.obj _ _ st5 b hb
     exact (I8.pin (b, o) (List.mem_append_right _ (List.mem_append_right _ (lN hb e)))).2.1
   cases b with
   | false =>
    rw [if_neg Bool.false_ne_true] at q7 ⊢
    obtain ⟨m', hm, w7⟩ := hNN _ _ q7
    obtain ⟨b1, b2, b3, b4, b5⟩ := back I7
    exact ⟨m', hm, i + 1, ys, its, H7, b1, b2, b3, b4, ⟨nD, b5⟩, vs3, w7⟩
   | true =>
    rw [if_pos rfl] at q7 ⊢
    have h7 := heY _ s7 σ6 H7 _ I7 q7
    rw [eY1, eY2, eY5, eY7, eY6] at h7
    rw [eY6]
    refine wpAny_mono h7 (fun uu s8 ⟨y, H8, I8, r8, q8⟩ => ?_) fun _ _ z => z
    obtain ⟨m', hm, w8⟩ := hNN _ _ q8
    obtain ⟨b1, b2, b3, b4, b5⟩ := back I8
    have ez : its.size <= sizeLine := by
     have h1 := vs3.length
     have h2 : its.toList.length = its.size := by simp
     omega
    refine wpAny_list_append_plain (hsz := ez) ⟨nD, b5⟩ fun h9 pl9 sb9 => ?_
    obtain ⟨d0, d1, d2, d3, d4, d5⟩ := Dok [] H8 b4 (fun _ z => nomatch z)
    refine ⟨m', hm, i + 1, ys ++ [y], its.push uu, H8, b1.turned (t' := s8.toks) (fun b o hb e => (sb9.2 b hb).trans e) d0 d1 d3 d4 d5, T.keep _ _ _ b2 fun b hb o e => (sb9.2 b ?_).trans e, b3, b4, pl9, ?_, w8⟩
    ·exact xp (fpl b hb) (Nat.le_refl _)
    ·rw [Array.toList_push]
     exact vs3.append (.cons r8 .nil)
 rw [eY6] at loop
 exact codeAny_compStart_list loop (T.self X.A 0 _ _ _ (T.keep _ _ _ st fun b _ o e => kp0 b o e) loop)
end
noncomputable def tComp (wi : TI) (ix : List (Option Nat)) (g : TG) (tt : TT) (te : TE) : TE := fun σ H Q => wi σ H fun J H1 => pA J ix g tt te σ (fun ys H2 => ∀ p, H2 p = none -> Q (.ref p) (upd H2 p (.lst ys))) H1
noncomputable def qX (ix : List (Option Nat)) (g : TG) : Prop := ∀ x σ' H' (Q : St -> Hp -> Prop), g x σ' H' Q -> g x σ' H' fun σ2 H2 => Q σ2 H2 /\ ∀ (i : Nat) v, σ'[i]? = some (some v) -> (∃ j, ix[i]? = some (some j)) -> σ2[i]? = some (some v)
theorem dQ {ix : List (Option Nat)} {k : Nat} (h : ix[k]? = some none) : qX ix (mP k) := fun x σ' H' Q q => ⟨q, fun i v e ⟨j, hj⟩ => by
 have : k ≠ i := by rintro rfl; rw [h] at hj; cases hj
 rw [List.getElem?_set_ne this]; exact e⟩
section
variable {X : Cx} {N' : List Str} {sc : Scope} {ix : List (Option Nat)} {tg elt iter : Expr} {ifs : List Expr} {pos spos py : Pos} {wi : TI} {g : TG} {tt : TT} {te : TE}
theorem pe_comp (N' : List Str) (ix : List (Option Nat)) (hc : X.calm = true) (hi : PI X tg iter wi) (hg : ∀ L cs s H fp, PG (ba X N' sc L cs s H fp) tg g) (hl : qX ix g)
  (ht : ∀ L cs s H fp, PTs (ba X N' sc L cs s H fp) ifs tt) (he : ∀ L cs s H fp, PE (ba X N' sc L cs s H fp) elt te)
  (ok : bA X.N X.env.scope N' sc ix = true := by rfl) (hk : sc.kind = .function := by rfl) (hs : ∀ x, foldedSetIterable iter X.env x = pure x := by intro _; rfl) :
  PE X (.ListComp elt [⟨tg, iter, ifs, 0⟩] sc pos) (tComp wi ix g tt te) := by
 show 'Պ'
 rw [eval_ListComp]
 refine wpAny_comprehension_free (use := none) rfl hs (qN (pz I ok)) hk (bA.loc ok) (thn (hi pins s σ H _ I h) fun v s1 h1 => thn h1 fun itv s2 h2 => ?_)
 show 'Ջ'
 exact ⟨m, hn, fun h' sb => ⟨.ref p, _, I5.turned (t' := s5.toks) (fun b o hb e => (sb.2 b hb).trans e) c0 c1 (.inr c2) c3 c4, rfl, q p hp⟩⟩
noncomputable def tSetComp (j : Nat) (wi : TI) (ix : List (Option Nat)) (g : TG) (tt : TT) (te : TE) : TS := fun D σ H => wi σ H fun J H1 => pA J ix g tt te σ (fun ys H2 => ∀ p, H2 p = none -> D.nx (σ.set j (some (.ref p))) (upd H2 p (.lst ys))) H1
theorem xa (N' : List Str) (ix : List (Option Nat)) {j : Nat} {y : Str} (hN : X.N.Nodup) (hj : X.N[j]? = some y) (hy : X.env.scope.names.lookup y = some .local) (hc : X.calm = true) (hi : PI X tg iter wi) (hg : ∀ L cs s H fp, PG (ba X N' sc L cs s H fp) tg g) (hl : qX ix g)
  (ht : ∀ L cs s H fp, PTs (ba X N' sc L cs s H fp) ifs tt) (he : ∀ L cs s H fp, PE (ba X N' sc L cs s H fp) elt te)
  (hsw : swapsWith (.ListComp elt [⟨tg, iter, ifs, 0⟩] sc pos) (some (.Name y py)) spos.line X.env = pure true := by rfl)
  (ok : bA X.N X.env.scope N' sc ix = true := by rfl) (hk : sc.kind = .function := by rfl) (hs : ∀ x, foldedSetIterable iter X.env x = pure x := by intro _; rfl) :
  PS X (.Assign [.Name y py] (.ListComp elt [⟨tg, iter, ifs, 0⟩] sc pos) spos) (tSetComp j wi ix g tt te) := by
 show 'Փ'
 rw [exec_Assign_Name_used _ _ _ _ hsw]
 refine wpAny_bind (wpAny_standAt (wpAny_bind ?_))
 show wpAny _ X.A (do let _ <- comprehension (.ListComp elt [⟨tg, iter, ifs, 0⟩] sc pos) sc X.env _ (newList []) false (eval iter X.env) (some (assign (.Name y py) X.env))) _ _ s
 refine wpAny_bind (wpAny_mono (wpAny_comprehension_free (use := some (assign (.Name y py) X.env)) (Q := fun _ s' => SP X pins D .next s') rfl hs (qN (pz I ok)) hk (bA.loc ok) (thn (hi pins s σ H _ I h) fun v s1 h1 => thn h1 fun itv s2 h2 => ?_)) (fun _ s' hq => wpAny_pure (wpAny_pure hq)) fun _ _ z => z)
 show 'Ջ'
 show wpAny _ X.A (assign (.Name y py) X.env (.ref p)) _ _ s5
 refine wpAny_assign_Name (t6 (v := .ref p) I5 hN hj (.inl hy) rfl (fun s6 I6 ⟨a, sb, ha⟩ => ?_) (.inr hy))
 have ea : cenv.locals ≠ a := by
  rcases ha with z | z
  ·rw [z]; exact c1
  ·exact fun e => c3 y a z e.symm
 refine ⟨m, hn.sameBut sb ea, fun h' sb' => ?_⟩
 exact ⟨_, _, I6.turned (t' := s6.toks) (fun b o hb e => (sb'.2 b hb).trans e) c0 c1 (.inr c2) c3 c4, q p hp⟩
end
end L2
namespace L2
open PySem PySem.Spec PyProof.Rows
section
variable {X : Cx}
theorem wJ : ∀ {bs : List Bool} {us : List Value}, Vals (bs.map V.bl) us -> LSm.BoolsAre us bs
 | [], _, .nil => .nil
 | b :: r, _, .cons e t => by cases e; exact .cons b (wJ t)
theorem call_all (hc : X.calm = true) : dq X (.builtin "all") (fun xs H Q => ∃ (a : Addr) (bs : List Bool), xs = [.ref a] /\ SqL X.K H a (bs.map V.bl) /\ Q (.bl (bs.all id)) H) := by
 show 'թ'
 obtain ⟨a, bs, rfl, hq, q⟩ := h
 obtain ⟨u, rfl, ru⟩ := r.one
 cases ru
 show 'ղ'
 have hb := wJ rv
 have hl := p.isList
 have hlt : a < s.heap.objs.size := by obtain ⟨_, e, _⟩ := hl; exact Heap.lt_size e
 refine call_all_walk (wpAny_pyIter_list hl ?_)
 refine ⟨s.heap.objs.size, [s.heap.objs.size, a], [s.heap.objs.size], its.toArray.size, _, _, fun i => (bs[i]?).getD true, rfl, Walks.list (A := X.A.in1) (I.ok.hd hc) _ a (Nat.ne_of_lt hlt) its.toArray,
  ⟨⟨_, Heap.get?_push_size _ rfl, rfl, rfl⟩, hl.push _⟩, fun i v s' Q' E' hP hQ => ?_, fun h' tk hk => ?_⟩
 ·obtain ⟨b, e, rfl⟩ := hb.get i v (by simpa using hP)
  simp only [e, Option.getD_some] at hQ
  exact wpAny_truthy_bool hQ
 ·have e : ((List.range its.toArray.size).all fun i => (bs[i]?).getD true) = bs.all id := by
   rw [List.size_toArray, hb.length]; exact LSm.range_all bs
  rw [e]
  exact ⟨.bl (bs.all id), H, I.kept (LSm.kept_iter hk), rfl, q⟩
noncomputable def clsV : V -> Option Value
 | .ty n => some (.type n)
 | .ref a => some (.ref a)
 | _ => none
theorem clsV_is {y : V} {c u : Value} (h : clsV y = some c) (r : RelV y u) : u = c := by
 cases y with
 | ty n => cases r; exact Option.some.inj h
 | ref a => cases r; exact Option.some.inj h
 | _ => cases h
theorem call_isi : dq X (.builtin "isinstance") (fun xs H Q => ∃ x y c t b, xs = [x, y] /\ clsV y = some c /\ wM X.K H x t /\ kitOne X.K t c = some b /\ Q (.bl b) H) := by
 show 'թ'
 obtain ⟨x, y, c, t, b, rfl, hc, ty, e, q⟩ := h
 obtain ⟨u, v, rfl, ru, rv⟩ := r.two
 have ev := clsV_is hc rv
 subst ev
 exact yT I ru ty e fun tk => ⟨.bl b, H, I.tok tk, rfl, q⟩
inductive EqV (K : PySem.W.Frag) (H : Hp) : Nat -> V -> V -> Bool -> Prop where
 | flat {n : Nat} {x y : V} (hx : flatV x = true) (hy : flatV y = true) : EqV K H n x y (eqV x y)
 | same {n : Nat} {a : Addr} : EqV K H n (.ref a) (.ref a) true
 | lists {n : Nat} {a b : Addr} {xs ys : List V} {e : Nat -> Bool} (ha : SqL K H a xs) (hb : SqL K H b ys) (hl : xs.length = ys.length) (ne : a ≠ b)
   (he : ∀ j x y, xs[j]? = some x -> ys[j]? = some y -> EqV K H n x y (e j)) : EqV K H (n + 1) (.ref a) (.ref b) ((List.range xs.length).all e)
 | listsL {n : Nat} {a b : Addr} {xs ys : List V} (ha : SqL K H a xs) (hb : SqL K H b ys) (hl : xs.length ≠ ys.length) (ne : a ≠ b) : EqV K H (n + 1) (.ref a) (.ref b) false
 | tups {n : Nat} {a b : Addr} {xs ys : List V} {e : Nat -> Bool} (ha : SqT K H a xs) (hb : SqT K H b ys) (ne : a ≠ b)
   (he : ∀ j x y, xs[j]? = some x -> ys[j]? = some y -> EqV K H n x y (e j)) : EqV K H (n + 1) (.ref a) (.ref b) ((List.range (min xs.length ys.length)).all e && xs.length == ys.length)
theorem Vals.atA {xs : List V} {us : List Value} (r : Vals xs us) {j : Nat} (h : j < us.toArray.size) : ∃ x, xs[j]? = some x /\ RelV x us.toArray[j] := by
 have hl := r.length
 have hj : j < xs.length := by rw [hl]; simpa using h
 obtain ⟨u, e1, e2⟩ := r.get (i := j) (x := xs[j]) (by simp [hj])
 refine ⟨xs[j], by simp [hj], ?_⟩
 have : us.toArray[j] = u := by
  have h' : j < us.length := by simpa using h
  rw [List.getElem?_eq_getElem h'] at e1
  simpa using Option.some.inj e1
 rw [this]; exact e2
end
end L2
namespace L2
open PySem PySem.Spec PyProof.Rows
section
variable {X : Cx} {x : Str} {pos : Pos}
theorem yr {T : String} (hg : Gl X x) (hm : X.mg x = none) (hv : bootBuiltins x = some (.type T)) (hn : x ≠ "__name__" := by decide) (hd : (x == ("__debug__" : Str)) = false := by decide) : PE X (.Name x pos) (tC (.ty T)) := pe_bltn (v := .ty T) hg hm hv rfl hn hd
theorem pe_gint {n : Int} (hg : Gl X x) (hm : ∃ t, X.mg x = some (.int n t)) (hd : (x == ("__debug__" : Str)) = false := by decide) : PE X (.Name x pos) (tC (.int n)) := by
 obtain ⟨t, e⟩ := hm
 exact yv (v := .int n) hg e ⟨t, rfl⟩ hd
end
section
variable {P : Program} {w : World} {K : PySem.W.Frag} {mg : Str -> Option Value} {base : Heap} {CX : CXT}
theorem Fun.okX {x qual : Str} {st : Stmt} {f : Addr} {fd : FuncData} {N ps : List Str} {k : Nat} {sp : Sp} (F : Fun K x qual st f fd) (S : aH N ps (aq st)) (len : ∀ vs H Q E, sp vs H Q E -> vs.length = ps.length)
  (hbody : ∀ (cdv : Value) (A : Around) (outer : List Env) (s : Shared) (H : Hp) (vs : List V) (Q : VK) (E : XK), jJ k (A.deeper (envOfC qual (aq st) s.heap.objs.size f cdv)) -> sp vs H Q E ->
   ∃ t, PSs (xD CX P w K mg base N qual (aq st) f cdv A outer s H E).nox (cm st) t /\ t { nx := fun _ H' => Q .non H', rt := Q } (start N vs) H) : cJ P w K mg base CX (k + 1) f fd ps sp := by
 show 'ձ'
 refine fn_of lk hcd S len fun A outer s H vs Q E hr hsp => ?_
 obtain ⟨t, h, q⟩ := hbody cdv A outer s H vs Q E hr hsp
 exact ⟨t, h.nox, q⟩
structure Def (K : PySem.W.Frag) (mg : Str -> Option Value) (x : Str) (st : Stmt) (ps : List Str) (f : Addr) (fd : FuncData) : Prop where
 fn : Fun K x x st f fd
 mg : mg x = some (.ref f)
 bd : Binds K fd ps []
theorem bO {h : Heap} (KX : K.In h) (G : h.Ns mainGlobals mg) {x : Str} {st : Stmt} {ps : List Str} {f : Addr} {oc : Value} {od an : Option Addr} {osl : Array (Option Value)} {kV doc pm cdv ct : Value}
  (a : nsIn K mainGlobals x = some (some (.ref f))) (l : K.lookup f = some ⟨oc, od, .func (fnOf x x (dn st) (cm st) (aq st) .none kV doc pm an cdv ct), osl⟩) (c : codeIn K cdv x = true) (k : keepIn K (.ref f) = true)
  (hb : ∀ (kV doc pm : Value) (an : Option Addr) (cdv ct : Value) (us : List Value), us.length = ps.length -> bindArgs (fnOf x x (dn st) (cm st) (aq st) .none kV doc pm an cdv ct) ⟨us, []⟩ = pure (ps.zip us)) :
  Def K mg x st ps f (fnOf x x (dn st) (cm st) (aq st) .none kV doc pm an cdv ct) :=
 ⟨wk l c k, mg_of KX G a, (wk l c k).binds hb⟩
structure Mth (K : PySem.W.Frag) (C : Addr) (x qual : Str) (st : Stmt) (ps : List Str) (f : Addr) (fd : FuncData) : Prop where
 fn : Fun K x qual st f fd
 mt : Meth K C x f
 bd : Binds K fd ps []
theorem tQ {C : Addr} {x qual : Str} {st : Stmt} {ps : List Str} {f : Addr} {oc : Value} {od an : Option Addr} {osl : Array (Option Value)} {kV doc pm cdv ct : Value}
  (a : PySem.W.findIn K (.ref C) x = some (some (.ref f))) (i : PySem.W.isFn K (.ref f) = true) (l : K.lookup f = some ⟨oc, od, .func (fnOf x qual (dn st) (cm st) (aq st) .none kV doc pm an cdv ct), osl⟩) (c : codeIn K cdv qual = true) (k : keepIn K (.ref f) = true)
  (hb : ∀ (kV doc pm : Value) (an : Option Addr) (cdv ct : Value) (us : List Value), us.length = ps.length -> bindArgs (fnOf x qual (dn st) (cm st) (aq st) .none kV doc pm an cdv ct) ⟨us, []⟩ = pure (ps.zip us)) :
  Mth K C x qual st ps f (fnOf x qual (dn st) (cm st) (aq st) .none kV doc pm an cdv ct) :=
 ⟨wk l c k, ⟨a, i, k⟩, (wk l c k).binds hb⟩
structure Kls (K : PySem.W.Frag) (mg : Str -> Option Value) (x : Str) (C : Addr) : Prop where
 cl : Cls K C
 mg : mg x = some (.ref C)
 mks : PySem.W.makesIn K C = true
 kp : keepIn K (.ref C) = true
 c1 : PySem.W.findIn K (.ref C) "__class__" = some (some (.builtin "object.__class__"))
 c2 : specialIn K (.builtin "object.__class__") "__get__" = some (some (.builtin "getset_descriptor.__get__"))
 c3 : takesIn K (.builtin "object.__class__") = some true
 c4 : PySem.W.mroIn K C (.type "object") = some true
theorem kls_of {h : Heap} (KX : K.In h) (G : h.Ns mainGlobals mg) {x : Str} {C : Addr} (a : nsIn K mainGlobals x = some (some (.ref C)))
  (pg : PySem.W.plainGet K C Str.empty = true) (hd : PySem.W.hasDictIn K C = true) (po : plainOver K C = true) (sa : PySem.W.findIn K (.ref C) "__setattr__" = some (some (.builtin "object.__setattr__"))) (mk : PySem.W.makesIn K C = true) (kp : keepIn K (.ref C) = true)
  (c1 : PySem.W.findIn K (.ref C) "__class__" = some (some (.builtin "object.__class__"))) (c2 : specialIn K (.builtin "object.__class__") "__get__" = some (some (.builtin "getset_descriptor.__get__")))
  (c3 : takesIn K (.builtin "object.__class__") = some true) (c4 : PySem.W.mroIn K C (.type "object") = some true) : Kls K mg x C :=
 ⟨⟨pg, hd, po, sa⟩, mg_of KX G a, mk, kp, c1, c2, c3, c4⟩
end
section
variable {X : Cx} {K : PySem.W.Frag}
theorem call_isiK (hK : X.K = K := by rfl) : dq X (.builtin "isinstance") (fun xs H Q => ∃ x y c t b, xs = [x, y] /\ clsV y = some c /\ wM K H x t /\ kitOne K t c = some b /\ Q (.bl b) H) := by subst hK; exact call_isi
theorem pg_c {N' : List Str} {sc : Scope} {L : Addr} {cs : List (Str × Addr)} {s : Shared} {H : Hp} {fp : List Addr} {pos : Pos} {i : Nat} {x : Str} (hN : N'.Nodup) (hi : N'[i]? = some x) (hx : Loc (ba X N' sc L cs s H fp).env.scope x)
  (hf : (ba X N' sc L cs s H fp).fn x = true \/ (ba X N' sc L cs s H fp).env.scope.names.lookup x = some .local := by first | exact .inl rfl | exact .inr rfl | assumption) : PG (ba X N' sc L cs s H fp) (.Name x pos) (mP i) := uZ hN hi hx hf
end
structure Grid (H : Hp) (a : Addr) (as : List Addr) (rows : List (List Int)) : Prop where
 top : H a = some (.lst (as.map V.ref))
 len : as.length = rows.length
 row : ∀ (i : Nat) (b : Addr) (r : List Int), as[i]? = some b -> rows[i]? = some r -> H b = some (.lst (r.map V.int))
theorem aY.upd {H : Hp} {a : Addr} {o : HO} (h : H a = none) : aY H (upd H a o) := fun b u e => by rw [au (aN e h)]; exact e
end L2
namespace L2
open PySem PySem.Spec PyProof.Rows
section
variable {X : Cx} {CX : CXT} {k : Nat} {f C : Addr} {fd : FuncData} {ps : List Str} {sp : Sp} {dvs : List V} {ds : List Value} {E : XK} {x m : Str} {p pos apos : Pos} {e : Expr} {es : List Expr} {t : TA} {mc : Value}
structure Stat (K : PySem.W.Frag) (C : Addr) (mc : Value) (m : Str) (f : Addr) : Prop where
 s1 : specialIn K (.ref C) "__getattribute__" = some (some (.builtin "type.__getattribute__"))
 s2 : PySem.W.readsIn K C mc = true
 s3 : PySem.W.findCls K (.ref C) mc m = some (.val (.ref f))
 s4 : keepIn K (.ref f) = true
theorem pe_cmeth {pl : Sem Bool} (S : Stat X.K C mc m f) (hg : Gl X x) (hm : X.mg x = some (.ref C)) (F : cJ X.prog X.w X.K X.mg X.base CX k f fd ps sp) (hr : jJ k X.A) (hb : Binds X.K fd ps ds) (hd : Vals dvs ds) (hx : Passes CX X E) (ha : PA X (e :: es) t)
  (hdb : (x == ("__debug__" : Str)) = false := by decide)
  (hst : starEach (e :: es) X.env = (false, eval e X.env) :: starEach es X.env := by rfl) (hpl : (backTo pos (starEach es X.env)).any (·.1) = false := by rfl)
  (ht : eval (.Call (.Attribute (.Name x p) m apos) (e :: es) [] pos) X.env = (do
   let ov <- eval (.Name x p) X.env
   standAt apos.atName
   let (f, first) <- holding [ov] (getMethod ov m pl)
   callWith pos f first (backTo pos (starEach (e :: es) X.env)) (backToKw pos (keywordEach [] X.env))) := by rfl) :
  PE X (.Call (.Attribute (.Name x p) m apos) (e :: es) [] pos) (tCall sp dvs E t) := by
 show 'Պ'
 refine PySem.W.methodCall_KW (pl := pl) (gy I hg hm ?_ hdb) ht
 refine PySem.W.method_cls I.kIn S.s1 (PySem.W.cls_value I.kIn S.s2 S.s3 rfl ?_)
 refine callWith_K (first := []) (h₀ := X.base) I.ok.mod.kin S.s4 (thn (ha pos pins _ σ H _ (I.tok (s.toks + 1)) h) fun us s2 ⟨vs, H2, I2, r, q2⟩ => ⟨I2.kIn, ?_⟩) hst hpl
 exact yb (us := us) (vs := vs) F hr hb hd hx I2 r q2
end
noncomputable def Keeps (S : Addr -> Prop) (H H' : Hp) : Prop := ∀ b o, H b = some o -> ¬ S b -> H' b = some o
theorem Keeps.refl (S : Addr -> Prop) (H : Hp) : Keeps S H H := fun _ _ e _ => e
end L2
namespace L2
open PySem PySem.Spec PyProof.Rows
section
variable {X : Cx} {a b c d : Expr} {ta tb tc td : TE} {pos : Pos}
theorem aY.tup {K : PySem.W.Frag} {H H' : Hp} {a : Addr} {xs : List V} (e : aY H H') (h : SqT K H a xs) : SqT K H' a xs := by
 rcases h with (h | ⟨o, h⟩) | h
 ·exact .inl (.inl (e _ _ h))
 ·exact .inl (.inr ⟨o, e _ _ h⟩)
 ·exact .inr h
end
end L2
namespace L2
open PySem PySem.Spec PyProof.Rows
theorem rp {K : PySem.W.Frag} {a : Addr} {H : Hp} {xs : List V} (h : H a = some (.lst xs)) : tyV K "list" (.ref a) H := .inl ⟨rfl, _, SqL.of h⟩
inductive Dat where
 | non | bl (b : Bool) | int (i : Int) | str (x : Str) | tup (ds : List Dat) | lst (ds : List Dat) | ins (C : Addr) (fs : List (Str × Dat))
mutual
noncomputable def bT (K : PySem.W.Frag) (F : Hp) : Dat -> V -> Prop
 | .non, v => v = .non
 | .bl b, v => v = .bl b
 | .int i, v => v = .int i
 | .str x, v => v = .str x
 | .tup ds, v => ∃ a xs, v = .ref a /\ SqT K F a xs /\ aB K F ds xs
 | .lst ds, v => ∃ a xs, v = .ref a /\ SqL K F a xs /\ aB K F ds xs
 | .ins C gs, v => ∃ a dx fs, v = .ref a /\ F a = some (.ins C dx fs) /\ pK K F gs fs
noncomputable def aB (K : PySem.W.Frag) (F : Hp) : List Dat -> List V -> Prop
 | [], xs => xs = []
 | d :: ds, xs => ∃ v vs, xs = v :: vs /\ bT K F d v /\ aB K F ds vs
noncomputable def pK (K : PySem.W.Frag) (F : Hp) : List (Str × Dat) -> List (Str × V) -> Prop
 | [], fs => fs = []
 | (f, d) :: gs, fs => ∃ v r, fs = (f, v) :: r /\ bT K F d v /\ pK K F gs r
end
mutual
noncomputable def il : Dat -> Bool
 | .tup ds => p9 ds
 | .lst _ => false
 | .ins _ _ => false
 | _ => true
noncomputable def p9 : List Dat -> Bool
 | [] => true
 | d :: ds => il d && p9 ds
end
theorem aY.lst {K : PySem.W.Frag} {H H' : Hp} {a : Addr} {xs : List V} (e : aY H H') (h : SqL K H a xs) : SqL K H' a xs := by
 rcases h with (h | ⟨o, h⟩) | h
 ·exact .inl (.inl (e _ _ h))
 ·exact .inl (.inr ⟨o, e _ _ h⟩)
 ·exact .inr h
mutual
theorem bT.mono {K : PySem.W.Frag} {F F' : Hp} (s : aY F F') : ∀ {d : Dat} {v : V}, bT K F d v -> bT K F' d v
 | .non, _, h => h
 | .bl _, _, h => h
 | .int _, _, h => h
 | .str _, _, h => h
 | .tup _, _, ⟨a, xs, e, q, r⟩ => ⟨a, xs, e, s.tup q, aB.mono s r⟩
 | .lst _, _, ⟨a, xs, e, q, r⟩ => ⟨a, xs, e, s.lst q, aB.mono s r⟩
 | .ins _ _, _, ⟨a, dx, fs, e, q, r⟩ => ⟨a, dx, fs, e, s _ _ q, pK.mono s r⟩
theorem aB.mono {K : PySem.W.Frag} {F F' : Hp} (s : aY F F') : ∀ {ds : List Dat} {xs : List V}, aB K F ds xs -> aB K F' ds xs
 | [], _, h => h
 | _ :: _, _, ⟨v, vs, e, q, r⟩ => ⟨v, vs, e, bT.mono s q, aB.mono s r⟩
theorem pK.mono {K : PySem.W.Frag} {F F' : Hp} (s : aY F F') : ∀ {gs : List (Str × Dat)} {fs : List (Str × V)}, pK K F gs fs -> pK K F' gs fs
 | [], _, h => h
 | (_, _) :: _, _, ⟨v, r, e, q, t⟩ => ⟨v, r, e, bT.mono s q, pK.mono s t⟩
end
mutual
theorem bT.flat {K : PySem.W.Frag} {F F' : Hp} (s : ∀ a xs, SqT K F a xs -> SqT K F' a xs) : ∀ {d : Dat} {v : V}, il d = true -> bT K F d v -> bT K F' d v
 | .non, _, _, h => h
 | .bl _, _, _, h => h
 | .int _, _, _, h => h
 | .str _, _, _, h => h
 | .tup ds, _, f, ⟨a, xs, e, q, r⟩ => ⟨a, xs, e, s _ _ q, aB.flat s (by simpa [il] using f) r⟩
 | .lst _, _, f, _ => by simp [il] at f
 | .ins _ _, _, f, _ => by simp [il] at f
theorem aB.flat {K : PySem.W.Frag} {F F' : Hp} (s : ∀ a xs, SqT K F a xs -> SqT K F' a xs) : ∀ {ds : List Dat} {xs : List V}, p9 ds = true -> aB K F ds xs -> aB K F' ds xs
 | [], _, _, h => h
 | d :: ds, _, f, ⟨v, vs, e, q, r⟩ => by
  simp only [p9, Bool.and_eq_true] at f
  exact ⟨v, vs, e, bT.flat s f.1 q, aB.flat s f.2 r⟩
end
theorem aB.length {K : PySem.W.Frag} {F : Hp} : ∀ {ds : List Dat} {xs : List V}, aB K F ds xs -> xs.length = ds.length
 | [], _, h => by rw [show _ = [] from h]; rfl
 | _ :: _, _, ⟨_, _, e, _, r⟩ => by rw [e, List.length_cons, List.length_cons, aB.length r]
theorem aB.get {K : PySem.W.Frag} {F : Hp} : ∀ {ds : List Dat} {xs : List V} {i : Nat} {d : Dat}, aB K F ds xs -> ds[i]? = some d -> ∃ v, xs[i]? = some v /\ bT K F d v
 | [], _, _, _, _, e => by simp at e
 | _ :: _, _, 0, _, ⟨v, vs, e, q, _⟩, h => by
  simp only [List.getElem?_cons_zero, Option.some.injEq] at h
  subst h e
  exact ⟨v, rfl, q⟩
 | _ :: _, _, i + 1, _, ⟨v, vs, e, _, r⟩, h => by
  subst e
  simp only [List.getElem?_cons_succ] at h ⊢
  exact aB.get r h
theorem aB.at {K : PySem.W.Frag} {F : Hp} {ds : List Dat} {xs : List V} {i : Nat} {v : V} (r : aB K F ds xs) (h : xs[i]? = some v) : ∃ d, ds[i]? = some d /\ bT K F d v := by
 have hi : i < ds.length := by rw [<- r.length]; exact (List.getElem?_eq_some_iff.mp h).1
 obtain ⟨w, e, q⟩ := r.get (i := i) (d := ds[i]) (by simp [hi])
 rw [h] at e
 have e' := Option.some.inj e
 subst e'
 exact ⟨ds[i], by simp [hi], q⟩
theorem aB.cons {K : PySem.W.Frag} {F : Hp} {d : Dat} {v : V} {ds : List Dat} {xs : List V} (q : bT K F d v) (r : aB K F ds xs) : aB K F (d :: ds) (v :: xs) := ⟨v, xs, rfl, q, r⟩
theorem aB.append {K : PySem.W.Frag} {F : Hp} : ∀ {ds es : List Dat} {xs ys : List V}, aB K F ds xs -> aB K F es ys -> aB K F (ds ++ es) (xs ++ ys)
 | [], _, _, _, h, r => by rw [show _ = [] from h]; exact r
 | _ :: _, _, _, _, ⟨v, vs, e, q, t⟩, r => by subst e; exact ⟨v, _, rfl, q, aB.append t r⟩
theorem aB.take {K : PySem.W.Frag} {F : Hp} : ∀ {ds : List Dat} {xs : List V} (n : Nat), aB K F ds xs -> aB K F (ds.take n) (xs.take n)
 | _, _, 0, _ => rfl
 | [], _, _ + 1, h => by rw [show _ = [] from h]; rfl
 | _ :: _, _, n + 1, ⟨v, vs, e, q, r⟩ => by subst e; exact ⟨v, _, rfl, q, aB.take n r⟩
theorem aB.drop {K : PySem.W.Frag} {F : Hp} : ∀ {ds : List Dat} {xs : List V} (n : Nat), aB K F ds xs -> aB K F (ds.drop n) (xs.drop n)
 | _, _, 0, h => h
 | [], _, _ + 1, h => by rw [show _ = [] from h]; rfl
 | _ :: _, _, n + 1, ⟨v, vs, e, q, r⟩ => by subst e; exact aB.drop n r
theorem aB.set {K : PySem.W.Frag} {F : Hp} {d : Dat} {v : V} (q : bT K F d v) : ∀ {ds : List Dat} {xs : List V} (n : Nat), aB K F ds xs -> aB K F (ds.set n d) (xs.set n v)
 | [], _, _, h => by rw [show _ = [] from h]; rfl
 | _ :: _, _, 0, ⟨w, vs, e, _, r⟩ => by subst e; exact ⟨v, _, rfl, q, r⟩
 | _ :: _, _, n + 1, ⟨w, vs, e, p, r⟩ => by subst e; exact ⟨w, _, rfl, p, aB.set q n r⟩
theorem aB.eraseIdx {K : PySem.W.Frag} {F : Hp} : ∀ {ds : List Dat} {xs : List V} (n : Nat), aB K F ds xs -> aB K F (ds.eraseIdx n) (xs.eraseIdx n)
 | [], _, _, h => by rw [show _ = [] from h]; rfl
 | _ :: _, _, 0, ⟨w, vs, e, _, r⟩ => by subst e; exact r
 | _ :: _, _, n + 1, ⟨w, vs, e, p, r⟩ => by subst e; exact ⟨w, _, rfl, p, aB.eraseIdx n r⟩
theorem aB.reverse {K : PySem.W.Frag} {F : Hp} : ∀ {ds : List Dat} {xs : List V}, aB K F ds xs -> aB K F ds.reverse xs.reverse
 | [], _, h => by rw [show _ = [] from h]; rfl
 | _ :: _, _, ⟨w, vs, e, p, r⟩ => by
  subst e
  rw [List.reverse_cons, List.reverse_cons]
  exact aB.append (aB.reverse r) ⟨w, [], rfl, p, rfl⟩
theorem aB.of_get {K : PySem.W.Frag} {F : Hp} : ∀ {ds : List Dat} {xs : List V}, xs.length = ds.length -> (∀ (i : Nat) d v, ds[i]? = some d -> xs[i]? = some v -> bT K F d v) -> aB K F ds xs
 | [], [], _, _ => rfl
 | [], _ :: _, h, _ => by simp at h
 | _ :: _, [], h, _ => by simp at h
 | d :: ds, v :: vs, h, q => ⟨v, vs, rfl, q 0 d v rfl rfl, aB.of_get (by simpa using h) fun i e w h1 h2 => q (i + 1) e w (by simpa using h1) (by simpa using h2)⟩
structure Step (F H F' H' : Hp) : Prop where
 ff : aY F F'
 hh : aY H H'
 fh : aY F' H'
 nw : ∀ b o, F' b = some o -> F b = some o \/ H b = none
theorem Step.refl {F H : Hp} (s : aY F H) : Step F H F H := ⟨aY.refl _, aY.refl _, s, fun _ _ h => .inl h⟩
theorem Step.trans {F H F1 H1 F2 H2 : Hp} (a : Step F H F1 H1) (b : Step F1 H1 F2 H2) : Step F H F2 H2 :=
 ⟨a.ff.trans b.ff, a.hh.trans b.hh, b.fh, fun x o h => (b.nw x o h).elim (fun z => a.nw x o z) fun z => .inr (a.hh.free z)⟩
theorem Step.lay {F H : Hp} {p : Addr} {o : HO} (s : aY F H) (hp : H p = none) : Step F H (upd F p o) (upd H p o) :=
 ⟨aY.upd (s.free hp), aY.upd hp, fun b u h => by
  by_cases e : b = p
  ·subst e; rw [av] at h ⊢; exact h
  ·rw [au e] at h ⊢; exact s b u h, fun b u h => by
  by_cases e : b = p
  ·subst e; exact .inr hp
  ·rw [au e] at h; exact .inl h⟩
theorem Step.grow {F H : Hp} {p : Addr} {o : HO} (s : aY F H) (hp : H p = none) : Step F H F (upd H p o) :=
 ⟨aY.refl _, aY.upd hp, s.trans (aY.upd hp), fun _ _ h => .inl h⟩
noncomputable def zY (K : PySem.W.Frag) (F H0 H : Hp) : Dat -> V -> Prop
 | .lst ds, v => ∃ a xs, v = .ref a /\ H a = some (.lst xs) /\ F a = none /\ H0 a = none /\ aB K F ds xs
 | d, v => bT K F d v
noncomputable def Val (K : PySem.W.Frag) (own : Bool) (F H0 H : Hp) (d : Dat) (v : V) : Prop := if own = true then zY K F H0 H d v else bT K F d v
theorem zY.back {K : PySem.W.Frag} {F H0 H1 H : Hp} {d : Dat} {v : V} (s : aY H0 H1) (h : zY K F H1 H d v) : zY K F H0 H d v := by
 cases d with
 | lst ds => obtain ⟨a, xs, e, p, q, z, r⟩ := h; exact ⟨a, xs, e, p, q, s.free z, r⟩
 | _ => exact h
theorem Val.back {K : PySem.W.Frag} {own : Bool} {F H0 H1 H : Hp} {d : Dat} {v : V} (s : aY H0 H1) (h : Val K own F H1 H d v) : Val K own F H0 H d v := by
 cases own with
 | true => exact zY.back s h
 | false => exact h
theorem zY.freeze {K : PySem.W.Frag} {F H0 H : Hp} {d : Dat} {v : V} (s : aY F H) (h : zY K F H0 H d v) : ∃ F', aY F F' /\ aY F' H /\ (∀ b o, F' b = some o -> F b = some o \/ H0 b = none) /\ bT K F' d v := by
 cases d with
 | lst ds =>
  obtain ⟨a, xs, e, p, q, z, r⟩ := h
  refine ⟨upd F a (.lst xs), aY.upd q, fun b o h => ?_, fun b o h => ?_, a, xs, e, SqL.of av, r.mono (aY.upd q)⟩
  ·by_cases e : b = a
   ·subst e; rw [av] at h; rw [p, <- h]
   ·rw [au e] at h; exact s b o h
  ·by_cases e : b = a
   ·subst e; exact .inr z
   ·rw [au e] at h; exact .inl h
 | _ => exact ⟨F, aY.refl _, s, fun _ _ z => .inl z, h⟩
inductive Err where
 | stuck | exc (C : Addr) (fs : List (Str × Dat))
noncomputable abbrev M := Except Err
noncomputable abbrev ao := List (Option Dat)
structure gF where
 p : Err -> Hp -> Hp -> Prop
 mono : ∀ {e : Err} {F H F' H' : Hp}, p e F H -> Step F H F' H' -> p e F' H'
 ns : ∀ {F H : Hp}, p .stuck F H -> False
noncomputable def Wno : gF := ⟨fun _ _ _ => False, fun h _ => h, fun h => h⟩
noncomputable def aI (K : PySem.W.Frag) (W : gF) (own : Bool) (F H : Hp) (r : M Dat) (Q : VK) : Prop := match r with
 | .ok d => ∀ v F' H', Step F H F' H' -> Val K own F' H H' d v -> Q v H'
 | .error e => W.p e F H
theorem aI.step {K : PySem.W.Frag} {W : gF} {own : Bool} {F H F1 H1 : Hp} {r : M Dat} {Q : VK} (p : aI K W own F H r Q) (s : Step F H F1 H1) : aI K W own F1 H1 r Q := by
 cases r with
 | ok d => exact fun v F' H' t q => p v F' H' (s.trans t) (q.back s.hh)
 | error e => exact W.mono p s
theorem aI.frz {K : PySem.W.Frag} {W : gF} {F H : Hp} {r : M Dat} {Q : VK} (p : aI K W false F H r Q) : aI K W true F H r Q := by
 cases r with
 | ok d =>
  intro v F' H' t q
  obtain ⟨F2, s1, s2, n, z⟩ := zY.freeze t.fh q
  exact p v F2 H' ⟨t.ff.trans s1, t.hh, s2, fun b o h => (n b o h).elim (fun z => t.nw b o z) .inr⟩ z
 | error e => exact p
structure o8 (K : PySem.W.Frag) (F : Hp) (σ : St) (ρ : ao) : Prop where
 len : ρ.length = σ.length
 sl : ∀ (i : Nat) (d : Dat), ρ[i]? = some (some d) -> ∃ v, σ[i]? = some (some v) /\ bT K F d v
theorem o8.mono {K : PySem.W.Frag} {F F' : Hp} {σ : St} {ρ : ao} (r : o8 K F σ ρ) (s : aY F F') : o8 K F' σ ρ :=
 ⟨r.len, fun i d e => let ⟨v, h, q⟩ := r.sl i d e; ⟨v, h, q.mono s⟩⟩
theorem o8.set {K : PySem.W.Frag} {F : Hp} {σ : St} {ρ : ao} {d : Dat} {v : V} (r : o8 K F σ ρ) (q : bT K F d v) (i : Nat) : o8 K F (σ.set i (some v)) (ρ.set i (some d)) :=
 ⟨by rw [List.length_set, List.length_set, r.len], fun j e h => by
  by_cases hij : i = j
  ·subst hij
   have hi : i < ρ.length := by
    have := (List.getElem?_eq_some_iff.mp h).1
    simpa using this
   show 'Ց'
  ·rw [List.getElem?_set_ne hij] at h
   obtain ⟨w, h1, h2⟩ := r.sl j e h
   exact ⟨w, by rw [List.getElem?_set_ne hij]; exact h1, h2⟩⟩
noncomputable def tD (K : PySem.W.Frag) (W : gF) (own : Bool) (f : ao -> M Dat) : TE := fun σ H Q => ∃ F ρ, o8 K F σ ρ /\ aY F H /\ aI K W own F H (f ρ) Q
theorem bC {K : PySem.W.Frag} {W : gF} {own : Bool} {f : ao -> M Dat} {σ : St} {ρ : ao} {F H : Hp} {R : VK} (r : o8 K F σ ρ) (s : aY F H) (hE : ∀ e, f ρ = .error e -> W.p e F H)
  (hO : ∀ d, f ρ = .ok d -> ∀ v F1 H1, Step F H F1 H1 -> Val K own F1 H H1 d v -> R v H1) : tD K W own f σ H R := by
 show 'ց'
 cases e : f ρ with
 | ok d => exact hO d e
 | error x => exact hE x e
noncomputable def tDT (K : PySem.W.Frag) (W : gF) (f : ao -> M Bool) : TT := fun σ H Q => ∃ F ρ, o8 K F σ ρ /\ aY F H /\ (match f ρ with
 | .ok b => ∀ F' H', Step F H F' H' -> Q b H'
 | .error e => W.p e F H)
theorem lZ {K : PySem.W.Frag} {W : gF} {f : ao -> M Bool} {σ : St} {ρ : ao} {F H : Hp} {R : Bool -> Hp -> Prop} (r : o8 K F σ ρ) (s : aY F H) (hE : ∀ e, f ρ = .error e -> W.p e F H)
  (hO : ∀ b, f ρ = .ok b -> ∀ F1 H1, Step F H F1 H1 -> R b H1) : tDT K W f σ H R := by
 show 'ց'
 cases e : f ρ with
 | ok d => exact hO d e
 | error x => exact hE x e
noncomputable def tDA (K : PySem.W.Frag) (W : gF) (f : ao -> M (List Dat)) : TA := fun σ H Q => ∃ F ρ, o8 K F σ ρ /\ aY F H /\ (match f ρ with
 | .ok ds => ∀ vs F' H', Step F H F' H' -> aB K F' ds vs -> Q vs H'
 | .error e => W.p e F H)
theorem nr {K : PySem.W.Frag} {W : gF} {f : ao -> M (List Dat)} {σ : St} {ρ : ao} {F H : Hp} {R : List V -> Hp -> Prop} (r : o8 K F σ ρ) (s : aY F H) (hE : ∀ e, f ρ = .error e -> W.p e F H)
  (hO : ∀ ds, f ρ = .ok ds -> ∀ vs F1 H1, Step F H F1 H1 -> aB K F1 ds vs -> R vs H1) : tDA K W f σ H R := by
 show 'ց'
 cases e : f ρ with
 | ok d => exact hO d e
 | error x => exact hE x e
noncomputable def ah (i : Nat) : ao -> M Dat := fun ρ => match ρ[i]? with
 | some (some d) => .ok d
 | _ => .error .stuck
noncomputable def fC (d : Dat) : ao -> M Dat := fun _ => .ok d
noncomputable def f1 (g : Dat -> M Dat) (fa : ao -> M Dat) : ao -> M Dat := fun ρ => (fa ρ).bind g
noncomputable def f2 (g : Dat -> Dat -> M Dat) (fa fb : ao -> M Dat) : ao -> M Dat := fun ρ => (fa ρ).bind fun a => (fb ρ).bind fun b => g a b
noncomputable def aJ : ao -> M (List Dat) := fun _ => .ok []
noncomputable def aa (fa : ao -> M Dat) (fr : ao -> M (List Dat)) : ao -> M (List Dat) := fun ρ => (fa ρ).bind fun a => (fr ρ).bind fun r => .ok (a :: r)
noncomputable def fL (g : List Dat -> M Dat) (fr : ao -> M (List Dat)) : ao -> M Dat := fun ρ => (fr ρ).bind g
noncomputable def jq (ds : List Dat) : M Dat := if ds.length <= sizeLine then .ok (.tup ds) else .error .stuck
noncomputable def jr (ds : List Dat) : M Dat := if ds.length <= sizeLine then .ok (.lst ds) else .error .stuck
noncomputable def fIte (ft : ao -> M Bool) (fa fb : ao -> M Dat) : ao -> M Dat := fun ρ => (ft ρ).bind fun b => if b = true then fa ρ else fb ρ
noncomputable def fAnd (ft fu : ao -> M Bool) : ao -> M Bool := fun ρ => (ft ρ).bind fun b => if b = true then fu ρ else .ok false
noncomputable def fOr (ft fu : ao -> M Bool) : ao -> M Bool := fun ρ => (ft ρ).bind fun b => if b = true then .ok true else fu ρ
noncomputable def xA (ft : ao -> M Bool) : ao -> M Bool := fun ρ => (ft ρ).bind fun b => .ok (!b)
noncomputable def asB : Dat -> M Bool
 | .bl b => .ok b
 | _ => .error .stuck
noncomputable def fB (fa : ao -> M Dat) : ao -> M Bool := fun ρ => (fa ρ).bind asB
noncomputable def sd (fa fb : ao -> M Dat) : ao -> M Dat := fun ρ => (fa ρ).bind fun a => (asB a).bind fun b => if b = true then fb ρ else .ok (.bl false)
noncomputable def notD : Dat -> M Dat
 | .bl b => .ok (.bl (!b))
 | _ => .error .stuck
noncomputable def truD : Dat -> M Bool
 | .non => .ok false
 | .bl b => .ok b
 | .int i => .ok (i != 0)
 | .str x => if x.length <= sizeLine then .ok ((x.length : Int) != 0) else .error .stuck
 | .tup ds => .ok (!ds.isEmpty)
 | .lst ds => .ok (!ds.isEmpty)
 | _ => .error .stuck
noncomputable def sQ (fa : ao -> M Dat) : ao -> M Bool := fun ρ => (fa ρ).bind truD
noncomputable def jB (g g' : Dat -> Dat -> M Dat) (fa fb fc : ao -> M Dat) : ao -> M Dat := fun ρ => (fa ρ).bind fun a => (fb ρ).bind fun b => (g a b).bind fun x => (asB x).bind fun k => if k = true then (fc ρ).bind fun c => g' b c else .ok (.bl false)
noncomputable def rD2 (K : PySem.W.Frag) (W : gF) (own : Bool) (g : Dat -> Dat -> M Dat) : R2 := fun x y H Q => ∃ F a b, aY F H /\ bT K F a x /\ bT K F b y /\ aI K W own F H (g a b) Q
noncomputable def rD1 (K : PySem.W.Frag) (W : gF) (own : Bool) (g : Dat -> M Dat) : V -> Hp -> VK -> Prop := fun x H Q => ∃ F a, aY F H /\ bT K F a x /\ aI K W own F H (g a) Q
noncomputable def rDL (K : PySem.W.Frag) (W : gF) (own : Bool) (g : List Dat -> M Dat) : List V -> Hp -> VK -> Prop := fun xs H Q => ∃ F ds, aY F H /\ aB K F ds xs /\ aI K W own F H (g ds) Q
section
variable {K : PySem.W.Frag} {W : gF} {own : Bool} {σ : St} {H : Hp} {Q : VK} {fa fb fc : ao -> M Dat}
theorem rd_var {i : Nat} (h : tD K W false (ah i) σ H Q) : tVar i σ H Q := by
 show 'Ի'
 unfold ah at p
 match e : ρ[i]? with
 | some (some d) =>
  rw [e] at p
  obtain ⟨v, e1, q⟩ := r.sl i d e
  exact ⟨v, e1, p v F H (Step.refl s) q⟩
 | some none => rw [e] at p; exact (W.ns p).elim
 | none => rw [e] at p; exact (W.ns p).elim
theorem rd_c {d : Dat} {v : V} (hd : ∀ F, bT K F d v) (h : tD K W false (fC d) σ H Q) : tC v σ H Q := by
 show 'Ի'
 exact p v F H (Step.refl s) (hd F)
theorem aI.err {F : Hp} {x : M Dat} {e : Err} (p : aI K W own F H x Q) (h : x = .error e) : W.p e F H := by rw [h] at p; exact p
theorem rd_1 {g : Dat -> M Dat} (h : tD K W own (f1 g fa) σ H Q) : tUn (rD1 K W own g) (tD K W false fa) σ H Q := by
 show 'Ի'
 show 'դ'
 refine ⟨F1, a, s1.fh, q1, ?_⟩
 have e : f1 g fa ρ = g a := by unfold f1; rw [ha]; rfl
 rw [e] at p
 exact p.step s1
theorem rd_2 {g : Dat -> Dat -> M Dat} (h : tD K W own (f2 g fa fb) σ H Q) : tOp (rD2 K W own g) (tD K W false fa) (tD K W false fb) σ H Q := by
 show 'Ի'
 refine bC r s (fun e he => p.err (by unfold f2; rw [he]; rfl)) fun a ha x F1 H1 s1 q1 => ?_
 refine bC (r.mono s1.ff) s1.fh (fun e he => (p.step s1).err (by unfold f2; rw [ha]; show (fb ρ).bind _ = _; rw [he]; rfl)) fun b hb y F2 H2 s2 q2 => ?_
 refine ⟨F2, a, b, s2.fh, bT.mono s2.ff q1, q2, ?_⟩
 have e : f2 g fa fb ρ = g a b := by unfold f2; rw [ha]; show (fb ρ).bind _ = _; rw [hb]; rfl
 rw [e] at p
 exact p.step (s1.trans s2)
theorem rd_nil {R : List V -> Hp -> Prop} (h : tDA K W aJ σ H R) : tNil σ H R := by
 show 'Ի'
 exact p [] F H (Step.refl s) rfl
theorem rd_cons {fr : ao -> M (List Dat)} {R : List V -> Hp -> Prop} (h : tDA K W (aa fa fr) σ H R) : t5 (tD K W false fa) (tDA K W fr) σ H R := by
 show 'Ի'
 refine bC r s (fun e he => ?_) fun a ha x F1 H1 s1 q1 => nr (r.mono s1.ff) s1.fh (fun e he => ?_) fun ds hd xs F2 H2 s2 q2 => ?_
 ·have z : aa fa fr ρ = .error e := by unfold aa; rw [he]; rfl
  rw [z] at p
  exact p
 ·have z : aa fa fr ρ = .error e := by unfold aa; rw [ha]; show (fr ρ).bind _ = _; rw [he]; rfl
  rw [z] at p
  exact W.mono p s1
 ·have z : aa fa fr ρ = .ok (a :: ds) := by unfold aa; rw [ha]; show (fr ρ).bind _ = _; rw [hd]; rfl
  rw [z] at p
  exact p (x :: xs) F2 H2 (s1.trans s2) ⟨x, xs, rfl, bT.mono s2.ff q1, q2⟩
theorem rd_L {g : List Dat -> M Dat} {fr : ao -> M (List Dat)} (h : tD K W own (fL g fr) σ H Q) : tDA K W fr σ H fun xs H1 => rDL K W own g xs H1 Q := by
 show 'Ի'
 refine nr r s (fun e he => p.err (by unfold fL; rw [he]; rfl)) fun ds hd xs F1 H1 s1 q1 => ⟨F1, ds, s1.fh, q1, ?_⟩
 have e : fL g fr ρ = g ds := by unfold fL; rw [hd]; rfl
 rw [e] at p
 exact p.step s1
theorem rd_tup {fr : ao -> M (List Dat)} (h : tD K W own (fL jq fr) σ H Q) : tTup (tDA K W fr) σ H Q := by
 show 'Հ'
 cases e : fr ρ with
 | error x => rw [e] at p; exact p
 | ok ds =>
  rw [e] at p
  intro vs F' H' t q
  obtain ⟨F1, es, s1, q1, z⟩ := p vs F' H' t q
  unfold jq at z
  by_cases hl : es.length <= sizeLine
  ·rw [if_pos hl] at z
   refine ⟨by rw [q1.length]; exact hl, fun a ha => z (.ref a) _ _ (Step.lay s1 ha) ?_⟩
   have : bT K (upd F1 a (.tup vs)) (.tup es) (.ref a) := ⟨a, vs, rfl, SqT.of av, q1.mono (aY.upd (s1.free ha))⟩
   cases own with
   | true => exact this
   | false => exact this
  ·rw [if_neg hl] at z
   exact (W.ns z).elim
theorem rd_lst {fr : ao -> M (List Dat)} (h : tD K W true (fL jr fr) σ H Q) : tLst (tDA K W fr) σ H Q := by
 show 'Հ'
 cases e : fr ρ with
 | error x => rw [e] at p; exact p
 | ok ds =>
  rw [e] at p
  intro vs F' H' t q
  obtain ⟨F1, es, s1, q1, z⟩ := p vs F' H' t q
  unfold jr at z
  by_cases hl : es.length <= sizeLine
  ·rw [if_pos hl] at z
   exact ⟨by rw [q1.length]; exact hl, fun a ha => z (.ref a) F1 _ (Step.grow s1 ha) ⟨a, vs, rfl, av, s1.free ha, ha, q1⟩⟩
  ·rw [if_neg hl] at z
   exact (W.ns z).elim
theorem rd_ite {ft : ao -> M Bool} (h : tD K W own (fIte ft fa fb) σ H Q) : tIf (tDT K W ft) (tD K W own fa) (tD K W own fb) σ H Q := by
 show 'Ի'
 refine lZ r s (fun e he => p.err (by unfold fIte; rw [he]; rfl)) fun b hb F1 H1 s1 => ?_
 have e : fIte ft fa fb ρ = if b = true then fa ρ else fb ρ := by unfold fIte; rw [hb]; rfl
 rw [e] at p
 cases b with
 | true => exact ⟨F1, ρ, r.mono s1.ff, s1.fh, p.step s1⟩
 | false => exact ⟨F1, ρ, r.mono s1.ff, s1.fh, p.step s1⟩
theorem vR {f : ao -> M Bool} {F F1 H1 : Hp} {ρ : ao} {R : Bool -> Hp -> Prop} (r : o8 K F σ ρ) (s1 : Step F H F1 H1) (p : match f ρ with
 | .ok b => ∀ F' H', Step F H F' H' -> R b H'
 | .error e => W.p e F H) : tDT K W f σ H1 R := by
 refine ⟨F1, ρ, r.mono s1.ff, s1.fh, ?_⟩
 cases e : f ρ with
 | ok b => rw [e] at p; exact fun F' H' t => p F' H' (s1.trans t)
 | error x => rw [e] at p; exact W.mono p s1
theorem rd_and {ft fu : ao -> M Bool} {R : Bool -> Hp -> Prop} (h : tDT K W (fAnd ft fu) σ H R) : tAnd (tDT K W ft) (tDT K W fu) σ H R := by
 show 'Ի'
 show 'օ'
 ·have z : fAnd ft fu ρ = .error e := by unfold fAnd; rw [he]; rfl
  rw [z] at p; exact p
 ·have z : fAnd ft fu ρ = if b = true then fu ρ else .ok false := by unfold fAnd; rw [hb]; rfl
  rw [z] at p
  cases b with
  | true => exact vR r s1 p
  | false => exact p F1 H1 s1
theorem rd_or {ft fu : ao -> M Bool} {R : Bool -> Hp -> Prop} (h : tDT K W (fOr ft fu) σ H R) : tOr (tDT K W ft) (tDT K W fu) σ H R := by
 show 'Ի'
 show 'օ'
 ·have z : fOr ft fu ρ = .error e := by unfold fOr; rw [he]; rfl
  rw [z] at p; exact p
 ·have z : fOr ft fu ρ = if b = true then .ok true else fu ρ := by unfold fOr; rw [hb]; rfl
  rw [z] at p
  cases b with
  | false => exact vR r s1 p
  | true => exact p F1 H1 s1
theorem rd_not {ft : ao -> M Bool} {R : Bool -> Hp -> Prop} (h : tDT K W (xA ft) σ H R) : tNot (tDT K W ft) σ H R := by
 show 'Ի'
 show 'օ'
 ·have z : xA ft ρ = .error e := by unfold xA; rw [he]; rfl
  rw [z] at p; exact p
 ·have z : xA ft ρ = .ok (!b) := by unfold xA; rw [hb]; rfl
  rw [z] at p; exact p F1 H1 s1
theorem rd_B {R : Bool -> Hp -> Prop} (h : tDT K W (fB fa) σ H R) : tTest (tD K W false fa) σ H R := by
 show 'Ի'
 show 'ր'
 ·have z : fB fa ρ = .error e := by unfold fB; rw [he]; rfl
  rw [z] at p; exact p
 ·have z : fB fa ρ = asB a := by unfold fB; rw [ha]; rfl
  rw [z] at p
  cases a with
  | bl b => exact ⟨b, q1, p F1 H1 s1⟩
  | _ => exact (W.ns p).elim
theorem tru_of {F H1 : Hp} {a : Dat} {x : V} {b : Bool} (s : aY F H1) (q : bT K F a x) (h : truD a = .ok b) : TruV K x H1 b := by
 cases a with
 | non => rw [show x = .non from q]; exact (Except.ok.inj h).symm
 | bl c => rw [show x = .bl c from q]; exact (Except.ok.inj h).symm
 | int i => rw [show x = .int i from q]; exact (Except.ok.inj h).symm
 | str y =>
  rw [show x = .str y from q]
  have h' : (if y.length <= sizeLine then Except.ok ((y.length : Int) != 0) else Except.error Err.stuck) = Except.ok b := h
  by_cases hy : y.length <= sizeLine
  ·rw [if_pos hy] at h'
   exact ⟨hy, (Except.ok.inj h').symm⟩
  ·rw [if_neg hy] at h'
   cases h'
 | tup ds =>
  obtain ⟨p, xs, e, t, r⟩ := q
  subst e
  refine .inr (.inl ⟨xs, s.tup t, ?_⟩)
  rw [<- Except.ok.inj h]
  cases ds with
  | nil => rw [show xs = [] from r]; rfl
  | cons d ds => obtain ⟨v, vs, e, _⟩ := r; rw [e]; rfl
 | lst ds =>
  obtain ⟨p, xs, e, t, r⟩ := q
  subst e
  refine .inl ⟨xs, s.lst t, ?_⟩
  rw [<- Except.ok.inj h]
  cases ds with
  | nil => rw [show xs = [] from r]; rfl
  | cons d ds => obtain ⟨v, vs, e, _⟩ := r; rw [e]; rfl
 | ins C fs => cases h
theorem rd_tru {R : Bool -> Hp -> Prop} (h : tDT K W (sQ fa) σ H R) : tD K W false fa σ H fun x H1 => ∃ k, TruV K x H1 k /\ R k H1 := by
 show 'Ի'
 show 'ր'
 ·have z : sQ fa ρ = .error e := by unfold sQ; rw [he]; rfl
  rw [z] at p; exact p
 ·have z : sQ fa ρ = truD a := by unfold sQ; rw [ha]; rfl
  rw [z] at p
  cases e : truD a with
  | ok b => rw [e] at p; exact ⟨b, tru_of s1.fh q1 e, p F1 H1 s1⟩
  | error x =>
   rw [e] at p
   have : x = .stuck := by
    cases a with
    | str y =>
     have e' : (if y.length <= sizeLine then Except.ok ((y.length : Int) != 0) else Except.error Err.stuck) = Except.error x := e
     by_cases hy : y.length <= sizeLine
     ·rw [if_pos hy] at e'
      cases e'
     ·rw [if_neg hy] at e'
      cases e'
      rfl
    | ins C fs => cases e; rfl
    | _ => cases e
   subst this
   exact (W.ns p).elim
theorem rd_andV (h : tD K W false (sd fa fb) σ H Q) : tAndV (tD K W false fa) (tD K W false fb) σ H Q := by
 show 'Ի'
 refine bC r s (fun e he => p.err (by unfold sd; rw [he]; rfl)) fun a ha x F1 H1 s1 q1 => ?_
 have z : sd fa fb ρ = (asB a).bind fun b => if b = true then fb ρ else .ok (.bl false) := by unfold sd; rw [ha]; rfl
 rw [z] at p
 cases a with
 | bl b =>
  refine ⟨b, q1, ?_⟩
  cases b with
  | true => exact ⟨F1, ρ, r.mono s1.ff, s1.fh, aI.step (own := false) (r := fb ρ) p s1⟩
  | false => exact p (.bl false) F1 H1 s1 rfl
 | _ => exact (W.ns p).elim
theorem rd_notV (h : tD K W false (f1 notD fa) σ H Q) : tNotV (tD K W false fa) σ H Q := by
 show 'Ի'
 show 'դ'
 have z : f1 notD fa ρ = notD a := by unfold f1; rw [ha]; rfl
 rw [z] at p
 cases a with
 | bl b => exact ⟨b, q1, p (.bl (!b)) F1 H1 s1 rfl⟩
 | _ => exact (W.ns p).elim
theorem vU {g g' : Dat -> Dat -> M Dat} (h : tD K W false (jB g g' fa fb fc) σ H Q) : xX (rD2 K W false g) (rD2 K W false g') (tD K W false fa) (tD K W false fb) (tD K W false fc) σ H Q := by
 show 'Ի'
 refine bC r s (fun e he => p.err (by unfold jB; rw [he]; rfl)) fun a ha x F1 H1 s1 q1 => ?_
 refine bC (r.mono s1.ff) s1.fh (fun e he => (p.step s1).err (by unfold jB; rw [ha]; show (fb ρ).bind _ = _; rw [he]; rfl)) fun b hb y F2 H2 s2 q2 => ?_
 have z : jB g g' fa fb fc ρ = (g a b).bind fun x => (asB x).bind fun k => if k = true then (fc ρ).bind fun c => g' b c else .ok (.bl false) := by unfold jB; rw [ha]; show (fb ρ).bind _ = _; rw [hb]; rfl
 rw [z] at p
 refine ⟨F2, a, b, s2.fh, bT.mono s2.ff q1, q2, ?_⟩
 have p2 := p.step (s1.trans s2)
 cases e : g a b with
 | error x => rw [e] at p2; exact p2
 | ok d =>
  rw [e] at p2
  intro v F3 H3 s3 q3
  have p3 : aI K W false F3 H3 ((asB d).bind fun k => if k = true then (fc ρ).bind fun c => g' b c else .ok (.bl false)) Q := aI.step p2 s3
  cases d with
  | bl k =>
   refine ⟨k, q3, ?_⟩
   cases k with
   | false => exact p3 (.bl false) F3 H3 (Step.refl s3.fh) rfl
   | true =>
    have p4 : aI K W false F3 H3 ((fc ρ).bind fun c => g' b c) Q := p3
    refine bC (r.mono (s1.trans (s2.trans s3)).ff) s3.fh (fun e he => p4.err (by rw [he]; rfl)) fun c hc w F4 H4 s4 q4 => ⟨F4, b, c, s4.fh, bT.mono (s3.trans s4).ff q2, q4, ?_⟩
    rw [hc] at p4
    exact p4.step s4
  | _ => exact (W.ns p3).elim
end
inductive Pat where
 | nm (i : Nat) | tp (is : List Nat)
noncomputable def kT : List Nat -> List Dat -> ao -> ao
 | i :: is, d :: ds, ρ => kT is ds (ρ.set i (some d))
 | _, _, ρ => ρ
noncomputable def fj : Pat -> Dat -> ao -> M ao
 | .nm i, d, ρ => .ok (ρ.set i (some d))
 | .tp is, .tup ds, ρ => if ds.length = is.length then .ok (kT is ds ρ) else .error .stuck
 | .tp _, _, _ => .error .stuck
noncomputable def iF : List Nat -> TGs
 | [] => gNil
 | i :: is => gCons (mP i) (iF is)
noncomputable def gP (K : PySem.W.Frag) : Pat -> TG
 | .nm i => mP i
 | .tp is => gTup K is.length (iF is)
theorem qF {K : PySem.W.Frag} {F H : Hp} {R : St -> Hp -> Prop} : ∀ {is : List Nat} {ds : List Dat} {vs : List V} {σ : St} {ρ : ao}, o8 K F σ ρ -> aB K F ds vs -> ds.length = is.length -> (∀ σ', o8 K F σ' (kT is ds ρ) -> R σ' H) -> iF is vs σ H R
 | [], [], _, σ, ρ, r, q, _, h => ⟨q, h σ r⟩
 | [], _ :: _, _, _, _, _, _, e, _ => by simp at e
 | _ :: _, [], _, _, _, _, _, e, _ => by simp at e
 | i :: is, d :: ds, _, σ, ρ, r, ⟨v, vs, e, q, t⟩, l, h => ⟨v, vs, e, qF (r.set q i) t (by simpa using l) h⟩
theorem gP_run {K : PySem.W.Frag} {F H : Hp} {R : St -> Hp -> Prop} {p : Pat} {d : Dat} {v : V} {σ : St} {ρ ρ' : ao} (r : o8 K F σ ρ) (s : aY F H) (q : bT K F d v) (e : fj p d ρ = .ok ρ') (h : ∀ σ', o8 K F σ' ρ' -> R σ' H) : gP K p v σ H R := by
 cases p with
 | nm i =>
  have := Except.ok.inj e
  subst this
  exact h _ (r.set q i)
 | tp is =>
  cases d with
  | tup ds =>
   show 'ս'
   by_cases hl : ds.length = is.length
   ·rw [if_pos hl] at e'
    have := Except.ok.inj e'
    subst this
    obtain ⟨a, xs, ev, t, z⟩ := q
    exact ⟨a, xs, ev, s.tup t, by rw [z.length, hl], qF r z hl h⟩
   ·rw [if_neg hl] at e'
    cases e'
  | _ => cases e
theorem mV {p : Pat} {d : Dat} {ρ : ao} {e : Err} (h : fj p d ρ = .error e) : e = .stuck := by
 cases p with
 | nm i => cases h
 | tp is =>
  cases d with
  | tup ds =>
   have e' : (if ds.length = is.length then Except.ok (kT is ds ρ) else Except.error Err.stuck) = Except.error e := h
   by_cases hl : ds.length = is.length
   ·rw [if_pos hl] at e'; cases e'
   ·rw [if_neg hl] at e'; cases e'; rfl
  | _ => cases h; rfl
structure vL (K : PySem.W.Frag) (F1 : Hp) (J : It) (ds : List Dat) : Prop where
 go : ∀ (i : Nat) (F H : Hp), aY F1 F -> aY F H -> i < ds.length -> J.go i H
 yl : ∀ (i : Nat) (F H : Hp) (x : V) (H' : Hp) (d : Dat), aY F1 F -> aY F H -> ds[i]? = some d -> J.yld i H x H' -> ∃ F', Step F H F' H' /\ bT K F' d x
 st : ∀ (F H : Hp), aY F1 F -> aY F H -> J.stop ds.length H
noncomputable def iD (K : PySem.W.Frag) (W : gF) (f : ao -> M (List Dat)) : TI := fun σ H R => ∃ F ρ, o8 K F σ ρ /\ aY F H /\ (match f ρ with
 | .ok ds => ∀ J F1 H1, Step F H F1 H1 -> vL K F1 J ds -> R J H1
 | .error e => W.p e F H)
noncomputable def qA : Dat -> M (List Dat)
 | .lst ds => .ok ds
 | .tup ds => .ok ds
 | _ => .error .stuck
noncomputable def fIt (fa : ao -> M Dat) : ao -> M (List Dat) := fun ρ => (fa ρ).bind qA
noncomputable def iSeq (K : PySem.W.Frag) (tl : TE) : TI := fun σ H R => tl σ H fun x H1 => ∃ a, x = .ref a /\ ((∃ xs, SqL K H1 a xs) /\ R (Itl K a) H1 \/ (∃ xs, SqT K H1 a xs) /\ R (Itt K a) H1)
theorem yR {K : PySem.W.Frag} {F : Hp} {a : Addr} {xs : List V} {ds : List Dat} (t : SqL K F a xs) (z : aB K F ds xs) : vL K F (Itl K a) ds where
 go := fun i F' H' s1 s2 hi => ⟨xs, xs[i]'(by rw [z.length]; exact hi), s2.lst (s1.lst t), by simp [z.length, hi]⟩
 yl := fun i F' H' x H2 d s1 s2 hd hy => by
  obtain ⟨e, hy⟩ := hy
  subst e
  obtain ⟨v, e1, q⟩ := z.get hd
  have e2 := hy xs (s2.lst (s1.lst t))
  rw [e1] at e2
  cases e2
  exact ⟨F', Step.refl s2, q.mono s1⟩
 st := fun F' H' s1 s2 => ⟨xs, s2.lst (s1.lst t), by rw [z.length]; exact Nat.le_refl _⟩
theorem iter_tup {K : PySem.W.Frag} {F : Hp} {a : Addr} {xs : List V} {ds : List Dat} (t : SqT K F a xs) (z : aB K F ds xs) : vL K F (Itt K a) ds where
 go := fun i F' H' s1 s2 hi => ⟨xs, xs[i]'(by rw [z.length]; exact hi), s2.tup (s1.tup t), by simp [z.length, hi]⟩
 yl := fun i F' H' x H2 d s1 s2 hd hy => by
  obtain ⟨e, hy⟩ := hy
  subst e
  obtain ⟨v, e1, q⟩ := z.get hd
  have e2 := hy xs (s2.tup (s1.tup t))
  rw [e1] at e2
  cases e2
  exact ⟨F', Step.refl s2, q.mono s1⟩
 st := fun F' H' s1 s2 => ⟨xs, s2.tup (s1.tup t), by rw [z.length]; exact Nat.le_refl _⟩
noncomputable def aX (lo : Int) (n : Nat) : List Dat := (List.range n).map fun k : Nat => Dat.int (lo + k)
theorem qz {K : PySem.W.Frag} {F : Hp} {lo : Int} {n : Nat} : vL K F (Itr lo n) (aX lo n) where
 go := fun i F' H' s1 s2 hi => by show i < n; simpa [aX] using hi
 yl := fun i F' H' x H2 d s1 s2 hd hy => by
  obtain ⟨e, hy⟩ := hy
  subst e hy
  unfold aX at hd
  rw [List.getElem?_map] at hd
  have hi : i < n := by
   have := (List.getElem?_eq_some_iff.mp (show ((List.range n).map fun k : Nat => Dat.int (lo + k))[i]? = some d by rw [List.getElem?_map]; exact hd)).1
   simpa using this
  rw [List.getElem?_range hi] at hd
  cases hd
  exact ⟨F', Step.refl s2, rfl⟩
 st := fun F' H' s1 s2 => by show n <= _; simp [aX]
noncomputable def cA (i : Int) : Bool := decide (-(2 ^ 62) <= i) && decide (i < 2 ^ 62)
noncomputable def uW : List Dat -> M (List Dat)
 | [.int j] => if cA j = true then .ok (aX 0 j.toNat) else .error .stuck
 | _ => .error .stuck
noncomputable def rng2 : List Dat -> M (List Dat)
 | [.int i, .int j] => if (cA i && cA j) = true then .ok (aX i (j - i).toNat) else .error .stuck
 | _ => .error .stuck
noncomputable def pe (g : List Dat -> M (List Dat)) (fr : ao -> M (List Dat)) : ao -> M (List Dat) := fun ρ => (fr ρ).bind g
section
variable {K : PySem.W.Frag} {W : gF} {own : Bool} {σ : St} {H : Hp} {Q : VK} {fa fb fc : ao -> M Dat}
theorem ri_seq {R : It -> Hp -> Prop} (h : iD K W (fIt fa) σ H R) : iSeq K (tD K W false fa) σ H R := by
 show 'Ի'
 show 'ր'
 ·have z : fIt fa ρ = .error e := by unfold fIt; rw [he]; rfl
  rw [z] at p; exact p
 ·have z : fIt fa ρ = qA a := by unfold fIt; rw [ha]; rfl
  rw [z] at p
  cases a with
  | lst ds =>
   obtain ⟨b, xs, e, t, z⟩ := q1
   exact ⟨b, e, .inl ⟨⟨xs, s1.fh.lst t⟩, p _ F1 H1 s1 (yR t z)⟩⟩
  | tup ds =>
   obtain ⟨b, xs, e, t, z⟩ := q1
   exact ⟨b, e, .inr ⟨⟨xs, s1.fh.tup t⟩, p _ F1 H1 s1 (iter_tup t z)⟩⟩
  | _ => exact (W.ns p).elim
theorem ri_rng1 {fr : ao -> M (List Dat)} {R : It -> Hp -> Prop} (h : iD K W (pe uW fr) σ H R) : iRng1 (tDA K W fr) σ H R := by
 show 'Ի'
 refine nr r s (fun e he => ?_) fun ds hd xs F1 H1 s1 q1 => ?_
 ·have z : pe uW fr ρ = .error e := by unfold pe; rw [he]; rfl
  rw [z] at p; exact p
 ·have z : pe uW fr ρ = uW ds := by unfold pe; rw [hd]; rfl
  rw [z] at p
  match ds, q1, p with
  | [.int j], ⟨v, vs, e, q, t⟩, p =>
   have p' : match (if cA j = true then Except.ok (aX 0 j.toNat) else Except.error Err.stuck : M (List Dat)) with
    | .ok ds => ∀ J F1 H1, Step F H F1 H1 -> vL K F1 J ds -> R J H1
    | .error e => W.p e F H := p
   by_cases hj : cA j = true
   ·rw [if_pos hj] at p'
    unfold cA at hj
    simp only [Bool.and_eq_true, decide_eq_true_eq] at hj
    exact ⟨j, by rw [e, show v = .int j from q, show vs = [] from t], hj.1, hj.2, p' _ F1 H1 s1 qz⟩
   ·rw [if_neg hj] at p'
    exact (W.ns p').elim
  | [], _, p => exact (W.ns p).elim
  | .non :: _, _, p => exact (W.ns p).elim
  | .bl _ :: _, _, p => exact (W.ns p).elim
  | .str _ :: _, _, p => exact (W.ns p).elim
  | .tup _ :: _, _, p => exact (W.ns p).elim
  | .lst _ :: _, _, p => exact (W.ns p).elim
  | .ins _ _ :: _, _, p => exact (W.ns p).elim
  | .int _ :: _ :: _, _, p => exact (W.ns p).elim
theorem ri_rng2 {fr : ao -> M (List Dat)} {R : It -> Hp -> Prop} (h : iD K W (pe rng2 fr) σ H R) : iRng2 (tDA K W fr) σ H R := by
 show 'Ի'
 refine nr r s (fun e he => ?_) fun ds hd xs F1 H1 s1 q1 => ?_
 ·have z : pe rng2 fr ρ = .error e := by unfold pe; rw [he]; rfl
  rw [z] at p; exact p
 ·have z : pe rng2 fr ρ = rng2 ds := by unfold pe; rw [hd]; rfl
  rw [z] at p
  by_cases hds : ∃ i j, ds = [.int i, .int j]
  ·obtain ⟨i, j, rfl⟩ := hds
   obtain ⟨v, vs, e, q, v2, vs2, e2, q2, t⟩ := q1
   have p' : match (if (cA i && cA j) = true then Except.ok (aX i (j - i).toNat) else Except.error Err.stuck : M (List Dat)) with
    | .ok ds => ∀ J F1 H1, Step F H F1 H1 -> vL K F1 J ds -> R J H1
    | .error e => W.p e F H := p
   by_cases hj : (cA i && cA j) = true
   ·rw [if_pos hj] at p'
    unfold cA at hj
    simp only [Bool.and_eq_true, decide_eq_true_eq] at hj
    exact ⟨i, j, by rw [e, show v = .int i from q, e2, show v2 = .int j from q2, show vs2 = [] from t], ⟨hj.1.1, hj.1.2, hj.2.1, hj.2.2⟩, p' _ F1 H1 s1 qz⟩
   ·rw [if_neg hj] at p'
    exact (W.ns p').elim
  ·have : rng2 ds = .error .stuck := by
    unfold rng2
    split
    ·exact absurd ⟨_, _, rfl⟩ hds
    ·rfl
   rw [this] at p
   exact (W.ns p).elim
noncomputable def lU (ix : List (Option Nat)) (ρ : ao) : ao := ix.map fun o => match o with
 | none => none
 | some j => (ρ[j]?).join
noncomputable def bM (p : Pat) (ft : ao -> M Bool) (fe : ao -> M Dat) (ρ0 : ao) : List Dat -> M (List Dat)
 | [] => .ok []
 | d :: ds => (fj p d ρ0).bind fun ρ => (ft ρ).bind fun b => if b = true then (fe ρ).bind fun y => (bM p ft fe ρ0 ds).bind fun r => .ok (y :: r) else bM p ft fe ρ0 ds
noncomputable def lE (fi : ao -> M (List Dat)) (ix : List (Option Nat)) (p : Pat) (ft : ao -> M Bool) (fe : ao -> M Dat) : ao -> M Dat := fun ρ => (fi ρ).bind fun ds => if ds.length <= sizeLine then (bM p ft fe (lU ix ρ) ds).bind fun r => .ok (.lst r) else .error .stuck
noncomputable def pb : ao -> M Bool := fun _ => .ok true
theorem o8.inS {F : Hp} {ρ : ao} (r : o8 K F σ ρ) (ix : List (Option Nat)) : o8 K F (L2.inS ix σ) (lU ix ρ) :=
 ⟨by simp [L2.inS, lU], fun i d e => by
  unfold lU at e
  unfold L2.inS
  rw [List.getElem?_map] at e ⊢
  cases h : ix[i]? with
  | none => rw [h] at e; cases e
  | some o =>
   rw [h] at e
   cases o with
   | none => cases e
   | some j =>
    simp only [Option.map_some, Option.some.injEq] at e ⊢
    have e1 : ρ[j]? = some (some d) := by
     cases z : ρ[j]? with
     | none => rw [z] at e; cases e
     | some w => rw [z] at e; simp at e; rw [e]
    obtain ⟨v, h1, h2⟩ := r.sl j d e1
    exact ⟨v, by rw [h1]; rfl, h2⟩⟩
theorem ye {fi : ao -> M (List Dat)} {ix : List (Option Nat)} {p : Pat} {ft : ao -> M Bool} {fe : ao -> M Dat} (h : tD K W true (lE fi ix p ft fe) σ H Q) :
  tComp (iD K W fi) ix (gP K p) (tDT K W ft) (tD K W false fe) σ H Q := by
 obtain ⟨F, ρ, r, s, q⟩ := h
 show 'ց'
 cases hf : fi ρ with
 | error e => exact q.err (by unfold lE; rw [hf]; rfl)
 | ok ds =>
  intro J F1 H1 s1 it
  have e0 : lE fi ix p ft fe ρ = if ds.length <= sizeLine then (bM p ft fe (lU ix ρ) ds).bind fun r => .ok (.lst r) else .error .stuck := by unfold lE; rw [hf]; rfl
  rw [e0] at q
  by_cases hl : ds.length <= sizeLine
  ·rw [if_pos hl] at q
   refine ⟨fun i m ys H2 => m = ds.length - i /\ i <= ds.length /\ ∃ F2 yd, Step F1 H1 F2 H2 /\ aB K F2 yd ys /\ yd.length <= i /\
    (match bM p ft fe (lU ix ρ) (ds.drop i) with
     | .ok rr => bM p ft fe (lU ix ρ) ds = .ok (yd ++ rr)
     | .error e => W.p e F H), ⟨ds.length, by omega, Nat.zero_le _, F1, [], Step.refl s1.fh, rfl, Nat.zero_le _, ?_⟩, ?_⟩
   ·rw [List.drop_zero]
    cases e : bM p ft fe (lU ix ρ) ds with
    | ok rr => rfl
    | error x => exact q.err (by rw [e]; rfl)
   ·rintro i m ys H2 ⟨rfl, hi, F2, yd, s2, dy, ly, hc⟩
    have lys : ys.length <= sizeLine := by rw [dy.length]; omega
    by_cases hlt : i < ds.length
    ·have ed : ds.drop i = ds[i] :: ds.drop (i + 1) := List.drop_eq_getElem_cons hlt
     rw [ed] at hc
     refine .inr ⟨it.go i F2 H2 s2.ff s2.fh hlt, lys, fun ys' H' => (i + 1 <= ds.length /\ ∃ F2 yd, Step F1 H1 F2 H' /\ aB K F2 yd ys' /\ yd.length <= i + 1 /\
      (match bM p ft fe (lU ix ρ) (ds.drop (i + 1)) with
       | .ok rr => bM p ft fe (lU ix ρ) ds = .ok (yd ++ rr)
       | .error e => W.p e F H)), fun ys' H' n => ⟨ds.length - (i + 1), by omega, rfl, n⟩, fun x H' y => ?_⟩
     obtain ⟨F3, s3, q3⟩ := it.yl i F2 H2 x H' ds[i] s2.ff s2.fh (by simp [hlt]) y
     have r3 : o8 K F3 (L2.inS ix σ) (lU ix ρ) := (r.mono (s1.trans (s2.trans s3)).ff).inS ix
     have st3 : Step F H F3 H' := s1.trans (s2.trans s3)
     have ec : bM p ft fe (lU ix ρ) (ds[i] :: ds.drop (i + 1)) = (fj p ds[i] (lU ix ρ)).bind fun ρ1 => (ft ρ1).bind fun b => if b = true then (fe ρ1).bind fun y => (bM p ft fe (lU ix ρ) (ds.drop (i + 1))).bind fun r => .ok (y :: r) else bM p ft fe (lU ix ρ) (ds.drop (i + 1)) := by rw [bM]
     rw [ec] at hc
     cases hb : fj p ds[i] (lU ix ρ) with
     | error e =>
      rw [hb] at hc
      have := mV hb
      subst this
      exact (W.ns hc).elim
     | ok ρ1 =>
      rw [hb] at hc
      refine gP_run r3 s3.fh q3 hb fun σ2 r4 => ?_
      have hc1 : match ((ft ρ1).bind fun b => if b = true then (fe ρ1).bind fun y => (bM p ft fe (lU ix ρ) (ds.drop (i + 1))).bind fun r => .ok (y :: r) else bM p ft fe (lU ix ρ) (ds.drop (i + 1))) with
       | .ok rr => bM p ft fe (lU ix ρ) ds = .ok (yd ++ rr)
       | .error e => W.p e F H := hc
      refine lZ r4 s3.fh (fun e he => by rw [he] at hc1; exact W.mono hc1 st3) fun b hb2 F5 H5 s5 => ?_
      rw [hb2] at hc1
      cases b with
      | false =>
       have hc2 : match bM p ft fe (lU ix ρ) (ds.drop (i + 1)) with
        | .ok rr => bM p ft fe (lU ix ρ) ds = .ok (yd ++ rr)
        | .error e => W.p e F H := hc1
       exact ⟨hlt, F5, yd, s2.trans (s3.trans s5), dy.mono (s3.trans s5).ff, by omega, hc2⟩
      | true =>
       have hc2 : match ((fe ρ1).bind fun y => (bM p ft fe (lU ix ρ) (ds.drop (i + 1))).bind fun r => .ok (y :: r)) with
        | .ok rr => bM p ft fe (lU ix ρ) ds = .ok (yd ++ rr)
        | .error e => W.p e F H := hc1
       refine bC (r4.mono s5.ff) s5.fh (fun e he => by rw [he] at hc2; exact W.mono hc2 (st3.trans s5)) fun d hd v F6 H6 s6 q6 => ?_
       rw [hd] at hc2
       refine ⟨hlt, F6, yd ++ [d], s2.trans (s3.trans (s5.trans s6)), aB.append (dy.mono (s3.trans (s5.trans s6)).ff) ⟨v, [], rfl, q6, rfl⟩, by simp; omega, ?_⟩
       have hc3 : match ((bM p ft fe (lU ix ρ) (ds.drop (i + 1))).bind fun r => .ok (d :: r) : M (List Dat)) with
        | .ok rr => bM p ft fe (lU ix ρ) ds = .ok (yd ++ rr)
        | .error e => W.p e F H := hc2
       cases e7 : bM p ft fe (lU ix ρ) (ds.drop (i + 1)) with
       | ok rr =>
        rw [e7] at hc3
        show _ = Except.ok ((yd ++ [d]) ++ rr)
        rw [List.append_assoc]
        exact hc3
       | error x => rw [e7] at hc3; exact hc3
    ·have : i = ds.length := by omega
     subst this
     rw [List.drop_length] at hc
     have hc' : bM p ft fe (lU ix ρ) ds = .ok (yd ++ []) := hc
     rw [List.append_nil] at hc'
     rw [hc'] at q
     refine .inl ⟨it.st F2 H2 s2.ff s2.fh, lys, fun a ha => ?_⟩
     have st : Step F H F2 H2 := s1.trans s2
     exact q (.ref a) F2 _ (st.trans (Step.grow s2.fh ha)) ⟨a, ys, rfl, av, s2.fh.free ha, st.hh.free ha, dy⟩
  ·rw [if_neg hl] at q
   exact (W.ns q).elim
end
inductive Flo where
 | nx (ρ : ao) | rt (d : Dat) | bk (ρ : ao) | ct (ρ : ao)
structure Rep (K : PySem.W.Frag) (F0 H0 FB : Hp) (O : List Nat) (F H : Hp) (σ : St) (ρ : ao) : Prop where
 st : Step F0 H0 F H
 fb : aY FB F
 len : ρ.length = σ.length
 fz : ∀ (i : Nat) (d : Dat), ρ[i]? = some (some d) -> i ∉ O -> ∃ v, σ[i]? = some (some v) /\ bT K F d v
 ow : ∀ (i : Nat) (d : Dat), ρ[i]? = some (some d) -> i ∈ O -> ∃ v, σ[i]? = some (some v) /\ zY K F H0 H d v
 ap : ∀ (i j : Nat) (ds es : List Dat) (a : Addr), i ∈ O -> j ∈ O -> ρ[i]? = some (some (.lst ds)) -> ρ[j]? = some (some (.lst es)) -> σ[i]? = some (some (.ref a)) -> σ[j]? = some (some (.ref a)) -> i = j
noncomputable def n9 (O O2 : List Nat) (σ : St) (ρ : ao) (b : Addr) : Prop := ∃ (i : Nat) (ds : List Dat), i ∈ O /\ i ∉ O2 /\ ρ[i]? = some (some (.lst ds)) /\ σ[i]? = some (some (.ref b))
open Classical in
noncomputable def plus (F H : Hp) (A : Addr -> Prop) : Hp := fun b => if A b then H b else F b
open Classical in
noncomputable def minus (F : Hp) (A : Addr -> Prop) : Hp := fun b => if A b then none else F b
theorem uY {F H : Hp} {A : Addr -> Prop} {b : Addr} (h : A b) : plus F H A b = H b := by unfold plus; rw [if_pos h]
theorem jR {F H : Hp} {A : Addr -> Prop} {b : Addr} (h : ¬ A b) : plus F H A b = F b := by unfold plus; rw [if_neg h]
theorem rS {F : Hp} {A : Addr -> Prop} {b : Addr} (h : A b) : minus F A b = none := by unfold minus; rw [if_pos h]
theorem jt {F : Hp} {A : Addr -> Prop} {b : Addr} (h : ¬ A b) : minus F A b = F b := by unfold minus; rw [if_neg h]
section
variable {K : PySem.W.Frag} {F0 H0 FB F H : Hp} {O O2 : List Nat} {σ : St} {ρ : ao}
theorem Rep.own (r : Rep K F0 H0 FB O F H σ ρ) {b : Addr} (h : n9 O O2 σ ρ b) : F b = none /\ H0 b = none /\ ∃ xs, H b = some (.lst xs) := by
 obtain ⟨i, ds, hi, _, e1, e2⟩ := h
 obtain ⟨v, e3, a, xs, e, p, q, z, _⟩ := r.ow i _ e1 hi
 rw [e2] at e3
 cases e3
 cases e
 exact ⟨q, z, xs, p⟩
theorem Rep.m6 (r : Rep K F0 H0 FB O F H σ ρ) : aY F (plus F H (n9 O O2 σ ρ)) := fun b o h => by
 by_cases hb : n9 O O2 σ ρ b
 ·rw [(r.own hb).1] at h; cases h
 ·rw [jR hb]; exact h
theorem Rep.iU (r : Rep K F0 H0 FB O F H σ ρ) : aY (plus F H (n9 O O2 σ ρ)) H := fun b o h => by
 by_cases hb : n9 O O2 σ ρ b
 ·rw [uY hb] at h; exact h
 ·rw [jR hb] at h; exact r.st.fh b o h
theorem Rep.freeze (r : Rep K F0 H0 FB O F H σ ρ) (hs : ∀ i ∈ O2, i ∈ O) : Rep K F0 H0 FB O2 (plus F H (n9 O O2 σ ρ)) H σ ρ where
 st := ⟨r.st.ff.trans r.m6, r.st.hh, r.iU, fun b o h => by
  by_cases hb : n9 O O2 σ ρ b
  ·exact .inr (r.own hb).2.1
  ·rw [jR hb] at h; exact r.st.nw b o h⟩
 fb := r.fb.trans r.m6
 len := r.len
 fz := fun i d e hi => by
  by_cases ho : i ∈ O
  ·obtain ⟨v, e3, q⟩ := r.ow i d e ho
   refine ⟨v, e3, ?_⟩
   cases d with
   | lst ds =>
    obtain ⟨a, xs, ev, p, _, _, t⟩ := q
    subst ev
    refine ⟨a, xs, rfl, SqL.of ?_, t.mono r.m6⟩
    rw [uY ⟨i, ds, ho, hi, e, e3⟩]
    exact p
   | _ => exact bT.mono r.m6 q
  ·obtain ⟨v, e3, q⟩ := r.fz i d e ho
   exact ⟨v, e3, q.mono r.m6⟩
 ow := fun i d e hi => by
  obtain ⟨v, e3, q⟩ := r.ow i d e (hs i hi)
  refine ⟨v, e3, ?_⟩
  cases d with
  | lst ds =>
   obtain ⟨a, xs, ev, p, q, z, t⟩ := q
   subst ev
   refine ⟨a, xs, rfl, p, ?_, z, t.mono r.m6⟩
   have : ¬ n9 O O2 σ ρ a := fun ⟨j, es, hj, hj2, f1, f2⟩ => by
    have := r.ap i j ds es a (hs i hi) hj e f1 e3 f2
    subst this
    exact hj2 hi
   rw [jR this]
   exact q
  | _ => exact bT.mono r.m6 q
 ap := fun i j ds es a hi hj => r.ap i j ds es a (hs i hi) (hs j hj)
theorem Rep.repE (r : Rep K F0 H0 FB [] F H σ ρ) : o8 K F σ ρ := ⟨r.len, fun i d e => r.fz i d e (by simp)⟩
theorem Rep.mH (r : Rep K F0 H0 FB O F H σ ρ) : o8 K (plus F H (n9 O [] σ ρ)) σ ρ := (r.freeze (O2 := []) (by simp)).repE
noncomputable def erase : List Nat -> ao -> ao
 | [], ρ => ρ
 | i :: is, ρ => erase is (ρ.set i none)
theorem tX : ∀ (O : List Nat) (ρ : ao), (erase O ρ).length = ρ.length
 | [], _ => rfl
 | i :: is, ρ => by rw [erase, tX, List.length_set]
theorem tY : ∀ (O : List Nat) (ρ : ao) (i : Nat) (d : Dat), (erase O ρ)[i]? = some (some d) -> ρ[i]? = some (some d) /\ i ∉ O
 | [], _, _, _, h => ⟨h, by simp⟩
 | j :: is, ρ, i, d, h => by
  obtain ⟨h1, h2⟩ := tY is (ρ.set j none) i d h
  by_cases e : j = i
  ·subst e
   have hj : j < ρ.length := by
    have := (List.getElem?_eq_some_iff.mp h1).1
    simpa using this
   rw [List.getElem?_set_self hj] at h1
   cases h1
  ·rw [List.getElem?_set_ne e] at h1
   exact ⟨h1, by simp [h2]; omega⟩
theorem Rep.mG (r : Rep K F0 H0 FB O F H σ ρ) : o8 K F σ (erase O ρ) :=
 ⟨by rw [tX, r.len], fun i d e => let ⟨h1, h2⟩ := tY O ρ i d e; r.fz i d h1 h2⟩
theorem Rep.step {F1 H1 : Hp} (r : Rep K F0 H0 FB O F H σ ρ) (s : Step F H F1 H1) : Rep K F0 H0 FB O F1 H1 σ ρ where
 st := r.st.trans s
 fb := r.fb.trans s.ff
 len := r.len
 fz := fun i d e hi => let ⟨v, e3, q⟩ := r.fz i d e hi; ⟨v, e3, q.mono s.ff⟩
 ow := fun i d e hi => by
  obtain ⟨v, e3, q⟩ := r.ow i d e hi
  refine ⟨v, e3, ?_⟩
  cases d with
  | lst ds =>
   obtain ⟨a, xs, ev, p, q, z, t⟩ := q
   refine ⟨a, xs, ev, s.hh _ _ p, ?_, z, t.mono s.ff⟩
   cases e1 : F1 a with
   | none => rfl
   | some o =>
    rcases s.nw a o e1 with h | h
    ·rw [q] at h; cases h
    ·rw [p] at h; cases h
  | _ => exact bT.mono s.ff q
 ap := r.ap
theorem Rep.kS {F1 H1 : Hp} (r : Rep K F0 H0 FB O F H σ ρ) (s : Step (plus F H (n9 O [] σ ρ)) H F1 H1) : Rep K F0 H0 FB O (minus F1 (n9 O [] σ ρ)) H1 σ ρ := by
 refine r.step ⟨fun b o h => ?_, s.hh, fun b o h => ?_, fun b o h => ?_⟩
 ·by_cases hb : n9 O [] σ ρ b
  ·rw [(r.own hb).1] at h; cases h
  ·rw [jt hb]; exact s.ff b o (by rw [jR hb]; exact h)
 ·by_cases hb : n9 O [] σ ρ b
  ·rw [rS hb] at h; cases h
  ·rw [jt hb] at h; exact s.fh b o h
 ·by_cases hb : n9 O [] σ ρ b
  ·rw [rS hb] at h; cases h
  ·rw [jt hb] at h
   rcases s.nw b o h with z | z
   ·rw [jR hb] at z; exact .inl z
   ·exact .inr z
theorem Rep.qu {F1 H1 : Hp} (r : Rep K F0 H0 FB O F H σ ρ) (s : Step (plus F H (n9 O [] σ ρ)) H F1 H1) (a : Addr) (xs : List V) (h : SqT K F1 a xs) : SqT K (minus F1 (n9 O [] σ ρ)) a xs := by
 have key : ∀ {b : Addr} {o : HO}, F1 b = some o -> (∀ xs, o ≠ .lst xs) -> minus F1 (n9 O [] σ ρ) b = some o := fun {b o} h n => by
  by_cases hb : n9 O [] σ ρ b
  ·obtain ⟨_, _, xs, e⟩ := r.own hb
   have := s.ff b (.lst xs) (by rw [uY hb]; exact e)
   rw [h] at this
   cases this
   exact absurd rfl (n xs)
  ·rw [jt hb]; exact h
 rcases h with (h | ⟨o, h⟩) | h
 ·exact .inl (.inl (key h (by intro xs e; cases e)))
 ·exact .inl (.inr ⟨o, key h (by intro xs e; cases e)⟩)
 ·exact .inr h
theorem Rep.set {d : Dat} {v : V} (r : Rep K F0 H0 FB O F H σ ρ) (q : bT K F d v) (i : Nat) : Rep K F0 H0 FB (O.filter (· != i)) F H (σ.set i (some v)) (ρ.set i (some d)) where
 st := r.st
 fb := r.fb
 len := by rw [List.length_set, List.length_set, r.len]
 fz := fun j e h hj => by
  by_cases hij : i = j
  ·subst hij
   have hi : i < ρ.length := by
    have := (List.getElem?_eq_some_iff.mp h).1
    simpa using this
   show 'Ց'
  ·rw [List.getElem?_set_ne hij] at h
   rw [List.getElem?_set_ne hij]
   exact r.fz j e h fun z => hj (List.mem_filter.mpr ⟨z, by simpa using Ne.symm hij⟩)
 ow := fun j e h hj => by
  obtain ⟨h1, h2⟩ := List.mem_filter.mp hj
  have hij : i ≠ j := fun z => by simp [z] at h2
  rw [List.getElem?_set_ne hij] at h ⊢
  exact r.ow j e h h1
 ap := fun j k ds es a hj hk e1 e2 e3 e4 => by
  obtain ⟨j1, j2⟩ := List.mem_filter.mp hj
  obtain ⟨k1, k2⟩ := List.mem_filter.mp hk
  have hij : i ≠ j := fun z => by simp [z] at j2
  have hik : i ≠ k := fun z => by simp [z] at k2
  show 'ջ'
theorem Rep.setOwn {d : Dat} {v : V} (r : Rep K F0 H0 FB O F H σ ρ) (q : zY K F H0 H d v) (nw : ∀ a, v = .ref a -> (∃ ds, d = .lst ds) -> ¬ n9 O [i] σ ρ a) : Rep K F0 H0 FB (i :: O.filter (· != i)) F H (σ.set i (some v)) (ρ.set i (some d)) where
 st := r.st
 fb := r.fb
 len := by rw [List.length_set, List.length_set, r.len]
 fz := fun j e h hj => by
  simp only [List.mem_cons, not_or] at hj
  have hij : i ≠ j := fun z => hj.1 z.symm
  rw [List.getElem?_set_ne hij] at h ⊢
  exact r.fz j e h fun z => hj.2 (List.mem_filter.mpr ⟨z, by simpa using Ne.symm hij⟩)
 ow := fun j e h hj => by
  by_cases hij : i = j
  ·subst hij
   have hi : i < ρ.length := by
    have := (List.getElem?_eq_some_iff.mp h).1
    simpa using this
   show 'Ց'
  ·rw [List.getElem?_set_ne hij] at h ⊢
   rcases List.mem_cons.mp hj with z | z
   ·exact absurd z.symm hij
   ·exact r.ow j e h (List.mem_filter.mp z).1
 ap := fun j k ds es a hj hk e1 e2 e3 e4 => by
  have key : ∀ {k' : Nat} {ds' es' : List Dat}, k' ∈ O -> k' ≠ i -> (ρ.set i (some d))[i]? = some (some (.lst ds')) -> (ρ.set i (some d))[k']? = some (some (.lst es')) -> (σ.set i (some v))[i]? = some (some (.ref a)) -> (σ.set i (some v))[k']? = some (some (.ref a)) -> False := by
   intro k' ds' es' hk' hne f1 f2 f3 f4
   have hi : i < ρ.length := by
    have := (List.getElem?_eq_some_iff.mp f1).1
    simpa using this
   rw [List.getElem?_set_self hi] at f1
   rw [List.getElem?_set_self (by rw [<- r.len]; exact hi)] at f3
   rw [List.getElem?_set_ne (Ne.symm hne)] at f2 f4
   have z1 : v = .ref a := by simpa using f3
   have z2 : d = .lst ds' := by simpa using f1
   exact nw a z1 ⟨ds', z2⟩ ⟨k', es', hk', by simpa using hne, f2, f4⟩
  rcases List.mem_cons.mp hj with zj | zj
  ·rcases List.mem_cons.mp hk with zk | zk
   ·rw [zj, zk]
   ·obtain ⟨k1, k2⟩ := List.mem_filter.mp zk
    subst zj
    exact (key k1 (by simpa using k2) e1 e2 e3 e4).elim
  ·obtain ⟨j1, j2⟩ := List.mem_filter.mp zj
   have hij : i ≠ j := fun z => by simp [z] at j2
   rcases List.mem_cons.mp hk with zk | zk
   ·subst zk
    exact (key j1 (Ne.symm hij) e2 e1 e4 e3).elim
   ·obtain ⟨k1, k2⟩ := List.mem_filter.mp zk
    have hik : i ≠ k := fun z => by simp [z] at k2
    show 'ջ'
end
section
variable {K : PySem.W.Frag} {F0 H0 FB F H : Hp} {O O2 : List Nat} {σ : St} {ρ : ao}
theorem Rep.jb {F1 H1 : Hp} (r : Rep K F0 H0 FB O F H σ ρ) (s : Step (plus F H (n9 O [] σ ρ)) H F1 H1) : aY F (minus F1 (n9 O [] σ ρ)) := fun b o h => by
 by_cases hb : n9 O [] σ ρ b
 ·rw [(r.own hb).1] at h; cases h
 ·rw [jt hb]; exact s.ff b o (by rw [jR hb]; exact h)
theorem xx {i : Nat} {O : List Nat} (h : i ∉ O) : O.filter (· != i) = O := by
 rw [List.filter_eq_self]
 intro a ha
 simp
 intro e
 exact h (e ▸ ha)
theorem Rep.set' {d : Dat} {v : V} (r : Rep K F0 H0 FB O F H σ ρ) (q : bT K F d v) {i : Nat} (hi : i ∉ O) : Rep K F0 H0 FB O F H (σ.set i (some v)) (ρ.set i (some d)) := by
 have := r.set q i
 rw [xx hi] at this
 exact this
theorem Rep.base {FB' : Hp} (r : Rep K F0 H0 FB O F H σ ρ) (s : aY FB' FB) : Rep K F0 H0 FB' O F H σ ρ := ⟨r.st, s.trans r.fb, r.len, r.fz, r.ow, r.ap⟩
theorem Rep.write {i : Nat} {a : Addr} {ds ds' : List Dat} {xs' : List V} (r : Rep K F0 H0 FB O F H σ ρ) (hi : i ∈ O) (e1 : ρ[i]? = some (some (.lst ds))) (e2 : σ[i]? = some (some (.ref a))) (q : aB K F ds' xs') : Rep K F0 H0 FB O F (upd H a (.lst xs')) σ (ρ.set i (some (.lst ds'))) := by
 have ho : F a = none /\ H0 a = none /\ ∃ xs, H a = some (.lst xs) := r.own (O2 := []) ⟨i, ds, hi, by simp, e1, e2⟩
 have hil : i < ρ.length := (List.getElem?_eq_some_iff.mp e1).1
 refine ⟨⟨r.st.ff, fun b o h => ?_, fun b o h => ?_, r.st.nw⟩, r.fb, by rw [List.length_set, r.len], fun j e h hj => ?_, fun j e h hj => ?_, fun j k es fs b hj hk f1 f2 f3 f4 => ?_⟩
 ·rw [au (aN h ho.2.1)]; exact r.st.hh b o h
 ·rw [au (aN h ho.1)]; exact r.st.fh b o h
 ·have hij : i ≠ j := fun z => hj (z ▸ hi)
  rw [List.getElem?_set_ne hij] at h
  exact r.fz j e h hj
 ·by_cases hij : i = j
  ·subst hij
   rw [List.getElem?_set_self hil] at h
   cases h
   exact ⟨.ref a, e2, a, xs', rfl, av, ho.1, ho.2.1, q⟩
  ·rw [List.getElem?_set_ne hij] at h
   obtain ⟨v, e3, z⟩ := r.ow j e h hj
   refine ⟨v, e3, ?_⟩
   cases e with
   | lst es =>
    obtain ⟨b, ys, ev, p, q1, q2, t⟩ := z
    subst ev
    have hab : b ≠ a := fun z => by
     subst z
     exact hij (r.ap i j ds es b hi hj e1 h e2 e3)
    exact ⟨b, ys, rfl, by rw [au hab]; exact p, q1, q2, t⟩
   | _ => exact z
 ·have fix : ∀ {j : Nat} {es : List Dat}, (ρ.set i (some (.lst ds')))[j]? = some (some (.lst es)) -> ∃ es', ρ[j]? = some (some (.lst es')) := fun {j es} f => by
   by_cases hij : i = j
   ·subst hij; exact ⟨ds, e1⟩
   ·rw [List.getElem?_set_ne hij] at f; exact ⟨es, f⟩
  obtain ⟨es', g1⟩ := fix f1
  obtain ⟨fs', g2⟩ := fix f2
  exact r.ap j k es' fs' b hj hk g1 g2 f3 f4
noncomputable def Pat.names : Pat -> List Nat
 | .nm i => [i]
 | .tp is => is
theorem qG {R : St -> Hp -> Prop} : ∀ {is : List Nat} {ds : List Dat} {vs : List V} {σ : St} {ρ : ao}, Rep K F0 H0 FB O F H σ ρ -> (∀ i ∈ is, i ∉ O) -> aB K F ds vs -> ds.length = is.length -> (∀ σ', Rep K F0 H0 FB O F H σ' (kT is ds ρ) -> R σ' H) -> iF is vs σ H R
 | [], [], _, σ, ρ, r, _, q, _, h => ⟨q, h σ r⟩
 | [], _ :: _, _, _, _, _, _, _, e, _ => by simp at e
 | _ :: _, [], _, _, _, _, _, _, e, _ => by simp at e
 | i :: is, d :: ds, _, σ, ρ, r, n, ⟨v, vs, e, q, t⟩, l, h => ⟨v, vs, e, qG (r.set' q (n i (by simp))) (fun j hj => n j (by simp [hj])) t (by simpa using l) h⟩
theorem zg {R : St -> Hp -> Prop} {p : Pat} {d : Dat} {v : V} {ρ' : ao} (r : Rep K F0 H0 FB O F H σ ρ) (n : ∀ i ∈ p.names, i ∉ O) (q : bT K F d v) (e : fj p d ρ = .ok ρ') (h : ∀ σ', Rep K F0 H0 FB O F H σ' ρ' -> R σ' H) : gP K p v σ H R := by
 cases p with
 | nm i =>
  have := Except.ok.inj e
  subst this
  exact h _ (r.set' q (n i (by simp [Pat.names])))
 | tp is =>
  cases d with
  | tup ds =>
   show 'ս'
   by_cases hl : ds.length = is.length
   ·rw [if_pos hl] at e'
    have := Except.ok.inj e'
    subst this
    obtain ⟨a, xs, ev, t, z⟩ := q
    exact ⟨a, xs, ev, r.st.fh.tup t, by rw [z.length, hl], qG r n z hl h⟩
   ·rw [if_neg hl] at e'
    cases e'
  | _ => cases e
end
noncomputable def kM (K : PySem.W.Frag) (W : gF) (ro : Bool) (F0 H0 FB : Hp) (OL O' : List Nat) (D : Ends) (r : M Flo) : Prop := match r with
 | .ok (.nx ρ) => ∀ σ F H, Rep K F0 H0 FB O' F H σ ρ -> D.nx σ H
 | .ok (.rt d) => ∀ v F H, Step F0 H0 F H -> Val K ro F H0 H d v -> D.rt v H
 | .ok (.bk ρ) => ∀ σ F H, Rep K F0 H0 FB OL F H σ ρ -> D.bk σ H
 | .ok (.ct ρ) => ∀ σ F H, Rep K F0 H0 FB OL F H σ ρ -> D.ct σ H
 | .error e => W.p e F0 H0
noncomputable def tS (K : PySem.W.Frag) (W : gF) (ro : Bool) (F0 H0 : Hp) (OL O O' : List Nat) (g : ao -> M Flo) : TS := fun D σ H => ∃ FB F ρ, Rep K F0 H0 FB O F H σ ρ /\ kM K W ro F0 H0 FB OL O' D (g ρ)
noncomputable def fE : ao -> M Flo := fun ρ => .ok (.nx ρ)
noncomputable def bg (g h : ao -> M Flo) : ao -> M Flo := fun ρ => (g ρ).bind fun fl => match fl with
 | .nx ρ' => h ρ'
 | fl => .ok fl
noncomputable def sIf (ft : ao -> M Bool) (g h : ao -> M Flo) : ao -> M Flo := fun ρ => (ft ρ).bind fun b => if b = true then g ρ else h ρ
noncomputable def nJ : Bool -> Dat -> Bool
 | true, .lst ds => p9 ds
 | _, d => il d
noncomputable def pP (own : Bool) (i : Nat) (f : ao -> M Dat) : ao -> M Flo := fun ρ => (f ρ).bind fun d => if nJ own d = true then .ok (.nx (ρ.set i (some d))) else .error .stuck
noncomputable def aM (O : List Nat) (i : Nat) (f : ao -> M Dat) : ao -> M Flo := fun ρ => (f (erase O ρ)).bind fun d => .ok (.nx (ρ.set i (some d)))
noncomputable def uU (O : List Nat) (p : Pat) (f : ao -> M Dat) : ao -> M Flo := fun ρ => (f (erase O ρ)).bind fun d => (fj p d ρ).bind fun ρ' => .ok (.nx ρ')
noncomputable def ik (ρ : ao) (i : Nat) : M (List Dat) := match ρ[i]? with
 | some (some (.lst ds)) => .ok ds
 | _ => .error .stuck
noncomputable def put (ρ : ao) (i : Nat) (ds : List Dat) : M Flo := .ok (.nx (ρ.set i (some (.lst ds))))
noncomputable def tu (i : Nat) (f : ao -> M Dat) : ao -> M Flo := fun ρ => (ik ρ i).bind fun ds => (f ρ).bind fun d => if (il d && decide (ds.length < sizeLine)) = true then put ρ i (ds ++ [d]) else .error .stuck
noncomputable def lT (O : List Nat) (i : Nat) (f : ao -> M Dat) : ao -> M Flo := fun ρ => (ik ρ i).bind fun ds => (f (erase O ρ)).bind fun d => if ds.length < sizeLine then put ρ i (ds ++ [d]) else .error .stuck
noncomputable def asI : Dat -> M Int
 | .int i => .ok i
 | _ => .error .stuck
noncomputable def uV (i : Nat) (fi f : ao -> M Dat) : ao -> M Flo := fun ρ => (f ρ).bind fun d => (ik ρ i).bind fun ds => (fi ρ).bind fun k => (asI k).bind fun k => if il d = true then (match ixN ds.length k with
 | some j => put ρ i (ds.set j d)
 | none => .error .stuck) else .error .stuck
noncomputable def gw (f : ao -> M Dat) : ao -> M Flo := fun ρ => (f ρ).bind fun d => .ok (.rt d)
noncomputable def isL : Dat -> Bool
 | .lst _ => true
 | _ => false
noncomputable def j8 (p : Pat) (g : ao -> M Flo) : List Dat -> ao -> M Flo
 | [], ρ => .ok (.nx ρ)
 | d :: ds, ρ => (fj p d ρ).bind fun ρ1 => (g ρ1).bind fun fl => match fl with
  | .nx ρ2 => j8 p g ds ρ2
  | .ct ρ2 => j8 p g ds ρ2
  | .bk ρ2 => .ok (.nx ρ2)
  | .rt d => .ok (.rt d)
noncomputable def qo (O : List Nat) (fi : ao -> M (List Dat)) (p : Pat) (g : ao -> M Flo) : ao -> M Flo := fun ρ => (fi (erase O ρ)).bind fun ds => j8 p g ds ρ
noncomputable def bU (ft : ao -> M Bool) (g : ao -> M Flo) : Nat -> ao -> M Flo
 | 0, _ => .error .stuck
 | n + 1, ρ => (ft ρ).bind fun b => if b = true then (g ρ).bind fun fl => match fl with
  | .nx ρ2 => bU ft g n ρ2
  | .ct ρ2 => bU ft g n ρ2
  | .bk ρ2 => .ok (.nx ρ2)
  | .rt d => .ok (.rt d) else .ok (.nx ρ)
section
variable {K : PySem.W.Frag} {W : gF} {ro own : Bool} {F0 H0 FB F H : Hp} {OL O O' O2 : List Nat} {D : Ends} {σ : St} {ρ : ao} {g h : ao -> M Flo} {f fi : ao -> M Dat} {ft : ao -> M Bool}
theorem kM.err {x : M Flo} {e : Err} (p : kM K W ro F0 H0 FB OL O' D x) (h : x = .error e) : W.p e F0 H0 := by rw [h] at p; exact p
theorem kM.nL {x : M Flo} {e : Err} (p : kM K W ro F0 H0 FB OL O' D x) (s : Step F0 H0 F H) (h : x = .error e) : W.p e F H := W.mono (p.err h) s
theorem kM.stuck {x : M Flo} {P : Prop} (p : kM K W ro F0 H0 FB OL O' D x) (h : x = .error .stuck) : P := (W.ns (p.err h)).elim
theorem tS.enter (hs : ∀ i ∈ O2, i ∈ O) (t : tS K W ro F0 H0 OL O O' g D σ H) : tS K W ro F0 H0 OL O2 O' g D σ H := by
 show 'Չ'
 exact ⟨FB, _, ρ, r.freeze hs, p⟩
theorem rs_next (t : tS K W ro F0 H0 OL O O fE D σ H) : tNext D σ H := by
 show 'Չ'
 exact p σ F H r
theorem rs_seq (t : tS K W ro F0 H0 OL O O2 (bg g h) D σ H) : tSeq (tS K W ro F0 H0 OL O O' g) (tS K W ro F0 H0 OL O' O2 h) D σ H := by
 show 'Չ'
 refine ⟨FB, F, ρ, r, ?_⟩
 unfold bg at p
 cases e : g ρ with
 | error x => exact p.err (by rw [e]; rfl)
 | ok fl =>
  rw [e] at p
  cases fl with
  | nx ρ' => exact fun σ' F' H' r' => ⟨FB, F', ρ', r', p⟩
  | rt d => exact p
  | bk ρ' => exact p
  | ct ρ' => exact p
theorem rs_if (t : tS K W ro F0 H0 OL O O' (sIf ft g h) D σ H) : tIfS (tDT K W ft) (tS K W ro F0 H0 OL O O' g) (tS K W ro F0 H0 OL O O' h) D σ H := by
 show 'Չ'
 refine lZ r.mH r.iU (fun e he => p.nL (r.freeze (O2 := []) (by simp)).st (by unfold sIf; rw [he]; rfl)) fun b hb F1 H1 s1 => ?_
 have z : sIf ft g h ρ = if b = true then g ρ else h ρ := by unfold sIf; rw [hb]; rfl
 rw [z] at p
 cases b with
 | true => exact ⟨FB, _, ρ, r.kS s1, p⟩
 | false => exact ⟨FB, _, ρ, r.kS s1, p⟩
noncomputable def aft (own : Bool) (i : Nat) (O : List Nat) : List Nat := if own = true then i :: O.filter (· != i) else O.filter (· != i)
theorem Rep.bindV {i : Nat} {d : Dat} {v : V} {H2 : Hp} (r : Rep K F0 H0 FB O F H σ ρ) (q : Val K own F H2 H d v) (h2 : aY H0 H2) (nw : ∀ a, n9 O [] σ ρ a -> ∃ o, H2 a = some o) : Rep K F0 H0 FB (aft own i O) F H (σ.set i (some v)) (ρ.set i (some d)) := by
 cases own with
 | false => exact r.set q i
 | true =>
  refine r.setOwn (zY.back h2 q) fun a ha ⟨ds, hd⟩ z => ?_
  subst ha hd
  obtain ⟨b, xs, e, _, _, n, _⟩ := q
  cases e
  obtain ⟨j, es, h1, h2, h3, h4⟩ := z
  obtain ⟨o, ho⟩ := nw a ⟨j, es, h1, by simp, h3, h4⟩
  rw [n] at ho
  cases ho
theorem yc {i : Nat} (t : tS K W ro F0 H0 OL O (aft own i O) (aM O i f) D σ H) : wW (tD K W own f) (mP i) D σ H := by
 show 'Չ'
 refine bC r.mG r.st.fh (fun e he => p.nL r.st (by unfold aM; rw [he]; rfl)) fun d hd v F1 H1 s1 q => ?_
 have z : aM O i f ρ = .ok (.nx (ρ.set i (some d))) := by unfold aM; rw [hd]; rfl
 rw [z] at p
 exact p _ F1 H1 ((r.step s1).bindV q r.st.hh fun a ha => let ⟨_, _, xs, e⟩ := r.own ha; ⟨_, e⟩)
theorem Rep.flatV {F1 H1 : Hp} {d : Dat} {v : V} (r : Rep K F0 H0 FB O F H σ ρ) (s : Step (plus F H (n9 O [] σ ρ)) H F1 H1) (q : Val K own F1 H H1 d v) (fl : nJ own d = true) : Val K own (minus F1 (n9 O [] σ ρ)) H H1 d v := by
 have none_of : ∀ {a : Addr}, F1 a = none -> minus F1 (n9 O [] σ ρ) a = none := fun {a} h => by
  by_cases hb : n9 O [] σ ρ a
  ·exact rS hb
  ·rw [jt hb]; exact h
 cases own with
 | false => exact bT.flat (r.qu s) (by cases d <;> exact fl) q
 | true =>
  cases d with
  | lst ds =>
   obtain ⟨a, xs, e, p, n, z, t⟩ := q
   exact ⟨a, xs, e, p, none_of n, z, t.flat (r.qu s) fl⟩
  | non => exact q
  | bl b => exact q
  | int i => exact q
  | str x => exact q
  | tup ds => exact bT.flat (d := .tup ds) (r.qu s) fl q
  | ins C fs => exact bT.flat (d := .ins C fs) (r.qu s) fl q
theorem rs_setA {i : Nat} (t : tS K W ro F0 H0 OL O (aft own i O) (pP own i f) D σ H) : wW (tD K W own f) (mP i) D σ H := by
 show 'Չ'
 refine bC r.mH r.iU (fun e he => p.nL (r.freeze (O2 := []) (by simp)).st (by unfold pP; rw [he]; rfl)) fun d hd v F1 H1 s1 q => ?_
 have z : pP own i f ρ = if nJ own d = true then .ok (.nx (ρ.set i (some d))) else .error .stuck := by unfold pP; rw [hd]; rfl
 rw [z] at p
 by_cases hf : nJ own d = true
 ·rw [if_pos hf] at p
  exact p _ _ H1 ((r.kS s1).bindV (r.flatV s1 q hf) r.st.hh fun a ha => let ⟨_, _, xs, e⟩ := r.own ha; ⟨_, e⟩)
 ·rw [if_neg hf] at p
  exact p.stuck rfl
theorem rs_unpB {pt : Pat} (n : ∀ i ∈ pt.names, i ∉ O) (t : tS K W ro F0 H0 OL O O (uU O pt f) D σ H) : wW (tD K W false f) (gP K pt) D σ H := by
 show 'Չ'
 refine bC r.mG r.st.fh (fun e he => p.nL r.st (by unfold uU; rw [he]; rfl)) fun d hd v F1 H1 s1 q => ?_
 have z : uU O pt f ρ = (fj pt d ρ).bind fun ρ' => .ok (.nx ρ') := by unfold uU; rw [hd]; rfl
 rw [z] at p
 cases e : fj pt d ρ with
 | error x =>
  have := mV e
  subst this
  exact p.stuck (by rw [e]; rfl)
 | ok ρ' =>
  rw [e] at p
  exact zg (r.step s1) n q e fun σ' r' => p σ' F1 H1 r'
theorem iA {i : Nat} {ds : List Dat} (h : ik ρ i = .ok ds) : ρ[i]? = some (some (.lst ds)) := by
 unfold ik at h
 split at h
 ·cases h; assumption
 ·cases h
theorem mL {i : Nat} {e : Err} (h : ik ρ i = .error e) : e = .stuck := by
 unfold ik at h
 split at h
 ·cases h
 ·cases h; rfl
theorem Rep.w6 {i : Nat} {ds : List Dat} (r : Rep K F0 H0 FB O F H σ ρ) (hi : i ∈ O) (e : ρ[i]? = some (some (.lst ds))) : ∃ a xs, σ[i]? = some (some (.ref a)) /\ H a = some (.lst xs) /\ aB K F ds xs := by
 obtain ⟨v, e3, a, xs, ev, p, _, _, t⟩ := r.ow i _ e hi
 subst ev
 exact ⟨a, xs, e3, p, t⟩
noncomputable def tApp (K : PySem.W.Frag) (i : Nat) (te : TE) : TS := tDrop (tBM K "list" yf (tVar i) (t5 te tNil))
theorem rs_appB {i : Nat} (hi : i ∈ O) (t : tS K W ro F0 H0 OL O O (lT O i f) D σ H) : tApp K i (tD K W false f) D σ H := by
 show 'Չ'
 cases hl : ik ρ i with
 | error e =>
  have := mL hl
  subst this
  exact p.stuck (by unfold lT; rw [hl]; rfl)
 | ok ds =>
  show 'ի'
  refine bC r.mG r.st.fh (fun e he => p.nL r.st (by unfold lT; rw [hl]; show (f (erase O ρ)).bind _ = _; rw [he]; rfl)) fun d hd v F1 H1 s1 q => ?_
  have ez : lT O i f ρ = if ds.length < sizeLine then put ρ i (ds ++ [d]) else .error .stuck := by unfold lT; rw [hl]; show (f (erase O ρ)).bind _ = _; rw [hd]; rfl
  rw [ez] at p
  by_cases hs : ds.length < sizeLine
  ·rw [if_pos hs] at p
   exact ⟨a, xs, v, rfl, rfl, s1.hh _ _ ha, by rw [z.length]; exact hs, p σ F1 _ ((r.step s1).write hi (iA hl) e2 (aB.append (z.mono s1.ff) ⟨v, [], rfl, q, rfl⟩))⟩
  ·rw [if_neg hs] at p
   exact p.stuck rfl
theorem rs_appA {i : Nat} (hi : i ∈ O) (t : tS K W ro F0 H0 OL O O (tu i f) D σ H) : tApp K i (tD K W false f) D σ H := by
 show 'Չ'
 cases hl : ik ρ i with
 | error e =>
  have := mL hl
  subst this
  exact p.stuck (by unfold tu; rw [hl]; rfl)
 | ok ds =>
  show 'ի'
  refine bC r.mH r.iU (fun e he => p.nL (r.freeze (O2 := []) (by simp)).st (by unfold tu; rw [hl]; show (f ρ).bind _ = _; rw [he]; rfl)) fun d hd v F1 H1 s1 q => ?_
  have ez : tu i f ρ = if (il d && decide (ds.length < sizeLine)) = true then put ρ i (ds ++ [d]) else .error .stuck := by unfold tu; rw [hl]; show (f ρ).bind _ = _; rw [hd]; rfl
  rw [ez] at p
  by_cases hs : (il d && decide (ds.length < sizeLine)) = true
  ·rw [if_pos hs] at p
   simp only [Bool.and_eq_true, decide_eq_true_eq] at hs
   exact ⟨a, xs, v, rfl, rfl, s1.hh _ _ ha, by rw [z.length]; exact hs.2, p σ _ _ ((r.kS s1).write hi (iA hl) e2 (aB.append (z.mono (r.jb s1)) ⟨v, [], rfl, bT.flat (r.qu s1) hs.1 q, rfl⟩))⟩
  ·rw [if_neg hs] at p
   exact p.stuck rfl
theorem rs_setI {i : Nat} (hi : i ∈ O) (t : tS K W ro F0 H0 OL O O (uV i fi f) D σ H) : wW (tD K W false f) (gSub (tVar i) (tD K W false fi) rSetL) D σ H := by
 show 'Չ'
 refine bC r.mH r.iU (fun e he => p.nL (r.freeze (O2 := []) (by simp)).st (by unfold uV; rw [he]; rfl)) fun d hd v F1 H1 s1 q => ?_
 have ez : uV i fi f ρ = (ik ρ i).bind fun ds => (fi ρ).bind fun k => (asI k).bind fun k => if il d = true then (match ixN ds.length k with
  | some j => put ρ i (ds.set j d)
  | none => .error .stuck) else .error .stuck := by unfold uV; rw [hd]; rfl
 rw [ez] at p
 cases hl : ik ρ i with
 | error e =>
  have := mL hl
  subst this
  exact p.stuck (by rw [hl]; rfl)
 | ok ds =>
  rw [hl] at p
  have p : kM K W ro F0 H0 FB OL O D ((fi ρ).bind fun k => (asI k).bind fun k => if il d = true then (match ixN ds.length k with
   | some j => put ρ i (ds.set j d)
   | none => .error .stuck) else .error .stuck) := p
  have r1 := r.kS s1
  obtain ⟨a, xs, e2, ha, z⟩ := r1.w6 hi (iA hl)
  refine ⟨.ref a, e2, ?_⟩
  refine bC r1.mH r1.iU (fun e he => p.nL (r1.freeze (O2 := []) (by simp)).st (by rw [he]; rfl)) fun k hk w F2 H2 s2 q2 => ?_
  rw [hk] at p
  cases k with
  | int k =>
   have p : kM K W ro F0 H0 FB OL O D (if il d = true then (match ixN ds.length k with
    | some j => put ρ i (ds.set j d)
    | none => .error .stuck) else .error .stuck) := p
   by_cases hf : il d = true
   ·rw [if_pos hf] at p
    cases hj : ixN ds.length k with
    | none => rw [hj] at p; exact p.stuck rfl
    | some j =>
     rw [hj] at p
     refine ⟨a, xs, k, j, rfl, q2, s2.hh _ _ ha, by rw [z.length]; exact hj, ?_⟩
     have qd : bT K (minus F1 (n9 O [] σ ρ)) d v := bT.flat (r.qu s1) hf q
     exact p σ _ _ ((r1.kS s2).write hi (iA hl) e2 (aB.set (qd.mono (r1.jb s2)) j (z.mono (r1.jb s2))))
   ·rw [if_neg hf] at p
    exact p.stuck rfl
  | _ => exact p.stuck rfl
theorem rs_ret (t : tS K W ro F0 H0 OL O O' (gw f) D σ H) : tRet (tD K W ro f) D σ H := by
 show 'Չ'
 have rf := r.freeze (O2 := []) (by simp)
 refine bC r.mH r.iU (fun e he => p.nL rf.st (by unfold gw; rw [he]; rfl)) fun d hd v F1 H1 s1 q => ?_
 have z : gw f ρ = .ok (.rt d) := by unfold gw; rw [hd]; rfl
 rw [z] at p
 exact p v F1 H1 (rf.st.trans s1) (q.back r.st.hh)
theorem rs_for {fs : ao -> M (List Dat)} {pt : Pat} (n : ∀ i ∈ pt.names, i ∉ O) (t : tS K W ro F0 H0 OL O O (qo O fs pt g) D σ H) : tFor (iD K W fs) (gP K pt) (tS K W ro F0 H0 O O O g) D σ H := by
 show 'Չ'
 refine ⟨F, erase O ρ, r.mG, r.st.fh, ?_⟩
 cases e : fs (erase O ρ) with
 | error x => exact p.nL r.st (by unfold qo; rw [e]; rfl)
 | ok ds =>
  have z : qo O fs pt g ρ = j8 pt g ds ρ := by unfold qo; rw [e]; rfl
  rw [z] at p
  intro J F1 H1 s1 it
  refine ⟨fun i m σ H => ∃ F ρ, Rep K F0 H0 F1 O F H σ ρ /\ i <= ds.length /\ m = ds.length - i /\ kM K W ro F0 H0 FB OL O D (j8 pt g (ds.drop i) ρ), ⟨ds.length, F1, ρ, ?_, Nat.zero_le _, by omega, by rw [List.drop_zero]; exact p⟩, ?_⟩
  ·have r1 := r.step s1
   exact ⟨r1.st, aY.refl _, r1.len, r1.fz, r1.ow, r1.ap⟩
  ·rintro i m σ2 H2 ⟨F2, ρ2, r2, hi, rfl, p2⟩
   by_cases hlt : i < ds.length
   ·have ed : ds.drop i = ds[i] :: ds.drop (i + 1) := List.drop_eq_getElem_cons hlt
    rw [ed] at p2
    refine .inr ⟨it.go i F2 H2 r2.fb r2.st.fh hlt, fun σ' H' => (∃ F ρ, Rep K F0 H0 F1 O F H' σ' ρ /\ kM K W ro F0 H0 FB OL O D (j8 pt g (ds.drop (i + 1)) ρ)), fun σ' H' ⟨F, ρ, r, p⟩ => ⟨ds.length - (i + 1), by omega, F, ρ, r, hlt, rfl, p⟩, fun x H' y => ?_⟩
    obtain ⟨F3, s3, q3⟩ := it.yl i F2 H2 x H' ds[i] r2.fb r2.st.fh (by simp [hlt]) y
    have ef : j8 pt g (ds[i] :: ds.drop (i + 1)) ρ2 = (fj pt ds[i] ρ2).bind fun ρ1 => (g ρ1).bind fun fl => match fl with
     | .nx ρ2 => j8 pt g (ds.drop (i + 1)) ρ2
     | .ct ρ2 => j8 pt g (ds.drop (i + 1)) ρ2
     | .bk ρ2 => .ok (.nx ρ2)
     | .rt d => .ok (.rt d) := by rw [j8]
    rw [ef] at p2
    cases eb : fj pt ds[i] ρ2 with
    | error x =>
     have := mV eb
     subst this
     exact p2.stuck (by rw [eb]; rfl)
    | ok ρ3 =>
     rw [eb] at p2
     have p2 : kM K W ro F0 H0 FB OL O D ((g ρ3).bind fun fl => match fl with
      | .nx ρ2 => j8 pt g (ds.drop (i + 1)) ρ2
      | .ct ρ2 => j8 pt g (ds.drop (i + 1)) ρ2
      | .bk ρ2 => .ok (.nx ρ2)
      | .rt d => .ok (.rt d)) := p2
     refine zg (r2.step s3) n q3 eb fun σ4 r4 => ⟨F1, F3, ρ3, r4, ?_⟩
     have fb1 : aY FB F1 := (r.step s1).fb
     cases eg : g ρ3 with
     | error x => exact p2.err (by rw [eg]; rfl)
     | ok fl =>
      rw [eg] at p2
      cases fl with
      | nx ρ5 => exact fun σ' F' H' r' => ⟨F', ρ5, r', p2⟩
      | ct ρ5 => exact fun σ' F' H' r' => ⟨F', ρ5, r', p2⟩
      | bk ρ5 => exact fun σ' F' H' r' => p2 σ' F' H' (r'.base fb1)
      | rt d => exact p2
   ·have : i = ds.length := by omega
    subst this
    rw [List.drop_length] at p2
    exact .inl ⟨it.st F2 H2 r2.fb r2.st.fh, p2 σ2 F2 H2 (r2.base (r.step s1).fb)⟩
theorem rs_while {m : Nat} (t : tS K W ro F0 H0 OL O O (bU ft g m) D σ H) : tWhile (tDT K W ft) (tS K W ro F0 H0 O O O g) D σ H := by
 refine ⟨fun m σ H => tS K W ro F0 H0 OL O O (bU ft g m) D σ H, ⟨m, t⟩, ?_⟩
 rintro m σ H ⟨FB, F, ρ, r, p⟩
 cases m with
 | zero => exact p.stuck rfl
 | succ m =>
  have ez : bU ft g (m + 1) ρ = (ft ρ).bind fun b => if b = true then (g ρ).bind fun fl => match fl with
   | .nx ρ2 => bU ft g m ρ2
   | .ct ρ2 => bU ft g m ρ2
   | .bk ρ2 => .ok (.nx ρ2)
   | .rt d => .ok (.rt d) else .ok (.nx ρ) := by rw [bU]
  rw [ez] at p
  refine lZ r.mH r.iU (fun e he => p.nL (r.freeze (O2 := []) (by simp)).st (by rw [he]; rfl)) fun b hb F1 H1 s1 => ?_
  rw [hb] at p
  have r1 := r.kS s1
  cases b with
  | false => exact p σ _ H1 r1
  | true =>
   have p : kM K W ro F0 H0 FB OL O D ((g ρ).bind fun fl => match fl with
    | .nx ρ2 => bU ft g m ρ2
    | .ct ρ2 => bU ft g m ρ2
    | .bk ρ2 => .ok (.nx ρ2)
    | .rt d => .ok (.rt d)) := p
   refine ⟨fun σ' H' => tS K W ro F0 H0 OL O O (bU ft g m) D σ' H', fun σ' H' n => ⟨m, Nat.lt_succ_self _, n⟩, FB, _, ρ, r1, ?_⟩
   cases eg : g ρ with
   | error x => exact p.err (by rw [eg]; rfl)
   | ok fl =>
    rw [eg] at p
    cases fl with
    | nx ρ5 => exact fun σ' F' H' r' => ⟨FB, F', ρ5, r', p⟩
    | ct ρ5 => exact fun σ' F' H' r' => ⟨FB, F', ρ5, r', p⟩
    | bk ρ5 => exact fun σ' F' H' r' => p σ' F' H' r'
    | rt d => exact p
end
noncomputable def stk {α : Type} : M α := .error .stuck
noncomputable def lW : Dat -> Dat -> M Dat
 | .int i, .int j => .ok (.int (i + j))
 | .str x, .str y => if x.length + y.length <= sizeLine then .ok (.str (x ++ y)) else stk
 | .lst xs, .lst ys => if xs.length + ys.length <= sizeLine then .ok (.lst (xs ++ ys)) else stk
 | .tup xs, .tup ys => if xs.length + ys.length <= sizeLine then .ok (.tup (xs ++ ys)) else stk
 | _, _ => stk
noncomputable def subD : Dat -> Dat -> M Dat
 | .int i, .int j => .ok (.int (i - j))
 | _, _ => stk
noncomputable def eN (i : Int) : Bool := decide (-(2 ^ 64) < i) && decide (i < 2 ^ 64)
noncomputable def nZ : Dat -> Dat -> M Dat
 | .int i, .int j => if (eN i || eN j) = true then .ok (.int (i * j)) else stk
 | _, _ => stk
noncomputable def lV : Dat -> Dat -> M Dat
 | .int i, .int j => if (decide (0 < j) && decide (j < 18446744073709551616)) = true then .ok (.int (i / j)) else stk
 | _, _ => stk
noncomputable def my : Dat -> Dat -> M Dat
 | .int i, .int j => if 0 < j then .ok (.int (i % j)) else stk
 | _, _ => stk
noncomputable def powD : Dat -> Dat -> M Dat
 | .int i, .int j => if (decide (0 <= j) && decide (j <= 1000000) && decide (i.natAbs < 2 ^ 64)) = true then .ok (.int (i ^ j.toNat)) else stk
 | _, _ => stk
noncomputable def yI : Dat -> M Dat
 | .int i => .ok (.int (-i))
 | _ => stk
noncomputable def ltD : Dat -> Dat -> M Dat
 | .int i, .int j => .ok (.bl (decide (i < j)))
 | _, _ => stk
noncomputable def leD : Dat -> Dat -> M Dat
 | .int i, .int j => .ok (.bl (decide (i <= j)))
 | _, _ => stk
noncomputable def gtD : Dat -> Dat -> M Dat
 | .int i, .int j => .ok (.bl (decide (j < i)))
 | _, _ => stk
noncomputable def b2z (b : Bool) : Int := if b then 1 else 0
mutual
noncomputable def eqD : Dat -> Dat -> Bool
 | .non, .non => true
 | .bl a, .bl b => a == b
 | .bl a, .int b => b2z a == b
 | .int a, .bl b => a == b2z b
 | .int a, .int b => a == b
 | .str a, .str b => a == b
 | .tup xs, .tup ys => xJ xs ys
 | .lst xs, .lst ys => xJ xs ys
 | _, _ => false
noncomputable def xJ : List Dat -> List Dat -> Bool
 | [], [] => true
 | d :: ds, e :: es => eqD d e && xJ ds es
 | _, _ => false
end
mutual
noncomputable def okE : Dat -> Nat -> Bool
 | .tup ds, n => (match n with
  | 0 => false
  | n + 1 => hX ds n)
 | .lst ds, n => (match n with
  | 0 => false
  | n + 1 => hX ds n)
 | .ins _ _, _ => false
 | .non, _ => true
 | .bl _, _ => true
 | .int _, _ => true
 | .str _, _ => true
noncomputable def hX : List Dat -> Nat -> Bool
 | [], _ => true
 | d :: ds, n => okE d n && hX ds n
end
noncomputable def eqM (a b : Dat) : M Dat := if (okE a 40 && okE b 40) = true then .ok (.bl (eqD a b)) else stk
noncomputable def neM (a b : Dat) : M Dat := if (okE a 40 && okE b 40) = true then .ok (.bl (!eqD a b)) else stk
noncomputable def inM (a b : Dat) : M Dat := (qA b).bind fun ds => if (okE a 40 && hX ds 40) = true then .ok (.bl (ds.any fun d => eqD d a)) else stk
noncomputable def yF (a b : Dat) : M Dat := (qA b).bind fun ds => if (okE a 40 && hX ds 40) = true then .ok (.bl (!ds.any fun d => eqD d a)) else stk
noncomputable def isND : Dat -> Dat -> M Dat
 | .non, .non => .ok (.bl true)
 | _, .non => .ok (.bl false)
 | _, _ => stk
noncomputable def iY (ds : List Dat) (i : Int) : M Dat := match atI ds i with
 | some d => .ok d
 | none => stk
noncomputable def ixD : Dat -> Dat -> M Dat
 | .lst ds, .int i => iY ds i
 | .tup ds, .int i => iY ds i
 | _, _ => stk
noncomputable def nR : List Dat -> M Dat
 | [.lst ds] => .ok (.int ds.length)
 | [.tup ds] => .ok (.int ds.length)
 | _ => stk
noncomputable def ia : List Dat -> M (List Bool)
 | [] => .ok []
 | d :: ds => (asB d).bind fun b => (ia ds).bind fun r => .ok (b :: r)
noncomputable def cR : List Dat -> M (List Int)
 | [] => .ok []
 | d :: ds => (asI d).bind fun b => (cR ds).bind fun r => .ok (b :: r)
noncomputable def allD : List Dat -> M Dat
 | [.lst ds] => (ia ds).bind fun bs => .ok (.bl (bs.all id))
 | _ => stk
noncomputable def yO : List Dat -> M Dat
 | [.lst ds] => .ok (.lst ds)
 | [.tup ds] => .ok (.lst ds)
 | _ => stk
noncomputable def intD : List Dat -> M Dat
 | [.int i] => .ok (.int i)
 | [.bl b] => .ok (.int (b2z b))
 | _ => stk
noncomputable def kO (i j : Int) : Int := if j > i then j else i
noncomputable def kN (i j : Int) : Int := if j < i then j else i
noncomputable def maxL : List Int -> M Dat
 | [] => stk
 | i :: is => .ok (.int (is.foldl kO i))
noncomputable def minL : List Int -> M Dat
 | [] => stk
 | i :: is => .ok (.int (is.foldl kN i))
noncomputable def maxD : List Dat -> M Dat
 | [.int i, .int j] => .ok (.int (kO i j))
 | [.lst ds] => (cR ds).bind maxL
 | _ => stk
noncomputable def minD : List Dat -> M Dat
 | [.int i, .int j] => .ok (.int (kN i j))
 | [.lst ds] => (cR ds).bind minL
 | _ => stk
noncomputable def mO : Dat -> M Dat
 | .int _ => .ok (.bl true)
 | .bl _ => .ok (.bl true)
 | .ins _ _ => stk
 | _ => .ok (.bl false)
noncomputable def lb : Dat -> M Dat
 | .bl _ => .ok (.bl true)
 | .ins _ _ => stk
 | _ => .ok (.bl false)
noncomputable def jw : Dat -> M Dat
 | .lst _ => .ok (.bl true)
 | .ins _ _ => stk
 | _ => .ok (.bl false)
noncomputable def jv : Dat -> M Dat
 | .tup _ => .ok (.bl true)
 | .ins _ _ => stk
 | _ => .ok (.bl false)
noncomputable def j3 : Nat -> List Dat -> List Dat
 | _, [] => []
 | k, d :: ds => .tup [.int k, d] :: j3 (k + 1) ds
noncomputable def wc : Dat -> M (List Dat)
 | .lst ds => .ok ds
 | _ => .error .stuck
noncomputable def s9 (fa : ao -> M Dat) : ao -> M (List Dat) := fun ρ => (fa ρ).bind fun d => (wc d).bind fun ds => .ok (j3 0 ds)
noncomputable def bW (nN n : Nat) (g : ao -> M Flo) (ds : List Dat) : M Dat := if ds.length = n then (g (ds.map some ++ List.replicate (nN - ds.length) none)).bind fun fl => match fl with
 | .nx _ => .ok .non
 | .rt d => .ok d
 | _ => stk else stk
noncomputable def yo (ds : List Dat) (k : Dat) : M (Dat × List Dat) := (asI k).bind fun k => if sizeLine < ds.length then stk else match ixN ds.length k with
 | some j => match ds[j]? with
  | some d => .ok (d, ds.eraseIdx j)
  | none => stk
 | none => stk
noncomputable def ya (i : Nat) (pt : Pat) (fk : ao -> M Dat) : ao -> M Flo := fun ρ => (ik ρ i).bind fun ds => (fk ρ).bind fun k => (yo ds k).bind fun p => (fj pt p.1 (ρ.set i (some (.lst p.2)))).bind fun ρ' => .ok (.nx ρ')
@[simp] theorem ax {α β : Type} (a : α) (f : α -> M β) : Except.bind (Except.ok a : M α) f = f a := id rfl
@[simp] theorem kn {α β : Type} (e : Err) (f : α -> M β) : Except.bind (Except.error e : M α) f = .error e := id rfl
@[simp] theorem lg : ∀ is : List Int, cR (is.map Dat.int) = .ok is
 | [] => rfl
 | i :: is => by simp [cR, asI, lg is]
@[simp] theorem xG : ∀ is : List Bool, ia (is.map Dat.bl) = .ok is
 | [] => rfl
 | i :: is => by simp [ia, asB, xG is]
@[simp] theorem yC (n : Nat) : ∀ is : List Int, hX (is.map Dat.int) n = true
 | [] => by simp [hX]
 | i :: is => by simp [hX, okE, yC n is]
theorem eS {ds : List Dat} {k : Nat} (h : k < ds.length) : iY ds (k : Int) = .ok ds[k] := by
 unfold iY atI ixN
 rw [if_pos (by omega), if_pos (by omega)]
 simp [h]
theorem getI_int {is : List Int} {k : Int} (h0 : 0 <= k) (h : k < is.length) : iY (is.map Dat.int) k = .ok (.int (is[k.toNat]'(by omega))) := by
 have hj : k.toNat < (is.map Dat.int).length := by simp; omega
 have e : k = (k.toNat : Int) := by omega
 have := eS hj
 rw [<- e] at this
 rw [this]
 simp
theorem gK {p : Pat} {g : ao -> M Flo} (P : Nat -> ao -> Prop) : ∀ (ds : List Dat) (k : Nat) (ρ : ao), P k ρ ->
  (∀ (i : Nat) (d : Dat) (ρ : ao), ds[i]? = some d -> P (k + i) ρ -> ∃ ρ1, fj p d ρ = .ok ρ1 /\ ∃ ρ2, (g ρ1 = .ok (.nx ρ2) \/ g ρ1 = .ok (.ct ρ2)) /\ P (k + i + 1) ρ2) -> ∃ ρ', j8 p g ds ρ = .ok (.nx ρ') /\ P (k + ds.length) ρ'
 | [], k, ρ, h, _ => ⟨ρ, rfl, h⟩
 | d :: ds, k, ρ, h, st => by
  obtain ⟨ρ1, e1, ρ2, e2, h2⟩ := st 0 d ρ rfl h
  obtain ⟨ρ', e3, h3⟩ := gK P ds (k + 1) ρ2 h2 fun i d' ρ he hp => by
   show 'ւ'
   rw [show k + (i + 1) + 1 = k + 1 + i + 1 by omega] at this
   exact this
  refine ⟨ρ', ?_, by rw [show k + (d :: ds).length = k + 1 + ds.length by simp; omega]; exact h3⟩
  rw [j8, e1]
  rcases e2 with e2 | e2
  ·simp only [ax, e2]; exact e3
  ·simp only [ax, e2]; exact e3
theorem i8 {p : Pat} {fe : ao -> M Dat} {ρ0 : ao} (f : Dat -> Dat) : ∀ (ds : List Dat), (∀ d ∈ ds, ∃ ρ, fj p d ρ0 = .ok ρ /\ fe ρ = .ok (f d)) -> bM p pb fe ρ0 ds = .ok (ds.map f)
 | [], _ => rfl
 | d :: ds, h => by
  obtain ⟨ρ, e1, e2⟩ := h d (by simp)
  rw [bM, e1]
  simp only [ax, pb, e2, i8 f ds fun x hx => h x (by simp [hx])]
  simp
@[simp] theorem tf (i : Int) : eN i = (decide (-(2 ^ 64) < i) && decide (i < 2 ^ 64)) := id rfl
@[simp] theorem small_def2 (i : Int) : cA i = (decide (-(2 ^ 62) <= i) && decide (i < 2 ^ 62)) := id rfl
section
variable {ρ : ao} {fa fb fc : ao -> M Dat} {fr : ao -> M (List Dat)} {ft fu : ao -> M Bool} {g h : ao -> M Flo}
@[simp] theorem e_var0 (d : Dat) (r : ao) : ah 0 (some d :: r) = .ok d := id rfl
@[simp] theorem e_varS (i : Nat) (o : Option Dat) (r : ao) : ah (i + 1) (o :: r) = ah i r := by simp [ah]
@[simp] theorem e_c (d : Dat) : fC d ρ = .ok d := id rfl
@[simp] theorem e_1 (k : Dat -> M Dat) : f1 k fa ρ = (fa ρ).bind k := id rfl
@[simp] theorem e_2 (k : Dat -> Dat -> M Dat) : f2 k fa fb ρ = (fa ρ).bind fun a => (fb ρ).bind fun b => k a b := id rfl
@[simp] theorem e_nil : aJ ρ = .ok [] := id rfl
@[simp] theorem e_cons : aa fa fr ρ = (fa ρ).bind fun a => (fr ρ).bind fun r => .ok (a :: r) := id rfl
@[simp] theorem e_L (k : List Dat -> M Dat) : fL k fr ρ = (fr ρ).bind k := id rfl
@[simp] theorem e_ite : fIte ft fa fb ρ = (ft ρ).bind fun b => if b = true then fa ρ else fb ρ := id rfl
@[simp] theorem e_and : fAnd ft fu ρ = (ft ρ).bind fun b => if b = true then fu ρ else .ok false := id rfl
@[simp] theorem e_or : fOr ft fu ρ = (ft ρ).bind fun b => if b = true then .ok true else fu ρ := id rfl
@[simp] theorem e_not : xA ft ρ = (ft ρ).bind fun b => .ok (!b) := id rfl
@[simp] theorem e_B : fB fa ρ = (fa ρ).bind asB := id rfl
@[simp] theorem e_andV : sd fa fb ρ = (fa ρ).bind fun a => (asB a).bind fun b => if b = true then fb ρ else .ok (.bl false) := id rfl
@[simp] theorem e_tru : sQ fa ρ = (fa ρ).bind truD := id rfl
@[simp] theorem e_chain (k k' : Dat -> Dat -> M Dat) : jB k k' fa fb fc ρ = (fa ρ).bind fun a => (fb ρ).bind fun b => (k a b).bind fun x => (asB x).bind fun z => if z = true then (fc ρ).bind fun c => k' b c else .ok (.bl false) := id rfl
@[simp] theorem e_yes : pb ρ = .ok true := id rfl
@[simp] theorem e_it : fIt fa ρ = (fa ρ).bind qA := id rfl
@[simp] theorem e_rng (k : List Dat -> M (List Dat)) : pe k fr ρ = (fr ρ).bind k := id rfl
@[simp] theorem e_enum : s9 fa ρ = (fa ρ).bind fun d => (wc d).bind fun ds => .ok (j3 0 ds) := id rfl
@[simp] theorem e_comp (fi : ao -> M (List Dat)) (ix : List (Option Nat)) (p : Pat) : lE fi ix p ft fa ρ = (fi ρ).bind fun ds => if ds.length <= sizeLine then (bM p ft fa (lU ix ρ) ds).bind fun r => .ok (.lst r) else .error .stuck := id rfl
@[simp] theorem e_asB (b : Bool) : asB (.bl b) = .ok b := id rfl
@[simp] theorem e_asI (b : Int) : asI (.int b) = .ok b := id rfl
@[simp] theorem e_itemsL (ds : List Dat) : qA (.lst ds) = .ok ds := id rfl
@[simp] theorem e_itL (ds : List Dat) : wc (.lst ds) = .ok ds := id rfl
@[simp] theorem e_notD (b : Bool) : notD (.bl b) = .ok (.bl (!b)) := id rfl
@[simp] theorem e_truB (b : Bool) : truD (.bl b) = .ok b := id rfl
@[simp] theorem e_truL (ds : List Dat) : truD (.lst ds) = .ok (!ds.isEmpty) := id rfl
@[simp] theorem e_addI (i j : Int) : lW (.int i) (.int j) = .ok (.int (i + j)) := id rfl
@[simp] theorem e_subI (i j : Int) : subD (.int i) (.int j) = .ok (.int (i - j)) := id rfl
@[simp] theorem e_negI (i : Int) : yI (.int i) = .ok (.int (-i)) := id rfl
@[simp] theorem e_ltI (i j : Int) : ltD (.int i) (.int j) = .ok (.bl (decide (i < j))) := id rfl
@[simp] theorem e_leI (i j : Int) : leD (.int i) (.int j) = .ok (.bl (decide (i <= j))) := id rfl
@[simp] theorem e_gtI (i j : Int) : gtD (.int i) (.int j) = .ok (.bl (decide (j < i))) := id rfl
@[simp] theorem e_ixL (ds : List Dat) (i : Int) : ixD (.lst ds) (.int i) = iY ds i := id rfl
@[simp] theorem e_ixT (ds : List Dat) (i : Int) : ixD (.tup ds) (.int i) = iY ds i := id rfl
@[simp] theorem e_lenL (ds : List Dat) : nR [.lst ds] = .ok (.int ds.length) := id rfl
@[simp] theorem e_all (ds : List Dat) : allD [.lst ds] = (ia ds).bind fun bs => .ok (.bl (bs.all id)) := id rfl
@[simp] theorem e_listL (ds : List Dat) : yO [.lst ds] = .ok (.lst ds) := id rfl
@[simp] theorem e_intB (b : Bool) : intD [.bl b] = .ok (.int (b2z b)) := id rfl
@[simp] theorem e_max2 (i j : Int) : maxD [.int i, .int j] = .ok (.int (kO i j)) := id rfl
@[simp] theorem e_min2 (i j : Int) : minD [.int i, .int j] = .ok (.int (kN i j)) := id rfl
@[simp] theorem e_maxL (ds : List Dat) : maxD [.lst ds] = (cR ds).bind maxL := id rfl
@[simp] theorem e_isiBI (i : Int) : lb (.int i) = .ok (.bl false) := id rfl
@[simp] theorem e_isiII (i : Int) : mO (.int i) = .ok (.bl true) := id rfl
@[simp] theorem e_isiLL (ds : List Dat) : jw (.lst ds) = .ok (.bl true) := id rfl
@[simp] theorem e_isN (d : Dat) : isND d .non = .ok (.bl (match d with | .non => true | _ => false)) := by cases d <;> rfl
@[simp] theorem e_next : fE ρ = .ok (.nx ρ) := id rfl
@[simp] theorem e_seq : bg g h ρ = (g ρ).bind fun fl => match fl with
 | .nx ρ' => h ρ'
 | fl => .ok fl := id rfl
@[simp] theorem e_if : sIf ft g h ρ = (ft ρ).bind fun b => if b = true then g ρ else h ρ := id rfl
@[simp] theorem e_setB (O : List Nat) (i : Nat) : aM O i fa ρ = (fa (erase O ρ)).bind fun d => .ok (.nx (ρ.set i (some d))) := id rfl
@[simp] theorem e_setA (own : Bool) (i : Nat) : pP own i fa ρ = (fa ρ).bind fun d => if nJ own d = true then .ok (.nx (ρ.set i (some d))) else .error .stuck := id rfl
@[simp] theorem e_ret : gw fa ρ = (fa ρ).bind fun d => .ok (.rt d) := id rfl
@[simp] theorem e_for (O : List Nat) (fi : ao -> M (List Dat)) (p : Pat) : qo O fi p g ρ = (fi (erase O ρ)).bind fun ds => j8 p g ds ρ := id rfl
@[simp] theorem e_unpB (O : List Nat) (p : Pat) : uU O p fa ρ = (fa (erase O ρ)).bind fun d => (fj p d ρ).bind fun ρ' => .ok (.nx ρ') := id rfl
@[simp] theorem e_appA (i : Nat) : tu i fa ρ = (ik ρ i).bind fun ds => (fa ρ).bind fun d => if (il d && decide (ds.length < sizeLine)) = true then put ρ i (ds ++ [d]) else .error .stuck := id rfl
@[simp] theorem e_appB (O : List Nat) (i : Nat) : lT O i fa ρ = (ik ρ i).bind fun ds => (fa (erase O ρ)).bind fun d => if ds.length < sizeLine then put ρ i (ds ++ [d]) else .error .stuck := id rfl
@[simp] theorem e_setI (i : Nat) : uV i fb fa ρ = (fa ρ).bind fun d => (ik ρ i).bind fun ds => (fb ρ).bind fun k => (asI k).bind fun k => if il d = true then (match ixN ds.length k with
 | some j => put ρ i (ds.set j d)
 | none => .error .stuck) else .error .stuck := id rfl
@[simp] theorem e_popU (i : Nat) (pt : Pat) : ya i pt fa ρ = (ik ρ i).bind fun ds => (fa ρ).bind fun k => (yo ds k).bind fun p => (fj pt p.1 (ρ.set i (some (.lst p.2)))).bind fun ρ' => .ok (.nx ρ') := id rfl
@[simp] theorem e_put (i : Nat) (ds : List Dat) : put ρ i ds = .ok (.nx (ρ.set i (some (.lst ds)))) := id rfl
@[simp] theorem e_lst0 (ds : List Dat) (r : ao) : ik (some (.lst ds) :: r) 0 = .ok ds := id rfl
@[simp] theorem e_lstS (i : Nat) (o : Option Dat) (r : ao) : ik (o :: r) (i + 1) = ik r i := by simp [ik]
@[simp] theorem e_er0 : erase [] ρ = ρ := id rfl
@[simp] theorem e_erS (i : Nat) (O : List Nat) : erase (i :: O) ρ = erase O (ρ.set i none) := id rfl
@[simp] theorem e_bnm (i : Nat) (d : Dat) : fj (.nm i) d ρ = .ok (ρ.set i (some d)) := id rfl
@[simp] theorem e_btp (is : List Nat) (ds : List Dat) : fj (.tp is) (.tup ds) ρ = if ds.length = is.length then .ok (kT is ds ρ) else .error .stuck := id rfl
@[simp] theorem e_sa0 (ds : List Dat) : kT [] ds ρ = ρ := by cases ds <;> rfl
@[simp] theorem e_saS (i : Nat) (is : List Nat) (d : Dat) (ds : List Dat) : kT (i :: is) (d :: ds) ρ = kT is ds (ρ.set i (some d)) := id rfl
@[simp] theorem e_in0 : lU [] ρ = [] := id rfl
@[simp] theorem e_inN (ix : List (Option Nat)) : lU (none :: ix) ρ = none :: lU ix ρ := id rfl
@[simp] theorem e_inS (j : Nat) (ix : List (Option Nat)) : lU (some j :: ix) ρ = (ρ[j]?).join :: lU ix ρ := id rfl
@[simp] theorem e_tup (ds : List Dat) : jq ds = if ds.length <= sizeLine then .ok (.tup ds) else .error .stuck := id rfl
@[simp] theorem e_lst (ds : List Dat) : jr ds = if ds.length <= sizeLine then .ok (.lst ds) else .error .stuck := id rfl
@[simp] theorem e_line : sizeLine = 16777216 := sizeLine_eq
@[simp] theorem e_run (a b : Nat) (ds : List Dat) : bW a b g ds = if ds.length = b then (g (ds.map some ++ List.replicate (a - ds.length) none)).bind fun fl => match fl with
 | .nx _ => .ok .non
 | .rt d => .ok d
 | _ => stk else stk := id rfl
@[simp] theorem e_rng1 {j : Int} (h : cA j = true) : uW [.int j] = .ok (aX 0 j.toNat) := by show (if cA j = true then _ else _) = _; rw [if_pos h]
@[simp] theorem e_rng2 {i j : Int} (h : cA i = true) (h2 : cA j = true) : rng2 [.int i, .int j] = .ok (aX i (j - i).toNat) := by show (if (cA i && cA j) = true then _ else _) = _; rw [h, h2, Bool.and_true, if_pos rfl]
@[simp] theorem pZ {i j : Int} (h : 0 < j) : my (.int i) (.int j) = .ok (.int (i % j)) := by simp [my, h]
@[simp] theorem e_fdiv {i j : Int} (h : 0 < j) (h2 : j < 18446744073709551616) : lV (.int i) (.int j) = .ok (.int (i / j)) := by simp [lV, h, h2]
@[simp] theorem tZ {i j : Int} (h : eN j = true) : nZ (.int i) (.int j) = .ok (.int (i * j)) := by show (if (eN i || eN j) = true then _ else _) = _; rw [h, Bool.or_true, if_pos rfl]
@[simp] theorem zo {i j : Int} (h : eN i = true) : nZ (.int i) (.int j) = .ok (.int (i * j)) := by show (if (eN i || eN j) = true then _ else _) = _; rw [h, Bool.true_or, if_pos rfl]
end
end L2
namespace L2
open PySem PySem.Spec PyProof.Rows
section
variable {X : Cx} {K : PySem.W.Frag} {W : gF} {own ro : Bool} {e a b c : Expr} {es rest : List Expr} {x : Str} {pos p : Pos} {f fa fb fc : ao -> M Dat} {fr : ao -> M (List Dat)} {ft fu : ao -> M Bool}
theorem PE.imp {t t' : TE} (h : PE X e t) (q : ∀ σ H Q, t' σ H Q -> t σ H Q) : PE X e t' := fun pins s σ H Q I z => h pins s σ H Q I (q σ H Q z)
theorem PT.imp {t t' : TT} (h : PT X e t) (q : ∀ σ H Q, t' σ H Q -> t σ H Q) : PT X e t' := fun pins s σ H Q I z => h pins s σ H Q I (q σ H Q z)
theorem PW.imp {t t' : TT} (h : PW X e t) (q : ∀ σ H Q, t' σ H Q -> t σ H Q) : PW X e t' := fun wh pins s σ H Q I z => h wh pins s σ H Q I (q σ H Q z)
theorem PA.imp {t t' : TA} (h : PA X es t) (q : ∀ σ H Q, t' σ H Q -> t σ H Q) : PA X es t' := fun ps pins s σ H Q I z => h ps pins s σ H Q I (q σ H Q z)
theorem PI.imp {tg : Expr} {t t' : TI} (h : PI X tg e t) (q : ∀ σ H Q, t' σ H Q -> t σ H Q) : PI X tg e t' := fun pins s σ H Q I z => h pins s σ H Q I (q σ H Q z)
theorem PS.imp {st : Stmt} {t t' : TS} (h : PS X st t) (q : ∀ D σ H, t' D σ H -> t D σ H) : PS X st t' := fun pins s σ H D I z => h pins s σ H D I (q D σ H z)
theorem PSs.imp {st : List Stmt} {t t' : TS} (h : PSs X st t) (q : ∀ D σ H, t' D σ H -> t D σ H) : PSs X st t' := fun pins s σ H D I z => h pins s σ H D I (q D σ H z)
noncomputable abbrev DE (K : PySem.W.Frag) (W : gF) (own : Bool) (X : Cx) (e : Expr) (f : ao -> M Dat) : Prop := PE X e (tD K W own f)
noncomputable abbrev DT (K : PySem.W.Frag) (W : gF) (X : Cx) (e : Expr) (f : ao -> M Bool) : Prop := PT X e (tDT K W f)
noncomputable abbrev DW (K : PySem.W.Frag) (W : gF) (X : Cx) (e : Expr) (f : ao -> M Bool) : Prop := PW X e (tDT K W f)
noncomputable abbrev DA (K : PySem.W.Frag) (W : gF) (X : Cx) (es : List Expr) (f : ao -> M (List Dat)) : Prop := PA X es (tDA K W f)
noncomputable abbrev DI (K : PySem.W.Frag) (W : gF) (X : Cx) (tg e : Expr) (f : ao -> M (List Dat)) : Prop := PI X tg e (iD K W f)
noncomputable abbrev DG (K : PySem.W.Frag) (X : Cx) (tg : Expr) (p : Pat) : Prop := PG X tg (gP K p)
noncomputable abbrev DS (K : PySem.W.Frag) (W : gF) (ro : Bool) (X : Cx) (OL O O' : List Nat) (st : Stmt) (g : ao -> M Flo) : Prop := ∀ F0 H0 : Hp, PS X st (tS K W ro F0 H0 OL O O' g)
noncomputable abbrev DSs (K : PySem.W.Frag) (W : gF) (ro : Bool) (X : Cx) (OL O O' : List Nat) (st : List Stmt) (g : ao -> M Flo) : Prop := ∀ F0 H0 : Hp, PSs X st (tS K W ro F0 H0 OL O O' g)
noncomputable abbrev Op2 (K : PySem.W.Frag) (W : gF) (own : Bool) (X : Cx) (o : Value -> Value -> Sem Value) (g : Dat -> Dat -> M Dat) : Prop := OpR X o (rD2 K W own g)
noncomputable abbrev sO (K : PySem.W.Frag) (W : gF) (own : Bool) (X : Cx) (v : Value) (g : List Dat -> M Dat) : Prop := dq X v (rDL K W own g)
theorem ak (i : Nat) (hN : X.N[i]? = some x := by rfl) (hv : Vis X.env.scope x := by first | exact Or.inl rfl | exact Or.inr (Or.inl rfl) | exact Or.inr (Or.inr rfl)) (hd : (x == ("__debug__" : Str)) = false := by decide)
  (hcd : (x == ("__classdict__" : Str)) = false := by decide) : DE K W false X (.Name x pos) (ah i) := (pv i hN hv hd hcd).imp fun _ _ _ => rd_var
theorem af {i : Int} {j} : DE K W false X (.Constant (.int i) j pos) (fC (.int i)) := vY.imp fun _ _ _ => rd_c fun _ => rfl
theorem o7 {k : Bool} {j} : DE K W false X (.Constant (.bool k) j pos) (fC (.bl k)) := pe_bl.imp fun _ _ _ => rd_c fun _ => rfl
theorem zu {j} : DE K W false X (.Constant .none j pos) (fC .non) := pe_non.imp fun _ _ _ => rd_c fun _ => rfl
theorem qJ {z : Str} {j} : DE K W false X (.Constant (.str z) j pos) (fC (.str z)) := pe_str.imp fun _ _ _ => rd_c fun _ => rfl
theorem zv {n : Int} (hm : ∃ t, X.mg x = some (.int n t)) (hg : Gl X x := by rfl) (hd : (x == ("__debug__" : Str)) = false := by decide) : DE K W false X (.Name x pos) (fC (.int n)) := (pe_gint hg hm hd).imp fun _ _ _ => rd_c fun _ => rfl
theorem aT (h : DE K W true X e f) : DE K W false X e f := PE.imp h fun _ _ _ ⟨F, ρ, r, s, p⟩ => ⟨F, ρ, r, s, p.frz⟩
theorem aA {op : Operator} {g : Dat -> Dat -> M Dat} (ho : Op2 K W own X (binaryOp op) g) (ha : DE K W false X a fa) (hb : DE K W false X b fb) : DE K W own X (.BinOp a op b pos) (f2 g fa fb) := (pe_op ho ha hb).imp fun _ _ _ => rd_2
theorem su {op : UnaryOp} {g : Dat -> M Dat} (ho : UnR X (unaryOp op) (rD1 K W own g)) (ha : DE K W false X a fa) : DE K W own X (.UnaryOp op a pos) (f1 g fa) := (pe_un ho ha).imp fun _ _ _ => rd_1
theorem u7 {op : CmpOp} {g : Dat -> Dat -> M Dat} (ho : Op2 K W false X (compareOp op) g) (ha : DE K W false X a fa) (hb : DE K W false X b fb) (hm : behindInMarks op b = false := by first | exact yG _ | with_unfolding_all rfl) : DE K W false X (.Compare a [op] [b] pos) (f2 g fa fb) :=
 (pe_cmpR ho ha hb hm).imp fun _ _ _ => rd_2
theorem cD {op : CmpOp} {g : Dat -> Dat -> M Dat} (ho : Op2 K W false X (compareOp op) g) (ha : DE K W false X a fa) (hb : DE K W false X b fb) (hm : behindInMarks op b = false := by first | exact yG _ | with_unfolding_all rfl) : DT K W X (.Compare a [op] [b] pos) (fB (f2 g fa fb)) :=
 (yh ho ha hb hm).imp fun σ H Q h => by
  have q := rd_B h
  exact rd_2 (own := false) q
theorem wA {op op' : CmpOp} {g g' : Dat -> Dat -> M Dat} (ho : Op2 K W false X (compareOp op) g) (ho' : Op2 K W false X (compareOp op') g') (ha : DE K W false X a fa) (hb : DE K W false X b fb) (hc : DE K W false X c fc)
  (hm : lastMarks [op, op'] [b, c] = false := by with_unfolding_all rfl) : DE K W false X (.Compare a [op, op'] [b, c] pos) (jB g g' fa fb fc) := (pe_chain ho ho' ha hb hc hm).imp fun _ _ _ => vU
theorem si {op op' : CmpOp} {g g' : Dat -> Dat -> M Dat} (ho : Op2 K W false X (compareOp op) g) (ho' : Op2 K W false X (compareOp op') g') (ha : DE K W false X a fa) (hb : DE K W false X b fb) (hc : DE K W false X c fc)
  (hm : lastMarks [op, op'] [b, c] = false := by with_unfolding_all rfl) : DT K W X (.Compare a [op, op'] [b, c] pos) (fB (jB g g' fa fb fc)) := (pt_chain ho ho' ha hb hc hm).imp fun σ H Q h => by
  have q := rd_B h
  exact vU q
theorem lX (ha : DE K W false X a fa) (hK : X.K = K := by rfl) (he : ∀ whole, isTrue a X.env whole = (do let v <- whole; standAt a.pos; holding [v] (truthy v)) := by intro _; rfl) : DT K W X a (sQ fa) := by
 subst hK
 exact (pt_truth ha he).imp fun _ _ _ => rd_tru
theorem qH (ha : DT K W X a ft) : DT K W X (.UnaryOp .Not a pos) (xA ft) := (pt_not ha).imp fun _ _ _ => rd_not
theorem zq (ha : DT K W X a ft) : DW K W X (.BoolOp .And [a] pos) ft := pw_and1 ha
theorem wx (ha : DT K W X a ft) : DW K W X (.BoolOp .Or [a] pos) ft := pw_or1 ha
theorem dw_and (ha : DT K W X a ft) (hb : DW K W X (.BoolOp .And (b :: rest) pos) fu) : DW K W X (.BoolOp .And (a :: b :: rest) pos) (fAnd ft fu) := (pw_and ha hb).imp fun _ _ _ => rd_and
theorem zp (ha : DT K W X a ft) (hb : DW K W X (.BoolOp .Or (b :: rest) pos) fu) : DW K W X (.BoolOp .Or (a :: b :: rest) pos) (fOr ft fu) := (pw_or ha hb).imp fun _ _ _ => rd_or
theorem de_one {op} (h : DE K W false X a f) : DE K W false X (.BoolOp op [a] pos) f := pe_one h
theorem zx (ha : DE K W false X a fa) (hb : DE K W false X (.BoolOp .And (b :: rest) pos) fb) : DE K W false X (.BoolOp .And (a :: b :: rest) pos) (sd fa fb) := (yx ha hb).imp fun _ _ _ => rd_andV
theorem de_not (ha : DE K W false X a fa) : DE K W false X (.UnaryOp .Not a pos) (f1 notD fa) := (pe_not ha).imp fun _ _ _ => rd_notV
theorem de_ite (hc : DT K W X c ft) (ha : DE K W own X a fa) (hb : DE K W own X b fb) : DE K W own X (.IfExp c a b pos) (fIte ft fa fb) := (pe_ifExp hc ha hb).imp fun _ _ _ => rd_ite
theorem aj : DA K W X [] aJ := dk.imp fun _ _ _ => rd_nil
theorem a8 (ha : DE K W false X e fa) (hr : DA K W X es fr) (hs : starEach (e :: es) X.env = (false, eval e X.env) :: starEach es X.env := by rfl) : DA K W X (e :: es) (aa fa fr) := (aS ha hr hs).imp fun _ _ _ => rd_cons
theorem iH {x1} (h : DA K W X es fr) : DE K W own X (.Tuple es x1 pos) (fL jq fr) := (yt h).imp fun _ _ _ => rd_tup
theorem gE (h : DA K W X es fr) : DE K W true X (.List es pos) (fL jr fr) := (pe_lst h).imp fun _ _ _ => rd_lst
theorem aE {id : String} {g : List Dat -> M Dat} (hc : sO K W own X (.builtin id) g) (hm : X.mg x = none) (hv : bootBuiltins x = some (.builtin id)) (ha : DA K W X (e :: es) fr) (hg : Gl X x := by rfl) (hn : x ≠ "__name__" := by decide) (hdb : (x == ("__debug__" : Str)) = false := by decide)
  (hst : starEach (e :: es) X.env = (false, eval e X.env) :: starEach es X.env := by rfl) (hpl : (backTo pos (starEach es X.env)).any (·.1) = false := by rfl) : DE K W own X (.Call (.Name x p) (e :: es) [] pos) (fL g fr) :=
 (fV hc hg hm hv ha hn hdb hst hpl).imp fun _ _ _ => rd_L
theorem px {T : String} {g : List Dat -> M Dat} (hc : sO K W own X (.type T) g) (hm : X.mg x = none) (hv : bootBuiltins x = some (.type T)) (ha : DA K W X (e :: es) fr) (hg : Gl X x := by rfl) (hn : x ≠ "__name__" := by decide) (hdb : (x == ("__debug__" : Str)) = false := by decide)
  (hst : starEach (e :: es) X.env = (false, eval e X.env) :: starEach es X.env := by rfl) (hpl : (backTo pos (starEach es X.env)).any (·.1) = false := by rfl) : DE K W own X (.Call (.Name x p) (e :: es) [] pos) (fL g fr) :=
 (tG hc hg hm hv ha hn hdb hst hpl).imp fun _ _ _ => rd_L
theorem az {g : Dat -> Dat -> M Dat} (hr : IxR X (rD2 K W own g)) (ha : DE K W false X a fa) (hb : DE K W false X b fb) (hs : zX b := by exact fun _ _ => rfl) : DE K W own X (.Subscript a b pos) (f2 g fa fb) := (pe_ix hr ha hb hs).imp fun _ _ _ => rd_2
theorem sq {i : Nat} (hN : X.N.Nodup) (hi : X.N[i]? = some x := by rfl) (hx : Loc X.env.scope x := by first | exact Or.inl rfl | exact Or.inr rfl) (hf : X.fn x = true \/ X.env.scope.names.lookup x = some .local := by first | exact .inl rfl | exact .inr rfl | assumption) : DG K X (.Name x pos) (.nm i) := uZ hN hi hx hf
theorem kI {tg : Expr} (hl : DE K W false X e fa) (hK : X.K = K := by rfl) : DI K W X tg e (fIt fa) := by
 subst hK
 refine PI.imp (t := iSeq X.K (tD X.K W false fa)) ?_ fun _ _ _ => ri_seq
 intro pins s σ H R I h
 refine thn (hl pins s σ H _ I h) fun v s1 ⟨y, H1, I1, r1, q1⟩ => ?_
 obtain ⟨l, e1, q⟩ := q1
 subst e1
 cases r1
 rcases q with ⟨⟨xs, hq⟩, q⟩ | ⟨⟨xs, hq⟩, q⟩
 ·obtain ⟨its, rv, p, hz⟩ := I1.list hq
  refine wpAny_pyIter_list p.isList ?_
  refine ⟨s1.heap.objs.size, [s1.heap.objs.size], _, _, H1, rfl, I1.kept (t' := s1.toks) fun b o e => Heap.get?_push_of_some _ e, xS l _, ⟨_, Heap.get?_push_size _ rfl, rfl, rfl⟩, fun b hb => ?_, q⟩
  show 'չ'
 ·obtain ⟨its, rv, p, hz⟩ := I1.tuple hq
  refine wpAny_pyIter_tuple (show s1.heap.IsTuple l its.toArray from p) ?_
  refine ⟨s1.heap.objs.size, [s1.heap.objs.size], _, _, H1, rfl, I1.kept (t' := s1.toks) fun b o e => Heap.get?_push_of_some _ e, wU l _, ⟨_, Heap.get?_push_size _ rfl, rfl, rfl⟩, fun b hb => ?_, q⟩
  show 'չ'
theorem kh {tg : Expr} (hm : X.mg "range" = none) (ha : DA K W X [a] fr) (hg : Gl X "range" := by rfl) (hs : starEach [a] X.env = [(false, eval a X.env)] := by rfl) : DI K W X tg (.Call (.Name "range" p) [a] [] pos) (pe uW fr) := (yq hg hm ha hs).imp fun _ _ _ => ri_rng1
theorem di_rng2 {tg : Expr} (hm : X.mg "range" = none) (ha : DA K W X [a, b] fr) (hg : Gl X "range" := by rfl) (hs : starEach [a, b] X.env = [(false, eval a X.env), (false, eval b X.env)] := by rfl) (hs2 : starEach [b] X.env = [(false, eval b X.env)] := by rfl) :
  DI K W X tg (.Call (.Name "range" p) [a, b] [] pos) (pe rng2 fr) := (yp hg hm ha hs hs2).imp fun _ _ _ => ri_rng2
variable {OL O O' O2 : List Nat} {st : Stmt} {sts : List Stmt} {g h : ao -> M Flo}
theorem cE : DSs K W ro X OL O O [] fE := fun _ _ => yi.imp fun _ _ _ => rs_next
theorem ai (h1 : DS K W ro X OL O O' st g) (h2 : DSs K W ro X OL O' O2 sts h) : DSs K W ro X OL O O2 (st :: sts) (bg g h) := fun F0 H0 => (mI (h1 F0 H0) (h2 F0 H0)).imp fun _ _ _ => rs_seq
theorem ay (h1 : DS K W ro X OL O O' st g) : DSs K W ro X OL O O' [st] g := fun F0 H0 => nu (h1 F0 H0)
theorem cF (h1 : DSs K W ro X OL O2 O' sts g) (hs : ∀ i ∈ O2, i ∈ O := by decide) : DSs K W ro X OL O O' sts g := fun F0 H0 => PSs.imp (h1 F0 H0) fun _ _ _ => tS.enter hs
theorem gB {sa sb : List Stmt} (hc : DT K W X c ft) (ha : DSs K W ro X OL O O' sa g) (hb : DSs K W ro X OL O O' sb h) : DS K W ro X OL O O' (.If c sa sb pos) (sIf ft g h) := fun F0 H0 => (ps_if hc (ha F0 H0) (hb F0 H0)).imp fun _ _ _ => rs_if
theorem aw {i : Nat} {pos' : Pos} (hN : X.N.Nodup) (he : DE K W own X e f) (hi : X.N[i]? = some x := by rfl) (hx : Loc X.env.scope x := by first | exact Or.inl rfl | exact Or.inr rfl) (hs : swapsWith e (some (.Name x pos')) pos.line X.env = pure false := by rfl) (hf : X.fn x = true \/ X.env.scope.names.lookup x = some .local := by first | exact .inl rfl | exact .inr rfl | assumption) :
  DS K W ro X OL O (aft own i O) (.Assign [.Name x pos'] e pos) (aM O i f) := fun F0 H0 => (tB hN hi hx he hs hf).imp fun _ _ _ => yc
theorem sk {i : Nat} {pos' : Pos} (hN : X.N.Nodup) (he : DE K W own X e f) (hi : X.N[i]? = some x := by rfl) (hx : Loc X.env.scope x := by first | exact Or.inl rfl | exact Or.inr rfl) (hs : swapsWith e (some (.Name x pos')) pos.line X.env = pure false := by rfl) (hf : X.fn x = true \/ X.env.scope.names.lookup x = some .local := by first | exact .inl rfl | exact .inr rfl | assumption) :
  DS K W ro X OL O (aft own i O) (.Assign [.Name x pos'] e pos) (pP own i f) := fun F0 H0 => (tB hN hi hx he hs hf).imp fun _ _ _ => rs_setA
theorem aO (he : DE K W ro X e f) : DS K W ro X OL O O' (.Return (some e) pos) (gw f) := fun F0 H0 => (ps_ret he).imp fun _ _ _ => rs_ret
theorem iG {tg iter : Expr} {body : List Stmt} {fs : ao -> M (List Dat)} {pt : Pat} (hi : DI K W X tg iter fs) (hg : DG K X tg pt) (hb : DSs K W ro X O O O body g) (n : ∀ i ∈ pt.names, i ∉ O := by decide) (hp : PassesOwn (model X.prog X.w) X.A X.env X.xe := by exact PassesOwn.never) (hc : X.calm = true := by rfl)
  (hs : ∀ x, foldedSetIterable iter X.env x = pure x := by intro _; rfl) : DS K W ro X OL O O (.For tg iter body [] pos) (qo O fs pt g) := fun F0 H0 => (ps_for hp hc hi hg (hb F0 H0) hs).imp fun _ _ _ => rs_for n
theorem sj {m : Nat} {body : List Stmt} (hc : DT K W X c ft) (hb : DSs K W ro X O O O body g) (hp : PassesOwn (model X.prog X.w) X.A X.env X.xe := by exact PassesOwn.never) : DS K W ro X OL O O (.While c body [] pos) (bU ft g m) := fun F0 H0 => (ps_while hp hc (hb F0 H0)).imp fun _ _ _ => rs_while
theorem kg {i : Nat} {apos : Pos} {q : Pos} (he : DE K W false X e f) (ho : i ∈ O := by decide) (hN : X.N[i]? = some x := by rfl) (hv : Vis X.env.scope x := by first | exact Or.inl rfl | exact Or.inr (Or.inl rfl) | exact Or.inr (Or.inr rfl)) (hd : (x == ("__debug__" : Str)) = false := by decide) (hcd : (x == ("__classdict__" : Str)) = false := by decide) (hK : X.K = K := by rfl)
  (hst : starEach [e] X.env = [(false, eval e X.env)] := by rfl) (hbase : attributeBase (.Name x p) "append" X.env (eval (.Name x p) X.env) = eval (.Name x p) X.env := by rfl) (hfew : ((backTo q (starEach [e] X.env)).all (fun x => !x.1) && (backToKw q (keywordEach [] X.env)).all (fun x => x.1.isSome) && decide ([e].length + ([] : List Keyword).length + (if ([] : List Keyword).isEmpty then 0 else 1) < 30)) = true := by rfl) (hplain : (backTo q (starEach [] X.env)).any (·.1) = false := by rfl) (hline : (apos.endLine == q.line) = true := by rfl) (hsw : swapsWith (.Call (.Attribute (.Name x p) "append" apos) [e] [] q) none pos.line X.env = pure false := by rfl) :
  DS K W ro X OL O O (.Expr (.Call (.Attribute (.Name x p) "append" apos) [e] [] q) pos) (lT O i f) := fun F0 H0 => by
 subst hK
 exact PS.imp (uX (pe_bm PySem.F.plainAttrs_list PySem.F.slot_list_append PySem.F.type_list_append tR (pv i hN hv hd hcd) (aS he dk hst) hbase hfew hline hst hplain) hsw) fun _ _ _ => rs_appB ho
theorem ds_appA {i : Nat} {apos : Pos} {q : Pos} (he : DE K W false X e f) (ho : i ∈ O := by decide) (hN : X.N[i]? = some x := by rfl) (hv : Vis X.env.scope x := by first | exact Or.inl rfl | exact Or.inr (Or.inl rfl) | exact Or.inr (Or.inr rfl)) (hd : (x == ("__debug__" : Str)) = false := by decide) (hcd : (x == ("__classdict__" : Str)) = false := by decide) (hK : X.K = K := by rfl)
  (hst : starEach [e] X.env = [(false, eval e X.env)] := by rfl) (hbase : attributeBase (.Name x p) "append" X.env (eval (.Name x p) X.env) = eval (.Name x p) X.env := by rfl) (hfew : ((backTo q (starEach [e] X.env)).all (fun x => !x.1) && (backToKw q (keywordEach [] X.env)).all (fun x => x.1.isSome) && decide ([e].length + ([] : List Keyword).length + (if ([] : List Keyword).isEmpty then 0 else 1) < 30)) = true := by rfl) (hplain : (backTo q (starEach [] X.env)).any (·.1) = false := by rfl) (hline : (apos.endLine == q.line) = true := by rfl) (hsw : swapsWith (.Call (.Attribute (.Name x p) "append" apos) [e] [] q) none pos.line X.env = pure false := by rfl) :
  DS K W ro X OL O O (.Expr (.Call (.Attribute (.Name x p) "append" apos) [e] [] q) pos) (tu i f) := fun F0 H0 => by
 subst hK
 exact PS.imp (uX (pe_bm PySem.F.plainAttrs_list PySem.F.slot_list_append PySem.F.type_list_append tR (pv i hN hv hd hcd) (aS he dk hst) hbase hfew hline hst hplain) hsw) fun _ _ _ => rs_appA ho
end
end L2
namespace L2
open PySem PySem.Spec PyProof.Rows
section
variable {X : Cx} {K : PySem.W.Frag} {W : gF} {own : Bool}
theorem OpR.imp {f : Value -> Value -> Sem Value} {r r' : R2} (h : OpR X f r) (q : ∀ x y H Q, r' x y H Q -> r x y H Q) : OpR X f r' := fun pins s σ H x y v u Q I rx ry z => h pins s σ H x y v u Q I rx ry (q x y H Q z)
theorem UnR.imp {f : Value -> Sem Value} {r r' : V -> Hp -> VK -> Prop} (h : UnR X f r) (q : ∀ x H Q, r' x H Q -> r x H Q) : UnR X f r' := fun pins s σ H x v Q I rx z => h pins s σ H x v Q I rx (q x H Q z)
theorem dq.imp {f : Value} {r r' : List V -> Hp -> VK -> Prop} (h : dq X f r) (q : ∀ x H Q, r' x H Q -> r x H Q) : dq X f r' := fun pins s σ H x v Q I rx z => h pins s σ H x v Q I rx (q x H Q z)
theorem IxR.imp {r r' : R2} (h : IxR X r) (q : ∀ x y H Q, r' x y H Q -> r x y H Q) : IxR X r' := fun va sl pins s σ H x y v u Q I rx ry z e => h va sl pins s σ H x y v u Q I rx ry (q x y H Q z) e
theorem aI.stuck {F H : Hp} {Q : VK} {P : Prop} (p : aI K W own F H (stk) Q) : P := (W.ns p).elim
theorem aI.int {F H : Hp} {Q : VK} {i : Int} (p : aI K W own F H (.ok (.int i)) Q) (s : aY F H) : Q (.int i) H := p _ F H (Step.refl s) (by cases own <;> rfl)
theorem aI.bl {F H : Hp} {Q : VK} {b : Bool} (p : aI K W own F H (.ok (.bl b)) Q) (s : aY F H) : Q (.bl b) H := p _ F H (Step.refl s) (by cases own <;> rfl)
theorem aI.str {F H : Hp} {Q : VK} {x : Str} (p : aI K W own F H (.ok (.str x)) Q) (s : aY F H) : Q (.str x) H := p _ F H (Step.refl s) (by cases own <;> rfl)
theorem aI.tup {F H : Hp} {Q : VK} {ds : List Dat} {xs : List V} {a : Addr} (p : aI K W own F H (.ok (.tup ds)) Q) (s : aY F H) (q : aB K F ds xs) (ha : H a = none) : Q (.ref a) (upd H a (.tup xs)) :=
 p _ _ _ (Step.lay s ha) (by
  have : bT K (upd F a (.tup xs)) (.tup ds) (.ref a) := ⟨a, xs, rfl, SqT.of av, q.mono (aY.upd (s.free ha))⟩
  cases own <;> exact this)
theorem aI.same {F H : Hp} {Q : VK} {ds : List Dat} {v : V} (p : aI K W own F H (.ok (.tup ds)) Q) (s : aY F H) (q : bT K F (.tup ds) v) : Q v H := p _ F H (Step.refl s) (by cases own <;> exact q)
theorem aI.lst {F H : Hp} {Q : VK} {ds : List Dat} {xs : List V} {a : Addr} (p : aI K W true F H (.ok (.lst ds)) Q) (s : aY F H) (q : aB K F ds xs) (ha : H a = none) : Q (.ref a) (upd H a (.lst xs)) :=
 p _ F _ (Step.grow s ha) ⟨a, xs, rfl, av, s.free ha, ha, q⟩
theorem iq {g : Dat -> Dat -> M Dat} (hg : ∀ a b, (∃ i j, a = .int i /\ b = .int j) \/ g a b = stk) {x y : V} {H : Hp} {Q : VK} (h : rD2 K W own g x y H Q) : ∃ F i j, aY F H /\ x = .int i /\ y = .int j /\ aI K W own F H (g (.int i) (.int j)) Q := by
 show 'ֆ'
 rcases hg a b with ⟨i, j, rfl, rfl⟩ | e
 ·exact ⟨F, i, j, s, qa, qb, p⟩
 ·rw [e] at p; exact p.stuck
theorem tO : Op2 K W own X (binaryOp .Sub) subD := op_sub.imp fun x y H Q h => by
 obtain ⟨F, i, j, s, e1, e2, p⟩ := iq (fun a b => by cases a <;> cases b <;> first | exact .inr rfl | exact .inl ⟨_, _, rfl, rfl⟩) h
 exact ⟨i, j, e1, e2, p.int s⟩
theorem jT : Op2 K W own X (binaryOp .Mult) nZ := op_mul.imp fun x y H Q h => by
 obtain ⟨F, i, j, s, e1, e2, p⟩ := iq (fun a b => by cases a <;> cases b <;> first | exact .inr rfl | exact .inl ⟨_, _, rfl, rfl⟩) h
 have p' : aI K W own F H (if (eN i || eN j) = true then .ok (.int (i * j)) else stk) Q := p
 by_cases hc : (eN i || eN j) = true
 ·rw [if_pos hc] at p'
  refine ⟨i, j, e1, e2, ?_, p'.int s⟩
  unfold eN at hc
  simp only [Bool.or_eq_true, Bool.and_eq_true, decide_eq_true_eq] at hc
  exact hc
 ·rw [if_neg hc] at p'; exact p'.stuck
theorem yN {j : Int} (h0 : 0 < j) (h1 : j < 18446744073709551616) : j.natAbs.log2 < 9000 := by
 have a : j.natAbs < 2 ^ 64 := by omega
 have b := (Nat.log2_lt (n := j.natAbs) (k := 64) (by omega)).mpr a
 omega
theorem yA : OpR X (binaryOp .FloorDiv) (rI (fun _ j => 0 < j /\ j < 18446744073709551616) fun i j => .int (i / j)) := opI fun i j _ _ _ _ _ hc q => by
 obtain ⟨c1, c2⟩ := hc
 exact floordiv_int (by omega) (by rw [Int.fdiv_eq_ediv_of_nonneg i (by omega)]; exact q) (.inl (PyProof.noPylong_of_log2 (yN c1 c2)))
theorem jo : Op2 K W own X (binaryOp .FloorDiv) lV := yA.imp fun x y H Q h => by
 obtain ⟨F, i, j, s, e1, e2, p⟩ := iq (fun a b => by cases a <;> cases b <;> first | exact .inr rfl | exact .inl ⟨_, _, rfl, rfl⟩) h
 have p' : aI K W own F H (if (decide (0 < j) && decide (j < 18446744073709551616)) = true then .ok (.int (i / j)) else stk) Q := p
 by_cases hc : (decide (0 < j) && decide (j < 18446744073709551616)) = true
 ·rw [if_pos hc] at p'
  simp only [Bool.and_eq_true, decide_eq_true_eq] at hc
  exact ⟨i, j, e1, e2, hc, p'.int s⟩
 ·rw [if_neg hc] at p'; exact p'.stuck
theorem gx : Op2 K W own X (binaryOp .Mod) my := op_mod.imp fun x y H Q h => by
 obtain ⟨F, i, j, s, e1, e2, p⟩ := iq (fun a b => by cases a <;> cases b <;> first | exact .inr rfl | exact .inl ⟨_, _, rfl, rfl⟩) h
 have p' : aI K W own F H (if 0 < j then .ok (.int (i % j)) else stk) Q := p
 by_cases hc : 0 < j
 ·rw [if_pos hc] at p'
  exact ⟨i, j, e1, e2, hc, p'.int s⟩
 ·rw [if_neg hc] at p'; exact p'.stuck
theorem yE : Op2 K W own X (binaryOp .Pow) powD := op_pow.imp fun x y H Q h => by
 obtain ⟨F, i, j, s, e1, e2, p⟩ := iq (fun a b => by cases a <;> cases b <;> first | exact .inr rfl | exact .inl ⟨_, _, rfl, rfl⟩) h
 have p' : aI K W own F H (if (decide (0 <= j) && decide (j <= 1000000) && decide (i.natAbs < 2 ^ 64)) = true then .ok (.int (i ^ j.toNat)) else stk) Q := p
 by_cases hc : (decide (0 <= j) && decide (j <= 1000000) && decide (i.natAbs < 2 ^ 64)) = true
 ·rw [if_pos hc] at p'
  simp only [Bool.and_eq_true, decide_eq_true_eq] at hc
  exact ⟨i, j, e1, e2, ⟨hc.1.1, hc.1.2, hc.2⟩, p'.int s⟩
 ·rw [if_neg hc] at p'; exact p'.stuck
theorem rQ : UnR X (unaryOp .USub) (rD1 K W own yI) := un_neg.imp fun x H Q h => by
 obtain ⟨F, a, s, qa, p⟩ := h
 cases a with
 | int i => exact ⟨i, qa, aI.int (own := own) p s⟩
 | _ => exact aI.stuck p
theorem o_lt : Op2 K W own X (compareOp .Lt) ltD := op_lt.imp fun x y H Q h => by
 obtain ⟨F, i, j, s, e1, e2, p⟩ := iq (fun a b => by cases a <;> cases b <;> first | exact .inr rfl | exact .inl ⟨_, _, rfl, rfl⟩) h
 exact ⟨i, j, e1, e2, p.bl s⟩
theorem o_le : Op2 K W own X (compareOp .LtE) leD := op_le.imp fun x y H Q h => by
 obtain ⟨F, i, j, s, e1, e2, p⟩ := iq (fun a b => by cases a <;> cases b <;> first | exact .inr rfl | exact .inl ⟨_, _, rfl, rfl⟩) h
 exact ⟨i, j, e1, e2, p.bl s⟩
theorem o_gt : Op2 K W own X (compareOp .Gt) gtD := op_gt.imp fun x y H Q h => by
 obtain ⟨F, i, j, s, e1, e2, p⟩ := iq (fun a b => by cases a <;> cases b <;> first | exact .inr rfl | exact .inl ⟨_, _, rfl, rfl⟩) h
 exact ⟨i, j, e1, e2, p.bl s⟩
theorem op_catL : OpR X (binaryOp .Add) (fun x y H Q => ∃ l b xs zs, x = .ref l /\ y = .ref b /\ SqL X.K H l xs /\ SqL X.K H b zs /\ xs.length + zs.length <= sizeLine /\ ∀ p, H p = none -> Q (.ref p) (upd H p (.lst (xs ++ zs)))) := by
 show 'Ն'
 obtain ⟨l, b, xs, zs, rfl, rfl, hH, hB, hz, q⟩ := h
 cases rx
 cases ry
 obtain ⟨its, r, p1, hl⟩ := I.list hH
 obtain ⟨its2, r2, p2, hl2⟩ := I.list hB
 have z1 := r.length
 have z2 := r2.length
 obtain ⟨⟨cls, dd, data, sl⟩, ho, hc, n, hd⟩ := id p1.isList
 obtain ⟨⟨cls2, dd2, data2, sl2⟩, ho2, hc2, n2, hd2⟩ := id p2.isList
 simp only at hc hd hc2 hd2
 subst hc hd hc2 hd2
 refine concat_meets ⟨_, ho, rfl⟩ ⟨_, ho2, rfl⟩ noFill_list_add seq_list_add PySem.F.slot_list_add PySem.F.entry_list_add (PySem.F.args_list_add_2 _ _) (list_addW l b its.toArray its2.toArray n n2 dd dd2 sl sl2 (by simp only [List.size_toArray]; omega)) ⟨ho, ho2, ?_⟩
 have ea : its.toArray ++ its2.toArray = (its ++ its2).toArray := by simp
 rw [ea]
 exact ⟨.ref _, _, I.lnew (t' := s.toks) (r.append r2) (by rw [List.length_append]; omega), rfl, q _ I.fresh⟩
theorem op_cat3 : OpR X (binaryOp .Add) (fun x y H Q => ∃ a b xs ys, x = .ref a /\ y = .ref b /\ SqT X.K H a xs /\ SqT X.K H b ys /\ xs.length + ys.length <= sizeLine /\ (xs = [] -> Q (.ref b) H) /\ (ys = [] -> Q (.ref a) H) /\ ∀ p, H p = none -> Q (.ref p) (upd H p (.tup (xs ++ ys)))) := by
 show 'Ն'
 obtain ⟨a, b, xs, ys, rfl, rfl, ha, hb, hz, q1, q2, q3⟩ := h
 by_cases hx : xs = []
 ·subst hx
  cases rx
  cases ry
  obtain ⟨its, r1, p1, _⟩ := I.tuple ha
  obtain ⟨its2, r2, p2, _⟩ := I.tuple hb
  cases r1
  obtain ⟨⟨cls, dd, data, sl⟩, ho, hc, n, hd⟩ := id p1
  obtain ⟨⟨cls2, dd2, data2, sl2⟩, ho2, hc2, n2, hd2⟩ := id p2
  simp only at hc hd hc2 hd2
  subst hc hd hc2 hd2
  exact concat_meets ⟨_, ho, rfl⟩ ⟨_, ho2, rfl⟩ noFill_tuple_add seq_tuple_add PySem.F.slot_tuple_add PySem.F.entry_tuple_add (PySem.F.args_tuple_add_2 _ _)
   (tuple_addW0 a b #[] its2.toArray n n2 dd dd2 sl sl2 rfl) ⟨ho, ho2, ⟨.ref b, H, I, rfl, q1 rfl⟩⟩
 ·exact op_catT pins s σ H _ _ v u Q I rx ry ⟨a, b, xs, ys, rfl, rfl, ha, hb, hx, hz, fun e => q2 e, fun _ p hp => q3 p hp⟩
theorem gJ (hK : X.K = K := by rfl) : Op2 K W true X (binaryOp .Add) lW := by
 subst hK
 refine (op_add.or (xc.or (op_catL.or op_cat3))).imp fun x y H Q h => ?_
 show 'ֆ'
 cases a with
 | int i =>
  cases b with
  | int j => exact .inl ⟨i, j, qa, qb, p.int s⟩
  | _ => exact aI.stuck p
 | str z =>
  cases b with
  | str w =>
   have p' : aI X.K W true F H (if z.length + w.length <= sizeLine then .ok (.str (z ++ w)) else stk) Q := p
   by_cases hc : z.length + w.length <= sizeLine
   ·rw [if_pos hc] at p'
    exact .inr (.inl ⟨z, w, qa, qb, hc, p'.str s⟩)
   ·rw [if_neg hc] at p'; exact p'.stuck
  | _ => exact aI.stuck p
 | lst ds =>
  cases b with
  | lst es =>
   obtain ⟨a, xs, e1, t1, r1⟩ := qa
   obtain ⟨b, ys, e2, t2, r2⟩ := qb
   have p' : aI X.K W true F H (if ds.length + es.length <= sizeLine then .ok (.lst (ds ++ es)) else stk) Q := p
   by_cases hc : ds.length + es.length <= sizeLine
   ·rw [if_pos hc] at p'
    exact .inr (.inr (.inl ⟨a, b, xs, ys, e1, e2, s.lst t1, s.lst t2, by rw [r1.length, r2.length]; exact hc, fun l hl => p'.lst s (r1.append r2) hl⟩))
   ·rw [if_neg hc] at p'; exact p'.stuck
  | _ => exact aI.stuck p
 | tup ds =>
  cases b with
  | tup es =>
   obtain ⟨a, xs, e1, t1, r1⟩ := qa
   obtain ⟨b, ys, e2, t2, r2⟩ := qb
   have p' : aI X.K W true F H (if ds.length + es.length <= sizeLine then .ok (.tup (ds ++ es)) else stk) Q := p
   by_cases hc : ds.length + es.length <= sizeLine
   ·rw [if_pos hc] at p'
    refine .inr (.inr (.inr ⟨a, b, xs, ys, e1, e2, s.tup t1, s.tup t2, by rw [r1.length, r2.length]; exact hc, fun e => ?_, fun e => ?_, fun l hl => p'.tup s (r1.append r2) hl⟩))
    ·have z : ds = [] := by have := r1.length; rw [e] at this; exact List.length_eq_zero_iff.mp this.symm
     subst z
     exact p'.same s ⟨b, ys, rfl, t2, r2⟩
    ·have z : es = [] := by have := r2.length; rw [e] at this; exact List.length_eq_zero_iff.mp this.symm
     subst z
     rw [List.append_nil] at p'
     exact p'.same s ⟨a, xs, rfl, t1, r1⟩
   ·rw [if_neg hc] at p'; exact p'.stuck
  | _ => exact aI.stuck p
 | _ => exact aI.stuck p
theorem o_isN : Op2 K W own X (compareOp .Is) isND := op_isN.imp fun x y H Q h => by
 show 'ֆ'
 have key : ∀ {k : Bool}, isND a b = .ok (.bl k) -> b = .non -> (decide (x = V.non) = k) -> y = V.non /\ Q (.bl (decide (x = V.non))) H := fun {k} e1 e2 e3 => by
  subst e2
  rw [e1] at p
  rw [e3]
  exact ⟨qb, p.bl s⟩
 cases b with
 | non =>
  cases a with
  | non => exact key rfl rfl (by rw [show x = .non from qa]; rfl)
  | bl k => exact key rfl rfl (by rw [show x = .bl k from qa]; rfl)
  | int k => exact key rfl rfl (by rw [show x = .int k from qa]; rfl)
  | str k => exact key rfl rfl (by rw [show x = .str k from qa]; rfl)
  | tup ds => obtain ⟨l, xs, e, _⟩ := qa; exact key rfl rfl (by rw [e]; rfl)
  | lst ds => obtain ⟨l, xs, e, _⟩ := qa; exact key rfl rfl (by rw [e]; rfl)
  | ins C fs => obtain ⟨l, dx, xs, e, _⟩ := qa; exact key rfl rfl (by rw [e]; rfl)
 | _ => cases a <;> exact aI.stuck p
theorem zb {F H : Hp} {Q : VK} {ds : List Dat} {xs : List V} {i : Int} (p : aI K W false F H (iY ds i) Q) (s : aY F H) (r : aB K F ds xs) : ∃ v, atI xs i = some v /\ Q v H := by
 unfold iY at p
 cases e : atI ds i with
 | none => rw [e] at p; exact aI.stuck p
 | some d =>
  rw [e] at p
  unfold atI at e
  cases hj : ixN ds.length i with
  | none => rw [hj] at e; cases e
  | some j =>
   rw [hj] at e
   obtain ⟨v, e1, q⟩ := r.get (show ds[j]? = some d from e)
   refine ⟨v, ?_, p v F H (Step.refl s) q⟩
   unfold atI
   rw [r.length, hj]
   exact e1
theorem bc (hK : X.K = K := by rfl) : IxR X (rD2 K W false ixD) := by
 subst hK
 refine ix_seq.imp fun x y H Q h => ?_
 show 'ֆ'
 cases a with
 | lst ds =>
  cases b with
  | int i =>
   obtain ⟨a, xs, e1, t1, r1⟩ := qa
   obtain ⟨v, e2, q⟩ := zb p s r1
   exact .inl ⟨a, xs, i, v, e1, qb, s.lst t1, e2, q⟩
  | _ => exact aI.stuck p
 | tup ds =>
  cases b with
  | int i =>
   obtain ⟨a, xs, e1, t1, r1⟩ := qa
   obtain ⟨v, e2, q⟩ := zb p s r1
   exact .inr (.inl ⟨a, xs, i, v, e1, qb, s.tup t1, e2, q⟩)
  | _ => exact aI.stuck p
 | _ => exact aI.stuck p
theorem ip (hK : X.K = K := by rfl) : sO K W own X (.builtin "len") nR := by
 subst hK
 refine lI.imp fun xs H Q h => ?_
 obtain ⟨F, ds, s, q, p⟩ := h
 match ds, q, p with
 | [.lst es], ⟨v, vs, e, ⟨a, ys, e1, t, r⟩, e2⟩, p =>
  refine ⟨a, ys, by rw [e, e1, show vs = [] from e2], .inl (s.lst t), ?_⟩
  rw [r.length]
  exact aI.int (own := own) p s
 | [.tup es], ⟨v, vs, e, ⟨a, ys, e1, t, r⟩, e2⟩, p =>
  refine ⟨a, ys, by rw [e, e1, show vs = [] from e2], .inr (s.tup t), ?_⟩
  rw [r.length]
  exact aI.int (own := own) p s
 | [], _, p => exact aI.stuck p
 | [.non], _, p => exact aI.stuck p
 | [.bl _], _, p => exact aI.stuck p
 | [.int _], _, p => exact aI.stuck p
 | [.str _], _, p => exact aI.stuck p
 | [.ins _ _], _, p => exact aI.stuck p
 | .non :: _ :: _, _, p => exact aI.stuck p
 | .bl _ :: _ :: _, _, p => exact aI.stuck p
 | .int _ :: _ :: _, _, p => exact aI.stuck p
 | .str _ :: _ :: _, _, p => exact aI.stuck p
 | .ins _ _ :: _ :: _, _, p => exact aI.stuck p
 | .lst _ :: _ :: _, _, p => exact aI.stuck p
 | .tup _ :: _ :: _, _, p => exact aI.stuck p
end
end L2
namespace L2
open PySem PySem.Spec PyProof.Rows
section
variable {X : Cx} {K : PySem.W.Frag} {W : gF} {own ro : Bool}
theorem rG {g : List Dat -> M Dat} (hg : ∀ ds, (∃ d, ds = [d]) \/ g ds = stk) {xs : List V} {H : Hp} {Q : VK} (h : rDL K W own g xs H Q) : ∃ F d x, aY F H /\ xs = [x] /\ bT K F d x /\ aI K W own F H (g [d]) Q := by
 obtain ⟨F, ds, s, q, p⟩ := h
 rcases hg ds with ⟨d, rfl⟩ | e
 ·obtain ⟨v, vs, e, q1, e2⟩ := q
  exact ⟨F, d, v, s, by rw [e, show vs = [] from e2], q1, p⟩
 ·rw [e] at p; exact p.stuck
theorem xR {g : List Dat -> M Dat} (hg : ∀ ds, (∃ d, ds = [d]) \/ (∃ d e, ds = [d, e]) \/ g ds = stk) {xs : List V} {H : Hp} {Q : VK} (h : rDL K W own g xs H Q) : (∃ F d x, aY F H /\ xs = [x] /\ bT K F d x /\ aI K W own F H (g [d]) Q) \/ ∃ F d e x y, aY F H /\ xs = [x, y] /\ bT K F d x /\ bT K F e y /\ aI K W own F H (g [d, e]) Q := by
 obtain ⟨F, ds, s, q, p⟩ := h
 rcases hg ds with ⟨d, rfl⟩ | ⟨d, e, rfl⟩ | e
 ·obtain ⟨v, vs, e, q1, e2⟩ := q
  exact .inl ⟨F, d, v, s, by rw [e, show vs = [] from e2], q1, p⟩
 ·obtain ⟨v, vs, e1, q1, w, ws, e2, q2, e3⟩ := q
  exact .inr ⟨F, d, e, v, w, s, by rw [e1, e2, show ws = [] from e3], q1, q2, p⟩
 ·rw [e] at p; exact p.stuck
theorem qT {F : Hp} : ∀ {ds : List Dat} {xs : List V} {bs : List Bool}, aB K F ds xs -> ia ds = .ok bs -> xs = bs.map V.bl
 | [], _, _, q, e => by cases e; exact q
 | d :: ds, _, bs, ⟨v, vs, e1, q, r⟩, e => by
  cases d with
  | bl b =>
   cases e2 : ia ds with
   | error x => simp only [ia, asB, ax, e2, kn] at e; cases e
   | ok cs =>
    simp only [ia, asB, ax, e2] at e
    cases e
    rw [e1, show v = .bl b from q, qT r e2]
    rfl
  | _ => cases e
theorem qU : ∀ {ds : List Dat} {e : Err}, ia ds = .error e -> e = .stuck
 | [], _, h => by cases h
 | d :: ds, e, h => by
  cases d with
  | bl b =>
   cases e2 : ia ds with
   | error x => simp only [ia, asB, ax, e2, kn] at h; cases h; exact qU e2
   | ok cs => simp only [ia, asB, ax, e2] at h; cases h
  | _ => cases h; rfl
theorem jx {F : Hp} : ∀ {ds : List Dat} {xs : List V} {bs : List Int}, aB K F ds xs -> cR ds = .ok bs -> xs = bs.map V.int
 | [], _, _, q, e => by cases e; exact q
 | d :: ds, _, bs, ⟨v, vs, e1, q, r⟩, e => by
  cases d with
  | int b =>
   cases e2 : cR ds with
   | error x => simp only [cR, asI, ax, e2, kn] at e; cases e
   | ok cs =>
    simp only [cR, asI, ax, e2] at e
    cases e
    rw [e1, show v = .int b from q, jx r e2]
    rfl
  | _ => cases e
theorem lh : ∀ {ds : List Dat} {e : Err}, cR ds = .error e -> e = .stuck
 | [], _, h => by cases h
 | d :: ds, e, h => by
  cases d with
  | int b =>
   cases e2 : cR ds with
   | error x => simp only [cR, asI, ax, e2, kn] at h; cases h; exact lh e2
   | ok cs => simp only [cR, asI, ax, e2] at h; cases h
  | _ => cases h; rfl
theorem c_all (hc : X.calm = true) (hK : X.K = K := by rfl) : sO K W own X (.builtin "all") allD := by
 subst hK
 refine (call_all hc).imp fun xs H Q h => ?_
 obtain ⟨F, d, x, s, e, q, p⟩ := rG (fun ds => by match ds with | [d] => exact .inl ⟨d, rfl⟩ | [] => exact .inr rfl | a :: b :: c => exact .inr (by cases a <;> rfl)) h
 cases d with
 | lst ds =>
  show 'մ'
  have p' : aI X.K W own F H ((ia ds).bind fun bs => .ok (.bl (bs.all id))) Q := p
  cases eb : ia ds with
  | error z => rw [eb] at p'; have := qU eb; subst this; exact aI.stuck p'
  | ok bs =>
   rw [eb] at p'
   refine ⟨a, bs, by rw [e, e1], ?_, aI.bl (own := own) p' s⟩
   rw [<- qT r eb]
   exact s.lst t
 | _ => exact aI.stuck p
theorem c_list (hK : X.K = K := by rfl) : sO K W true X (.type "list") yO := by
 subst hK
 refine uc.imp fun xs H Q h => ?_
 obtain ⟨F, d, x, s, e, q, p⟩ := rG (fun ds => by match ds with | [d] => exact .inl ⟨d, rfl⟩ | [] => exact .inr rfl | a :: b :: c => exact .inr (by cases a <;> rfl)) h
 cases d with
 | lst ds =>
  show 'մ'
  exact ⟨a, ys, by rw [e, e1], .inl (s.lst t), fun l hl => aI.lst p s r hl⟩
 | tup ds =>
  show 'մ'
  exact ⟨a, ys, by rw [e, e1], .inr (s.tup t), fun l hl => aI.lst p s r hl⟩
 | _ => exact aI.stuck p
theorem c_int : sO K W own X (.type "int") intD := ud.imp fun xs H Q h => by
 obtain ⟨F, d, x, s, e, q, p⟩ := rG (fun ds => by match ds with | [d] => exact .inl ⟨d, rfl⟩ | [] => exact .inr rfl | a :: b :: c => exact .inr (by cases a <;> rfl)) h
 cases d with
 | int i => exact .inl ⟨i, by rw [e, show x = .int i from q], aI.int (own := own) p s⟩
 | bl b => exact .inr ⟨b, by rw [e, show x = .bl b from q], aI.int (own := own) p s⟩
 | _ => exact aI.stuck p
theorem fold_max : ∀ (is : List Int) (i : Int), (is.foldl kO i = i \/ is.foldl kO i ∈ is) /\ i <= is.foldl kO i /\ ∀ a ∈ is, a <= is.foldl kO i
 | [], i => ⟨.inl rfl, Int.le_refl _, fun _ h => nomatch h⟩
 | j :: is, i => by
  obtain ⟨h1, h2, h3⟩ := fold_max is (kO i j)
  have z : (kO i j = i \/ kO i j = j) /\ i <= kO i j /\ j <= kO i j := by unfold kO; split <;> (refine ⟨?_, ?_, ?_⟩ <;> first | exact .inl rfl | exact .inr rfl | omega)
  rw [List.foldl_cons]
  refine ⟨?_, Int.le_trans z.2.1 h2, fun a ha => ?_⟩
  ·rcases h1 with h1 | h1
   ·rw [h1]
    rcases z.1 with z | z
    ·exact .inl z
    ·exact .inr (by rw [z]; exact List.mem_cons_self)
   ·exact .inr (List.mem_cons_of_mem _ h1)
  ·rcases List.mem_cons.mp ha with e | e
   ·rw [e]; exact Int.le_trans z.2.2 h2
   ·exact h3 a e
theorem fold_min : ∀ (is : List Int) (i : Int), (is.foldl kN i = i \/ is.foldl kN i ∈ is) /\ is.foldl kN i <= i /\ ∀ a ∈ is, is.foldl kN i <= a
 | [], i => ⟨.inl rfl, Int.le_refl _, fun _ h => nomatch h⟩
 | j :: is, i => by
  obtain ⟨h1, h2, h3⟩ := fold_min is (kN i j)
  have z : (kN i j = i \/ kN i j = j) /\ kN i j <= i /\ kN i j <= j := by unfold kN; split <;> (refine ⟨?_, ?_, ?_⟩ <;> first | exact .inl rfl | exact .inr rfl | omega)
  rw [List.foldl_cons]
  refine ⟨?_, Int.le_trans h2 z.2.1, fun a ha => ?_⟩
  ·rcases h1 with h1 | h1
   ·rw [h1]
    rcases z.1 with z | z
    ·exact .inl z
    ·exact .inr (by rw [z]; exact List.mem_cons_self)
   ·exact .inr (List.mem_cons_of_mem _ h1)
  ·rcases List.mem_cons.mp ha with e | e
   ·rw [e]; exact Int.le_trans h2 z.2.2
   ·exact h3 a e
theorem vj {is : List Int} {i m : Int} (h1 : m ∈ i :: is) (h2 : ∀ a ∈ i :: is, a <= m) : is.foldl kO i = m := by
 obtain ⟨g1, g2, g3⟩ := fold_max is i
 have a1 : is.foldl kO i <= m := by
  rcases g1 with g | g
  ·rw [g]; exact h2 i List.mem_cons_self
  ·exact h2 _ (List.mem_cons_of_mem _ g)
 have a2 : m <= is.foldl kO i := by
  rcases List.mem_cons.mp h1 with e | e
  ·rw [e]; exact g2
  ·exact g3 m e
 omega
theorem vi {is : List Int} {i m : Int} (h1 : m ∈ i :: is) (h2 : ∀ a ∈ i :: is, m <= a) : is.foldl kN i = m := by
 obtain ⟨g1, g2, g3⟩ := fold_min is i
 have a1 : m <= is.foldl kN i := by
  rcases g1 with g | g
  ·rw [g]; exact h2 i List.mem_cons_self
  ·exact h2 _ (List.mem_cons_of_mem _ g)
 have a2 : is.foldl kN i <= m := by
  rcases List.mem_cons.mp h1 with e | e
  ·rw [e]; exact g2
  ·exact g3 m e
 omega
theorem zG (hc : X.calm = true) : dq X (.builtin "max") (fun xs H Q => ∃ a i is, xs = [.ref a] /\ SqL X.K H a ((i :: is).map V.int) /\ Q (.int (is.foldl kO i)) H) := by
 show 'Ք'
 have hns : i :: is = xs.toList.map (·.1) := by rw [<- hi.numsOf, <- nums_intItems, <- e]
 have hsz : 0 < xs.size := by
  have h3 := congrArg List.length hns
  simp at h3
  omega
 have hl := p.isList
 rw [e] at hl
 refine max_intList (I.ok.hd hc) hl hsz fun v h' tk hv hk => ?_
 obtain ⟨t, rfl⟩ := intItems_at hv
 obtain ⟨h1, h2⟩ := argBest_gt (numAt xs) (xs.size - 1)
 refine ⟨.int _, H, I.kept hk, ⟨t, rfl⟩, ?_⟩
 have := vj (is := is) (i := i) (m := numAt xs (argBest (fun i j => decide (numAt xs i > numAt xs j)) (xs.size - 1))) (by
   rw [hns, numAt_eq]; exact getD_mem (by rw [List.length_map, Array.length_toList]; omega)) (fun a ha => by
   show 'ք'
   rw [<- numAt_eq]; exact h2 j (by omega))
 rw [<- this]
 exact q
theorem zE (hc : X.calm = true) : dq X (.builtin "min") (fun xs H Q => ∃ a i is, xs = [.ref a] /\ SqL X.K H a ((i :: is).map V.int) /\ Q (.int (is.foldl kN i)) H) := by
 show 'Ք'
 have hns : i :: is = xs.toList.map (·.1) := by rw [<- hi.numsOf, <- nums_intItems, <- e]
 have hsz : 0 < xs.size := by
  have h3 := congrArg List.length hns
  simp at h3
  omega
 have hl := p.isList
 rw [e] at hl
 refine min_intList (I.ok.hd hc) hl hsz fun v h' tk hv hk => ?_
 obtain ⟨t, rfl⟩ := intItems_at hv
 obtain ⟨h1, h2⟩ := argBest_lt (numAt xs) (xs.size - 1)
 refine ⟨.int _, H, I.kept hk, ⟨t, rfl⟩, ?_⟩
 have := vi (is := is) (i := i) (m := numAt xs (argBest (fun i j => decide (numAt xs i < numAt xs j)) (xs.size - 1))) (by
   rw [hns, numAt_eq]; exact getD_mem (by rw [List.length_map, Array.length_toList]; omega)) (fun a ha => by
   show 'ք'
   rw [<- numAt_eq]; exact h2 j (by omega))
 rw [<- this]
 exact q
theorem c_max (hc : X.calm = true) (hK : X.K = K := by rfl) : sO K W own X (.builtin "max") maxD := by
 subst hK
 refine ((zH hc).or (zG hc)).imp fun xs H Q h => ?_
 rcases xR (fun ds => by match ds with | [d] => exact .inl ⟨d, rfl⟩ | [d, e] => exact .inr (.inl ⟨d, e, rfl⟩) | [] => exact .inr (.inr rfl) | a :: b :: c :: d => exact .inr (.inr (by cases a <;> cases b <;> rfl))) h with ⟨F, d, x, s, e, q, p⟩ | ⟨F, d, d2, x, y, s, e, q, q2, p⟩
 ·cases d with
  | lst ds =>
   show 'մ'
   have p' : aI X.K W own F H ((cR ds).bind maxL) Q := p
   cases eb : cR ds with
   | error z => rw [eb] at p'; have := lh eb; subst this; exact aI.stuck p'
   | ok is =>
    rw [eb] at p'
    cases is with
    | nil => exact aI.stuck p'
    | cons i is =>
     refine .inr ⟨a, i, is, by rw [e, e1], ?_, aI.int (own := own) p' s⟩
     rw [<- jx r eb]
     exact s.lst t
  | _ => exact aI.stuck p
 ·cases d with
  | int i =>
   cases d2 with
   | int j => exact .inl ⟨i, j, by rw [e, show x = .int i from q, show y = .int j from q2], aI.int (own := own) p s⟩
   | _ => exact aI.stuck p
  | _ => cases d2 <;> exact aI.stuck p
theorem c_min (hc : X.calm = true) (hK : X.K = K := by rfl) : sO K W own X (.builtin "min") minD := by
 subst hK
 refine ((zF hc).or (zE hc)).imp fun xs H Q h => ?_
 rcases xR (fun ds => by match ds with | [d] => exact .inl ⟨d, rfl⟩ | [d, e] => exact .inr (.inl ⟨d, e, rfl⟩) | [] => exact .inr (.inr rfl) | a :: b :: c :: d => exact .inr (.inr (by cases a <;> cases b <;> rfl))) h with ⟨F, d, x, s, e, q, p⟩ | ⟨F, d, d2, x, y, s, e, q, q2, p⟩
 ·cases d with
  | lst ds =>
   show 'մ'
   have p' : aI X.K W own F H ((cR ds).bind minL) Q := p
   cases eb : cR ds with
   | error z => rw [eb] at p'; have := lh eb; subst this; exact aI.stuck p'
   | ok is =>
    rw [eb] at p'
    cases is with
    | nil => exact aI.stuck p'
    | cons i is =>
     refine .inr ⟨a, i, is, by rw [e, e1], ?_, aI.int (own := own) p' s⟩
     rw [<- jx r eb]
     exact s.lst t
  | _ => exact aI.stuck p
 ·cases d with
  | int i =>
   cases d2 with
   | int j => exact .inl ⟨i, j, by rw [e, show x = .int i from q, show y = .int j from q2], aI.int (own := own) p s⟩
   | _ => exact aI.stuck p
  | _ => cases d2 <;> exact aI.stuck p
end
section
variable {X : Cx} {K : PySem.W.Frag} {W : gF} {own ro : Bool}
theorem SqL.inj {pins : List (Addr × Obj)} {σ : St} {H : Hp} {s : Shared} {a : Addr} {xs ys : List V} (I : Inv X pins σ H s) (h : SqL X.K H a xs) (h' : SqL X.K H a ys) : xs = ys := by
 obtain ⟨i1, r1, p1, _⟩ := I.list h
 obtain ⟨i2, r2, p2, _⟩ := I.list h'
 obtain ⟨o, n, e, _, _, d⟩ := p1
 obtain ⟨o', n', e', _, _, d'⟩ := p2
 show 'կ'
theorem SqT.inj {pins : List (Addr × Obj)} {σ : St} {H : Hp} {s : Shared} {a : Addr} {xs ys : List V} (I : Inv X pins σ H s) (h : SqT X.K H a xs) (h' : SqT X.K H a ys) : xs = ys := by
 obtain ⟨i1, r1, p1, _⟩ := I.tuple h
 obtain ⟨i2, r2, p2, _⟩ := I.tuple h'
 obtain ⟨o, e, _, n, d⟩ := p1
 obtain ⟨o', e', _, n', d'⟩ := p2
 show 'կ'
theorem aB.all_eq {F : Hp} (e : Nat -> Bool) : ∀ {ds es : List Dat}, ds.length = es.length -> (∀ (j : Nat) a b, ds[j]? = some a -> es[j]? = some b -> e j = eqD a b) -> (List.range ds.length).all e = xJ ds es := by
 intro ds
 induction ds generalizing e with
 | nil => intro es h _; cases es with
  | nil => rfl
  | cons _ _ => simp at h
 | cons d ds ih =>
  intro es h q
  cases es with
  | nil => simp at h
  | cons b es =>
   rw [List.length_cons, List.range_succ_eq_map, List.all_cons, List.all_map, xJ]
   rw [q 0 d b rfl rfl]
   congr 1
   exact ih (e ∘ Nat.succ) (by simpa using h) fun j x y hx hy => q (j + 1) x y (by simpa using hx) (by simpa using hy)
theorem mS : ∀ {ds es : List Dat}, ds.length ≠ es.length -> xJ ds es = false
 | [], [], h => absurd rfl h
 | [], _ :: _, _ => rfl
 | _ :: _, [], _ => rfl
 | d :: ds, e :: es, h => by
  rw [xJ, mS (ds := ds) (es := es) (fun z => h (by simp [z])), Bool.and_false]
theorem sg (e : Nat -> Bool) : ∀ {ds es : List Dat}, (∀ (j : Nat) a b, ds[j]? = some a -> es[j]? = some b -> e j = eqD a b) -> ((List.range (min ds.length es.length)).all e && ds.length == es.length) = xJ ds es := by
 intro ds es q
 by_cases hl : ds.length = es.length
 ·have e1 : min ds.length es.length = ds.length := by omega
  rw [e1, aB.all_eq (F := fun _ => none) e hl q, hl, beq_self_eq_true, Bool.and_true]
 ·rw [mS hl]
  have : (ds.length == es.length) = false := by simpa using hl
  rw [this, Bool.and_false]
mutual
theorem sh : ∀ {d : Dat} {n : Nat}, okE d n = true -> eqD d d = true
 | .non, _, _ => rfl
 | .bl b, _, _ => by simp [eqD]
 | .int i, _, _ => by simp [eqD]
 | .str x, _, _ => by simp [eqD]
 | .tup ds, 0, h => by simp [okE] at h
 | .tup ds, n + 1, h => by simp only [okE] at h; simp only [eqD]; exact ph h
 | .lst ds, 0, h => by simp [okE] at h
 | .lst ds, n + 1, h => by simp only [okE] at h; simp only [eqD]; exact ph h
 | .ins _ _, _, h => by simp [okE] at h
theorem ph : ∀ {ds : List Dat} {n : Nat}, hX ds n = true -> xJ ds ds = true
 | [], _, _ => rfl
 | d :: ds, n, h => by
  simp only [hX, Bool.and_eq_true] at h
  simp only [xJ, sh h.1, ph h.2, Bool.and_self]
end
theorem d7 : ∀ {ds : List Dat} {n i : Nat} {d : Dat}, hX ds n = true -> ds[i]? = some d -> okE d n = true
 | [], _, _, _, _, h => by simp at h
 | _ :: _, _, 0, _, h, e => by
  simp only [hX, Bool.and_eq_true] at h
  simp at e
  rw [<- e]; exact h.1
 | _ :: _, _, i + 1, _, h, e => by
  simp only [hX, Bool.and_eq_true] at h
  exact d7 h.2 (by simpa using e)
end
noncomputable def gL (ds es : List Dat) (j : Nat) : Bool := match ds[j]?, es[j]? with
 | some a, some b => eqD a b
 | _, _ => true
section
variable {X : Cx}
mutual
theorem deep_inj {pins : List (Addr × Obj)} {σ : St} {F H : Hp} {s : Shared} (I : Inv X pins σ H s) (hF : aY F H) : ∀ (d e : Dat) {v : V} {n : Nat}, bT X.K F d v -> bT X.K F e v -> okE d n = true -> okE e n = true -> d = e
 | .non, .non, v, n, q, r, o1, o2 => by
   rfl
 | .non, .bl b, v, n, q, r, o1, o2 => by
   have e1 : v = .non := q
   have e2 : v = .bl b := r
   rw [e1] at e2
   cases e2
 | .non, .int b, v, n, q, r, o1, o2 => by
   have e1 : v = .non := q
   show 'א'
   cases e2
 | .non, .str b, v, n, q, r, o1, o2 => by
   have e1 : v = .non := q
   show 'ב'
   cases e2
 | .non, .tup es, v, n, q, r, o1, o2 => by
   have e1 : v = .non := q
   show 'Վ'
   cases e2
 | .non, .lst es, v, n, q, r, o1, o2 => by
   have e1 : v = .non := q
   show 'Վ'
   cases e2
 | .bl a, .non, v, n, q, r, o1, o2 => by
   have e1 : v = .bl a := q
   have e2 : v = .non := r
   rw [e1] at e2
   cases e2
 | .bl a, .bl b, v, n, q, r, o1, o2 => by
   have e1 : v = .bl a := q
   have e2 : v = .bl b := r
   rw [e1] at e2
   cases e2
   rfl
 | .bl a, .int b, v, n, q, r, o1, o2 => by
   have e1 : v = .bl a := q
   show 'א'
   cases e2
 | .bl a, .str b, v, n, q, r, o1, o2 => by
   have e1 : v = .bl a := q
   show 'ב'
   cases e2
 | .bl a, .tup es, v, n, q, r, o1, o2 => by
   have e1 : v = .bl a := q
   show 'Վ'
   cases e2
 | .bl a, .lst es, v, n, q, r, o1, o2 => by
   have e1 : v = .bl a := q
   show 'Վ'
   cases e2
 | .int a, .non, v, n, q, r, o1, o2 => by
   have e1 : v = .int a := q
   have e2 : v = .non := r
   rw [e1] at e2
   cases e2
 | .int a, .bl b, v, n, q, r, o1, o2 => by
   have e1 : v = .int a := q
   have e2 : v = .bl b := r
   rw [e1] at e2
   cases e2
 | .int a, .int b, v, n, q, r, o1, o2 => by
   have e1 : v = .int a := q
   show 'א'
   cases e2
   rfl
 | .int a, .str b, v, n, q, r, o1, o2 => by
   have e1 : v = .int a := q
   show 'ב'
   cases e2
 | .int a, .tup es, v, n, q, r, o1, o2 => by
   have e1 : v = .int a := q
   show 'Վ'
   cases e2
 | .int a, .lst es, v, n, q, r, o1, o2 => by
   have e1 : v = .int a := q
   show 'Վ'
   cases e2
 | .str a, .non, v, n, q, r, o1, o2 => by
   have e1 : v = .str a := q
   have e2 : v = .non := r
   rw [e1] at e2
   cases e2
 | .str a, .bl b, v, n, q, r, o1, o2 => by
   have e1 : v = .str a := q
   have e2 : v = .bl b := r
   rw [e1] at e2
   cases e2
 | .str a, .int b, v, n, q, r, o1, o2 => by
   have e1 : v = .str a := q
   show 'א'
   cases e2
 | .str a, .str b, v, n, q, r, o1, o2 => by
   have e1 : v = .str a := q
   show 'ב'
   cases e2
   rfl
 | .str a, .tup es, v, n, q, r, o1, o2 => by
   have e1 : v = .str a := q
   show 'Վ'
   cases e2
 | .str a, .lst es, v, n, q, r, o1, o2 => by
   have e1 : v = .str a := q
   show 'Վ'
   cases e2
 | .tup ds, .non, v, n, q, r, o1, o2 => by
   have e1 : v = .non := r
   show 'Տ'
   cases e2
 | .tup ds, .bl b, v, n, q, r, o1, o2 => by
   have e1 : v = .bl b := r
   show 'Տ'
   cases e2
 | .tup ds, .int b, v, n, q, r, o1, o2 => by
   have e1 : v = .int b := r
   show 'Տ'
   cases e2
 | .tup ds, .str b, v, n, q, r, o1, o2 => by
   have e1 : v = .str b := r
   show 'Տ'
   cases e2
 | .tup ds, .tup es, v, n, q, r, o1, o2 => by
   show 'Ս'
   have e3 := SqT.inj I (hF.tup h1) (hF.tup h2)
   subst e3
   cases n with
   | zero => exact absurd o1 (by simp [okE])
   | succ n => rw [lF I hF ds es r1 r2 (by simpa only [okE] using o1) (by simpa only [okE] using o2)]
 | .tup ds, .lst es, v, n, q, r, o1, o2 => by
   show 'Ս'
   obtain ⟨i1, _, p1, _⟩ := I.list (hF.lst h2)
   obtain ⟨i2, _, p2, _⟩ := I.tuple (hF.tup h1)
   exact absurd rfl (SeqAt.ne_of_list_tuple p1.isList (show s.heap.IsTuple l i2.toArray from p2))
 | .lst ds, .non, v, n, q, r, o1, o2 => by
   have e1 : v = .non := r
   show 'Տ'
   cases e2
 | .lst ds, .bl b, v, n, q, r, o1, o2 => by
   have e1 : v = .bl b := r
   show 'Տ'
   cases e2
 | .lst ds, .int b, v, n, q, r, o1, o2 => by
   have e1 : v = .int b := r
   show 'Տ'
   cases e2
 | .lst ds, .str b, v, n, q, r, o1, o2 => by
   have e1 : v = .str b := r
   show 'Տ'
   cases e2
 | .lst ds, .tup es, v, n, q, r, o1, o2 => by
   show 'Ս'
   obtain ⟨i1, _, p1, _⟩ := I.list (hF.lst h1)
   obtain ⟨i2, _, p2, _⟩ := I.tuple (hF.tup h2)
   exact absurd rfl (SeqAt.ne_of_list_tuple p1.isList (show s.heap.IsTuple l i2.toArray from p2))
 | .lst ds, .lst es, v, n, q, r, o1, o2 => by
   show 'Ս'
   have e3 := SqL.inj I (hF.lst h1) (hF.lst h2)
   subst e3
   cases n with
   | zero => exact absurd o1 (by simp [okE])
   | succ n => rw [lF I hF ds es r1 r2 (by simpa only [okE] using o1) (by simpa only [okE] using o2)]
 | .ins _ _, _, _, _, _, _, o1, _ => by simp [okE] at o1
 | _, .ins _ _, _, _, _, _, _, o2 => by simp [okE] at o2
theorem lF {pins : List (Addr × Obj)} {σ : St} {F H : Hp} {s : Shared} (I : Inv X pins σ H s) (hF : aY F H) : ∀ (ds es : List Dat) {xs : List V} {n : Nat}, aB X.K F ds xs -> aB X.K F es xs -> hX ds n = true -> hX es n = true -> ds = es
 | [], [], _, _, _, _, _, _ => rfl
 | [], _ :: _, _, _, q, ⟨_, _, e, _⟩, _, _ => by rw [show _ = [] from q] at e; cases e
 | _ :: _, [], _, _, ⟨_, _, e, _⟩, q, _, _ => by rw [show _ = [] from q] at e; cases e
 | d :: ds, e :: es, _, n, ⟨v, vs, e1, q1, r1⟩, ⟨w, ws, e2, q2, r2⟩, o1, o2 => by
  rw [e1] at e2
  cases e2
  simp only [hX, Bool.and_eq_true] at o1 o2
  rw [deep_inj I hF d e q1 q2 o1.1 o2.1, lF I hF ds es r1 r2 o1.2 o2.2]
end
end
section
variable {X : Cx} {K : PySem.W.Frag} {W : gF} {own ro : Bool}
mutual
theorem zi {pins : List (Addr × Obj)} {σ : St} {F H : Hp} {s : Shared} (I : Inv X pins σ H s) (hF : aY F H) : ∀ (a b : Dat) {n : Nat} {x y : V} {u v : Value} {A : Around}, okE a n = true -> okE b n = true -> bT X.K F a x -> bT X.K F b y -> RelV x u -> RelV y v -> A.units + n < cLine -> SeqAt.EqAt A s u v (eqD a b)
 | .non, .non, n, x, y, u, v, A, oa, ob, qa, qb, ra, rb, hu => by
   show 'Ծ'
   show 'Կ'
   exact SeqAt.EqAt.same _
 | .non, .bl b, n, x, y, u, v, A, oa, ob, qa, qb, ra, rb, hu => by
   show 'Ծ'
   show 'Լ'
   exact SeqAt.EqAt.none_bool b
 | .non, .int b, n, x, y, u, v, A, oa, ob, qa, qb, ra, rb, hu => by
   show 'Ծ'
   show 'Զ'
   exact SeqAt.EqAt.none_int b t2
 | .non, .str b, n, x, y, u, v, A, oa, ob, qa, qb, ra, rb, hu => by
   show 'Ծ'
   show 'Է'
   exact SeqAt.EqAt.none_str b t2
 | .non, .tup es, n, x, y, u, v, A, oa, ob, qa, qb, ra, rb, hu => by
   show 'Ծ'
   show 'Բ'
   exact SeqAt.EqAt.none_tuple (show s.heap.IsTuple l2 js.toArray from p2) (by omega)
 | .non, .lst es, n, x, y, u, v, A, oa, ob, qa, qb, ra, rb, hu => by
   show 'Ծ'
   show 'Դ'
   exact SeqAt.EqAt.none_list p2.isList (by omega)
 | .bl a, .non, n, x, y, u, v, A, oa, ob, qa, qb, ra, rb, hu => by
   show 'Խ'
   show 'Կ'
   exact SeqAt.EqAt.bool_none a
 | .bl a, .bl b, n, x, y, u, v, A, oa, ob, qa, qb, ra, rb, hu => by
   show 'Խ'
   show 'Լ'
   exact SeqAt.EqAt.bool_bool a b
 | .bl a, .int b, n, x, y, u, v, A, oa, ob, qa, qb, ra, rb, hu => by
   show 'Խ'
   show 'Զ'
   exact SeqAt.EqAt.bool_int a b t2
 | .bl a, .str b, n, x, y, u, v, A, oa, ob, qa, qb, ra, rb, hu => by
   show 'Խ'
   show 'Է'
   exact SeqAt.EqAt.bool_str a b t2
 | .bl a, .tup es, n, x, y, u, v, A, oa, ob, qa, qb, ra, rb, hu => by
   show 'Խ'
   show 'Բ'
   exact SeqAt.EqAt.bool_tuple a (show s.heap.IsTuple l2 js.toArray from p2) (by omega)
 | .bl a, .lst es, n, x, y, u, v, A, oa, ob, qa, qb, ra, rb, hu => by
   show 'Խ'
   show 'Դ'
   exact SeqAt.EqAt.bool_list a p2.isList (by omega)
 | .int a, .non, n, x, y, u, v, A, oa, ob, qa, qb, ra, rb, hu => by
   show 'Ը'
   show 'Կ'
   exact SeqAt.EqAt.int_none a t1
 | .int a, .bl b, n, x, y, u, v, A, oa, ob, qa, qb, ra, rb, hu => by
   show 'Ը'
   show 'Լ'
   exact SeqAt.EqAt.int_bool a t1 b
 | .int a, .int b, n, x, y, u, v, A, oa, ob, qa, qb, ra, rb, hu => by
   show 'Ը'
   show 'Զ'
   exact SeqAt.EqAt.int_int a t1 b t2
 | .int a, .str b, n, x, y, u, v, A, oa, ob, qa, qb, ra, rb, hu => by
   show 'Ը'
   show 'Է'
   exact SeqAt.EqAt.int_str a t1 b t2
 | .int a, .tup es, n, x, y, u, v, A, oa, ob, qa, qb, ra, rb, hu => by
   show 'Ը'
   show 'Բ'
   exact SeqAt.EqAt.int_tuple a t1 (show s.heap.IsTuple l2 js.toArray from p2) (by omega)
 | .int a, .lst es, n, x, y, u, v, A, oa, ob, qa, qb, ra, rb, hu => by
   show 'Ը'
   show 'Դ'
   exact SeqAt.EqAt.int_list a t1 p2.isList (by omega)
 | .str a, .non, n, x, y, u, v, A, oa, ob, qa, qb, ra, rb, hu => by
   show 'Թ'
   show 'Կ'
   exact SeqAt.EqAt.str_none a t1
 | .str a, .bl b, n, x, y, u, v, A, oa, ob, qa, qb, ra, rb, hu => by
   show 'Թ'
   show 'Լ'
   exact SeqAt.EqAt.str_bool a t1 b
 | .str a, .int b, n, x, y, u, v, A, oa, ob, qa, qb, ra, rb, hu => by
   show 'Թ'
   show 'Զ'
   exact SeqAt.EqAt.str_int a t1 b t2
 | .str a, .str b, n, x, y, u, v, A, oa, ob, qa, qb, ra, rb, hu => by
   show 'Թ'
   show 'Է'
   exact SeqAt.EqAt.str_str a t1 b t2
 | .str a, .tup es, n, x, y, u, v, A, oa, ob, qa, qb, ra, rb, hu => by
   show 'Թ'
   show 'Բ'
   exact SeqAt.EqAt.str_tuple a t1 (show s.heap.IsTuple l2 js.toArray from p2) (by omega)
 | .str a, .lst es, n, x, y, u, v, A, oa, ob, qa, qb, ra, rb, hu => by
   show 'Թ'
   show 'Դ'
   exact SeqAt.EqAt.str_list a t1 p2.isList (by omega)
 | .tup ds, .non, n, x, y, u, v, A, oa, ob, qa, qb, ra, rb, hu => by
   show 'Գ'
   show 'Կ'
   exact SeqAt.EqAt.tuple_none (show s.heap.IsTuple l1 is.toArray from p1) (by omega)
 | .tup ds, .bl b, n, x, y, u, v, A, oa, ob, qa, qb, ra, rb, hu => by
   show 'Գ'
   show 'Լ'
   exact SeqAt.EqAt.tuple_bool b (show s.heap.IsTuple l1 is.toArray from p1) (by omega)
 | .tup ds, .int b, n, x, y, u, v, A, oa, ob, qa, qb, ra, rb, hu => by
   show 'Գ'
   show 'Զ'
   exact SeqAt.EqAt.tuple_int b t2 (show s.heap.IsTuple l1 is.toArray from p1) (by omega)
 | .tup ds, .str b, n, x, y, u, v, A, oa, ob, qa, qb, ra, rb, hu => by
   show 'Գ'
   show 'Է'
   exact SeqAt.EqAt.tuple_str b t2 (show s.heap.IsTuple l1 is.toArray from p1) (by omega)
 | .tup ds, .tup es, n, x, y, u, v, A, oa, ob, qa, qb, ra, rb, hu => by
   show 'Գ'
   show 'Բ'
   show 'Ղ'
   cases n with
   | zero => exact absurd oa (by simp [okE])
   | succ n =>
    show 'Ժ'
    by_cases hab : l1 = l2
    ·subst hab
     have e3 := SqT.inj I (hF.tup h1) (hF.tup h2)
     show 'վ'
    ·have q := SeqAt.RcAt.tuples (A := A) (e := gL ds es) (show s.heap.IsTuple l1 is.toArray from p1) (show s.heap.IsTuple l2 js.toArray from p2) (by omega) (fun j h1 h2 => by
      show 'Ա'
      )
     show 'Մ'
     exact SeqAt.EqAt.of_refs hab q
 | .tup ds, .lst es, n, x, y, u, v, A, oa, ob, qa, qb, ra, rb, hu => by
   show 'Գ'
   show 'Դ'
   exact SeqAt.EqAt.tuple_list (show s.heap.IsTuple l1 is.toArray from p1) p2.isList (by omega)
 | .lst ds, .non, n, x, y, u, v, A, oa, ob, qa, qb, ra, rb, hu => by
   show 'Ե'
   show 'Կ'
   exact SeqAt.EqAt.list_none p1.isList (by omega)
 | .lst ds, .bl b, n, x, y, u, v, A, oa, ob, qa, qb, ra, rb, hu => by
   show 'Ե'
   show 'Լ'
   exact SeqAt.EqAt.list_bool b p1.isList (by omega)
 | .lst ds, .int b, n, x, y, u, v, A, oa, ob, qa, qb, ra, rb, hu => by
   show 'Ե'
   show 'Զ'
   exact SeqAt.EqAt.list_int b t2 p1.isList (by omega)
 | .lst ds, .str b, n, x, y, u, v, A, oa, ob, qa, qb, ra, rb, hu => by
   show 'Ե'
   show 'Է'
   exact SeqAt.EqAt.list_str b t2 p1.isList (by omega)
 | .lst ds, .tup es, n, x, y, u, v, A, oa, ob, qa, qb, ra, rb, hu => by
   show 'Ե'
   show 'Բ'
   exact SeqAt.EqAt.list_tuple p1.isList (show s.heap.IsTuple l2 js.toArray from p2) (by omega)
 | .lst ds, .lst es, n, x, y, u, v, A, oa, ob, qa, qb, ra, rb, hu => by
   show 'Ե'
   show 'Դ'
   show 'Ղ'
   cases n with
   | zero => exact absurd oa (by simp [okE])
   | succ n =>
    show 'Ժ'
    by_cases hab : l1 = l2
    ·subst hab
     have e3 := SqL.inj I (hF.lst h1) (hF.lst h2)
     show 'վ'
    ·by_cases hl : ds.length = es.length
     ·have q := SeqAt.RcAt.lists (A := A) (e := gL ds es) p1.isList p2.isList (by simp; omega) (by omega) (fun j h1 h2 => by
       show 'Ա'
       )
      show 'Ռ'
      exact SeqAt.EqAt.of_refs hab q
     ·rw [show eqD (.lst ds) (.lst es) = false from mS hl]
      exact SeqAt.EqAt.of_refs hab (SeqAt.RcAt.lists_lengths (A := A) p1.isList p2.isList (by simp; omega) (by omega))
 | .ins _ _, _, _, _, _, _, _, _, oa, _, _, _, _, _, _ => by simp [okE] at oa
 | _, .ins _ _, _, _, _, _, _, _, _, ob, _, _, _, _, _ => by simp [okE] at ob
theorem mr {pins : List (Addr × Obj)} {σ : St} {F H : Hp} {s : Shared} (I : Inv X pins σ H s) (hF : aY F H) : ∀ (ds : List Dat) (j : Nat) (a : Dat), ds[j]? = some a -> ∀ (b : Dat) {n : Nat} {x y : V} {u v : Value} {A : Around}, okE a n = true -> okE b n = true -> bT X.K F a x -> bT X.K F b y -> RelV x u -> RelV y v -> A.units + n < cLine -> SeqAt.EqAt A s u v (eqD a b)
 | [], j, _, h => by simp at h
 | d :: ds, 0, _, h => by
  simp only [List.getElem?_cons_zero, Option.some.injEq] at h
  subst h
  exact zi I hF d
 | d :: ds, j + 1, a, h => mr I hF ds j a (by simpa using h)
end
theorem rcAt_D {pins : List (Addr × Obj)} {σ : St} {F H : Hp} {s : Shared} (I : Inv X pins σ H s) (hF : aY F H) : ∀ (a b : Dat) {n : Nat} {x y : V} {u v : Value} {A : Around}, okE a n = true -> okE b n = true -> bT X.K F a x -> bT X.K F b y -> RelV x u -> RelV y v -> A.units + n < cLine -> SeqAt.RcAt A s u v (eqD a b)
 | .non, .non, n, x, y, u, v, A, oa, ob, qa, qb, ra, rb, hu => by
   show 'Ծ'
   show 'Կ'
   exact SeqAt.RcAt.none_none
 | .non, .bl b, n, x, y, u, v, A, oa, ob, qa, qb, ra, rb, hu => by
   show 'Ծ'
   show 'Լ'
   exact SeqAt.RcAt.none_bool b
 | .non, .int b, n, x, y, u, v, A, oa, ob, qa, qb, ra, rb, hu => by
   show 'Ծ'
   show 'Զ'
   exact SeqAt.RcAt.none_int b t2
 | .non, .str b, n, x, y, u, v, A, oa, ob, qa, qb, ra, rb, hu => by
   show 'Ծ'
   show 'Է'
   exact SeqAt.RcAt.none_str b t2
 | .non, .tup es, n, x, y, u, v, A, oa, ob, qa, qb, ra, rb, hu => by
   show 'Ծ'
   show 'Բ'
   exact SeqAt.RcAt.none_tuple (show s.heap.IsTuple l2 js.toArray from p2) (by omega)
 | .non, .lst es, n, x, y, u, v, A, oa, ob, qa, qb, ra, rb, hu => by
   show 'Ծ'
   show 'Դ'
   exact SeqAt.RcAt.none_list p2.isList (by omega)
 | .bl a, .non, n, x, y, u, v, A, oa, ob, qa, qb, ra, rb, hu => by
   show 'Խ'
   show 'Կ'
   exact SeqAt.RcAt.bool_none a
 | .bl a, .bl b, n, x, y, u, v, A, oa, ob, qa, qb, ra, rb, hu => by
   show 'Խ'
   show 'Լ'
   exact SeqAt.RcAt.bool_bool a b
 | .bl a, .int b, n, x, y, u, v, A, oa, ob, qa, qb, ra, rb, hu => by
   show 'Խ'
   show 'Զ'
   exact SeqAt.RcAt.bool_int a b t2
 | .bl a, .str b, n, x, y, u, v, A, oa, ob, qa, qb, ra, rb, hu => by
   show 'Խ'
   show 'Է'
   exact SeqAt.RcAt.bool_str a b t2
 | .bl a, .tup es, n, x, y, u, v, A, oa, ob, qa, qb, ra, rb, hu => by
   show 'Խ'
   show 'Բ'
   exact SeqAt.RcAt.bool_tuple a (show s.heap.IsTuple l2 js.toArray from p2) (by omega)
 | .bl a, .lst es, n, x, y, u, v, A, oa, ob, qa, qb, ra, rb, hu => by
   show 'Խ'
   show 'Դ'
   exact SeqAt.RcAt.bool_list a p2.isList (by omega)
 | .int a, .non, n, x, y, u, v, A, oa, ob, qa, qb, ra, rb, hu => by
   show 'Ը'
   show 'Կ'
   exact SeqAt.RcAt.int_none a t1
 | .int a, .bl b, n, x, y, u, v, A, oa, ob, qa, qb, ra, rb, hu => by
   show 'Ը'
   show 'Լ'
   exact SeqAt.RcAt.int_bool a t1 b
 | .int a, .int b, n, x, y, u, v, A, oa, ob, qa, qb, ra, rb, hu => by
   show 'Ը'
   show 'Զ'
   exact SeqAt.RcAt.int_int a t1 b t2
 | .int a, .str b, n, x, y, u, v, A, oa, ob, qa, qb, ra, rb, hu => by
   show 'Ը'
   show 'Է'
   exact SeqAt.RcAt.int_str a t1 b t2
 | .int a, .tup es, n, x, y, u, v, A, oa, ob, qa, qb, ra, rb, hu => by
   show 'Ը'
   show 'Բ'
   exact SeqAt.RcAt.int_tuple a t1 (show s.heap.IsTuple l2 js.toArray from p2) (by omega)
 | .int a, .lst es, n, x, y, u, v, A, oa, ob, qa, qb, ra, rb, hu => by
   show 'Ը'
   show 'Դ'
   exact SeqAt.RcAt.int_list a t1 p2.isList (by omega)
 | .str a, .non, n, x, y, u, v, A, oa, ob, qa, qb, ra, rb, hu => by
   show 'Թ'
   show 'Կ'
   exact SeqAt.RcAt.str_none a t1
 | .str a, .bl b, n, x, y, u, v, A, oa, ob, qa, qb, ra, rb, hu => by
   show 'Թ'
   show 'Լ'
   exact SeqAt.RcAt.str_bool a t1 b
 | .str a, .int b, n, x, y, u, v, A, oa, ob, qa, qb, ra, rb, hu => by
   show 'Թ'
   show 'Զ'
   exact SeqAt.RcAt.str_int a t1 b t2
 | .str a, .str b, n, x, y, u, v, A, oa, ob, qa, qb, ra, rb, hu => by
   show 'Թ'
   show 'Է'
   exact SeqAt.RcAt.str_str a t1 b t2
 | .str a, .tup es, n, x, y, u, v, A, oa, ob, qa, qb, ra, rb, hu => by
   show 'Թ'
   show 'Բ'
   exact SeqAt.RcAt.str_tuple a t1 (show s.heap.IsTuple l2 js.toArray from p2) (by omega)
 | .str a, .lst es, n, x, y, u, v, A, oa, ob, qa, qb, ra, rb, hu => by
   show 'Թ'
   show 'Դ'
   exact SeqAt.RcAt.str_list a t1 p2.isList (by omega)
 | .tup ds, .non, n, x, y, u, v, A, oa, ob, qa, qb, ra, rb, hu => by
   show 'Գ'
   show 'Կ'
   exact SeqAt.RcAt.tuple_none (show s.heap.IsTuple l1 is.toArray from p1) (by omega)
 | .tup ds, .bl b, n, x, y, u, v, A, oa, ob, qa, qb, ra, rb, hu => by
   show 'Գ'
   show 'Լ'
   exact SeqAt.RcAt.tuple_bool b (show s.heap.IsTuple l1 is.toArray from p1) (by omega)
 | .tup ds, .int b, n, x, y, u, v, A, oa, ob, qa, qb, ra, rb, hu => by
   show 'Գ'
   show 'Զ'
   exact SeqAt.RcAt.tuple_int b t2 (show s.heap.IsTuple l1 is.toArray from p1) (by omega)
 | .tup ds, .str b, n, x, y, u, v, A, oa, ob, qa, qb, ra, rb, hu => by
   show 'Գ'
   show 'Է'
   exact SeqAt.RcAt.tuple_str b t2 (show s.heap.IsTuple l1 is.toArray from p1) (by omega)
 | .tup ds, .tup es, n, x, y, u, v, A, oa, ob, qa, qb, ra, rb, hu => by
   show 'Գ'
   show 'Բ'
   show 'Ղ'
   cases n with
   | zero => exact absurd oa (by simp [okE])
   | succ n =>
    show 'Ժ'
    have q := SeqAt.RcAt.tuples (A := A) (e := gL ds es) (show s.heap.IsTuple l1 is.toArray from p1) (show s.heap.IsTuple l2 js.toArray from p2) (by omega) (fun j h1 h2 => by
     show 'Ա'
     )
    show 'Մ'
    exact q
 | .tup ds, .lst es, n, x, y, u, v, A, oa, ob, qa, qb, ra, rb, hu => by
   show 'Գ'
   show 'Դ'
   exact SeqAt.RcAt.tuple_list (show s.heap.IsTuple l1 is.toArray from p1) p2.isList (by omega)
 | .lst ds, .non, n, x, y, u, v, A, oa, ob, qa, qb, ra, rb, hu => by
   show 'Ե'
   show 'Կ'
   exact SeqAt.RcAt.list_none p1.isList (by omega)
 | .lst ds, .bl b, n, x, y, u, v, A, oa, ob, qa, qb, ra, rb, hu => by
   show 'Ե'
   show 'Լ'
   exact SeqAt.RcAt.list_bool b p1.isList (by omega)
 | .lst ds, .int b, n, x, y, u, v, A, oa, ob, qa, qb, ra, rb, hu => by
   show 'Ե'
   show 'Զ'
   exact SeqAt.RcAt.list_int b t2 p1.isList (by omega)
 | .lst ds, .str b, n, x, y, u, v, A, oa, ob, qa, qb, ra, rb, hu => by
   show 'Ե'
   show 'Է'
   exact SeqAt.RcAt.list_str b t2 p1.isList (by omega)
 | .lst ds, .tup es, n, x, y, u, v, A, oa, ob, qa, qb, ra, rb, hu => by
   show 'Ե'
   show 'Բ'
   exact SeqAt.RcAt.list_tuple p1.isList (show s.heap.IsTuple l2 js.toArray from p2) (by omega)
 | .lst ds, .lst es, n, x, y, u, v, A, oa, ob, qa, qb, ra, rb, hu => by
   show 'Ե'
   show 'Դ'
   show 'Ղ'
   cases n with
   | zero => exact absurd oa (by simp [okE])
   | succ n =>
    show 'Ժ'
    by_cases hl : ds.length = es.length
    ·have q := SeqAt.RcAt.lists (A := A) (e := gL ds es) p1.isList p2.isList (by simp; omega) (by omega) (fun j h1 h2 => by
      show 'Ա'
      )
     show 'Ռ'
     exact q
    ·rw [show eqD (.lst ds) (.lst es) = false from mS hl]
     exact SeqAt.RcAt.lists_lengths (A := A) p1.isList p2.isList (by simp; omega) (by omega)
 | .ins _ _, _, _, _, _, _, _, _, oa, _, _, _, _, _, _ => by simp [okE] at oa
 | _, .ins _ _, _, _, _, _, _, _, _, ob, _, _, _, _, _ => by simp [okE] at ob
theorem rcNeAt_D {pins : List (Addr × Obj)} {σ : St} {F H : Hp} {s : Shared} (I : Inv X pins σ H s) (hF : aY F H) : ∀ (a b : Dat) {n : Nat} {x y : V} {u v : Value} {A : Around}, okE a n = true -> okE b n = true -> bT X.K F a x -> bT X.K F b y -> RelV x u -> RelV y v -> A.units + n < cLine -> SeqAt.RcNeAt A s u v (!eqD a b)
 | .non, .non, n, x, y, u, v, A, oa, ob, qa, qb, ra, rb, hu => by
   show 'Ծ'
   show 'Կ'
   exact SeqAt.RcNeAt.none_none
 | .non, .bl b, n, x, y, u, v, A, oa, ob, qa, qb, ra, rb, hu => by
   show 'Ծ'
   show 'Լ'
   exact SeqAt.RcNeAt.none_bool b
 | .non, .int b, n, x, y, u, v, A, oa, ob, qa, qb, ra, rb, hu => by
   show 'Ծ'
   show 'Զ'
   exact SeqAt.RcNeAt.none_int b t2
 | .non, .str b, n, x, y, u, v, A, oa, ob, qa, qb, ra, rb, hu => by
   show 'Ծ'
   show 'Է'
   exact SeqAt.RcNeAt.none_str b t2
 | .non, .tup es, n, x, y, u, v, A, oa, ob, qa, qb, ra, rb, hu => by
   show 'Ծ'
   show 'Բ'
   exact SeqAt.RcNeAt.none_tuple (show s.heap.IsTuple l2 js.toArray from p2) (by omega)
 | .non, .lst es, n, x, y, u, v, A, oa, ob, qa, qb, ra, rb, hu => by
   show 'Ծ'
   show 'Դ'
   exact SeqAt.RcNeAt.none_list p2.isList (by omega)
 | .bl a, .non, n, x, y, u, v, A, oa, ob, qa, qb, ra, rb, hu => by
   show 'Խ'
   show 'Կ'
   exact SeqAt.RcNeAt.bool_none a
 | .bl a, .bl b, n, x, y, u, v, A, oa, ob, qa, qb, ra, rb, hu => by
   show 'Խ'
   show 'Լ'
   exact SeqAt.RcNeAt.bool_bool a b
 | .bl a, .int b, n, x, y, u, v, A, oa, ob, qa, qb, ra, rb, hu => by
   show 'Խ'
   show 'Զ'
   exact SeqAt.RcNeAt.bool_int a b t2
 | .bl a, .str b, n, x, y, u, v, A, oa, ob, qa, qb, ra, rb, hu => by
   show 'Խ'
   show 'Է'
   exact SeqAt.RcNeAt.bool_str a b t2
 | .bl a, .tup es, n, x, y, u, v, A, oa, ob, qa, qb, ra, rb, hu => by
   show 'Խ'
   show 'Բ'
   exact SeqAt.RcNeAt.bool_tuple a (show s.heap.IsTuple l2 js.toArray from p2) (by omega)
 | .bl a, .lst es, n, x, y, u, v, A, oa, ob, qa, qb, ra, rb, hu => by
   show 'Խ'
   show 'Դ'
   exact SeqAt.RcNeAt.bool_list a p2.isList (by omega)
 | .int a, .non, n, x, y, u, v, A, oa, ob, qa, qb, ra, rb, hu => by
   show 'Ը'
   show 'Կ'
   exact SeqAt.RcNeAt.int_none a t1
 | .int a, .bl b, n, x, y, u, v, A, oa, ob, qa, qb, ra, rb, hu => by
   show 'Ը'
   show 'Լ'
   exact SeqAt.RcNeAt.int_bool a t1 b
 | .int a, .int b, n, x, y, u, v, A, oa, ob, qa, qb, ra, rb, hu => by
   show 'Ը'
   show 'Զ'
   exact SeqAt.RcNeAt.int_int a t1 b t2
 | .int a, .str b, n, x, y, u, v, A, oa, ob, qa, qb, ra, rb, hu => by
   show 'Ը'
   show 'Է'
   exact SeqAt.RcNeAt.int_str a t1 b t2
 | .int a, .tup es, n, x, y, u, v, A, oa, ob, qa, qb, ra, rb, hu => by
   show 'Ը'
   show 'Բ'
   exact SeqAt.RcNeAt.int_tuple a t1 (show s.heap.IsTuple l2 js.toArray from p2) (by omega)
 | .int a, .lst es, n, x, y, u, v, A, oa, ob, qa, qb, ra, rb, hu => by
   show 'Ը'
   show 'Դ'
   exact SeqAt.RcNeAt.int_list a t1 p2.isList (by omega)
 | .str a, .non, n, x, y, u, v, A, oa, ob, qa, qb, ra, rb, hu => by
   show 'Թ'
   show 'Կ'
   exact SeqAt.RcNeAt.str_none a t1
 | .str a, .bl b, n, x, y, u, v, A, oa, ob, qa, qb, ra, rb, hu => by
   show 'Թ'
   show 'Լ'
   exact SeqAt.RcNeAt.str_bool a t1 b
 | .str a, .int b, n, x, y, u, v, A, oa, ob, qa, qb, ra, rb, hu => by
   show 'Թ'
   show 'Զ'
   exact SeqAt.RcNeAt.str_int a t1 b t2
 | .str a, .str b, n, x, y, u, v, A, oa, ob, qa, qb, ra, rb, hu => by
   show 'Թ'
   show 'Է'
   exact SeqAt.RcNeAt.str_str a t1 b t2
 | .str a, .tup es, n, x, y, u, v, A, oa, ob, qa, qb, ra, rb, hu => by
   show 'Թ'
   show 'Բ'
   exact SeqAt.RcNeAt.str_tuple a t1 (show s.heap.IsTuple l2 js.toArray from p2) (by omega)
 | .str a, .lst es, n, x, y, u, v, A, oa, ob, qa, qb, ra, rb, hu => by
   show 'Թ'
   show 'Դ'
   exact SeqAt.RcNeAt.str_list a t1 p2.isList (by omega)
 | .tup ds, .non, n, x, y, u, v, A, oa, ob, qa, qb, ra, rb, hu => by
   show 'Գ'
   show 'Կ'
   exact SeqAt.RcNeAt.tuple_none (show s.heap.IsTuple l1 is.toArray from p1) (by omega)
 | .tup ds, .bl b, n, x, y, u, v, A, oa, ob, qa, qb, ra, rb, hu => by
   show 'Գ'
   show 'Լ'
   exact SeqAt.RcNeAt.tuple_bool b (show s.heap.IsTuple l1 is.toArray from p1) (by omega)
 | .tup ds, .int b, n, x, y, u, v, A, oa, ob, qa, qb, ra, rb, hu => by
   show 'Գ'
   show 'Զ'
   exact SeqAt.RcNeAt.tuple_int b t2 (show s.heap.IsTuple l1 is.toArray from p1) (by omega)
 | .tup ds, .str b, n, x, y, u, v, A, oa, ob, qa, qb, ra, rb, hu => by
   show 'Գ'
   show 'Է'
   exact SeqAt.RcNeAt.tuple_str b t2 (show s.heap.IsTuple l1 is.toArray from p1) (by omega)
 | .tup ds, .tup es, n, x, y, u, v, A, oa, ob, qa, qb, ra, rb, hu => by
   show 'Գ'
   show 'Բ'
   show 'Ղ'
   cases n with
   | zero => exact absurd oa (by simp [okE])
   | succ n =>
    show 'Ժ'
    have q := SeqAt.RcNeAt.tuples (A := A) (e := gL ds es) (show s.heap.IsTuple l1 is.toArray from p1) (show s.heap.IsTuple l2 js.toArray from p2) (by omega) (fun j h1 h2 => by
     show 'Ա'
     )
    show 'Մ'
    exact q
 | .tup ds, .lst es, n, x, y, u, v, A, oa, ob, qa, qb, ra, rb, hu => by
   show 'Գ'
   show 'Դ'
   exact SeqAt.RcNeAt.tuple_list (show s.heap.IsTuple l1 is.toArray from p1) p2.isList (by omega)
 | .lst ds, .non, n, x, y, u, v, A, oa, ob, qa, qb, ra, rb, hu => by
   show 'Ե'
   show 'Կ'
   exact SeqAt.RcNeAt.list_none p1.isList (by omega)
 | .lst ds, .bl b, n, x, y, u, v, A, oa, ob, qa, qb, ra, rb, hu => by
   show 'Ե'
   show 'Լ'
   exact SeqAt.RcNeAt.list_bool b p1.isList (by omega)
 | .lst ds, .int b, n, x, y, u, v, A, oa, ob, qa, qb, ra, rb, hu => by
   show 'Ե'
   show 'Զ'
   exact SeqAt.RcNeAt.list_int b t2 p1.isList (by omega)
 | .lst ds, .str b, n, x, y, u, v, A, oa, ob, qa, qb, ra, rb, hu => by
   show 'Ե'
   show 'Է'
   exact SeqAt.RcNeAt.list_str b t2 p1.isList (by omega)
 | .lst ds, .tup es, n, x, y, u, v, A, oa, ob, qa, qb, ra, rb, hu => by
   show 'Ե'
   show 'Բ'
   exact SeqAt.RcNeAt.list_tuple p1.isList (show s.heap.IsTuple l2 js.toArray from p2) (by omega)
 | .lst ds, .lst es, n, x, y, u, v, A, oa, ob, qa, qb, ra, rb, hu => by
   show 'Ե'
   show 'Դ'
   show 'Ղ'
   cases n with
   | zero => exact absurd oa (by simp [okE])
   | succ n =>
    show 'Ժ'
    by_cases hl : ds.length = es.length
    ·have q := SeqAt.RcNeAt.lists (A := A) (e := gL ds es) p1.isList p2.isList (by simp; omega) (by omega) (fun j h1 h2 => by
      show 'Ա'
      )
     show 'Ռ'
     exact q
    ·rw [show eqD (.lst ds) (.lst es) = false from mS hl]
     exact SeqAt.RcNeAt.lists_lengths (A := A) p1.isList p2.isList (by simp; omega) (by omega)
 | .ins _ _, _, _, _, _, _, _, _, oa, _, _, _, _, _, _ => by simp [okE] at oa
 | _, .ins _ _, _, _, _, _, _, _, _, ob, _, _, _, _, _ => by simp [okE] at ob
end
section
variable {X : Cx} {K : PySem.W.Frag} {W : gF} {own ro : Bool}
theorem aI.blS {F H : Hp} {Q : VK} {pins : List (Addr × Obj)} {σ : St} {s : Shared} {b : Bool} (p : aI K W own F H (.ok (.bl b)) Q) (s1 : aY F H) (I : Inv X pins σ H s) : EP X pins σ Q (.bool b) s := ⟨.bl b, H, I, rfl, p.bl s1⟩
theorem w5 (hu : X.A.units + 64 < cLine) (hK : X.K = K := by rfl) : Op2 K W own X (compareOp .Eq) eqM := by
 subst hK
 show 'Ն'
 obtain ⟨F, a, b, s1, qa, qb, p⟩ := h
 unfold eqM at p
 by_cases hc : (okE a 40 && okE b 40) = true
 ·rw [if_pos hc] at p
  simp only [Bool.and_eq_true] at hc
  exact rcAt_D I s1 a b hc.1 hc.2 qa qb rx ry (by omega) _ _ _ _ (p.blS s1 I)
 ·rw [if_neg hc] at p; exact p.stuck
theorem o_ne (hu : X.A.units + 64 < cLine) (hK : X.K = K := by rfl) : Op2 K W own X (compareOp .NotEq) neM := by
 subst hK
 show 'Ն'
 obtain ⟨F, a, b, s1, qa, qb, p⟩ := h
 unfold neM at p
 by_cases hc : (okE a 40 && okE b 40) = true
 ·rw [if_pos hc] at p
  simp only [Bool.and_eq_true] at hc
  exact rcNeAt_D I s1 a b hc.1 hc.2 qa qb rx ry (by omega) _ _ _ _ (p.blS s1 I)
 ·rw [if_neg hc] at p; exact p.stuck
end
end L2
namespace L2
open PySem PySem.Spec PyProof.Rows
section
variable {X : Cx} {pins : List (Addr × Obj)} {σ : St} {H : Hp} {s : Shared} {h' : Heap}
theorem Inv.turnedT {t' : Nat} {ch : List Addr} {T : Addr} {xs : List V} (I : Inv X pins σ H s) (hf : ∀ b ∈ ch, xK X pins H b) (k : ∀ b o, b ∉ ch -> s.heap.get? b = some o -> h'.get? b = some o) (hT : s.heap.objs.size <= T)
  (new : xs.length <= sizeLine /\ ∃ its : List Value, Vals xs its /\ IsTup h' T its.toArray) : Inv X pins σ (upd H T (.tup xs)) { s with heap := h', toks := t' } := by
 have hTn : H T = none := I.hok.fresh hT
 have nit : ∀ b u, H b = some u -> b ∉ ch := fun b u e z => by rw [(hf b z).1] at e; cases e
 have old : ∀ {b : Addr} {o : Obj}, s.heap.get? b = some o -> b ≠ T := fun {b o} e => Nat.ne_of_lt (Nat.lt_of_lt_of_le (Heap.lt_size e) hT)
 refine I.step (g' := s.gens) (d' := s.drawn) (ch := ch) (fun b hb => ?_) (fun b o _ _ hc e _ => k b o hc e) (fun b o _ _ hc e _ => ⟨o.slots, k b o hc e⟩) (fun b o _ e n => by rw [au (old e)]; exact n)
  (fun b o hc e => ⟨o, k b o hc e⟩) (fun b ys e => by rw [au (aN e hTn)]; exact e) (fun b o u e => by rw [au (aN e hTn)]; exact e) (fun b ps e => ⟨#[], by rw [au (aN e hTn), e]; simp⟩) (fun m hm => ?_) (fun b u e => ?_) I.bare
 ·obtain ⟨f0, f1, f2, f3, f4, f5⟩ := hf b hb
  exact ⟨f3, f1, f4, f5⟩
 ·obtain ⟨o, es, ep, ho, r⟩ := hm
  exact ⟨o, es, ep, k _ o (fun z => (hf _ z).2.1 rfl) ho, r⟩
 ·by_cases hb : b = T
  ·subst hb
   rw [av] at e
   cases e
   exact new
  ·rw [au hb] at e
   refine (I.hok b u e).uP (fun c v hc q => k c v ?_ q) (fun c q => ?_) fun c ys q => ?_
   ·rcases hc with z | z
    ·rw [z]; exact nit b u e
    ·exact nit c _ z
   ·rw [au (aN q hTn)]; exact q
   ·rw [au (aN q hTn)]; exact q
theorem Inv.turnedL {t' : Nat} {ch : List Addr} (I : Inv X pins σ H s) (hf : ∀ b ∈ ch, xK X pins H b) (k : ∀ b o, b ∉ ch -> s.heap.get? b = some o -> h'.get? b = some o) : Inv X pins σ H { s with heap := h', toks := t' } := by
 have nit : ∀ b u, H b = some u -> b ∉ ch := fun b u e z => by rw [(hf b z).1] at e; cases e
 refine I.step (g' := s.gens) (d' := s.drawn) (ch := ch) (fun b hb => ?_) (fun b o _ _ hc e _ => k b o hc e) (fun b o _ _ hc e _ => ⟨o.slots, k b o hc e⟩) (fun b o _ e n => n)
  (fun b o hc e => ⟨o, k b o hc e⟩) (fun b ys e => e) (fun b o u e => e) (fun b ps e => ⟨#[], by rw [e]; simp⟩) (fun m hm => ?_) (fun b u e => ?_) I.bare
 ·obtain ⟨f0, f1, f2, f3, f4, f5⟩ := hf b hb
  exact ⟨f3, f1, f4, f5⟩
 ·obtain ⟨o, es, ep, ho, r⟩ := hm
  exact ⟨o, es, ep, k _ o (fun z => (hf _ z).2.1 rfl) ho, r⟩
 ·refine (I.hok b u e).uP (fun c v hc q => k c v ?_ q) (fun _ q => q) fun _ _ q => q
  rcases hc with z | z
  ·rw [z]; exact nit b u e
  ·exact nit c _ z
end
noncomputable def Ite (K : PySem.W.Frag) (a : Addr) : It :=
 ⟨fun i H => ∃ xs x, SqL K H a xs /\ xs[i]? = some x, fun i H x H' => ∃ T y, H T = none /\ x = .ref T /\ H' = upd H T (.tup [.int i, y]) /\ ∀ xs, SqL K H a xs -> xs[i]? = some y, fun i H => ∃ xs, SqL K H a xs /\ xs.length <= i⟩
theorem xT {P : Program} {w : World} {K : PySem.W.Frag} {elts : List Expr} {k : Nat} {pos : Pos} (a e it : Addr) (hei : e ≠ it) : Turn P w K (.Tuple elts k pos) (Ite K a) [e, it] e (fun i h => (∃ old, IsEnum h e it i old) /\ h.IsListIter it a i) where
 mem := by simp
 obj := fun i h st b hb => by
  obtain ⟨⟨old, he⟩, o, e1, c, d⟩ := st
  rcases List.mem_cons.mp hb with rfl | hb
  ·exact ⟨_, he, fun v z => by cases z⟩
  ·have : b = it := by simpa using hb
   subst this
   exact ⟨o, e1, fun v z => by rw [d] at z; cases z⟩
 keep := fun i h h' st kk => by
  obtain ⟨⟨old, he⟩, hit⟩ := st
  exact ⟨⟨old, kk e (by simp) _ he⟩, hit.at fun o x => kk it (by simp) o x⟩
 item := by
  show 'Ճ'
  obtain ⟨⟨old, he⟩, hit⟩ := st
  obtain ⟨xs, x, hq, hx⟩ := hg
  show 'ղ'
  obtain ⟨u, hu, ru⟩ := rv.get hx
  refine wpAny_pyNext_enum_item he hit p.isList (x := u) (by simpa using hu) hei fun h1 ho hit1 hT hsz hk => ?_
  refine ⟨_, rfl, wpAny_letOwnedTupleGo_enum ho fun h2 he2 hs2 => ?_⟩
  have hlt : e < s.heap.objs.size := Heap.lt_size he
  have hTe : s.heap.objs.size ≠ e := Nat.ne_of_gt hlt
  have I1 : Inv X pins σ (upd H s.heap.objs.size (.tup [.int i, x])) { s with heap := h2, toks := s.toks + 1 } := I.turnedT (ch := [e, it]) hf (fun b o hb q => by
    have h3 := hk b o (fun z => hb (by simp [z])) (fun z => hb (by simp [z])) q
    exact (hs2.2 b (fun z => hb (by simp [z]))).trans h3) (Nat.le_refl _) ⟨by show 2 <= sizeLine; decide, [.int i s.toks, u], .cons ⟨_, rfl⟩ (.cons ru .nil), ⟨_, (hs2.2 _ hTe).trans hT, rfl, 0, rfl⟩⟩
  refine ⟨.ref s.heap.objs.size, _, I1, rfl, ⟨s.heap.objs.size, x, I.hok.fresh (Nat.le_refl _), rfl, rfl, fun ys hy => by rw [I.w9 hy hq]; exact hx⟩, ⟨⟨u, by simpa using he2⟩, hit1.at fun o y => (hs2.2 it hei.symm).trans y⟩, fun b hb => ?_⟩
  have hbn := (hf b hb).1
  have : b ≠ s.heap.objs.size := by
   rcases List.mem_cons.mp hb with rfl | hb
   ·exact hTe.symm
   ·have : b = it := by simpa using hb
    subst this
    obtain ⟨o, e1, _⟩ := hit
    exact Nat.ne_of_lt (Heap.lt_size e1)
  rw [au this]
  exact hbn
 done := by
  show 'Ճ'
  obtain ⟨⟨old, he⟩, hit⟩ := st
  obtain ⟨xs, hq, hx⟩ := hg
  show 'ղ'
  have hl := rv.length
  exact wpAny_pyNext_enum_end (I.ok.hd hc) he hit p.isList (Array.getElem?_eq_none (by simp; omega)) fun h2 eb => ⟨rfl, I.turnedL (t' := s.toks) (ch := [e, it]) hf fun b o hb q => eb b o (fun z => hb (by simp [z])) q⟩
 self := fun _ _ _ _ _ st h => by
  obtain ⟨⟨old, he⟩, _⟩ := st
  exact wpAny_pyIter_enum he h
theorem jC : ∀ (ds : List Dat) (k i : Nat), (j3 k ds)[i]? = (ds[i]?).map fun d => .tup [.int ((k + i : Nat) : Int), d]
 | [], k, i => by simp [j3]
 | d :: ds, k, 0 => by simp [j3]
 | d :: ds, k, i + 1 => by
  rw [j3, List.getElem?_cons_succ, jC ds (k + 1) i, List.getElem?_cons_succ]
  rw [show k + 1 + i = k + (i + 1) by omega]
theorem f9 : ∀ (ds : List Dat) (k : Nat), (j3 k ds).length = ds.length
 | [], _ => rfl
 | d :: ds, k => by rw [j3, List.length_cons, f9 ds, List.length_cons]
theorem yS {K : PySem.W.Frag} {F : Hp} {a : Addr} {xs : List V} {ds : List Dat} (t : SqL K F a xs) (z : aB K F ds xs) : vL K F (Ite K a) (j3 0 ds) where
 go := fun i F' H' s1 s2 hi => ⟨xs, xs[i]'(by rw [z.length]; rw [f9] at hi; exact hi), s2.lst (s1.lst t), by rw [f9] at hi; simp [z.length, hi]⟩
 yl := fun i F' H' x H2 d s1 s2 hd hy => by
  obtain ⟨T, y, hT, ex, eH, hy⟩ := hy
  subst ex eH
  rw [jC] at hd
  cases hds : ds[i]? with
  | none => rw [hds] at hd; cases hd
  | some d' =>
   rw [hds] at hd
   simp at hd
   subst hd
   obtain ⟨v, e1, q⟩ := z.get hds
   have e2 := hy xs (s2.lst (s1.lst t))
   rw [e1] at e2
   cases e2
   refine ⟨upd F' T (.tup [.int i, y]), Step.lay s2 hT, T, _, rfl, SqT.of av, ?_⟩
   exact ⟨.int i, [y], rfl, rfl, y, [], rfl, (q.mono s1).mono (aY.upd (s2.free hT)), rfl⟩
 st := fun F' H' s1 s2 => ⟨xs, s2.lst (s1.lst t), by rw [z.length, f9]; exact Nat.le_refl _⟩
section
variable {X : Cx} {K : PySem.W.Frag} {W : gF} {own ro : Bool} {e a b c : Expr} {es : List Expr} {x : Str} {pos p : Pos} {f fa fb fc : ao -> M Dat} {fr : ao -> M (List Dat)} {ft : ao -> M Bool}
noncomputable def iEnum (K : PySem.W.Frag) (tl : TE) : TI := fun σ H R => tl σ H fun x H1 => ∃ a, x = .ref a /\ (∃ xs, SqL K H1 a xs) /\ R (Ite K a) H1
theorem pi_enum {elts : List Expr} {k : Nat} {q : Pos} {tl : TE} (hg : Gl X "enumerate") (hm : X.mg "enumerate" = none) (hl : PE X a tl) (hs : starEach [a] X.env = [(false, eval a X.env)] := by rfl) :
  PI X (.Tuple elts k q) (.Call (.Name "enumerate" p) [a] [] pos) (iEnum X.K tl) := by
 intro pins s σ H R I h
 have ha : PA X [a] (t5 tl tNil) := aS hl dk hs
 refine Call_ (nU I hg hm boot_enumerate (PyProof.Rows.callWith_type1 (thn (ha pos pins s σ H (fun vs H1 => match vs with
  | [x] => ∃ a, x = .ref a /\ (∃ xs, SqL X.K H1 a xs) /\ R (Ite X.K a) H1
  | _ => False) I h) fun us s1 ⟨vs, H1, I1, r1, q1⟩ => ?_) hs rfl))
 match vs, r1, q1 with
 | [x], r1, ⟨l, e1, ⟨xs, hq⟩, q⟩ =>
  subst e1
  obtain ⟨u, rfl, ru⟩ := r1.one
  cases ru
  obtain ⟨its, rv, pl, hz⟩ := I1.list hq
  refine call_enumerate_list pl.isList fun h2 he hit hsz hk => ?_
  have I2 : Inv X pins σ H1 { s1 with heap := h2 } := I1.kept (t' := s1.toks) hk
  refine wpAny_pyIter_enum he ?_
  refine ⟨s1.heap.objs.size + 1, [s1.heap.objs.size + 1, s1.heap.objs.size], _, _, H1, rfl, I2, xT l _ _ (Nat.succ_ne_self _), ⟨⟨_, he⟩, hit⟩, fun b hb => ?_, q⟩
  have hb2 : s1.heap.objs.size <= b := by
   rcases List.mem_cons.mp hb with rfl | hb
   ·exact Nat.le_succ _
   ·have : b = s1.heap.objs.size := by simpa using hb
    exact Nat.le_of_eq this.symm
  exact I1.fpOk hb2 (I1.hok.fresh hb2)
theorem ri_enum {σ : St} {H : Hp} {R : It -> Hp -> Prop} (h : iD K W (s9 fa) σ H R) : iEnum K (tD K W false fa) σ H R := by
 show 'Ի'
 refine bC r s (fun e he => ?_) fun d hd v F1 H1 s1 q1 => ?_
 ·have z : s9 fa ρ = .error e := by unfold s9; rw [he]; rfl
  rw [z] at p; exact p
 ·have z : s9 fa ρ = (wc d).bind fun ds => .ok (j3 0 ds) := by unfold s9; rw [hd]; rfl
  rw [z] at p
  cases d with
  | lst ds =>
   obtain ⟨b, xs, e, t, z⟩ := q1
   exact ⟨b, e, ⟨xs, s1.fh.lst t⟩, p _ F1 H1 s1 (yS t z)⟩
  | _ => exact (W.ns p).elim
theorem zt {elts : List Expr} {k : Nat} {q : Pos} (hm : X.mg "enumerate" = none) (hl : DE K W false X a fa) (hg : Gl X "enumerate" := by rfl) (hs : starEach [a] X.env = [(false, eval a X.env)] := by rfl) (hK : X.K = K := by rfl) :
  DI K W X (.Tuple elts k q) (.Call (.Name "enumerate" p) [a] [] pos) (s9 fa) := by
 subst hK
 exact (pi_enum hg hm hl hs).imp fun _ _ _ => ri_enum
theorem kf : PTs X [] (tDT K W pb) := fun pins s σ H Q I h => pts_nil pins s σ H Q I (by
 obtain ⟨F, ρ, r, s1, q⟩ := h
 exact q F H (Step.refl s1))
theorem j4 : PGs X [] (iF []) := pgs_nil
theorem ck {i : Nat} {is : List Nat} (hN : X.N.Nodup) (h2 : PGs X es (iF is)) (hi : X.N[i]? = some x := by rfl) (hx : Loc X.env.scope x := by first | exact Or.inl rfl | exact Or.inr rfl) (hf : X.fn x = true \/ X.env.scope.names.lookup x = some .local := by first | exact .inl rfl | exact .inr rfl | assumption)
  (hs : (assignEach (.Name x p :: es) X.env).map (·.2) = assign (.Name x p) X.env :: (assignEach es X.env).map (·.2) := by rfl) : PGs X (.Name x p :: es) (iF (i :: is)) := vW (uZ hN hi hx hf) h2 hs
theorem q9 {k : Nat} {is : List Nat} (hc : X.calm = true) (h : PGs X es (iF is)) (hn : (assignEach es X.env).length = is.length := by rfl) (hst : (assignEach es X.env).findIdx? (·.1) = none := by rfl) (hK : X.K = K := by rfl) : DG K X (.Tuple es k pos) (.tp is) := by
 subst hK
 exact pg_tup hc h hn hst
theorem nS {ix : List (Option Nat)} : ∀ {is : List Nat}, (∀ i ∈ is, ix[i]? = some none) -> ∀ vs σ' H' (Q : St -> Hp -> Prop), iF is vs σ' H' Q -> iF is vs σ' H' fun σ2 H2 => Q σ2 H2 /\ ∀ (i : Nat) v, σ'[i]? = some (some v) -> (∃ j, ix[i]? = some (some j)) -> σ2[i]? = some (some v)
 | [], _, vs, σ', H', Q, ⟨e, q⟩ => ⟨e, q, fun _ _ h _ => h⟩
 | i :: is, hs, vs, σ', H', Q, ⟨v, r, e, q⟩ => by
  refine ⟨v, r, e, ?_⟩
  have := nS (ix := ix) (is := is) (fun j hj => hs j (by simp [hj])) r (σ'.set i (some v)) H' Q q
  have mono : ∀ {is : List Nat} {vs : List V} {σ1 : St} {H1 : Hp} {Q Q' : St -> Hp -> Prop}, (∀ σ2 H2, Q σ2 H2 -> Q' σ2 H2) -> iF is vs σ1 H1 Q -> iF is vs σ1 H1 Q' := by
   intro is
   induction is with
   | nil => rintro vs σ1 H1 Q Q' m ⟨e, q⟩; exact ⟨e, m _ _ q⟩
   | cons i is ih => rintro vs σ1 H1 Q Q' m ⟨v, r, e, q⟩; exact ⟨v, r, e, ih m q⟩
  refine mono (fun σ2 H2 ⟨q1, q2⟩ => ⟨q1, fun j w h ⟨l, hl⟩ => q2 j w ?_ ⟨l, hl⟩⟩) this
  have : i ≠ j := by rintro rfl; rw [hs i (by simp)] at hl; cases hl
  rw [List.getElem?_set_ne this]
  exact h
theorem oU {ix : List (Option Nat)} {is : List Nat} (h : ∀ i ∈ is, ix[i]? = some none) : qX ix (gP K (.tp is)) := fun x σ' H' Q ⟨a, xs, e, t, l, q⟩ => ⟨a, xs, e, t, l, nS h xs σ' H' Q q⟩
theorem pj {N' : List Str} {sc : Scope} {L : Addr} {cs : List (Str × Addr)} {s : Shared} {H : Hp} {fp : List Addr} {i : Nat} (hN : N'.Nodup) (hi : N'[i]? = some x := by rfl) (hx : Loc (ba X N' sc L cs s H fp).env.scope x := by first | exact Or.inl rfl | exact Or.inr rfl)
  (hf : (ba X N' sc L cs s H fp).fn x = true \/ (ba X N' sc L cs s H fp).env.scope.names.lookup x = some .local := by first | exact .inl rfl | exact .inr rfl | assumption) : DG K (ba X N' sc L cs s H fp) (.Name x pos) (.nm i) := pg_c hN hi hx hf
variable {sc : Scope} {tg elt iter : Expr} {ifs : List Expr} {fi : ao -> M (List Dat)} {pt : Pat} {fe : ao -> M Dat} {spos py : Pos}
theorem lG (N' : List Str) (ix : List (Option Nat)) (hi : DI K W X tg iter fi) (hg : ∀ L cs s H fp, DG K (ba X N' sc L cs s H fp) tg pt) (hl : qX ix (gP K pt))
  (ht : ∀ L cs s H fp, PTs (ba X N' sc L cs s H fp) ifs (tDT K W ft)) (he : ∀ L cs s H fp, DE K W false (ba X N' sc L cs s H fp) elt fe) (hc : X.calm = true := by rfl)
  (ok : bA X.N X.env.scope N' sc ix = true := by rfl) (hk : sc.kind = .function := by rfl) (hs : ∀ x, foldedSetIterable iter X.env x = pure x := by intro _; rfl) :
  DE K W true X (.ListComp elt [⟨tg, iter, ifs, 0⟩] sc pos) (lE fi ix pt ft fe) := (pe_comp N' ix hc hi hg hl ht he ok hk hs).imp fun _ _ _ => ye
theorem tD_fr {σ : St} {H : Hp} {Q : VK} (h : tD K W own f σ H Q) : tD K W true f σ H Q := by
 cases own with
 | true => exact h
 | false => obtain ⟨F, ρ, r, s, p⟩ := h; exact ⟨F, ρ, r, s, p.frz⟩
theorem wy {OL O : List Nat} {i : Nat} (own : Bool) (N' : List Str) (ix : List (Option Nat)) (hN : X.N.Nodup) (hi : DI K W X tg iter fi) (hg : ∀ L cs s H fp, DG K (ba X N' sc L cs s H fp) tg pt) (hl : qX ix (gP K pt))
  (ht : ∀ L cs s H fp, PTs (ba X N' sc L cs s H fp) ifs (tDT K W ft)) (he : ∀ L cs s H fp, DE K W false (ba X N' sc L cs s H fp) elt fe) (hj : X.N[i]? = some x := by rfl) (hy : X.env.scope.names.lookup x = some .local := by rfl) (hc : X.calm = true := by rfl)
  (hsw : swapsWith (.ListComp elt [⟨tg, iter, ifs, 0⟩] sc pos) (some (.Name x py)) spos.line X.env = pure true := by rfl)
  (ok : bA X.N X.env.scope N' sc ix = true := by rfl) (hk : sc.kind = .function := by rfl) (hs : ∀ x, foldedSetIterable iter X.env x = pure x := by intro _; rfl) :
  DS K W ro X OL O (aft own i O) (.Assign [.Name x py] (.ListComp elt [⟨tg, iter, ifs, 0⟩] sc pos) spos) (aM O i (lE fi ix pt ft fe)) := fun F0 H0 =>
 (xa N' ix hN hj hy hc hi hg hl ht he hsw ok hk hs).imp fun D σ H t => ye (tD_fr (yc t))
theorem ds_setI {OL O : List Nat} {i : Nat} {q r : Pos} {fk : ao -> M Dat} (he : DE K W false X e f) (hk : DE K W false X b fk) (ho : i ∈ O := by decide) (hN : X.N[i]? = some x := by rfl) (hv : Vis X.env.scope x := by first | exact Or.inl rfl | exact Or.inr (Or.inl rfl) | exact Or.inr (Or.inr rfl)) (hd : (x == ("__debug__" : Str)) = false := by decide) (hcd : (x == ("__classdict__" : Str)) = false := by decide)
  (ha : ∀ v, assign (.Subscript (.Name x p) b q) X.env v = (do
   let ov <- holding [v] (eval (.Name x p) X.env)
   let iv <- holding [v, ov] (eval b X.env)
   standAt q
   holding [v, ov, iv] (setItem ov iv v)
   release [v, ov, iv] []) := by intro _; rfl) (hs : swapsWithSole [.Subscript (.Name x p) b q] e r.line X.env = pure false := by rfl) (hw : swappedStores [.Subscript (.Name x p) b q] e X.env = pure none := by rfl)
  (h1 : (assignEach [.Subscript (.Name x p) b q] X.env).map (·.2) = [assign (.Subscript (.Name x p) b q) X.env] := by rfl) :
  DS K W ro X OL O O (.Assign [.Subscript (.Name x p) b q] e r) (uV i fk f) := fun F0 H0 => (ym he (pg_sub (pv i hN hv hd hcd) hk set_list ha) hs hw h1).imp fun _ _ _ => rs_setI ho
theorem ds_unpB {OL O : List Nat} {pt : Pat} {tg : Expr} (he : DE K W false X e f) (hg : DG K X tg pt) (n : ∀ i ∈ pt.names, i ∉ O := by decide) (hs : swapsWithSole [tg] e pos.line X.env = pure false := by rfl) (hw : swappedStores [tg] e X.env = pure none := by rfl)
  (h1 : (assignEach [tg] X.env).map (·.2) = [assign tg X.env] := by rfl) : DS K W ro X OL O O (.Assign [tg] e pos) (uU O pt f) := fun F0 H0 => (ym he hg hs hw h1).imp fun _ _ _ => rs_unpB n
noncomputable def spF (K : PySem.W.Frag) (ro : Bool) (g : List Dat -> M Dat) (n : Nat) : Sp := fun vs H Q _ => ∃ F ds, aY F H /\ aB K F ds vs /\ ds.length = n /\ aI K Wno ro F H (g ds) Q
theorem mF {nN n : Nat} {g : ao -> M Flo} {ds : List Dat} (h : ds.length ≠ n) : bW nN n g ds = stk := by unfold bW; rw [if_neg h]
theorem aD {k nN n : Nat} {fad : Addr} {fd : FuncData} {ps : List Str} {g : ao -> M Flo} (F : cJ X.prog X.w X.K X.mg X.base CX0 k fad fd ps (spF K ro (bW nN n g) n)) (hr : jJ k X.A) (hm : X.mg x = some (.ref fad)) (hk : keepIn X.K (.ref fad) = true) (hb : Binds X.K fd ps [])
  (ha : DA K Wno X (e :: es) fr) (hg : Gl X x := by rfl) (hdb : (x == ("__debug__" : Str)) = false := by decide) (hst : starEach (e :: es) X.env = (false, eval e X.env) :: starEach es X.env := by rfl) (hpl : (backTo pos (starEach es X.env)).any (·.1) = false := by rfl) :
  DE K Wno ro X (.Call (.Name x p) (e :: es) [] pos) (fL (bW nN n g) fr) := by
 refine PE.imp (oM F hr hg hm hk hb .nil v3 ha hdb hst hpl) fun σ H Q h => ?_
 show 'Հ'
 cases e1 : fr ρ with
 | error z => rw [e1] at p; exact p
 | ok ds =>
  show 'Ւ'
  show spF K ro (bW nN n g) n (vs ++ []) H' Q E0
  rw [List.append_nil]
  by_cases hl : es1.length = n
  ·exact ⟨F1, es1, s1, q1, hl, z⟩
  ·rw [mF hl] at z
   exact aI.stuck z
end
section
variable {P : Program} {w : World} {K : PySem.W.Frag} {mg : Str -> Option Value} {base : Heap}
theorem t7 {N : List Str} {vs : List V} {ds : List Dat} {i : Nat} {d : Dat} {F : Hp} (q : aB K F ds vs) (h : (ds.map some ++ List.replicate (N.length - ds.length) none)[i]? = some (some d)) : ∃ v, (start N vs)[i]? = some (some v) /\ bT K F d v := by
 have hi : i < ds.length := by
  by_cases hi : i < ds.length
  ·exact hi
  ·rw [List.getElem?_append_right (by simpa using hi), List.getElem?_replicate] at h
   split at h <;> cases h
 rw [List.getElem?_append_left (by simpa using hi), List.getElem?_map] at h
 cases e : ds[i]? with
 | none => rw [e] at h; cases h
 | some d' =>
  rw [e] at h
  cases h
  obtain ⟨v, e1, q1⟩ := q.get e
  refine ⟨v, ?_, q1⟩
  unfold start
  rw [List.getElem?_append_left (by rw [List.length_map, q.length]; exact hi), List.getElem?_map, e1]
  rfl
theorem nI {x qual : Str} {st : Stmt} {f : Addr} {fd : FuncData} {N ps : List Str} {k : Nat} {O' : List Nat} (F : Fun K x qual st f fd) (S : aH N ps (aq st)) (ro : Bool) (g : ao -> M Flo)
  (hb : ∀ (cdv : Value) (A : Around) (outer : List Env) (s : Shared) (H : Hp) (E : XK), jJ k (A.deeper (envOfC qual (aq st) s.heap.objs.size f cdv)) ->
   DSs K Wno ro (xD CX0 P w K mg base N qual (aq st) f cdv A outer s H E).nox [] [] O' (cm st) g) : cJ P w K mg base CX0 (k + 1) f fd ps (spF K ro (bW N.length ps.length g) ps.length) := by
 show 'տ'
 refine F.okX S (fun vs H Q E ⟨F, ds, s, q, l, p⟩ => by rw [q.length, l]) fun cdv A outer s H vs Q E hr ⟨F1, ds, s1, q, l, p⟩ => ⟨_, hb cdv A outer s H E hr F1 H, F1, F1, ds.map some ++ List.replicate (N.length - ds.length) none, ?_, ?_⟩
 ·refine ⟨Step.refl s1, aY.refl _, ?_, fun i d e _ => t7 q e, (fun i d e h => nomatch h), (fun i j ds es a h => nomatch h)⟩
  unfold start
  show 'ճ'
 ·have e1 : bW N.length ps.length g ds = (g (ds.map some ++ List.replicate (N.length - ds.length) none)).bind fun fl => match fl with
   | .nx _ => .ok .non
   | .rt d => .ok d
   | _ => stk := by
    unfold bW
    exact if_pos l
  rw [e1] at p
  cases e2 : g (ds.map some ++ List.replicate (N.length - ds.length) none) with
  | error z => rw [e2] at p; exact p
  | ok fl =>
   rw [e2] at p
   cases fl with
   | nx ρ => exact fun σ F H r => p .non F H r.st (by cases ro <;> rfl)
   | rt d => exact fun v F H st q => p v F H st q
   | bk ρ => exact aI.stuck p
   | ct ρ => exact aI.stuck p
noncomputable def wX (K : PySem.W.Frag) : Sp := fun vs H Q _ => ∃ (a : Addr) (ns : List Int), vs = [.ref a] /\ SqL K H a (ns.map V.int) /\ ns.length <= 63 /\ ∀ H', Q (.bl true) H'
theorem qI {F : Hp} : ∀ is : List Int, aB K F (is.map Dat.int) (is.map V.int)
 | [] => rfl
 | i :: is => ⟨.int i, is.map V.int, rfl, rfl, qI is⟩
theorem law_ok {k : Nat} {f : Addr} {fd : FuncData} {x : Str} {ro : Bool} {mlaw : Nat -> List Dat -> M Dat} (F : ∀ n, cJ P w K mg base CX0 k f fd [x] (spF K ro (mlaw n) 1)) (h : ∀ ns : List Int, ns.length <= 63 -> ∃ n, mlaw n [.lst (ns.map .int)] = .ok (.bl true)) : cJ P w K mg base CX0 k f fd [x] (wX K) := by
 refine ⟨fun vs H Q E ⟨a, ns, e, _⟩ => by rw [e]; rfl, fun A outer s H args us vs Q E hr he hb hv ⟨a, ns, e, hq, hl, q⟩ => ?_⟩
 obtain ⟨n, hn⟩ := h ns hl
 refine (F n).run A outer s H args us vs Q E hr he hb hv ⟨H, [.lst (ns.map .int)], aY.refl _, ⟨.ref a, [], e, ⟨a, _, rfl, hq, qI ns⟩, rfl⟩, rfl, ?_⟩
 rw [hn]
 intro v F' H' st z
 have : v = .bl true := by cases ro <;> exact z
 rw [this]
 exact q H'
end
end L2
namespace L2
open PySem PySem.Spec PyProof.Rows
structure Kit (K : PySem.W.Frag) : Prop where
 l3 : kitOne K (.type "int") (.type "int") = some true
 jn : kitOne K (.type "bool") (.type "int") = some true
 jj : kitOne K (.type "list") (.type "int") = some false
 gY : kitOne K (.type "tuple") (.type "int") = some false
 kZ : kitOne K (.type "str") (.type "int") = some false
 dw : kitOne K (.type "NoneType") (.type "int") = some false
 jl : kitOne K (.type "int") (.type "bool") = some false
 hW : kitOne K (.type "bool") (.type "bool") = some true
 hI : kitOne K (.type "list") (.type "bool") = some false
 g8 : kitOne K (.type "tuple") (.type "bool") = some false
 jh : kitOne K (.type "str") (.type "bool") = some false
 cO : kitOne K (.type "NoneType") (.type "bool") = some false
 jk : kitOne K (.type "int") (.type "list") = some false
 hV : kitOne K (.type "bool") (.type "list") = some false
 hG : kitOne K (.type "list") (.type "list") = some true
 g7 : kitOne K (.type "tuple") (.type "list") = some false
 jg : kitOne K (.type "str") (.type "list") = some false
 cN : kitOne K (.type "NoneType") (.type "list") = some false
 hU : kitOne K (.type "int") (.type "tuple") = some false
 gb : kitOne K (.type "bool") (.type "tuple") = some false
 g9 : kitOne K (.type "list") (.type "tuple") = some false
 eP : kitOne K (.type "tuple") (.type "tuple") = some true
 gZ : kitOne K (.type "str") (.type "tuple") = some false
 cu : kitOne K (.type "NoneType") (.type "tuple") = some false
 l0 : kitOne K (.type "int") (.type "str") = some false
 jm : kitOne K (.type "bool") (.type "str") = some false
 ji : kitOne K (.type "list") (.type "str") = some false
 gX : kitOne K (.type "tuple") (.type "str") = some false
 kY : kitOne K (.type "str") (.type "str") = some true
 dv : kitOne K (.type "NoneType") (.type "str") = some false
section
variable {X : Cx} {K : PySem.W.Frag} {W : gF} {own ro : Bool} {e a b c : Expr} {es : List Expr} {x : Str} {pos p p2 : Pos} {f fa fb fc : ao -> M Dat} {fr : ao -> M (List Dat)} {ft : ao -> M Bool}
theorem yU {pins : List (Addr × Obj)} {σ : St} {F H : Hp} {s : Shared} {T : String} {d : Dat} {x : V} {u : Value} {bi bb bl bt bs bn : Bool} {Q : Value -> Shared -> Prop} (I : Inv X pins σ H s) (hF : aY F H) (q : bT X.K F d x) (r : RelV x u)
  (hi : kitOne X.K (.type "int") (.type T) = some bi) (hb : kitOne X.K (.type "bool") (.type T) = some bb) (hl : kitOne X.K (.type "list") (.type T) = some bl) (ht : kitOne X.K (.type "tuple") (.type T) = some bt)
  (hs : kitOne X.K (.type "str") (.type T) = some bs) (hn : kitOne X.K (.type "NoneType") (.type T) = some bn)
  (h : ∀ k tk, (match d with | .int _ => k = bi | .bl _ => k = bb | .lst _ => k = bl | .tup _ => k = bt | .str _ => k = bs | .non => k = bn | .ins _ _ => False) -> Q (.bool k) { s with toks := tk }) (no : ∀ C fs, d ≠ .ins C fs) :
  wpAny (model X.prog X.w) X.A (call (.builtin "isinstance") [u, .type T]) Q X.xe s := by
 cases d with
 | non => cases (show x = .non from q); cases r; exact kia_one PySem.W.kitx_none I.kIn True.intro hn (fun z => nomatch z) fun tk => h _ tk rfl
 | bl y => cases (show x = .bl y from q); cases r; exact kia_one PySem.W.kitx_bool I.kIn True.intro hb (fun z => nomatch z) fun tk => h _ tk rfl
 | int i => cases (show x = .int i from q); obtain ⟨t, rfl⟩ := r; exact kia_one PySem.W.kitx_int I.kIn True.intro hi (fun z => nomatch z) fun tk => h _ tk rfl
 | str y => cases (show x = .str y from q); obtain ⟨t, rfl⟩ := r; exact kia_one PySem.W.kitx_str I.kIn True.intro hs (fun z => nomatch z) fun tk => h _ tk rfl
 | lst ds =>
  obtain ⟨l, xs, e, t, _⟩ := q
  subst e
  cases r
  obtain ⟨its, _, pl, _⟩ := I.list (hF.lst t)
  obtain ⟨o, h1, h2, _⟩ := pl.isList
  exact kia_one PySem.W.kitx_list I.kIn ⟨o, h1, h2⟩ hl (fun z => nomatch z) fun tk => h _ tk rfl
 | tup ds =>
  obtain ⟨l, xs, e, t, _⟩ := q
  subst e
  cases r
  obtain ⟨its, _, pl, _⟩ := I.tuple (hF.tup t)
  obtain ⟨o, h1, h2, _⟩ := pl
  exact kia_one PySem.W.kitx_tuple I.kIn ⟨o, h1, h2⟩ ht (fun z => nomatch z) fun tk => h _ tk rfl
 | ins C fs => exact absurd rfl (no C fs)
theorem u6 {T : String} {y : Str} {g : Dat -> M Dat} (hc : dq X (.builtin "isinstance") (fun xs H Q => ∃ v, xs = [v, .ty T] /\ rD1 K W own g v H Q)) (hm : X.mg "isinstance" = none) (hmT : X.mg y = none) (hvT : bootBuiltins y = some (.type T)) (ha : DE K W false X a fa)
  (hg : Gl X "isinstance" := by rfl) (hgT : Gl X y := by rfl) (hn : y ≠ "__name__" := by decide) (hd : (y == ("__debug__" : Str)) = false := by decide)
  (hst : starEach [a, .Name y p2] X.env = [(false, eval a X.env), (false, eval (.Name y p2) X.env)] := by rfl) (hst2 : starEach [.Name y p2] X.env = [(false, eval (.Name y p2) X.env)] := by rfl) (hpl : (backTo pos (starEach [.Name y p2] X.env)).any (·.1) = false := by rfl) :
  DE K W own X (.Call (.Name "isinstance" p) [a, .Name y p2] [] pos) (f1 g fa) :=
 (fV hc hg hm boot_isinstance (aS ha (aS (yr (pos := p2) hgT hmT hvT hn hd) dk hst2) (by rw [hst, hst2])) (by decide) (by decide) (by rw [hst, hst2]) hpl).imp fun σ H Q h => by
  obtain ⟨F, ρ, r, s, q⟩ := rd_1 h
  show 'ց'
  cases e1 : fa ρ with
  | error z => rw [e1] at q; exact q
  | ok d => rw [e1] at q; exact fun v F' H' st z => ⟨v, rfl, q v F' H' st z⟩
theorem zM (kit : Kit K) (hK : X.K = K := by rfl) : dq X (.builtin "isinstance") (fun xs H Q => ∃ v, xs = [v, .ty "int"] /\ rD1 K W own mO v H Q) := by
 show 'Յ'
 cases (show w = Value.type "int" from rw')
 by_cases hi : ∃ C fs, d = .ins C fs
 ·obtain ⟨C, fs, rfl⟩ := hi
  exact aI.stuck p
 ·refine yU I s1 q ru kit.l3 kit.jn kit.jj kit.gY kit.kZ kit.dw (fun k tk hk => ⟨.bl k, H, I.tok tk, rfl, ?_⟩) (fun C fs e => hi ⟨C, fs, e⟩)
  cases d <;> first | (have hk' : k = _ := hk; subst hk'; exact aI.bl (own := own) p s1) | exact absurd ⟨_, _, rfl⟩ hi
theorem qK (kit : Kit K) (hm : X.mg "isinstance" = none) (hmT : X.mg "int" = none) (ha : DE K W false X a fa) (hK : X.K = K := by rfl)
  (hg : Gl X "isinstance" := by rfl) (hgT : Gl X "int" := by rfl)
  (hst : starEach [a, .Name "int" p2] X.env = [(false, eval a X.env), (false, eval (.Name "int" p2) X.env)] := by rfl) (hst2 : starEach [.Name "int" p2] X.env = [(false, eval (.Name "int" p2) X.env)] := by rfl) (hpl : (backTo pos (starEach [.Name "int" p2] X.env)).any (·.1) = false := by rfl) :
  DE K W own X (.Call (.Name "isinstance" p) [a, .Name "int" p2] [] pos) (f1 mO fa) := u6 (zM kit hK) hm hmT (by decide +kernel) ha hg hgT (by decide) (by decide) hst hst2 hpl
theorem xF (kit : Kit K) (hK : X.K = K := by rfl) : dq X (.builtin "isinstance") (fun xs H Q => ∃ v, xs = [v, .ty "bool"] /\ rD1 K W own lb v H Q) := by
 show 'Յ'
 cases (show w = Value.type "bool" from rw')
 by_cases hi : ∃ C fs, d = .ins C fs
 ·obtain ⟨C, fs, rfl⟩ := hi
  exact aI.stuck p
 ·refine yU I s1 q ru kit.jl kit.hW kit.hI kit.g8 kit.jh kit.cO (fun k tk hk => ⟨.bl k, H, I.tok tk, rfl, ?_⟩) (fun C fs e => hi ⟨C, fs, e⟩)
  cases d <;> first | (have hk' : k = _ := hk; subst hk'; exact aI.bl (own := own) p s1) | exact absurd ⟨_, _, rfl⟩ hi
theorem pw (kit : Kit K) (hm : X.mg "isinstance" = none) (hmT : X.mg "bool" = none) (ha : DE K W false X a fa) (hK : X.K = K := by rfl)
  (hg : Gl X "isinstance" := by rfl) (hgT : Gl X "bool" := by rfl)
  (hst : starEach [a, .Name "bool" p2] X.env = [(false, eval a X.env), (false, eval (.Name "bool" p2) X.env)] := by rfl) (hst2 : starEach [.Name "bool" p2] X.env = [(false, eval (.Name "bool" p2) X.env)] := by rfl) (hpl : (backTo pos (starEach [.Name "bool" p2] X.env)).any (·.1) = false := by rfl) :
  DE K W own X (.Call (.Name "isinstance" p) [a, .Name "bool" p2] [] pos) (f1 lb fa) := u6 (xF kit hK) hm hmT (by decide +kernel) ha hg hgT (by decide) (by decide) hst hst2 hpl
theorem xE (kit : Kit K) (hK : X.K = K := by rfl) : dq X (.builtin "isinstance") (fun xs H Q => ∃ v, xs = [v, .ty "list"] /\ rD1 K W own jw v H Q) := by
 show 'Յ'
 cases (show w = Value.type "list" from rw')
 by_cases hi : ∃ C fs, d = .ins C fs
 ·obtain ⟨C, fs, rfl⟩ := hi
  exact aI.stuck p
 ·refine yU I s1 q ru kit.jk kit.hV kit.hG kit.g7 kit.jg kit.cN (fun k tk hk => ⟨.bl k, H, I.tok tk, rfl, ?_⟩) (fun C fs e => hi ⟨C, fs, e⟩)
  cases d <;> first | (have hk' : k = _ := hk; subst hk'; exact aI.bl (own := own) p s1) | exact absurd ⟨_, _, rfl⟩ hi
theorem pq (kit : Kit K) (hm : X.mg "isinstance" = none) (hmT : X.mg "list" = none) (ha : DE K W false X a fa) (hK : X.K = K := by rfl)
  (hg : Gl X "isinstance" := by rfl) (hgT : Gl X "list" := by rfl)
  (hst : starEach [a, .Name "list" p2] X.env = [(false, eval a X.env), (false, eval (.Name "list" p2) X.env)] := by rfl) (hst2 : starEach [.Name "list" p2] X.env = [(false, eval (.Name "list" p2) X.env)] := by rfl) (hpl : (backTo pos (starEach [.Name "list" p2] X.env)).any (·.1) = false := by rfl) :
  DE K W own X (.Call (.Name "isinstance" p) [a, .Name "list" p2] [] pos) (f1 jw fa) := u6 (xE kit hK) hm hmT (by decide +kernel) ha hg hgT (by decide) (by decide) hst hst2 hpl
theorem vo (kit : Kit K) (hK : X.K = K := by rfl) : dq X (.builtin "isinstance") (fun xs H Q => ∃ v, xs = [v, .ty "tuple"] /\ rD1 K W own jv v H Q) := by
 show 'Յ'
 cases (show w = Value.type "tuple" from rw')
 by_cases hi : ∃ C fs, d = .ins C fs
 ·obtain ⟨C, fs, rfl⟩ := hi
  exact aI.stuck p
 ·refine yU I s1 q ru kit.hU kit.gb kit.g9 kit.eP kit.gZ kit.cu (fun k tk hk => ⟨.bl k, H, I.tok tk, rfl, ?_⟩) (fun C fs e => hi ⟨C, fs, e⟩)
  cases d <;> first | (have hk' : k = _ := hk; subst hk'; exact aI.bl (own := own) p s1) | exact absurd ⟨_, _, rfl⟩ hi
theorem u5 (kit : Kit K) (hm : X.mg "isinstance" = none) (hmT : X.mg "tuple" = none) (ha : DE K W false X a fa) (hK : X.K = K := by rfl)
  (hg : Gl X "isinstance" := by rfl) (hgT : Gl X "tuple" := by rfl)
  (hst : starEach [a, .Name "tuple" p2] X.env = [(false, eval a X.env), (false, eval (.Name "tuple" p2) X.env)] := by rfl) (hst2 : starEach [.Name "tuple" p2] X.env = [(false, eval (.Name "tuple" p2) X.env)] := by rfl) (hpl : (backTo pos (starEach [.Name "tuple" p2] X.env)).any (·.1) = false := by rfl) :
  DE K W own X (.Call (.Name "isinstance" p) [a, .Name "tuple" p2] [] pos) (f1 jv fa) := u6 (vo kit hK) hm hmT (by decide +kernel) ha hg hgT (by decide) (by decide) hst hst2 hpl
theorem Vals.of_get : ∀ {xs : List V} {us : List Value}, xs.length = us.length -> (∀ (i : Nat) v u, xs[i]? = some v -> us[i]? = some u -> RelV v u) -> Vals xs us
 | [], [], _, _ => .nil
 | [], _ :: _, h, _ => by simp at h
 | _ :: _, [], h, _ => by simp at h
 | x :: xs, u :: us, h, q => .cons (q 0 x u rfl rfl) (Vals.of_get (by simpa using h) fun i v w h1 h2 => q (i + 1) v w (by simpa using h1) (by simpa using h2))
end
section
variable {K : PySem.W.Frag} {W : gF} {ro : Bool} {F0 H0 FB F H : Hp} {OL O O' O2 : List Nat} {D : Ends} {σ : St} {ρ : ao} {g h : ao -> M Flo} {f fk : ao -> M Dat}
theorem popD_ok {ds : List Dat} {k : Dat} {d : Dat} {es : List Dat} (h : yo ds k = .ok (d, es)) : ∃ i j, k = .int i /\ ds.length <= sizeLine /\ ixN ds.length i = some j /\ ds[j]? = some d /\ es = ds.eraseIdx j := by
 unfold yo at h
 cases k with
 | int i =>
  simp only [asI, ax] at h
  split at h
  ·cases h
  ·rename_i hs
   cases hj : ixN ds.length i with
   | none => rw [hj] at h; cases h
   | some j =>
    rw [hj] at h
    simp only at h
    cases hd : ds[j]? with
    | none => rw [hd] at h; cases h
    | some d' =>
     rw [hd] at h
     cases h
     exact ⟨i, j, rfl, by omega, hj, hd, rfl⟩
 | _ => cases h
theorem popD_err {ds : List Dat} {k : Dat} {e : Err} (h : yo ds k = .error e) : e = .stuck := by
 unfold yo at h
 cases k with
 | int i =>
  simp only [asI, ax] at h
  split at h
  ·cases h; rfl
  ·cases hj : ixN ds.length i with
   | none => rw [hj] at h; cases h; rfl
   | some j =>
    rw [hj] at h
    simp only at h
    cases hd : ds[j]? with
    | none => rw [hd] at h; cases h; rfl
    | some d' => rw [hd] at h; cases h
 | _ => cases h; rfl
noncomputable def tPopE (K : PySem.W.Frag) (i : Nat) (tk : TE) : TE := tBM K "list" rPopAt (tVar i) (t5 tk tNil)
theorem pop_run {i : Nat} {R : VK} (r : Rep K F0 H0 FB O F H σ ρ) (hi : i ∈ O) {ds : List Dat} (hl : ik ρ i = .ok ds) (hE : ∀ e, fk ρ = .error e -> W.p e F0 H0)
  (hO : ∀ k, fk ρ = .ok k -> (∀ e, yo ds k = .error e -> False) /\ ∀ d es, yo ds k = .ok (d, es) -> ∀ v F1 H1, Rep K F0 H0 FB O F1 H1 σ (ρ.set i (some (.lst es))) -> bT K F1 d v -> R v H1) : tPopE K i (tD K W false fk) σ H R := by
 show 'ի'
 refine bC r.mH r.iU (fun e he => W.mono (hE e he) (r.freeze (O2 := []) (by simp)).st) fun k hk w F1 H1 s1 q => ?_
 obtain ⟨h1, h2⟩ := hO k hk
 cases hp : yo ds k with
 | error e => exact (h1 e hp).elim
 | ok de =>
  obtain ⟨d, es⟩ := de
  obtain ⟨m, j, rfl, hz, hj, hd, rfl⟩ := popD_ok hp
  obtain ⟨x1, x2, x3, x4⟩ := vg hj
  obtain ⟨y, e3, qy⟩ := z.get hd
  have hs := sizeLine_eq
  refine ⟨a, xs, m, j, y, rfl, by rw [show w = .int m from q], s1.hh _ _ ha, by omega, by omega, by rw [z.length]; exact x1, e3, ?_⟩
  exact h2 d _ hp y _ _ ((r.kS s1).write hi (iA hl) e2 (aB.eraseIdx j (z.mono (r.jb s1)))) (qy.mono (r.jb s1))
theorem rs_popU {i : Nat} {pt : Pat} (hi : i ∈ O) (n : ∀ i ∈ pt.names, i ∉ O) (t : tS K W ro F0 H0 OL O O (ya i pt fk) D σ H) : wW (tPopE K i (tD K W false fk)) (gP K pt) D σ H := by
 show 'Չ'
 unfold ya at p
 cases hl : ik ρ i with
 | error e => have := mL hl; subst this; exact p.stuck (by rw [hl]; rfl)
 | ok ds =>
  rw [hl, ax] at p
  refine pop_run r hi hl (fun e he => p.err (by rw [he]; rfl)) fun k hk => ?_
  rw [hk, ax] at p
  refine ⟨fun e he => by have := popD_err he; subst this; exact p.stuck (by rw [he]; rfl), fun d es2 hp v F1 H1 r1 q => ?_⟩
  rw [hp, ax] at p
  cases e : fj pt d (ρ.set i (some (.lst es2))) with
  | error x => have := mV e; subst this; exact p.stuck (by simp only [e]; rfl)
  | ok ρ' =>
   simp only [e, ax] at p
   exact zg r1 n q e fun σ' r' => p σ' F1 H1 r'
end
section
variable {X : Cx} {K : PySem.W.Frag} {W : gF} {own ro : Bool} {e a b c : Expr} {x y : Str} {pos p p2 p3 q r t u : Pos} {f fk : ao -> M Dat} {OL O : List Nat}
theorem pe_pop {j : Nat} {tk : TE} (hk : PE X e tk) (hN : X.N[j]? = some y) (hv : Vis X.env.scope y) (hd : (y == ("__debug__" : Str)) = false) (hcd : (y == ("__classdict__" : Str)) = false)
  (hst : starEach [e] X.env = [(false, eval e X.env)]) (hbase : attributeBase (.Name y p) "pop" X.env (eval (.Name y p) X.env) = eval (.Name y p) X.env) (hfew : ((backTo q (starEach [e] X.env)).all (fun x => !x.1) && (backToKw q (keywordEach [] X.env)).all (fun x => x.1.isSome) && decide ([e].length + ([] : List Keyword).length + (if ([] : List Keyword).isEmpty then 0 else 1) < 30)) = true) (hplain : (backTo q (starEach [] X.env)).any (·.1) = false) (hline : (t.endLine == q.line) = true) :
  PE X (.Call (.Attribute (.Name y p) "pop" t) [e] [] q) (tPopE X.K j tk) := pe_bm PySem.F.plainAttrs_list PySem.F.slot_list_pop PySem.F.type_list_pop mt_popAt (pv j hN hv hd hcd) (aS hk dk hst) hbase hfew hline hst hplain
theorem ds_popU {i : Nat} {pt : Pat} {tg : Expr} (hg : DG K X tg pt) (hk : DE K W false X e fk) (ho : i ∈ O := by decide) (n : ∀ i ∈ pt.names, i ∉ O := by decide) (hN : X.N[i]? = some y := by rfl) (hv : Vis X.env.scope y := by first | exact Or.inl rfl | exact Or.inr (Or.inl rfl) | exact Or.inr (Or.inr rfl)) (hd : (y == ("__debug__" : Str)) = false := by decide) (hcd : (y == ("__classdict__" : Str)) = false := by decide) (hK : X.K = K := by rfl)
  (hst : starEach [e] X.env = [(false, eval e X.env)] := by rfl) (hbase : attributeBase (.Name y p) "pop" X.env (eval (.Name y p) X.env) = eval (.Name y p) X.env := by rfl) (hfew : ((backTo q (starEach [e] X.env)).all (fun x => !x.1) && (backToKw q (keywordEach [] X.env)).all (fun x => x.1.isSome) && decide ([e].length + ([] : List Keyword).length + (if ([] : List Keyword).isEmpty then 0 else 1) < 30)) = true := by rfl) (hplain : (backTo q (starEach [] X.env)).any (·.1) = false := by rfl) (hline : (t.endLine == q.line) = true := by rfl) (hs : swapsWithSole [tg] (.Call (.Attribute (.Name y p) "pop" t) [e] [] q) pos.line X.env = pure false := by rfl) (hw : swappedStores [tg] (.Call (.Attribute (.Name y p) "pop" t) [e] [] q) X.env = pure none := by rfl)
  (h1 : (assignEach [tg] X.env).map (·.2) = [assign tg X.env] := by rfl) : DS K W ro X OL O O (.Assign [tg] (.Call (.Attribute (.Name y p) "pop" t) [e] [] q) pos) (ya i pt fk) := fun F0 H0 => by
 subst hK
 exact (ym (pe_pop hk hN hv hd hcd hst hbase hfew hplain hline) hg hs hw h1).imp fun _ _ _ => rs_popU ho n
end
end L2
namespace L2
open PySem PySem.Spec PyProof.Rows
section
variable {X : Cx} {es : List Expr} {x : Str} {p : Pos}
theorem jD {N' : List Str} {sc : Scope} {L : Addr} {cs : List (Str × Addr)} {s : Shared} {H : Hp} {fp : List Addr} {i : Nat} {is : List Nat} (hN : N'.Nodup) (h2 : PGs (ba X N' sc L cs s H fp) es (iF is)) (hi : N'[i]? = some x := by rfl) (hx : Loc (ba X N' sc L cs s H fp).env.scope x := by first | exact Or.inl rfl | exact Or.inr rfl)
  (hf : (ba X N' sc L cs s H fp).fn x = true \/ (ba X N' sc L cs s H fp).env.scope.names.lookup x = some .local := by first | exact .inl rfl | exact .inr rfl | assumption)
  (hs : (assignEach (.Name x p :: es) (ba X N' sc L cs s H fp).env).map (·.2) = assign (.Name x p) (ba X N' sc L cs s H fp).env :: (assignEach es (ba X N' sc L cs s H fp).env).map (·.2) := by rfl) : PGs (ba X N' sc L cs s H fp) (.Name x p :: es) (iF (i :: is)) := vW (pg_c hN hi hx hf) h2 hs
end
end L2
namespace L2
open PySem PySem.Spec PyProof.Rows
open PySem.W in
noncomputable def eK {α : Type} (lt : Nat -> Nat -> Bool) : KasT α -> α
 | .ret a => a
 | .ask i j k => eK lt (k (lt i j))
section
open PySem.W
variable {α β : Type} {lt : Nat -> Nat -> Bool}
theorem ja (f : α -> KasT β) : ∀ t : KasT α, eK lt (t.bind f) = eK lt (f (eK lt t))
 | .ret _ => rfl
 | .ask i j k => ja f (k (lt i j))
variable {key : Nat -> Int} {p : Array Nat}
noncomputable def kAt (key : Nat -> Int) (p : Array Nat) (i : Nat) : Int := key (p.getD i 0)
noncomputable def Up (key : Nat -> Int) (p : Array Nat) (k : Nat) : Prop := ∀ i j, i <= j -> j < k -> kAt key p i <= kAt key p j
noncomputable def Down (key : Nat -> Int) (p : Array Nat) (k : Nat) : Prop := ∀ i j, i <= j -> j < k -> kAt key p j <= kAt key p i
theorem l9 {p q : Array Nat} {i j : Nat} (h : p[i]? = q[j]?) : kAt key p i = kAt key q j := by
 unfold kAt
 rw [Array.getD_eq_getD_getElem?, Array.getD_eq_getD_getElem?, h]
theorem oW {i j : Nat} (hj : j <= p.size) (k : Nat) : kAt key (kas_rev p i j) k = if i <= k /\ k < j then kAt key p (i + j - 1 - k) else kAt key p k := by
 have e := getElem?_mirror_all (i := i) hj k
 unfold kas_rev
 split
 ·rename_i h; rw [if_pos h] at e; exact l9 e
 ·rename_i h; rw [if_neg h] at e; exact l9 e
theorem kAt_bub {src d : Nat} (hs : src < p.size) (hd : d <= src) (k : Nat) : kAt key (bubble p src d) k = if k = src - d then kAt key p src else if src - d < k /\ k <= src then kAt key p (k - 1) else kAt key p k := by
 have e := getElem?_bubble hs d hd k
 split
 ·rename_i h; rw [if_pos h] at e; exact l9 e
 ·rename_i h
  rw [if_neg h] at e
  split
  ·rename_i h2; rw [if_pos h2] at e; exact l9 e
  ·rename_i h2; rw [if_neg h2] at e; exact l9 e
theorem jQ {i j : Nat} : (kas_rev p i j).size = p.size := mirror_size _ _ _ _
theorem gI {i j : Nat} : (kas_rev p i j).Perm p := mirror_perm _ _ _ _
noncomputable def ltK (key : Nat -> Int) (i j : Nat) : Bool := decide (key i < key j)
theorem zT (p : Array Nat) : ∀ (f n : Nat), 1 <= n -> Up key p n -> n <= eK (ltK key) (kas_asc p f n) /\ eK (ltK key) (kas_asc p f n) <= n + f /\ Up key p (eK (ltK key) (kas_asc p f n)) /\
  (eK (ltK key) (kas_asc p f n) < n + f -> kAt key p (eK (ltK key) (kas_asc p f n)) < kAt key p (eK (ltK key) (kas_asc p f n) - 1))
 | 0, n, h1, h => ⟨Nat.le_refl _, Nat.le_refl _, h, fun z => absurd z (Nat.lt_irrefl _)⟩
 | f + 1, n, h1, h => by
  have e : eK (ltK key) (kas_asc p (f + 1) n) = if kAt key p n < kAt key p (n - 1) then n else eK (ltK key) (kas_asc p f (n + 1)) := by
   show eK (ltK key) (if ltK key (p.getD n 0) (p.getD (n - 1) 0) = true then KasT.ret n else kas_asc p f (n + 1)) = _
   by_cases hc : kAt key p n < kAt key p (n - 1)
   ·rw [if_pos (show ltK key (p.getD n 0) (p.getD (n - 1) 0) = true from decide_eq_true hc), if_pos hc]; rfl
   ·rw [if_neg (show ¬ ltK key (p.getD n 0) (p.getD (n - 1) 0) = true from fun z => hc (of_decide_eq_true z)), if_neg hc]
  rw [e]
  by_cases hc : kAt key p n < kAt key p (n - 1)
  ·rw [if_pos hc]
   exact ⟨Nat.le_refl _, by omega, h, fun _ => hc⟩
  ·rw [if_neg hc]
   obtain ⟨a1, a2, a3, a4⟩ := zT p f (n + 1) (by omega) (fun i j hij hj => by
    by_cases hjn : j < n
    ·exact h i j hij hjn
    ·have : j = n := by omega
     subst this
     by_cases hin : i = j
     ·rw [hin]; exact Int.le_refl _
     ·have := h i (j - 1) (by omega) (by omega)
      omega)
   exact ⟨by omega, by omega, a3, fun z => a4 (by omega)⟩
noncomputable def Alike (key : Nat -> Int) (p : Array Nat) (n q : Nat) : Prop := ∀ i, n - (q + 1) <= i -> i < n -> kAt key p i = kAt key p (n - 1)
theorem zU {n : Nat} : Alike key p (n + 1) 0 := fun i h1 h2 => by rw [show i = n + 1 - 1 by omega]
theorem tw {n q : Nat} (hn : n <= p.size) (ha : Alike key p n q) (hq : q + 1 <= n) (k : Nat) : kAt key (kas_rev p (n - (q + 1)) n) k = kAt key p k := by
 rw [oW hn]
 split
 ·rename_i h
  rw [ha _ (by omega) (by omega), ha k h.1 h.2]
 ·rfl
theorem sr : ∀ (f : Nat) (p : Array Nat) (n q : Nat), 1 <= n -> q + 1 <= n -> n + f <= p.size -> Down key p n -> Alike key p n q -> ∀ p' n' q', eK (ltK key) (kas_desc f p n q) = (p', n', q') ->
  p'.Perm p /\ p'.size = p.size /\ n <= n' /\ n' <= n + f /\ q' + 1 <= n' /\ Down key p' n' /\ Alike key p' n' q'
 | 0, p, n, q, h1, hq, hz, hd, ha, p', n', q', e => by
  cases e
  exact ⟨Array.Perm.refl _, rfl, Nat.le_refl _, Nat.le_refl _, hq, hd, ha⟩
 | f + 1, p, n, q, h1, hq, hz, hd, ha, p', n', q', e => by
  have e0 : eK (ltK key) (kas_desc (f + 1) p n q) = if kAt key p n < kAt key p (n - 1) then (if q > 0 then eK (ltK key) (kas_desc f (kas_rev p (n - (q + 1)) n) (n + 1) 0) else eK (ltK key) (kas_desc f p (n + 1) 0))
    else if kAt key p (n - 1) < kAt key p n then (p, n, q) else eK (ltK key) (kas_desc f p (n + 1) (q + 1)) := by
   show eK (ltK key) (if ltK key (p.getD n 0) (p.getD (n - 1) 0) = true then (if q > 0 then kas_desc f (kas_rev p (n - (q + 1)) n) (n + 1) 0 else kas_desc f p (n + 1) 0)
    else KasT.ask (p.getD (n - 1) 0) (p.getD n 0) fun d => if d = true then .ret (p, n, q) else kas_desc f p (n + 1) (q + 1)) = _
   by_cases hc : kAt key p n < kAt key p (n - 1)
   ·rw [if_pos (show ltK key (p.getD n 0) (p.getD (n - 1) 0) = true from decide_eq_true hc), if_pos hc]
    by_cases hq0 : q > 0
    ·rw [if_pos hq0, if_pos hq0]
    ·rw [if_neg hq0, if_neg hq0]
   ·rw [if_neg (show ¬ ltK key (p.getD n 0) (p.getD (n - 1) 0) = true from fun z => hc (of_decide_eq_true z)), if_neg hc]
    show eK (ltK key) (if ltK key (p.getD (n - 1) 0) (p.getD n 0) = true then KasT.ret (p, n, q) else kas_desc f p (n + 1) (q + 1)) = _
    by_cases hc2 : kAt key p (n - 1) < kAt key p n
    ·rw [if_pos (show ltK key (p.getD (n - 1) 0) (p.getD n 0) = true from decide_eq_true hc2), if_pos hc2]; rfl
    ·rw [if_neg (show ¬ ltK key (p.getD (n - 1) 0) (p.getD n 0) = true from fun z => hc2 (of_decide_eq_true z)), if_neg hc2]
  rw [e0] at e
  have down1 : ∀ {r : Array Nat}, (∀ k, kAt key r k = kAt key p k) -> kAt key p n <= kAt key p (n - 1) -> Down key r (n + 1) := fun {r} hr hle i j hij hj => by
   rw [hr, hr]
   by_cases hjn : j < n
   ·exact hd i j hij hjn
   ·have : j = n := by omega
    subst this
    by_cases hin : i = j
    ·rw [hin]; exact Int.le_refl _
    ·have := hd i (j - 1) (by omega) (by omega)
     omega
  by_cases hc : kAt key p n < kAt key p (n - 1)
  ·rw [if_pos hc] at e
   by_cases hq0 : q > 0
   ·rw [if_pos hq0] at e
    have hr := tw (key := key) (p := p) (n := n) (q := q) (by omega) ha hq
    obtain ⟨b1, b2, b3, b4, b5, b6, b7⟩ := sr f _ (n + 1) 0 (by omega) (by omega) (by rw [jQ]; omega) (down1 hr (by omega)) zU p' n' q' e
    exact ⟨b1.trans gI, by rw [b2, jQ], by omega, by omega, b5, b6, b7⟩
   ·rw [if_neg hq0] at e
    obtain ⟨b1, b2, b3, b4, b5, b6, b7⟩ := sr f _ (n + 1) 0 (by omega) (by omega) (by omega) (down1 (fun _ => rfl) (by omega)) zU p' n' q' e
    exact ⟨b1, b2, by omega, by omega, b5, b6, b7⟩
  ·rw [if_neg hc] at e
   by_cases hc2 : kAt key p (n - 1) < kAt key p n
   ·rw [if_pos hc2] at e
    cases e
    exact ⟨Array.Perm.refl _, rfl, Nat.le_refl _, by omega, hq, hd, ha⟩
   ·rw [if_neg hc2] at e
    obtain ⟨b1, b2, b3, b4, b5, b6, b7⟩ := sr f _ (n + 1) (q + 1) (by omega) (by omega) (by omega) (down1 (fun _ => rfl) (by omega)) (fun i h1 h2 => by
     show kAt key p i = kAt key p (n + 1 - 1)
     rw [Nat.add_sub_cancel]
     by_cases hin : i = n
     ·rw [hin]
     ·have := ha i (by omega) (by omega)
      omega) p' n' q' e
    exact ⟨b1, b2, by omega, by omega, b5, b6, b7⟩
theorem vQ {n nrem : Nat} (h1 : 1 <= n) (hn : n <= nrem) (hz : nrem <= p.size) (hd : Down key p n) : ∀ m p', eK (ltK key) (kas_tail3 n nrem p) = (m, p') -> p'.Perm p /\ p'.size = p.size /\ 1 <= m /\ m <= nrem /\ Up key p' m := by
 intro m p' e
 unfold kas_tail3 at e
 rw [ja] at e
 cases e
 have hu : Up key (kas_rev p 0 n) n := fun i j hij hj => by
  rw [oW (by omega), oW (by omega), if_pos ⟨Nat.zero_le _, by omega⟩, if_pos ⟨Nat.zero_le _, by omega⟩]
  exact hd _ _ (by omega) (by omega)
 obtain ⟨a1, a2, a3, _⟩ := zT (key := key) (kas_rev p 0 n) (nrem - n) n h1 hu
 exact ⟨gI, jQ, by omega, by omega, a3⟩
theorem pk {n nrem : Nat} (h1 : 1 <= n) (hn : n + 1 <= nrem) (hz : nrem <= p.size) (hall : ∀ i, i < n -> kAt key p i = kAt key p (n - 1)) (hlt : kAt key p n < kAt key p (n - 1)) : ∀ m p', eK (ltK key) (kas_descPart n nrem p) = (m, p') -> p'.Perm p /\ p'.size = p.size /\ 1 <= m /\ m <= nrem /\ Up key p' m := by
 intro m p' e
 unfold kas_descPart at e
 rw [ja] at e
 obtain ⟨r, n2, q2⟩ : ∃ r n2 q2, eK (ltK key) (kas_desc (nrem - (n + 1)) p (n + 1) 0) = (r, n2, q2) := ⟨_, _, _, rfl⟩
 obtain ⟨q2, er⟩ := q2
 rw [er] at e
 obtain ⟨b1, b2, b3, b4, b5, b6, b7⟩ := sr (key := key) (nrem - (n + 1)) p (n + 1) 0 (by omega) (by omega) (by omega) (fun i j hij hj => by
  by_cases hjn : j < n
  ·rw [hall i (by omega), hall j hjn]; exact Int.le_refl _
  ·have : j = n := by omega
   subst this
   by_cases hin : i = j
   ·rw [hin]; exact Int.le_refl _
   ·rw [hall i (by omega)]; omega) zU r n2 q2 er
 by_cases hq : q2 > 0
 ·simp only [if_pos hq] at e
  have hr := tw (key := key) (p := r) (n := n2) (q := q2) (by omega) b7 b5
  obtain ⟨c1, c2, c3, c4, c5⟩ := vQ (key := key) (p := kas_rev r (n2 - (q2 + 1)) n2) (n := n2) (nrem := nrem) (by omega) (by omega) (by rw [jQ]; omega) (fun i j hij hj => by rw [hr, hr]; exact b6 i j hij hj) m p' e
  exact ⟨c1.trans (gI.trans b1), by rw [c2, jQ, b2], c3, c4, c5⟩
 ·simp only [if_neg hq] at e
  obtain ⟨c1, c2, c3, c4, c5⟩ := vQ (key := key) (p := r) (n := n2) (nrem := nrem) (by omega) (by omega) (by omega) b6 m p' e
  exact ⟨c1.trans b1, by rw [c2, b2], c3, c4, c5⟩
theorem count_ok {nrem : Nat} (h1 : 1 <= nrem) (hz : nrem <= p.size) : ∀ m p', eK (ltK key) (kas_count nrem p) = (m, p') -> p'.Perm p /\ p'.size = p.size /\ 1 <= m /\ m <= nrem /\ Up key p' m := by
 intro m p' e
 unfold kas_count at e
 rw [ja] at e
 obtain ⟨a1, a2, a3, a4⟩ := zT (key := key) p (nrem - 1) 1 (Nat.le_refl _) (fun i j hij hj => by rw [show i = j by omega]; exact Int.le_refl _)
 obtain ⟨n, en⟩ : ∃ n, eK (ltK key) (kas_asc p (nrem - 1) 1) = n := ⟨_, rfl⟩
 rw [en] at e a1 a2 a3 a4
 by_cases hn : (n == nrem) = true
 ·simp only [if_pos hn] at e
  cases e
  exact ⟨Array.Perm.refl _, rfl, a1, by omega, a3⟩
 ·simp only [if_neg hn] at e
  have hn' : n ≠ nrem := fun z => hn (by simp [z])
  have hlt := a4 (by omega)
  by_cases h2 : n > 1
  ·simp only [if_pos h2] at e
   have e' : eK (ltK key) (if ltK key (p.getD 0 0) (p.getD (n - 1) 0) = true then KasT.ret (n, p) else kas_descPart n nrem (kas_rev p 0 n)) = (m, p') := e
   by_cases hc : kAt key p 0 < kAt key p (n - 1)
   ·rw [if_pos (show ltK key (p.getD 0 0) (p.getD (n - 1) 0) = true from decide_eq_true hc)] at e'
    cases e'
    exact ⟨Array.Perm.refl _, rfl, a1, by omega, a3⟩
   ·rw [if_neg (show ¬ ltK key (p.getD 0 0) (p.getD (n - 1) 0) = true from fun z => hc (of_decide_eq_true z))] at e'
    have all : ∀ i, i < n -> kAt key p i = kAt key p (n - 1) := fun i hi => by
     have x1 := a3 0 i (by omega) hi
     have x2 := a3 i (n - 1) (by omega) (by omega)
     omega
    have hr : ∀ i, i < n -> kAt key (kas_rev p 0 n) i = kAt key p (n - 1) := fun i hi => by
     rw [oW (by omega), if_pos ⟨Nat.zero_le _, hi⟩]
     exact all _ (by omega)
    obtain ⟨c1, c2, c3, c4, c5⟩ := pk (key := key) (p := kas_rev p 0 n) (n := n) (nrem := nrem) a1 (by omega) (by rw [jQ]; omega) (fun i hi => by rw [hr i hi, hr (n - 1) (by omega)]) (by
     rw [hr (n - 1) (by omega), oW (by omega), if_neg (by omega)]
     exact hlt) m p' e'
    exact ⟨c1.trans gI, by rw [c2, jQ], c3, c4, c5⟩
  ·simp only [if_neg h2] at e
   have : n = 1 := by omega
   subst this
   exact pk (key := key) (Nat.le_refl _) (by omega) hz (fun i hi => by rw [show i = 1 - 1 by omega]) hlt m p' e
theorem jS {k : Nat} (hu : Up key p k) : ∀ (f l r : Nat), r <= k -> r - l <= f -> l <= r -> (∀ i, i < l -> kAt key p i <= kAt key p k) -> (∀ i, r <= i -> i < k -> kAt key p k < kAt key p i) ->
  eK (ltK key) (kas_place p k f l r) <= k /\ (∀ i, i < eK (ltK key) (kas_place p k f l r) -> kAt key p i <= kAt key p k) /\ ∀ i, eK (ltK key) (kas_place p k f l r) <= i -> i < k -> kAt key p k < kAt key p i
 | 0, l, r, hr, hf, hlr, h1, h2 => by
  have : l = r := by omega
  subst this
  exact ⟨hr, h1, h2⟩
 | f + 1, l, r, hr, hf, hlr, h1, h2 => by
  by_cases hge : l >= r
  ·have : l = r := by omega
   subst this
   have e : eK (ltK key) (kas_place p k (f + 1) l l) = l := by
    show eK (ltK key) (if l >= l then KasT.ret l else _) = l
    rw [if_pos hge]; rfl
   rw [e]
   exact ⟨hr, h1, h2⟩
  ·have e : eK (ltK key) (kas_place p k (f + 1) l r) = if kAt key p k < kAt key p ((l + r) / 2) then eK (ltK key) (kas_place p k f l ((l + r) / 2)) else eK (ltK key) (kas_place p k f ((l + r) / 2 + 1) r) := by
    show eK (ltK key) (if l >= r then KasT.ret l else .ask (p.getD k 0) (p.getD ((l + r) / 2) 0) fun c => if c = true then kas_place p k f l ((l + r) / 2) else kas_place p k f ((l + r) / 2 + 1) r) = _
    rw [if_neg hge]
    show eK (ltK key) (if ltK key (p.getD k 0) (p.getD ((l + r) / 2) 0) = true then kas_place p k f l ((l + r) / 2) else kas_place p k f ((l + r) / 2 + 1) r) = _
    by_cases hc : kAt key p k < kAt key p ((l + r) / 2)
    ·rw [if_pos (show ltK key (p.getD k 0) (p.getD ((l + r) / 2) 0) = true from decide_eq_true hc), if_pos hc]
    ·rw [if_neg (show ¬ ltK key (p.getD k 0) (p.getD ((l + r) / 2) 0) = true from fun z => hc (of_decide_eq_true z)), if_neg hc]
   rw [e]
   by_cases hc : kAt key p k < kAt key p ((l + r) / 2)
   ·rw [if_pos hc]
    exact jS hu f l ((l + r) / 2) (by omega) (by omega) (by omega) h1 fun i hi hik => by
     have := hu ((l + r) / 2) i hi hik
     omega
   ·rw [if_neg hc]
    exact jS hu f ((l + r) / 2 + 1) r hr (by omega) (by omega) (fun i hi => by
     have := hu i ((l + r) / 2) (by omega) (by omega)
     omega) h2
theorem bin_ok : ∀ (f : Nat) (p : Array Nat) (k : Nat), k + f <= p.size -> Up key p k -> (eK (ltK key) (kas_bin f p k)).Perm p /\ Up key (eK (ltK key) (kas_bin f p k)) (k + f)
 | 0, p, k, hz, hu => ⟨Array.Perm.refl _, hu⟩
 | f + 1, p, k, hz, hu => by
  have e : eK (ltK key) (kas_bin (f + 1) p k) = eK (ltK key) (kas_bin f (bubble p k (k - eK (ltK key) (kas_place p k k 0 k))) (k + 1)) := by
   show eK (ltK key) ((kas_place p k k 0 k).bind fun l => kas_bin f (bubble p k (k - l)) (k + 1)) = _
   rw [ja]
  rw [e]
  obtain ⟨a1, a2, a3⟩ := jS hu k 0 k (Nat.le_refl _) (by omega) (Nat.zero_le _) (fun i hi => absurd hi (Nat.not_lt_zero _)) (fun i h1 h2 => by omega)
  obtain ⟨l, el⟩ : ∃ l, eK (ltK key) (kas_place p k k 0 k) = l := ⟨_, rfl⟩
  rw [el] at a1 a2 a3 ⊢
  have hb := kAt_bub (key := key) (p := p) (src := k) (d := k - l) (by omega) (by omega)
  obtain ⟨c1, c2⟩ := bin_ok f (bubble p k (k - l)) (k + 1) (by rw [bubble_size]; omega) (fun i j hij hj => by
   have e1 : k - (k - l) = l := by omega
   rw [hb, hb, e1]
   by_cases hi : i = l
   ·rw [if_pos hi]
    by_cases hj2 : j = l
    ·rw [if_pos hj2]; exact Int.le_refl _
    ·rw [if_neg hj2, if_pos (by omega)]
     have := a3 (j - 1) (by omega) (by omega)
     omega
   ·rw [if_neg hi]
    by_cases hj2 : j = l
    ·rw [if_pos hj2, if_neg (by omega)]
     exact a2 i (by omega)
    ·rw [if_neg hj2]
     by_cases hi2 : l < i /\ i <= k
     ·rw [if_pos hi2, if_pos (by omega)]
      exact hu _ _ (by omega) (by omega)
     ·rw [if_neg hi2]
      by_cases hj3 : l < j /\ j <= k
      ·rw [if_pos hj3]
       exact hu _ _ (by omega) (by omega)
      ·rw [if_neg hj3]
       exact hu _ _ (by omega) (by omega))
  exact ⟨c1.trans (bubble_perm _ _ _), by rw [show k + (f + 1) = k + 1 + f by omega]; exact c2⟩
theorem uQ {n : Nat} (h1 : 1 <= n) : (eK (ltK key) (kas_sort n)).toList.Perm (List.range n) /\ Up key (eK (ltK key) (kas_sort n)) n := by
 unfold kas_sort
 rw [ja]
 obtain ⟨m, p', er⟩ : ∃ m p', eK (ltK key) (kas_count n (List.toArray (List.range n))) = (m, p') := ⟨_, _, rfl⟩
 rw [er]
 obtain ⟨b1, b2, b3, b4, b5⟩ := count_ok (key := key) (p := List.toArray (List.range n)) h1 (by simp) m p' er
 have hsz : p'.size = n := by rw [b2]; simp
 by_cases hm : m < n
 ·simp only [if_pos hm]
  have em : max m 1 = m := by omega
  rw [em]
  obtain ⟨c1, c2⟩ := bin_ok (key := key) (n - m) p' m (by omega) b5
  refine ⟨?_, by rw [show m + (n - m) = n by omega] at c2; exact c2⟩
  have := Array.perm_iff_toList_perm.mp (c1.trans b1)
  simpa using this
 ·simp only [if_neg hm]
  have : m = n := by omega
  subst this
  refine ⟨?_, b5⟩
  have := Array.perm_iff_toList_perm.mp b1
  show p'.toList.Perm _
  simpa using this
end
end L2
namespace L2
open PySem PySem.Spec PyProof.Rows
section
open PySem.W
variable {α β : Type} {n : Nat}
noncomputable def wN (n : Nat) (R : α -> Prop) : KasT α -> Prop
 | .ret a => R a
 | .ask i j k => i < n /\ j < n /\ ∀ b, wN n R (k b)
theorem jF {R : α -> Prop} {S : β -> Prop} {f : α -> KasT β} (hf : ∀ a, R a -> wN n S (f a)) : ∀ t : KasT α, wN n R t -> wN n S (t.bind f)
 | .ret a, h => hf a h
 | .ask i j k, h => ⟨h.1, h.2.1, fun b => jF hf (k b) (h.2.2 b)⟩
theorem qx {lt : Nat -> Nat -> Bool} {R : α -> Prop} {cmp : Nat -> Nat -> (Bool -> Shared -> Prop) -> Shared -> Prop} {s : Shared} (ha : ∀ i j (C : Bool -> Shared -> Prop), i < n -> j < n -> C (lt i j) s -> cmp i j C s) {Q : α -> Shared -> Prop} : ∀ t : KasT α, wN n R t -> Q (eK lt t) s -> t.kasWp cmp Q s
 | .ret _, _, h => h
 | .ask i j k, r, h => ha i j _ r.1 r.2.1 (qx ha (k (lt i j)) (r.2.2 _) h)
noncomputable def InB (n : Nat) (p : Array Nat) : Prop := ∀ x, p.getD x 0 < n
theorem lO {p q : Array Nat} (h0 : 0 < n) (hp : InB n p) (h : q.Perm p) : InB n q := fun x => by
 rw [Array.getD_eq_getD_getElem?]
 cases e : q[x]? with
 | none => exact h0
 | some v =>
  have hv : v ∈ q.toList := by
   rw [<- Array.getElem?_toList] at e
   exact List.mem_of_getElem? e
  have hv2 : v ∈ p.toList := (Array.perm_iff_toList_perm.mp h).mem_iff.mp hv
  obtain ⟨y, hy, ey⟩ := List.getElem_of_mem hv2
  have := hp y
  rw [Array.getD_eq_getD_getElem?, <- Array.getElem?_toList, List.getElem?_eq_getElem hy, ey] at this
  exact this
variable {p : Array Nat}
theorem sG (hp : InB n p) : ∀ f m, wN n (fun _ => True) (kas_asc p f m)
 | 0, _ => trivial
 | f + 1, m => ⟨hp _, hp _, fun b => by
  (try dsimp only)
  split
  ·trivial
  ·exact sG hp f (m + 1)⟩
theorem mX (h0 : 0 < n) : ∀ (f : Nat) (p : Array Nat) (m q : Nat), InB n p -> wN n (fun r => InB n r.1) (kas_desc f p m q)
 | 0, p, _, _, hp => hp
 | f + 1, p, m, q, hp => ⟨hp _, hp _, fun b => by
  (try dsimp only)
  split
  ·split
   ·exact mX h0 f _ _ _ (lO h0 hp gI)
   ·exact mX h0 f _ _ _ hp
  ·refine ⟨hp _, hp _, fun c => ?_⟩
   (try dsimp only)
   split
   ·exact hp
   ·exact mX h0 f _ _ _ hp⟩
theorem qV (h0 : 0 < n) (hp : InB n p) (m r : Nat) : wN n (fun r => InB n r.2) (kas_tail3 m r p) := by
 unfold kas_tail3
 refine jF (n := n) (R := fun _ => True) (f := fun k => KasT.ret (k, kas_rev p 0 m)) (fun a _ => ?_) _ (sG (lO h0 hp gI) _ _)
 exact lO h0 hp gI
theorem mW (h0 : 0 < n) (hp : InB n p) (m r : Nat) : wN n (fun r => InB n r.2) (kas_descPart m r p) := by
 refine jF (R := fun r => InB n r.1) (fun a ha => ?_) _ (mX h0 _ _ _ _ hp)
 (try dsimp only)
 split
 ·exact qV h0 (lO h0 ha gI) _ _
 ·exact qV h0 ha _ _
theorem xH (h0 : 0 < n) (hp : InB n p) (r : Nat) : wN n (fun r => InB n r.2) (kas_count r p) := by
 refine jF (R := fun _ => True) (fun a _ => ?_) _ (sG hp _ _)
 (try dsimp only)
 split
 ·exact hp
 ·split
  ·refine ⟨hp _, hp _, fun b => ?_⟩
   (try dsimp only)
   split
   ·exact hp
   ·exact mW h0 (lO h0 hp gI) _ _
  ·exact mW h0 hp _ _
theorem nM (hp : InB n p) (k : Nat) : ∀ f l r, wN n (fun _ => True) (kas_place p k f l r)
 | 0, _, _ => trivial
 | f + 1, l, r => by
  show wN n (fun _ => True) (if l >= r then KasT.ret l else _)
  split
  ·trivial
  ·refine ⟨hp _, hp _, fun b => ?_⟩
   (try dsimp only)
   split
   ·exact nM hp k f _ _
   ·exact nM hp k f _ _
theorem wK (h0 : 0 < n) : ∀ (f : Nat) (p : Array Nat) (k : Nat), InB n p -> wN n (fun _ => True) (kas_bin f p k)
 | 0, _, _, _ => trivial
 | f + 1, p, k, hp => jF (R := fun _ => True) (fun l _ => wK h0 f _ _ (lO h0 hp (bubble_perm _ _ _))) _ (nM hp k _ _ _)
theorem zS (h0 : 0 < n) : wN n (fun _ => True) (kas_sort n) := by
 refine jF (R := fun r => InB n r.2) (fun a ha => ?_) _ (xH h0 (fun x => ?_) _)
 ·(try dsimp only)
  split
  ·exact wK h0 _ _ _ ha
  ·trivial
 ·rw [Array.getD_eq_getD_getElem?]
  simp only [List.getElem?_toArray]
  cases e : (List.range n)[x]? with
  | none => exact h0
  | some v => exact List.mem_range.mp (List.mem_of_getElem? e)
end
section
open PySem.W
variable {prog : Program} {w : World} {A : Around} {E : Value -> Shared -> Prop} {s : Shared} {key : Nat -> Int}
noncomputable def nv (key : Nat -> Int) (vs : List Value) : List Value := if vs.length < 2 then vs else (eK (ltK key) (kas_sort vs.length)).toList.map fun i => vs.getD i Value.none
noncomputable def Asks (prog : Program) (w : World) (A : Around) (key : Nat -> Int) (vs : List Value) (s' : Shared) : Prop :=
 wpAny (model prog w) A (keyKind' vs.toArray) (fun κ s2 => s2 = s' /\ ∀ i j (C : Bool -> Shared -> Prop), i < vs.length -> j < vs.length -> C (ltK key i j) s' -> kas_ask prog w A κ vs i j C s') (fun _ _ => False) s'
theorem yL {a : Addr} {vs : List Value} {n : Nat} {P : PySem.Fin -> Shared -> Prop} (ho : s.heap.get? a = some (seqObj "list" vs.toArray n)) (h64 : vs.length < 64)
  (hk : 2 <= vs.length -> ∀ h1 : Heap, (∀ b o, b ≠ a -> s.heap.get? b = some o -> h1.get? b = some o) -> Asks prog w A key vs { s with heap := h1 })
  (h : ∀ (h' : Heap) (c : Nat), (∀ b o, b ≠ a -> s.heap.get? b = some o -> h'.get? b = some o) -> h'.get? a = some (seqObj "list" (nv key vs).toArray c) -> P (.done (.ret .none)) { s with heap := h' }) :
  wpAny (model prog w) A (Builtin.«list.sort» ⟨[.ref a], []⟩) P E s := by
 have hlt : a < s.heap.objs.size := Heap.lt_size ho
 have hline := sizeLine_eq
 obtain ⟨e1, ho1⟩ : ∃ e1, (s.heap.update a (Obj.mapSeq fun _ => (#[] : Array Value))).get? a = some (seqObj "list" #[] e1) := ⟨_, get?_update_seq ho fun _ => #[]⟩
 rw [list_sort_plain]
 refine wpAny_bind (listItems_at ho rfl (wpAny_bind (listUpdate_at ho rfl (wpAny_bind (seqEpoch_at ho1 rfl (wpAny_bind (wpAny_newTuple (wpAny_bind (wpAny_newList (wpAny_holding ?_) (Nat.zero_le _))) (by show vs.length <= _; omega))))) (by rw [List.size_toArray]; omega) (Nat.zero_le _))))
 have hkeep : ∀ b o, b ≠ a -> s.heap.get? b = some o -> (((s.heap.update a (Obj.mapSeq fun _ => (#[] : Array Value))).push (seqObj "tuple" vs.toArray 0)).push (seqObj "list" #[] 0)).get? b = some o := fun b o hb q =>
  Heap.get?_push_of_some _ (Heap.get?_push_of_some _ ((Heap.get?_update_other _ _ (Ne.symm hb)).trans q))
 have ho6 : (((s.heap.update a (Obj.mapSeq fun _ => (#[] : Array Value))).push (seqObj "tuple" vs.toArray 0)).push (seqObj "list" #[] 0)).get? a = some (seqObj "list" #[] e1) := Heap.get?_push_of_some _ (Heap.get?_push_of_some _ ho1)
 show wpAny (model prog w) A _ P E { s with heap := ((s.heap.update a (Obj.mapSeq fun _ => (#[] : Array Value))).push (seqObj "tuple" vs.toArray 0)).push (seqObj "list" #[] 0) }
 dsimp only
 have fin : ∀ (out : List Value), out = nv key vs -> P (.done (.ret .none)) { s with heap := (((s.heap.update a (Obj.mapSeq fun _ => (#[] : Array Value))).push (seqObj "tuple" vs.toArray 0)).push (seqObj "list" #[] 0)).update a (Obj.mapSeq fun _ => out.toArray) } := fun out eo => by
  subst eo
  exact h _ _ (fun b o hb q => (Heap.get?_update_other _ _ (Ne.symm hb)).trans (hkeep b o hb q)) (get?_update_seq ho6 fun _ => (nv key vs).toArray)
 by_cases h2 : vs.toArray.size < 2
 ·rw [if_pos h2, if_pos h2]
  refine wpAny_bind (wpAny_pure ?_)
  rw [StateT.run_pure]
  refine wpAny_bind (wpAny_pure ?_)
  dsimp only
  have h2' : vs.length < 2 := by simpa using h2
  have eo : (arrOf (SortSt.mk' general' (vs.toArray.zip vs.toArray) #[] 7 none)).map (·.2) = vs.toArray := by
   show (vs.toArray.zip vs.toArray).map (·.2) = vs.toArray
   apply Array.toList_inj.mp
   simp only [Array.toList_map, Array.toList_zip]
   exact List.map_snd_zip (Nat.le_refl _)
  rw [eo]
  refine wpAny_bind (seqEpoch_at ho6 rfl (wpAny_bind (listUpdate_at ho6 rfl ?_ (Nat.zero_le _) (by show vs.length <= _; omega))))
  have e3 : failedOf (SortSt.mk' general' (vs.toArray.zip vs.toArray) #[] 7 none) = none := rfl
  simp only [e3, bne_self_eq_false, Bool.false_eq_true, if_false]
  exact wpAny_pure (fin vs (by unfold nv; rw [if_pos h2']))
 ·rw [if_neg h2, if_neg h2]
  have h2' : 2 <= vs.length := by rw [List.size_toArray] at h2; omega
  refine wpAny_bind (wpAny_mono (hk h2' _ hkeep) (fun κ s0 ⟨es, ask⟩ => ?_) fun _ _ x => x.elim)
  subst es
  refine wpAny_bind (wpAny_mono (kat_run (ks := vs) (vs := vs) (Q := fun st' s' => s' = { s with heap := ((s.heap.update a (Obj.mapSeq fun _ => (#[] : Array Value))).push (seqObj "tuple" vs.toArray 0)).push (seqObj "list" #[] 0) } /\ (arrOf st').map (·.2) = (nv key vs).toArray /\ failedOf st' = none)
   (G := fun p s' => s' = { s with heap := ((s.heap.update a (Obj.mapSeq fun _ => (#[] : Array Value))).push (seqObj "tuple" vs.toArray 0)).push (seqObj "list" #[] 0) } /\ p = eK (ltK key) (kas_sort vs.length)) rfl h2' h64 (fun p st' s' _ har hf hg => ⟨hg.1, ?_, hf⟩) (qx (n := vs.length) (R := fun _ => True) (fun i j C hi hj hc => ask i j C hi hj hc) _ (zS (by omega)) ⟨rfl, rfl⟩)) (fun r s' hr => ?_) fun _ _ x => x)
  ·rw [kat_snds rfl har, hg.2]
   unfold nv
   rw [if_neg (by omega)]
  ·obtain ⟨⟨⟩, st'⟩ := r
   obtain ⟨es, eo, ef⟩ := hr
   have es : s' = _ := es
   subst es
   have eo : (arrOf st').map (·.2) = (nv key vs).toArray := eo
   have ef : failedOf st' = none := ef
   dsimp only
   rw [eo]
   have hol : (nv key vs).length = vs.length := by
    unfold nv
    split
    ·rfl
    ·rw [List.length_map, (uQ (key := key) (n := vs.length) (by omega)).1.length_eq, List.length_range]
   refine wpAny_bind (seqEpoch_at ho6 rfl (wpAny_bind (listUpdate_at ho6 rfl ?_ (Nat.zero_le _) (by show (nv key vs).length <= _; omega))))
   simp only [ef, bne_self_eq_false, Bool.false_eq_true, if_false]
   exact wpAny_pure (fin _ rfl)
theorem wY {l : Addr} {vs : List Value} {Q : Value -> Shared -> Prop} (hl : s.heap.IsList l vs.toArray) (h64 : vs.length < 64)
  (hk : 2 <= vs.length -> ∀ h1 : Heap, (∀ b o, s.heap.get? b = some o -> h1.get? b = some o) -> Asks prog w A.in1.in1 key vs { s with heap := h1 })
  (h : ∀ (h' : Heap) (D : Addr) (c : Nat), s.heap.objs.size <= D -> (∀ b o, s.heap.get? b = some o -> h'.get? b = some o) -> h'.get? D = some (seqObj "list" (nv key vs).toArray c) -> Q (.ref D) { s with heap := h' }) :
  wpAny (model prog w) A (call (.builtin "sorted") [.ref l]) Q E s := by
 have hline := sizeLine_eq
 refine Calls.call_function_entry kind_sorted plain_sorted entry_sorted (args_sorted1 _) ?_
 unfold Builtin.«sorted»
 refine wpAny_bind (m := checkCount "sorted" 1 1 _) (wpAny_pure (wpAny_bind (collect_list hl (wpAny_bind (wpAny_newList ?_ (by omega))) (by omega))))
 have hz : ((s.heap.push (seqObj "list" #[] 0)).update s.heap.objs.size (Obj.mapSeq (· ++ vs.toArray))).objs.size = s.heap.objs.size + 1 := by rw [Heap.size_update, size_push']
 have hD : (((s.heap.push (seqObj "list" #[] 0)).update s.heap.objs.size (Obj.mapSeq (· ++ vs.toArray))).push (seqObj "list" vs.toArray 0)).get? (s.heap.objs.size + 1) = some (seqObj "list" vs.toArray 0) := by rw [<- hz]; exact Heap.get?_push_size _ rfl
 have hkeep : ∀ b o, s.heap.get? b = some o -> (((s.heap.push (seqObj "list" #[] 0)).update s.heap.objs.size (Obj.mapSeq (· ++ vs.toArray))).push (seqObj "list" vs.toArray 0)).get? b = some o := fun b o q =>
  Heap.get?_push_of_some _ ((Heap.get?_update_other _ _ (Nat.ne_of_gt (Heap.lt_size q))).trans (Heap.get?_push_of_some _ q))
 show wpAny _ _ _ _ _ { s with heap := ((s.heap.push (seqObj "list" #[] 0)).update s.heap.objs.size (Obj.mapSeq (· ++ vs.toArray))).push (seqObj "list" vs.toArray 0) }
 rw [hz]
 have hnD : ∀ b o, s.heap.get? b = some o -> b ≠ s.heap.objs.size + 1 := fun b o q => Nat.ne_of_lt (Nat.lt_succ_of_lt (Heap.lt_size q))
 refine wpAny_bind (wpAny_holding (wpAny_call_entry slot_list_sort ⟨_, hD, rfl⟩ entry_list_sort (yL hD h64 (fun h2 h1 hk1 => hk h2 h1 fun b o q => hk1 b o (hnD b o q) (hkeep b o q)) fun h' c k' e' => ⟨_, rfl, ?_⟩) (args_list_sort _)))
 exact wpAny_pure ⟨_, rfl, h h' _ c (Nat.le_succ _) (fun b o q => k' b o (hnD b o q) (hkeep b o q)) e'⟩
end
end L2
namespace L2
open PySem PySem.Spec PyProof.Rows
noncomputable def insL {α : Type} (lt : α -> α -> Bool) (x : α) : List α -> List α
 | [] => [x]
 | y :: ys => if lt y x = true then y :: insL lt x ys else x :: y :: ys
noncomputable def mM {α : Type} (lt : α -> α -> Bool) : List α -> List α
 | [] => []
 | x :: xs => insL lt x (mM lt xs)
noncomputable def ltZ (a b : Int) : Bool := decide (a < b)
noncomputable def oR : List Int -> List Int -> Bool
 | [], [] => false
 | [], _ :: _ => true
 | _ :: _, [] => false
 | a :: as, b :: bs => if a = b then oR as bs else decide (a < b)
noncomputable def tupZ (t : List Int) : Dat := .tup (t.map .int)
noncomputable def tupD : Dat -> M (List Int)
 | .tup ds => cR ds
 | _ => stk
noncomputable def lS : List Dat -> M (List (List Int))
 | [] => .ok []
 | d :: ds => (tupD d).bind fun t => (lS ds).bind fun r => .ok (t :: r)
noncomputable def t9 (ds : List Dat) : M Dat := if ds.length < 64 then (match cR ds with
 | .ok is => .ok (.lst ((mM ltZ is).map .int))
 | .error _ => (lS ds).bind fun ts => if (ts.all fun t => !t.isEmpty) = true then .ok (.lst ((mM oR ts).map tupZ)) else stk) else stk
noncomputable def m4 : List Dat -> M Dat
 | [.lst ds] => t9 ds
 | _ => stk
section
variable {α : Type} {lt : α -> α -> Bool}
structure Ord (lt : α -> α -> Bool) : Prop where
 irr : ∀ a, lt a a = false
 tr : ∀ a b c, lt a b = true -> lt b c = true -> lt a c = true
 tot : ∀ a b, lt a b = false -> lt b a = false -> a = b
theorem ordZ : Ord ltZ := ⟨fun a => by simp [ltZ], fun a b c h1 h2 => by simp [ltZ] at *; omega, fun a b h1 h2 => by simp [ltZ] at *; omega⟩
theorem yz : Ord oR := by
 refine ⟨fun a => ?_, fun a b c => ?_, fun a b => ?_⟩
 ·induction a with
  | nil => rfl
  | cons x xs ih => simp [oR, ih]
 ·induction a generalizing b c with
  | nil =>
   cases b with
   | nil => intro h; simp [oR] at h
   | cons y ys =>
    intro _ h2
    cases c with
    | nil => simp [oR] at h2
    | cons z zs => rfl
  | cons x xs ih =>
   intro h1 h2
   cases b with
   | nil => simp [oR] at h1
   | cons y ys =>
    cases c with
    | nil => simp [oR] at h2
    | cons z zs =>
     simp only [oR] at h1 h2 ⊢
     by_cases e1 : x = y
     ·subst e1
      rw [if_pos rfl] at h1
      by_cases e2 : x = z
      ·rw [if_pos e2] at h2 ⊢; exact ih _ _ h1 h2
      ·rw [if_neg e2] at h2 ⊢; exact h2
     ·rw [if_neg e1] at h1
      have h1' : x < y := of_decide_eq_true h1
      by_cases e2 : y = z
      ·subst e2
       rw [if_neg e1]; exact h1
      ·rw [if_neg e2] at h2
       have h2' : y < z := of_decide_eq_true h2
       rw [if_neg (by omega)]
       exact decide_eq_true (by omega)
 ·induction a generalizing b with
  | nil =>
   cases b with
   | nil => intros; rfl
   | cons y ys => intro h; simp [oR] at h
  | cons x xs ih =>
   cases b with
   | nil => intro _ h; simp [oR] at h
   | cons y ys =>
    intro h1 h2
    simp only [oR] at h1 h2
    by_cases e1 : x = y
    ·subst e1
     rw [if_pos rfl] at h1 h2
     rw [ih _ h1 h2]
    ·rw [if_neg e1] at h1
     rw [if_neg (fun z => e1 z.symm)] at h2
     have h1' := of_decide_eq_false h1
     have h2' := of_decide_eq_false h2
     omega
theorem oZ (x : α) : ∀ l : List α, (insL lt x l).Perm (x :: l)
 | [] => List.Perm.refl _
 | y :: ys => by
  rw [insL]
  split
  ·exact ((oZ x ys).cons y).trans (List.Perm.swap x y ys)
  ·exact List.Perm.refl _
theorem nz : ∀ l : List α, (mM lt l).Perm l
 | [] => List.Perm.refl _
 | x :: xs => (oZ x _).trans ((nz xs).cons x)
theorem Ord.le_trans (o : Ord lt) {a b c : α} (h1 : lt b a = false) (h2 : lt c b = false) : lt c a = false := by
 cases h : lt c a with
 | false => rfl
 | true =>
  cases h3 : lt b c with
  | true => rw [o.tr b c a h3 h] at h1; cases h1
  | false =>
   have := o.tot c b h2 h3
   subst this
   rw [h] at h1; cases h1
theorem Ord.asym (o : Ord lt) {a b : α} (h : lt a b = true) : lt b a = false := by
 cases h2 : lt b a with
 | false => rfl
 | true => have := o.tr a b a h h2; rw [o.irr] at this; cases this
theorem oY (o : Ord lt) (x : α) : ∀ l : List α, l.Pairwise (fun a b => lt b a = false) -> (insL lt x l).Pairwise (fun a b => lt b a = false)
 | [], _ => by simp [insL]
 | y :: ys, h => by
  rw [insL]
  rw [List.pairwise_cons] at h
  split
  ·rename_i hc
   rw [List.pairwise_cons]
   refine ⟨fun b hb => ?_, oY o x ys h.2⟩
   rcases List.mem_cons.mp ((oZ x ys).mem_iff.mp hb) with e | e
   ·rw [e]; exact o.asym hc
   ·exact h.1 b e
  ·rename_i hc
   have hc' : lt y x = false := by simpa using hc
   rw [List.pairwise_cons, List.pairwise_cons]
   refine ⟨fun b hb => ?_, h⟩
   rcases List.mem_cons.mp hb with e | e
   ·rw [e]; exact hc'
   ·exact o.le_trans hc' (h.1 b e)
theorem la (o : Ord lt) : ∀ l : List α, (mM lt l).Pairwise (fun a b => lt b a = false)
 | [] => List.Pairwise.nil
 | x :: xs => oY o x _ (la o xs)
theorem oK (o : Ord lt) : ∀ {l m : List α}, l.Perm m -> l.Pairwise (fun a b => lt b a = false) -> m.Pairwise (fun a b => lt b a = false) -> l = m
 | [], m, h, _, _ => (List.Perm.nil_eq h)
 | a :: l, m, h, h1, h2 => by
  cases m with
  | nil => exact absurd h.symm (by simp)
  | cons b m =>
   rw [List.pairwise_cons] at h1 h2
   have e : a = b := by
    rcases List.mem_cons.mp (h.mem_iff.mp List.mem_cons_self) with e | e
    ·exact e
    ·rcases List.mem_cons.mp (h.mem_iff.mpr List.mem_cons_self) with e2 | e2
     ·exact e2.symm
     ·exact o.tot a b (h2.1 a e) (h1.1 b e2)
   subst e
   rw [oK o (List.Perm.cons_inv h) h1.2 h2.2]
end
section
open PySem.W
variable {α : Type} {lt : α -> α -> Bool}
theorem getD_get {l : List α} {i : Nat} {d : α} (h : i < l.length) : l.getD i d = l[i] := by simp [h]
noncomputable def rk (lt : α -> α -> Bool) (zs : List α) (d : α) (i : Nat) : Int := ((zs.filter fun z => lt z (zs.getD i d)).length : Int)
theorem filter_lt {p q : α -> Bool} (h : ∀ z, p z = true -> q z = true) : ∀ l : List α, (l.filter p).length <= (l.filter q).length /\ ((∃ z ∈ l, p z = false /\ q z = true) -> (l.filter p).length < (l.filter q).length)
 | [] => ⟨Nat.le_refl _, fun ⟨_, h, _⟩ => nomatch h⟩
 | x :: xs => by
  obtain ⟨i1, i2⟩ := filter_lt h xs
  cases hp : p x with
  | true =>
   have hq := h x hp
   rw [List.filter_cons_of_pos hp, List.filter_cons_of_pos hq]
   refine ⟨by simp; exact i1, fun ⟨z, hz, e1, e2⟩ => ?_⟩
   rcases List.mem_cons.mp hz with e | e
   ·rw [e, hp] at e1; cases e1
   ·have := i2 ⟨z, e, e1, e2⟩
    simp; exact this
  | false =>
   rw [List.filter_cons_of_neg (by simp [hp])]
   cases hq : q x with
   | true =>
    rw [List.filter_cons_of_pos hq]
    exact ⟨by simp; omega, fun _ => by simp; omega⟩
   | false =>
    rw [List.filter_cons_of_neg (by simp [hq])]
    refine ⟨i1, fun ⟨z, hz, e1, e2⟩ => ?_⟩
    rcases List.mem_cons.mp hz with e | e
    ·rw [e, hq] at e2; cases e2
    ·exact i2 ⟨z, e, e1, e2⟩
theorem rk_lt (o : Ord lt) {zs : List α} {d : α} {i j : Nat} (hi : i < zs.length) (hj : j < zs.length) : ltK (rk lt zs d) i j = lt (zs.getD i d) (zs.getD j d) := by
 unfold ltK rk
 have gi : zs.getD i d ∈ zs := by rw [getD_get hi]; exact List.getElem_mem hi
 have gj : zs.getD j d ∈ zs := by rw [getD_get hj]; exact List.getElem_mem hj
 cases h : lt (zs.getD i d) (zs.getD j d) with
 | true =>
  refine decide_eq_true ?_
  have := (filter_lt (p := fun z => lt z (zs.getD i d)) (q := fun z => lt z (zs.getD j d)) (fun z hz => o.tr _ _ _ hz h) zs).2 ⟨_, gi, o.irr _, h⟩
  omega
 | false =>
  refine decide_eq_false ?_
  have := (filter_lt (p := fun z => lt z (zs.getD j d)) (q := fun z => lt z (zs.getD i d)) (fun z hz => by
   cases h3 : lt z (zs.getD i d) with
   | true => rfl
   | false =>
    have e := o.le_trans h h3
    rw [hz] at e; cases e) zs).1
  omega
theorem yy (o : Ord lt) (zs : List α) (d : α) (h2 : 2 <= zs.length) : (eK (ltK (rk lt zs d)) (kas_sort zs.length)).toList.map (fun i => zs.getD i d) = mM lt zs := by
 obtain ⟨h1, hu⟩ := uQ (key := rk lt zs d) (n := zs.length) (by omega)
 refine oK o ?_ ?_ (la o zs)
 ·refine (h1.map _).trans ?_
  have : (List.range zs.length).map (fun i => zs.getD i d) = zs := by
   apply List.ext_getElem
   ·simp
   ·intro i h3 h4
    simp [h4]
  rw [this]
  exact (nz zs).symm
 ·rw [List.pairwise_map, List.pairwise_iff_getElem]
  intro i j hi hj hij
  have hn : (eK (ltK (rk lt zs d)) (kas_sort zs.length)).toList.length = zs.length := by rw [h1.length_eq, List.length_range]
  have inr : ∀ k (hk : k < (eK (ltK (rk lt zs d)) (kas_sort zs.length)).toList.length), (eK (ltK (rk lt zs d)) (kas_sort zs.length)).toList[k] < zs.length := fun k hk => List.mem_range.mp (h1.mem_iff.mp (List.getElem_mem hk))
  have := hu i j (by omega) (by omega)
  unfold kAt at this
  have g : ∀ k (hk : k < (eK (ltK (rk lt zs d)) (kas_sort zs.length)).toList.length), (eK (ltK (rk lt zs d)) (kas_sort zs.length)).getD k 0 = (eK (ltK (rk lt zs d)) (kas_sort zs.length)).toList[k] := fun k hk => by
   rw [Array.getD_eq_getD_getElem?, <- Array.getElem?_toList, List.getElem?_eq_getElem hk]; rfl
  rw [g i hi, g j hj] at this
  rw [<- rk_lt o (inr j hj) (inr i hi)]
  exact decide_eq_false (by omega)
theorem vh : ∀ {zs : List α}, zs.length < 2 -> mM lt zs = zs
 | [], _ => rfl
 | [x], _ => rfl
 | _ :: _ :: _, h => by simp at h; omega
variable {X : Cx} {K : PySem.W.Frag} {W : gF} {own : Bool}
theorem vals_map {xs : List V} {us : List Value} (r : Vals xs us) (ps : List Nat) (hp : ∀ i ∈ ps, i < xs.length) : Vals (ps.map fun i => xs.getD i .non) (ps.map fun i => us.getD i .none) := by
 refine Vals.of_get (by simp) fun k v u h1 h2 => ?_
 rw [List.getElem?_map] at h1 h2
 cases e : ps[k]? with
 | none => rw [e] at h1; cases h1
 | some i =>
  rw [e] at h1 h2
  simp only [Option.map_some, Option.some.injEq] at h1 h2
  have hi := hp i (List.mem_of_getElem? e)
  have hl := r.length
  obtain ⟨u', e1, q⟩ := r.get (i := i) (x := xs[i]) (by simp [hi])
  rw [getD_get hi] at h1
  rw [List.getD_eq_getElem?_getD, e1] at h2
  rw [<- h1, <- h2]
  exact q
theorem vT (o : Ord lt) {pins : List (Addr × Obj)} {σ : St} {F H : Hp} {s : Shared} {Q : VK} {a : Addr} {xs : List V} {zs : List α} {d0 : α} {enc : α -> Dat} (I : Inv X pins σ H s) (hF : aY F H) (t : SqL X.K F a xs) (r : aB X.K F (zs.map enc) xs) (h64 : zs.length < 64)
  (hk : ∀ its : List Value, Vals xs its -> 2 <= its.length -> ∀ h1 : Heap, (∀ b o, s.heap.get? b = some o -> h1.get? b = some o) -> Asks X.prog X.w X.A.in1.in1 (rk lt zs d0) its { s with heap := h1 })
  (p : aI X.K W true F H (.ok (.lst ((mM lt zs).map enc))) Q) : wpAny (model X.prog X.w) X.A (call (.builtin "sorted") [.ref a]) (EP X pins σ Q) X.xe s := by
 obtain ⟨its, rv, pl, hz⟩ := I.list (hF.lst t)
 have l1 := rv.length
 have l2 := r.length
 rw [List.length_map] at l2
 refine wY (key := rk lt zs d0) pl.isList (by omega) (fun h2 h1 kp => hk its rv h2 h1 kp) fun h' D c hD kp e => ?_
 have key : ∃ ys, ys.length <= sizeLine /\ Vals ys (nv (rk lt zs d0) its) /\ aB X.K F ((mM lt zs).map enc) ys := by
  unfold nv
  by_cases h2 : its.length < 2
  ·rw [if_pos h2, vh (by omega)]
   exact ⟨xs, hz, rv, r⟩
  ·rw [if_neg h2, show its.length = zs.length by omega]
   obtain ⟨h1, _⟩ := uQ (key := rk lt zs d0) (n := zs.length) (by omega)
   have inr : ∀ i ∈ (eK (ltK (rk lt zs d0)) (kas_sort zs.length)).toList, i < xs.length := fun i hi => by
    have := List.mem_range.mp (h1.mem_iff.mp hi); omega
   refine ⟨(eK (ltK (rk lt zs d0)) (kas_sort zs.length)).toList.map fun i => xs.getD i .non, ?_, vals_map rv _ inr, ?_⟩
   ·rw [List.length_map, h1.length_eq, List.length_range]; omega
   ·rw [<- yy o zs d0 (by omega), List.map_map]
    refine aB.of_get (by simp) fun k dd v g1 g2 => ?_
    rw [List.getElem?_map] at g1 g2
    cases ek : (eK (ltK (rk lt zs d0)) (kas_sort zs.length)).toList[k]? with
    | none => rw [ek] at g1; cases g1
    | some i =>
     rw [ek] at g1 g2
     simp only [Option.map_some, Option.some.injEq, Function.comp] at g1 g2
     have hi := inr i (List.mem_of_getElem? ek)
     obtain ⟨w, e1, q⟩ := r.get (i := i) (d := enc (zs[i]'(by omega))) (by simp [show i < zs.length by omega])
     rw [getD_get (show i < zs.length by omega)] at g1
     rw [List.getD_eq_getElem?_getD, e1] at g2
     rw [<- g1, <- g2]
     exact q
 obtain ⟨ys, hy1, hy2, hy3⟩ := key
 have I1 : Inv X pins σ (upd H D (.lst ys)) { s with heap := h' } := I.laid (t' := s.toks) kp hD (show e6 X.prog X.w _ h' D (.lst ys) from ⟨hy1, _, c, hy2, e⟩)
 exact ⟨.ref D, _, I1, rfl, p.lst hF hy3 (I.hok.fresh hD)⟩
theorem rk_ints (is : List Int) (i j : Nat) (hi : i < is.length) (hj : j < is.length) : ltK (rk ltZ is 0) i j = decide (is.getD i 0 < is.getD j 0) := rk_lt ordZ hi hj
theorem zR {prog : Program} {w : World} {A : Around} {s' : Shared} {its : List Value} {is : List Int} (hi : IntsAre its is) (h2 : 2 <= its.length) : Asks prog w A (rk ltZ is 0) its s' := by
 have hl := hi.length
 obtain ⟨v1, v2, rest, rfl⟩ : ∃ v1 v2 rest, its = v1 :: v2 :: rest := by
  match its, h2 with
  | v1 :: v2 :: rest, _ => exact ⟨v1, v2, rest, rfl⟩
 unfold Asks
 rw [keyKind_ints hi]
 refine wpAny_pure ⟨rfl, fun i j C h1 h2 hc => ?_⟩
 unfold kas_ask
 obtain ⟨t1, e1⟩ := ints_at hi i h1
 obtain ⟨t2, e2⟩ := ints_at hi j h2
 rw [e1, e2]
 rw [rk_ints is i j (by omega) (by omega)] at hc
 exact kat_lt_int hc
where
 ints_at {vs : List Value} {ns : List Int} (h : IntsAre vs ns) (i : Nat) (hi : i < vs.length) : ∃ t, vs.getD i Value.none = .int (ns.getD i 0) t := by
  induction h generalizing i with
  | nil => simp at hi
  | cons n t r ih =>
   cases i with
   | zero => exact ⟨t, rfl⟩
   | succ i => obtain ⟨t', e⟩ := ih i (by simpa using hi); exact ⟨t', by simpa using e⟩
noncomputable def lexF (f : Bool) : List Int -> List Int -> Bool
 | a :: as, b :: bs => if a = b then lexF f as bs else decide (a < b)
 | _, _ => f
theorem wa : ∀ as bs : List Int, lexF (decide (as.length < bs.length)) as bs = oR as bs
 | [], [] => rfl
 | [], _ :: _ => by simp [lexF, oR]
 | _ :: _, [] => by simp [lexF, oR]
 | a :: as, b :: bs => by
  have := wa as bs
  simp only [lexF, oR, List.length_cons, Nat.add_lt_add_iff_right]
  rw [this]
theorem oV {prog : Program} {w : World} {A : Around} {s' : Shared} {f : Bool} {Q : Bool -> Shared -> Prop} : ∀ {us vs : List Value} {as bs : List Int} (i : Nat), IntsAre us as -> IntsAre vs bs -> Q (lexF f as bs) s' -> KatLex prog w A true f Q (us.zip vs) i s'
 | _, _, _, bs, _, .nil, _, h => kat_nil (by cases bs <;> exact h)
 | _, _, _, _, _, .cons a t r, .nil, h => kat_nil h
 | _, _, _, _, i, .cons a t r, .cons b u r', h => by
  show KatLex prog w A true f Q ((.int a t, .int b u) :: (_ : List (Value × Value))) i s'
  refine kat_cons (SeqAt.EqAt.int_int a t b u _ _ _ _ ?_)
  by_cases e : a = b
  ·rw [show (a == b) = true by simpa using e]
   rw [lexF, if_pos e] at h
   exact kat_yes (oV (i + 1) r r' h)
  ·rw [show (a == b) = false by simpa using e]
   rw [lexF, if_neg e] at h
   refine kat_no ?_
   cases hb : (true && i == 0) with
   | true => exact oneLt_int h
   | false => exact kat_one _ _ (lt_int h)
theorem zQ {pins : List (Addr × Obj)} {σ : St} {F H : Hp} {s : Shared} {A : Around} {xs : List V} {ts : List (List Int)} {its : List Value} {h1 : Heap} (I : Inv X pins σ H s) (hF : aY F H) (r : aB X.K F (ts.map tupZ) xs) (hne : (ts.all fun t => !t.isEmpty) = true) (rv : Vals xs its) (h2 : 2 <= its.length)
  (kp : ∀ b o, s.heap.get? b = some o -> h1.get? b = some o) : Asks X.prog X.w A (rk oR ts []) its { s with heap := h1 } := by
 have l1 := rv.length
 have l2 := r.length
 rw [List.length_map] at l2
 have at_ : ∀ i, i < its.length -> ∃ (l : Addr) (ob : Obj) (us : List Value) (n : Nat), its.getD i Value.none = .ref l /\ h1.get? l = some ob /\ ob.cls = .type "tuple" /\ ob.data = .seq us.toArray n /\ IntsAre us (ts.getD i []) := fun i hi => by
  obtain ⟨v, e1, l, ys, e2, tq, rr⟩ := r.get (i := i) (d := tupZ (ts[i]'(by omega))) (by simp [show i < ts.length by omega])
  subst e2
  obtain ⟨u, e3, ru⟩ := rv.get e1
  cases ru
  obtain ⟨us, ru, pl, _⟩ := I.tuple (hF.tup tq)
  obtain ⟨ob, h3, h4, n, h5⟩ := pl
  have e4 : ys = (ts[i]'(by omega)).map V.int := jx rr (lg _)
  rw [e4] at ru
  exact ⟨l, ob, us, n, by rw [List.getD_eq_getElem?_getD, e3]; rfl, kp _ _ h3, h4, h5, by rw [getD_get (show i < ts.length by omega)]; exact intsAre_of ru⟩
 have tups : ∀ (k : Nat), k <= its.length -> ∃ fs, KatTups h1 (its.drop (its.length - k)) fs /\ fs.length = k /\ ∀ v ∈ fs, ∃ i t, v = Value.int i t := by
  intro k
  induction k with
  | zero => intro _; exact ⟨[], by rw [Nat.sub_zero, List.drop_length]; exact KatTups.nil, rfl, fun _ h => nomatch h⟩
  | succ k ih =>
   intro hk
   obtain ⟨fs, q1, q2, q3⟩ := ih (by omega)
   have hi : its.length - (k + 1) < its.length := by omega
   obtain ⟨l, ob, us, n, e1, e2, e3, e4, e5⟩ := at_ _ hi
   have hn : (ts.getD (its.length - (k + 1)) []) ≠ [] := by
    rw [getD_get (show its.length - (k + 1) < ts.length by omega)]
    have := List.all_eq_true.mp hne _ (List.getElem_mem (show its.length - (k + 1) < ts.length by omega))
    simpa using this
   obtain ⟨z, ez⟩ : ∃ z, ts.getD (its.length - (k + 1)) [] = z := ⟨_, rfl⟩
   rw [ez] at e5 hn
   obtain ⟨f, fr, ef, hf⟩ : ∃ f fr, us = f :: fr /\ ∃ i t, f = Value.int i t := by
    cases e5 with
    | nil => exact absurd rfl hn
    | cons m t r => exact ⟨_, _, rfl, _, _, rfl⟩
   refine ⟨f :: fs, ?_, by simp [q2], fun v hv => ?_⟩
   ·rw [List.drop_eq_getElem_cons hi]
    rw [show its.length - (k + 1) + 1 = its.length - k by omega]
    rw [getD_get hi] at e1
    rw [e1]
    exact KatTups.cons e2 e3 e4 (by rw [ef]; rfl) q1
   ·rcases List.mem_cons.mp hv with e | e
    ·rw [e]; exact hf
    ·exact q3 v e
 obtain ⟨fs, q1, q2, q3⟩ := tups its.length (Nat.le_refl _)
 rw [Nat.sub_self, List.drop_zero] at q1
 unfold Asks
 refine kat_kind (s := { s with heap := h1 }) (T := .type "int") q1 (by omega) (fun v hv => ?_) rfl ⟨rfl, fun i j C hi hj hc => ?_⟩
 ·obtain ⟨i, t, e⟩ := q3 v hv
  rw [e]
  exact Looks.of_pure rfl
 ·unfold kas_ask
  obtain ⟨x1, o1, us, n1, e1, g1, _, d1, a1⟩ := at_ i hi
  obtain ⟨x2, o2, vs, n2, e2, g2, _, d2, a2⟩ := at_ j hj
  rw [e1, e2]
  rw [rk_lt yz (show i < ts.length by omega) (show j < ts.length by omega)] at hc
  refine kat_lt (s := { s with heap := h1 }) g1 d1 g2 d2 (oV 0 a1 a2 ?_)
  rw [List.size_toArray, List.size_toArray, a1.length, a2.length, wa]
  exact hc
theorem vO {F : Hp} {d : Dat} {t : List Int} (h : tupD d = .ok t) : d = tupZ t := by
 cases d with
 | tup ds =>
  have : ∀ {ds : List Dat} {t : List Int}, cR ds = .ok t -> ds = t.map .int := by
   intro ds
   induction ds with
   | nil => intro t h; cases h; rfl
   | cons d ds ih =>
    intro t h
    cases d with
    | int i =>
     cases e : cR ds with
     | error x => simp only [cR, asI, ax, e, kn] at h; cases h
     | ok r =>
      simp only [cR, asI, ax, e] at h
      cases h
      rw [ih e]
      rfl
    | _ => cases h
  unfold tupZ
  rw [this h]
 | _ => cases h
theorem yX : ∀ {ds : List Dat} {t : List Int}, cR ds = .ok t -> ds = t.map .int := fun {ds t} h => by
 have := vO (F := fun _ => none) (d := .tup ds) (t := t) h
 unfold tupZ at this
 injection this
theorem sW : ∀ {ds : List Dat} {ts : List (List Int)}, lS ds = .ok ts -> ds = ts.map tupZ
 | [], _, h => by cases h; rfl
 | d :: ds, ts, h => by
  cases e : tupD d with
  | error x => simp only [lS, e, kn] at h; cases h
  | ok t =>
   cases e2 : lS ds with
   | error x => simp only [lS, e, ax, e2, kn] at h; cases h
   | ok r =>
    simp only [lS, e, ax, e2] at h
    cases h
    rw [vO (F := fun _ => none) e, sW e2]
    rfl
theorem sY : ∀ {ds : List Dat} {e : Err}, lS ds = .error e -> e = .stuck
 | [], _, h => by cases h
 | d :: ds, e, h => by
  cases e1 : tupD d with
  | error x =>
   simp only [lS, e1, kn] at h
   cases h
   cases d with
   | tup ds => exact lh e1
   | _ => cases e1; rfl
  | ok t =>
   cases e2 : lS ds with
   | error x => simp only [lS, e1, ax, e2, kn] at h; cases h; exact sY e2
   | ok r => simp only [lS, e1, ax, e2] at h; cases h
theorem wH (hK : X.K = K := by rfl) : sO K W true X (.builtin "sorted") m4 := by
 subst hK
 intro pins s σ H xs us Q I rr h
 obtain ⟨F, d, x, s1, e, q, p⟩ := rG (fun ds => by match ds with | [d] => exact .inl ⟨d, rfl⟩ | [] => exact .inr rfl | a :: b :: c => exact .inr (by cases a <;> rfl)) h
 subst e
 obtain ⟨u, rfl, ru⟩ := rr.one
 cases d with
 | lst ds =>
  show 'մ'
  subst e1
  cases ru
  have p' : aI X.K W true F H (t9 ds) Q := p
  unfold t9 at p'
  by_cases h64 : ds.length < 64
  ·rw [if_pos h64] at p'
   cases ei : cR ds with
   | ok is =>
    rw [ei] at p'
    have ed := yX ei
    subst ed
    refine vT ordZ (d0 := 0) I s1 t r (by simpa using h64) (fun its rv h2 h1 kp => ?_) p'
    have e2 : ys = is.map V.int := jx r ei
    subst e2
    exact zR (intsAre_of rv) h2
   | error z =>
    rw [ei] at p'
    have p2 : aI X.K W true F H ((lS ds).bind fun ts => if (ts.all fun t => !t.isEmpty) = true then .ok (.lst ((mM oR ts).map tupZ)) else stk) Q := p'
    cases et : lS ds with
    | error z2 => rw [et] at p2; have := sY et; subst this; exact aI.stuck p2
    | ok ts =>
     rw [et] at p2
     have ed := sW et
     subst ed
     have p3 : aI X.K W true F H (if (ts.all fun t => !t.isEmpty) = true then .ok (.lst ((mM oR ts).map tupZ)) else stk) Q := p2
     by_cases hne : (ts.all fun t => !t.isEmpty) = true
     ·rw [if_pos hne] at p3
      exact vT yz (d0 := []) I s1 t r (by simpa using h64) (fun its rv h2 h1 kp => zQ I s1 r hne rv h2 kp) p3
     ·rw [if_neg hne] at p3
      exact aI.stuck p3
  ·rw [if_neg h64] at p'
   exact aI.stuck p'
 | _ => exact aI.stuck p
end
end L2
namespace L2
open PySem PySem.Spec PyProof.Rows
section
variable {X : Cx} {K : PySem.W.Frag} {W : gF} {own ro : Bool} {e a b c d : Expr} {lo hi : Option Expr} {es : List Expr} {x y : Str} {pos p p2 p3 q r t u : Pos} {f fa fb fc fd' fk : ao -> M Dat} {fl fu : ao -> M (Option Int)} {OL O : List Nat}
end
section
variable {ρ : ao} {fa fb fc fd' : ao -> M Dat} {fl fu : ao -> M (Option Int)}
@[simp] theorem e_pow {i j : Int} (h0 : 0 <= j) (h1 : j <= 1000000) (h2 : i.natAbs < 2 ^ 64) : powD (.int i) (.int j) = .ok (.int (i ^ j.toNat)) := by
 show (if (decide (0 <= j) && decide (j <= 1000000) && decide (i.natAbs < 2 ^ 64)) = true then _ else _) = _
 rw [if_pos (by simp only [Bool.and_eq_true, decide_eq_true_eq]; exact ⟨⟨h0, h1⟩, h2⟩)]
@[simp] theorem e_eqII (i j : Int) : eqM (.int i) (.int j) = .ok (.bl (decide (i = j))) := by
 show Except.ok (Dat.bl (i == j)) = _
 rw [show (i == j) = decide (i = j) from rfl]
@[simp] theorem e_neII (i j : Int) : neM (.int i) (.int j) = .ok (.bl (!decide (i = j))) := by
 show Except.ok (Dat.bl (!(i == j))) = _
 rw [show (i == j) = decide (i = j) from rfl]
end
end L2
namespace L2
open PySem PySem.Spec PyProof.Rows
noncomputable def revD : Dat -> M Dat
 | .lst ds => .ok (.lst ds.reverse)
 | _ => stk
section
variable {X : Cx} {K : PySem.W.Frag} {W : gF} {own ro : Bool} {e a b c d : Expr} {st : Option Expr} {te : TE} {tp : TO} {es : List Expr} {x y : Str} {pos p p2 p3 p4 q r t u : Pos} {f fa fb fc fk : ao -> M Dat} {fp : ao -> M (Option Int)} {OL O : List Nat}
end
end L2
namespace L2
open PySem PySem.Spec PyProof.Rows
noncomputable def sF (Cs : List Addr) (x : Str) : Dat -> M Dat
 | .ins C fs => if Cs.contains C = true then (match fs.lookup x with
  | some d => .ok d
  | none => stk) else stk
 | _ => stk
noncomputable def isC (C : Addr) (m : Str) : Dat -> Bool
 | .ins D fs => (D == C) && (fs.lookup m).isNone
 | _ => false
noncomputable def nK (C : Addr) (m : Str) (g : List Dat -> M Dat) (fo : ao -> M Dat) (fr : ao -> M (List Dat)) : ao -> M Dat := fun ρ => (fo ρ).bind fun o => if isC C m o = true then (fr ρ).bind fun as => g (o :: as) else stk
noncomputable def lD (C C2 : Addr) (m : Str) (g g2 : List Dat -> M Dat) (fo : ao -> M Dat) (fr : ao -> M (List Dat)) : ao -> M Dat := fun ρ => (fo ρ).bind fun o => if isC C m o = true then (fr ρ).bind fun as => g (o :: as) else if isC C2 m o = true then (fr ρ).bind fun as => g2 (o :: as) else stk
noncomputable def newR (C : Addr) (g : List Dat -> M Dat) : List Dat -> M Dat
 | [d] => (g [d]).bind fun r => .ok (.ins C [("gaps", r)])
 | _ => stk
noncomputable def twoL : Dat -> Dat -> Bool
 | .lst xs, .lst ys => decide (xs.length = ys.length)
 | _, _ => false
noncomputable def newP (C : Addr) (g : List Dat -> M Dat) : List Dat -> M Dat
 | [d, e] => (g [d]).bind fun r => (g [e]).bind fun r2 => if twoL r r2 = true then .ok (.ins C [("gaps", r), ("beside", r2)]) else stk
 | _ => stk
noncomputable def sStk : ao -> M Flo := fun _ => stk
section
variable {X : Cx} {K : PySem.W.Frag} {W : gF} {own ro : Bool} {e o a b c d : Expr} {es : List Expr} {x y m : Str} {pos p p2 apos : Pos} {f fa fo : ao -> M Dat} {fr : ao -> M (List Dat)} {OL O O' : List Nat} {C C2 : Addr} {Cs : List Addr}
theorem ds_stk {st : Stmt} : DS K W ro X OL O O' st sStk := fun F0 H0 pins s σ H D I h => by
 obtain ⟨FB, F, ρ, r, p⟩ := h
 exact p.stuck rfl
theorem pK.at {F : Hp} {x : Str} : ∀ {gs : List (Str × Dat)} {fs : List (Str × V)}, pK K F gs fs -> (∀ d, gs.lookup x = some d -> ∃ v, fs.lookup x = some v /\ bT K F d v) /\ (gs.lookup x = none -> fs.lookup x = none)
 | [], fs, h => by cases (show fs = [] from h); exact ⟨fun d h => by simp at h, fun _ => rfl⟩
 | (g, d) :: gs, fs, h => by
  obtain ⟨v, r, rfl, h1, h2⟩ := h
  have ih := pK.at (x := x) h2
  rw [List.lookup_cons, List.lookup_cons]
  cases e : x == g with
  | true => exact ⟨fun d' h' => by cases h'; exact ⟨v, rfl, h1⟩, fun h' => by cases h'⟩
  | false => exact ih
theorem zw (hC : ∀ C ∈ Cs, Cls K C /\ kL K C y) (he : DE K W false X e fa) (hb : attributeBase e y X.env (eval e X.env) = eval e X.env := by rfl) (hK : X.K = K := by rfl) : DE K W false X (.Attribute e y pos) (f1 (sF Cs y) fa) := by
 subst hK
 refine (yw he hb).imp fun σ H Q h => ?_
 show 'Ի'
 show 'դ'
 have ez : f1 (sF Cs y) fa ρ = sF Cs y a := by unfold f1; rw [ha]; rfl
 rw [ez] at p
 cases a with
 | ins C gs =>
  obtain ⟨l, dx, fs, e1, ea, df⟩ := q1
  have p' : aI X.K W false F H (if Cs.contains C = true then (match gs.lookup y with
   | some d => .ok d
   | none => stk) else stk) Q := p
  by_cases hc : Cs.contains C = true
  ·rw [if_pos hc] at p'
   obtain ⟨h1, h2⟩ := hC C (by simpa using hc)
   cases hl : gs.lookup y with
   | none => rw [hl] at p'; exact aI.stuck p'
   | some d =>
    rw [hl] at p'
    obtain ⟨v, hv, hd⟩ := df.at.1 d hl
    exact ⟨l, C, dx, fs, v, e1, s1.fh _ _ ea, h1, h2, hv, (p'.step s1) v F1 H1 (Step.refl s1.fh) hd⟩
  ·rw [if_neg hc] at p'; exact aI.stuck p'
 | _ => exact aI.stuck p
theorem PE.or {t1 t2 : TE} (h1 : PE X e t1) (h2 : PE X e t2) : PE X e (fun σ H Q => t1 σ H Q \/ t2 σ H Q) := fun pins s σ H Q I h => h.elim (h1 pins s σ H Q I) (h2 pins s σ H Q I)
theorem rd_meth {nN n : Nat} {g : ao -> M Flo} {σ : St} {H : Hp} {Q : VK} (h : tD K Wno ro (nK C m (bW nN n g) fo fr) σ H Q) : tMeth C m (spF K ro (bW nN n g) n) [] E0 (tD K Wno false fo) (tDA K Wno fr) σ H Q := by
 show 'Ի'
 refine bC r s (fun e he => p.err (by unfold nK; rw [he]; rfl)) fun o ho x F1 H1 s1 q1 => ?_
 have ez : nK C m (bW nN n g) fo fr ρ = if isC C m o = true then (fr ρ).bind fun as => bW nN n g (o :: as) else stk := by unfold nK; rw [ho]; rfl
 rw [ez] at p
 by_cases hc : isC C m o = true
 ·rw [if_pos hc] at p
  cases o with
  | ins D gs =>
   obtain ⟨l, dx, fs, e1, ea, df⟩ := id q1
   have hc' : ((D == C) && (gs.lookup m).isNone) = true := hc
   rw [Bool.and_eq_true] at hc'
   obtain ⟨hD, hn⟩ := hc'
   have hD : D = C := by simpa using hD
   subst hD
   refine ⟨l, dx, fs, e1, s1.fh _ _ ea, df.at.2 (by simpa using hn), ?_⟩
   have p := p.step s1
   refine nr (r.mono s1.ff) s1.fh (fun e he => p.err (by rw [he]; rfl)) fun as has vs F2 H2 s2 qs => ?_
   rw [has] at p
   have p : aI K Wno ro F1 H1 (bW nN n g (.ins D gs :: as)) Q := p
   have p := p.step s2
   show spF K ro (bW nN n g) n (x :: (vs ++ [])) H2 Q E0
   rw [List.append_nil]
   by_cases hl : (Dat.ins D gs :: as).length = n
   ·exact ⟨F2, .ins D gs :: as, s2.fh, ⟨x, vs, rfl, bT.mono s2.ff q1, qs⟩, hl, p⟩
   ·rw [mF hl] at p
    exact aI.stuck p
  | _ => cases hc
 ·rw [if_neg hc] at p; exact aI.stuck p
theorem rd_meth2 {nN n nN2 n2 : Nat} {g g2 : ao -> M Flo} {σ : St} {H : Hp} {Q : VK} (h : tD K Wno ro (lD C C2 m (bW nN n g) (bW nN2 n2 g2) fo fr) σ H Q) :
  tD K Wno ro (nK C m (bW nN n g) fo fr) σ H Q \/ tD K Wno ro (nK C2 m (bW nN2 n2 g2) fo fr) σ H Q := by
 show 'Ի'
 cases ho : fo ρ with
 | error e =>
  refine .inl ⟨F, ρ, r, s, ?_⟩
  have e1 : lD C C2 m (bW nN n g) (bW nN2 n2 g2) fo fr ρ = .error e := by unfold lD; rw [ho]; rfl
  have e2 : nK C m (bW nN n g) fo fr ρ = .error e := by unfold nK; rw [ho]; rfl
  rw [e1] at p; rw [e2]; exact p
 | ok o =>
  have e1 : lD C C2 m (bW nN n g) (bW nN2 n2 g2) fo fr ρ = if isC C m o = true then (fr ρ).bind fun as => bW nN n g (o :: as) else if isC C2 m o = true then (fr ρ).bind fun as => bW nN2 n2 g2 (o :: as) else stk := by unfold lD; rw [ho]; rfl
  have e2 : nK C m (bW nN n g) fo fr ρ = if isC C m o = true then (fr ρ).bind fun as => bW nN n g (o :: as) else stk := by unfold nK; rw [ho]; rfl
  have e3 : nK C2 m (bW nN2 n2 g2) fo fr ρ = if isC C2 m o = true then (fr ρ).bind fun as => bW nN2 n2 g2 (o :: as) else stk := by unfold nK; rw [ho]; rfl
  rw [e1] at p
  by_cases hc : isC C m o = true
  ·rw [if_pos hc] at p e2
   exact .inl ⟨F, ρ, r, s, by rw [e2]; exact p⟩
  ·rw [if_neg hc] at p
   exact .inr ⟨F, ρ, r, s, by rw [e3]; exact p⟩
noncomputable def MethEq (X : Cx) (o : Expr) (m : Str) (apos : Pos) (es : List Expr) (pos : Pos) (pl : Sem Bool) : Prop := eval (.Call (.Attribute o m apos) es [] pos) X.env = (do let ov <- eval o X.env; standAt apos.atName; let (f, first) <- holding [ov] (getMethod ov m pl); callWith pos f first (backTo pos (starEach es X.env)) (backToKw pos (keywordEach [] X.env)))
section
variable {k nN n nN2 n2 : Nat} {fad fad2 : Addr} {fd fd2 : FuncData} {ps : List Str} {g g2 : ao -> M Flo} {pl : Sem Bool}
theorem vX (c : Cls X.K C) (M : Meth X.K C m fad) (F : cJ X.prog X.w X.K X.mg X.base CX0 k fad fd ps (spF X.K ro (bW nN n g) n)) (hr : jJ k X.A) (hb : Binds X.K fd ps []) (ho : DE X.K Wno false X o fo) (ha : DA X.K Wno X (e :: es) fr)
  (hst : starEach (e :: es) X.env = (false, eval e X.env) :: starEach es X.env) (hpl : (backTo pos (starEach es X.env)).any (·.1) = false) (ht : MethEq X o m apos (e :: es) pos pl) : DE X.K Wno ro X (.Call (.Attribute o m apos) (e :: es) [] pos) (nK C m (bW nN n g) fo fr) :=
 (pe_meth (pl := pl) ho c M F hr hb .nil v3 ha hst hpl ht).imp fun _ _ _ => rd_meth
theorem de_meth2 {k2 : Nat} {ps2 : List Str} (c : Cls K C) (M : Meth K C m fad) (F : cJ X.prog X.w X.K X.mg X.base CX0 k fad fd ps (spF K ro (bW nN n g) n)) (hr : jJ k X.A) (hb : Binds X.K fd ps [])
  (c2 : Cls K C2) (M2 : Meth K C2 m fad2) (F2 : cJ X.prog X.w X.K X.mg X.base CX0 k2 fad2 fd2 ps2 (spF K ro (bW nN2 n2 g2) n2)) (hr2 : jJ k2 X.A) (hb2 : Binds X.K fd2 ps2 []) (ho : DE K Wno false X o fo) (ha : DA K Wno X (e :: es) fr)
  (hK : X.K = K := by rfl) (hst : starEach (e :: es) X.env = (false, eval e X.env) :: starEach es X.env := by rfl) (hpl : (backTo pos (starEach es X.env)).any (·.1) = false := by rfl) (ht : MethEq X o m apos (e :: es) pos pl := by rfl) :
  DE K Wno ro X (.Call (.Attribute o m apos) (e :: es) [] pos) (lD C C2 m (bW nN n g) (bW nN2 n2 g2) fo fr) := by
 subst hK
 exact (PE.or (vX c M F hr hb ho ha hst hpl ht) (vX c2 M2 F2 hr2 hb2 ho ha hst hpl ht)).imp fun _ _ _ => rd_meth2
end
noncomputable def spI1 (K : PySem.W.Frag) (C : Addr) (g : List Dat -> M Dat) : Sp := fun vs H Q _ => ∃ p dx v F d, vs = [.ref p, v] /\ H p = some (.ins C dx []) /\ F p = none /\ aY F H /\ bT K F d v /\ (match g [d] with
 | .ok r => ∀ w F' H', aY F F' -> aY F' H' -> F' p = none -> (∀ b o, F' b = some o -> F b = some o \/ H b = none) -> (∀ c o, H c = some o -> c ≠ p -> H' c = some o) -> H' p = some (.ins C dx [("gaps", w)]) -> bT K F' r w -> Q .non H'
 | .error e => Wno.p e F H)
noncomputable def spI2 (K : PySem.W.Frag) (C : Addr) (g : List Dat -> M Dat) : Sp := fun vs H Q _ => ∃ p dx v v2 F d d2, vs = [.ref p, v, v2] /\ H p = some (.ins C dx []) /\ F p = none /\ aY F H /\ bT K F d v /\ bT K F d2 v2 /\ (match (g [d]).bind fun r => (g [d2]).bind fun r2 => if twoL r r2 = true then .ok (r, r2) else stk with
 | .ok (r, r2) => ∀ w w2 F' H', aY F F' -> aY F' H' -> F' p = none -> (∀ b o, F' b = some o -> F b = some o \/ H b = none) -> (∀ c o, H c = some o -> c ≠ p -> H' c = some o) -> H' p = some (.ins C dx [("gaps", w), ("beside", w2)]) -> bT K F' r w -> bT K F' r2 w2 -> Q .non H'
 | .error e => Wno.p e F H)
theorem Step.born {F H F' H' : Hp} {x dx : Addr} {fs : List (Str × V)} (s : aY F H) (hx : H x = none) (hdx : H dx = none) (hne : dx ≠ x) (h1 : aY F F') (h2 : aY F' H') (h3 : F' x = none) (h4 : ∀ b o, F' b = some o -> F b = some o \/ upd (upd H dx (.own x)) x (.ins C dx []) b = none)
  (h5 : ∀ c o, upd (upd H dx (.own x)) x (.ins C dx []) c = some o -> c ≠ x -> H' c = some o) (h6 : H' x = some (.ins C dx fs)) : Step F H (upd F' x (.ins C dx fs)) H' where
 ff := h1.trans (aY.upd h3)
 hh := fun c o e => by
  have hc : c ≠ x := fun h => by rw [h, hx] at e; cases e
  have hd : c ≠ dx := fun h => by rw [h, hdx] at e; cases e
  exact h5 c o (by rw [au hc, au hd]; exact e) hc
 fh := fun c o e => by
  by_cases hc : c = x
  ·subst hc; rw [av] at e; rw [h6]; exact e
  ·rw [au hc] at e; exact h2 _ _ e
 nw := fun c o e => by
  by_cases hc : c = x
  ·subst hc; exact .inr hx
  ·rw [au hc] at e
   rcases h4 c o e with z | z
   ·exact .inl z
   ·refine .inr ?_
    by_cases hd : c = dx
    ·subst hd; exact hdx
    ·rw [au hc, au hd] at z; exact z
theorem de_newR {k : Nat} {fI : Addr} {fdI : FuncData} {g : List Dat -> M Dat} {ps : List Str} (Mk' : Mk X.K C fI) (FI : cJ X.prog X.w X.K X.mg X.base CX0 k fI fdI ps (spI1 K C g)) (hr : jJ (k + 1) X.A) (hm : X.mg x = some (.ref C)) (hb : Binds X.K fdI ps [])
  (ha : DA K Wno X [e] fr) (hg : Gl X x := by rfl) (hdb : (x == ("__debug__" : Str)) = false := by decide) (hst : starEach [e] X.env = (false, eval e X.env) :: starEach [] X.env := by rfl) (hpl : (backTo pos (starEach [] X.env)).any (·.1) = false := by rfl) :
  DE K Wno false X (.Call (.Name x p) [e] [] pos) (fL (newR C g) fr) := by
 refine PE.imp (yu Mk' FI hr hg hm hb .nil v3 ha hdb hst hpl) fun σ H Q h => ?_
 show 'Հ'
 cases e1 : fr ρ with
 | error z => rw [e1] at p; exact p
 | ok ds =>
  rw [e1] at p
  intro vs F1 H1 st q
  obtain ⟨F2, es1, s1, q1, z⟩ := p vs F1 H1 st q
  rcases es1 with _ | ⟨d, _ | ⟨_, _⟩⟩
  ·exact aI.stuck z
  rotate_left
  ·exact aI.stuck z
  ·obtain ⟨v, vs', rfl, qd, hn⟩ := q1
   cases (show vs' = [] from hn)
   intro x dx hx hdx hne
   refine ⟨x, dx, v, F2, d, rfl, av, s1.free hx, fun c o e => ?_, qd, ?_⟩
   ·have hc : c ≠ x := fun h => by rw [h, s1.free hx] at e; cases e
    have hd : c ≠ dx := fun h => by rw [h, s1.free hdx] at e; cases e
    rw [au hc, au hd]; exact s1 _ _ e
   ·have z : aI K Wno false F2 H1 ((g [d]).bind fun r => .ok (.ins C [("gaps", r)])) Q := z
    cases hgd : g [d] with
    | error e => rw [hgd] at z; exact False.elim z
    | ok r =>
     rw [hgd] at z
     intro w F' H' h1 h2 h3 h4 h5 h6 h7
     refine ⟨rfl, z (.ref x) (upd F' x (.ins C dx [("gaps", w)])) H' (Step.born s1 hx hdx hne h1 h2 h3 h4 h5 h6) ?_⟩
     exact ⟨x, dx, _, rfl, av, w, [], rfl, bT.mono (aY.upd h3) h7, rfl⟩
theorem de_newP {k : Nat} {fI : Addr} {fdI : FuncData} {g : List Dat -> M Dat} {ps : List Str} (Mk' : Mk X.K C fI) (FI : cJ X.prog X.w X.K X.mg X.base CX0 k fI fdI ps (spI2 K C g)) (hr : jJ (k + 1) X.A) (hm : X.mg x = some (.ref C)) (hb : Binds X.K fdI ps [])
  (ha : DA K Wno X [e, a] fr) (hg : Gl X x := by rfl) (hdb : (x == ("__debug__" : Str)) = false := by decide) (hst : starEach [e, a] X.env = (false, eval e X.env) :: starEach [a] X.env := by rfl) (hpl : (backTo pos (starEach [a] X.env)).any (·.1) = false := by rfl) :
  DE K Wno false X (.Call (.Name x p) [e, a] [] pos) (fL (newP C g) fr) := by
 refine PE.imp (yu Mk' FI hr hg hm hb .nil v3 ha hdb hst hpl) fun σ H Q h => ?_
 show 'Հ'
 cases e1 : fr ρ with
 | error z => rw [e1] at p; exact p
 | ok ds =>
  rw [e1] at p
  intro vs F1 H1 st q
  obtain ⟨F2, es1, s1, q1, z⟩ := p vs F1 H1 st q
  rcases es1 with _ | ⟨d, _ | ⟨d2, _ | ⟨_, _⟩⟩⟩
  ·exact aI.stuck z
  ·exact aI.stuck z
  rotate_left
  ·exact aI.stuck z
  ·obtain ⟨v, vs', rfl, qd, v2, vs2, rfl, qd2, hn⟩ := q1
   cases (show vs2 = [] from hn)
   intro x dx hx hdx hne
   refine ⟨x, dx, v, v2, F2, d, d2, rfl, av, s1.free hx, fun c o e => ?_, qd, qd2, ?_⟩
   ·have hc : c ≠ x := fun h => by rw [h, s1.free hx] at e; cases e
    have hd : c ≠ dx := fun h => by rw [h, s1.free hdx] at e; cases e
    rw [au hc, au hd]; exact s1 _ _ e
   ·have z : aI K Wno false F2 H1 ((g [d]).bind fun r => (g [d2]).bind fun r2 => if twoL r r2 = true then .ok (.ins C [("gaps", r), ("beside", r2)]) else stk) Q := z
    cases hgd : g [d] with
    | error e => rw [hgd] at z; exact False.elim z
    | ok r =>
     rw [hgd, ax] at z
     cases hgd2 : g [d2] with
     | error e => rw [hgd2] at z; exact False.elim z
     | ok r2 =>
      rw [hgd2, ax] at z
      by_cases ht : twoL r r2 = true
      ·rw [if_pos ht] at z
       rw [ax, ax, if_pos ht]
       intro w w2 F' H' h1 h2 h3 h4 h5 h6 h7 h8
       refine ⟨rfl, z (.ref x) (upd F' x (.ins C dx [("gaps", w), ("beside", w2)])) H' (Step.born s1 hx hdx hne h1 h2 h3 h4 h5 h6) ?_⟩
       exact ⟨x, dx, _, rfl, av, w, _, rfl, bT.mono (aY.upd h3) h7, w2, [], rfl, bT.mono (aY.upd h3) h8, rfl⟩
      ·rw [if_neg ht] at z; exact aI.stuck z
end
end L2
namespace L2
open PySem PySem.Spec PyProof.Rows
end L2
namespace L2
open PySem PySem.Spec PyProof.Rows
end L2
namespace L2
open PySem PySem.Spec PyProof.Rows
end L2
namespace L2
open PySem PySem.Spec PyProof.Rows
theorem vZ {n : Nat} : ∀ {ds : List Dat} {d : Dat}, hX ds n = true -> d ∈ ds -> okE d n = true
 | [], d, _, h => by simp at h
 | a :: ds, d, h, hd => by
  unfold hX at h
  simp only [Bool.and_eq_true] at h
  rcases List.mem_cons.mp hd with e | e
  ·rw [e]; exact h.1
  ·exact vZ h.2 e
section
variable {X : Cx} {K : PySem.W.Frag} {W : gF} {own ro : Bool}
open Classical in
theorem has_D {pins : List (Addr × Obj)} {σ : St} {F H : Hp} {s : Shared} (I : Inv X pins σ H s) (hF : aY F H) {ds : List Dat} {xs : List V} {its : List Value} {a : Dat} {x : V} {u : Value} {A : Around} (od : hX ds 40 = true) (oa : okE a 40 = true) (qs : aB X.K F ds xs) (rv : Vals xs its) (qa : bT X.K F a x) (ra : RelV x u) (hu : A.units + 40 < cLine) :
  ∃ e : Value -> Bool, (∀ y, y ∈ its.toArray -> SeqAt.EqAt A s y u (e y)) /\ its.toArray.any e = ds.any fun d => eqD d a := by
 have each : ∀ (i : Nat) (y : Value), its[i]? = some y -> ∃ d, ds[i]? = some d /\ SeqAt.EqAt A s y u (eqD d a) := fun i y hy => by
  have hi : i < its.length := (List.getElem?_eq_some_iff.mp hy).1
  have h1 : i < xs.length := by rw [rv.length]; exact hi
  have h2 : i < ds.length := by rw [<- qs.length]; exact h1
  obtain ⟨v, e1, q1⟩ := qs.get (List.getElem?_eq_getElem h2)
  obtain ⟨w, e2, r2⟩ := rv.get e1
  rw [hy] at e2
  cases e2
  exact ⟨_, List.getElem?_eq_getElem h2, zi I hF _ a (vZ od (List.getElem_mem h2)) oa q1 qa r2 ra hu⟩
 refine ⟨fun y => decide (∃ (i : Nat) (d : Dat), its[i]? = some y /\ ds[i]? = some d /\ eqD d a = true), fun y hy => ?_, ?_⟩
 ·by_cases h : ∃ (i : Nat) (d : Dat), its[i]? = some y /\ ds[i]? = some d /\ eqD d a = true
  ·obtain ⟨i, d, h1, h2, h3⟩ := h
   obtain ⟨d', h4, h5⟩ := each i y h1
   rw [h2] at h4
   cases h4
   rw [h3] at h5
   have : decide (∃ (i : Nat) (d : Dat), its[i]? = some y /\ ds[i]? = some d /\ eqD d a = true) = true := decide_eq_true ⟨i, d, h1, h2, h3⟩
   show SeqAt.EqAt A s y u (decide _)
   rw [this]
   exact h5
  ·have hm : y ∈ its := by simpa using hy
   obtain ⟨i, hi⟩ := List.getElem?_of_mem hm
   obtain ⟨d, h4, h5⟩ := each i y hi
   have h6 : eqD d a = false := by
    cases hq : eqD d a with
    | false => rfl
    | true => exact absurd ⟨i, d, hi, h4, hq⟩ h
   rw [h6] at h5
   show SeqAt.EqAt A s y u (decide _)
   rw [decide_eq_false h]
   exact h5
 ·rw [Bool.eq_iff_iff]
  simp only [List.any_toArray, List.any_eq_true, decide_eq_true_eq]
  constructor
  ·rintro ⟨y, hy, i, d, h1, h2, h3⟩
   exact ⟨d, List.mem_of_getElem? h2, h3⟩
  ·rintro ⟨d, hd, h3⟩
   obtain ⟨i, hi⟩ := List.getElem?_of_mem hd
   have h2 : i < ds.length := (List.getElem?_eq_some_iff.mp hi).1
   have h4 : i < its.length := by rw [<- rv.length, qs.length]; exact h2
   exact ⟨its[i], List.getElem_mem h4, i, d, List.getElem?_eq_getElem h4, hi, h3⟩
theorem o_in (hu : X.A.units + 64 < cLine) (hK : X.K = K := by rfl) : Op2 K W own X (compareOp .In) inM := by
 subst hK
 show 'Ն'
 show 'շ'
 cases b with
 | lst ds =>
  show 'է'
  by_cases hc : (okE a 40 && hX ds 40) = true
  ·rw [if_pos hc] at p'
   simp only [Bool.and_eq_true] at hc
   obtain ⟨its, rv, pl, _⟩ := I.list (s1.lst t)
   show 'Ֆ'
   refine SeqAt.in_listAt e pl.isList he ?_
   rw [ha]
   exact p'.blS s1 I
  ·rw [if_neg hc] at p'; exact p'.stuck
 | tup ds =>
  show 'է'
  by_cases hc : (okE a 40 && hX ds 40) = true
  ·rw [if_pos hc] at p'
   simp only [Bool.and_eq_true] at hc
   obtain ⟨its, rv, pl, _⟩ := I.tuple (s1.tup t)
   show 'Ֆ'
   refine SeqAt.in_tupleAt e (show s.heap.IsTuple l its.toArray from pl) he ?_
   rw [ha]
   exact p'.blS s1 I
  ·rw [if_neg hc] at p'; exact p'.stuck
 | _ => exact aI.stuck p
theorem o_notIn (hu : X.A.units + 64 < cLine) (hK : X.K = K := by rfl) : Op2 K W own X (compareOp .NotIn) yF := by
 subst hK
 show 'Ն'
 show 'շ'
 cases b with
 | lst ds =>
  show 'զ'
  by_cases hc : (okE a 40 && hX ds 40) = true
  ·rw [if_pos hc] at p'
   simp only [Bool.and_eq_true] at hc
   obtain ⟨its, rv, pl, _⟩ := I.list (s1.lst t)
   show 'Ֆ'
   refine SeqAt.notIn_listAt e pl.isList he ?_
   rw [ha]
   exact p'.blS s1 I
  ·rw [if_neg hc] at p'; exact p'.stuck
 | tup ds =>
  show 'զ'
  by_cases hc : (okE a 40 && hX ds 40) = true
  ·rw [if_pos hc] at p'
   simp only [Bool.and_eq_true] at hc
   obtain ⟨its, rv, pl, _⟩ := I.tuple (s1.tup t)
   show 'Ֆ'
   refine SeqAt.notIn_tupleAt e (show s.heap.IsTuple l its.toArray from pl) he ?_
   rw [ha]
   exact p'.blS s1 I
  ·rw [if_neg hc] at p'; exact p'.stuck
 | _ => exact aI.stuck p
end
end L2
namespace L2
open PySem PySem.Spec PyProof.Rows
noncomputable abbrev ZRec (h : Heap) (z p q : Addr) (m k : Value) : Prop := h.get? z = some { cls := .type "zip", dict := none, data := .fields #[m, k, .bool false, .ref p, .ref q], slots := #[] }
structure Zs (z p q u v l m : Addr) (r k a b : Value) (i j : Nat) (xs ys : Array Value) (h : Heap) : Prop where
 me : ZRec h z p q r k
 its : IsPair h p (.ref u) (.ref v)
 own : IsPair h q a b
 one : h.IsListIter u l i
 two : h.IsListIter v m j
 xl : h.IsList l xs
 yl : h.IsList m ys
noncomputable def Off (z q u v : Addr) (h h' : Heap) : Prop := ∀ c o, c ≠ z -> c ≠ q -> c ≠ u -> c ≠ v -> h.get? c = some o -> h'.get? c = some o
section
variable {z p q u v l m : Addr} {r k a b : Value} {i j n : Nat} {xs ys : Array Value} {h h' g : Heap}
theorem Off.refl : Off z q u v h h := fun _ _ _ _ _ _ e => e
theorem Off.then (A : Off z q u v h h') (B : Off z q u v h' g) : Off z q u v h g := fun c o a b d e x => B c o a b d e (A c o a b d e x)
end
inductive Mem : Value -> Prop
 | no : Mem .none
 | was (a : Int) (t : Tok) : Mem (.int a t)
end L2
namespace L2
open PySem PySem.Spec PyProof.Rows
inductive Laid2 : Hp -> List (V × V) -> List V -> Hp -> Prop
 | nil {G : Hp} : Laid2 G [] [] G
 | cons {G G' : Hp} {T : Addr} {x y : V} {ps : List (V × V)} {vs : List V} : G T = none -> Laid2 (upd G T (.tup [x, y])) ps vs G' -> Laid2 G ((x, y) :: ps) (.ref T :: vs) G'
end L2
namespace L2
open PySem PySem.Spec PyProof.Rows
end L2
namespace L2
open PySem PySem.Spec PyProof.Rows
structure Owns (K : PySem.W.Frag) (F G H : Hp) (ds : List Dat) (vs : List V) : Prop where
 len : vs.length = ds.length
 get : ∀ (k : Nat) (d : Dat), ds[k]? = some d -> ∃ a xs es, vs[k]? = some (.ref a) /\ d = .lst es /\ H a = some (.lst xs) /\ F a = none /\ G a = none /\ aB K F es xs
 ap : ∀ (j k : Nat) (a : Addr), vs[j]? = some (.ref a) -> vs[k]? = some (.ref a) -> j = k
section
variable {K : PySem.W.Frag} {F G H F' H' : Hp} {ds : List Dat} {vs : List V}
theorem Owns.back {G' : Hp} (o : Owns K F G H ds vs) (s : aY G' G) : Owns K F G' H ds vs where
 len := o.len
 get := fun k d e => by
  obtain ⟨a, xs, es, h1, h2, h3, h4, h5, h6⟩ := o.get k d e
  exact ⟨a, xs, es, h1, h2, h3, h4, s.free h5, h6⟩
 ap := o.ap
end
noncomputable def rowAt (rs : List Dat) (a : Int) : M (Nat × List Dat) := match ixN rs.length a with
 | some j => (match rs[j]? with
  | some (.lst es) => .ok (j, es)
  | _ => .error .stuck)
 | none => .error .stuck
noncomputable def setRow (rs : List Dat) (je : Nat × List Dat) (b : Int) (x : Dat) : M (List Dat) := match ixN je.2.length b with
 | some k => .ok (rs.set je.1 (.lst (je.2.set k x)))
 | none => .error .stuck
noncomputable def rows3 (i : Nat) (rs : List Dat) (x : Dat) (je : Nat × List Dat) (fB : ao -> M Dat) (ρ : ao) : M Flo := (fB (ρ.set i none)).bind fun b => (asI b).bind fun b => (setRow rs je b x).bind fun rs' => .ok (.nx (ρ.set i (some (.lst rs'))))
noncomputable def ij (i : Nat) (rs : List Dat) (x : Dat) (fA fB : ao -> M Dat) (ρ : ao) : M Flo := (fA (ρ.set i none)).bind fun a => (asI a).bind fun a => (rowAt rs a).bind fun je => rows3 i rs x je fB ρ
end L2
namespace L2
open PySem PySem.Spec PyProof.Rows
end L2
namespace L2
open PySem PySem.Spec PyProof.Rows
structure Ys (z p q u v l m : Addr) (r k a b : Value) (i j : Nat) (xs ys : Array Value) (h : Heap) : Prop where
 me : ZRec h z p q r k
 its : IsPair h p (.ref u) (.ref v)
 own : IsPair h q a b
 one : h.IsTupleIter u l i
 two : h.IsTupleIter v m j
 xl : h.IsTuple l xs
 yl : h.IsTuple m ys
end L2
namespace L2
open PySem PySem.Spec PyProof.Rows
structure RepR (K : PySem.W.Frag) (F0 H0 FB : Hp) (i : Nat) (a : Addr) (ys : List V) (rs : List Dat) (F H : Hp) (σ : St) (ρ : ao) : Prop where
 r : Rep K F0 H0 FB [] F H σ ρ
 sl : σ[i]? = some (some (.ref a))
 hp : H a = some (.lst ys)
 fa : F a = none
 ha : H0 a = none
 nm : ∀ m : Nat, ys[m]? ≠ some (.ref a)
 ow : Owns K F H0 H rs ys
section
variable {K : PySem.W.Frag} {F0 H0 FB F H F1 H1 : Hp} {i : Nat} {a : Addr} {ys : List V} {rs : List Dat} {σ : St} {ρ : ao}
theorem RepR.base {FB' : Hp} (h : RepR K F0 H0 FB i a ys rs F H σ ρ) (s : aY FB' FB) : RepR K F0 H0 FB' i a ys rs F H σ ρ := ⟨h.r.base s, h.sl, h.hp, h.fa, h.ha, h.nm, h.ow⟩
end
end L2
namespace L2
open PySem PySem.Spec PyProof.Rows
section
variable {κ : Type} [DecidableEq κ]
noncomputable def dropK (kvs : List (κ × V)) (k : κ) : List (κ × V) := kvs.filter fun kv => decide (kv.1 ≠ k)
theorem ui.getD {o : Option V} {u : Option Value} {d : V} {d' : Value} (r : ui o u) (rd : RelV d d') : RelV (o.getD d) (u.getD d') := by
 cases o with
 | none => cases u with
  | none => exact rd
  | some _ => exact (show False from r).elim
 | some _ => cases u with
  | none => exact (show False from r).elim
  | some _ => exact r
theorem KV.drop {kvs : List (κ × V)} {vs : List (κ × Value)} (r : KV kvs vs) (k : κ) : KV (dropK kvs k) (without vs k) := by
 unfold KV at r ⊢
 unfold dropK without
 induction r with
 | nil => exact .nil
 | @cons p q ps qs h t ih =>
  obtain ⟨h1, h2⟩ := h
  rw [List.filter_cons, List.filter_cons]
  by_cases e : p.1 = k
  ·have a : ¬ decide (p.1 ≠ k) = true := by simp [e]
   have b : ¬ decide (q.1 ≠ k) = true := by simp [h1.symm.trans e]
   rw [if_neg a, if_neg b]; exact ih
  ·have e' : ¬ q.1 = k := fun z => e (h1.trans z)
   have a : decide (p.1 ≠ k) = true := by simp [e]
   have b : decide (q.1 ≠ k) = true := by simp [e']
   rw [if_pos a, if_pos b]; exact .cons ⟨h1, h2⟩ ih
theorem KV.length {kvs : List (κ × V)} {vs : List (κ × Value)} (r : KV kvs vs) : kvs.length = vs.length := Paired.length r
end
structure M1 (X : Cx) (o : Expr) (m : Str) (apos : Pos) (e : Expr) (cpos : Pos) : Prop where
 base : attributeBase o m X.env (eval o X.env) = eval o X.env
 few : ((backTo cpos (starEach [e] X.env)).all (fun x => !x.1) && (backToKw cpos (keywordEach [] X.env)).all (fun x => x.1.isSome)
  && decide (([e] : List Expr).length + ([] : List Keyword).length + (if ([] : List Keyword).isEmpty then 0 else 1) < 30)) = true
 line : (apos.endLine == cpos.line) = true
 trees : backTo cpos (starEach [e] X.env) = [(false, eval e X.env)]
structure M2 (X : Cx) (o : Expr) (m : Str) (apos : Pos) (e f : Expr) (cpos : Pos) : Prop where
 base : attributeBase o m X.env (eval o X.env) = eval o X.env
 few : ((backTo cpos (starEach [e, f] X.env)).all (fun x => !x.1) && (backToKw cpos (keywordEach [] X.env)).all (fun x => x.1.isSome)
  && decide (([e, f] : List Expr).length + ([] : List Keyword).length + (if ([] : List Keyword).isEmpty then 0 else 1) < 30)) = true
 line : (apos.endLine == cpos.line) = true
 trees : backTo cpos (starEach [e, f] X.env) = [(false, eval e X.env), (false, eval f X.env)]
end L2
namespace L2
open PySem PySem.Spec PyProof.Rows
noncomputable def keysI (ks : List Int) : List (Key × V) := ks.map fun k => (Sum.inl k, .bl true)
structure RepK (K : PySem.W.Frag) (F0 H0 FB : Hp) (i : Nat) (a : Addr) (ks : List Int) (F H : Hp) (σ : St) (ρ : ao) : Prop where
 r : Rep K F0 H0 FB [] F H σ ρ
 sl : σ[i]? = some (some (.ref a))
 hp : H a = some (.dK (keysI ks))
 fa : F a = none
 ha : H0 a = none
end L2
namespace L2
open PySem PySem.Spec PyProof.Rows
structure ExA (h : Heap) (e : Addr) (C : Value) (dx hd : Option Addr) : Prop where
 ob : ∃ oe vs, h.get? e = some oe /\ oe.cls = C /\ oe.dict = dx /\ oe.data = .fields vs /\ vs[1]? = some (hd.elim Value.none Value.ref)
 tb : ∀ T, hd = some T -> T ≠ e /\ ∃ oT ts, h.get? T = some oT /\ oT.data = .fields ts /\ ts[3]? = some .none
theorem dictMapF (f : Array Value -> Array Value) (o : Obj) : (o.mapFields f).dict = o.dict := by
 obtain ⟨c, d, dt, sl⟩ := o
 cases dt <;> rfl
theorem size3 {l : List Value} (h : 3 < l.length) : 3 < l.toArray.size := by rw [List.size_toArray]; exact h
section
variable {M : Model} {A : Around} {E : Value -> Shared -> Prop} {s : Shared}
theorem mkEntry {hv fv lv : Value} {pl : List Value} {Q : Value -> Shared -> Prop} (hp : IsPlace pl) (h : ∀ (o : Obj) (ts : Array Value), o.data = .fields ts -> 3 < ts.size -> o.isFreed = false -> Q (.ref s.heap.objs.size) { s with heap := s.heap.push o }) :
  wpAny M A (EntryCells.newEntry hv fv .none lv .none pl) Q E s := by
 unfold EntryCells.newEntry newFields
 refine wpAny_newObj_type (h _ _ rfl (size3 ?_) ?_) (hp.sizeOk5 _ _ _ _ _)
 ·simp
 ·exact Obj.isFreed_of_fields rfl
structure Left (fs : List Addr) (e : Addr) (hd : Option Addr) (h h' : Heap) : Prop where
 keep : ∀ b o, h.get? b = some o -> b ∉ fs -> b ≠ e -> (∀ T, hd = some T -> b ≠ T) -> h'.get? b = some o
 slot : ∀ b o, h.get? b = some o -> b ∈ fs -> ∃ sl, h'.get? b = some { o with slots := sl }
 size : h.objs.size <= h'.objs.size
theorem entry_at {base : Heap} {env : Env} {outer : List Env} {L e : Addr} {C : Value} {dx : Option Addr} {oe : Obj} {vs : Array Value} {hv : Value} {bn : Bool} {Q : Unit -> Shared -> Prop}
  (hfr : A.frames = some (env :: outer)) (hl : s.heap.FunFrames base (env :: outer)) (hf : env.frame = some L) (he : s.heap.get? e = some oe) (hc : oe.cls = C) (hdx : oe.dict = dx) (hd : oe.data = .fields vs) (hs : 1 < vs.size)
  (h : ∀ h' T, ExA h' e C dx (some T) -> s.heap.objs.size <= T -> Left (frs (env :: outer)) e none s.heap h' -> Q () { s with heap := h' }) :
  wpAny M A (frameOf env >>= fun a => entryPlaceOf L bn >>= fun pl => EntryCells.newEntry hv a .none (rawInt L) .none pl >>= fun b => setField (.ref e) 1 b) (fun _ s' => wpAny M A (setFlight (.ref e) none) Q E s') E s := by
 have nfr : ∀ b o, b ∈ frs (env :: outer) -> s.heap.get? b = some o -> ∀ vs, o.data ≠ .fields vs := fun b o hm q => by
  obtain ⟨_, o', ho', n⟩ := hl.mem hm
  rw [q] at ho'
  cases ho'
  exact n
 have hne : e ∉ frs (env :: outer) := fun hm => nfr e oe hm he vs hd
 refine wpAny_bind (wpAny_frameOf_fun hfr hl hf fun h1 x1 => ?_)
 obtain ⟨z1, z2, z3⟩ := x1
 refine wpAny_bind (wpAny_entryPlaceOf fun pl hp => ?_)
 refine wpAny_bind (mkEntry hp fun o ts ho h3 hfo => ?_)
 have e1 : h1.get? e = some oe := by rw [z2 e hne]; exact he
 have n1 : h1.objs.size ≠ e := fun z => absurd (Heap.lt_size e1) (by rw [z]; exact Nat.lt_irrefl _)
 have e2 : (h1.push o).get? e = some oe := Heap.get?_push_of_some o e1
 have t2 : (h1.push o).get? h1.objs.size = some o := Heap.get?_push_size h1 hfo
 refine wpAny_setField e2 hd hs ?_
 have d3 := Obj.data_mapFields hd (·.setIfInBounds 1 (Value.ref h1.objs.size))
 have e3 := Heap.get?_update_self (h := h1.push o) (Obj.mapFields (·.setIfInBounds 1 (Value.ref h1.objs.size))) e2 (Obj.isFreed_of_fields d3)
 have t3 : ((h1.push o).update e (Obj.mapFields (·.setIfInBounds 1 (Value.ref h1.objs.size)))).get? h1.objs.size = some o := by
  rw [Heap.get?_update_other _ _ (Ne.symm n1)]
  exact t2
 unfold setFlight
 refine wpAny_bind (wpAny_field e3 d3 (x := .ref h1.objs.size) (by simp [hs]) ?_)
 rw [if_pos (by simp)]
 refine wpAny_setField t3 ho h3 ?_
 have dT := Obj.data_mapFields ho (·.setIfInBounds 3 ((none : Option Addr).elim Value.none fun f => rawInt f))
 refine h _ h1.objs.size ⟨⟨_, _, by rw [Heap.get?_update_other _ _ n1]; exact e3, by rw [Obj.cls_mapFields]; exact hc, by rw [dictMapF]; exact hdx, d3, by simp [hs]⟩, fun T hT => ?_⟩ (by rw [z1]; exact Nat.le_refl _) ⟨fun b o' q hb hbe _ => ?_, fun b o' q hb => ?_, ?_⟩
 ·cases hT
  exact ⟨n1, _, _, Heap.get?_update_self _ t3 (Obj.isFreed_of_fields dT), dT, by simp [h3]⟩
 ·have q1 : h1.get? b = some o' := by rw [z2 b hb]; exact q
  have nb : h1.objs.size ≠ b := fun z => absurd (Heap.lt_size q1) (by rw [z]; exact Nat.lt_irrefl _)
  rw [Heap.get?_update_other _ _ nb, Heap.get?_update_other _ _ (Ne.symm hbe)]
  exact Heap.get?_push_of_some o q1
 ·obtain ⟨sl, q1⟩ := z3 b o' q
  have nb : h1.objs.size ≠ b := fun z => absurd (Heap.lt_size q1) (by rw [z]; exact Nat.lt_irrefl _)
  have nbe : e ≠ b := fun z => hne (z ▸ hb)
  refine ⟨sl, ?_⟩
  rw [Heap.get?_update_other _ _ nb, Heap.get?_update_other _ _ nbe]
  exact Heap.get?_push_of_some o q1
 ·rw [Heap.size_update, Heap.size_update, Heap.size_push, z1]
  exact Nat.le_succ _
theorem leave2 {base : Heap} {env : Env} {outer : List Env} {L e : Addr} {C : Value} {dx hd : Option Addr} {Q : Unit -> Shared -> Prop}
  (hfr : A.frames = some (env :: outer)) (hl : s.heap.FunFrames base (env :: outer)) (hf : env.frame = some L) (x : ExA s.heap e C dx hd)
  (h : ∀ h' T, ExA h' e C dx (some T) -> s.heap.objs.size <= T -> Left (frs (env :: outer)) e hd s.heap h' -> Q () { s with heap := h' }) : wpAny M A (noteFrame (.ref e) env) (fun _ s' => wpAny M A (setFlight (.ref e) none) Q E s') E s := by
 obtain ⟨oe, vs, he, hc, hdx, hdt, h1⟩ := x.ob
 have hs : 1 < vs.size := (Array.getElem?_eq_some_iff.mp h1).1
 unfold noteFrame
 simp only [hf]
 cases hd with
 | none =>
  refine wpAny_bind (wpAny_field he hdt h1 ?_)
  rw [if_neg (by decide)]
  exact entry_at hfr hl hf he hc hdx hdt hs fun h' T a b c => h h' T a b c
 | some T =>
  obtain ⟨nTe, oT, ts, hT, hdT, h3⟩ := x.tb T rfl
  have hs3 : 3 < ts.size := (Array.getElem?_eq_some_iff.mp h3).1
  refine wpAny_bind (wpAny_field he hdt h1 ?_)
  rw [if_pos (by simp)]
  refine wpAny_bind (wpAny_field (x := .none) hT hdT h3 ?_)
  rw [if_neg (by simp [rawInt])]
  refine wpAny_bind (wpAny_setField hT hdT hs3 ?_)
  have oth : ∀ b, b ≠ T -> (s.heap.update T (Obj.mapFields (·.setIfInBounds 3 Value.none))).get? b = s.heap.get? b := fun b hb => Heap.get?_update_other _ _ (Ne.symm hb)
  have nT : ∀ b o, s.heap.get? b = some o -> (∀ vs, o.data ≠ .fields vs) -> b ≠ T := fun b o q n z => by
   subst z
   rw [hT] at q
   cases q
   exact n ts hdT
  refine entry_at hfr (hl.of_keeps fun b o q n => ⟨o, by rw [oth b (nT b o q n)]; exact q, rfl⟩) hf (by rw [oth e (Ne.symm nTe)]; exact he) hc hdx hdt hs fun h' T' a b c => ?_
  refine h h' T' a (by rw [Heap.size_update] at b; exact b) ⟨fun b' o q hb hbe hbT => c.keep b' o (by rw [oth b' (hbT T rfl)]; exact q) hb hbe (fun _ z => nomatch z), fun b' o q hb => ?_, ?_⟩
  ·obtain ⟨_, o', ho', n⟩ := hl.mem hb
   rw [q] at ho'
   cases ho'
   exact c.slot b' o (by rw [oth b' (nT b' o q n)]; exact q) hb
  ·have := c.size
   rw [Heap.size_update] at this
   exact this
theorem leave_at {base : Heap} {env : Env} {outer : List Env} {L e : Addr} {C : Value} {dx hd : Option Addr} {Q : Unit -> Shared -> Prop}
  (hfr : A.frames = some (env :: outer)) (hl : s.heap.FunFrames base (env :: outer)) (hf : env.frame = some L) (x : ExA s.heap e C dx hd)
  (h : ∀ h' T, ExA h' e C dx (some T) -> s.heap.objs.size <= T -> Left (frs (env :: outer)) e hd s.heap h' -> Q () { s with heap := h' }) : wpAny M A (leaving env (.ref e)) Q E s := by
 unfold leaving
 exact wpAny_bind (leave2 hfr hl hf x h)
end
end L2
namespace L2
open PySem PySem.Spec PyProof.Rows
structure CXs (P : Program) (w : World) (outer : List Env) (H : Hp) (s : Shared) (E : XK) (a T : Addr) (C : Value) (dx : Option Addr) (H' : Hp) (s' : Shared) : Prop where
 ex : ExA s'.heap a C dx (some T)
 na : s.heap.get? a = none
 nT : s.heap.get? T = none
 fa : H' a = none
 fT : H' T = none
 os : s'.os = s.os
 bare : AllBare s'.gens
 un : Un (frs outer) [] H H' s.heap s'.heap
 hok : HOk P w H' s'.heap
 want : E C dx H'
noncomputable def CXd (P : Program) (w : World) : CXT := fun outer H s E e s' => ∃ (a T : Addr) (C : Value) (dx : Option Addr) (H' : Hp), e = .ref a /\ CXs P w outer H s E a T C dx H' s'
theorem get_none {h : Heap} {a : Addr} (z : h.objs.size <= a) : h.get? a = none := by
 cases e : h.get? a with
 | none => rfl
 | some o => exact absurd (Heap.lt_size e) (Nat.not_lt.mpr z)
theorem Inv.mB {X : Cx} {pins : List (Addr × Obj)} {σ : St} {H : Hp} {s : Shared} {a : Addr} (I : Inv X pins σ H s) (hx : X.ex = []) (e : s.heap.get? a = none) : X.s₀.heap.get? a = none := by
 cases q : X.s₀.heap.get? a with
 | none => rfl
 | some o =>
  obtain ⟨o', z⟩ := I.base.there a o q (by rw [hx]; exact fun z => nomatch z)
  rw [e] at z
  cases z
theorem e6.is {P : Program} {w : World} {H : Hp} {h : Heap} {a : Addr} {o : HO} (x : e6 P w H h a o) : ∃ u, h.get? a = some u := by
 cases o with
 | lst xs => obtain ⟨_, _, _, _, e⟩ := x; exact ⟨_, e⟩
 | tup xs => obtain ⟨_, _, _, ob, e, _⟩ := x; exact ⟨_, e⟩
 | dK kvs => obtain ⟨_, _, _, _, o, _, _, e, _⟩ := x; exact ⟨_, e⟩
 | dT kvs => obtain ⟨_, _, _, _, o, _, _, e, _⟩ := x; exact ⟨_, e⟩
 | set S n => obtain ⟨o, _, _, _, e, _⟩ := x; exact ⟨_, e⟩
 | ins C dx fs => obtain ⟨_, _, _, e, _⟩ := x; exact ⟨_, e⟩
 | own y => exact x
 | xd fs => obtain ⟨_, ⟨_, _, _, e, _⟩, _⟩ := x; exact ⟨_, e⟩
 | rng lo hi => obtain ⟨_, _, _, e⟩ := x; exact ⟨_, e⟩
 | frz ob u => obtain ⟨e, _⟩ := x; exact ⟨_, e⟩
 | tbl ps => exact ⟨_, show h.get? a = some _ from x⟩
 | met f y => exact ⟨_, show h.get? a = some _ from x⟩
 | ext φ => obtain ⟨_, e, _⟩ := x; exact e
theorem HOk.off {P : Program} {w : World} {H : Hp} {h : Heap} {a : Addr} (x : HOk P w H h) (e : h.get? a = none) : H a = none := by
 cases q : H a with
 | none => rfl
 | some o =>
  obtain ⟨u, z⟩ := (x a o q).is
  rw [e] at z
  cases z
section
variable {P : Program} {w : World} {K : PySem.W.Frag} {mg : Str -> Option Value} {base : Heap} {N : List Str} {qual : Str} {scope : Scope} {f : Addr} {cd : Value} {A : Around} {outer : List Env} {s : Shared} {H : Hp} {E : XK}
theorem xe_of {pins : List (Addr × Obj)} {σ : St} {H' : Hp} {s' : Shared} {a : Addr} {C : Value} {dx hd : Option Addr} (J : Inv (xD (CXd P w) P w K mg base N qual scope f cd A outer s H E) pins σ H' s') (x : ExA s'.heap a C dx hd)
  (na : s.heap.get? a = none) (nT : ∀ T, hd = some T -> s.heap.get? T = none /\ H' T = none) (fa : H' a = none) (q : E C dx H') : (xD (CXd P w) P w K mg base N qual scope f cd A outer s H E).xe (.ref a) s' := by
 have e0 := J.env0
 have hfs : ∀ b ∈ frs (envOfC qual scope s.heap.objs.size f cd :: outer), H' b = none := e0.frf
 have old : ∀ b o, s.heap.get? b = some o -> b ≠ a /\ (∀ T, hd = some T -> b ≠ T) /\ b < s.heap.objs.size := fun b o e => by
  have hb := Heap.lt_size e
  exact ⟨fun z => (by subst z; rw [e] at na; cases na), fun T hT z => (by subst z; have := (nT _ hT).1; rw [e] at this; cases this), hb⟩
 have infs : ∀ b, b < s.heap.objs.size -> b ∈ frs (envOfC qual scope s.heap.objs.size f cd :: outer) -> b ∈ frs outer := fun b hb hm => by
  rcases List.mem_filterMap.mp hm with ⟨v, hv, e⟩
  rcases List.mem_cons.mp hv with z | z
  ·subst z
   have : s.heap.objs.size = b := by simpa [envOfC] using e
   omega
  ·exact List.mem_filterMap.mpr ⟨v, z, e⟩
 have outfs : ∀ b, b ∈ frs outer -> b ∈ frs (envOfC qual scope s.heap.objs.size f cd :: outer) := fun b hm => by
  rcases List.mem_filterMap.mp hm with ⟨v, hv, e⟩
  exact List.mem_filterMap.mpr ⟨v, List.mem_cons_of_mem _ hv, e⟩
 have base' : Un (frs outer) [] H H' s.heap s'.heap := J.base
 show wpAny (model P w) (A.deeper (envOfC qual scope s.heap.objs.size f cd)) (leaving (envOfC qual scope s.heap.objs.size f cd) (.ref a)) (fun _ s'' => CXd P w outer H s E (.ref a) s'') (fun e' s'' => CXd P w outer H s E e' s'') s'
 refine leave_at (base := base) e0.frames e0.sP rfl x fun h' T x' hT lf => ⟨a, T, C, dx, H', rfl, x', na, get_none (Nat.le_trans (show s.heap.objs.size <= s'.heap.objs.size from J.sz) hT), fa, ?_, J.os, J.bare, ?_, ?_, q⟩
 ·exact J.hok.fresh hT
 ·have uP : ∀ b o, s.heap.get? b = some o -> ∀ o', s'.heap.get? b = some o' -> b ∉ frs outer -> h'.get? b = some o' := fun b o e o' e' hb => by
   obtain ⟨z1, z2, z3⟩ := old b o e
   exact lf.keep b o' e' (fun z => hb (infs b z3 z)) z1 z2
  refine ⟨fun b o e n hb hx => uP b o e o (base'.keep b o e n hb hx) hb, fun b o e n hb hx => ?_, base'.free, fun b o e hx => ?_, base'.tups, base'.frzs, base'.tbls⟩
  ·obtain ⟨sl, e1⟩ := base'.slot b o e n hb hx
   obtain ⟨sl2, e2⟩ := lf.slot b _ e1 (outfs b hb)
   exact ⟨sl2, e2⟩
  ·obtain ⟨o', e1⟩ := base'.there b o e hx
   by_cases hb : b ∈ frs outer
   ·obtain ⟨sl, e2⟩ := lf.slot b o' e1 (outfs b hb)
    exact ⟨_, e2⟩
   ·exact ⟨o', uP b o e o' e1 hb⟩
 ·intro b o e
  refine (J.hok b o e).uP (fun c u hc e1 => ?_) (fun _ z => z) fun _ _ z => z
  have hcn : H' c ≠ none := by
   rcases hc with z | z
   ·rw [z, e]; exact fun z => nomatch z
   ·rw [z]; exact fun z => nomatch z
  exact lf.keep c u e1 (fun z => hcn (hfs c z)) (fun z => hcn (by rw [z]; exact fa)) fun T hT z => hcn (by rw [z]; exact (nT T hT).2)
theorem passD : Passes (CXd P w) (xD (CXd P w) P w K mg base N qual scope f cd A outer s H E) E := by
 rintro pins σ H1 s1 e s' I ⟨a, T, C, dx, H', rfl, z⟩
 have J := I.call' z.os z.un z.hok z.bare (fun _ h => nomatch h)
 exact xe_of J z.ex (I.mB rfl z.na) (fun T' hT => by cases hT; exact ⟨I.mB rfl z.nT, z.fT⟩) z.fa z.want
end
end L2
namespace L2
open PySem PySem.Spec PyProof.Rows
theorem exc_obj {K : PySem.W.Frag} {h : Heap} {C : Addr} {bmB : List Value} {newId : String} (X : K.In h) (q : PySem.W.excIn K C bmB newId = true) :
  ∃ tl N nm qn bs hdct sn sub ab col dd k0 k1 k2 k3 k5 mN, h.get? C = some (excClassObj nm qn C N bs tl hdct sn sub ab col dd k0 k1 k2 k3 k5 newId) /\ h.Ns N mN /\ mN "__init__" = none /\ OwnTail h bmB tl := by
 unfold PySem.W.excIn at q
 split at q
 next dd cd sl ho =>
  split at q
  next C' tl k0 k1 k2 k3 n k5 hm hs =>
   show 'պ'
   obtain ⟨⟨⟨⟨⟨a1, a2⟩, a3⟩, a4⟩, a5⟩, a6⟩ := q
   have b1 : C' = C := beq_iff_eq.mp a1
   have b2 : n = newId := beq_iff_eq.mp a2
   have b3 : del = false := by cases del <;> first | rfl | cases a3
   show 'ո'
   exact ⟨tl, c4, c1, c5, c2, c6, c7, c8, c9, c10, dd, k0, k1, k2, k3, k5, _, X _ _ ho, .of_isNs (PySem.W.isNs_of_in X a5), PySem.W.nsMap_none_of_in X a5 (beq_iff_eq.mp a6), PySem.W.tail_of_in X a4⟩
  next => cases q
 next => cases q
noncomputable def XEq (X : Cx) (E : XK) (C : Addr) : Prop := ∀ (pins : List (Addr × Obj)) (σ : St) (H : Hp) (s' : Shared) (a : Addr), Inv X pins σ H s' -> ExA s'.heap a (.ref C) none none -> X.s₀.heap.get? a = none -> H a = none -> E (.ref C) none H -> X.xe (.ref a) s'
noncomputable def tRaise (te : TE) (C : Addr) (E : XK) : TS := fun _ σ H => te σ H fun _ H1 => E (.ref C) none H1
section
variable {X : Cx} {E : XK} {C : Addr} {x : Str} {e : Expr} {te : TE} {np cpos pos : Pos} {B newId initId : String} {bmB : List Value}
theorem ps_raise (FB : ExcBaseFacts B newId initId bmB) (hx : XEq X E C) (he : PE X e te) (hg : Gl X x) (hm : X.mg x = some (.ref C)) (hC : PySem.W.excIn X.K C bmB newId = true) (hh : X.A.handled = none) (hex : X.ex = [] := by rfl)
  (hdb : (x == ("__debug__" : Str)) = false := by decide) (hst : starEach [e] X.env = [(false, eval e X.env)] := by rfl) : PS X (.Raise (some (.Call (.Name x np) [e] [] cpos)) none pos) (tRaise te C E) := by
 show 'Փ'
 obtain ⟨tl, N, nm, qn, bs, hdct, sn, sub, ab, col, dd, k0, k1, k2, k3, k5, mN, o1, o2, o3, o4⟩ := exc_obj I.mod.kin hC
 refine wpAny_Raise_call_subT FB (C := C) (nm := nm) (q := qn) (N := N) (bs := bs) (bm := tl) (hdct := hdct) (sn := sn) (sub := sub) (ab := ab) (col := col) (dd := dd) (k0 := k0) (k1 := k1) (k2 := k2) (k3 := k3) (k5 := k5) (mN := mN)
  (o4.hasType FB.hasBase) hh (by rw [hst]; rfl) o3 (gy I hg hm ⟨rfl, ?_⟩ hdb)
 rw [hst]
 refine Calls.evalArgs_plain (Calls.spliced_cons (thn (he pins s σ H _ I h) fun v s1 ⟨y, H1, I1, ry, q1⟩ => Calls.spliced_nil ⟨rfl, ?_, I1.bk _ _ o1, o2.keeps I1.bk, o4.keeps I1.bk, fun h' e hm => ?_⟩))
 ·have := sizeLine_eq
  show 1 <= sizeLine
  omega
 ·obtain ⟨t, z1, z2, z3⟩ := hm.there
  have J : Inv X pins σ H1 { s1 with heap := h' } := I1.kept (t' := s1.toks) hm.keeps
  exact hx pins σ H1 _ e J ⟨⟨_, _, z1, rfl, rfl, rfl, rfl⟩, fun T hT => nomatch hT⟩ (I1.mB hex hm.new) (I1.hok.off hm.new) q1
end
section
variable {P : Program} {w : World} {K : PySem.W.Frag} {mg : Str -> Option Value} {base : Heap} {N : List Str} {qual : Str} {scope : Scope} {f : Addr} {cd : Value} {A : Around} {outer : List Env} {s : Shared} {H : Hp} {E : XK} {C : Addr}
theorem xeqD : XEq (xD (CXd P w) P w K mg base N qual scope f cd A outer s H E) E C := fun _ _ _ _ _ J x na fa q => xe_of J x na (fun T hT => nomatch hT) fa q
end
end L2
namespace L2
open PySem PySem.Spec PyProof.Rows
noncomputable def WE (K : PySem.W.Frag) (E : XK) : gF where
 p := fun e F H => match e with
  | .stuck => False
  | .exc C fs => ∀ F' H', Step F H F' H' -> match fs with
   | [] => E (.ref C) none H'
   | fs => ∀ d gs, F' d = some (.xd gs) -> pK K F' fs gs -> E (.ref C) (some d) H'
 mono := fun {e F H F' H'} h s => by
  cases e with
  | stuck => exact h
  | exc C fs => exact fun F2 H2 s2 => h F2 H2 (s.trans s2)
 ns := fun h => h
noncomputable def noX {α : Type} : M α -> M α
 | .ok d => .ok d
 | .error _ => .error .stuck
@[simp] theorem noX_ok {α : Type} (d : α) : noX (.ok d : M α) = .ok d := id rfl
noncomputable def xB {α : Type} (f : ao -> M α) : ao -> M α := fun ρ => noX (f ρ)
@[simp] theorem e_fNoX {α : Type} (f : ao -> M α) (ρ : ao) : xB f ρ = noX (f ρ) := id rfl
section
variable {K : PySem.W.Frag} {W : gF} {X : Cx} {own ro : Bool} {OL O O' : List Nat}
theorem dt_lift {e : Expr} {f : ao -> M Bool} (h : DT K Wno X.nox e f) : DT K W X e (xB f) := PT.imp (PT.nox h) fun σ H Q ⟨F, ρ, r, s, p⟩ => by
 show 'ց'
 have p : match noX (f ρ) with
  | .ok b => ∀ F' H', Step F H F' H' -> Q b H'
  | .error e => W.p e F H := p
 cases e : f ρ with
 | ok d => rw [e] at p; exact p
 | error x => rw [e] at p; exact (W.ns p).elim
theorem oo {st : List Stmt} {g : ao -> M Flo} (h : DSs K Wno ro X.nox OL O O' st g) : DSs K W ro X OL O O' st (xB g) := fun F0 H0 => PSs.imp (PSs.nox (h F0 H0)) fun D σ H ⟨FB, F, ρ, r, p⟩ => by
 show 'փ'
 cases e : g ρ with
 | ok fl =>
  rw [e] at p
  cases fl <;> exact p
 | error x => rw [e] at p; exact (W.ns p).elim
end
noncomputable def sExc (C : Addr) : ao -> M Flo := fun _ => .error (.exc C [])
@[simp] theorem e_sExc (C : Addr) (ρ : ao) : sExc C ρ = .error (.exc C []) := id rfl
section
variable {K : PySem.W.Frag} {X : Cx} {ro : Bool} {OL O O' : List Nat} {E : XK} {C : Addr} {x : Str} {np cpos pos p1 : Pos} {B newId initId : String} {bmB : List Value} {t : Str} {j1 : Nat}
theorem ds_raise {j1} (FB : ExcBaseFacts B newId initId bmB) (hx : XEq X E C) (hm : X.mg x = some (.ref C)) (hC : PySem.W.excIn X.K C bmB newId = true) (hh : X.A.handled = none) (hg : Gl X x := by rfl) (hex : X.ex = [] := by rfl)
  (hdb : (x == ("__debug__" : Str)) = false := by decide) (hst : starEach [.Constant (.str t) j1 p1] X.env = [(false, eval (.Constant (.str t) j1 p1) X.env)] := by rfl) :
  DS K (WE K E) ro X OL O O' (.Raise (some (.Call (.Name x np) [.Constant (.str t) j1 p1] [] cpos)) none pos) (sExc C) := fun F0 H0 => PS.imp (ps_raise FB hx pe_str hg hm hC hh hex hdb hst) fun D σ H ⟨FB', F, ρ, r, p⟩ => by
 have q : (WE K E).p (.exc C []) F0 H0 := p
 exact q F H r.st
end
noncomputable def spX (K : PySem.W.Frag) (ro : Bool) (g : List Dat -> M Dat) (n : Nat) : Sp := fun vs H Q E => ∃ F ds, aY F H /\ aB K F ds vs /\ ds.length = n /\ aI K (WE K E) ro F H (g ds) Q
section
variable {X : Cx} {K : PySem.W.Frag} {ro : Bool} {x : Str} {e : Expr} {es : List Expr} {fr : ao -> M (List Dat)} {p pos : Pos} {E : XK} {CX : CXT}
theorem wB {k nN n : Nat} {fad : Addr} {fd : FuncData} {ps : List Str} {g : ao -> M Flo} (F : cJ X.prog X.w X.K X.mg X.base CX k fad fd ps (spX K ro (bW nN n g) n)) (hx : Passes CX X E) (hr : jJ k X.A) (hm : X.mg x = some (.ref fad)) (hk : keepIn X.K (.ref fad) = true) (hb : Binds X.K fd ps [])
  (ha : DA K (WE K E) X (e :: es) fr) (hg : Gl X x := by rfl) (hdb : (x == ("__debug__" : Str)) = false := by decide) (hst : starEach (e :: es) X.env = (false, eval e X.env) :: starEach es X.env := by rfl) (hpl : (backTo pos (starEach es X.env)).any (·.1) = false := by rfl) :
  DE K (WE K E) ro X (.Call (.Name x p) (e :: es) [] pos) (fL (bW nN n g) fr) := by
 refine PE.imp (oM F hr hg hm hk hb .nil hx ha hdb hst hpl) fun σ H Q h => ?_
 show 'Հ'
 cases e1 : fr ρ with
 | error z => rw [e1] at p; exact p
 | ok ds =>
  show 'Ւ'
  show spX K ro (bW nN n g) n (vs ++ []) H' Q E
  rw [List.append_nil]
  by_cases hl : es1.length = n
  ·exact ⟨F1, es1, s1, q1, hl, z⟩
  ·rw [mF hl] at z
   exact aI.stuck z
end
section
variable {P : Program} {w : World} {K : PySem.W.Frag} {mg : Str -> Option Value} {base : Heap}
theorem fn_X {x qual : Str} {st : Stmt} {f : Addr} {fd : FuncData} {N ps : List Str} {k : Nat} {O' : List Nat} (F : Fun K x qual st f fd) (S : aH N ps (aq st)) (ro : Bool) (g : ao -> M Flo)
  (hb : ∀ (cdv : Value) (A : Around) (outer : List Env) (s : Shared) (H : Hp) (E : XK), jJ k (A.deeper (envOfC qual (aq st) s.heap.objs.size f cdv)) ->
   DSs K (WE K E) ro (xD (CXd P w) P w K mg base N qual (aq st) f cdv A outer s H E) [] [] O' (cm st) g) : cJ P w K mg base (CXd P w) (k + 1) f fd ps (spX K ro (bW N.length ps.length g) ps.length) := by
 show 'ձ'
 refine fn_of lk hcd S (fun vs H Q E ⟨F, ds, s, q, l, p⟩ => by rw [q.length, l]) fun A outer s H vs Q E hr ⟨F1, ds, s1, q, l, p⟩ => ⟨_, hb cdv A outer s H E hr F1 H, F1, F1, ds.map some ++ List.replicate (N.length - ds.length) none, ?_, ?_⟩
 ·refine ⟨Step.refl s1, aY.refl _, ?_, fun i d e _ => t7 q e, (fun i d e h => nomatch h), (fun i j ds es a h => nomatch h)⟩
  unfold start
  show 'ճ'
 ·have e1 : bW N.length ps.length g ds = (g (ds.map some ++ List.replicate (N.length - ds.length) none)).bind fun fl => match fl with
   | .nx _ => .ok .non
   | .rt d => .ok d
   | _ => stk := by
    unfold bW
    exact if_pos l
  rw [e1] at p
  cases e2 : g (ds.map some ++ List.replicate (N.length - ds.length) none) with
  | error z => rw [e2] at p; exact p
  | ok fl =>
   rw [e2] at p
   cases fl with
   | nx ρ => exact fun σ F H r => p .non F H r.st (by cases ro <;> rfl)
   | rt d => exact fun v F H st q => p v F H st q
   | bk ρ => exact aI.stuck p
   | ct ρ => exact aI.stuck p
end
end L2
namespace L2
open PySem PySem.Spec PyProof.Rows
section
variable {X : Cx} {pins : List (Addr × Obj)} {σ : St} {H : Hp} {s : Shared} {a : Addr} {C : Value} {dx hd : Option Addr}
structure Apart (X : Cx) (pins : List (Addr × Obj)) (H : Hp) (s : Shared) (a : Addr) (hd : Option Addr) : Prop where
 na : X.s₀.heap.get? a = none
 fa : H a = none
 pa : ∀ p ∈ X.pn ++ pins, p.1 ≠ a
 nT : ∀ T, hd = some T -> X.s₀.heap.get? T = none /\ H T = none /\ ∀ p ∈ X.pn ++ pins, p.1 ≠ T
theorem Inv.left {h' : Heap} (I : Inv X pins σ H s) (hx : X.ex = []) (x : ExA s.heap a C dx hd) (ap : Apart X pins H s a hd) (lf : Left (frs X.stack) a hd s.heap h') : Inv X pins σ H { s with heap := h' } := by
 have e0 := I.env0
 obtain ⟨oe, vs, he, _, _, hdt, _⟩ := x.ob
 have nof : ∀ b o, s.heap.get? b = some o -> (∀ vs, o.data ≠ .fields vs) -> b ≠ a /\ ∀ T, hd = some T -> b ≠ T := fun b o e n => by
  refine ⟨fun z => ?_, fun T hT z => ?_⟩
  ·subst z
   rw [he] at e
   cases e
   exact n vs hdt
  ·subst z
   obtain ⟨_, oT, ts, h1, h2, _⟩ := x.tb _ hT
   rw [h1] at e
   cases e
   exact n ts h2
 have stk : ∀ b ∈ frs X.stack, H b = none := e0.frf
 have any : ∀ b o, s.heap.get? b = some o -> (∀ vs, o.data ≠ .fields vs) -> ∃ sl, h'.get? b = some { o with slots := sl } := fun b o e n => by
  obtain ⟨z1, z2⟩ := nof b o e n
  by_cases hb : b ∈ frs X.stack
  ·exact lf.slot b o e hb
  ·exact ⟨o.slots, lf.keep b o e hb z1 z2⟩
 have old : ∀ b o, X.s₀.heap.get? b = some o -> b ≠ a /\ ∀ T, hd = some T -> b ≠ T := fun b o e =>
  ⟨fun z => (by subst z; rw [ap.na] at e; cases e), fun T hT z => (by subst z; rw [(ap.nT _ hT).1] at e; cases e)⟩
 have up : s.heap.UpToSlots h' := any
 have loc0 : X.s₀.heap.get? X.env.locals = none := get_none I.ok.above
 have out : ∀ b, b ≠ X.env.locals -> b ∉ X.fs -> b ∉ frs X.stack := fun b h1 h2 h3 => by
  rcases List.mem_cons.mp (I.ql b h3) with z | z
  ·exact h1 z
  ·exact h2 z
 have cel : ∀ c v, s.heap.IsCell c v -> h'.IsCell c v := fun c v ⟨o, h1, h2⟩ => by
  obtain ⟨sl, z⟩ := any c o h1 (fun vs q => by rw [h2] at q; cases q)
  exact ⟨_, z, h2⟩
 refine ⟨I.ok, I.os, I.bare, ?_, ?_, fun x c e => ?_, I.free, I.freeC, fun p hp => ?_, ?_, I.len⟩
 ·have go : ∀ b o, X.s₀.heap.get? b = some o -> ∀ o', s.heap.get? b = some o' -> ∃ sl, h'.get? b = some { o' with slots := sl } := fun b o e o' e' => by
   obtain ⟨z1, z2⟩ := old b o e
   by_cases hb : b ∈ frs X.stack
   ·exact lf.slot b o' e' hb
   ·exact ⟨o'.slots, lf.keep b o' e' hb z1 z2⟩
  refine ⟨fun b o e n hb hx' => ?_, fun b o e n hb hx' => ?_, I.base.free, fun b o e hx' => ?_, I.base.tups, I.base.frzs, I.base.tbls⟩
  ·obtain ⟨z1, z2⟩ := old b o e
   exact lf.keep b o (I.base.keep b o e n hb hx') (out b (fun z => by rw [z, loc0] at e; cases e) hb) z1 z2
  ·obtain ⟨sl, e1⟩ := I.base.slot b o e n hb hx'
   obtain ⟨sl2, e2⟩ := go b o e _ e1
   exact ⟨sl2, e2⟩
  ·obtain ⟨o', e1⟩ := I.base.there b o e hx'
   obtain ⟨sl2, e2⟩ := go b o e _ e1
   exact ⟨_, e2⟩
 ·obtain ⟨m, hn, hl⟩ := I.loc
  refine ⟨m, up.ns hn, fun i x v e1 e2 e3 => ?_⟩
  obtain ⟨u, r, lk⟩ := hl i x v e1 e2 e3
  refine ⟨u, r, ?_⟩
  rcases lk with z | ⟨z, c, c1, c2⟩
  ·exact .inl z
  ·exact .inr ⟨z, c, c1, cel c _ c2⟩
 ·obtain ⟨v, z⟩ := I.cell x c e
  exact ⟨v, cel c v z⟩
 ·obtain ⟨p1, p2, p3, p4, p5⟩ := I.pin p hp
  exact ⟨lf.keep p.1 p.2 p1 (out p.1 p3 p4) (ap.pa p hp) fun T hT => (ap.nT T hT).2.2 p hp, p2, p3, p4, p5⟩
 ·intro b o e
  refine (I.hok b o e).uP (fun c u hc e1 => ?_) (fun _ z => z) fun _ _ z => z
  have hcn : H c ≠ none := by
   rcases hc with z | z
   ·rw [z, e]; exact fun z => nomatch z
   ·rw [z]; exact fun z => nomatch z
  exact lf.keep c u e1 (fun z => hcn (stk c z)) (fun z => hcn (by rw [z]; exact ap.fa)) fun T hT z => hcn (by rw [z]; exact (ap.nT T hT).2.1)
end
noncomputable def PEat (X : Cx) (pins : List (Addr × Obj)) (σ : St) (e : Expr) (t : TE) : Prop := ∀ (s : Shared) (H : Hp) (Q : VK), Inv X pins σ H s -> t σ H Q -> wpAny (model X.prog X.w) X.A (eval e X.env) (EP X pins σ Q) X.xe s
noncomputable def PSat (X : Cx) (pins : List (Addr × Obj)) (σ : St) (st : Stmt) (t : TS) : Prop := ∀ (s : Shared) (H : Hp) (D : Ends), Inv X pins σ H s -> t D σ H -> wpAny (model X.prog X.w) X.A (exec st X.env) (SP X pins D) X.xe s
noncomputable def PSsAt (X : Cx) (pins : List (Addr × Obj)) (σ : St) (st : List Stmt) (t : TS) : Prop := ∀ (s : Shared) (H : Hp) (D : Ends), Inv X pins σ H s -> t D σ H -> wpAny (model X.prog X.w) X.A (execs st X.env) (SP X pins D) X.xe s
noncomputable def mZ (CX : CXT) (X : Cx) (pins : List (Addr × Obj)) (σ : St) (E : XK) : Prop := ∀ (H : Hp) (s : Shared) (e : Value) (s' : Shared), Inv X pins σ H s -> CX X.stack H s E e s' -> X.xe e s'
section
variable {X : Cx} {pins : List (Addr × Obj)} {σ : St} {st : Stmt} {t u : TS} {pos : Pos}
theorem at_one (h : PSat X pins σ st t) : PSsAt X pins σ [st] t := fun s H D I q => by
 refine wpAny_execs_cons (thn (h s H D I q) fun f s1 z => ?_)
 cases f with
 | next => exact wpAny_execs_nil z
 | _ => exact z
theorem at_expr {e : Expr} {te : TE} (he : PEat X pins σ e te) (hs : swapsWith e none pos.line X.env = pure false := by rfl) : PSat X pins σ (.Expr e pos) (tDrop te) := fun s H D I q =>
 wpAny_Expr_any (thn (he s H _ I q) fun v s1 ⟨x, H1, I1, r1, q1⟩ => ⟨σ, H1, I1, q1⟩) I.quiet hs
end
section
variable {X : Cx} {pins : List (Addr × Obj)} {σ : St} {CX : CXT} {k : Nat} {f C : Addr} {fd : FuncData} {ps : List Str} {sp : Sp} {dvs : List V} {ds : List Value} {E : XK} {x m : Str} {p pos apos : Pos} {e o : Expr} {es : List Expr} {ta : TE} {t : TA}
theorem at_run {H : Hp} {s : Shared} {Q : VK} {us : List Value} {vs : List V} (F : cJ X.prog X.w X.K X.mg X.base CX k f fd ps sp) (hr : jJ k X.A) (hb : Binds X.K fd ps ds) (hd : Vals dvs ds) (hx : mZ CX X pins σ E)
  (I : Inv X pins σ H s) (r : Vals vs us) (h : sp (vs ++ dvs) H Q E) : wpAny (model X.prog X.w) X.A (call (.ref f) us) (EP X pins σ Q) X.xe s := by
 have v2 := r.append hd
 refine wpAny_call (codeAny_mono (F.run _ _ s H ⟨us, []⟩ _ _ Q E hr I.env0 (hb s us I.kIn (v2.length.symm.trans (F.len _ _ _ _ h))) v2 h) fun z s' hq => ?_)
 cases z with
 | error e => exact hx H s e s' I hq
 | ok fl =>
  cases fl with
  | ret u => exact I.after hq
  | _ => exact False.elim hq
theorem at_call (F : cJ X.prog X.w X.K X.mg X.base CX k f fd ps sp) (hx : mZ CX X pins σ E) (hr : jJ k X.A) (hm : X.mg x = some (.ref f)) (hk : keepIn X.K (.ref f) = true) (hb : Binds X.K fd ps ds) (hd : Vals dvs ds) (ha : PA X (e :: es) t) (hg : Gl X x := by rfl)
  (hdb : (x == ("__debug__" : Str)) = false := by decide) (he : starEach (e :: es) X.env = (false, eval e X.env) :: starEach es X.env := by rfl) (hpl : (backTo pos (starEach es X.env)).any (·.1) = false := by rfl) :
  PEat X pins σ (.Call (.Name x p) (e :: es) [] pos) (tCall sp dvs E t) := fun s H Q I q =>
 wpAny_Call_Name_kw (gy I hg hm (callWith_K (h₀ := X.base) I.ok.mod.kin hk (thn (ha pos pins s σ H _ I q) fun us s1 ⟨vs, H1, I1, r, q1⟩ => ⟨I1.kIn, at_run F hr hb hd hx I1 r q1⟩) he hpl) hdb)
end
end L2
namespace L2
open PySem PySem.Spec PyProof.Rows
section
variable {X : Cx} {pins : List (Addr × Obj)} {σ : St} {H : Hp} {s : Shared}
theorem Inv.names {h' : Heap} {m : Str -> Option Value} {σ' : St} (I : Inv X pins σ H s) (hn : h'.Ns X.env.locals m) (hs : Heap.SameBut X.env.locals s.heap h') (hl : σ'.length = X.N.length)
  (hv : ∀ (i : Nat) (x : Str) (v : V), X.N[i]? = some x -> σ'[i]? = some (some v) -> Vis X.env.scope x -> ∃ u, RelV v u /\ Look X.env s.heap m x u) : Inv X pins σ' H { s with heap := h' } := by
 have far : ∀ b o, X.s₀.heap.get? b = some o -> b ≠ X.env.locals := fun b o e z => by
  subst z
  exact absurd (Heap.lt_size e) (Nat.not_lt.mpr I.ok.above)
 have cel : ∀ x c v, X.env.cells.lookup x = some c -> s.heap.IsCell c v -> h'.IsCell c v := fun x c v e z => z.sameBut hs (I.cne x c e)
 refine ⟨I.ok, I.os, I.bare, ⟨fun b o e n hb hx => ?_, fun b o e n hb hx => ?_, I.base.free, fun b o e hx => ?_, I.base.tups, I.base.frzs, I.base.tbls⟩, ⟨m, hn, fun i x v e1 e2 e3 => ?_⟩, fun x c e => ?_, I.free, I.freeC, fun p hp => ?_, fun b o e => ?_, hl⟩
 ·show h'.get? b = _
  rw [hs.2 b (far b o e)]; exact I.base.keep b o e n hb hx
 ·obtain ⟨sl, z⟩ := I.base.slot b o e n hb hx
  refine ⟨sl, ?_⟩
  show h'.get? b = _
  rw [hs.2 b (far b o e)]; exact z
 ·obtain ⟨o', z⟩ := I.base.there b o e hx
  refine ⟨o', ?_⟩
  show h'.get? b = _
  rw [hs.2 b (far b o e)]; exact z
 ·obtain ⟨u, r, lk⟩ := hv i x v e1 e2 e3
  refine ⟨u, r, ?_⟩
  rcases lk with z | ⟨z, c, c1, c2⟩
  ·exact .inl z
  ·exact .inr ⟨z, c, c1, cel x c _ c1 c2⟩
 ·obtain ⟨v, z⟩ := I.cell x c e
  exact ⟨v, cel x c v e z⟩
 ·obtain ⟨p1, p2, p3, p4, p5⟩ := I.pin p hp
  refine ⟨?_, p2, p3, p4, p5⟩
  show h'.get? p.1 = _
  rw [hs.2 p.1 p3]; exact p1
 ·refine (I.hok b o e).uP (fun c u hc e1 => ?_) (fun _ z => z) fun _ _ z => z
  show h'.get? c = _
  rw [hs.2 c fun z => ?_]
  ·exact e1
  ·rcases hc with y | y
   ·rw [<- y, z, I.free] at e; cases e
   ·rw [z, I.free] at y; cases y
theorem za {M : Model} {A : Around} {E : Value -> Shared -> Prop} {i : Nat} {x : Str} {pos : Pos} {Q : Unit -> Shared -> Prop} (I : Inv X pins σ H s) (hN : X.N.Nodup) (hi : X.N[i]? = some x) (hk : X.env.scope.names.lookup x = some .local)
  (h : ∀ s', Inv X pins (σ.set i none) H s' -> Q () s') : wpAny M A (do bindName X.env x .none; unbindBehindTheSuite X.env x pos) Q E s := by
 have hcls : (X.env.scope.kind == .class || (X.env.scope.kind == .module && X.env.locals != X.env.globals)) = false := by rw [I.ok.kind]; rfl
 have hil : i < σ.length := by rw [I.len]; exact (List.getElem?_eq_some_iff.mp hi).1
 refine wpAny_bind (wpAny_bindName (og I hN hi (.inl hk) (v := .non) rfl (fun s1 I1 => ?_) (.inr hk)))
 unfold unbindBehindTheSuite
 refine wpAny_onRaise ?_
 obtain ⟨m, hn, hl⟩ := id I1.loc
 obtain ⟨u, _, lk⟩ := hl i x .non hi (by rw [List.getElem?_set_self hil]) (.inl hk)
 have hmx : m x = some u := by
  rcases lk with z | ⟨z, _⟩
  ·exact z.2
  ·have hkk : X.env.kindOf x = some .local := hk
   rw [hkk] at z
   rcases z with z | z <;> cases z
 refine wpAny_unbindName_local hk hn hmx hcls fun h' u' hn' hs => h _ (I1.names hn' hs (by rw [List.length_set]; exact I.len) fun j y v e1 e2 e3 => ?_)
 have hij : i ≠ j := fun z => by
  subst z
  rw [List.getElem?_set_self hil] at e2
  cases e2
 rw [List.getElem?_set_ne hij] at e2
 obtain ⟨w, r, lk⟩ := hl j y v e1 (by rw [List.getElem?_set_ne hij]; exact e2) e3
 refine ⟨w, r, ?_⟩
 rcases lk with ⟨z1, z2⟩ | z
 ·have hyx : y ≠ x := fun z => hij (rR hN hi (z ▸ e1))
  exact .inl ⟨z1, by simp [hyx, z2]⟩
 ·exact .inr z
end
end L2
namespace L2
open PySem PySem.Spec PyProof.Rows
noncomputable def XNamed (K : PySem.W.Frag) (C : Addr) (bmB : List Value) : Prop := ∀ h : Heap, K.In h -> ∃ tl N nm qn bs hdct sn sub ab col dd k0 k1 k2 k3 k5 newId, h.get? C = some (excClassObj nm qn C N bs tl hdct sn sub ab col dd k0 k1 k2 k3 k5 newId) /\ OwnTail h bmB tl
noncomputable abbrev Cx.hand (X : Cx) (a : Addr) (oe : Obj) : Cx := { X with A := X.A.mark (some (.ref a)), calm := false, xe := fun _ _ => False, pn := (a, oe) :: X.pn }
section
variable {X : Cx} {pins : List (Addr × Obj)} {σ : St} {H : Hp} {s : Shared} {a T : Addr} {C : Value} {dx : Option Addr} {oe : Obj}
theorem Inv.hand {vs : Array Value} (I : Inv X pins σ H s) (he : s.heap.get? a = some oe) (hd : oe.data = .fields vs) (na : X.s₀.heap.get? a = none) (fa : H a = none) : Inv (X.hand a oe) pins σ H s := by
 have ok := I.ok
 refine ⟨⟨ok.mod, ok.kind, ok.glob, ok.blt, ok.above, ok.inj, ok.has, ok.cab, (fun z => nomatch z), ok.frames, ok.stk, ok.exf, ok.bs, ok.bsz, ok.noex, ok.exfs, ok.sP, ok.frf⟩, I.os, I.bare, I.base, I.loc, I.cell, I.free, I.freeC, fun p hp => ?_, I.hok, I.len⟩
 rcases List.mem_cons.mp (show p ∈ (a, oe) :: (X.pn ++ pins) from hp) with z | z
 ·subst z
  refine ⟨he, fa, fun z => ?_, fun hm => ?_, fun v z => ?_⟩
  ·obtain ⟨m, ⟨o, es, ep, h1, h2, _⟩, _⟩ := I.loc
   have z : a = X.env.locals := z
   rw [<- z, he] at h1
   cases h1
   rw [hd] at h2
   cases h2
  ·obtain ⟨_, o, h1, _⟩ := ok.sP.mem hm
   have h1 : X.s₀.heap.get? a = some o := h1
   rw [na] at h1
   cases h1
  ·have z : oe.data = .cell v := z
   rw [hd] at z
   cases z
 ·exact I.pin p z
theorem Inv.vN (J : Inv (X.hand a oe) pins σ H s) (ok : X.Ok) : Inv X pins σ H s :=
 ⟨ok, J.os, J.bare, J.base, J.loc, J.cell, J.free, J.freeC, fun p hp => J.pin p (List.mem_cons_of_mem _ hp), J.hok, J.len⟩
theorem tV {M : Model} {A : Around} {E : Value -> Shared -> Prop} {base : Heap} {l : List Env} {Q : Unit -> Shared -> Prop} (hl : s.heap.FunFrames base l) (x : ExA s.heap a C dx (some T))
  (h : ∀ h', ExA h' a C dx (some T) -> Left (frs l) a (some T) s.heap h' -> h'.get? a = s.heap.get? a -> Q () { s with heap := h' }) : wpAny M A (setFlight (.ref a) none) Q E s := by
 obtain ⟨o, vs, he, hc, hdx, hdt, h1⟩ := x.ob
 obtain ⟨nT, oT, ts, hT, hdT, h3⟩ := x.tb T rfl
 have hs3 : 3 < ts.size := (Array.getElem?_eq_some_iff.mp h3).1
 unfold setFlight
 refine wpAny_bind (wpAny_field he hdt (x := .ref T) h1 ?_)
 rw [if_pos (by simp)]
 refine wpAny_setField hT hdT hs3 ?_
 have oth : ∀ b, b ≠ T -> (s.heap.update T (Obj.mapFields (·.setIfInBounds 3 ((none : Option Addr).elim Value.none fun f => rawInt f)))).get? b = s.heap.get? b := fun b hb => Heap.get?_update_other _ _ (Ne.symm hb)
 have dT := Obj.data_mapFields hdT (·.setIfInBounds 3 ((none : Option Addr).elim Value.none fun f => rawInt f))
 refine h _ ⟨⟨o, vs, by rw [oth a (Ne.symm nT)]; exact he, hc, hdx, hdt, h1⟩, fun T' hT' => ?_⟩ ⟨fun b o' q _ _ hb => by rw [oth b (hb T rfl)]; exact q, fun b o' q hb => ?_, ?_⟩ (oth a (Ne.symm nT))
 ·cases hT'
  exact ⟨nT, _, _, Heap.get?_update_self _ hT (Obj.isFreed_of_fields dT), dT, by simp [hs3]⟩
 ·obtain ⟨_, o2, ho2, n⟩ := hl.mem hb
  have hbT : b ≠ T := fun z => by
   subst z
   rw [hT] at ho2
   cases ho2
   exact n ts hdT
  exact ⟨o'.slots, by rw [oth b hbT]; exact q⟩
 ·rw [Heap.size_update]
  exact Nat.le_refl _
end
noncomputable def Ends.less (D : Ends) (i : Nat) : Ends := { nx := fun σ H => D.nx (σ.set i none) H, rt := D.rt, bk := fun σ H => D.bk (σ.set i none) H, ct := fun σ H => D.ct (σ.set i none) H }
end L2
namespace L2
open PySem PySem.Spec PyProof.Rows
end L2
namespace L2
open PySem PySem.Spec PyProof.Rows
end L2
namespace L2
open PySem PySem.Spec PyProof.Rows
section
open PySem.W
variable {prog : Program} {w : World} {A : Around} {E : Value -> Shared -> Prop} {h : Heap} {g : Array GenState} {d : Drawn} {t : Nat} {os : OsState} {a C : Addr} {oe : Obj} {od : Option Obj} {K : Frag} {bmB : List Value} {B : String}
theorem xcls_by {tk : Tok} {Q : Value -> Shared -> Prop} (FB : ExcAttrBase B bmB) (kX : K.In h) (I : W.InstAt h a oe C od) (e1 : findIn K (.ref C) "__getattribute__" = some (some (.builtin "BaseException.__getattribute__")))
  (e3 : findIn K (.ref C) "__getattr__" = some none)
  (hq : ∀ R : Result -> Shared -> Prop, R (.ok (.ret (.ref C))) ⟨h, g, d, t, os⟩ -> codeAny (model prog w) A (.call (.builtin "BaseException.__getattribute__") ⟨[.ref a, .str "__class__" tk], []⟩) R ⟨h, g, d, t, os⟩) (q : Q (.ref C) ⟨h, g, d, t, os⟩) :
  wpAny (model prog w) A (getAttrBy (.ref a) (.str "__class__" tk) false) Q E ⟨h, g, d, t, os⟩ := by
 have m0 := I.type (M := model prog w)
 have m1 := looks_findIn (M := model prog w) kX e1
 have L2 := looks_findIn (M := model prog w) kX e3
 have b3 := FB.ga.bind (.ref a)
 have nx : (Value.builtin "BaseException.__getattribute__" == Value.builtin "object.__getattribute__") = false := by decide +kernel
 unfold getAttrBy
 repeat (any_goals (first | assumption | with_reducible refine m0.at ?_ | with_reducible refine m1.at ?_ | with_reducible refine L2.at ?_ | wp_step))
 all_goals (refine hq _ ?_)
 repeat (any_goals (first | wp_step | assumption))
theorem wR {M : Model} {nameV : Value} {Q : Unit -> Shared -> Prop} (kX : K.In h) (I : W.InstAt h a oe C od) (hb : mroIn K C (.type "BaseException") = some true) (hq : Q () ⟨h, g, d, t, os⟩) :
  wpAny M A (checkBuiltinCall "BaseException.__getattribute__" ⟨[.ref a, nameV], []⟩) Q E ⟨h, g, d, t, os⟩ := by
 have kd : builtinKind "BaseException.__getattribute__" = some .slot := by decide +kernel
 have hs : splitId "BaseException.__getattribute__" = some ("BaseException", "__getattribute__") := by decide +kernel
 have m0 := I.type (M := M)
 have m1 := looks_mroIn (M := M) kX hb
 have ag := F.args_bexc_ga (.ref a) nameV
 simp only [checkBuiltinCall, hs, kd]
 refine wpAny_bind ?_
 unfold isInstance
 repeat (first | with_reducible refine m0.at ?_ | with_reducible refine m1.at ?_ | wp_step)
 exact hq
theorem wQ {tk : Tok} {Q : Fin -> Shared -> Prop} (kX : K.In h) (I : W.InstAt h a oe C od) (e2 : findIn K (.ref C) "__class__" = some (some (.builtin "object.__class__"))) (hm : mroIn K C (.type "object") = some true) (hq : Q (.done (.ret (.ref C))) ⟨h, g, d, t, os⟩) :
  wpAny (model prog w) A (Builtin.«object.__getattribute__» ⟨[.ref a, .str "__class__" tk], []⟩) Q E ⟨h, g, d, t, os⟩ := by
 have tc : Shared.TypeIs ⟨h, g, d, t, os⟩ (.builtin "object.__class__") "getset_descriptor" := F.typeOf_object_class
 have m0 := I.type (M := model prog w)
 have m1 := looks_findIn (M := model prog w) kX e2
 have p5 := F.typeOf_object_class
 have p6 := F.slot_gs_get.lookup
 have p7 := F.slot_gs_set.lookup
 repeat (any_goals (first | assumption | with_reducible refine m0.at ?_ | with_reducible refine m1.at ?_ | wp_step))
 refine W.class_get (s := ⟨h, g, d, t, os⟩) kX I hm ?_
 repeat (any_goals (first | wp_step | assumption))
theorem xN {Q : Option Value -> Shared -> Prop} (FB : ExcAttrBase B bmB) (kX : K.In h) (I : W.InstAt h a oe C od) (e1 : findIn K (.ref C) "__getattribute__" = some (some (.builtin "BaseException.__getattribute__"))) (e2 : findIn K (.ref C) "__class__" = some (some (.builtin "object.__class__"))) (e3 : findIn K (.ref C) "__getattr__" = some none)
  (hb : mroIn K C (.type "BaseException") = some true) (hm : mroIn K C (.type "object") = some true) (hq : Q (some (.ref C)) ⟨h, g, d, t + 1, os⟩) : wpAny (model prog w) A (getAttr? (.ref a) "__class__") Q E ⟨h, g, d, t, os⟩ := by
 unfold getAttr? getAttrBy?
 refine wpAny_bind (wpAny_mkText (wpAny_bind (wpAny_attempt (xcls_by FB kX I e1 e3 (fun R hR => codeAny_call_builtin FB.ga.plain F.entry_bexc_ga (wR kX I hb (wQ kX I e2 hm hR))) ?_))))
 exact wpAny_pure hq
structure XIsi (K : Frag) (C : Addr) : Prop where
 ga : findIn K (.ref C) "__getattribute__" = some (some (.builtin "BaseException.__getattribute__"))
 cl : findIn K (.ref C) "__class__" = some (some (.builtin "object.__class__"))
 gt : findIn K (.ref C) "__getattr__" = some none
 bs : mroIn K C (.type "BaseException") = some true
 ob : mroIn K C (.type "object") = some true
 is : ∃ cd, clsIn K C = some cd
theorem oj (FB : ExcAttrBase B bmB) (Z : XIsi K C) : KitX K (.ref a) (.ref C) (fun h => W.InstAt h a oe C od) where
 ty := fun _ _ _ I => I.type
 it := fun _ _ X _ => by
  obtain ⟨cd, hc⟩ := Z.is
  unfold clsIn at hc
  split at hc
  ·next ho =>
   intro A' Q' E' s' k q
   unfold isType loadHead
   refine wpAny_bind (wpAny_loadPart (k C _ (X C _ ho)) ?_)
   exact wpAny_pure q
  ·cases hc
 ne := fun hh tq d1 is n1 s1 X htp => by
  obtain ⟨cd, hc⟩ := Z.is
  refine Bool.eq_false_iff.mpr (fun q => ?_)
  have e : C = tq := Value.ref.inj (beq_iff_eq.mp q)
  subst e
  unfold clsIn at hc
  split at hc
  ·next ho =>
   cases (X C _ ho).symm.trans htp
  ·cases hc
 ca := fun {_ _ _ _ _ s} X I k => by
  obtain ⟨h, g, d, t, os⟩ := s
  exact xN FB X I Z.ga Z.cl Z.gt Z.bs Z.ob k
end
theorem rD : ∀ {ys : List Addr} {its : List Value}, Vals (ys.map V.ref) its -> its = ys.map Value.ref
 | [], _, .nil => rfl
 | y :: ys, _, .cons r rs => by rw [rD rs, show _ = Value.ref y from r]; rfl
section
variable {X : Cx} {C a : Addr} {oe : Obj} {B : String} {bmB : List Value}
theorem wI (FB : ExcAttrBase B bmB) (Z : XIsi X.K C) (hc : oe.cls = .ref C) (hd : ∃ vs, oe.data = .fields vs) (hn : oe.dict = none) : dq (X.hand a oe) (.builtin "isinstance") (fun xs H Q => ∃ v b, xs = [.ref a, v] /\
  ((∃ c, RelV v c /\ (∀ u, RelV v u -> u = c) /\ kitOne X.K (.ref C) c = some b) \/ ∃ (tp : Addr) (ys : List Addr), v = .ref tp /\ H tp = some (.tup (ys.map V.ref)) /\ kitAny X.K (.ref C) (ys.map Value.ref) = some b) /\ Q (.bl b) H) := by
 show 'թ'
 obtain ⟨v, b, rfl, h1, q⟩ := h
 show 'լ'
 have J : PySem.W.InstAt s.heap a oe C none := ⟨pa, hc, by unfold PySem.W.notCls; rw [hdt], by rw [hn]; trivial⟩
 rcases h1 with ⟨c, rc, uniq, e⟩ | ⟨tp, ys, rfl, ht, e⟩
 ·cases uniq w rw'
  exact kia_one (oj FB Z) I.kIn J e (fun z => nomatch z) fun tk => ⟨.bl b, H, I.tok tk, rfl, q⟩
 ·cases (show w = Value.ref tp from rw')
  obtain ⟨_, its, rv, ob, z1, z2⟩ := (show e6 X.prog X.w H s.heap tp (.tup (ys.map V.ref)) from I.hok tp _ ht)
  show 'Շ'
end
end L2
namespace L2
open PySem PySem.Spec PyProof.Rows
noncomputable def tIsiX (i : Nat) (a : Addr) (b : Bool) : TE := fun σ H Q => σ[i]? = some (some (.ref a)) /\ Q (.bl b) H
noncomputable def tIsiT (i : Nat) (a : Addr) (ys : List Addr) (b : Bool) : TE := fun σ H Q => σ[i]? = some (some (.ref a)) /\ ∀ p, H p = none -> Q (.bl b) (upd H p (.tup (ys.map V.ref)))
section
variable {X : Cx} {C a D : Addr} {oe : Obj} {B : String} {bmB : List Value} {i : Nat} {n x y T : Str} {p p1 p2 pos : Pos} {b : Bool}
theorem pe_isiO (FB : ExcAttrBase B bmB) (Z : XIsi X.K C) (hc : oe.cls = .ref C) (hd : ∃ vs, oe.data = .fields vs) (hn : oe.dict = none) (hm : X.mg "isinstance" = none) (hD : X.mg y = some (.ref D)) (hb : kitOne X.K (.ref C) (.ref D) = some b)
  (hN : X.N[i]? = some n := by rfl) (hv : Vis X.env.scope n := by first | exact Or.inl rfl | exact Or.inr (Or.inl rfl) | exact Or.inr (Or.inr rfl)) (hd1 : (n == ("__debug__" : Str)) = false := by decide) (hd2 : (n == ("__classdict__" : Str)) = false := by decide)
  (hg : Gl (X.hand a oe) "isinstance" := by rfl) (hgD : Gl (X.hand a oe) y := by rfl) (hd3 : (y == ("__debug__" : Str)) = false := by decide)
  (hst : starEach [.Name n p1, .Name y p2] X.env = [(false, eval (.Name n p1) X.env), (false, eval (.Name y p2) X.env)] := by rfl) (hst2 : starEach [.Name y p2] X.env = [(false, eval (.Name y p2) X.env)] := by rfl) (hpl : (backTo pos (starEach [.Name y p2] X.env)).any (·.1) = false := by rfl) :
  PE (X.hand a oe) (.Call (.Name "isinstance" p) [.Name n p1, .Name y p2] [] pos) (tIsiX i a b) := by
 show 'ն'
 refine PE.imp (fV (X := X.hand a oe) (wI FB Z hc hd hn) hg hm boot_isinstance (aS (pv i hN hv hd1 hd2) (aS vD dk hst2) (by rw [hst, hst2])) (by decide) (by decide) (by rw [hst, hst2]) hpl) fun σ H Q h => ?_
 obtain ⟨e1, q⟩ := h
 exact ⟨.ref a, e1, .ref D, b, rfl, .inl ⟨.ref D, rfl, fun u hu => hu, hb⟩, q⟩
end
noncomputable def xW (ys : List Addr) : TA := fun _ H Q => Q (ys.map V.ref) H
section
variable {X : Cx} {C a D : Addr} {oe : Obj} {B : String} {bmB : List Value} {i : Nat} {n x y : Str} {T : String} {p p1 p2 pos : Pos} {b : Bool} {ys : List Addr} {es : List Expr}
theorem pa_refs0 : PA X [] (xW []) := dk
theorem m7 (hr : PA X es (xW ys)) (hD : X.mg y = some (.ref D)) (hg : Gl X y := by rfl) (hd : (y == ("__debug__" : Str)) = false := by decide) (hs : starEach (.Name y p :: es) X.env = (false, eval (.Name y p) X.env) :: starEach es X.env := by rfl) : PA X (.Name y p :: es) (xW (D :: ys)) :=
 fun ps pins s σ H Q I h => aS (yv (v := .ref D) hg hD rfl hd) hr hs ps pins s σ H Q I h
theorem pe_isiB (FB : ExcAttrBase B bmB) (Z : XIsi X.K C) (hc : oe.cls = .ref C) (hd : ∃ vs, oe.data = .fields vs) (hn : oe.dict = none) (hm : X.mg "isinstance" = none) (hmT : X.mg y = none) (hvT : bootBuiltins y = some (.type T)) (hb : kitOne X.K (.ref C) (.type T) = some b)
  (hN : X.N[i]? = some n := by rfl) (hv : Vis X.env.scope n := by first | exact Or.inl rfl | exact Or.inr (Or.inl rfl) | exact Or.inr (Or.inr rfl)) (hd1 : (n == ("__debug__" : Str)) = false := by decide) (hd2 : (n == ("__classdict__" : Str)) = false := by decide)
  (hg : Gl (X.hand a oe) "isinstance" := by rfl) (hgT : Gl (X.hand a oe) y := by rfl) (hy : y ≠ "__name__" := by decide) (hd3 : (y == ("__debug__" : Str)) = false := by decide)
  (hst : starEach [.Name n p1, .Name y p2] X.env = [(false, eval (.Name n p1) X.env), (false, eval (.Name y p2) X.env)] := by rfl) (hst2 : starEach [.Name y p2] X.env = [(false, eval (.Name y p2) X.env)] := by rfl) (hpl : (backTo pos (starEach [.Name y p2] X.env)).any (·.1) = false := by rfl) :
  PE (X.hand a oe) (.Call (.Name "isinstance" p) [.Name n p1, .Name y p2] [] pos) (tIsiX i a b) := by
 refine PE.imp (fV (X := X.hand a oe) (wI FB Z hc hd hn) hg hm boot_isinstance (aS (pv i hN hv hd1 hd2) (aS (yr (X := X.hand a oe) (pos := p2) hgT hmT hvT hy hd3) dk hst2) (by rw [hst, hst2])) (by decide) (by decide) (by rw [hst, hst2]) hpl) fun σ H Q h => ?_
 obtain ⟨e1, q⟩ := h
 exact ⟨.ref a, e1, .ty T, b, rfl, .inl ⟨.type T, rfl, fun u hu => hu, hb⟩, q⟩
theorem pe_isiT {j} (FB : ExcAttrBase B bmB) (Z : XIsi X.K C) (hc : oe.cls = .ref C) (hd : ∃ vs, oe.data = .fields vs) (hn : oe.dict = none) (hm : X.mg "isinstance" = none) (hT : PA (X.hand a oe) es (xW ys)) (hl : ys.length <= sizeLine) (hb : kitAny X.K (.ref C) (ys.map Value.ref) = some b)
  (hN : X.N[i]? = some n := by rfl) (hv : Vis X.env.scope n := by first | exact Or.inl rfl | exact Or.inr (Or.inl rfl) | exact Or.inr (Or.inr rfl)) (hd1 : (n == ("__debug__" : Str)) = false := by decide) (hd2 : (n == ("__classdict__" : Str)) = false := by decide)
  (hg : Gl (X.hand a oe) "isinstance" := by rfl)
  (hst : starEach [.Name n p1, .Tuple es j p2] X.env = [(false, eval (.Name n p1) X.env), (false, eval (.Tuple es j p2) X.env)] := by rfl) (hst2 : starEach [.Tuple es j p2] X.env = [(false, eval (.Tuple es j p2) X.env)] := by rfl) (hpl : (backTo pos (starEach [.Tuple es j p2] X.env)).any (·.1) = false := by rfl) :
  PE (X.hand a oe) (.Call (.Name "isinstance" p) [.Name n p1, .Tuple es j p2] [] pos) (tIsiT i a ys b) := by
 refine PE.imp (fV (X := X.hand a oe) (wI FB Z hc hd hn) hg hm boot_isinstance (aS (pv i hN hv hd1 hd2) (aS (yt hT) dk hst2) (by rw [hst, hst2])) (by decide) (by decide) (by rw [hst, hst2]) hpl) fun σ H Q h => ?_
 obtain ⟨e1, q⟩ := h
 exact ⟨.ref a, e1, by rw [List.length_map]; exact hl, fun tp htp => ⟨.ref tp, b, rfl, .inr ⟨tp, ys, rfl, av, hb⟩, q tp htp⟩⟩
end
end L2
namespace L2
open PySem PySem.Spec PyProof.Rows
noncomputable def DEat (K : PySem.W.Frag) (E : XK) (own : Bool) (X : Cx) (pins : List (Addr × Obj)) (σ : St) (e : Expr) (f : ao -> M Dat) : Prop := PEat X pins σ e (tD K (WE K E) own f)
noncomputable def DSat (K : PySem.W.Frag) (E : XK) (ro : Bool) (X : Cx) (OL O O' : List Nat) (pins : List (Addr × Obj)) (σ : St) (st : List Stmt) (g : ao -> M Flo) : Prop := ∀ F0 H0, PSsAt X pins σ st (tS K (WE K E) ro F0 H0 OL O O' g)
theorem PEat.imp {X : Cx} {pins : List (Addr × Obj)} {σ : St} {e : Expr} {t u : TE} (h : PEat X pins σ e t) (k : ∀ H Q, u σ H Q -> t σ H Q) : PEat X pins σ e u := fun s H Q I q => h s H Q I (k H Q q)
theorem PSat.imp {X : Cx} {pins : List (Addr × Obj)} {σ : St} {st : Stmt} {t u : TS} (h : PSat X pins σ st t) (k : ∀ D H, u D σ H -> t D σ H) : PSat X pins σ st u := fun s H D I q => h s H D I (k D H q)
section
variable {X : Cx} {pins : List (Addr × Obj)} {σ : St} {K : PySem.W.Frag} {ro : Bool} {x : Str} {e : Expr} {es : List Expr} {fr : ao -> M (List Dat)} {p pos : Pos} {E : XK} {CX : CXT}
theorem dea_call {k nN n : Nat} {fad : Addr} {fd : FuncData} {ps : List Str} {g : ao -> M Flo} (F : cJ X.prog X.w X.K X.mg X.base CX k fad fd ps (spX K ro (bW nN n g) n)) (hx : mZ CX X pins σ E) (hr : jJ k X.A) (hm : X.mg x = some (.ref fad)) (hk : keepIn X.K (.ref fad) = true) (hb : Binds X.K fd ps [])
  (ha : DA K (WE K E) X (e :: es) fr) (hg : Gl X x := by rfl) (hdb : (x == ("__debug__" : Str)) = false := by decide) (hst : starEach (e :: es) X.env = (false, eval e X.env) :: starEach es X.env := by rfl) (hpl : (backTo pos (starEach es X.env)).any (·.1) = false := by rfl) :
  DEat K E ro X pins σ (.Call (.Name x p) (e :: es) [] pos) (fL (bW nN n g) fr) := by
 refine PEat.imp (at_call F hx hr hm hk hb .nil ha hg hdb hst hpl) fun H Q h => ?_
 show 'Հ'
 cases e1 : fr ρ with
 | error z => rw [e1] at p; exact p
 | ok ds =>
  show 'Ւ'
  show spX K ro (bW nN n g) n (vs ++ []) H' Q E
  rw [List.append_nil]
  by_cases hl : es1.length = n
  ·exact ⟨F1, es1, s1, q1, hl, z⟩
  ·rw [mF hl] at z
   exact aI.stuck z
end
noncomputable def qp (O : List Nat) (f : ao -> M Dat) : ao -> M Flo := fun ρ => (f (erase O ρ)).bind fun _ => .ok (.nx ρ)
@[simp] theorem e_dropB (O : List Nat) (f : ao -> M Dat) (ρ : ao) : qp O f ρ = (f (erase O ρ)).bind fun _ => .ok (.nx ρ) := id rfl
section
variable {X : Cx} {pins : List (Addr × Obj)} {σ : St} {K : PySem.W.Frag} {ro own : Bool} {OL O : List Nat} {E : XK} {e : Expr} {f : ao -> M Dat} {pos : Pos}
theorem dsa_expr (h : DEat K E own X pins σ e f) (hs : swapsWith e none pos.line X.env = pure false := by rfl) : DSat K E ro X OL O O pins σ [.Expr e pos] (qp O f) := fun F0 H0 => at_one (PSat.imp (at_expr h hs) fun D H ⟨FB, F, ρ, r, p⟩ => by
 refine bC r.mG r.st.fh (fun e he => p.nL r.st (by unfold qp; rw [he]; rfl)) fun d hd v F1 H1 s1 q => ?_
 have z : qp O f ρ = .ok (.nx ρ) := by unfold qp; rw [hd]; rfl
 rw [z] at p
 exact p σ F1 H1 (r.step s1))
end
end L2
namespace L2
open PySem PySem.Spec PyProof.Rows
end L2
namespace L2
open PySem PySem.Spec PyProof.Rows
theorem Rep.back {K : PySem.W.Frag} {F0 H0 F1 H1 FB F H : Hp} {O : List Nat} {σ : St} {ρ : ao} (r : Rep K F1 H1 FB O F H σ ρ) (s : Step F0 H0 F1 H1) : Rep K F0 H0 FB O F H σ ρ :=
 ⟨s.trans r.st, r.fb, r.len, r.fz, fun i d e h => let ⟨v, z, q⟩ := r.ow i d e h; ⟨v, z, q.back s.hh⟩, r.ap⟩
end L2
namespace L2
open PySem PySem.Spec PyProof.Rows
noncomputable abbrev xArgs (vs : List Value) : Obj := { cls := .type "tuple", data := .seq vs.toArray }
noncomputable abbrev xP (C t : Addr) : Obj := { cls := .ref C, data := .fields #[.ref t, .none, .none, .none, .bool false, .none] }
noncomputable abbrev rm (h : Heap) (C : Addr) (vs : List Value) : Heap := (h.push (xArgs vs)).push (xP C h.objs.size)
section
variable {w : World} {prog : Program} {E : Value -> Shared -> Prop} {A : Around}
variable {h : Heap} {g : Array GenState} {d : Drawn} {t : Nat} {os : OsState}
variable {nm q : Str} {C N fI : Addr} {bs tl bmB us : List Value} {hdct ab : Bool} {sn : List Str} {sub : List Value} {col : Option Bool} {dd : Option Addr} {k0 k1 k2 k3 k5 : Option Value} {B newId initId : String} {mN : Str -> Option Value} {oI : Obj}
theorem oE {b : Addr} {o : Obj} (e : h.get? b = some o) : (rm h C us).get? b = some o := Heap.get?_push_of_some _ (Heap.get?_push_of_some _ e)
theorem sT : (rm h C us).get? (h.objs.size + 1) = some (xP C h.objs.size) := by
 have z := Heap.get?_push_size (h.push (xArgs us)) (o := xP C h.objs.size) rfl
 rwa [Heap.size_push] at z
theorem x_type (F : ExcBaseFacts B newId initId bmB) (T : OwnTail h bmB tl) (hC : h.get? C = some (excClassObj nm q C N bs tl hdct sn sub ab col dd k0 k1 k2 k3 k5 newId)) (on : h.Ns N mN) (hi : mN "__init__" = some (.ref fI))
  (ho : h.get? fI = some oI) (hcl : oI.cls = .type "function") (hl : us.length <= sizeLine) {Q : Fin -> Shared -> Prop}
  (z : wpAny (model prog w) A (call (.ref fI) (.ref (h.objs.size + 1) :: us)) (fun r s' => r = .none /\ Q (.done (.ret (.ref (h.objs.size + 1)))) s') E ⟨rm h C us, g, d, t, os⟩) :
  wpAny (model prog w) A (Builtin.«type.__call__» ⟨.ref C :: us, []⟩) Q E ⟨h, g, d, t, os⟩ := by
 have k : ∀ b o, h.get? b = some o -> (rm h C us).get? b = some o := fun b o e => oE e
 have oC := k _ _ hC
 have me : (Value.ref C :: tl).contains (.ref C) = true := by simp
 have nw : (rm h C us).get? (h.objs.size + 1) = some (xP C h.objs.size) := sT
 repeat (first | with_reducible refine wpAny_madeBy_exc hC ?_ | with_reducible refine wpAny_loadPart_at hC ?_ | wp_step)
 refine codeAny_call_builtin_code (Code.quiet_builtin _ F.quiet) (wpAny_check_new_subT F T hC (codeAny_exc_new_subT F T hC ?_ hl))
 show wpAny _ _ _ _ _ (⟨rm h C us, g, d, t, os⟩ : Shared)
 unfold isInstance
 repeat (first | (with_reducible refine wpAny_isSubtype_exc oC ?_; rw [me]) | with_reducible refine wpAny_loadPart_at nw ?_ | wp_step)
 refine wpAny_typeLookup_tail oC (on.keeps k) (T.keeps k) F.mroIs F.init.lookup ?_
 rw [hi]
 unfold bindSpecial
 refine wpAny_holding (wpAny_bind (wpAny_bind (wpAny_typeOf (T := "function") ⟨_, k _ _ ho, hcl⟩ ?_)))
 rw [if_pos (by decide)]
 refine wpAny_pure (wpAny_bind (thn z fun r s' y => ?_))
 obtain ⟨e, y⟩ := y
 subst e
 wp_walk
 exact y
theorem x_call (F : ExcBaseFacts B newId initId bmB) (T : OwnTail h bmB tl) (hC : h.get? C = some (excClassObj nm q C N bs tl hdct sn sub ab col dd k0 k1 k2 k3 k5 newId)) (on : h.Ns N mN) (hi : mN "__init__" = some (.ref fI))
  (ho : h.get? fI = some oI) (hcl : oI.cls = .type "function") (hl : us.length <= sizeLine) {Q : Value -> Shared -> Prop}
  (z : wpAny (model prog w) (A.under (.builtin "type.__call__" ⟨.ref C :: us, []⟩)) (call (.ref fI) (.ref (h.objs.size + 1) :: us)) (fun r s' => r = .none /\ Q (.ref (h.objs.size + 1)) s') E ⟨rm h C us, g, d, t, os⟩) :
  wpAny (model prog w) A (call (.ref C) us) Q E ⟨h, g, d, t, os⟩ := by
 have l1 := tc_lookup
 have l2 := tc_bind (.ref C)
 have ty : (⟨h, g, d, t, os⟩ : Shared).TypeIs (.ref C) "type" := ⟨_, hC, rfl⟩
 refine wpAny_call (codeAny_of_tree ?_); show wpAny _ _ (callAny (.ref C) _) _ _ _
 (repeat (any_goals (first | assumption | with_reducible refine wpAny_loadPart_at hC ?_ | wp_step))); exact ⟨rfl, codeAny_call_builtin_at (Code.quiet_builtin _ (by decide +kernel)) entry_typeCall (wpAny_check_type_call_sub hC (x_type F T hC on hi ho hcl hl z))⟩
end
theorem ns_some {K : PySem.W.Frag} {h : Heap} {N : Addr} {m : Str -> Option Value} {n : Str} {v : Value} (X : K.In h) (G : h.Ns N m) (e : nsIn K N n = some (some v)) : m n = some v := by
 obtain ⟨o, es, ep, g1, g2, _, g3⟩ := G
 unfold nsIn at e
 cases q : K.lookup N with
 | none => rw [q] at e; exact nomatch e
 | some ob =>
  have z := X _ _ q
  rw [g1] at z
  cases z
  obtain ⟨c, d, dt, sl⟩ := o
  cases (show dt = .dict es ep from g2)
  rw [q] at e
  dsimp only at e
  cases f : es.toList.find? (·.key.isStr n) with
  | none => rw [f] at e; dsimp only at e; split at e <;> cases e
  | some en =>
   rw [f] at e
   cases e
   rw [<- g3]
   unfold nsFind findBy
   rw [<- Array.find?_toList, f]
   rfl
noncomputable def nV (K : PySem.W.Frag) (C : Addr) (bmB : List Value) (newId : String) (f : Addr) : Bool := match K.lookup C with
 | some ⟨.type "type", _, .cls cd, sl⟩ =>
   (match cd.mro, sl.toList with
  | .ref C' :: tl, [_, _, _, _, some (.builtin n), _] => (n == newId && C' == C && !cd.hasDel) && (PySem.W.nsOkIn K cd.ns && PySem.W.tailIn K bmB tl) && (nsIn K cd.ns "__init__" == some (some (.ref f)))
  | _, _ => false)
 | _ => false
theorem se {K : PySem.W.Frag} {h : Heap} {C f : Addr} {bmB : List Value} {newId : String} (X : K.In h) (q : nV K C bmB newId f = true) :
  ∃ tl N nm qn bs hdct sn sub ab col dd k0 k1 k2 k3 k5 mN, h.get? C = some (excClassObj nm qn C N bs tl hdct sn sub ab col dd k0 k1 k2 k3 k5 newId) /\ h.Ns N mN /\ mN "__init__" = some (.ref f) /\ OwnTail h bmB tl := by
 unfold nV at q
 split at q
 next dd cd sl ho =>
  split at q
  next C' tl k0 k1 k2 k3 n k5 hm hs =>
   show 'պ'
   obtain ⟨⟨⟨⟨a2, a1⟩, a3⟩, a5, a4⟩, a6⟩ := q
   have b1 : C' = C := beq_iff_eq.mp a1
   have b2 : n = newId := beq_iff_eq.mp a2
   have b3 : del = false := by cases del <;> first | rfl | cases a3
   show 'ո'
   exact ⟨tl, c4, c1, c5, c2, c6, c7, c8, c9, c10, dd, k0, k1, k2, k3, k5, _, X _ _ ho, .of_isNs (PySem.W.isNs_of_in X a5), ns_some X (.of_isNs (PySem.W.isNs_of_in X a5)) (beq_iff_eq.mp a6), PySem.W.tail_of_in X a4⟩
  next => cases q
 next => cases q
theorem xnamed2 {K : PySem.W.Frag} {C f : Addr} {bmB : List Value} {newId : String} (q : nV K C bmB newId f = true) : XNamed K C bmB := fun _ X => by
 obtain ⟨tl, N, nm, qn, bs, hdct, sn, sub, ab, col, dd, k0, k1, k2, k3, k5, mN, o1, o2, o3, o4⟩ := se X q
 exact ⟨tl, N, nm, qn, bs, hdct, sn, sub, ab, col, dd, k0, k1, k2, k3, k5, newId, o1, o4⟩
end L2
namespace L2
open PySem PySem.Spec PyProof.Rows
noncomputable def oF : List Value -> Bool
 | .ref _ :: r => oF r
 | [.type a, .type b, .type c, .type d] => a == "ValueError" && b == "Exception" && c == "BaseException" && d == "object"
 | _ => false
theorem xQ (me : Value) : ∀ {l : List Value}, oF l = true -> refuseLoop me "__setattr__" l = pure ()
 | .ref _ :: _, e => by rw [refuseLoop_ref]; exact xQ me e
 | [.type a, .type b, .type c, .type d], e => by
  simp only [oF, Bool.and_eq_true, beq_iff_eq] at e
  obtain ⟨⟨⟨rfl, rfl⟩, rfl⟩, rfl⟩ := e
  exact PySem.F.store_ValueError.passes me
theorem ve_obj : ∀ {l : List Value}, oF l = true -> l.contains (.type "object") = true
 | .ref _ :: r, e => by rw [List.contains_cons, ve_obj (l := r) e, Bool.or_true]
 | [.type a, .type b, .type c, .type d], e => by
  simp only [oF, Bool.and_eq_true, beq_iff_eq] at e
  obtain ⟨⟨⟨rfl, rfl⟩, rfl⟩, rfl⟩ := e
  decide +kernel
structure zV (K : PySem.W.Frag) (C : Addr) (f : Str) : Prop where
 sa : PySem.W.findIn K (.ref C) "__setattr__"
   = some (some (.builtin "object.__setattr__"))
 no : PySem.W.findIn K (.ref C) f = some none
 cd : ((PySem.W.clsIn K C).any fun cd => oF cd.mro && cd.hasDict) = true
section
open PySem.W
variable {prog : Program} {w : World} {A : Around} {E : Value -> Shared -> Prop} {s : Shared} {a C : Addr} {oe : Obj} {od : Option Obj} {K : Frag} {f : Str} {v : Value}
theorem x_open {tk : Tok} {R : Result -> Shared -> Prop} (X : K.In s.heap) (I : W.InstAt s.heap a oe C od) (Z : zV K C f)
  (z : ∀ b, wpAny (model prog w) A.in1 (Builtin.ObjectAttr.storeInOwnDict (.ref a) (.ref C) (.str f tk) f v b)
   (fun fin s' => match fin with | .done y => R (.ok y) s' | .again c' => c'.quiet = true /\ codeAny (model prog w) A c' R s') (fun e s' => R (.error e) s') s) :
  codeAny (model prog w) A (.call (.builtin "object.__setattr__") ⟨[.ref a, .str f tk, v], []⟩) R s := by
 have SF := PySem.F.store_object; obtain ⟨cd, hc, ho⟩ := any_some Z.cd
 rw [Bool.and_eq_true] at ho
 have ne : cd.mro.isEmpty = false := by cases q : cd.mro with | nil => rw [q] at ho; cases ho.1 | cons _ _ => rfl
 have up : Looks (model prog w) s.heap (isInstance (.ref a) (.type "object")) true := I.type.andThen (looks_mroIn X (by unfold mroIn; rw [hc, Option.bind_some, if_neg (by rw [ne]; decide), ve_obj ho.1]))
 refine codeAny_call_builtin SF.slot.plain SF.entry (@check_slot (model prog w) _ _ s "object.__setattr__" "object" "__setattr__" (.ref a) [.str f tk, v] [] _ SF.kind SF.split up (SF.args (.ref a) (.str f tk) v) ?_)
 rw [osa_eq, refuse_eq]
 have hm : Looks (model prog w) s.heap (mroOf (.ref C)) cd.mro := (looks_clsIn X hc).andThen .now; refine wpAny_bind (wpAny_bind (I.type.here (wpAny_bind (hm.here ?_))))
 rw [xQ _ ho.1]
 exact wpAny_pure (wpAny_bind (I.type.here (wpAny_bind ((looks_findIn X Z.no).here (wpAny_bind (wpAny_pure (z _)))))))
theorem x_set1 {vs : Array Value} {Q : Unit -> Shared -> Prop} (X : K.In s.heap) (Z : zV K C f) (he : s.heap.get? a = some ⟨.ref C, none, .fields vs, #[]⟩)
  (z : ∀ h', h'.get? a = some ⟨.ref C, some s.heap.objs.size, .fields vs, #[]⟩ -> h'.Ns1 s.heap.objs.size (fun y => if y = f then some v else none) -> (∀ b o, b ≠ a -> s.heap.get? b = some o -> h'.get? b = some o) -> Q () { s with heap := h', toks := s.toks + 2 }) :
  wpAny (model prog w) A (setAttr (.ref a) f v) Q E s := by
 have I : W.InstAt s.heap a ⟨.ref C, none, .fields vs, #[]⟩ C none := ⟨he, rfl, rfl, trivial⟩
 show 'Ո'
 have ne : a ≠ s.heap.objs.size := Nat.ne_of_lt (Heap.lt_size he)
 have h1 : (s.heap.push emptyDict).get? a = some ⟨.ref C, none, .fields vs, #[]⟩ := Heap.get?_push_of_some _ he
 refine wpAny_bind (wpAny_alloc' (wpAny_bind (wpAny_update' h1 (wpAny_pure ?_))))
 have h2 : ((s.heap.push emptyDict).update a fun o => { o with dict := some s.heap.objs.size }).get? s.heap.objs.size = some emptyDict := by
  rw [Heap.get?_update_other _ _ ne]; exact Heap.get?_push_size s.heap rfl
 have h3 : ((s.heap.push emptyDict).update a fun o => { o with dict := some s.heap.objs.size }).get? a = some ⟨.ref C, some s.heap.objs.size, .fields vs, #[]⟩ := Heap.get?_update_self _ h1 rfl
 refine wpAny_bind (wpAny_pure (wpAny_bind (wpAny_nsSet1 (m := fun _ => none) (Heap.Ns1.of_empty ⟨emptyDict, #[], _, h2, rfl, (fun e he => absurd he (by simp)), fun _ => rfl⟩) fun h' n1 sb => ?_)))
 obtain ⟨oD, esD, epD, c1, c2, c3⟩ := n1.count (Within.cons f v Within.nil)
 refine wpAny_bind (wpAny_lookBehind c1 (by rw [c2]; exact pastItsLine_dict (Nat.le_trans c3 (by rw [List.length_cons, List.length_nil, sizeLine_eq]; omega))) (wpAny_pure ?_))
 exact z h' ((sb.2 a ne).trans h3) n1 fun b o hb q => (sb.2 b (Nat.ne_of_lt (Heap.lt_size q))).trans (by rw [Heap.get?_update_other _ _ (Ne.symm hb)]; exact Heap.get?_push_of_some _ q)
theorem x_set2 {vs : Array Value} {dx : Addr} {mA : Str -> Option Value} {ns : List Str} {Q : Unit -> Shared -> Prop} (X : K.In s.heap) (Z : zV K C f) (he : s.heap.get? a = some ⟨.ref C, some dx, .fields vs, #[]⟩) (hd : s.heap.Ns1 dx mA) (hw : Within mA ns) (hl : ns.length <= 1000)
  (z : ∀ h', h'.Ns1 dx (fun y => if y = f then some v else mA y) -> Heap.SameBut dx s.heap h' -> Q () { s with heap := h', toks := s.toks + 2 }) :
  wpAny (model prog w) A (setAttr (.ref a) f v) Q E s := by
 obtain ⟨ob, es, ep, d1, d2⟩ := id hd
 have I : W.InstAt s.heap a ⟨.ref C, some dx, .fields vs, #[]⟩ C (some ob) := ⟨he, rfl, rfl, d1⟩
 show 'Ո'
 refine wpAny_pure (a := some dx) (wpAny_bind (wpAny_pure (wpAny_bind (wpAny_nsSet1 (s := { s with toks := s.toks + 1 }) hd fun h' n1 sb => ?_))))
 obtain ⟨oD, esD, epD, c1, c2, c3⟩ := n1.count (Within.cons f v hw)
 refine wpAny_bind (wpAny_lookBehind c1 (by rw [c2]; exact pastItsLine_dict (Nat.le_trans c3 (by rw [List.length_cons, sizeLine_eq]; omega))) (wpAny_pure ?_))
 exact z h' n1 sb
end
end L2
namespace L2
open PySem PySem.Spec PyProof.Rows
section
open PySem.W
variable {prog : Program} {w : World} {A : Around} {E : Value -> Shared -> Prop} {s : Shared} {a C : Addr} {oe od : Obj} {K : Frag} {f : Str} {v : Value} {B : String} {bmB : List Value}
end
noncomputable def XO (a C : Addr) (dx : Option Addr) : HO := .ext fun h => ∃ vs : Array Value, vs[1]? = some .none /\ h.get? a = some ⟨.ref C, dx, .fields vs, #[]⟩
noncomputable def XD (d : Addr) (fs : List (Str × V)) : HO := .ext fun h => ∃ mA, h.Ns1 d mA /\ (∀ f, ui (fs.lookup f) (mA f)) /\ PySem.Within mA (fs.map (·.1))
section
variable {P : Program} {w : World} {H : Hp} {h : Heap} {a C d : Addr} {dx : Option Addr} {fs : List (Str × V)}
theorem xo_ok {vs : Array Value} (h1 : vs[1]? = some .none) (e : h.get? a = some ⟨.ref C, dx, .fields vs, #[]⟩) : e6 P w H h a (XO a C dx) := ⟨⟨vs, h1, e⟩, ⟨_, e⟩, fun _ _ ⟨vs, q, e⟩ k => ⟨vs, q, k _ e⟩⟩
theorem xd_ok {mA : Str -> Option Value} (n : h.Ns1 d mA) (r : ∀ f, ui (fs.lookup f) (mA f)) (wi : PySem.Within mA (fs.map (·.1))) : e6 P w H h d (XD d fs) :=
 ⟨⟨mA, n, r, wi⟩, (let ⟨o, _, _, e, _⟩ := n; ⟨o, e⟩), fun _ _ ⟨m, q, z⟩ k => ⟨m, q.at k, z⟩⟩
theorem xM (x : e6 P w H h a (XO a C dx)) : ∃ vs : Array Value, vs[1]? = some .none /\ h.get? a = some ⟨.ref C, dx, .fields vs, #[]⟩ := x.1
theorem xd_get (x : e6 P w H h d (XD d fs)) : ∃ mA, h.Ns1 d mA /\ (∀ f, ui (fs.lookup f) (mA f)) /\ PySem.Within mA (fs.map (·.1)) := x.1
end
section
variable {X : Cx} {pins : List (Addr × Obj)} {σ : St} {H H' : Hp} {s : Shared} {h' : Heap}
theorem Inv.turn {t' : Nat} (I : Inv X pins σ H s) (S : Addr -> Prop) (k : ∀ b o, ¬ S b -> s.heap.get? b = some o -> h'.get? b = some o) (same : ∀ b, ¬ S b -> H' b = H b)
  (mine : ∀ b, S b -> (∃ φ, H b = some (.ext φ)) \/ s.heap.get? b = none) (there : ∀ b o, S b -> s.heap.get? b = some o -> ∃ o', h'.get? b = some o') (new : ∀ b o, S b -> H' b = some o -> e6 X.prog X.w H' h' b o) :
  Inv X pins σ H' { s with heap := h', toks := t' } := by
 have out : ∀ b u, H b = some u -> (∀ φ, u ≠ .ext φ) -> ¬ S b := fun b u e n z => by
  rcases mine b z with ⟨φ, q⟩ | q
  ·rw [e] at q; cases q; exact n φ rfl
  ·obtain ⟨o, r⟩ := (I.hok b u e).is
   rw [r] at q; cases q
 have off : ∀ b o, s.heap.get? b = some o -> H b = none -> ¬ S b := fun b o e n z => by
  rcases mine b z with ⟨φ, q⟩ | q
  ·rw [n] at q; cases q
  ·rw [e] at q; cases q
 refine I.un ⟨fun b o e n _ _ => k b o (off b o e n) e, fun b o e n _ _ => ⟨o.slots, k b o (off b o e n) e⟩, fun b o e n _ => by rw [same b (off b o e n)]; exact n, fun b o e _ => ?_, fun b xs e => ?_, fun b o u e => ?_, fun b ps e => ?_⟩ fun b u e => ?_
 ·by_cases z : S b
  ·exact there b o z e
  ·exact ⟨o, k b o z e⟩
 ·rw [same b (out b _ e fun _ z => nomatch z)]; exact e
 ·rw [same b (out b _ e fun _ z => nomatch z)]; exact e
 ·exact ⟨#[], by rw [same b (out b _ e fun _ z => nomatch z), Array.append_empty]; exact e⟩
 ·by_cases z : S b
  ·exact new b u z e
  ·rw [same b z] at e
   refine (I.hok b u e).uP (fun c v hc q => k c v ?_ q) (fun c q => ?_) fun c xs q => ?_
   ·rcases hc with rfl | hc
    ·exact z
    ·exact out c _ hc fun _ z => nomatch z
   ·rw [same c (out c _ q fun _ z => nomatch z)]; exact q
   ·rw [same c (out c _ q fun _ z => nomatch z)]; exact q
end
section
variable {X : Cx} {pins : List (Addr × Obj)} {σ : St} {H : Hp} {s : Shared} {A : Around} {E : Value -> Shared -> Prop} {a C d : Addr} {f : Str} {y : V} {u : Value}
theorem xset1_ok {Q : Unit -> Shared -> Prop} (I : Inv X pins σ H s) (e : H a = some (XO a C none)) (Z : zV X.K C f) (ry : RelV y u)
  (z : ∀ d s', H d = none -> d ≠ a -> Inv X pins σ (upd (upd H d (XD d [(f, y)])) a (XO a C (some d))) s' -> Q () s') : wpAny (model X.prog X.w) A (setAttr (.ref a) f u) Q E s := by
 obtain ⟨vs, v1, he⟩ := xM (I.hok a _ e)
 have fr := I.hok.fresh (Nat.le_refl s.heap.objs.size)
 have ne : s.heap.objs.size ≠ a := fun q => by rw [q, e] at fr; cases fr
 refine x_set1 I.kIn Z he fun h' e1 n1 k => z s.heap.objs.size _ fr ne ?_
 refine I.turn (fun b => b = a \/ b = s.heap.objs.size) (fun b o nb q => k b o (fun r => nb (.inl r)) q) (fun b nb => by rw [au fun r => nb (.inl r), au fun r => nb (.inr r)]) (fun b hb => ?_) (fun b o hb q => ?_) fun b o hb q => ?_
 ·rcases hb with rfl | rfl
  ·exact .inl ⟨_, e⟩
  ·exact .inr (get_none (Nat.le_refl _))
 ·rcases hb with rfl | rfl
  ·exact ⟨_, e1⟩
  ·rw [get_none (Nat.le_refl _)] at q; cases q
 ·rcases hb with rfl | rfl
  ·rw [av] at q; cases q
   exact xo_ok v1 e1
  ·rw [au ne, av] at q; cases q
   refine xd_ok n1 (fun g => ?_) fun g hg => ?_
   ·show ui (List.lookup g [(f, y)]) (if g = f then some u else none)
    rw [List.lookup_cons]
    by_cases hf : g = f
    ·rw [if_pos hf, show (g == f) = true from beq_iff_eq.mpr hf]; exact ry
    ·rw [if_neg hf, show (g == f) = false from beq_eq_false_iff_ne.mpr hf]; trivial
   ·by_cases hf : g = f
    ·exact List.mem_cons.mpr (.inl hf)
    ·exact absurd (show (if g = f then some u else none) = none from if_neg hf) hg
theorem xset2_ok {fs : List (Str × V)} {Q : Unit -> Shared -> Prop} (I : Inv X pins σ H s) (e : H a = some (XO a C (some d))) (e2 : H d = some (XD d fs)) (ne : d ≠ a) (hl : fs.length <= 900) (Z : zV X.K C f) (ry : RelV y u)
  (z : ∀ s', Inv X pins σ (upd H d (XD d (pQ f y fs))) s' -> Q () s') : wpAny (model X.prog X.w) A (setAttr (.ref a) f u) Q E s := by
 obtain ⟨vs, v1, he⟩ := xM (I.hok a _ e)
 obtain ⟨mA, n, r, wi⟩ := xd_get (I.hok d _ e2)
 refine x_set2 I.kIn Z he n wi (by rw [List.length_map]; omega) fun h' n1 sb => z _ ?_
 refine I.turn (fun b => b = d) (fun b o nb q => (sb.2 b nb).trans q) (fun b nb => au nb) (fun b hb => by subst hb; exact .inl ⟨_, e2⟩) (fun b o hb q => by subst hb; obtain ⟨o', _, _, e', _⟩ := n1; exact ⟨o', e'⟩) fun b o hb q => ?_
 subst hb
 rw [av] at q; cases q
 refine xd_ok n1 (fun g => ?_) fun g hg => ?_
 ·show ui ((pQ f y fs).lookup g)
    (if g = f then some u else mA g)
  rw [m9]
  by_cases q : g = f
  ·rw [if_pos q]; rw [if_pos q]; exact ry
  ·rw [if_neg q]; rw [if_neg q]; exact r g
 ·by_cases q : g = f
  ·rw [q]; exact And.left (l7 f y fs)
  ·exact (l7 f y fs).2 g (wi g fun y' => hg ((if_neg q).trans y'))
end
end L2
namespace L2
open PySem PySem.Spec PyProof.Rows
noncomputable def sX1 (C : Addr) (ta tv : TE) (f : Str) : TS := fun D σ H => tv σ H fun y H1 => ta σ H1 fun x H2 => ∃ a, x = .ref a /\ H2 a = some (XO a C none) /\ ∀ d, H2 d = none -> d ≠ a -> D.nx σ (upd (upd H2 d (XD d [(f, y)])) a (XO a C (some d)))
noncomputable def sX2 (C : Addr) (ta tv : TE) (f : Str) : TS := fun D σ H => tv σ H fun y H1 => ta σ H1 fun x H2 => ∃ a d fs, x = .ref a /\ H2 a = some (XO a C (some d)) /\ H2 d = some (XD d fs) /\ d ≠ a /\ fs.length <= 900 /\ D.nx σ (upd H2 d (XD d (pQ f y fs)))
section
variable {X : Cx} {C : Addr} {o value : Expr} {f : Str} {ta tv : TE} {pos pos' : Pos}
theorem ps_x1 (ha : PE X o ta) (hv : PE X value tv) (Z : zV X.K C f) (hs : swapsWith value (some (.Attribute o f pos')) pos.line X.env = pure false := by rfl) : PS X (.Assign [.Attribute o f pos'] value pos) (sX1 C ta tv f) := by
 show 'Փ'
 refine plainObj_wpAny_Assign_Attribute (thn (hv pins s σ H _ I h) fun u s1 ⟨y, H1, I1, ry, q⟩ => thn (ha pins s1 σ H1 _ I1 q) fun ov s2 ⟨x, H2, I2, rx, a, ex, ea, q2⟩ => ?_) hs
 subst ex
 cases (show ov = Value.ref a from rx)
 exact xset1_ok I2 ea Z ry fun d s3 h1 h2 I3 => ⟨σ, _, I3, q2 d h1 h2⟩
theorem ps_x2 (ha : PE X o ta) (hv : PE X value tv) (Z : zV X.K C f) (hs : swapsWith value (some (.Attribute o f pos')) pos.line X.env = pure false := by rfl) : PS X (.Assign [.Attribute o f pos'] value pos) (sX2 C ta tv f) := by
 show 'Փ'
 refine plainObj_wpAny_Assign_Attribute (thn (hv pins s σ H _ I h) fun u s1 ⟨y, H1, I1, ry, q⟩ => thn (ha pins s1 σ H1 _ I1 q) fun ov s2 ⟨x, H2, I2, rx, a, d, fs, ex, ea, ed, ne, hl, q2⟩ => ?_) hs
 subst ex
 cases (show ov = Value.ref a from rx)
 exact xset2_ok I2 ea ed ne hl Z ry fun s3 I3 => ⟨σ, _, I3, q2⟩
end
noncomputable def spX2 (C : Addr) (f1 f2 : Str) : Sp := fun vs H Q _ => ∃ a v1 v2, vs = [.ref a, v1, v2] /\ H a = some (XO a C none) /\ ∀ d, H d = none -> d ≠ a -> Q .non (upd (upd H d (XD d [(f1, v1), (f2, v2)])) a (XO a C (some d)))
theorem upd_mid {H : Hp} {a d : Addr} {x y z : HO} (h : d ≠ a) : upd (upd (upd H d x) a y) d z = upd (upd H d z) a y := by
 funext b
 by_cases hd : b = d
 ·subst hd; rw [av, au h, av]
 ·rw [au hd]
  by_cases ha : b = a
  ·subst ha; rw [av, av]
  ·rw [au ha, au ha, au hd, au hd]
theorem upd_low {H : Hp} {a d : Addr} {x y z : HO} : upd (upd (upd H a x) d y) a z = upd (upd H d y) a z := by
 funext b
 by_cases ha : b = a
 ·subst ha; rw [av, av]
 ·rw [au ha, au ha]
  by_cases hd : b = d
  ·subst hd; rw [av, av]
  ·rw [au hd, au hd, au ha]
theorem fn_at {K : PySem.W.Frag} {h : Heap} {f : Addr} (X : K.In h) (e : PySem.W.typeIn K (.ref f) = some (.type "function")) : ∃ o, h.get? f = some o /\ o.cls = .type "function" := by
 unfold PySem.W.typeIn at e
 cases q : K.lookup f with
 | none => simp only [q] at e; cases e
 | some o =>
  simp only [q] at e
  exact ⟨o, X _ _ q, by simpa using e⟩
section
variable {X : Cx} {pins : List (Addr × Obj)} {σ : St} {H : Hp} {s : Shared} {k : Nat} {f C : Addr} {fd : FuncData} {ps : List Str} {f1 f2 : Str} {us : List Value} {v1 v2 : V} {B newId initId : String} {bmB : List Value}
theorem new_x (FB : ExcBaseFacts B newId initId bmB) (hC : nV X.K C bmB newId f = true) (hf : PySem.W.typeIn X.K (.ref f) = some (.type "function")) (F : cJ X.prog X.w X.K X.mg X.base CX0 k f fd ps (spX2 C f1 f2)) (hr : jJ (k + 1) X.A) (hb : Binds X.K fd ps [])
  (I : Inv X pins σ H s) (r : Vals [v1, v2] us) : wpAny (model X.prog X.w) X.A (call (.ref C) us) (fun v s' => ∃ a d, v = .ref a /\ s.heap.objs.size <= a /\ H a = none /\ H d = none /\ d ≠ a /\ Inv X pins σ (upd (upd H d (XD d [(f1, v1), (f2, v2)])) a (XO a C (some d))) s') X.xe s := by
 obtain ⟨tl, N, nm, qn, bs, hdct, sn, sub, ab, col, dd, k0, k1, k2, k3, k5, mN, o1, o2, o3, o4⟩ := se I.kIn hC
 obtain ⟨oI, i1, i2⟩ := fn_at I.kIn hf
 obtain ⟨hh, gg, dr, tk, os⟩ := s
 have hz := sizeLine_eq
 have hl : us.length <= sizeLine := by rw [<- r.length]; show 2 <= sizeLine; omega
 refine x_call FB o4 o1 o2 o3 i1 i2 hl ?_
 have nw : (rm hh C us).get? (hh.objs.size + 1) = some (xP C hh.objs.size) := sT
 have J : Inv X pins σ (upd H (hh.objs.size + 1) (XO (hh.objs.size + 1) C none)) { (⟨hh, gg, dr, tk, os⟩ : Shared) with heap := rm hh C us, toks := tk } :=
  I.laid (fun b u q => oE q) (Nat.le_succ _) (xo_ok (vs := #[.ref hh.objs.size, .none, .none, .none, .bool false, .none]) rfl nw)
 have fa : H (hh.objs.size + 1) = none := I.hok.fresh (Nat.le_succ _)
 have w : Vals [V.ref (hh.objs.size + 1), v1, v2] (Value.ref (hh.objs.size + 1) :: us ++ []) := by rw [List.append_nil]; exact .cons rfl r
 have q : spX2 C f1 f2 [V.ref (hh.objs.size + 1), v1, v2] (upd H (hh.objs.size + 1) (XO (hh.objs.size + 1) C none)) (fun v H2 => v = .non /\ ∃ d, H d = none /\ d ≠ hh.objs.size + 1 /\ H2 = upd (upd H d (XD d [(f1, v1), (f2, v2)])) (hh.objs.size + 1) (XO (hh.objs.size + 1) C (some d))) (fun _ _ _ => False) :=
  ⟨_, v1, v2, rfl, av, fun d hd ne => ⟨rfl, d, by rw [au ne] at hd; exact hd, ne, upd_low⟩⟩
 have n : (Value.ref (hh.objs.size + 1) :: us ++ []).length = ps.length := w.length.symm.trans (F.len _ _ _ _ q)
 refine wpAny_call (codeAny_mono (F.run _ X.stack _ _ ⟨.ref (hh.objs.size + 1) :: us, []⟩ _ _ _ (fun _ _ _ => False) (hr.make C us []) (J.env0.make C us []) (hb _ (.ref (hh.objs.size + 1) :: us) J.kIn n) w q) fun z s' hq => ?_)
 cases z with
 | error e => exact (show False from hq).elim
 | ok fl =>
  cases fl with
  | ret u =>
   obtain ⟨v, H', J3, rv, ev, d, h1, h2, h3⟩ := J.after hq
   subst ev h3
   exact ⟨rv, _, d, rfl, Nat.le_succ _, fa, h1, h2, J3⟩
  | _ => exact False.elim hq
end
theorem uz {M : Model} {A : Around} {E : Value -> Shared -> Prop} {env : Env} {nm q : Str} {C N : Addr} {bs tl : List Value} {hdct : Bool} {sn : List Str} {sub : List Value} {ab : Bool} {col : Option Bool} {dd : Option Addr} {k0 k1 k2 k3 k5 : Option Value} {newId : String}
  {s : Shared} {x : Sem Value} {Q : Flow -> Shared -> Prop} (hB : tl.contains (.type "BaseException") = true) (hh : A.handled = none)
  (z : wpAny M A x (fun v s₁ => ∃ e oe, v = .ref e /\ s₁.heap.get? C = some (excClassObj nm q C N bs tl hdct sn sub ab col dd k0 k1 k2 k3 k5 newId) /\ s₁.heap.get? e = some oe /\ oe.cls = .ref C /\ (∃ vs, oe.data = .fields vs /\ vs[1]? = some .none) /\ E (.ref e) s₁) E s) :
  wpAny M A
    (raiseStmt env (some x) none) Q E s := by
 have cB : (Value.ref C :: tl).contains (.type "BaseException") = true := by rw [List.contains_cons, hB, Bool.or_true]
 unfold raiseStmt
 refine wpAny_bind (thn z fun v s₁ h₁ => ?_)
 obtain ⟨e, oe, rfl, hC, he, hc, ⟨vs, hd, hv1⟩, hE⟩ := h₁
 obtain ⟨oc, odi, oda, osl⟩ := oe
 dsimp only at hc hd
 subst hc hd
 obtain ⟨hp, g, d, tk, os⟩ := s₁; repeat (first | (with_reducible refine wpAny_isSubtype_exc hC ?_; rw [cB]) | with_reducible refine wpAny_loadPart_at he ?_ | with_reducible refine wpAny_loadPart_at hC ?_ | wp_step)
 rw [hv1]
 refine wpAny_pure ?_
 rw [if_neg (by decide)]
 exact wpAny_pure (wpAny_raiseNew_none hh hE)
noncomputable def XEq2 (X : Cx) (E : XK) (C : Addr) : Prop := ∀ (pins : List (Addr × Obj)) (σ : St) (H : Hp) (s' : Shared) (a d : Addr), Inv X pins σ H s' -> ExA s'.heap a (.ref C) (some d) none -> X.s₀.heap.get? a = none -> H a = none -> E (.ref C) (some d) H -> X.xe (.ref a) s'
noncomputable def tRaise2 (t : TA) (C : Addr) (f1 f2 : Str) (E : XK) : TS := fun _ σ H => t σ H fun vs H1 => ∃ v1 v2, vs = [v1, v2] /\ ∀ d, H1 d = none -> E (.ref C) (some d) (upd H1 d (.xd [(f1, v1), (f2, v2)]))
section
variable {X : Cx} {E : XK} {C f : Addr} {x : Str} {e1 e2 : Expr} {t : TA} {np cpos pos : Pos} {k : Nat} {fd : FuncData} {ps : List Str} {f1 f2 : Str} {B newId initId : String} {bmB : List Value}
theorem yk (FB : ExcBaseFacts B newId initId bmB) (hx : XEq2 X E C) (hC : nV X.K C bmB newId f = true) (hf : PySem.W.typeIn X.K (.ref f) = some (.type "function")) (hk : keepIn X.K (.ref C) = true) (F : cJ X.prog X.w X.K X.mg X.base CX0 k f fd ps (spX2 C f1 f2)) (hr : jJ (k + 1) X.A) (hb : Binds X.K fd ps [])
  (hm : X.mg x = some (.ref C)) (ha : PA X [e1, e2] t) (hg : Gl X x := by rfl) (hdb : (x == ("__debug__" : Str)) = false := by decide) (hst : starEach [e1, e2] X.env = (false, eval e1 X.env) :: starEach [e2] X.env := by rfl) (hpl : (backTo cpos (starEach [e2] X.env)).any (·.1) = false := by rfl) :
  PS X (.Raise (some (.Call (.Name x np) [e1, e2] [] cpos)) none pos) (tRaise2 t C f1 f2 E) := by
 show 'Փ'
 obtain ⟨tl, N, nm, qn, bs, hdct, sn, sub, ab, col, dd, k0, k1, k2, k3, k5, mN, o1, o2, o3, o4⟩ := se I.mod.kin hC
 rw [arm_exec_Raise]
 refine wpAny_bind (wpAny_standAt (uz (C := C) (nm := nm) (q := qn) (N := N) (bs := bs) (tl := tl) (hdct := hdct) (sn := sn) (sub := sub) (ab := ab) (col := col) (dd := dd) (k0 := k0) (k1 := k1) (k2 := k2) (k3 := k3) (k5 := k5) (newId := newId) (o4.hasType FB.hasBase) hr.hd (wpAny_bind (thn ?_ fun v s₃ h₃ => wpAny_bind (wpAny_standAt (wpAny_pure h₃))))))
 refine wpAny_Call_Name_kw (gy I hg hm (callWith_K (h₀ := X.base) I.ok.mod.kin hk (thn (ha cpos pins s σ H _ I h) fun us s1 ⟨vs, H1, I1, r, q1⟩ => ⟨I1.kIn, ?_⟩) hst hpl) hdb)
 obtain ⟨v1, v2, rfl, q1⟩ := q1
 refine thn (new_x FB hC hf F hr hb I1 r) fun v s2 ⟨a, d, ev, hn, fa, fd', ne, J⟩ => ?_
 subst ev
 obtain ⟨vs, w1, he⟩ := xM (J.hok a _ av)
 have dd' : upd (upd H1 d (XD d [(f1, v1), (f2, v2)])) a (XO a C (some d)) d = some (XD d [(f1, v1), (f2, v2)]) := by rw [au ne]; exact av
 have J2 : Inv X pins σ (upd H1 d (.xd [(f1, v1), (f2, v2)])) { s2 with heap := s2.heap, toks := s2.toks } := by
  refine J.turn (fun b => b = a \/ b = d) (fun b o _ q => q) (fun b nb => ?_) (fun b hb => ?_) (fun b o _ q => ⟨o, q⟩) fun b o hb q => ?_
  ·rw [au fun z => nb (.inr z), au fun z => nb (.inl z), au fun z => nb (.inr z)]
  ·rcases hb with rfl | rfl
   ·exact .inl ⟨_, av⟩
   ·exact .inl ⟨_, dd'⟩
  ·rcases hb with rfl | rfl
   ·rw [au (Ne.symm ne), fa] at q; cases q
   ·rw [av] at q; cases q
    obtain ⟨mA, n1, n2, _⟩ := xd_get (J.hok _ _ dd')
    exact ⟨mA, n1, n2⟩
 refine ⟨a, _, rfl, J.bk _ _ o1, he, rfl, ⟨vs, rfl, w1⟩, hx pins σ _ s2 a d J2 ⟨⟨_, vs, he, rfl, rfl, rfl, w1⟩, fun T hT => nomatch hT⟩ (get_none (Nat.le_trans I1.sz hn)) (by rw [au (Ne.symm ne)]; exact fa) (q1 d fd')⟩
end
section
variable {P : Program} {w : World} {K : PySem.W.Frag} {mg : Str -> Option Value} {base : Heap} {N : List Str} {qual : Str} {scope : Scope} {f : Addr} {cd : Value} {A : Around} {outer : List Env} {s : Shared} {H : Hp} {E : XK} {C : Addr}
theorem xeqD2 : XEq2 (xD (CXd P w) P w K mg base N qual scope f cd A outer s H E) E C := fun _ _ _ _ _ _ J x na fa q => xe_of J x na (fun T hT => nomatch hT) fa q
end
noncomputable def xRes (C : Addr) (f1 f2 : Str) : List Dat -> M Flo
 | [a, b] => .error (.exc C [(f1, a), (f2, b)])
 | _ => .error .stuck
noncomputable def x6 (C : Addr) (f1 f2 : Str) (fr : ao -> M (List Dat)) : ao -> M Flo := fun ρ => (fr ρ).bind (xRes C f1 f2)
@[simp] theorem e_sExc2 (C : Addr) (f1 f2 : Str) (fr : ao -> M (List Dat)) (ρ : ao) : x6 C f1 f2 fr ρ = (fr ρ).bind (xRes C f1 f2) := id rfl
@[simp] theorem e_xRes (C : Addr) (f1 f2 : Str) (a b : Dat) : xRes C f1 f2 [a, b] = .error (.exc C [(f1, a), (f2, b)]) := id rfl
section
variable {K : PySem.W.Frag} {X : Cx} {ro : Bool} {OL O O' : List Nat} {E : XK} {C f : Addr} {x : Str} {e1 e2 : Expr} {fr : ao -> M (List Dat)} {np cpos pos : Pos} {k : Nat} {fd : FuncData} {ps : List Str} {f1 f2 : Str} {B newId initId : String} {bmB : List Value}
theorem zr (FB : ExcBaseFacts B newId initId bmB) (hx : XEq2 X E C) (hC : nV X.K C bmB newId f = true) (hf : PySem.W.typeIn X.K (.ref f) = some (.type "function")) (hk : keepIn X.K (.ref C) = true) (F : cJ X.prog X.w X.K X.mg X.base CX0 k f fd ps (spX2 C f1 f2)) (hr : jJ (k + 1) X.A) (hb : Binds X.K fd ps [])
  (hm : X.mg x = some (.ref C)) (ha : DA K (WE K E) X [e1, e2] fr) (hg : Gl X x := by rfl) (hdb : (x == ("__debug__" : Str)) = false := by decide) (hst : starEach [e1, e2] X.env = (false, eval e1 X.env) :: starEach [e2] X.env := by rfl) (hpl : (backTo cpos (starEach [e2] X.env)).any (·.1) = false := by rfl) :
  DS K (WE K E) ro X OL O O' (.Raise (some (.Call (.Name x np) [e1, e2] [] cpos)) none pos) (x6 C f1 f2 fr) := fun F0 H0 => PS.imp (yk FB hx hC hf hk F hr hb hm ha hg hdb hst hpl) fun D σ H ⟨FB', F, ρ, r, p⟩ => by
 have rf := r.freeze (O2 := []) (by simp)
 refine nr r.mH r.iU (fun e he => p.nL rf.st (by unfold x6; rw [he]; rfl)) fun ds hd vs F1 H1 s1 q => ?_
 have ez : x6 C f1 f2 fr ρ = xRes C f1 f2 ds := by unfold x6; rw [hd]; rfl
 rw [ez] at p
 rcases ds with _ | ⟨a, _ | ⟨b, _ | ⟨_, _⟩⟩⟩
 ·exact ((WE K E).ns p).elim
 ·exact ((WE K E).ns p).elim
 rotate_left
 ·exact ((WE K E).ns p).elim
 ·obtain ⟨w1, vs1, rfl, q1, w2, vs2, rfl, q2, hn⟩ := q
  cases (show vs2 = [] from hn)
  refine ⟨w1, w2, rfl, fun d hd' => ?_⟩
  have st := rf.st.trans s1
  have nf : F1 d = none := s1.fh.free hd'
  have ff : aY F1 (upd F1 d (.xd [(f1, w1), (f2, w2)])) := aY.upd nf
  have st2 : Step F1 H1 (upd F1 d (.xd [(f1, w1), (f2, w2)])) (upd H1 d (.xd [(f1, w1), (f2, w2)])) := by
   refine ⟨ff, fun c o e => by rw [au (aN e hd')]; exact e, fun c o e => ?_, fun c o e => ?_⟩
   ·by_cases hc : c = d
    ·subst hc; rw [av] at e ⊢; exact e
    ·rw [au hc] at e ⊢; exact s1.fh c o e
   ·by_cases hc : c = d
    ·subst hc; exact .inr hd'
    ·rw [au hc] at e; exact .inl e
  exact p _ _ (st.trans st2) d _ av ⟨w1, _, rfl, bT.mono ff q1, w2, [], rfl, bT.mono ff q2, rfl⟩
end
end L2
namespace L2
open PySem PySem.Spec PyProof.Rows
section
variable {X : Cx} {K : PySem.W.Frag} {ro : Bool} {x : Str} {e : Expr} {es : List Expr} {fr : ao -> M (List Dat)} {p pos : Pos} {W : gF}
noncomputable def noM (g : List Dat -> M Dat) : List Dat -> M Dat := fun ds => noX (g ds)
@[simp] theorem e_noM (g : List Dat -> M Dat) (ds : List Dat) : noM g ds = noX (g ds) := id rfl
theorem passN : Passes (CXd X.prog X.w) X (fun _ _ _ => False) := by
 rintro pins σ H1 s1 e s' I ⟨a, T, C, dx, H', rfl, z⟩
 exact z.want.elim
theorem sv {k nN n : Nat} {fad : Addr} {fd : FuncData} {ps : List Str} {g : ao -> M Flo} (F : cJ X.prog X.w X.K X.mg X.base (CXd X.prog X.w) k fad fd ps (spX K ro (bW nN n g) n)) (hr : jJ k X.A) (hm : X.mg x = some (.ref fad)) (hk : keepIn X.K (.ref fad) = true) (hb : Binds X.K fd ps [])
  (ha : DA K W X (e :: es) fr) (hg : Gl X x := by rfl) (hdb : (x == ("__debug__" : Str)) = false := by decide) (hst : starEach (e :: es) X.env = (false, eval e X.env) :: starEach es X.env := by rfl) (hpl : (backTo pos (starEach es X.env)).any (·.1) = false := by rfl) :
  DE K W ro X (.Call (.Name x p) (e :: es) [] pos) (fL (noM (bW nN n g)) fr) := by
 refine PE.imp (oM F hr hg hm hk hb .nil passN ha hdb hst hpl) fun σ H Q h => ?_
 show 'Հ'
 cases e1 : fr ρ with
 | error z => rw [e1] at p; exact p
 | ok ds =>
  show 'Ւ'
  show spX K ro (bW nN n g) n (vs ++ []) H' Q (fun _ _ _ => False)
  rw [List.append_nil]
  have z : aI K W ro F1 H' (noX (bW nN n g es1)) Q := z
  by_cases hl : es1.length = n
  ·refine ⟨F1, es1, s1, q1, hl, ?_⟩
   cases hr' : bW nN n g es1 with
   | ok d => rw [hr'] at z; exact z
   | error x => rw [hr'] at z; exact (W.ns z).elim
  ·rw [mF hl] at z
   exact (W.ns z).elim
end
end L2
namespace L2
open PySem PySem.Spec PyProof.Rows
section
variable {K : PySem.W.Frag} {W : gF} {X : Cx} {ro : Bool} {OL O O' : List Nat}
theorem ps_nox {st : Stmt} {t : TS} (h : PS X.nox st t) : PS X st t := fun pins s σ H D I z => wpAny_mono (h pins s σ H D (I.sU _) z) (fun _ _ q => q.kG) fun _ _ y => (show False from y).elim
theorem oq {st : Stmt} {g : ao -> M Flo} (h : DS K Wno ro X.nox OL O O' st g) : DS K W ro X OL O O' st (xB g) := fun F0 H0 => PS.imp (ps_nox (h F0 H0)) fun D σ H ⟨FB, F, ρ, r, p⟩ => by
 show 'փ'
 cases e : g ρ with
 | ok fl =>
  rw [e] at p
  cases fl <;> exact p
 | error x => rw [e] at p; exact (W.ns p).elim
end
structure XMk (K : PySem.W.Frag) (mg : Str -> Option Value) (x : Str) (C f : Addr) : Prop where
 mg : mg x = some (.ref C)
 ex : nV K C [.type "ValueError", .type "Exception", .type "BaseException", .type "object"] "ValueError.__new__" f = true
 fn : PySem.W.typeIn K (.ref f) = some (.type "function")
 kp : keepIn K (.ref C)
   = true
structure XTry (K : PySem.W.Frag) (mg : Str -> Option Value) (x : Str) (C : Addr) : Prop where
 mg : mg x = some (.ref C)
 nm : XNamed K C [.type "ValueError", .type "Exception", .type "BaseException", .type "object"]
 isi : XIsi K C
end L2
namespace L2
open PySem PySem.Spec PyProof.Rows
noncomputable def qD (xs : List Int) (k : Int) : Option Nat := xs.findIdx? (· == k)
noncomputable def qC : Dat -> Dat -> M Dat
 | .lst ds, .int k => (cR ds).bind fun xs => match qD xs k with
  | some j => .ok (.int j)
  | none => stk
 | _, _ => stk
@[simp] theorem e_index (ds : List Dat) (k : Int) : qC (.lst ds) (.int k) = (cR ds).bind fun xs => match qD xs k with
  | some j => .ok (.int j)
  | none => stk := id rfl
noncomputable def pf (fo fe : ao -> M Dat) : ao -> M Dat := fun ρ => (fo ρ).bind fun a => if isL a = true then (fe ρ).bind fun b => qC a b else stk
@[simp] theorem e_fIndex (fo fe : ao -> M Dat) (ρ : ao) : pf fo fe ρ = (fo ρ).bind fun a => if isL a = true then (fe ρ).bind fun b => qC a b else stk := id rfl
noncomputable def rIndex (K : PySem.W.Frag) : V -> List V -> Hp -> VK -> Prop := fun x vs H Q => ∃ l is k j, x = .ref l /\ vs = [.int k] /\ SqL K H l (is.map V.int) /\ qD is k = some j /\ Q (.int j) H
noncomputable def isK (k : Int) : Value -> Bool
 | .int i _ => i == k
 | _ => false
section
variable {X : Cx} {K : PySem.W.Frag} {W : gF}
theorem qk : ∀ {is : List Int} {us : List Value}, Vals (is.map V.int) us -> ∀ (m : Nat) (i : Int), is[m]? = some i -> ∃ t, us[m]? = some (.int i t)
 | [], _, _, m, i, h => by simp at h
 | a :: is, _, .cons r rs, 0, i, h => by
  obtain ⟨t, e⟩ := (show ∃ t, _ = Value.int a t from r)
  simp at h
  subst h e
  exact ⟨t, rfl⟩
 | a :: is, _, .cons r rs, m + 1, i, h => by simpa using qk rs m i (by simpa using h)
theorem mt_index (hu : X.A.units + 64 < cLine) : MtR X "list.index" (rIndex X.K) := by
 intro pins s σ H x vs v us Q I rx rv h; obtain ⟨l, is, k, j, rfl, rfl, hS, hj, q⟩ := h
 cases rx
 obtain ⟨u, rfl, ru⟩ := rv.one
 obtain ⟨its, r, pl, hz⟩ := I.list hS
 obtain ⟨o, n, e, hcls, hdict, hdata⟩ := id pl
 obtain ⟨t, rfl⟩ := (show ∃ t, u = Value.int k t from ru)
 obtain ⟨hjl, hit, hno⟩ := List.findIdx?_eq_some_iff_getElem.mp hj
 have hlen : is.length = its.length := by rw [<- r.length, List.length_map]
 have at' : ∀ m (hm : m < its.length), ∃ t, its[m] = .int (is[m]'(by omega)) t := fun m hm => by
  obtain ⟨t, ht⟩ := qk r m (is[m]'(by omega)) (List.getElem?_eq_getElem _)
  rw [List.getElem?_eq_getElem hm] at ht
  exact ⟨t, Option.some.inj ht⟩
 obtain ⟨oc, odd, odt, osl⟩ := o
 have hsz := sizeLine_eq
 refine call_meets PySem.F.slot_list_index ⟨_, e, hcls⟩ PySem.F.entry_list_index (PySem.F.args_list_index_2 _ _) (SeqAt.list_indexAt l its.toArray n odd osl (.int k t) (isK k) j (by rw [List.size_toArray]; omega) (by have := hz; rw [List.length_map] at this; omega) ?_ ?_) ⟨?_, fun y hy => ?_, ?_⟩
 ·obtain ⟨t', e'⟩ := at' j (by omega)
  rw [List.getElem_toArray, e']
  exact hit
 ·intro m hm hmj
  rw [List.size_toArray] at hm
  obtain ⟨t', e'⟩ := at' m hm
  rw [List.getElem_toArray, e']
  have := hno m hmj
  simpa [isK] using this
 ·rw [e]
  cases (show oc = .type "list" from hcls)
  cases (show odt = .seq its.toArray n from hdata)
  rfl
 ·have hm : y ∈ its := by simpa using hy
  obtain ⟨m, hml, rfl⟩ := List.getElem_of_mem hm
  obtain ⟨t', e'⟩ := at' m hml
  rw [e']
  have z := zi (F := H) (x := .int (is[m]'(by omega))) (y := .int k) (A := X.A.in1) I (aY.refl H) (.int (is[m]'(by omega))) (.int k) (by simp [okE]) (by simp [okE]) rfl rfl ⟨t', rfl⟩ ⟨t, rfl⟩ (by show X.A.units + 1 + 40 < cLine; omega)
  have e2 : eqD (.int (is[m]'(by omega))) (.int k) = isK k (.int (is[m]'(by omega)) t') := by
   simp [eqD, isK]
  rw [e2] at z
  exact z
 ·exact ⟨.int j, H, I.tok _, ⟨_, rfl⟩, q⟩
variable {o e : Expr} {fo fe : ao -> M Dat} {apos cpos : Pos}
theorem wz (hu : X.A.units + 64 < cLine) (ho : DE K W false X o fo) (he : DE K W false X e fe) (hK : X.K = K := by rfl) (hbase : attributeBase o "index" X.env (eval o X.env) = eval o X.env := by rfl)
  (hfew : ((backTo cpos (starEach [e] X.env)).all (fun x => !x.1) && (backToKw cpos (keywordEach [] X.env)).all (fun x => x.1.isSome)
   && decide ([e].length + ([] : List Keyword).length + (if ([] : List Keyword).isEmpty then 0 else 1) < 30)) = true := by rfl)
  (hline : (apos.endLine == cpos.line) = true := by rfl) (hs : starEach [e] X.env = (false, eval e X.env) :: starEach [] X.env := by rfl) (hplain : (backTo cpos (starEach [] X.env)).any (·.1) = false := by rfl) :
  DE K W false X (.Call (.Attribute o "index" apos) [e] [] cpos) (pf fo fe) := by
 subst hK
 refine PE.imp (pe_bm PySem.F.plainAttrs_list PySem.F.slot_list_index PySem.F.type_list_index (mt_index hu) ho (aS he dk (by rw [hs])) hbase hfew hline hs hplain) fun σ H Q h => ?_
 show 'Ի'
 refine bC r s (fun e he => p.err (by unfold pf; rw [he]; rfl)) fun a ha x F1 H1 s1 q1 => ?_
 have ez : pf fo fe ρ = if isL a = true then (fe ρ).bind fun b => qC a b else stk := by unfold pf; rw [ha]; rfl
 rw [ez] at p
 have p := p.step s1
 cases a with
 | lst ds =>
  have p : aI X.K W false F1 H1 ((fe ρ).bind fun b => qC (.lst ds) b) Q := p
  obtain ⟨l, xs, ex, t, z⟩ := id q1
  subst ex
  refine ⟨.inl ⟨rfl, _, s1.fh.lst t⟩, ?_⟩
  refine bC (r.mono s1.ff) s1.fh (fun e he => p.err (by rw [he]; rfl)) fun b hb y F2 H2 s2 q2 => ?_
  rw [hb] at p
  have p : aI X.K W false F1 H1 (qC (.lst ds) b) Q := p
  have p := p.step s2
  cases b with
  | int k =>
   have p : aI X.K W false F2 H2 ((cR ds).bind fun xs => match qD xs k with
    | some j => .ok (.int j)
    | none => stk) Q := p
   cases hi : cR ds with
   | error e => rw [hi] at p; rw [lh hi] at p; exact aI.stuck p
   | ok is =>
    rw [hi] at p
    have p : aI X.K W false F2 H2 (match qD is k with
     | some j => .ok (.int j)
     | none => stk) Q := p
    have hx := jx z hi
    subst hx
    cases hj : qD is k with
    | none => rw [hj] at p; exact aI.stuck p
    | some j =>
     rw [hj] at p
     cases (show y = V.int k from q2)
     exact ⟨l, is, k, j, rfl, rfl, s2.fh.lst (s2.ff.lst t), hj, p (.int j) F2 H2 (Step.refl s2.fh) rfl⟩
  | _ => exact aI.stuck p
 | _ => exact aI.stuck p
end
end L2
namespace L2
open PySem PySem.Spec PyProof.Rows
noncomputable def wd : Dat -> M Dat
 | .str _ => .ok (.bl true)
 | .ins _ _ => stk
 | _ => .ok (.bl false)
section
variable {X : Cx} {K : PySem.W.Frag} {W : gF} {own : Bool} {a : Expr} {fa : ao -> M Dat} {pos p p2 : Pos}
theorem zL (kit : Kit K) (hK : X.K = K := by rfl) : dq X (.builtin "isinstance") (fun xs H Q => ∃ v, xs = [v, .ty "str"] /\ rD1 K W own wd v H Q) := by
 subst hK
 intro pins s σ H xs us Q I r h; obtain ⟨v, rfl, F, d, s1, q, p⟩ := h
 obtain ⟨u, w, rfl, ru, rw'⟩ := r.two
 cases (show w = Value.type "str" from rw')
 by_cases hi : ∃ C fs, d = .ins C fs
 ·obtain ⟨C, fs, rfl⟩ := hi
  exact aI.stuck p
 ·refine yU I s1 q ru kit.l0 kit.jm kit.ji kit.gX kit.kY kit.dv (fun k tk hk => ⟨.bl k, H, I.tok tk, rfl, ?_⟩) (fun C fs e => hi ⟨C, fs, e⟩)
  cases d <;> first | (have hk' : k = _ := hk; subst hk'; exact aI.bl (own := own) p s1) | exact absurd ⟨_, _, rfl⟩ hi
theorem de_isi_str (kit : Kit K) (hm : X.mg "isinstance" = none) (hmT : X.mg "str" = none) (ha : DE K W false X a fa) (hK : X.K = K := by rfl)
  (hg : Gl X "isinstance" := by rfl) (hgT : Gl X "str" := by rfl)
  (hst : starEach [a, .Name "str" p2] X.env = [(false, eval a X.env), (false, eval (.Name "str" p2) X.env)] := by rfl) (hst2 : starEach [.Name "str" p2] X.env = [(false, eval (.Name "str" p2) X.env)] := by rfl) (hpl : (backTo pos (starEach [.Name "str" p2] X.env)).any (·.1) = false := by rfl) :
  DE K W own X (.Call (.Name "isinstance" p) [a, .Name "str" p2] [] pos) (f1 wd fa) := u6 (zL kit hK) hm hmT (by decide +kernel) ha hg hgT (by decide) (by decide) hst hst2 hpl
end
end L2
namespace L2
open PySem PySem.Spec PyProof.Rows
noncomputable def rIsi (K : PySem.W.Frag) (C a : Addr) (R : Hp -> Prop) : List V -> Hp -> VK -> Prop := fun xs H Q => R H /\ ∃ v b, xs = [.ref a, v] /\
  ((∃ c, RelV v c /\ (∀ u, RelV v u -> u = c) /\ kitOne K (.ref C) c = some b) \/ ∃ (tp : Addr) (ys : List Addr), v = .ref tp /\ H tp = some (.tup (ys.map V.ref)) /\ kitAny K (.ref C) (ys.map Value.ref) = some b) /\ Q (.bl b) H
noncomputable def XDk (d : Addr) : Hp -> Prop := fun H => ∃ gs, H d = some (.xd gs)
noncomputable def tIsiR (i : Nat) (a : Addr) (R : Hp -> Prop) (b : Bool) : TE := fun σ H Q => σ[i]? = some (some (.ref a)) /\ R H /\ Q (.bl b) H
noncomputable def tIsiTR (i : Nat) (a : Addr) (R : Hp -> Prop) (ys : List Addr) (b : Bool) : TE := fun σ H Q => σ[i]? = some (some (.ref a)) /\ ∀ p, H p = none -> R (upd H p (.tup (ys.map V.ref))) /\ Q (.bl b) (upd H p (.tup (ys.map V.ref)))
section
variable {X : Cx} {C a d D : Addr} {oe : Obj} {B : String} {bmB : List Value} {R : Hp -> Prop}
theorem c_isiD (FB : ExcAttrBase B bmB) (Z : XIsi X.K C) (hc : oe.cls = .ref C) (hd : ∃ vs, oe.data = .fields vs) (hx : oe.dict = some d) : dq (X.hand a oe) (.builtin "isinstance") (rIsi X.K C a (XDk d)) := by
 intro pins s σ H xs us Q I r h; obtain ⟨⟨gs, hg⟩, v, b, rfl, h1, q⟩ := h
 show 'լ'
 obtain ⟨mA, ⟨od, es, ep, ho, hrest⟩, _⟩ := (show e6 X.prog X.w H s.heap d (.xd gs) from I.hok d _ hg)
 have J : PySem.W.InstAt s.heap a oe C (some od) := ⟨pa, hc, by unfold PySem.W.notCls; rw [hdt], by rw [hx]; exact ho⟩
 rcases h1 with ⟨c, rc, uniq, e⟩ | ⟨tp, ys, rfl, ht, e⟩
 ·cases uniq w rw'
  exact kia_one (oj FB Z) I.kIn J e (fun z => nomatch z) fun tk => ⟨.bl b, H, I.tok tk, rfl, q⟩
 ·cases (show w = Value.ref tp from rw')
  obtain ⟨_, its, rv, ob, z1, z2⟩ := (show e6 X.prog X.w H s.heap tp (.tup (ys.map V.ref)) from I.hok tp _ ht)
  show 'Շ'
end
section
variable {X : Cx} {C a D : Addr} {oe : Obj} {R : Hp -> Prop} {i : Nat} {n y : Str} {T : String} {p p1 p2 pos : Pos} {b : Bool} {ys : List Addr} {es : List Expr}
theorem pe_isO (hcr : dq (X.hand a oe) (.builtin "isinstance") (rIsi X.K C a R)) (hm : X.mg "isinstance" = none) (hD : X.mg y = some (.ref D)) (hb : kitOne X.K (.ref C) (.ref D) = some b)
  (hN : X.N[i]? = some n := by rfl) (hv : Vis X.env.scope n := by first | exact Or.inl rfl | exact Or.inr (Or.inl rfl) | exact Or.inr (Or.inr rfl)) (hd1 : (n == ("__debug__" : Str)) = false := by decide) (hd2 : (n == ("__classdict__" : Str)) = false := by decide)
  (hg : Gl (X.hand a oe) "isinstance" := by rfl) (hgD : Gl (X.hand a oe) y := by rfl) (hd3 : (y == ("__debug__" : Str)) = false := by decide)
  (hst : starEach [.Name n p1, .Name y p2] X.env = [(false, eval (.Name n p1) X.env), (false, eval (.Name y p2) X.env)] := by rfl) (hst2 : starEach [.Name y p2] X.env = [(false, eval (.Name y p2) X.env)] := by rfl) (hpl : (backTo pos (starEach [.Name y p2] X.env)).any (·.1) = false := by rfl) :
  PE (X.hand a oe) (.Call (.Name "isinstance" p) [.Name n p1, .Name y p2] [] pos) (tIsiR i a R b) := by
 show 'ն'
 refine PE.imp (fV (X := X.hand a oe) hcr hg hm boot_isinstance (aS (pv i hN hv hd1 hd2) (aS vD dk hst2) (by rw [hst, hst2])) (by decide) (by decide) (by rw [hst, hst2]) hpl) fun σ H Q h => ?_
 obtain ⟨e1, hR, q⟩ := h
 exact ⟨.ref a, e1, hR, .ref D, b, rfl, .inl ⟨.ref D, rfl, fun u hu => hu, hb⟩, q⟩
theorem pe_isB (hcr : dq (X.hand a oe) (.builtin "isinstance") (rIsi X.K C a R)) (hm : X.mg "isinstance" = none) (hmT : X.mg y = none) (hvT : bootBuiltins y = some (.type T)) (hb : kitOne X.K (.ref C) (.type T) = some b)
  (hN : X.N[i]? = some n := by rfl) (hv : Vis X.env.scope n := by first | exact Or.inl rfl | exact Or.inr (Or.inl rfl) | exact Or.inr (Or.inr rfl)) (hd1 : (n == ("__debug__" : Str)) = false := by decide) (hd2 : (n == ("__classdict__" : Str)) = false := by decide)
  (hg : Gl (X.hand a oe) "isinstance" := by rfl) (hgT : Gl (X.hand a oe) y := by rfl) (hy : y ≠ "__name__" := by decide) (hd3 : (y == ("__debug__" : Str)) = false := by decide)
  (hst : starEach [.Name n p1, .Name y p2] X.env = [(false, eval (.Name n p1) X.env), (false, eval (.Name y p2) X.env)] := by rfl) (hst2 : starEach [.Name y p2] X.env = [(false, eval (.Name y p2) X.env)] := by rfl) (hpl : (backTo pos (starEach [.Name y p2] X.env)).any (·.1) = false := by rfl) :
  PE (X.hand a oe) (.Call (.Name "isinstance" p) [.Name n p1, .Name y p2] [] pos) (tIsiR i a R b) := by
 refine PE.imp (fV (X := X.hand a oe) hcr hg hm boot_isinstance (aS (pv i hN hv hd1 hd2) (aS (yr (X := X.hand a oe) (pos := p2) hgT hmT hvT hy hd3) dk hst2) (by rw [hst, hst2])) (by decide) (by decide) (by rw [hst, hst2]) hpl) fun σ H Q h => ?_
 obtain ⟨e1, hR, q⟩ := h
 exact ⟨.ref a, e1, hR, .ty T, b, rfl, .inl ⟨.type T, rfl, fun u hu => hu, hb⟩, q⟩
theorem pe_isT {j} (hcr : dq (X.hand a oe) (.builtin "isinstance") (rIsi X.K C a R)) (hm : X.mg "isinstance" = none) (hT : PA (X.hand a oe) es (xW ys)) (hl : ys.length <= sizeLine) (hb : kitAny X.K (.ref C) (ys.map Value.ref) = some b)
  (hN : X.N[i]? = some n := by rfl) (hv : Vis X.env.scope n := by first | exact Or.inl rfl | exact Or.inr (Or.inl rfl) | exact Or.inr (Or.inr rfl)) (hd1 : (n == ("__debug__" : Str)) = false := by decide) (hd2 : (n == ("__classdict__" : Str)) = false := by decide)
  (hg : Gl (X.hand a oe) "isinstance" := by rfl)
  (hst : starEach [.Name n p1, .Tuple es j p2] X.env = [(false, eval (.Name n p1) X.env), (false, eval (.Tuple es j p2) X.env)] := by rfl) (hst2 : starEach [.Tuple es j p2] X.env = [(false, eval (.Tuple es j p2) X.env)] := by rfl) (hpl : (backTo pos (starEach [.Tuple es j p2] X.env)).any (·.1) = false := by rfl) :
  PE (X.hand a oe) (.Call (.Name "isinstance" p) [.Name n p1, .Tuple es j p2] [] pos) (tIsiTR i a R ys b) := by
 refine PE.imp (fV (X := X.hand a oe) hcr hg hm boot_isinstance (aS (pv i hN hv hd1 hd2) (aS (yt hT) dk hst2) (by rw [hst, hst2])) (by decide) (by decide) (by rw [hst, hst2]) hpl) fun σ H Q h => ?_
 obtain ⟨e1, q⟩ := h
 exact ⟨.ref a, e1, by rw [List.length_map]; exact hl, fun tp htp => ⟨(q tp htp).1, .ref tp, b, rfl, .inr ⟨tp, ys, rfl, av, hb⟩, (q tp htp).2⟩⟩
end
end L2
namespace L2
open PySem PySem.Spec PyProof.Rows
end L2
namespace L2
open PySem PySem.Spec PyProof.Rows
structure Yd (P : Program) (w : World) (K : PySem.W.Frag) (mg : Str -> Option Value) (base : Heap) (CX : CXT) (k : Nat) (x : Str) (st : Stmt) (ps : List Str) (sp : Sp) (f : Addr) (fd : FuncData) : Prop where
 d : Def K mg x st ps f fd
 o : cJ P w K mg base CX k f fd ps sp
end L2
namespace L2
open PySem PySem.Spec PyProof.Rows
section
open PySem.W
variable {M : Model} {A : Around} {E : Value -> Shared -> Prop} {h : Heap} {g : Array GenState} {d : Drawn} {t : Nat} {os : OsState} {a C Cb : Addr} {oe : Obj} {K : Frag}
end
structure XUnder (K : PySem.W.Frag) (C Cb : Addr) : Prop where
 sub : PySem.W.mroIn K C (.ref Cb) = some true
 isi : XIsi K C
structure zW (K : PySem.W.Frag) (mg : Str -> Option Value) (x : Str) (Cb : Addr) : Prop where
 mg : mg x = some (.ref Cb)
 ty : PySem.W.typeIn K (.ref Cb) = some (.type "type")
 bs : PySem.W.mroIn K Cb (.type "BaseException") = some true
noncomputable def XR : Option Addr -> Hp -> Prop
 | none => fun _ => True
 | some d => XDk d
section
variable {X : Cx} {C a : Addr} {oe : Obj} {B : String} {bmB : List Value}
theorem c_isiA (FB : ExcAttrBase B bmB) (Z : XIsi X.K C) (hc : oe.cls = .ref C) (hd : ∃ vs, oe.data = .fields vs) : dq (X.hand a oe) (.builtin "isinstance") (rIsi X.K C a (XR oe.dict)) := by
 cases hx : oe.dict with
 | none => exact fun pins s σ H xs us Q I r h => wI FB Z hc hd hx pins s σ H xs us Q I r h.2
 | some d => exact c_isiD FB Z hc hd hx
end
structure XTell (K : PySem.W.Frag) (C : Addr) (A1 A2 A3 : Addr) (T : String) (ys : List Addr) (bs : List Bool) : Prop where
 ex : ∃ b1 b2 b3 b4 b5, bs = [b1, b2, b3, b4, b5] /\ kitOne K (.ref C) (.ref A1) = some b1 /\ kitOne K (.ref C) (.ref A2) = some b2 /\ kitOne K (.ref C) (.ref A3) = some b3 /\ kitOne K (.ref C) (.type T) = some b4 /\ kitAny K (.ref C) (ys.map Value.ref) = some b5
structure XTxt (K : PySem.W.Frag) (mg : Str -> Option Value) (x : Str) (C : Addr) : Prop where
 mg : mg x = some (.ref C)
 ex : PySem.W.excIn K C [.type "ValueError", .type "Exception", .type "BaseException", .type "object"] "ValueError.__new__" = true
end L2
namespace L2
open PySem PySem.Spec PyProof.Rows
section
open PySem.W
variable {M : Model} {A : Around} {E : Value -> Shared -> Prop} {h : Heap} {g : Array GenState} {d : Drawn} {t : Nat} {os : OsState} {a C Cb : Addr} {oe : Obj} {K : Frag}
theorem uB {b : Bool} {Q : Bool -> Shared -> Prop} (kX : K.In h) (he : h.get? a = some oe) (hc : oe.cls = .ref C) (hT : typeIn K (.ref Cb) = some (.type "type")) (hB : mroIn K Cb (.type "BaseException") = some true) (hS : mroIn K C (.ref Cb) = some b) (hq : Q b ⟨h, g, d, t, os⟩) :
  wpAny M A (excMatches (.ref a) (.ref Cb)) Q E ⟨h, g, d, t, os⟩ := by
 have f := tc_notTuple
 have m1 := looks_mroIn (M := M) kX hB
 have m2 := looks_mroIn (M := M) kX hS
 have m3 := looks_typeIn (M := M) kX hT
 obtain ⟨ob, hb, hcb⟩ : ∃ ob, h.get? Cb = some ob /\ ob.cls = .type "type" := by
  unfold typeIn at hT
  cases q : K.lookup Cb with
  | none => simp only [q] at hT; cases hT
  | some o => simp only [q] at hT; exact ⟨o, kX _ _ q, by simpa using hT⟩
 have cl : ∃ cd, ob.data = .cls cd := by
  unfold mroIn clsIn at hB
  cases q : K.lookup Cb with
  | none => simp only [q] at hB; cases hB
  | some o =>
   have := kX _ _ q
   rw [hb] at this
   cases this
   simp only [q] at hB
   split at hB
   ·next z => cases z; exact ⟨_, rfl⟩
   ·cases hB
 obtain ⟨cd, hcd⟩ := cl
 obtain ⟨oc, od, odt, osl⟩ := ob
 dsimp only at hcb hcd
 subst hcb hcd
 unfold excMatches
 cases b <;> (repeat (first | (with_reducible refine wpAny_loadPart_at he ?_; rw [hc]) | with_reducible refine wpAny_loadPart_at hb ?_ | with_reducible refine m1.at ?_ | with_reducible refine m2.at ?_ | with_reducible refine m3.at ?_ | wp_step)) <;> exact hq
end
section
variable {X : Cx} {pins : List (Addr × Obj)} {σ : St} {H : Hp} {s : Shared} {a T C Cb : Addr} {dx : Option Addr} {c n : Str} {i : Nat} {np pos : Pos} {b₀ : Stmt} {suite : List Stmt} {ts : TS} {D : Ends} {rest : List ExceptHandler} {nm : Option Str} {body : List Stmt}
theorem at_pass (I : Inv X pins σ H s) (x : ExA s.heap a (.ref C) dx (some T)) (ap : Apart X pins H s a (some T)) (hC : PySem.W.mroIn X.K C (.ref Cb) = some false) (hB : zW X.K X.mg c Cb) (hg : Gl X c)
  (h : wpAny (model X.prog X.w) X.A (handleBy (.ref a) X.env rest) (SP X pins D) X.xe s) (hdb : (c == ("__debug__" : Str)) = false := by decide) :
  wpAny (model X.prog X.w) X.A (handleBy (.ref a) X.env (.ExceptHandler (some (.Name c np)) nm body pos :: rest)) (SP X pins D) X.xe s := by
 show 'Ձ'
 have kX := I.kIn
 obtain ⟨hh, gg, d, tk, os⟩ := s
 exact uB kX he hcl hB.ty hB.bs hC h
theorem at_bare (I : Inv X pins σ H s) (x : ExA s.heap a (.ref C) dx (some T)) (ap : Apart X pins H s a (some T)) (hex : X.ex = []) (hC : PySem.W.mroIn X.K C (.ref Cb) = some true) (hB : zW X.K X.mg c Cb) (hg : Gl X c)
  (hs : ∀ oe : Obj, PSs (X.hand a oe) (b₀ :: suite) ts) (q : ts D σ H) (hdb : (c == ("__debug__" : Str)) = false := by decide) :
  wpAny (model X.prog X.w) X.A (handleBy (.ref a) X.env (.ExceptHandler (some (.Name c np)) none (b₀ :: suite) pos :: rest)) (SP X pins D) X.xe s := by
 show 'Ձ'
 have e0 := I.env0
 have kX := I.kIn
 obtain ⟨hh, gg, d, tk, os⟩ := s
 refine uB kX he hcl hB.ty hB.bs hC (codeAny_handlers_suite (tV (base := X.base) (l := X.stack) e0.sP x fun h' x' lf ea => ?_))
 have I2 := I.left hex x ap lf
 have J2 := I2.hand (by rw [ea]; exact he) hdt ap.na ap.fa
 refine wpAny_mono (hs oe pins _ _ H D J2 q) (fun f s4 z => ?_) fun _ _ z => z.elim
 cases f with
 | ret u =>
  obtain ⟨v, σ', H', J4, r, q4⟩ := z
  exact ⟨v, σ', H', J4.vN I.ok, r, q4⟩
 | _ =>
  obtain ⟨σ', H', J4, q4⟩ := z
  exact ⟨σ', H', J4.vN I.ok, q4⟩
theorem at_as (I : Inv X pins σ H s) (x : ExA s.heap a (.ref C) dx (some T)) (ap : Apart X pins H s a (some T)) (hex : X.ex = []) (hC : PySem.W.mroIn X.K C (.ref Cb) = some true) (hB : zW X.K X.mg c Cb)
  (hg : Gl X c) (hN : X.N.Nodup) (hi : X.N[i]? = some n) (hk : X.env.scope.names.lookup n = some .local)
  (hs : ∀ oe : Obj, oe.cls = .ref C -> oe.dict = dx -> (∃ vs, oe.data = .fields vs) -> PSs (X.hand a oe) (b₀ :: suite) ts) (q : ts (D.less i) (σ.set i (some (.ref a))) H) (hdb : (c == ("__debug__" : Str)) = false := by decide) :
  wpAny (model X.prog X.w) X.A (handleBy (.ref a) X.env (.ExceptHandler (some (.Name c np)) (some n) (b₀ :: suite) pos :: rest)) (SP X pins D) X.xe s := by
 show 'Ձ'
 have e0 := I.env0
 have kX := I.kIn
 obtain ⟨hh, gg, d, tk, os⟩ := s
 refine uB kX he hcl hB.ty hB.bs hC (codeAny_handlers_suite_as (tV (base := X.base) (l := X.stack) e0.sP x fun h' x' lf ea => ?_))
 have I2 := I.left hex x ap lf
 have J2 := I2.hand (by rw [ea]; exact he) hdt ap.na ap.fa
 refine og (X := X.hand a oe) J2 hN hi (.inl hk) (v := .ref a) rfl (fun s3 J3 => ?_) (.inr hk)
 refine wpAny_mono (hs oe hcl hdx ⟨vs, hdt⟩ pins s3 _ H (D.less i) J3 q) (fun f s4 z => ?_) fun _ _ z => z.elim
 cases f with
 | ret u =>
  obtain ⟨v, σ', H', J4, r, q4⟩ := z
  exact za (J4.vN I.ok) hN hi hk fun s5 I5 => ⟨v, _, H', I5, r, q4⟩
 | _ =>
  obtain ⟨σ', H', J4, q4⟩ := z
  exact za (J4.vN I.ok) hN hi hk fun s5 I5 => ⟨_, H', I5, q4⟩
end
structure XTwo (K : PySem.W.Frag) (mg : Str -> Option Value) (c1 c2 : Str) (C1 C2 : Addr) : Prop where
 b1 : zW K mg c1 C1
 b2 : zW K mg c2 C2
 isi : XIsi K C1
 s1 : PySem.W.mroIn K C1 (.ref C1) = some true
 s2 : PySem.W.mroIn K C2 (.ref C2) = some true
 no : PySem.W.mroIn K C2 (.ref C1) = some false
noncomputable def EH2 (i : Nat) (C1 C2 : Addr) (ts : Addr -> Option Addr -> TS) (t2 : TS) (D : Ends) (σ : St) : XK := fun Cv dx H' => (Cv = .ref C1 /\ ∀ a, H' a = none -> ts a dx (D.less i) (σ.set i (some (.ref a))) H') \/ (Cv = .ref C2 /\ t2 D σ H')
section
variable {X : Cx} {C1 C2 : Addr} {c1 c2 n : Str} {i : Nat} {np hpos np2 hpos2 pos : Pos} {b₀ b2 : Stmt} {body suite suite2 : List Stmt} {ts : Addr -> Option Addr -> TS} {t2 : TS} {tb : XK -> TS}
theorem ps_try2 (hb : ∀ (pins : List (Addr × Obj)) (σ : St) (E : XK) (xe : Value -> Shared -> Prop), mZ (CXd X.prog X.w) (X.sU xe) pins σ E -> PSsAt (X.sU xe) pins σ body (tb E))
  (hs : ∀ (a : Addr) (oe : Obj), oe.cls = .ref C1 -> (∃ vs, oe.data = .fields vs) -> PSs (X.hand a oe) (b₀ :: suite) (ts a oe.dict)) (hs2 : ∀ (a : Addr) (oe : Obj), PSs (X.hand a oe) (b2 :: suite2) t2)
  (Z : XTwo X.K X.mg c1 c2 C1 C2) (hN : X.N.Nodup) (hi : X.N[i]? = some n := by rfl) (hk : X.env.scope.names.lookup n = some .local := by rfl)
  (hg : Gl X c1 := by rfl) (hg2 : Gl X c2 := by rfl) (hex : X.ex = [] := by rfl) (hstk : X.stack = X.env :: X.outer := by rfl) (hfr : X.env.frame = some X.env.locals := by rfl) (hdb : (c1 == ("__debug__" : Str)) = false := by decide) (hdb2 : (c2 == ("__debug__" : Str)) = false := by decide) :
  PS X (.Try body [.ExceptHandler (some (.Name c1 np)) (some n) (b₀ :: suite) hpos, .ExceptHandler (some (.Name c2 np2)) none (b2 :: suite2) hpos2] [] [] pos) (fun D σ H => tb (EH2 i C1 C2 ts t2 D σ) D σ H) := by
 show 'Փ'
 refine wpAny_Try_except (thn (hb pins σ (EH2 i C1 C2 ts t2 D σ) (fun e s₁ => wpAny (model X.prog X.w) X.A (noteFrame e X.env) (fun _ s₂ => wpAny (model X.prog X.w) X.A (setFlight e none) (fun _ s₃ => wpAny (model X.prog X.w) X.A (handleBy e X.env [.ExceptHandler (some (.Name c1 np)) (some n) (b₀ :: suite) hpos, .ExceptHandler (some (.Name c2 np2)) none (b2 :: suite2) hpos2]) (SP X pins D) X.xe s₃) X.xe s₂) X.xe s₁) ?_ s H D (I.sU _) h) fun f s1 z => ?_)
 ·rintro H1 s1 e s' I1' ⟨a, T, Cv, dx, H', rfl, z⟩
  have I1 := I1'.kG
  have J : Inv X pins σ H' s' := I1.call' z.os z.un z.hok z.bare (fun _ h => nomatch h)
  have off : ∀ b, s1.heap.get? b = none -> ∀ p ∈ X.pn ++ pins, p.1 ≠ b := fun b e p hp w => by
   have := (I1.pin p hp).1
   rw [w, e] at this
   cases this
  have ap : Apart X pins H' s' a (some T) := ⟨I1.mB hex z.na, z.fa, off a z.na, fun T' hT => by cases hT; exact ⟨I1.mB hex z.nT, z.fT, off T z.nT⟩⟩
  have e0 := J.env0
  have f1 := e0.frames
  have f2 := e0.sP
  rw [hstk] at f1 f2
  refine leave2 (base := X.base) f1 f2 hfr z.ex fun h' T2 x' hT lf => ?_
  rw [<- hstk] at lf
  have I2 := J.left hex z.ex ap lf
  have ap2 : Apart X pins H' { s' with heap := h' } a (some T2) := ⟨ap.na, ap.fa, ap.pa, fun T' hT' => by
   cases hT'
   refine ⟨get_none (Nat.le_trans J.sz hT), J.hok.fresh hT, fun p hp w => ?_⟩
   have := Heap.lt_size (J.pin p hp).1
   rw [w] at this
   exact absurd this (Nat.not_lt.mpr hT)⟩
  rcases z.want with ⟨ec, q⟩ | ⟨ec, q⟩
  ·subst ec
   exact at_as I2 x' ap2 hex Z.s1 Z.b1 hg hN hi hk (fun oe h1 h2 h3 => by rw [<- h2]; exact hs a oe h1 h3) (q a z.fa) hdb
  ·subst ec
   exact at_pass I2 x' ap2 Z.no Z.b1 hg (at_bare I2 x' ap2 hex Z.s2 Z.b2 hg2 (hs2 a) q hdb2) hdb
 ·have z := SP.kG z
  cases f with
  | next => exact wpAny_execs_nil z
  | _ => exact z
end
noncomputable def rIntB : List V -> Hp -> VK -> Prop := fun xs H Q => (∃ i, xs = [.int i] /\ Q (.int i) H) \/ ∃ k, xs = [.bl k] /\ Q (.int (if k then 1 else 0)) H
noncomputable def tTwo (K : PySem.W.Frag) (i j o : Nat) (ys : List Addr) (a : Addr) (dx : Option Addr) : TS :=
 tSeq (wW (tIsiTR i a (XR dx) ys false) (mP o)) (wW (tOp (rIxL K) (tLst (t5 (tC (.int 1)) (t5 (tC (.int 3)) tNil))) (tCB rIntB (t5 (tAndV (tIsiR i a (XR dx) true) (tAndV (tIsiR i a (XR dx) true) (tNotV (tVar o)))) tNil))) (mP j))
noncomputable def oG (i j o : Nat) (C1 C2 : Addr) (fb : ao -> M Flo) : ao -> M Flo := fun ρ => match fb ρ with
 | .ok fl => .ok fl
 | .error (.exc C fs) => if C = C1 /\ fs = [] then .ok (.nx ((((ρ.set i none).set o (some (.bl false))).set j (some (.int 3))).set i none)) else if C = C2 then .ok (.nx (ρ.set j (some (.int 2)))) else .error .stuck
 | .error _ => .error .stuck
theorem zm {i j o : Nat} {C1 C2 : Addr} {fb : ao -> M Flo} {ρ : ao} {fl : Flo} (h : fb ρ = .ok fl) : oG i j o C1 C2 fb ρ = .ok fl := by unfold oG; rw [h]
theorem wu {i j o : Nat} {C1 C2 : Addr} {fb : ao -> M Flo} {ρ : ao} (h : fb ρ = .error (.exc C1 [])) : oG i j o C1 C2 fb ρ = .ok (.nx ((((ρ.set i none).set o (some (.bl false))).set j (some (.int 3))).set i none)) := by unfold oG; rw [h]; exact if_pos ⟨rfl, rfl⟩
theorem wt {i j o : Nat} {C1 C2 : Addr} {fb : ao -> M Flo} {ρ : ao} {fs : List (Str × Dat)} (h : fb ρ = .error (.exc C2 fs)) (hn : C2 ≠ C1) : oG i j o C1 C2 fb ρ = .ok (.nx (ρ.set j (some (.int 2)))) := by unfold oG; rw [h]; dsimp only; rw [if_neg (fun z => hn z.1), if_pos rfl]
section
variable {K : PySem.W.Frag} {ro : Bool} {F0 H0 FB F H : Hp} {OL : List Nat} {D : Ends} {σ : St} {ρ : ao} {i j o : Nat} {a : Addr} {ys : List Addr} {C1 C2 : Addr} {fb : ao -> M Flo}
theorem Rep.forget (r : Rep K F0 H0 FB [] F H σ ρ) (i : Nat) (x : Option V) : Rep K F0 H0 FB [] F H (σ.set i x) (ρ.set i none) := by
 refine ⟨r.st, r.fb, by simp only [List.length_set]; exact r.len, fun m d e _ => ?_, (fun m d e h => nomatch h), (fun m n d1 d2 c h => nomatch h)⟩
 by_cases hm : i = m
 ·subst hm
  by_cases hl : i < ρ.length
  ·rw [List.getElem?_set_self hl] at e; cases e
  ·rw [List.getElem?_eq_none (by rw [List.length_set]; omega)] at e; cases e
 ·rw [List.getElem?_set_ne hm] at e ⊢
  exact r.fz m d e (by simp)
theorem Rep.putN {v : V} {d : Dat} (r : Rep K F0 H0 FB [] F H σ ρ) (j : Nat) (h : bT K F d v) : Rep K F0 H0 FB [] F H (σ.set j (some v)) (ρ.set j (some d)) := by
 refine ⟨r.st, r.fb, by simp only [List.length_set]; exact r.len, fun m d' e _ => ?_, (fun m d e h => nomatch h), (fun m n d1 d2 c h => nomatch h)⟩
 by_cases hm : j = m
 ·subst hm
  by_cases hl : j < ρ.length
  ·rw [List.getElem?_set_self hl] at e; cases e
   exact ⟨v, by rw [List.getElem?_set_self (by have := r.len; omega)], h⟩
  ·rw [List.getElem?_eq_none (by rw [List.length_set]; omega)] at e; cases e
 ·rw [List.getElem?_set_ne hm] at e ⊢
  exact r.fz m d' e (by simp)
theorem rs_two (r : Rep K F0 H0 FB [] F H σ ρ) (hio : i ≠ o) (hi : i < σ.length) (ho : o < σ.length) (q : kM K Wno ro F0 H0 FB OL [] D (.ok (.nx ((((ρ.set i none).set o (some (.bl false))).set j (some (.int 3))).set i none)))) :
  tTwo K i j o ys a none (D.less i) (σ.set i (some (.ref a))) H := by
 have hz := sizeLine_eq
 have e1 : (σ.set i (some (.ref a)))[i]? = some (some (.ref a)) := by rw [List.getElem?_set_self hi]
 refine ⟨e1, fun p hp => ⟨trivial, ?_⟩⟩
 have e2 : ((σ.set i (some (.ref a))).set o (some (.bl false)))[i]? = some (some (.ref a)) := by rw [List.getElem?_set_ne (Ne.symm hio)]; exact e1
 have e3 : ((σ.set i (some (.ref a))).set o (some (.bl false)))[o]? = some (some (.bl false)) := by rw [List.getElem?_set_self (by rw [List.length_set]; exact ho)]
 refine ⟨by show 2 <= sizeLine; omega, fun l hl => ⟨e2, trivial, true, rfl, ?_⟩⟩
 rw [if_pos rfl]
 refine ⟨e2, trivial, true, rfl, ?_⟩
 rw [if_pos rfl]
 refine ⟨.bl false, e3, false, rfl, .inr ⟨true, rfl, l, [.int 1, .int 3], 1, .int 3, rfl, rfl, SqL.of av, rfl, ?_⟩⟩
 have hlH : H l = none := by
  by_cases e : l = p
  ·subst e; exact hp
  ·rw [au e] at hl; exact hl
 have st : Step F H F (upd (upd H p (.tup (ys.map V.ref))) l (.lst [.int 1, .int 3])) := (Step.grow r.st.fh hp).trans (Step.grow (r.st.fh.trans (aY.upd hp)) hl)
 exact q _ F _ (((((r.step st).forget i (some (.ref a))).putN (v := .bl false) (d := .bl false) o rfl).putN (v := .int 3) (d := .int 3) j rfl).forget i none)
theorem rs_try2 (hne : C2 ≠ C1) (hio : i ≠ o) (hi : i < σ.length) (ho : o < σ.length) (t : tS K Wno ro F0 H0 OL [] [] (oG i j o C1 C2 fb) D σ H) :
  ∃ F1 H1, tS K (WE K (EH2 i C1 C2 (tTwo K i j o ys) (wW (tC (.int 2)) (mP j)) D σ)) ro F1 H1 OL [] [] fb D σ H := by
 show 'Չ'
 refine ⟨F, H, FB, F, ρ, ⟨Step.refl r.st.fh, r.fb, r.len, r.fz, (fun m d e h => nomatch h), (fun m n d1 d2 c h => nomatch h)⟩, ?_⟩
 cases e : fb ρ with
 | ok fl =>
  rw [zm e] at p
  cases fl with
  | rt d => exact fun v F' H' s' q => p v F' H' (r.st.trans s') (q.back r.st.hh)
  | _ ρ' => exact fun σ' F' H' r' => p σ' F' H' (r'.back r.st)
 | error x =>
  cases x with
  | stuck => exact p.stuck (by unfold oG; rw [e])
  | exc C fs =>
   by_cases h1 : C = C1 /\ fs = []
   ·obtain ⟨rfl, rfl⟩ := h1
    rw [wu e] at p
    exact fun F' H' s' => .inl ⟨rfl, fun a _ => rs_two (r.step s') hio hi ho p⟩
   ·by_cases h2 : C = C2
    ·subst h2
     rw [wt e hne] at p
     have fin : ∀ F' H', Step F H F' H' -> wW (tC (.int 2)) (mP j) D σ H' := fun F' H' s' => p _ F' H' ((r.step s').putN (v := .int 2) (d := .int 2) j rfl)
     cases fs with
     | nil => exact fun F' H' s' => .inr ⟨rfl, fin F' H' s'⟩
     | cons f fs => exact fun F' H' s' d gs hd df => .inr ⟨rfl, fin F' H' s'⟩
    ·exact p.stuck (by unfold oG; rw [e]; dsimp only; rw [if_neg h1, if_neg h2])
end
section
variable {X : Cx} {K : PySem.W.Frag} {ro : Bool} {OL : List Nat} {C1 C2 : Addr} {c1 c2 n ot : Str} {ys : List Addr} {i j o : Nat} {np hpos np2 hpos2 pos : Pos} {b₀ b2 : Stmt} {body suite suite2 : List Stmt} {fb : ao -> M Flo}
theorem ds_try2 (hb : ∀ (pins : List (Addr × Obj)) (σ : St) (E : XK) (xe : Value -> Shared -> Prop), mZ (CXd X.prog X.w) (X.sU xe) pins σ E -> DSat K E ro (X.sU xe) OL [] [] pins σ body fb)
  (Z : XTwo X.K X.mg c1 c2 C1 C2) (hne : C2 ≠ C1) (hN : X.N.Nodup)
  (hs : ∀ (a : Addr) (oe : Obj), dq (X.hand a oe) (.builtin "isinstance") (rIsi X.K C1 a (XR oe.dict)) -> PSs (X.hand a oe) (b₀ :: suite) (tTwo X.K i j o ys a oe.dict)) (hs2 : ∀ (a : Addr) (oe : Obj), PSs (X.hand a oe) (b2 :: suite2) (wW (tC (.int 2)) (mP j)))
  (hK : X.K = K := by rfl) (hio : i ≠ o := by decide) (hi : X.N[i]? = some n := by rfl) (ho : X.N[o]? = some ot := by rfl) (hk : X.env.scope.names.lookup n = some .local := by rfl)
  (hg : Gl X c1 := by rfl) (hg2 : Gl X c2 := by rfl) (hex : X.ex = [] := by rfl) (hstk : X.stack = X.env :: X.outer := by rfl) (hfr : X.env.frame = some X.env.locals := by rfl) (hdb : (c1 == ("__debug__" : Str)) = false := by decide) (hdb2 : (c2 == ("__debug__" : Str)) = false := by decide) :
  DS K Wno ro X OL [] [] (.Try body [.ExceptHandler (some (.Name c1 np)) (some n) (b₀ :: suite) hpos, .ExceptHandler (some (.Name c2 np2)) none (b2 :: suite2) hpos2] [] [] pos) (oG i j o C1 C2 fb) := fun F0 H0 pins s σ H D I z => by
 subst hK
 refine ps_try2 (tb := fun E D σ H => ∃ F1 H1, tS X.K (WE X.K E) ro F1 H1 OL [] [] fb D σ H) (ts := tTwo X.K i j o ys) (t2 := wW (tC (.int 2)) (mP j)) (fun pins σ E xe hp s H D I ⟨F1, H1, q⟩ => hb pins σ E xe hp F1 H1 s H D I q) (fun a oe hc hd => hs a oe (c_isiA F.attrBase_ValueError Z.isi hc hd)) hs2 Z hN hi hk hg hg2 hex hstk hfr hdb hdb2 pins s σ H D I ?_
 exact rs_try2 hne hio (by rw [I.len]; exact (List.getElem?_eq_some_iff.mp hi).1) (by rw [I.len]; exact (List.getElem?_eq_some_iff.mp ho).1) z
end
end L2
namespace L2
open PySem PySem.Spec PyProof.Rows
theorem xq : typeLookup (.type "list_reverseiterator") "__len__" = pure none := by rw [typeLookup_type, builtinLookup_eq_fast]; kernel_rfl
theorem lri_hint : typeLookup (.type "list_reverseiterator") "__length_hint__" = pure (some (.builtin "list_reverseiterator.__length_hint__")) := by rw [typeLookup_type, builtinLookup_eq_fast]; kernel_rfl
theorem lri_self : isSubtype (.type "list_reverseiterator") (.type "list_reverseiterator") = pure true := by rw [isSubtype_type]; kernel_rfl
theorem boot_reversed : bootBuiltins "reversed" = some (.type "reversed") := by decide +kernel
section
variable {P : Program} {w : World} {A : Around} {E : Value -> Shared -> Prop} {Q : Value -> Shared -> Prop} {s : Shared} {R l : Addr} {items : Array Value}
theorem sC (hh : A.handled = none) (it : s.heap.IsRevIter R l ((items.size : Int) - 1)) (hl : s.heap.IsList l items) (hne : l ≠ R) (hn : items.size <= sizeLine)
  (fin : ∀ h' tk acc c, (∀ b o, b ≠ R -> s.heap.get? b = some o -> h'.get? b = some o) -> h'.get? s.heap.objs.size = some { cls := .type "list", dict := none, data := .seq acc c, slots := #[] } -> ItemsOf (fun i v => items[items.size - 1 - i]? = some v) acc items.size -> Q (.ref s.heap.objs.size) { s with heap := h', toks := tk }) :
  wpAny (model P w) A (call (.type "list") [.ref R]) Q E s := by
 have lo : ∀ {b o}, s.heap.get? b = some o -> s.heap.objs.size ≠ b := fun e z => Nat.lt_irrefl _ (z ▸ Heap.lt_size e)
 have hR : s.heap.objs.size ≠ R := it.elim fun _ t => lo t.1
 have hL : s.heap.objs.size ≠ l := hl.elim fun _ t => lo t.1
 refine callType_codes (Q₁ := fun u s₁ => u = .ref s.heap.objs.size /\ s₁ = { s with heap := s.heap.push { cls := .type "list", data := .seq #[] } }) F.called_list (F.typeCall_list_1 _) F.entry_list_init (code_list_new _ ⟨rfl, rfl⟩) fun u s₁ h₁ => ?_
 obtain ⟨rfl, rfl⟩ := h₁
 have e0 : (s.heap.push { cls := .type "list", data := .seq #[] }).get? s.heap.objs.size = some { cls := .type "list", data := .seq #[] } := Heap.get?_push_size _ rfl
 refine ⟨⟨_, e0, rfl⟩, F.args_list_init_2 _ _, ?_⟩
 refine wpAny_bind (wpAny_bind (wpAny_seqItems e0 rfl (wpAny_pure ?_)))
 refine wpAny_bind (wpAny_updateSeq e0 rfl ?_)
 have e1 := Heap.get?_update_self (Obj.mapSeq fun _ => (#[] : Array Value)) e0 rfl
 have kp : ∀ b o, s.heap.get? b = some o -> ((s.heap.push { cls := .type "list", data := .seq #[] }).update s.heap.objs.size (Obj.mapSeq fun _ => (#[] : Array Value))).get? b = some o := fun b o e => (Heap.get?_update_other _ _ (lo e)).trans (Heap.get?_push_of_some _ e)
 have it1 := it.at (kp R)
 have hl1 := hl.at (kp l)
 have ty : Shared.TypeIs { s with heap := (s.heap.push { cls := .type "list", data := .seq #[] }).update s.heap.objs.size (Obj.mapSeq fun _ => (#[] : Array Value)) } (.ref R) "list_reverseiterator" := it1.typeIs
 have other : Builtin.List.listSameRef (.ref s.heap.objs.size) (.ref R) = false := by simpa [Builtin.List.listSameRef] using hR
 refine wpAny_bind (wpAny_letGo (wpAny_bind (wpAny_typeOf ty ?_)))
 rw [other, if_neg (by decide)]
 refine wpAny_bind (wpAny_pyIter_revIter it1 (wpAny_bind (wpAny_holding ?_)))
 refine wpAny_bind (wpAny_specialOf ty xq (wpAny_bind (wpAny_specialOf (name := Str.ofString "__length_hint__") ty lri_hint ?_)))
 wp_delta
 refine wpAny_bind (wpAny_isInstance (T := "list_reverseiterator") (b := true) ty lri_self ?_)
 refine wpAny_pure ?_
 rw [if_neg (by decide)]
 refine wpAny_pure ⟨plainId_quiet F.plain_extend_loop _, codeAny_extend_loopS (Walks.listRev (A := A.in1.in1) hh R l hne items).toS hn _ (by simp only [List.mem_cons, List.not_mem_nil, or_false, not_or]; exact ⟨hR, hL⟩) _ items.size 0 _ _ _ rfl (Nat.zero_le _) ⟨Nat.zero_le _, by simpa using it1, hl1⟩ e1 (ItemsOf.nil _) fun s' acc' c' hm hS' hacc => ⟨rfl, ?_⟩⟩
 rw [Moved.eq_with hm]
 refine fin s'.heap s'.toks acc' c' (fun b o hb e => hm.heap b o (fun z => ?_) (kp b o e)) hS' hacc
 simp only [List.mem_cons, List.not_mem_nil, or_false] at z
 exact z.elim (fun z => lo e z.symm) hb
end
theorem rev_vals {xs : List V} {its : List Value} {acc : Array Value} (r : Vals xs its) (h : ItemsOf (fun i v => its.toArray[its.toArray.size - 1 - i]? = some v) acc its.toArray.size) : Vals xs.reverse acc.toList := by
 have hl := r.length
 have e : acc.toList = its.reverse := by
  refine List.ext_getElem? fun i => ?_
  by_cases hi : i < its.length
  ·have h2 : i < acc.size := by rw [h.1]; simpa using hi
   have h3 := h.2 i acc[i] (by simp [h2])
   rw [List.getElem?_reverse hi]
   simp only [List.size_toArray, List.getElem?_toArray] at h3
   rw [h3]
   simp [h2]
  ·rw [List.getElem?_eq_none (by rw [Array.length_toList, h.1]; simpa using hi), List.getElem?_eq_none (by rw [List.length_reverse]; omega)]
 rw [e]
 clear e h hl
 induction r with
 | nil => exact .nil
 | cons a b ih => rw [List.reverse_cons, List.reverse_cons]; exact ih.append (.cons a .nil)
section
variable {X : Cx} {K : PySem.W.Frag} {W : gF} {a : Expr} {pos p p1 pos1 : Pos} {fa : ao -> M Dat}
theorem de_lrev (hml : X.mg "list" = none) (hm : X.mg "reversed" = none) (ha : DE K W false X a fa) (hc : X.calm = true := by rfl) (hgl : Gl X "list" := by rfl) (hg : Gl X "reversed" := by rfl) (hs : starEach [a] X.env = [(false, eval a X.env)] := by rfl)
  (hst : starEach [.Call (.Name "reversed" p1) [a] [] pos1] X.env = [(false, eval (.Call (.Name "reversed" p1) [a] [] pos1) X.env)] := by rfl) (hK : X.K = K := by rfl) :
  DE K W true X (.Call (.Name "list" p) [.Call (.Name "reversed" p1) [a] [] pos1] [] pos) (f1 revD fa) := by
 subst hK
 show 'Պ'
 obtain ⟨F, ρ, r, sm, post⟩ := h
 refine wpAny_Call_Name_kw (nU I hgl hml PyProof.Rows.boot_list ?_ (by decide) (by decide))
 refine PyProof.Rows.callWith_type1 ?_ hst rfl
 rw [hst]
 have made : wpAny (model X.prog X.w) X.A (eval (.Call (.Name "reversed" p1) [a] [] pos1) X.env) (fun t s1 => ∃ s0 H2 l xs vs, t = .ref s0.heap.objs.size /\ s1 = { s0 with heap := s0.heap.push (revObj l ((vs.toArray.size : Int) - 1)) } /\ Inv X pins σ H2 s0 /\ SqL X.K H2 l xs /\ Vals xs vs /\ s0.heap.IsList l vs.toArray /\ xs.length <= sizeLine /\ ∀ S, H2 S = none -> Q (.ref S) (upd H2 S (.lst xs.reverse))) X.xe s := by
  refine Call_ (nU I hg hm boot_reversed (PyProof.Rows.callWith_type1 (thn (aS ha dk hs pos1 pins s σ H (fun us H2 => ∃ l xs, us = [.ref l] /\ SqL X.K H2 l xs /\ ∀ S, H2 S = none -> Q (.ref S) (upd H2 S (.lst xs.reverse))) I ?_) fun us s1 ⟨vs, H1, I1, r1, q1⟩ => ?_) hs rfl))
  ·refine bC r sm (fun e he => ?_) fun d hd v F1 H1 s1 q1 => ?_
   ·have z : f1 revD fa ρ = .error e := by unfold f1; rw [he]; rfl
    rw [z] at post; exact post
   ·have z : f1 revD fa ρ = revD d := by unfold f1; rw [hd]; rfl
    rw [z] at post
    have post := post.step s1
    cases d with
    | lst ds =>
     obtain ⟨c, xs, e, t, zz⟩ := q1
     exact ⟨c, xs, by rw [e], s1.fh.lst t, fun S hS => post _ F1 _ (Step.grow s1.fh hS) ⟨S, xs.reverse, rfl, av, s1.fh.free hS, hS, zz.reverse⟩⟩
    | _ => exact (W.ns post).elim
  ·obtain ⟨l, xs, e, hq, go⟩ := q1
   subst e
   obtain ⟨u, rfl, ru⟩ := r1.one
   cases (show u = Value.ref l from ru)
   obtain ⟨its, rv, pl, hz⟩ := I1.list hq
   exact call_reversed_list pl.isList ⟨s1, H1, l, xs, its, rfl, rfl, I1, hq, rv, pl.isList, hz, go⟩
 refine Calls.spliced_cons (thn made fun t s1 ⟨s0, H2, l, xs, vs, et, es, I2, hq, rv, hl, hz, go⟩ => wpAny_pure ?_)
 subst et es
 have lt : l < s0.heap.objs.size := hl.elim fun _ t => Heap.lt_size t.1
 refine sC (items := vs.toArray) (I.ok.hd hc) ⟨_, Heap.get?_push_size _ rfl, rfl, rfl⟩ (hl.at fun o e => Heap.get?_push_of_some _ e) (Nat.ne_of_lt lt) (by rw [List.size_toArray, <- rv.length]; exact hz) fun h' tk acc c kp e2 it => ?_
 have up : s0.heap.objs.size < (s0.heap.push (revObj l ((vs.toArray.size : Int) - 1))).objs.size := by rw [Heap.size_push]; exact Nat.lt_succ_self _
 refine ⟨.ref _, _, I2.laid (t' := tk) (fun b o e => kp b o (fun z => ?_) (Heap.get?_push_of_some _ e)) (Nat.le_of_lt up) (show e6 X.prog X.w _ h' _ (.lst xs.reverse) from ⟨by rw [List.length_reverse]; exact hz, acc.toList, c, rev_vals rv it, by simpa using e2⟩), rfl, go _ (I2.hok.fresh (Nat.le_of_lt up))⟩
 have := Heap.lt_size e
 rw [z] at this
 exact Nat.lt_irrefl _ this
end
end L2
namespace Ru
open PySem L2 PyProof.Rows
noncomputable def km (CR CP CN CQ : Addr) (n : Nat) : ao -> M Flo :=
 sIf (fB (f2 gtD (fL nR (aa (ah 0) aJ)) (fC (.int 0))))
   (aM [] 2 (f2 ixD (ah 0) (f2 my (ah 1) (fL nR (aa (ah 0) aJ)))))
   fE
noncomputable def kb (CR CP CN CQ : Addr) (n : Nat) : ao -> M Flo :=
 (bg (aM [] 2 (ah 1))
  (bg (km CR CP CN CQ n)
  (bg (aM [] 3 (f2 my (f2 nZ (f2 lW (f2 lW (ah 2) (f2 nZ (f2 nZ (fC (.int 7919)) (ah 1)) (ah 1))) (ah 1)) (fC (.int 982451653))) (fC (.int 2305843009213693951))))
  (gw (f2 lV (f2 my (f2 nZ (ah 3) (fC (.int 1000003))) (fC (.int 1152921504606846883))) (fC (.int 8)))))))
noncomputable def ar (CR CP CN CQ : Addr) (n : Nat) : List Dat -> M Dat := bW 4 2 (kb CR CP CN CQ n)
noncomputable def eD (CR CP CN CQ : Addr) (n : Nat) : ao -> M Flo :=
 (gw (f2 ixD (fL jr (aa (fC (.int 1)) (aa (fC (.int 1)) (aa (fC (.int 100)) (aa (f2 powD (fC (.int 10)) (fC (.int 5))) aJ))))) (f2 my (fL (ar CR CP CN CQ n) (aa (ah 0) (aa (fC (.int 99)) aJ))) (fC (.int 4)))))
noncomputable def bF (CR CP CN CQ : Addr) (n : Nat) : List Dat -> M Dat := bW 1 1 (eD CR CP CN CQ n)
noncomputable def gN (CR CP CN CQ : Addr) (n : Nat) : ao -> M Flo :=
 (bg (aM [4, 6] 8 (fL (ar CR CP CN CQ n) (aa (ah 0) (aa (f2 lW (f2 lW (ah 1) (f2 nZ (ah 5) (ah 2))) (ah 7)) aJ))))
  (lT [4, 6] 6 (f2 lW (f2 nZ (f2 my (ah 8) (fC (.int 6))) (ah 3)) (f2 my (f2 lV (ah 8) (fC (.int 6))) (ah 3)))))
noncomputable def kr (CR CP CN CQ : Addr) (n : Nat) : ao -> M Flo :=
 (bg (aM [4] 6 (fL jr aJ))
  (bg (qo [4, 6] (pe uW (aa (ah 2) aJ)) (.nm 7) (gN CR CP CN CQ n))
  (lT [4] 4 (ah 6))))
noncomputable def mq (CR CP CN CQ : Addr) (n : Nat) : ao -> M Flo :=
 (bg (aM [] 4 (fL jr aJ))
  (bg (qo [4] (pe uW (aa (ah 2) aJ)) (.nm 5) (kr CR CP CN CQ n))
  (gw (ah 4))))
noncomputable def fK (CR CP CN CQ : Addr) (n : Nat) : List Dat -> M Dat := bW 9 4 (mq CR CP CN CQ n)
noncomputable def fQ (CR CP CN CQ : Addr) (n : Nat) : ao -> M Flo :=
 sIf (fB (f2 eqM (f2 my (fL (ar CR CP CN CQ n) (aa (ah 0) (aa (fC (.int 1)) aJ))) (fC (.int 2))) (fC (.int 1))))
   (aM [] 3 (fL (fK CR CP CN CQ n) (aa (ah 0) (aa (fC (.int 50)) (aa (ah 2) (aa (ah 1) aJ))))))
   fE
noncomputable def eU (CR CP CN CQ : Addr) (n : Nat) : ao -> M Flo :=
 (bg (aM [] 2 (f2 lW (fC (.int 1)) (f2 my (fL (ar CR CP CN CQ n) (aa (ah 0) (aa (fC (.int 0)) aJ))) (fC (.int 6)))))
  (bg (aM [] 3 (fC .non))
  (bg (fQ CR CP CN CQ n)
  (gw (fL jq (aa (fL (fK CR CP CN CQ n) (aa (ah 0) (aa (fC (.int 4)) (aa (ah 2) (aa (ah 1) aJ))))) (aa (ah 3) aJ)))))))
noncomputable def bx (CR CP CN CQ : Addr) (n : Nat) : List Dat -> M Dat := bW 4 2 (eU CR CP CN CQ n)
noncomputable def k9 (CR CP CN CQ : Addr) (n : Nat) : ao -> M Flo :=
 (gw (lE (fIt (ah 0)) [none] (.nm 0) pb (fL yO (aa (ah 0) aJ))))
noncomputable def eQ (CR CP CN CQ : Addr) (n : Nat) : List Dat -> M Dat := bW 1 1 (k9 CR CP CN CQ n)
noncomputable def qS (CR CP CN CQ : Addr) (n : Nat) : ao -> M Flo :=
 sIf (fOr (xA (sQ (f1 mO (ah 0)))) (sQ (f1 lb (ah 0))))
   (gw (fC (.bl false)))
   fE
noncomputable def rZ (CR CP CN CQ : Addr) (n : Nat) : ao -> M Flo :=
 (bg (qS CR CP CN CQ n)
  (gw (jB leD leD (fC (.int 0)) (ah 0) (fC (.int 1000000)))))
noncomputable def jV (CR CP CN CQ : Addr) (n : Nat) : List Dat -> M Dat := bW 1 1 (rZ CR CP CN CQ n)
noncomputable def lz (CR CP CN CQ : Addr) (n : Nat) : ao -> M Flo :=
 (gw (sd (f1 jw (ah 0)) (sd (f2 eqM (fL nR (aa (ah 0) aJ)) (ah 1)) (fL allD (aa (lE (fIt (ah 0)) [none] (.nm 0) pb (fL (jV CR CP CN CQ n) (aa (ah 0) aJ))) aJ)))))
noncomputable def cP (CR CP CN CQ : Addr) (n : Nat) : List Dat -> M Dat := bW 2 2 (lz CR CP CN CQ n)
noncomputable def kK (CR CP CN CQ : Addr) (n : Nat) : ao -> M Flo :=
 sIf (xA (fB (jB leD leD (fC (.int 1)) (ah 1) (fC (.int 6)))))
   sStk
   fE
noncomputable def kJ (CR CP CN CQ : Addr) (n : Nat) : ao -> M Flo :=
 sIf (xA (sQ (fL allD (aa (lE (fIt (ah 0)) [none, some 1] (.nm 0) pb (fL (cP CR CP CN CQ n) (aa (ah 0) (aa (ah 1) aJ)))) aJ))))
   sStk
   fE
noncomputable def iZ (CR CP CN CQ : Addr) (n : Nat) : ao -> M Flo :=
 (bg (aM [] 1 (fL nR (aa (ah 0) aJ)))
  (bg (kK CR CP CN CQ n)
  (bg (kJ CR CP CN CQ n)
  (gw (fL (eQ CR CP CN CQ n) (aa (ah 0) aJ))))))
noncomputable def aC (CR CP CN CQ : Addr) (n : Nat) : List Dat -> M Dat := bW 2 1 (iZ CR CP CN CQ n)
noncomputable def kl (CR CP CN CQ : Addr) (n : Nat) : ao -> M Flo :=
 sIf (fB (f2 isND (f2 ixD (ah 0) (fC (.int 1))) (fC .non)))
   (gw (fL (newR CR (aC CR CP CN CQ n)) (aa (f2 ixD (ah 0) (fC (.int 0))) aJ)))
   fE
noncomputable def ka (CR CP CN CQ : Addr) (n : Nat) : ao -> M Flo :=
 (bg (kl CR CP CN CQ n)
  (gw (fL (newP CP (aC CR CP CN CQ n)) (aa (f2 ixD (ah 0) (fC (.int 0))) (aa (f2 ixD (ah 0) (fC (.int 1))) aJ)))))
noncomputable def dP (CR CP CN CQ : Addr) (n : Nat) : List Dat -> M Dat := bW 1 1 (ka CR CP CN CQ n)
noncomputable def dH (CR CP CN CQ : Addr) (n : Nat) : ao -> M Flo :=
 sIf (fB (f2 eqM (f2 my (fL (ar CR CP CN CQ n) (aa (ah 0) (aa (fC (.int 3)) aJ))) (fC (.int 8))) (fC (.int 5))))
   (aM [] 4 (ah 2))
   fE
noncomputable def dI (CR CP CN CQ : Addr) (n : Nat) : ao -> M Flo :=
 (bg (aM [5] 7 (fL (ar CR CP CN CQ n) (aa (ah 0) (aa (f2 lW (fC (.int 100)) (ah 6)) aJ))))
  (bg (aM [5] 8 (f2 my (f2 lV (ah 7) (fC (.int 16))) (f2 nZ (f2 nZ (fC (.int 25)) (ah 3)) (f2 lW (ah 6) (fC (.int 1))))))
  (bg (aM [5] 9 (f2 ixD (fL jr (aa (f2 powD (fC (.int 10)) (fC (.int 9))) (aa (f2 nZ (f2 nZ (fC (.int 100)) (ah 3)) (ah 4)) (aa (f2 nZ (f2 nZ (fC (.int 12)) (ah 3)) (ah 4)) (aa (f2 nZ (fC (.int 3)) (ah 3)) aJ))))) (f2 lV (f2 my (ah 7) (fC (.int 16))) (fC (.int 5)))))
  (bg (aM [5] 10 (fL minD (aa (f2 powD (fC (.int 10)) (fC (.int 9))) (aa (f2 lW (ah 8) (ah 9)) aJ))))
  (bg (aM [5] 11 (fL minD (aa (f2 powD (fC (.int 10)) (fC (.int 9))) (aa (f2 lW (ah 8) (f2 my (f2 lV (ah 7) (fC (.int 1000))) (f2 nZ (fC (.int 20)) (ah 3)))) aJ))))
  (bg (aM [5] 12 (f2 ixD (fL jr (aa (f2 my (f2 lV (ah 7) (fC (.int 7))) (fC (.int 10))) (aa (f2 my (f2 lV (ah 7) (fC (.int 7))) (f2 lW (f2 powD (fC (.int 10)) (fC (.int 9))) (fC (.int 1)))) aJ))) (f2 my (f2 lV (ah 7) (fC (.int 3))) (fC (.int 2)))))
  (lT [5] 5 (fL jq (aa (f2 my (f2 lV (ah 7) (fC (.int 11))) (fL nR (aa (f2 ixD (ah 1) (fC (.int 0))) aJ))) (aa (ah 8) (aa (ah 10) (aa (ah 11) (aa (ah 12) aJ)))))))))))))
noncomputable def j0 (CR CP CN CQ : Addr) (n : Nat) : ao -> M Flo :=
 (bg (aM [] 4 (f2 my (fL (ar CR CP CN CQ n) (aa (ah 0) (aa (fC (.int 2)) aJ))) (f2 lW (f2 lV (ah 2) (fC (.int 4))) (fC (.int 1)))))
  (bg (dH CR CP CN CQ n)
  (bg (aM [] 5 (fL jr aJ))
  (bg (qo [5] (pe uW (aa (ah 4) aJ)) (.nm 6) (dI CR CP CN CQ n))
  (gw (ah 5))))))
noncomputable def cz (CR CP CN CQ : Addr) (n : Nat) : List Dat -> M Dat := bW 13 4 (j0 CR CP CN CQ n)
noncomputable def nF (CR CP CN CQ : Addr) (n : Nat) : ao -> M Flo :=
 (gw (lE (fIt (ah 1)) [none, none, some 0] (.tp [0, 1]) pb (fL jq (aa (f2 ixD (f2 ixD (ah 2) (ah 0)) (fC (.int 0))) (aa (ah 1) aJ)))))
noncomputable def fG (CR CP CN CQ : Addr) (n : Nat) : List Dat -> M Dat := bW 2 2 (nF CR CP CN CQ n)
noncomputable def bP (CR CP CN CQ : Addr) (n : Nat) : ao -> M Flo :=
 sIf (fAnd (sQ (ah 1)) (fB (f2 leD (ah 2) (f2 ixD (f2 ixD (ah 1) (f1 yI (fC (.int 1)))) (fC (.int 1))))))
   (uV 1 (f1 yI (fC (.int 1))) (fL jq (aa (f2 ixD (f2 ixD (ah 1) (f1 yI (fC (.int 1)))) (fC (.int 0))) (aa (fL maxD (aa (ah 3) (aa (f2 ixD (f2 ixD (ah 1) (f1 yI (fC (.int 1)))) (fC (.int 1))) aJ))) aJ))))
   (lT [1] 1 (fL jq (aa (ah 2) (aa (ah 3) aJ))))
noncomputable def bh (CR CP CN CQ : Addr) (n : Nat) : ao -> M Flo :=
 (bP CR CP CN CQ n)
noncomputable def eT (CR CP CN CQ : Addr) (n : Nat) : ao -> M Flo :=
 (bg (aM [] 1 (fL jr aJ))
  (bg (qo [1] (fIt (fL m4 (aa (ah 0) aJ))) (.tp [2, 3]) (bh CR CP CN CQ n))
  (gw (ah 1))))
noncomputable def bE (CR CP CN CQ : Addr) (n : Nat) : List Dat -> M Dat := bW 4 1 (eT CR CP CN CQ n)
noncomputable def mU (CR CP CN CQ : Addr) (n : Nat) : ao -> M Flo :=
 sIf (fB (jB leD ltD (ah 2) (ah 1) (ah 3)))
   (gw (ah 3))
   fE
noncomputable def kq (CR CP CN CQ : Addr) (n : Nat) : ao -> M Flo :=
 (mU CR CP CN CQ n)
noncomputable def k8 (CR CP CN CQ : Addr) (n : Nat) : ao -> M Flo :=
 (bg (qo [] (fIt (fL (bE CR CP CN CQ n) (aa (ah 0) aJ))) (.tp [2, 3]) (kq CR CP CN CQ n))
  (gw (ah 1)))
noncomputable def fH (CR CP CN CQ : Addr) (n : Nat) : List Dat -> M Dat := bW 4 2 (k8 CR CP CN CQ n)
noncomputable def ke (CR CP CN CQ : Addr) (n : Nat) : ao -> M Flo :=
 (gw (f2 ixD (f2 ixD (f1 (sF [CR, CP] "gaps") (ah 0)) (f2 ixD (ah 1) (fC (.int 0)))) (f2 ixD (ah 2) (fC (.int 0)))))
noncomputable def cf (CR CP CN CQ : Addr) (n : Nat) : List Dat -> M Dat := bW 3 3 (ke CR CP CN CQ n)
noncomputable def iE (CR CP CN CQ : Addr) (n : Nat) : ao -> M Flo :=
 (bg (aM [] 3 (fIte (fB (f2 eqM (f2 ixD (ah 1) (fC (.int 1))) (f2 ixD (ah 2) (fC (.int 1))))) (f1 (sF [CR, CP] "gaps") (ah 0)) (f1 (sF [CP] "beside") (ah 0))))
  (gw (f2 ixD (f2 ixD (ah 3) (f2 ixD (ah 1) (fC (.int 0)))) (f2 ixD (ah 2) (fC (.int 0))))))
noncomputable def bY (CR CP CN CQ : Addr) (n : Nat) : List Dat -> M Dat := bW 4 3 (iE CR CP CN CQ n)
noncomputable def mm (CR CP CN CQ : Addr) (n : Nat) : ao -> M Flo :=
 (gw (lE (pe uW (aa (ah 3) aJ)) [none, some 0, some 1, some 2, some 3] (.nm 0) pb (f2 lW (f2 ixD (ah 3) (ah 0)) (lD CR CP "apart" (cf CR CP CN CQ n) (bY CR CP CN CQ n) (ah 1) (aa (f2 ixD (ah 2) (ah 0)) (aa (f2 ixD (ah 2) (ah 4)) aJ))))))
noncomputable def dO (CR CP CN CQ : Addr) (n : Nat) : List Dat -> M Dat := bW 4 4 (mm CR CP CN CQ n)
noncomputable def lJ (CR CP CN CQ : Addr) (n : Nat) : ao -> M Flo :=
 sIf (fB (f2 gtD (ah 9) (f2 ixD (ah 8) (fC (.int 2)))))
   (x6 CN "flight" "time" (aa (f2 ixD (ah 7) (fC (.int 0))) (aa (ah 9) aJ)))
   fE
noncomputable def eE (CR CP CN CQ : Addr) (n : Nat) : ao -> M Flo :=
 (bg (xB (aM [5] 8 (f2 ixD (ah 1) (f2 ixD (ah 7) (fC (.int 0))))))
  (bg (xB (pP false 9 (fL (fH CR CP CN CQ n) (aa (ah 2) (aa (fL maxD (aa (f2 lW (fL jr (aa (f2 ixD (ah 8) (fC (.int 1))) aJ)) (fL (dO CR CP CN CQ n) (aa (ah 0) (aa (ah 4) (aa (ah 5) (aa (ah 6) aJ)))))) aJ)) aJ)))))
  (bg (lJ CR CP CN CQ n)
  (xB (lT [5] 5 (ah 9))))))
noncomputable def lP (CR CP CN CQ : Addr) (n : Nat) : ao -> M Flo :=
 (bg (xB (aM [] 4 (fL (fG CR CP CN CQ n) (aa (ah 1) (aa (ah 3) aJ)))))
  (bg (xB (aM [] 5 (fL jr aJ)))
  (bg (qo [5] (s9 (ah 3)) (.tp [6, 7]) (eE CR CP CN CQ n))
  (xB (gw (ah 5))))))
noncomputable def d8 (CR CP CN CQ : Addr) (n : Nat) : List Dat -> M Dat := bW 10 4 (lP CR CP CN CQ n)
noncomputable def kj (CR CP CN CQ : Addr) (n : Nat) : ao -> M Flo :=
 sIf (fB (f2 eqM (ah 3) (f2 ixD (ah 0) (fC (.int 1)))))
   (gw (fL jq (aa (fC (.str "first")) aJ)))
   fE
noncomputable def mw (CR CP CN CQ : Addr) (n : Nat) : ao -> M Flo :=
 sIf (fB (f2 inM (ah 3) (ah 2)))
   (gw (fL jq (aa (fC (.str "gap")) (aa (pf (ah 2) (ah 3)) aJ))))
   fE
noncomputable def lx (CR CP CN CQ : Addr) (n : Nat) : ao -> M Flo :=
 (bg (kj CR CP CN CQ n)
  (bg (mw CR CP CN CQ n)
  (bg (aM [] 4 (lE (fIt (ah 1)) [none, none] (.tp [0, 1]) pb (ah 1)))
  (gw (fL jq (aa (fC (.str "closed")) (aa (pf (ah 4) (ah 3)) aJ)))))))
noncomputable def hZ (CR CP CN CQ : Addr) (n : Nat) : List Dat -> M Dat := bW 5 4 (lx CR CP CN CQ n)
noncomputable def ko (CR CP CN CQ : Addr) (n : Nat) : ao -> M Flo :=
 (bg (aM [6] 9 (fL (dO CR CP CN CQ n) (aa (ah 0) (aa (ah 5) (aa (ah 4) (aa (ah 7) aJ))))))
  (lT [6] 6 (fL (hZ CR CP CN CQ n) (aa (f2 ixD (ah 1) (f2 ixD (f2 ixD (ah 3) (ah 7)) (fC (.int 0)))) (aa (ah 2) (aa (ah 9) (aa (ah 8) aJ)))))))
noncomputable def k7 (CR CP CN CQ : Addr) (n : Nat) : ao -> M Flo :=
 (bg (aM [] 4 (fL (d8 CR CP CN CQ n) (aa (ah 0) (aa (ah 1) (aa (ah 2) (aa (ah 3) aJ))))))
  (xB (bg (aM [] 5 (fL (fG CR CP CN CQ n) (aa (ah 1) (aa (ah 3) aJ))))
  (bg (aM [] 6 (fL jr aJ))
  (bg (qo [6] (s9 (ah 4)) (.tp [7, 8]) (ko CR CP CN CQ n))
  (gw (ah 6)))))))
noncomputable def bw (CR CP CN CQ : Addr) (n : Nat) : List Dat -> M Dat := bW 10 4 (k7 CR CP CN CQ n)
noncomputable def fg (CR CP CN CQ : Addr) (n : Nat) : ao -> M Flo :=
 sIf (fB (f2 eqM (f2 my (fL (ar CR CP CN CQ n) (aa (ah 0) (aa (fC (.int 151)) aJ))) (fC (.int 8))) (fC (.int 5))))
   (aM [] 2 (fC (.int 20)))
   fE
noncomputable def ib (CR CP CN CQ : Addr) (n : Nat) : ao -> M Flo :=
 (bg (aM [3] 5 (fL (ar CR CP CN CQ n) (aa (ah 0) (aa (f2 lW (fC (.int 152)) (ah 4)) aJ))))
  (bg (aM [3] 6 (f2 my (f2 lV (ah 5) (fC (.int 9))) (f2 nZ (fC (.int 150)) (ah 1))))
  (lT [3] 3 (fL jq (aa (ah 6) (aa (f2 lW (f2 lW (ah 6) (fC (.int 1))) (f2 nZ (f2 my (ah 5) (fC (.int 9))) (ah 1))) aJ))))))
noncomputable def kc (CR CP CN CQ : Addr) (n : Nat) : ao -> M Flo :=
 (bg (aM [] 2 (f2 my (fL (ar CR CP CN CQ n) (aa (ah 0) (aa (fC (.int 150)) aJ))) (fC (.int 5))))
  (bg (fg CR CP CN CQ n)
  (bg (aM [] 3 (fL jr aJ))
  (bg (qo [3] (pe uW (aa (ah 2) aJ)) (.nm 4) (ib CR CP CN CQ n))
  (gw (ah 3))))))
noncomputable def d9 (CR CP CN CQ : Addr) (n : Nat) : List Dat -> M Dat := bW 7 2 (kc CR CP CN CQ n)
noncomputable def eJ (CR CP CN CQ : Addr) (n : Nat) : ao -> M Bool :=
 (fB (f2 gtD (fL nR (aa (ah 3) aJ)) (fC (.int 0))))
noncomputable def gM (CR CP CN CQ : Addr) (n : Nat) : ao -> M Flo :=
 (bg (pP false 6 (fL (ar CR CP CN CQ n) (aa (ah 0) (aa (f2 lW (fC (.int 180)) (fL nR (aa (ah 3) aJ))) aJ))))
  (bg (pP false 7 (f2 nZ (f2 my (f2 lV (ah 6) (fC (.int 64))) (fL minD (aa (fL nR (aa (ah 3) aJ)) (aa (fC (.int 3)) aJ)))) (fL intD (aa (f2 eqM (f2 my (ah 6) (fC (.int 4))) (fC (.int 0))) aJ))))
  (bg (ya 3 (.tp [8, 9]) (ah 7))
  (lT [3, 4] 4 (fL jq (aa (ah 9) (aa (f2 my (f2 lV (ah 6) (fC (.int 4096))) (ah 5)) aJ)))))))
noncomputable def mn (CR CP CN CQ : Addr) (n : Nat) : ao -> M Flo :=
 (bg (aM [] 3 (fL m4 (aa (lE (pe uW (aa (fL nR (aa (ah 2) aJ)) aJ)) [none, some 2] (.nm 0) pb (fL jq (aa (f2 ixD (f2 ixD (ah 1) (ah 0)) (fC (.int 1))) (aa (ah 0) aJ)))) aJ)))
  (bg (aM [3] 4 (fL jr aJ))
  (bg (aM [3, 4] 5 (f2 subD (fC (.int 2)) (fL intD (aa (f2 isND (f2 ixD (ah 1) (fC (.int 1))) (fC .non)) aJ))))
  (bg (bU (eJ CR CP CN CQ n) (gM CR CP CN CQ n) n)
  (gw (ah 4))))))
noncomputable def fJ (CR CP CN CQ : Addr) (n : Nat) : List Dat -> M Dat := bW 10 3 (mn CR CP CN CQ n)
noncomputable def cG (CR CP CN CQ : Addr) (n : Nat) : ao -> M Flo :=
 sIf (fB (jB leD ltD (ah 3) (ah 1) (ah 4)))
   (bg (aM [] 1 (ah 4))
  (aM [] 2 (fC (.bl true))))
   fE
noncomputable def aV (CR CP CN CQ : Addr) (n : Nat) : ao -> M Flo :=
 (cG CR CP CN CQ n)
noncomputable def bf (CR CP CN CQ : Addr) (n : Nat) : ao -> M Bool :=
 (sQ (ah 2))
noncomputable def cH (CR CP CN CQ : Addr) (n : Nat) : ao -> M Flo :=
 (bg (aM [] 2 (fC (.bl false)))
  (qo [] (fIt (ah 0)) (.tp [3, 4]) (aV CR CP CN CQ n)))
noncomputable def gA (CR CP CN CQ : Addr) (n : Nat) : ao -> M Flo :=
 (bg (aM [] 2 (fC (.bl true)))
  (bg (bU (bf CR CP CN CQ n) (cH CR CP CN CQ n) n)
  (gw (ah 1))))
noncomputable def cv (CR CP CN CQ : Addr) (n : Nat) : List Dat -> M Dat := bW 5 2 (gA CR CP CN CQ n)
noncomputable def j6 (CR CP CN CQ : Addr) (n : Nat) : ao -> M Flo :=
 sIf (fB (f2 eqM (f2 ixD (ah 2) (fC (.int 1))) (f2 ixD (ah 3) (fC (.int 1)))))
   (gw (f2 ixD (f2 ixD (f2 ixD (ah 0) (fC (.int 0))) (ah 4)) (ah 5)))
   fE
noncomputable def iC (CR CP CN CQ : Addr) (n : Nat) : ao -> M Flo :=
 (bg (aM [] 4 (f2 ixD (f2 ixD (ah 1) (f2 ixD (ah 2) (fC (.int 0)))) (fC (.int 0))))
  (bg (aM [] 5 (f2 ixD (f2 ixD (ah 1) (f2 ixD (ah 3) (fC (.int 0)))) (fC (.int 0))))
  (bg (j6 CR CP CN CQ n)
  (gw (f2 ixD (f2 ixD (f2 ixD (ah 0) (fC (.int 1))) (ah 4)) (ah 5))))))
noncomputable def bX (CR CP CN CQ : Addr) (n : Nat) : List Dat -> M Dat := bW 6 4 (iC CR CP CN CQ n)
noncomputable def fY (CR CP CN CQ : Addr) (n : Nat) : ao -> M Flo :=
 (pP false 7 (fL maxD (aa (ah 7) (aa (f2 lW (f2 ixD (ah 4) (ah 8)) (fL (bX CR CP CN CQ n) (aa (ah 0) (aa (ah 1) (aa (f2 ixD (ah 3) (ah 8)) (aa (f2 ixD (ah 3) (ah 5)) aJ)))))) aJ))))
noncomputable def j5 (CR CP CN CQ : Addr) (n : Nat) : ao -> M Flo :=
 sIf (fB (f2 gtD (ah 7) (f2 ixD (ah 6) (fC (.int 2)))))
   (gw (fL jq (aa (f2 ixD (f2 ixD (ah 3) (ah 5)) (fC (.int 0))) (aa (ah 7) aJ))))
   fE
noncomputable def fX (CR CP CN CQ : Addr) (n : Nat) : ao -> M Flo :=
 (bg (aM [4] 6 (f2 ixD (ah 1) (f2 ixD (f2 ixD (ah 3) (ah 5)) (fC (.int 0)))))
  (bg (aM [4] 7 (f2 ixD (ah 6) (fC (.int 1))))
  (bg (qo [4] (pe uW (aa (ah 5) aJ)) (.nm 8) (fY CR CP CN CQ n))
  (bg (aM [4] 7 (fL (cv CR CP CN CQ n) (aa (ah 2) (aa (ah 7) aJ))))
  (bg (j5 CR CP CN CQ n)
  (lT [4] 4 (ah 7)))))))
noncomputable def iB (CR CP CN CQ : Addr) (n : Nat) : ao -> M Flo :=
 (bg (aM [] 4 (fL jr aJ))
  (bg (qo [4] (pe uW (aa (fL nR (aa (ah 3) aJ)) aJ)) (.nm 5) (fX CR CP CN CQ n))
  (gw (ah 4))))
noncomputable def cQ (CR CP CN CQ : Addr) (n : Nat) : List Dat -> M Dat := bW 9 4 (iB CR CP CN CQ n)
noncomputable def nG (CR CP CN CQ : Addr) (n : Nat) : ao -> M Flo :=
 (gw (jB leD ltD (fC (.int 0)) (ah 1) (fL nR (aa (ah 0) aJ))))
noncomputable def ju (CR CP CN CQ : Addr) (n : Nat) : List Dat -> M Dat := bW 2 2 (nG CR CP CN CQ n)
noncomputable def iI (CR CP CN CQ : Addr) (n : Nat) : ao -> M Flo :=
 sIf (xB (xA (sQ (fL (ju CR CP CN CQ n) (aa (ah 1) (aa (ah 4) aJ))))))
   (sExc CQ)
   fE
noncomputable def e9 (CR CP CN CQ : Addr) (n : Nat) : ao -> M Bool :=
 (fB (f2 eqM (f2 ixD (f2 ixD (ah 5) (f2 ixD (ah 6) (f1 yI (fC (.int 1))))) (fC (.int 0))) (fC (.str "gap"))))
noncomputable def iJ (CR CP CN CQ : Addr) (n : Nat) : ao -> M Flo :=
 (tu 6 (f2 ixD (f2 ixD (ah 5) (f2 ixD (ah 6) (f1 yI (fC (.int 1))))) (fC (.int 1))))
noncomputable def jy (CR CP CN CQ : Addr) (n : Nat) : ao -> M Flo :=
 (bg (iI CR CP CN CQ n)
  (bg (aM [] 5 (fL (bw CR CP CN CQ n) (aa (ah 0) (aa (ah 1) (aa (ah 2) (aa (ah 3) aJ))))))
  (xB (bg (aM [] 6 (fL jr (aa (ah 4) aJ)))
  (bg (bU (e9 CR CP CN CQ n) (iJ CR CP CN CQ n) n)
  (gw (f1 revD (ah 6))))))))
noncomputable def br (CR CP CN CQ : Addr) (n : Nat) : List Dat -> M Dat := bW 7 5 (jy CR CP CN CQ n)
noncomputable def cy (CR CP CN CQ : Addr) (n : Nat) : ao -> M Flo :=
 oG 4 3 5 CQ CN (qp [] (fL (br CR CP CN CQ n) (aa (ah 0) (aa (f2 ixD (ah 1) (fC (.int 0))) (aa (f2 ixD (ah 1) (fC (.int 1))) (aa (f2 ixD (ah 1) (fC (.int 2))) (aa (ah 2) aJ)))))))
noncomputable def fW (CR CP CN CQ : Addr) (n : Nat) : ao -> M Flo :=
 (bg (aM [] 3 (fC (.int 0)))
  (bg (cy CR CP CN CQ n)
  (gw (ah 3))))
noncomputable def bj (CR CP CN CQ : Addr) (n : Nat) : List Dat -> M Dat := bW 6 3 (fW CR CP CN CQ n)
noncomputable def lA (CR CP CN CQ : Addr) (n : Nat) : ao -> M Flo :=
 (gw (sd (f1 mO (ah 0)) (f1 notD (f1 lb (ah 0)))))
noncomputable def eC (CR CP CN CQ : Addr) (n : Nat) : List Dat -> M Dat := bW 1 1 (lA CR CP CN CQ n)
noncomputable def dZ (CR CP CN CQ : Addr) (n : Nat) : ao -> M Flo :=
 sIf (fB (f2 neM (fL nR (aa (lE (fIt (ah 4)) [none] (.nm 0) (sQ (fL (eC CR CP CN CQ n) (aa (ah 0) aJ))) (ah 0)) aJ)) (fL nR (aa (ah 4) aJ))))
   (gw (fC (.bl false)))
   fE
noncomputable def dY (CR CP CN CQ : Addr) (n : Nat) : ao -> M Flo :=
 sIf (fOr (fB (f2 eqM (f2 ixD (f2 ixD (ah 3) (f2 ixD (ah 4) (fC (.int 0)))) (fC (.int 0))) (fC (.str "gap")))) (fAnd (fB (f2 neM (ah 8) (f2 ixD (f2 ixD (ah 5) (f2 ixD (f2 ixD (ah 7) (f2 ixD (ah 4) (fC (.int 0)))) (fC (.int 0)))) (fC (.int 1))))) (fB (f2 yF (ah 8) (ah 9)))))
   (gw (fC (.bl false)))
   fE
noncomputable def i9 (CR CP CN CQ : Addr) (n : Nat) : ao -> M Flo :=
 sIf (fOr (fB (f2 leD (f2 ixD (ah 4) (ah 10)) (f2 ixD (ah 4) (f2 subD (ah 10) (fC (.int 1)))))) (fB (f2 neM (f2 ixD (ah 3) (f2 ixD (ah 4) (ah 10))) (fL jq (aa (fC (.str "gap")) (aa (f2 ixD (ah 4) (f2 subD (ah 10) (fC (.int 1)))) aJ))))))
   (gw (fC (.bl false)))
   fE
noncomputable def bB (CR CP CN CQ : Addr) (n : Nat) : ao -> M Flo :=
 (bg (i9 CR CP CN CQ n)
  (aM [] 8 (f2 lW (ah 8) (fL (bX CR CP CN CQ n) (aa (ah 0) (aa (ah 5) (aa (f2 ixD (ah 7) (f2 ixD (ah 4) (f2 subD (ah 10) (fC (.int 1))))) (aa (f2 ixD (ah 7) (f2 ixD (ah 4) (ah 10))) aJ))))))))
noncomputable def da (CR CP CN CQ : Addr) (n : Nat) : ao -> M Flo :=
 (bg (uU [] (.tp [5, 6, 7]) (ah 1))
  (bg (dZ CR CP CN CQ n)
  (bg (aM [] 8 (f2 ixD (ah 2) (f2 ixD (ah 4) (fC (.int 0)))))
  (bg (aM [] 9 (lE (fIt (ah 6)) [none, none] (.tp [0, 1]) pb (ah 1)))
  (bg (dY CR CP CN CQ n)
  (bg (qo [] (pe rng2 (aa (fC (.int 1)) (aa (fL nR (aa (ah 4) aJ)) aJ))) (.nm 10) (bB CR CP CN CQ n))
  (gw (f2 eqM (ah 8) (f2 ixD (ah 2) (f2 ixD (ah 4) (f1 yI (fC (.int 1)))))))))))))
noncomputable def bu (CR CP CN CQ : Addr) (n : Nat) : List Dat -> M Dat := bW 11 5 (da CR CP CN CQ n)
noncomputable def zK (CR CP CN CQ : Addr) (n : Nat) : ao -> M Flo :=
 sIf (fB (f2 neM (fL (bj CR CP CN CQ n) (aa (ah 3) (aa (ah 5) (aa (ah 7) aJ)))) (fC (.int 3))))
   (gw (fC (.bl false)))
   fE
noncomputable def sE (CR CP CN CQ : Addr) (n : Nat) : ao -> M Flo :=
 (zK CR CP CN CQ n)
noncomputable def pD (CR CP CN CQ : Addr) (n : Nat) : ao -> M Flo :=
 sIf (fB (f2 eqM (fL nR (aa (ah 4) aJ)) (fC (.int 0))))
   (gw (fC (.bl true)))
   fE
noncomputable def vn (CR CP CN CQ : Addr) (n : Nat) : ao -> M Flo :=
 sIf (sQ (f1 jv (fL (cQ CR CP CN CQ n) (aa (ah 2) (aa (ah 4) (aa (f2 ixD (ah 5) (fC (.int 1))) (aa (f2 ixD (ah 5) (fC (.int 2))) aJ)))))))
   (gw (f2 eqM (fL (bj CR CP CN CQ n) (aa (ah 3) (aa (ah 5) (aa (f2 subD (fL nR (aa (ah 4) aJ)) (fC (.int 1))) aJ)))) (fC (.int 2))))
   fE
noncomputable def zJ (CR CP CN CQ : Addr) (n : Nat) : ao -> M Flo :=
 sIf (fOr (xA (sQ (f1 jw (ah 10)))) (fOr (fB (f2 eqM (fL nR (aa (ah 10) aJ)) (fC (.int 0)))) (fB (f2 neM (f2 ixD (ah 10) (f1 yI (fC (.int 1)))) (ah 7)))))
   (gw (fC (.bl false)))
   fE
noncomputable def zI (CR CP CN CQ : Addr) (n : Nat) : ao -> M Flo :=
 sIf (xA (sQ (fL (bu CR CP CN CQ n) (aa (ah 2) (aa (ah 5) (aa (ah 8) (aa (ah 9) (aa (ah 10) aJ))))))))
   (gw (fC (.bl false)))
   fE
noncomputable def sD (CR CP CN CQ : Addr) (n : Nat) : ao -> M Flo :=
 (bg (aM [] 10 (fL (noM (br CR CP CN CQ n)) (aa (ah 3) (aa (ah 4) (aa (f2 ixD (ah 5) (fC (.int 1))) (aa (f2 ixD (ah 5) (fC (.int 2))) (aa (ah 7) aJ)))))))
  (bg (zJ CR CP CN CQ n)
  (zI CR CP CN CQ n)))
noncomputable def zf (CR CP CN CQ : Addr) (n : Nat) : ao -> M Flo :=
 (bg (aM [] 1 (fL (bF CR CP CN CQ n) (aa (ah 0) aJ)))
  (bg (aM [] 2 (fL (bx CR CP CN CQ n) (aa (ah 0) (aa (ah 1) aJ))))
  (bg (aM [] 3 (fL (dP CR CP CN CQ n) (aa (ah 2) aJ)))
  (bg (aM [] 4 (fL (cz CR CP CN CQ n) (aa (ah 0) (aa (ah 2) (aa (fC (.int 40)) (aa (ah 1) aJ))))))
  (bg (aM [] 5 (fL jq (aa (ah 4) (aa (fL (d9 CR CP CN CQ n) (aa (ah 0) (aa (ah 1) aJ))) (aa (fL (fJ CR CP CN CQ n) (aa (ah 0) (aa (ah 2) (aa (ah 4) aJ)))) aJ)))))
  (bg (aM [] 6 (f2 lW (fC (.int 1)) (f2 nZ (f2 nZ (fL (ar CR CP CN CQ n) (aa (ah 0) (aa (fC (.int 250)) aJ))) (fL (ar CR CP CN CQ n) (aa (ah 0) (aa (fC (.int 251)) aJ)))) (fL (ar CR CP CN CQ n) (aa (ah 0) (aa (fC (.int 252)) aJ))))))
  (bg (qo [] (fIt (fL jr (aa (f1 yI (fC (.int 1))) (aa (fL nR (aa (ah 4) aJ)) (aa (f2 subD (fC (.int 0)) (ah 6)) (aa (f2 lW (f2 subD (fL nR (aa (ah 4) aJ)) (fC (.int 1))) (ah 6)) aJ)))))) (.nm 7) (sE CR CP CN CQ n))
  (bg (pD CR CP CN CQ n)
  (bg (vn CR CP CN CQ n)
  (bg (aM [] 8 (fL (noM (d8 CR CP CN CQ n)) (aa (ah 3) (aa (ah 4) (aa (f2 ixD (ah 5) (fC (.int 1))) (aa (f2 ixD (ah 5) (fC (.int 2))) aJ))))))
  (bg (aM [] 9 (fL (noM (bw CR CP CN CQ n)) (aa (ah 3) (aa (ah 4) (aa (f2 ixD (ah 5) (fC (.int 1))) (aa (f2 ixD (ah 5) (fC (.int 2))) aJ))))))
  (bg (qo [] (fIt (f2 lW (fL jr (aa (f2 subD (fL nR (aa (ah 4) aJ)) (fC (.int 1))) aJ)) (lE (pe uW (aa (fL minD (aa (fL nR (aa (ah 0) aJ)) (aa (fC (.int 9)) aJ))) aJ)) [none, some 0, some 4] (.nm 0) pb (f2 my (fL (ar CR CP CN CQ n) (aa (ah 1) (aa (f2 lW (fC (.int 260)) (ah 0)) aJ))) (fL nR (aa (ah 2) aJ)))))) (.nm 7) (sD CR CP CN CQ n))
  (gw (fC (.bl true)))))))))))))))
noncomputable def xj (CR CP CN CQ : Addr) (n : Nat) : List Dat -> M Dat := bW 11 1 (zf CR CP CN CQ n)
noncomputable def top (i : Nat) : Stmt := PySem.Challenge.pw_wakeorder_k25_chains.main.body.getD i (.Pass ⟨0, 0, 0, 0⟩)
noncomputable abbrev bL : Stmt := top 33
noncomputable abbrev iy : Stmt := top 42
noncomputable abbrev jP : Stmt := top 35
noncomputable abbrev eO : Stmt := top 36
noncomputable abbrev gG : Stmt := top 28
noncomputable abbrev oh : Stmt := top 26
noncomputable abbrev iu : Stmt := top 27
noncomputable abbrev du : Stmt := top 29
noncomputable abbrev jO : Stmt := top 37
noncomputable abbrev fU : Stmt := top 39
noncomputable abbrev jd : Stmt := top 17
noncomputable abbrev cC : Stmt := top 12
noncomputable abbrev jM : Stmt := top 13
noncomputable abbrev cb : Stmt := inClass (top 30) 3
noncomputable abbrev cM : Stmt := inClass (top 31) 2
noncomputable abbrev gW : Stmt := top 18
noncomputable abbrev jc : Stmt := top 19
noncomputable abbrev mE : Stmt := top 20
noncomputable abbrev gU : Stmt := top 21
noncomputable abbrev gH : Stmt := top 40
noncomputable abbrev jN : Stmt := top 41
noncomputable abbrev dG : Stmt := top 43
noncomputable abbrev g6 : Stmt := top 38
noncomputable abbrev iz : Stmt := top 44
noncomputable abbrev lM : Stmt := top 15
noncomputable abbrev jf : Stmt := top 22
noncomputable abbrev fS : Stmt := top 45
noncomputable abbrev iw : Stmt := top 34
noncomputable abbrev d6 : Stmt := top 46
noncomputable abbrev x5 : Stmt := top 47
noncomputable abbrev s_nR : Stmt := inClass (top 30) 0
noncomputable abbrev s_nP : Stmt := inClass (top 31) 0
noncomputable abbrev uT : Stmt := inClass (top 4) 0
structure Zs (K : PySem.W.Frag) (mg : Str -> Option Value) (CR CP CN CQ AStripError ANoTime ANoPlan ANoRow ANoRules ANoSheet ANotFree ATooMany : Addr) : Prop where
 rT : mg "StripError" = some (.ref AStripError)
 yJ : mg "NoTime" = some (.ref ANoTime)
 yK : mg "NoPlan" = some (.ref ANoPlan)
 mI_NoRow : mg "NoRow" = some (.ref ANoRow)
 xo : mg "NoRules" = some (.ref ANoRules)
 xn : mg "NoSheet" = some (.ref ANoSheet)
 xm : mg "NotFree" = some (.ref ANotFree)
 xk : mg "TooMany" = some (.ref ATooMany)
 o5 : kitOne K (.ref CQ) (.ref AStripError) = some true
 o6 : kitOne K (.ref CQ) (.type "ValueError") = some true
 kT_CQ : kitAny K (.ref CQ) ([ANoTime, ANoPlan, ANoRow, ANoRules, ANoSheet, ANotFree, ATooMany].map Value.ref) = some false
 ne_CN_CQ : CN ≠ CQ
 two : XTwo K mg "NoPlace" "NoTime" CQ CN
 tCQ : XTxt K mg "NoPlace" CQ
 xCN : XTry K mg "NoTime" CN
 aCN_flight : zV K CN "flight"
 aCN_time : zV K CN "time"
 kR : Kls K mg "Rules" CR
 kP : Kls K mg "Pair" CP
 wq : ∀ C ∈ [CR, CP], Cls K C /\ kL K C "gaps"
 xw : ∀ C ∈ [CP], Cls K C /\ kL K C "beside"
 g5 : mg "ValueError" = none
 wO : mg "all" = none
 qj : mg "bool" = none
 fD : mg "enumerate" = none
 qZ : mg "int" = none
 aP : mg "isinstance" = none
 fy : mg "len" = none
 nP : mg "list" = none
 ur : mg "max" = none
 sR : mg "min" = none
 eF : mg "range" = none
 j9 : mg "reversed" = none
 lL : mg "sorted" = none
 oz : mg "tuple" = none
 dz : ∃ t, mg "GREATEST_GAP" = some (.int 1000000 t)
 gc : ∃ t, mg "MOST_KINDS" = some (.int 6 t)
 kit : Kit K
theorem sc_nCN : aH ["self", "flight", "time"] ["self", "flight", "time"] (aq uT) := ⟨rfl, rfl, rfl, by decide +kernel, rfl, by decide +kernel, by decide +kernel⟩
theorem okn_CN {P : Program} {w : World} {K : PySem.W.Frag} {mg : Str -> Option Value} {base : Heap} {C f : Addr} {fd : FuncData} (N : Fun K "__init__" "NoTime.__init__" uT f fd) (z1 : zV K C "flight") (z2 : zV K C "time") : cJ P w K mg base CX0 1 f fd ["self", "flight", "time"] (spX2 C "flight" "time") := by
 refine N.okX sc_nCN (fun vs H Q E h => ?_) (fun cdv A outer s H vs Q E hr h => ?_)
 ·obtain ⟨a, v1, v2, rfl, _⟩ := h
  rfl
 ·obtain ⟨a, v1, v2, rfl, ha, q⟩ := h
  refine ⟨_, mI (ps_x1 (pv 0) (pv 1) z1) (nu (ps_x2 (pv 0) (pv 2) z2)), ?_⟩
  refine ⟨v1, rfl, _, rfl, a, rfl, ha, fun d hd hne => ⟨v2, rfl, _, rfl, a, d, [("flight", v1)], rfl, av, by rw [au hne]; exact av, hne, (by show 1 <= 900; decide), ?_⟩⟩
  rw [upd_mid hne]
  exact q d hd hne
theorem ir : aH ["_law_script", "_law_k", "_law_cell", "_law_number"] ["_law_script", "_law_k"] (aq bL) := ⟨rfl, rfl, rfl, by decide +kernel, rfl, by decide +kernel, by decide +kernel⟩
theorem tN {n : Nat} {P : Program} {w : World} {K : PySem.W.Frag} {mg : Str -> Option Value} {base : Heap} {CR CP CN CQ AStripError ANoTime ANoPlan ANoRow ANoRules ANoSheet ANotFree ATooMany : Addr} (Z : Zs K mg CR CP CN CQ AStripError ANoTime ANoPlan ANoRow ANoRules ANoSheet ANotFree ATooMany) {aL : Addr} {aG : FuncData} (bN : Def K mg "_law_draw" bL ["_law_script", "_law_k"] aL aG) : cJ P w K mg base CX0 1 aL aG ["_law_script", "_law_k"] (spF K false (ar CR CP CN CQ n) 2) :=
 nI (O' := []) bN.fn ir false (kb CR CP CN CQ n) fun cdv A outer s H E hr =>
  (ai (aw (i := 2) (own := false) ir.nd (ak 1))
  (ai (gB (cD o_gt (aE ip Z.fy PySem.boot_len (a8 (ak 0) aj)) af)
   (ay (aw (i := 2) (own := false) ir.nd (az bc (ak 0) (aA gx (ak 1) (aE ip Z.fy PySem.boot_len (a8 (ak 0) aj))))))
   cE)
  (ai (aw (i := 3) (own := false) ir.nd (aA gx (aA jT (aT (aA gJ (aT (aA gJ (ak 2) (aA jT (aA jT af (ak 1)) (ak 1)))) (ak 1))) af) af))
  (ay (aO (aA jo (aA gx (aA jT (ak 3) af) af) af))))))
theorem rC : aH ["_law_script"] ["_law_script"] (aq iy) := ⟨rfl, rfl, rfl, by decide +kernel, rfl, by decide +kernel, by decide +kernel⟩
theorem rK {n : Nat} {P : Program} {w : World} {K : PySem.W.Frag} {mg : Str -> Option Value} {base : Heap} {CR CP CN CQ AStripError ANoTime ANoPlan ANoRow ANoRules ANoSheet ANotFree ATooMany : Addr} (Z : Zs K mg CR CP CN CQ AStripError ANoTime ANoPlan ANoRow ANoRules ANoSheet ANotFree ATooMany) {aL : Addr} {aG : FuncData} (ae : Yd P w K mg base CX0 1 "_law_draw" bL ["_law_script", "_law_k"] (spF K false (ar CR CP CN CQ n) 2) aL aG) {gq : Addr} {eX : FuncData} (iR : Def K mg "_law_scale" iy ["_law_script"] gq eX) : cJ P w K mg base CX0 2 gq eX ["_law_script"] (spF K false (bF CR CP CN CQ n) 1) :=
 nI (O' := []) iR.fn rC false (eD CR CP CN CQ n) fun cdv A outer s H E hr =>
  (ay (aO (az bc (aT (gE (a8 af (a8 af (a8 af (a8 (aA yE af af) aj)))))) (aA gx (aD ae.o hr ae.d.mg ae.d.fn.kp ae.d.bd (a8 (ak 0) (a8 af aj))) af))))
theorem eA : aH ["_law_script", "_law_by", "_law_kinds", "_law_scale_here", "_law_rows", "_law_one", "_law_row", "_law_other", "_law_number"] ["_law_script", "_law_by", "_law_kinds", "_law_scale_here"] (aq jP) := ⟨rfl, rfl, rfl, by decide +kernel, rfl, by decide +kernel, by decide +kernel⟩
theorem tM {n : Nat} {P : Program} {w : World} {K : PySem.W.Frag} {mg : Str -> Option Value} {base : Heap} {CR CP CN CQ AStripError ANoTime ANoPlan ANoRow ANoRules ANoSheet ANotFree ATooMany : Addr} (Z : Zs K mg CR CP CN CQ AStripError ANoTime ANoPlan ANoRow ANoRules ANoSheet ANotFree ATooMany) {aL : Addr} {aG : FuncData} (ae : Yd P w K mg base CX0 1 "_law_draw" bL ["_law_script", "_law_k"] (spF K false (ar CR CP CN CQ n) 2) aL aG) {i7 : Addr} {gm : FuncData} (kF : Def K mg "_law_gaps" jP ["_law_script", "_law_by", "_law_kinds", "_law_scale_here"] i7 gm) : cJ P w K mg base CX0 2 i7 gm ["_law_script", "_law_by", "_law_kinds", "_law_scale_here"] (spF K false (fK CR CP CN CQ n) 4) :=
 nI (O' := []) kF.fn eA false (mq CR CP CN CQ n) fun cdv A outer s H E hr =>
  (ai (aw (i := 4) (own := true) eA.nd (gE aj))
  (ai (iG (pt := .nm 5) (kh Z.eF (a8 (ak 2) aj)) (sq eA.nd)
   (ai (aw (i := 6) (own := true) eA.nd (gE aj))
  (cF (O2 := [4, 6]) (ai (iG (pt := .nm 7) (kh Z.eF (a8 (ak 2) aj)) (sq eA.nd)
   (ai (aw (i := 8) (own := false) eA.nd (aD ae.o hr ae.d.mg ae.d.fn.kp ae.d.bd (a8 (ak 0) (a8 (aT (aA gJ (aT (aA gJ (ak 1) (aA jT (ak 5) (ak 2)))) (ak 7))) aj))))
  (ay (kg (i := 6) (aT (aA gJ (aA jT (aA gx (ak 8) af) (ak 3)) (aA gx (aA jo (ak 8) af) (ak 3))))))))
  (cF (O2 := [4]) (ay (kg (i := 4) (ak 6))))))))
  (cF (O2 := []) (ay (aO (ak 4))))))
theorem dF : aH ["_law_script", "_law_scale_here", "_law_kinds", "_law_beside"] ["_law_script", "_law_scale_here"] (aq eO) := ⟨rfl, rfl, rfl, by decide +kernel, rfl, by decide +kernel, by decide +kernel⟩
theorem nY {n : Nat} {P : Program} {w : World} {K : PySem.W.Frag} {mg : Str -> Option Value} {base : Heap} {CR CP CN CQ AStripError ANoTime ANoPlan ANoRow ANoRules ANoSheet ANotFree ATooMany : Addr} (Z : Zs K mg CR CP CN CQ AStripError ANoTime ANoPlan ANoRow ANoRules ANoSheet ANotFree ATooMany) {i7 : Addr} {gm : FuncData} (cY : Yd P w K mg base CX0 2 "_law_gaps" jP ["_law_script", "_law_by", "_law_kinds", "_law_scale_here"] (spF K false (fK CR CP CN CQ n) 4) i7 gm) {aL : Addr} {aG : FuncData} (ae : Yd P w K mg base CX0 1 "_law_draw" bL ["_law_script", "_law_k"] (spF K false (ar CR CP CN CQ n) 2) aL aG) {cW : Addr} {cw : FuncData} (fw : Def K mg "_law_rules_of" eO ["_law_script", "_law_scale_here"] cW cw) : cJ P w K mg base CX0 3 cW cw ["_law_script", "_law_scale_here"] (spF K false (bx CR CP CN CQ n) 2) :=
 nI (O' := []) fw.fn dF false (eU CR CP CN CQ n) fun cdv A outer s H E hr =>
  (ai (aw (i := 2) (own := false) dF.nd (aT (aA gJ af (aA gx (aD ae.o (hr.mono (by decide)) ae.d.mg ae.d.fn.kp ae.d.bd (a8 (ak 0) (a8 af aj))) af))))
  (ai (aw (i := 3) (own := false) dF.nd zu)
  (ai (gB (cD (w5 hr.units) (aA gx (aD ae.o (hr.mono (by decide)) ae.d.mg ae.d.fn.kp ae.d.bd (a8 (ak 0) (a8 af aj))) af) af)
   (ay (aw (i := 3) (own := false) dF.nd (aD cY.o hr cY.d.mg cY.d.fn.kp cY.d.bd (a8 (ak 0) (a8 af (a8 (ak 2) (a8 (ak 1) aj)))))))
   cE)
  (ay (aO (iH (a8 (aD cY.o hr cY.d.mg cY.d.fn.kp cY.d.bd (a8 (ak 0) (a8 af (a8 (ak 2) (a8 (ak 1) aj))))) (a8 (ak 3) aj))))))))
theorem pN : aH ["rows"] ["rows"] (aq gG) := ⟨rfl, rfl, rfl, by decide +kernel, rfl, by decide +kernel, by decide +kernel⟩
theorem pS {n : Nat} {P : Program} {w : World} {K : PySem.W.Frag} {mg : Str -> Option Value} {base : Heap} {CR CP CN CQ AStripError ANoTime ANoPlan ANoRow ANoRules ANoSheet ANotFree ATooMany : Addr} (Z : Zs K mg CR CP CN CQ AStripError ANoTime ANoPlan ANoRow ANoRules ANoSheet ANotFree ATooMany) {f6 : Addr} {dA : FuncData} (gR : Def K mg "copied_rows" gG ["rows"] f6 dA) : cJ P w K mg base CX0 1 f6 dA ["rows"] (spF K false (eQ CR CP CN CQ n) 1) :=
 nI (O' := []) gR.fn pN false (k9 CR CP CN CQ n) fun cdv A outer s H E hr =>
  (ay (aO (aT (lG ["row"] [none] (kI (ak 0)) (fun _ _ _ _ _ => pj (by decide +kernel)) (dQ rfl) (fun _ _ _ _ _ => kf) (fun _ _ _ _ _ => (aT (px c_list Z.nP PyProof.Rows.boot_list (a8 (ak 0) aj))))))))
theorem y0 : aH ["number"] ["number"] (aq oh) := ⟨rfl, rfl, rfl, by decide +kernel, rfl, by decide +kernel, by decide +kernel⟩
theorem yB {n : Nat} {P : Program} {w : World} {K : PySem.W.Frag} {mg : Str -> Option Value} {base : Heap} {CR CP CN CQ AStripError ANoTime ANoPlan ANoRow ANoRules ANoSheet ANotFree ATooMany : Addr} (Z : Zs K mg CR CP CN CQ AStripError ANoTime ANoPlan ANoRow ANoRules ANoSheet ANotFree ATooMany) {mQ : Addr} {lB : FuncData} (oy : Def K mg "is_gap" oh ["number"] mQ lB) : cJ P w K mg base CX0 1 mQ lB ["number"] (spF K false (jV CR CP CN CQ n) 1) :=
 nI (O' := []) oy.fn y0 false (rZ CR CP CN CQ n) fun cdv A outer s H E hr =>
  (ai (gB (PW.pt (zp (qH (lX (qK Z.kit Z.aP Z.qZ (ak 0)))) (wx (lX (pw Z.kit Z.aP Z.qj (ak 0))))))
   (ay (aO o7))
   cE)
  (ay (aO (wA o_le o_le af (ak 0) (zv Z.dz)))))
theorem rA : aH ["row", "kinds"] ["row", "kinds"] (aq iu) := ⟨rfl, rfl, rfl, by decide +kernel, rfl, by decide +kernel, by decide +kernel⟩
theorem rH {n : Nat} {P : Program} {w : World} {K : PySem.W.Frag} {mg : Str -> Option Value} {base : Heap} {CR CP CN CQ AStripError ANoTime ANoPlan ANoRow ANoRules ANoSheet ANotFree ATooMany : Addr} (Z : Zs K mg CR CP CN CQ AStripError ANoTime ANoPlan ANoRow ANoRules ANoSheet ANotFree ATooMany) {mQ : Addr} {lB : FuncData} (ou : Yd P w K mg base CX0 1 "is_gap" oh ["number"] (spF K false (jV CR CP CN CQ n) 1) mQ lB) {gn : Addr} {eV : FuncData} (iP : Def K mg "is_gap_row" iu ["row", "kinds"] gn eV) : cJ P w K mg base CX0 2 gn eV ["row", "kinds"] (spF K false (cP CR CP CN CQ n) 2) :=
 nI (O' := []) iP.fn rA false (lz CR CP CN CQ n) fun cdv A outer s H E hr =>
  (ay (aO (zx (pq Z.kit Z.aP Z.nP (ak 0)) (zx (u7 (w5 hr.units) (aE ip Z.fy PySem.boot_len (a8 (ak 0) aj)) (ak 1)) (de_one (aE (c_all rfl) Z.wO boot_all (a8 (aT (lG ["number"] [none] (kI (ak 0)) (fun _ _ _ _ _ => pj (by decide +kernel)) (dQ rfl) (fun _ _ _ _ _ => kf) (fun _ _ _ _ _ => (aD ou.o hr ou.d.mg ou.d.fn.kp ou.d.bd (a8 (ak 0) aj))))) aj)))))))
theorem kW : aH ["rows", "kinds"] ["rows"] (aq du) := ⟨rfl, rfl, rfl, by decide +kernel, rfl, by decide +kernel, by decide +kernel⟩
theorem oN {n : Nat} {P : Program} {w : World} {K : PySem.W.Frag} {mg : Str -> Option Value} {base : Heap} {CR CP CN CQ AStripError ANoTime ANoPlan ANoRow ANoRules ANoSheet ANotFree ATooMany : Addr} (Z : Zs K mg CR CP CN CQ AStripError ANoTime ANoPlan ANoRow ANoRules ANoSheet ANotFree ATooMany) {f6 : Addr} {dA : FuncData} (gO : Yd P w K mg base CX0 1 "copied_rows" gG ["rows"] (spF K false (eQ CR CP CN CQ n) 1) f6 dA) {gn : Addr} {eV : FuncData} (iK : Yd P w K mg base CX0 2 "is_gap_row" iu ["row", "kinds"] (spF K false (cP CR CP CN CQ n) 2) gn eV) {b8 : Addr} {aU : FuncData} (aF : Def K mg "checked_rows" du ["rows"] b8 aU) : cJ P w K mg base CX0 3 b8 aU ["rows"] (spF K false (aC CR CP CN CQ n) 1) :=
 nI (O' := []) aF.fn kW false (iZ CR CP CN CQ n) fun cdv A outer s H E hr =>
  (ai (aw (i := 1) (own := false) kW.nd (aE ip Z.fy PySem.boot_len (a8 (ak 0) aj)))
  (ai (gB (qH (si o_le o_le af (ak 1) (zv Z.gc)))
   (ay ds_stk)
   cE)
  (ai (gB (qH (lX (aE (c_all rfl) Z.wO boot_all (a8 (aT (lG ["row", "kinds"] [none, some 1] (kI (ak 0)) (fun _ _ _ _ _ => pj (by decide +kernel)) (dQ rfl) (fun _ _ _ _ _ => kf) (fun _ _ _ _ _ => (aD iK.o hr iK.d.mg iK.d.fn.kp iK.d.bd (a8 (ak 0) (a8 (ak 1) aj)))))) aj))))
   (ay ds_stk)
   cE)
  (ay (aO (aD gO.o (hr.mono (by decide)) gO.d.mg gO.d.fn.kp gO.d.bd (a8 (ak 0) aj)))))))
theorem sc_nR : aH ["self", "gaps"] ["self", "gaps"] (aq s_nR) := ⟨rfl, rfl, rfl, by decide +kernel, rfl, by decide +kernel, by decide +kernel⟩
theorem okn_R {n : Nat} {P : Program} {w : World} {K : PySem.W.Frag} {mg : Str -> Option Value} {base : Heap} {CR CP CN CQ : Addr} {C b8 f : Addr} {aU fd : FuncData} (aF : Def K mg "checked_rows" du ["rows"] b8 aU) (OK : cJ P w K mg base CX0 3 b8 aU ["rows"] (spF K false (aC CR CP CN CQ n) 1))
  (N : Fun K "__init__" "Rules.__init__" s_nR f fd) (cl : Cls K C) (na : kL K C "gaps") : cJ P w K mg base CX0 4 f fd ["self", "gaps"] (spI1 K C (aC CR CP CN CQ n)) := by
 refine N.okX sc_nR (fun vs H Q E h => ?_) (fun cdv A outer s H vs Q E hr h => ?_)
 ·obtain ⟨p, dx, v, F, d, rfl, _⟩ := h
  rfl
 ·obtain ⟨p, dx, v, F, d, rfl, hp, hF, s1, qd, q⟩ := h
  refine ⟨_, nu (ps_fld (pv 0) (oM OK hr (by rfl) aF.mg aF.fn.kp aF.bd .nil v3 (aS (pv 1) dk)) rfl), ?_⟩
  refine ⟨v, rfl, F, [d], s1, ⟨v, [], rfl, qd, rfl⟩, rfl, ?_⟩
  skip
  cases hg : aC CR CP CN CQ n [d] with
  | error e => rw [hg] at q; exact q
  | ok r =>
   rw [hg] at q
   intro u F' H' st qw
   have hF1 : F' p = none := by
    cases hz : F' p with
    | none => rfl
    | some o =>
     rcases st.nw p o hz with z | z
     ·rw [hF] at z; cases z
     ·rw [hp] at z; cases z
   refine ⟨_, rfl, p, C, dx, [], rfl, st.hh _ _ hp, cl, na, (by show 0 < 1000; decide), ?_⟩
   refine q u F' _ st.ff (fun c o e => ?_) hF1 st.nw (fun c o e hc => by rw [au hc]; exact st.hh _ _ e) av qw
   have hc : c ≠ p := fun z => by rw [z, hF1] at e; cases e
   rw [au hc]
   exact st.fh _ _ e
theorem putGB (a b : V) : pQ ("beside" : Str) b [(("gaps" : Str), a)] = [(("gaps" : Str), a), (("beside" : Str), b)] := by
 show (if ("gaps" : Str) = "beside" then _ else (("gaps" : Str), a) :: pQ "beside" b []) = _
 rw [if_neg (by decide +kernel)]
 rfl
theorem sc_nP : aH ["self", "gaps", "beside"] ["self", "gaps", "beside"] (aq s_nP) := ⟨rfl, rfl, rfl, by decide +kernel, rfl, by decide +kernel, by decide +kernel⟩
theorem okn_P {n : Nat} {P : Program} {w : World} {K : PySem.W.Frag} {mg : Str -> Option Value} {base : Heap} {CR CP CN CQ : Addr} {b8 f fR : Addr} {aU fd fdR : FuncData} {mc : Value} (aF : Def K mg "checked_rows" du ["rows"] b8 aU) (OK : cJ P w K mg base CX0 3 b8 aU ["rows"] (spF K false (aC CR CP CN CQ n) 1))
  (S : Stat K CR mc "__init__" fR) (bI : Binds K fdR ["self", "gaps"] []) (FI : cJ P w K mg base CX0 4 fR fdR ["self", "gaps"] (spI1 K CP (aC CR CP CN CQ n))) (mR : mg "Rules" = some (.ref CR)) (zl : mg "len" = none)
  (N : Fun K "__init__" "Pair.__init__" s_nP f fd) (cl : Cls K CP) (na : kL K CP "gaps") (nb : kL K CP "beside") : cJ P w K mg base CX0 5 f fd ["self", "gaps", "beside"] (spI2 K CP (aC CR CP CN CQ n)) := by
 refine N.okX sc_nP (fun vs H Q E h => ?_) (fun cdv A outer s H vs Q E hr h => ?_)
 ·obtain ⟨p, dx, v, v2, F, d, d2, rfl, _⟩ := h
  rfl
 ·obtain ⟨p, dx, v, v2, F, d, d2, rfl, hp, hF, s1, qd, qd2, q⟩ := h
  refine ⟨_, mI (uX (pe_cmeth S (by rfl) mR FI hr bI .nil v3 (aS (pv 0) (aS (pv 1) dk))))
   (mI (ps_fld (pv 0) (oM OK (hr.mono (by decide)) (by rfl) aF.mg aF.fn.kp aF.bd .nil v3 (aS (pv 2) dk)) rfl)
   (nu (ps_if (yh op_ne (fV lI (by rfl) zl PySem.boot_len (aS (yw (pv 0) rfl) dk)) (fV lI (by rfl) zl PySem.boot_len (aS (yw (pv 0) rfl) dk)) (yG _)) yj yi))), ?_⟩
  refine ⟨_, rfl, _, rfl, p, dx, v, F, d, rfl, hp, hF, s1, qd, ?_⟩
  cases hg : aC CR CP CN CQ n [d] with
  | error e => rw [hg] at q; exact q
  | ok r =>
   rw [hg, ax] at q
   intro u F1 H1 a1 a2 a3 a4 a5 a6 a7
   refine ⟨v2, rfl, F1, [d2], a2, ⟨v2, [], rfl, bT.mono a1 qd2, rfl⟩, rfl, ?_⟩
   skip
   cases hg2 : aC CR CP CN CQ n [d2] with
   | error e => rw [hg2] at q; exact False.elim q
   | ok r2 =>
    rw [hg2, ax] at q
    intro u2 F2 H2 st qw
    by_cases ht : twoL r r2 = true
    ·rw [if_pos ht] at q
     have hF2 : F2 p = none := by
      cases hz : F2 p with
      | none => rfl
      | some o =>
       rcases st.nw p o hz with z | z
       ·rw [a3] at z; cases z
       ·rw [a6] at z; cases z
     refine ⟨_, rfl, p, CP, dx, _, rfl, st.hh _ _ a6, cl, nb, (by show 1 < 1000; decide), ?_⟩
     rw [putGB]
     have s3 : aY F2 (upd H2 p (.ins CP dx [("gaps", u), ("beside", u2)])) := fun c o e => by
      have hc : c ≠ p := fun z => by rw [z, hF2] at e; cases e
      rw [au hc]
      exact st.fh _ _ e
     cases r with
     | lst xs =>
      cases r2 with
      | lst ys =>
       have hl : xs.length = ys.length := of_decide_eq_true ht
       obtain ⟨g1, xs1, e1, t1, z1⟩ := bT.mono st.ff a7
       obtain ⟨g2, xs2, e2, t2, z2⟩ := id qw
       refine ⟨_, rfl, p, CP, dx, _, _, rfl, av, cl, nb, rfl, g2, _, by rw [e2], .inl (s3.lst t2), _, rfl, p, CP, dx, _, _, rfl, av, cl, na, rfl, g1, _, by rw [e1], .inl (s3.lst t1), rfl, _, rfl, ?_⟩
       refine iteNS (by rw [z1.length, z2.length, hl]) ?_
       refine q u u2 F2 _ (a1.trans st.ff) s3 hF2 (fun b o e => ?_) (fun c o e hc => by rw [au hc]; exact st.hh _ _ (a5 c o e hc)) av (bT.mono st.ff a7) qw
       rcases st.nw b o e with z | z
       ·exact a4 b o z
       ·refine .inr ?_
        cases hz : H b with
        | none => rfl
        | some o' =>
         by_cases hb : b = p
         ·subst hb; rw [hF2] at e; cases e
         ·rw [a5 b o' hz hb] at z; cases z
      | _ => cases ht
     | _ => cases ht
    ·rw [if_neg ht] at q; exact False.elim q
theorem tm : aH ["_law_rules"] ["_law_rules"] (aq jO) := ⟨rfl, rfl, rfl, by decide +kernel, rfl, by decide +kernel, by decide +kernel⟩
theorem tL {n : Nat} {P : Program} {w : World} {K : PySem.W.Frag} {mg : Str -> Option Value} {base : Heap} {CR CP CN CQ AStripError ANoTime ANoPlan ANoRow ANoRules ANoSheet ANotFree ATooMany : Addr} (Z : Zs K mg CR CP CN CQ AStripError ANoTime ANoPlan ANoRow ANoRules ANoSheet ANotFree ATooMany) {f_nP : Addr} {fd_nP : FuncData} (N_P : Mth K CP "__init__" "Pair.__init__" s_nP ["self", "gaps", "beside"] f_nP fd_nP) (OKN_P : cJ P w K mg base CX0 5 f_nP fd_nP ["self", "gaps", "beside"] (spI2 K CP (aC CR CP CN CQ n))) {f_nR : Addr} {fd_nR : FuncData} (N_R : Mth K CR "__init__" "Rules.__init__" s_nR ["self", "gaps"] f_nR fd_nR) (OKN_R : cJ P w K mg base CX0 4 f_nR fd_nR ["self", "gaps"] (spI1 K CR (aC CR CP CN CQ n))) {i6 : Addr} {gk : FuncData} (kE : Def K mg "_law_made" jO ["_law_rules"] i6 gk) : cJ P w K mg base CX0 7 i6 gk ["_law_rules"] (spF K false (dP CR CP CN CQ n) 1) :=
 nI (O' := []) kE.fn tm false (ka CR CP CN CQ n) fun cdv A outer s H E hr =>
  (ai (gB (cD o_isN (az bc (ak 0) af) zu)
   (ay (aO (de_newR ⟨Z.kR.mks, N_R.mt.at_, N_R.mt.fn, Z.kR.kp⟩ OKN_R (hr.mono (by decide)) Z.kR.mg N_R.bd (a8 (az bc (ak 0) af) aj))))
   cE)
  (ay (aO (de_newP ⟨Z.kP.mks, N_P.mt.at_, N_P.mt.fn, Z.kP.kp⟩ OKN_P hr Z.kP.mg N_P.bd (a8 (az bc (ak 0) af) (a8 (az bc (ak 0) af) aj))))))
theorem aK : aH ["_law_script", "_law_rules", "_law_most", "_law_scale_here", "_law_many", "_law_flights_here", "_law_k", "_law_number", "_law_first", "_law_wide", "_law_last", "_law_due", "_law_price"] ["_law_script", "_law_rules", "_law_most", "_law_scale_here"] (aq fU) := ⟨rfl, rfl, rfl, by decide +kernel, rfl, by decide +kernel, by decide +kernel⟩
theorem oP {n : Nat} {P : Program} {w : World} {K : PySem.W.Frag} {mg : Str -> Option Value} {base : Heap} {CR CP CN CQ AStripError ANoTime ANoPlan ANoRow ANoRules ANoSheet ANotFree ATooMany : Addr} (Z : Zs K mg CR CP CN CQ AStripError ANoTime ANoPlan ANoRow ANoRules ANoSheet ANotFree ATooMany) {aL : Addr} {aG : FuncData} (ae : Yd P w K mg base CX0 1 "_law_draw" bL ["_law_script", "_law_k"] (spF K false (ar CR CP CN CQ n) 2) aL aG) {dE : Addr} {cV : FuncData} (g4 : Def K mg "_law_flights" fU ["_law_script", "_law_rules", "_law_most", "_law_scale_here"] dE cV) : cJ P w K mg base CX0 2 dE cV ["_law_script", "_law_rules", "_law_most", "_law_scale_here"] (spF K false (cz CR CP CN CQ n) 4) :=
 nI (O' := []) g4.fn aK false (j0 CR CP CN CQ n) fun cdv A outer s H E hr =>
  (ai (aw (i := 4) (own := false) aK.nd (aA gx (aD ae.o hr ae.d.mg ae.d.fn.kp ae.d.bd (a8 (ak 0) (a8 af aj))) (aT (aA gJ (aA jo (ak 2) af) af))))
  (ai (gB (cD (w5 hr.units) (aA gx (aD ae.o hr ae.d.mg ae.d.fn.kp ae.d.bd (a8 (ak 0) (a8 af aj))) af) af)
   (ay (aw (i := 4) (own := false) aK.nd (ak 2)))
   cE)
  (ai (aw (i := 5) (own := true) aK.nd (gE aj))
  (ai (iG (pt := .nm 6) (kh Z.eF (a8 (ak 4) aj)) (sq aK.nd)
   (ai (aw (i := 7) (own := false) aK.nd (aD ae.o hr ae.d.mg ae.d.fn.kp ae.d.bd (a8 (ak 0) (a8 (aT (aA gJ af (ak 6))) aj))))
  (ai (aw (i := 8) (own := false) aK.nd (aA gx (aA jo (ak 7) af) (aA jT (aA jT af (ak 3)) (aT (aA gJ (ak 6) af)))))
  (ai (aw (i := 9) (own := false) aK.nd (az bc (aT (gE (a8 (aA yE af af) (a8 (aA jT (aA jT af (ak 3)) (ak 4)) (a8 (aA jT (aA jT af (ak 3)) (ak 4)) (a8 (aA jT af (ak 3)) aj)))))) (aA jo (aA gx (ak 7) af) af)))
  (ai (aw (i := 10) (own := false) aK.nd (aE (c_min rfl) Z.sR boot_min (a8 (aA yE af af) (a8 (aT (aA gJ (ak 8) (ak 9))) aj))))
  (ai (aw (i := 11) (own := false) aK.nd (aE (c_min rfl) Z.sR boot_min (a8 (aA yE af af) (a8 (aT (aA gJ (ak 8) (aA gx (aA jo (ak 7) af) (aA jT af (ak 3))))) aj))))
  (ai (aw (i := 12) (own := false) aK.nd (az bc (aT (gE (a8 (aA gx (aA jo (ak 7) af) af) (a8 (aA gx (aA jo (ak 7) af) (aT (aA gJ (aA yE af af) af))) aj)))) (aA gx (aA jo (ak 7) af) af)))
  (ay (kg (i := 5) (iH (a8 (aA gx (aA jo (ak 7) af) (aE ip Z.fy PySem.boot_len (a8 (az bc (ak 1) af) aj))) (a8 (ak 8) (a8 (ak 10) (a8 (ak 11) (a8 (ak 12) aj)))))))))))))))
  (cF (O2 := []) (ay (aO (ak 5))))))))
theorem uR : aH ["flights", "plan"] ["flights", "plan"] (aq jd) := ⟨rfl, rfl, rfl, by decide +kernel, rfl, by decide +kernel, by decide +kernel⟩
theorem v8 {n : Nat} {P : Program} {w : World} {K : PySem.W.Frag} {mg : Str -> Option Value} {base : Heap} {CR CP CN CQ AStripError ANoTime ANoPlan ANoRow ANoRules ANoSheet ANotFree ATooMany : Addr} (Z : Zs K mg CR CP CN CQ AStripError ANoTime ANoPlan ANoRow ANoRules ANoSheet ANotFree ATooMany) {fO : Addr} {dS : FuncData} (jH : Def K mg "spots_of" jd ["flights", "plan"] fO dS) : cJ P w K mg base CX0 1 fO dS ["flights", "plan"] (spF K false (fG CR CP CN CQ n) 2) :=
 nI (O' := []) jH.fn uR false (nF CR CP CN CQ n) fun cdv A outer s H E hr =>
  (ay (aO (aT (lG ["flight", "strip", "flights"] [none, none, some 0] (kI (ak 1)) (fun _ _ _ _ _ => q9 rfl (jD (i := 0) (by decide +kernel) (jD (i := 1) (by decide +kernel) j4))) (oU (by decide)) (fun _ _ _ _ _ => kf) (fun _ _ _ _ _ => (iH (a8 (az bc (az bc (ak 2) (ak 0)) af) (a8 (ak 1) aj))))))))
theorem bZ : aH ["closed", "joined", "start", "stop"] ["closed"] (aq cC) := ⟨rfl, rfl, rfl, by decide +kernel, rfl, by decide +kernel, by decide +kernel⟩
theorem m8 {n : Nat} {P : Program} {w : World} {K : PySem.W.Frag} {mg : Str -> Option Value} {base : Heap} {CR CP CN CQ AStripError ANoTime ANoPlan ANoRow ANoRules ANoSheet ANotFree ATooMany : Addr} (Z : Zs K mg CR CP CN CQ AStripError ANoTime ANoPlan ANoRow ANoRules ANoSheet ANotFree ATooMany) {bH : Addr} {bz : FuncData} (cK : Def K mg "joined_stretches" cC ["closed"] bH bz) : cJ P w K mg base CX0 1 bH bz ["closed"] (spF K false (bE CR CP CN CQ n) 1) :=
 nI (O' := []) cK.fn bZ false (eT CR CP CN CQ n) fun cdv A outer s H E hr =>
  (ai (aw (i := 1) (own := true) bZ.nd (gE aj))
  (ai (iG (pt := .tp [2, 3]) (kI (aT (aE wH Z.lL boot_sorted (a8 (ak 0) aj)))) (q9 rfl (ck (i := 2) bZ.nd (ck (i := 3) bZ.nd j4)))
   (ay (gB (PW.pt (dw_and (lX (ak 1)) (zq (cD o_le (ak 2) (az bc (az bc (ak 1) (su rQ af)) af)))))
   (ay (ds_setI (i := 1) (iH (a8 (az bc (az bc (ak 1) (su rQ af)) af) (a8 (aE (c_max rfl) Z.ur boot_max (a8 (ak 3) (a8 (az bc (az bc (ak 1) (su rQ af)) af) aj))) aj))) (su rQ af)))
   (ay (kg (i := 1) (iH (a8 (ak 2) (a8 (ak 3) aj))))))))
  (cF (O2 := []) (ay (aO (ak 1))))))
theorem kU : aH ["closed", "time", "start", "stop"] ["closed", "time"] (aq jM) := ⟨rfl, rfl, rfl, by decide +kernel, rfl, by decide +kernel, by decide +kernel⟩
theorem tI {n : Nat} {P : Program} {w : World} {K : PySem.W.Frag} {mg : Str -> Option Value} {base : Heap} {CR CP CN CQ AStripError ANoTime ANoPlan ANoRow ANoRules ANoSheet ANotFree ATooMany : Addr} (Z : Zs K mg CR CP CN CQ AStripError ANoTime ANoPlan ANoRow ANoRules ANoSheet ANotFree ATooMany) {bH : Addr} {bz : FuncData} (cI : Yd P w K mg base CX0 1 "joined_stretches" cC ["closed"] (spF K false (bE CR CP CN CQ n) 1) bH bz) {i4 : Addr} {gd : FuncData} (kC : Def K mg "next_open" jM ["closed", "time"] i4 gd) : cJ P w K mg base CX0 2 i4 gd ["closed", "time"] (spF K false (fH CR CP CN CQ n) 2) :=
 nI (O' := []) kC.fn kU false (k8 CR CP CN CQ n) fun cdv A outer s H E hr =>
  (ai (iG (pt := .tp [2, 3]) (kI (aD cI.o hr cI.d.mg cI.d.fn.kp cI.d.bd (a8 (ak 0) aj))) (q9 rfl (ck (i := 2) kU.nd (ck (i := 3) kU.nd j4)))
   (ay (gB (si o_le o_lt (ak 2) (ak 1) (ak 3))
   (ay (aO (ak 3)))
   cE)))
  (ay (aO (ak 1))))
theorem pO : aH ["self", "one", "other"] ["self", "one", "other"] (aq cb) := ⟨rfl, rfl, rfl, by decide +kernel, rfl, by decide +kernel, by decide +kernel⟩
theorem pU {n : Nat} {P : Program} {w : World} {K : PySem.W.Frag} {mg : Str -> Option Value} {base : Heap} {CR CP CN CQ AStripError ANoTime ANoPlan ANoRow ANoRules ANoSheet ANotFree ATooMany : Addr} (Z : Zs K mg CR CP CN CQ AStripError ANoTime ANoPlan ANoRow ANoRules ANoSheet ANotFree ATooMany) {b9 : Addr} {dC : FuncData} (gT : Mth K CR "apart" "Rules.apart" cb ["self", "one", "other"] b9 dC) : cJ P w K mg base CX0 1 b9 dC ["self", "one", "other"] (spF K false (cf CR CP CN CQ n) 3) :=
 nI (O' := []) gT.fn pO false (ke CR CP CN CQ n) fun cdv A outer s H E hr =>
  (ay (aO (az bc (az bc (zw (Cs := [CR, CP]) Z.wq (ak 0)) (az bc (ak 1) af)) (az bc (ak 2) af))))
theorem mD : aH ["self", "one", "other", "rows"] ["self", "one", "other"] (aq cM) := ⟨rfl, rfl, rfl, by decide +kernel, rfl, by decide +kernel, by decide +kernel⟩
theorem rN {n : Nat} {P : Program} {w : World} {K : PySem.W.Frag} {mg : Str -> Option Value} {base : Heap} {CR CP CN CQ AStripError ANoTime ANoPlan ANoRow ANoRules ANoSheet ANotFree ATooMany : Addr} (Z : Zs K mg CR CP CN CQ AStripError ANoTime ANoPlan ANoRow ANoRules ANoSheet ANotFree ATooMany) {bo : Addr} {eZ : FuncData} (iT : Mth K CP "apart" "Pair.apart" cM ["self", "one", "other"] bo eZ) : cJ P w K mg base CX0 1 bo eZ ["self", "one", "other"] (spF K false (bY CR CP CN CQ n) 3) :=
 nI (O' := []) iT.fn mD false (iE CR CP CN CQ n) fun cdv A outer s H E hr =>
  (ai (aw (i := 3) (own := false) mD.nd (de_ite (cD (w5 hr.units) (az bc (ak 1) af) (az bc (ak 2) af)) (zw (Cs := [CR, CP]) Z.wq (ak 0)) (zw (Cs := [CP]) Z.xw (ak 0))))
  (ay (aO (az bc (az bc (ak 3) (az bc (ak 1) af)) (az bc (ak 2) af)))))
theorem tj : aH ["rules", "spots", "times", "place"] ["rules", "spots", "times", "place"] (aq gW) := ⟨rfl, rfl, rfl, by decide +kernel, rfl, by decide +kernel, by decide +kernel⟩
theorem tJ {n : Nat} {P : Program} {w : World} {K : PySem.W.Frag} {mg : Str -> Option Value} {base : Heap} {CR CP CN CQ AStripError ANoTime ANoPlan ANoRow ANoRules ANoSheet ANotFree ATooMany : Addr} (Z : Zs K mg CR CP CN CQ AStripError ANoTime ANoPlan ANoRow ANoRules ANoSheet ANotFree ATooMany) {b9 : Addr} {dC : FuncData} (n5 : Mth K CR "apart" "Rules.apart" cb ["self", "one", "other"] b9 dC) (j7 : cJ P w K mg base CX0 1 b9 dC ["self", "one", "other"] (spF K false (cf CR CP CN CQ n) 3)) {bo : Addr} {eZ : FuncData} (n6 : Mth K CP "apart" "Pair.apart" cM ["self", "one", "other"] bo eZ) (kA : cJ P w K mg base CX0 1 bo eZ ["self", "one", "other"] (spF K false (bY CR CP CN CQ n) 3)) {dX : Addr} {cT : FuncData} (ig : Def K mg "gap_times" gW ["rules", "spots", "times", "place"] dX cT) : cJ P w K mg base CX0 2 dX cT ["rules", "spots", "times", "place"] (spF K false (dO CR CP CN CQ n) 4) :=
 nI (O' := []) ig.fn tj false (mm CR CP CN CQ n) fun cdv A outer s H E hr =>
  (ay (aO (aT (lG ["ahead", "rules", "spots", "times", "place"] [none, some 0, some 1, some 2, some 3] (kh Z.eF (a8 (ak 3) aj)) (fun _ _ _ _ _ => pj (by decide +kernel)) (dQ rfl) (fun _ _ _ _ _ => kf) (fun _ _ _ _ _ => (aT (aA gJ (az bc (ak 3) (ak 0)) (de_meth2 Z.kR.cl n5.mt j7 hr n5.bd Z.kP.cl n6.mt kA hr n6.bd (ak 1) (a8 (az bc (ak 2) (ak 0)) (a8 (az bc (ak 2) (ak 4)) aj))))))))))
theorem dN : aH ["rules", "flights", "closed", "plan", "spots", "times", "place", "entry", "flight", "time"] ["rules", "flights", "closed", "plan"] (aq jc) := ⟨rfl, rfl, rfl, by decide +kernel, rfl, by decide +kernel, by decide +kernel⟩
theorem v7 {n : Nat} {P : Program} {w : World} {K : PySem.W.Frag} {mg : Str -> Option Value} {base : Heap} {CR CP CN CQ AStripError ANoTime ANoPlan ANoRow ANoRules ANoSheet ANotFree ATooMany : Addr} (Z : Zs K mg CR CP CN CQ AStripError ANoTime ANoPlan ANoRow ANoRules ANoSheet ANotFree ATooMany) {fO : Addr} {dS : FuncData} (dg : Yd P w K mg base CX0 1 "spots_of" jd ["flights", "plan"] (spF K false (fG CR CP CN CQ n) 2) fO dS) {i4 : Addr} {gd : FuncData} (kx : Yd P w K mg base CX0 2 "next_open" jM ["closed", "time"] (spF K false (fH CR CP CN CQ n) 2) i4 gd) {dX : Addr} {cT : FuncData} (cq : Yd P w K mg base CX0 2 "gap_times" gW ["rules", "spots", "times", "place"] (spF K false (dO CR CP CN CQ n) 4) dX cT) {pY : Addr} {fd_nCN : FuncData} (N_CN : Mth K CN "__init__" "NoTime.__init__" uT ["self", "flight", "time"] pY fd_nCN) (XCN : XMk K mg "NoTime" CN pY) (A0 : cJ P w K mg base CX0 1 pY fd_nCN ["self", "flight", "time"] (spX2 CN "flight" "time")) {fN : Addr} {dR : FuncData} (jG : Def K mg "times_of" jc ["rules", "flights", "closed", "plan"] fN dR) : cJ P w K mg base (CXd P w) 3 fN dR ["rules", "flights", "closed", "plan"] (spX K false (d8 CR CP CN CQ n) 4) :=
 fn_X (O' := []) jG.fn dN false (lP CR CP CN CQ n) fun cdv A outer s H E hr =>
  (ai (oq (aw (i := 4) (own := false) dN.nd (aD dg.o (hr.mono (by decide)) dg.d.mg dg.d.fn.kp dg.d.bd (a8 (ak 1) (a8 (ak 3) aj)))))
  (ai (oq (aw (i := 5) (own := true) dN.nd (gE aj)))
  (ai (iG (pt := .tp [6, 7]) (zt Z.fD (ak 3)) (q9 rfl (ck (i := 6) dN.nd (ck (i := 7) dN.nd j4)))
   (ai (oq (aw (i := 8) (own := false) dN.nd (az bc (ak 1) (az bc (ak 7) af))))
  (ai (oq (sk (i := 9) (own := false) dN.nd (aD kx.o hr kx.d.mg kx.d.fn.kp kx.d.bd (a8 (ak 2) (a8 (aE (c_max rfl) Z.ur boot_max (a8 (aT (aA gJ (aT (gE (a8 (az bc (ak 8) af) aj))) (aD cq.o hr cq.d.mg cq.d.fn.kp cq.d.bd (a8 (ak 0) (a8 (ak 4) (a8 (ak 5) (a8 (ak 6) aj))))))) aj)) aj)))))
  (ai (gB (cD o_gt (ak 9) (az bc (ak 8) af))
   (cF (O2 := []) (ay (zr PySem.F.excBase_ValueError xeqD2 XCN.ex XCN.fn XCN.kp A0 (hr.mono (by decide)) N_CN.bd XCN.mg (a8 (az bc (ak 7) af) (a8 (ak 9) aj)))))
   cE)
  (oo (ay (kg (i := 5) (ak 9))))))) (hp := PassesOwn.leaving))
  (cF (O2 := []) (oo (ay (aO (ak 5))))))))
theorem qm : aH ["flight", "closed", "gaps", "time", "stops"] ["flight", "closed", "gaps", "time"] (aq mE) := ⟨rfl, rfl, rfl, by decide +kernel, rfl, by decide +kernel, by decide +kernel⟩
theorem xf {n : Nat} {P : Program} {w : World} {K : PySem.W.Frag} {mg : Str -> Option Value} {base : Heap} {CR CP CN CQ AStripError ANoTime ANoPlan ANoRow ANoRules ANoSheet ANotFree ATooMany : Addr} (Z : Zs K mg CR CP CN CQ AStripError ANoTime ANoPlan ANoRow ANoRules ANoSheet ANotFree ATooMany) {lC : Addr} {jz : FuncData} (n8 : Def K mg "push_of" mE ["flight", "closed", "gaps", "time"] lC jz) : cJ P w K mg base CX0 1 lC jz ["flight", "closed", "gaps", "time"] (spF K false (hZ CR CP CN CQ n) 4) :=
 nI (O' := []) n8.fn qm false (lx CR CP CN CQ n) fun cdv A outer s H E hr =>
  (ai (gB (cD (w5 hr.units) (ak 3) (az bc (ak 0) af))
   (ay (aO (iH (a8 qJ aj))))
   cE)
  (ai (gB (cD (o_in hr.units) (ak 3) (ak 2))
   (ay (aO (iH (a8 qJ (a8 (wz hr.units (ak 2) (ak 3)) aj)))))
   cE)
  (ai (wy (i := 4) false ["start", "stop"] [none, none] qm.nd (kI (ak 1)) (fun _ _ _ _ _ => q9 rfl (jD (i := 0) (by decide +kernel) (jD (i := 1) (by decide +kernel) j4))) (oU (by decide)) (fun _ _ _ _ _ => kf) (fun _ _ _ _ _ => (ak 1)))
  (ay (aO (iH (a8 qJ (a8 (wz hr.units (ak 4) (ak 3)) aj))))))))
theorem cL : aH ["rules", "flights", "closed", "plan", "times", "spots", "pushes", "place", "time", "gaps"] ["rules", "flights", "closed", "plan"] (aq gU) := ⟨rfl, rfl, rfl, by decide +kernel, rfl, by decide +kernel, by decide +kernel⟩
theorem tH {n : Nat} {P : Program} {w : World} {K : PySem.W.Frag} {mg : Str -> Option Value} {base : Heap} {CR CP CN CQ AStripError ANoTime ANoPlan ANoRow ANoRules ANoSheet ANotFree ATooMany : Addr} (Z : Zs K mg CR CP CN CQ AStripError ANoTime ANoPlan ANoRow ANoRules ANoSheet ANotFree ATooMany) {fN : Addr} {dR : FuncData} (dc : Yd P w K mg base (CXd P w) 3 "times_of" jc ["rules", "flights", "closed", "plan"] (spX K false (d8 CR CP CN CQ n) 4) fN dR) {fO : Addr} {dS : FuncData} (dg : Yd P w K mg base CX0 1 "spots_of" jd ["flights", "plan"] (spF K false (fG CR CP CN CQ n) 2) fO dS) {dX : Addr} {cT : FuncData} (cq : Yd P w K mg base CX0 2 "gap_times" gW ["rules", "spots", "times", "place"] (spF K false (dO CR CP CN CQ n) 4) dX cT) {lC : Addr} {jz : FuncData} (mY : Yd P w K mg base CX0 1 "push_of" mE ["flight", "closed", "gaps", "time"] (spF K false (hZ CR CP CN CQ n) 4) lC jz) {dW : Addr} {cS : FuncData} (ie : Def K mg "pushes_of" gU ["rules", "flights", "closed", "plan"] dW cS) : cJ P w K mg base (CXd P w) 4 dW cS ["rules", "flights", "closed", "plan"] (spX K false (bw CR CP CN CQ n) 4) :=
 fn_X (O' := []) ie.fn cL false (k7 CR CP CN CQ n) fun cdv A outer s H E hr =>
  (ai (aw (i := 4) (own := false) cL.nd (wB dc.o passD hr dc.d.mg dc.d.fn.kp dc.d.bd (a8 (ak 0) (a8 (ak 1) (a8 (ak 2) (a8 (ak 3) aj))))))
  (oo (ai (aw (i := 5) (own := false) cL.nd (aD dg.o (hr.mono (by decide)) dg.d.mg dg.d.fn.kp dg.d.bd (a8 (ak 1) (a8 (ak 3) aj))))
  (ai (aw (i := 6) (own := true) cL.nd (gE aj))
  (ai (iG (pt := .tp [7, 8]) (zt Z.fD (ak 4)) (q9 rfl (ck (i := 7) cL.nd (ck (i := 8) cL.nd j4)))
   (ai (aw (i := 9) (own := false) cL.nd (aD cq.o (hr.mono (by decide)) cq.d.mg cq.d.fn.kp cq.d.bd (a8 (ak 0) (a8 (ak 5) (a8 (ak 4) (a8 (ak 7) aj))))))
  (ay (kg (i := 6) (aD mY.o (hr.mono (by decide)) mY.d.mg mY.d.fn.kp mY.d.bd (a8 (az bc (ak 1) (az bc (az bc (ak 3) (ak 7)) af)) (a8 (ak 2) (a8 (ak 9) (a8 (ak 8) aj)))))))))
  (cF (O2 := []) (ay (aO (ak 6)))))))))
theorem bK : aH ["_law_script", "_law_scale_here", "_law_many", "_law_closed_here", "_law_k", "_law_number", "_law_start"] ["_law_script", "_law_scale_here"] (aq gH) := ⟨rfl, rfl, rfl, by decide +kernel, rfl, by decide +kernel, by decide +kernel⟩
theorem pT {n : Nat} {P : Program} {w : World} {K : PySem.W.Frag} {mg : Str -> Option Value} {base : Heap} {CR CP CN CQ AStripError ANoTime ANoPlan ANoRow ANoRules ANoSheet ANotFree ATooMany : Addr} (Z : Zs K mg CR CP CN CQ AStripError ANoTime ANoPlan ANoRow ANoRules ANoSheet ANotFree ATooMany) {aL : Addr} {aG : FuncData} (ae : Yd P w K mg base CX0 1 "_law_draw" bL ["_law_script", "_law_k"] (spF K false (ar CR CP CN CQ n) 2) aL aG) {f7 : Addr} {dB : FuncData} (gS : Def K mg "_law_closed" gH ["_law_script", "_law_scale_here"] f7 dB) : cJ P w K mg base CX0 2 f7 dB ["_law_script", "_law_scale_here"] (spF K false (d9 CR CP CN CQ n) 2) :=
 nI (O' := []) gS.fn bK false (kc CR CP CN CQ n) fun cdv A outer s H E hr =>
  (ai (aw (i := 2) (own := false) bK.nd (aA gx (aD ae.o hr ae.d.mg ae.d.fn.kp ae.d.bd (a8 (ak 0) (a8 af aj))) af))
  (ai (gB (cD (w5 hr.units) (aA gx (aD ae.o hr ae.d.mg ae.d.fn.kp ae.d.bd (a8 (ak 0) (a8 af aj))) af) af)
   (ay (aw (i := 2) (own := false) bK.nd af))
   cE)
  (ai (aw (i := 3) (own := true) bK.nd (gE aj))
  (ai (iG (pt := .nm 4) (kh Z.eF (a8 (ak 2) aj)) (sq bK.nd)
   (ai (aw (i := 5) (own := false) bK.nd (aD ae.o hr ae.d.mg ae.d.fn.kp ae.d.bd (a8 (ak 0) (a8 (aT (aA gJ af (ak 4))) aj))))
  (ai (aw (i := 6) (own := false) bK.nd (aA gx (aA jo (ak 5) af) (aA jT af (ak 1))))
  (ay (kg (i := 3) (iH (a8 (ak 6) (a8 (aT (aA gJ (aT (aA gJ (ak 6) af)) (aA jT (aA gx (ak 5) af) (ak 1)))) aj))))))))
  (cF (O2 := []) (ay (aO (ak 3))))))))
theorem bV : aH ["_law_script", "_law_rules", "_law_flights_here", "_law_left", "_law_pairs", "_law_strips", "_law_number", "_law_at", "_law_first", "_law_k"] ["_law_script", "_law_rules", "_law_flights_here"] (aq jN) := ⟨rfl, rfl, rfl, by decide +kernel, rfl, by decide +kernel, by decide +kernel⟩
theorem tK {n : Nat} {P : Program} {w : World} {K : PySem.W.Frag} {mg : Str -> Option Value} {base : Heap} {CR CP CN CQ AStripError ANoTime ANoPlan ANoRow ANoRules ANoSheet ANotFree ATooMany : Addr} (Z : Zs K mg CR CP CN CQ AStripError ANoTime ANoPlan ANoRow ANoRules ANoSheet ANotFree ATooMany) {aL : Addr} {aG : FuncData} (ae : Yd P w K mg base CX0 1 "_law_draw" bL ["_law_script", "_law_k"] (spF K false (ar CR CP CN CQ n) 2) aL aG) {i5 : Addr} {gh : FuncData} (kD : Def K mg "_law_plan" jN ["_law_script", "_law_rules", "_law_flights_here"] i5 gh) : cJ P w K mg base CX0 2 i5 gh ["_law_script", "_law_rules", "_law_flights_here"] (spF K false (fJ CR CP CN CQ n) 3) :=
 nI (O' := []) kD.fn bV false (mn CR CP CN CQ n) fun cdv A outer s H E hr =>
  (ai (aw (i := 3) (own := true) bV.nd (aE wH Z.lL boot_sorted (a8 (aT (lG ["_law_k", "_law_flights_here"] [none, some 2] (kh Z.eF (a8 (aE ip Z.fy PySem.boot_len (a8 (ak 2) aj)) aj)) (fun _ _ _ _ _ => pj (by decide +kernel)) (dQ rfl) (fun _ _ _ _ _ => kf) (fun _ _ _ _ _ => (iH (a8 (az bc (az bc (ak 1) (ak 0)) af) (a8 (ak 0) aj)))))) aj)))
  (ai (aw (i := 4) (own := true) bV.nd (gE aj))
  (cF (O2 := [3, 4]) (ai (aw (i := 5) (own := false) bV.nd (aA tO af (px c_int Z.qZ PyProof.Rows.boot_int (a8 (u7 o_isN (az bc (ak 1) af) zu) aj))))
  (ai (sj (m := n) (cD o_gt (aE ip Z.fy PySem.boot_len (a8 (ak 3) aj)) af)
   (ai (sk (i := 6) (own := false) bV.nd (aD ae.o hr ae.d.mg ae.d.fn.kp ae.d.bd (a8 (ak 0) (a8 (aT (aA gJ af (aE ip Z.fy PySem.boot_len (a8 (ak 3) aj)))) aj))))
  (ai (sk (i := 7) (own := false) bV.nd (aA jT (aA gx (aA jo (ak 6) af) (aE (c_min rfl) Z.sR boot_min (a8 (aE ip Z.fy PySem.boot_len (a8 (ak 3) aj)) (a8 af aj)))) (px c_int Z.qZ PyProof.Rows.boot_int (a8 (u7 (w5 hr.units) (aA gx (ak 6) af) af) aj))))
  (ai (ds_popU (i := 3) (q9 rfl (ck (i := 8) bV.nd (ck (i := 9) bV.nd j4))) (ak 7))
  (ay (kg (i := 4) (iH (a8 (ak 9) (a8 (aA gx (aA jo (ak 6) af) (ak 5)) aj)))))))))
  (cF (O2 := []) (ay (aO (ak 4)))))))))
theorem aZ : aH ["_law_closed_here", "_law_time", "_law_moved", "_law_start", "_law_stop"] ["_law_closed_here", "_law_time"] (aq dG) := ⟨rfl, rfl, rfl, by decide +kernel, rfl, by decide +kernel, by decide +kernel⟩
theorem ny {n : Nat} {P : Program} {w : World} {K : PySem.W.Frag} {mg : Str -> Option Value} {base : Heap} {CR CP CN CQ AStripError ANoTime ANoPlan ANoRow ANoRules ANoSheet ANotFree ATooMany : Addr} (Z : Zs K mg CR CP CN CQ AStripError ANoTime ANoPlan ANoRow ANoRules ANoSheet ANotFree ATooMany) {cx : Addr} {bR : FuncData} (dM : Def K mg "_law_open_from" dG ["_law_closed_here", "_law_time"] cx bR) : cJ P w K mg base CX0 1 cx bR ["_law_closed_here", "_law_time"] (spF K false (cv CR CP CN CQ n) 2) :=
 nI (O' := []) dM.fn aZ false (gA CR CP CN CQ n) fun cdv A outer s H E hr =>
  (ai (aw (i := 2) (own := false) aZ.nd o7)
  (ai (sj (m := n) (lX (ak 2))
   (ai (aw (i := 2) (own := false) aZ.nd o7)
  (ay (iG (pt := .tp [3, 4]) (kI (ak 0)) (q9 rfl (ck (i := 3) aZ.nd (ck (i := 4) aZ.nd j4)))
   (ay (gB (si o_le o_lt (ak 3) (ak 1) (ak 4))
   (ai (aw (i := 1) (own := false) aZ.nd (ak 4))
  (ay (aw (i := 2) (own := false) aZ.nd o7)))
   cE))))))
  (ay (aO (ak 1)))))
theorem jL : aH ["_law_rules", "_law_flights_here", "_law_one", "_law_other", "_law_here", "_law_there"] ["_law_rules", "_law_flights_here", "_law_one", "_law_other"] (aq g6) := ⟨rfl, rfl, rfl, by decide +kernel, rfl, by decide +kernel, by decide +kernel⟩
theorem rM {n : Nat} {P : Program} {w : World} {K : PySem.W.Frag} {mg : Str -> Option Value} {base : Heap} {CR CP CN CQ AStripError ANoTime ANoPlan ANoRow ANoRules ANoSheet ANotFree ATooMany : Addr} (Z : Zs K mg CR CP CN CQ AStripError ANoTime ANoPlan ANoRow ANoRules ANoSheet ANotFree ATooMany) {cX : Addr} {cj : FuncData} (gv : Def K mg "_law_apart" g6 ["_law_rules", "_law_flights_here", "_law_one", "_law_other"] cX cj) : cJ P w K mg base CX0 1 cX cj ["_law_rules", "_law_flights_here", "_law_one", "_law_other"] (spF K false (bX CR CP CN CQ n) 4) :=
 nI (O' := []) gv.fn jL false (iC CR CP CN CQ n) fun cdv A outer s H E hr =>
  (ai (aw (i := 4) (own := false) jL.nd (az bc (az bc (ak 1) (az bc (ak 2) af)) af))
  (ai (aw (i := 5) (own := false) jL.nd (az bc (az bc (ak 1) (az bc (ak 3) af)) af))
  (ai (gB (cD (w5 hr.units) (az bc (ak 2) af) (az bc (ak 3) af))
   (ay (aO (az bc (az bc (az bc (ak 0) af) (ak 4)) (ak 5))))
   cE)
  (ay (aO (az bc (az bc (az bc (ak 0) af) (ak 4)) (ak 5)))))))
theorem bD : aH ["_law_rules", "_law_flights_here", "_law_closed_here", "_law_plan_here", "_law_times", "_law_place", "_law_flight", "_law_time", "_law_ahead"] ["_law_rules", "_law_flights_here", "_law_closed_here", "_law_plan_here"] (aq iz) := ⟨rfl, rfl, rfl, by decide +kernel, rfl, by decide +kernel, by decide +kernel⟩
theorem rL {n : Nat} {P : Program} {w : World} {K : PySem.W.Frag} {mg : Str -> Option Value} {base : Heap} {CR CP CN CQ AStripError ANoTime ANoPlan ANoRow ANoRules ANoSheet ANotFree ATooMany : Addr} (Z : Zs K mg CR CP CN CQ AStripError ANoTime ANoPlan ANoRow ANoRules ANoSheet ANotFree ATooMany) {cx : Addr} {bR : FuncData} (dJ : Yd P w K mg base CX0 1 "_law_open_from" dG ["_law_closed_here", "_law_time"] (spF K false (cv CR CP CN CQ n) 2) cx bR) {cX : Addr} {cj : FuncData} (bJ : Yd P w K mg base CX0 1 "_law_apart" g6 ["_law_rules", "_law_flights_here", "_law_one", "_law_other"] (spF K false (bX CR CP CN CQ n) 4) cX cj) {gu : Addr} {eY : FuncData} (iS : Def K mg "_law_least" iz ["_law_rules", "_law_flights_here", "_law_closed_here", "_law_plan_here"] gu eY) : cJ P w K mg base CX0 2 gu eY ["_law_rules", "_law_flights_here", "_law_closed_here", "_law_plan_here"] (spF K false (cQ CR CP CN CQ n) 4) :=
 nI (O' := []) iS.fn bD false (iB CR CP CN CQ n) fun cdv A outer s H E hr =>
  (ai (aw (i := 4) (own := true) bD.nd (gE aj))
  (ai (iG (pt := .nm 5) (kh Z.eF (a8 (aE ip Z.fy PySem.boot_len (a8 (ak 3) aj)) aj)) (sq bD.nd)
   (ai (aw (i := 6) (own := false) bD.nd (az bc (ak 1) (az bc (az bc (ak 3) (ak 5)) af)))
  (ai (aw (i := 7) (own := false) bD.nd (az bc (ak 6) af))
  (ai (iG (pt := .nm 8) (kh Z.eF (a8 (ak 5) aj)) (sq bD.nd)
   (ay (sk (i := 7) (own := false) bD.nd (aE (c_max rfl) Z.ur boot_max (a8 (ak 7) (a8 (aT (aA gJ (az bc (ak 4) (ak 8)) (aD bJ.o hr bJ.d.mg bJ.d.fn.kp bJ.d.bd (a8 (ak 0) (a8 (ak 1) (a8 (az bc (ak 3) (ak 8)) (a8 (az bc (ak 3) (ak 5)) aj))))))) aj))))))
  (ai (aw (i := 7) (own := false) bD.nd (aD dJ.o hr dJ.d.mg dJ.d.fn.kp dJ.d.bd (a8 (ak 2) (a8 (ak 7) aj))))
  (ai (gB (cD o_gt (ak 7) (az bc (ak 6) af))
   (cF (O2 := []) (ay (aO (iH (a8 (az bc (az bc (ak 3) (ak 5)) af) (a8 (ak 7) aj))))))
   cE)
  (ay (kg (i := 4) (ak 7)))))))))
  (cF (O2 := []) (ay (aO (ak 4))))))
theorem uS : aH ["flights", "place"] ["flights", "place"] (aq lM) := ⟨rfl, rfl, rfl, by decide +kernel, rfl, by decide +kernel, by decide +kernel⟩
theorem v9 {n : Nat} {P : Program} {w : World} {K : PySem.W.Frag} {mg : Str -> Option Value} {base : Heap} {CR CP CN CQ AStripError ANoTime ANoPlan ANoRow ANoRules ANoSheet ANotFree ATooMany : Addr} (Z : Zs K mg CR CP CN CQ AStripError ANoTime ANoPlan ANoRow ANoRules ANoSheet ANotFree ATooMany) {jA : Addr} {i3 : FuncData} (lR : Def K mg "is_place" lM ["flights", "place"] jA i3) : cJ P w K mg base CX0 1 jA i3 ["flights", "place"] (spF K false (ju CR CP CN CQ n) 2) :=
 nI (O' := []) lR.fn uS false (nG CR CP CN CQ n) fun cdv A outer s H E hr =>
  (ay (aO (wA o_le o_lt af (ak 1) (aE ip Z.fy PySem.boot_len (a8 (ak 0) aj)))))
theorem m5 : aH ["rules", "flights", "closed", "plan", "place", "pushes", "chain"] ["rules", "flights", "closed", "plan", "place"] (aq jf) := ⟨rfl, rfl, rfl, by decide +kernel, rfl, by decide +kernel, by decide +kernel⟩
theorem vb {n : Nat} {P : Program} {w : World} {K : PySem.W.Frag} {mg : Str -> Option Value} {base : Heap} {CR CP CN CQ AStripError ANoTime ANoPlan ANoRow ANoRules ANoSheet ANotFree ATooMany : Addr} (Z : Zs K mg CR CP CN CQ AStripError ANoTime ANoPlan ANoRow ANoRules ANoSheet ANotFree ATooMany) {dW : Addr} {cS : FuncData} (cn : Yd P w K mg base (CXd P w) 4 "pushes_of" gU ["rules", "flights", "closed", "plan"] (spX K false (bw CR CP CN CQ n) 4) dW cS) {jA : Addr} {i3 : FuncData} (lQ : Yd P w K mg base CX0 1 "is_place" lM ["flights", "place"] (spF K false (ju CR CP CN CQ n) 2) jA i3) {fP : Addr} {dU : FuncData} (jI : Def K mg "chain_of" jf ["rules", "flights", "closed", "plan", "place"] fP dU) : cJ P w K mg base (CXd P w) 5 fP dU ["rules", "flights", "closed", "plan", "place"] (spX K false (br CR CP CN CQ n) 5) :=
 fn_X (O' := []) jI.fn m5 false (jy CR CP CN CQ n) fun cdv A outer s H E hr =>
  (ai (gB (dt_lift (qH (lX (aD lQ.o (hr.mono (by decide)) lQ.d.mg lQ.d.fn.kp lQ.d.bd (a8 (ak 1) (a8 (ak 4) aj))))))
   (ay (ds_raise PySem.F.excBase_ValueError xeqD Z.tCQ.mg Z.tCQ.ex hr.hd))
   cE)
  (ai (aw (i := 5) (own := false) m5.nd (wB cn.o passD hr cn.d.mg cn.d.fn.kp cn.d.bd (a8 (ak 0) (a8 (ak 1) (a8 (ak 2) (a8 (ak 3) aj))))))
  (oo (ai (aw (i := 6) (own := true) m5.nd (gE (a8 (ak 4) aj)))
  (ai (sj (m := n) (cD (w5 hr.units) (az bc (az bc (ak 5) (az bc (ak 6) (su rQ af))) af) qJ)
   (ay (ds_appA (i := 6) (az bc (az bc (ak 5) (az bc (ak 6) (su rQ af))) af))))
  (cF (O2 := []) (ay (aO (aT (de_lrev Z.nP Z.j9 (ak 6)))))))))))
theorem bQ : aH ["_law_made_here", "_law_lists", "_law_place", "_law_told", "e", "_law_others"] ["_law_made_here", "_law_lists", "_law_place"] (aq fS) := ⟨rfl, rfl, rfl, by decide +kernel, rfl, by decide +kernel, by decide +kernel⟩
theorem oO {n : Nat} {P : Program} {w : World} {K : PySem.W.Frag} {mg : Str -> Option Value} {base : Heap} {CR CP CN CQ AStripError ANoTime ANoPlan ANoRow ANoRules ANoSheet ANotFree ATooMany : Addr} (Z : Zs K mg CR CP CN CQ AStripError ANoTime ANoPlan ANoRow ANoRules ANoSheet ANotFree ATooMany) {fP : Addr} {dU : FuncData} (dh : Yd P w K mg base (CXd P w) 5 "chain_of" jf ["rules", "flights", "closed", "plan", "place"] (spX K false (br CR CP CN CQ n) 5) fP dU) {dD : Addr} {cU : FuncData} (g0 : Def K mg "_law_refused" fS ["_law_made_here", "_law_lists", "_law_place"] dD cU) : cJ P w K mg base CX0 6 dD cU ["_law_made_here", "_law_lists", "_law_place"] (spF K false (bj CR CP CN CQ n) 3) :=
 nI (O' := []) g0.fn bQ false (fW CR CP CN CQ n) fun cdv A outer s H E hr =>
  (ai (aw (i := 3) (own := false) bQ.nd af)
  (ai (ds_try2 (i := 4) (j := 3) (o := 5) (ys := [ANoTime, ANoPlan, ANoRow, ANoRules, ANoSheet, ANotFree, ATooMany]) (fun pins σ E xe hp => (dsa_expr (own := false) (dea_call dh.o hp hr dh.d.mg dh.d.fn.kp dh.d.bd (a8 (ak 0) (a8 (az bc (ak 1) af) (a8 (az bc (ak 1) af) (a8 (az bc (ak 1) af) (a8 (ak 2) aj)))))))) Z.two Z.ne_CN_CQ bQ.nd (fun a oe hcr => mI (tB bQ.nd rfl (.inl rfl) (pe_isT hcr Z.aP (m7 (m7 (m7 (m7 (m7 (m7 (m7 pa_refs0 Z.xk) Z.xm) Z.xn) Z.xo) Z.mI_NoRow) Z.yK) Z.yJ) (by show 7 <= sizeLine; rw [sizeLine_eq]; decide) Z.kT_CQ)) (nu (tB bQ.nd rfl (.inl rfl) (pe_ix yQ (pe_lst (aS vY (aS vY dk))) (tG ud rfl Z.qZ PyProof.Rows.boot_int (aS (yx (pe_isO hcr Z.aP Z.rT Z.o5) (yx (pe_isB hcr Z.aP Z.g5 (by decide +kernel) Z.o6) (pe_one (pe_not (pv 5))))) dk)) (fun _ _ => rfl))))) (fun a oe => nu (tB bQ.nd rfl (.inl rfl) vY)))
  (ay (aO (ak 3)))))
theorem rB : aH ["_law_found"] ["_law_found"] (aq iw) := ⟨rfl, rfl, rfl, by decide +kernel, rfl, by decide +kernel, by decide +kernel⟩
theorem rJ {n : Nat} {P : Program} {w : World} {K : PySem.W.Frag} {mg : Str -> Option Value} {base : Heap} {CR CP CN CQ AStripError ANoTime ANoPlan ANoRow ANoRules ANoSheet ANotFree ATooMany : Addr} (Z : Zs K mg CR CP CN CQ AStripError ANoTime ANoPlan ANoRow ANoRules ANoSheet ANotFree ATooMany) {gp : Addr} {eW : FuncData} (iQ : Def K mg "_law_whole" iw ["_law_found"] gp eW) : cJ P w K mg base CX0 1 gp eW ["_law_found"] (spF K false (eC CR CP CN CQ n) 1) :=
 nI (O' := []) iQ.fn rB false (lA CR CP CN CQ n) fun cdv A outer s H E hr =>
  (ay (aO (zx (qK Z.kit Z.aP Z.qZ (ak 0)) (de_one (de_not (pw Z.kit Z.aP Z.qj (ak 0)))))))
theorem aQ : aH ["_law_rules", "_law_lists", "_law_times", "_law_pushes", "_law_chain", "_law_flights_here", "_law_closed_here", "_law_plan_here", "_law_time", "_law_stops", "_law_k"] ["_law_rules", "_law_lists", "_law_times", "_law_pushes", "_law_chain"] (aq d6) := ⟨rfl, rfl, rfl, by decide +kernel, rfl, by decide +kernel, by decide +kernel⟩
theorem mJ {n : Nat} {P : Program} {w : World} {K : PySem.W.Frag} {mg : Str -> Option Value} {base : Heap} {CR CP CN CQ AStripError ANoTime ANoPlan ANoRow ANoRules ANoSheet ANotFree ATooMany : Addr} (Z : Zs K mg CR CP CN CQ AStripError ANoTime ANoPlan ANoRow ANoRules ANoSheet ANotFree ATooMany) {cX : Addr} {cj : FuncData} (bJ : Yd P w K mg base CX0 1 "_law_apart" g6 ["_law_rules", "_law_flights_here", "_law_one", "_law_other"] (spF K false (bX CR CP CN CQ n) 4) cX cj) {gp : Addr} {eW : FuncData} (iL : Yd P w K mg base CX0 1 "_law_whole" iw ["_law_found"] (spF K false (eC CR CP CN CQ n) 1) gp eW) {bS : Addr} {bG : FuncData} (dj : Def K mg "_law_chain_good" d6 ["_law_rules", "_law_lists", "_law_times", "_law_pushes", "_law_chain"] bS bG) : cJ P w K mg base CX0 2 bS bG ["_law_rules", "_law_lists", "_law_times", "_law_pushes", "_law_chain"] (spF K false (bu CR CP CN CQ n) 5) :=
 nI (O' := []) dj.fn aQ false (da CR CP CN CQ n) fun cdv A outer s H E hr =>
  (ai (ds_unpB (ak 1) (q9 rfl (ck (i := 5) aQ.nd (ck (i := 6) aQ.nd (ck (i := 7) aQ.nd j4)))))
  (ai (gB (cD (o_ne hr.units) (aE ip Z.fy PySem.boot_len (a8 (aT (lG ["_law_place"] [none] (kI (ak 4)) (fun _ _ _ _ _ => pj (by decide +kernel)) (dQ rfl) (fun _ _ _ _ _ => pts_one (lX (aD iL.o hr iL.d.mg iL.d.fn.kp iL.d.bd (a8 (ak 0) aj)))) (fun _ _ _ _ _ => (ak 0)))) aj)) (aE ip Z.fy PySem.boot_len (a8 (ak 4) aj)))
   (ay (aO o7))
   cE)
  (ai (aw (i := 8) (own := false) aQ.nd (az bc (ak 2) (az bc (ak 4) af)))
  (ai (wy (i := 9) false ["_law_start", "_law_stop"] [none, none] aQ.nd (kI (ak 6)) (fun _ _ _ _ _ => q9 rfl (jD (i := 0) (by decide +kernel) (jD (i := 1) (by decide +kernel) j4))) (oU (by decide)) (fun _ _ _ _ _ => kf) (fun _ _ _ _ _ => (ak 1)))
  (ai (gB (PW.pt (zp (cD (w5 hr.units) (az bc (az bc (ak 3) (az bc (ak 4) af)) af) qJ) (wx (PW.pt (dw_and (cD (o_ne hr.units) (ak 8) (az bc (az bc (ak 5) (az bc (az bc (ak 7) (az bc (ak 4) af)) af)) af)) (zq (cD (o_notIn hr.units) (ak 8) (ak 9))))))))
   (ay (aO o7))
   cE)
  (ai (iG (pt := .nm 10) (di_rng2 Z.eF (a8 af (a8 (aE ip Z.fy PySem.boot_len (a8 (ak 4) aj)) aj))) (sq aQ.nd)
   (ai (gB (PW.pt (zp (cD o_le (az bc (ak 4) (ak 10)) (az bc (ak 4) (aA tO (ak 10) af))) (wx (cD (o_ne hr.units) (az bc (ak 3) (az bc (ak 4) (ak 10))) (iH (a8 qJ (a8 (az bc (ak 4) (aA tO (ak 10) af)) aj)))))))
   (ay (aO o7))
   cE)
  (ay (aw (i := 8) (own := false) aQ.nd (aT (aA gJ (ak 8) (aD bJ.o hr bJ.d.mg bJ.d.fn.kp bJ.d.bd (a8 (ak 0) (a8 (ak 5) (a8 (az bc (ak 7) (az bc (ak 4) (aA tO (ak 10) af))) (a8 (az bc (ak 7) (az bc (ak 4) (ak 10))) aj)))))))))))
  (ay (aO (u7 (w5 hr.units) (ak 8) (az bc (ak 2) (az bc (ak 4) (su rQ af))))))))))))
theorem kH : aH ["_law_script", "_law_scale_here", "_law_rules", "_law_made_here", "_law_flights_here", "_law_lists", "_law_far", "_law_place", "_law_times", "_law_pushes", "_law_chain"] ["_law_script"] (aq x5) := ⟨rfl, rfl, rfl, by decide +kernel, rfl, by decide +kernel, by decide +kernel⟩
theorem ok_law {n : Nat} {P : Program} {w : World} {K : PySem.W.Frag} {mg : Str -> Option Value} {base : Heap} {CR CP CN CQ AStripError ANoTime ANoPlan ANoRow ANoRules ANoSheet ANotFree ATooMany : Addr} (Z : Zs K mg CR CP CN CQ AStripError ANoTime ANoPlan ANoRow ANoRules ANoSheet ANotFree ATooMany) {gq : Addr} {eX : FuncData} (iM : Yd P w K mg base CX0 2 "_law_scale" iy ["_law_script"] (spF K false (bF CR CP CN CQ n) 1) gq eX) {cW : Addr} {cw : FuncData} (fm : Yd P w K mg base CX0 3 "_law_rules_of" eO ["_law_script", "_law_scale_here"] (spF K false (bx CR CP CN CQ n) 2) cW cw) {i6 : Addr} {gk : FuncData} (kz : Yd P w K mg base CX0 7 "_law_made" jO ["_law_rules"] (spF K false (dP CR CP CN CQ n) 1) i6 gk) {dE : Addr} {cV : FuncData} (fZ : Yd P w K mg base CX0 2 "_law_flights" fU ["_law_script", "_law_rules", "_law_most", "_law_scale_here"] (spF K false (cz CR CP CN CQ n) 4) dE cV) {fN : Addr} {dR : FuncData} (dc : Yd P w K mg base (CXd P w) 3 "times_of" jc ["rules", "flights", "closed", "plan"] (spX K false (d8 CR CP CN CQ n) 4) fN dR) {dW : Addr} {cS : FuncData} (cn : Yd P w K mg base (CXd P w) 4 "pushes_of" gU ["rules", "flights", "closed", "plan"] (spX K false (bw CR CP CN CQ n) 4) dW cS) {f7 : Addr} {dB : FuncData} (gQ : Yd P w K mg base CX0 2 "_law_closed" gH ["_law_script", "_law_scale_here"] (spF K false (d9 CR CP CN CQ n) 2) f7 dB) {i5 : Addr} {gh : FuncData} (ky : Yd P w K mg base CX0 2 "_law_plan" jN ["_law_script", "_law_rules", "_law_flights_here"] (spF K false (fJ CR CP CN CQ n) 3) i5 gh) {gu : Addr} {eY : FuncData} (iN : Yd P w K mg base CX0 2 "_law_least" iz ["_law_rules", "_law_flights_here", "_law_closed_here", "_law_plan_here"] (spF K false (cQ CR CP CN CQ n) 4) gu eY) {fP : Addr} {dU : FuncData} (dh : Yd P w K mg base (CXd P w) 5 "chain_of" jf ["rules", "flights", "closed", "plan", "place"] (spX K false (br CR CP CN CQ n) 5) fP dU) {aL : Addr} {aG : FuncData} (ae : Yd P w K mg base CX0 1 "_law_draw" bL ["_law_script", "_law_k"] (spF K false (ar CR CP CN CQ n) 2) aL aG) {dD : Addr} {cU : FuncData} (bp : Yd P w K mg base CX0 6 "_law_refused" fS ["_law_made_here", "_law_lists", "_law_place"] (spF K false (bj CR CP CN CQ n) 3) dD cU) {bS : Addr} {bG : FuncData} (di : Yd P w K mg base CX0 2 "_law_chain_good" d6 ["_law_rules", "_law_lists", "_law_times", "_law_pushes", "_law_chain"] (spF K false (bu CR CP CN CQ n) 5) bS bG) {xy : Addr} {fd_law : FuncData} (D_law : Def K mg "law" x5 ["_law_script"] xy fd_law) : cJ P w K mg base CX0 8 xy fd_law ["_law_script"] (spF K false (xj CR CP CN CQ n) 1) :=
 nI (O' := []) D_law.fn kH false (zf CR CP CN CQ n) fun cdv A outer s H E hr =>
  (ai (aw (i := 1) (own := false) kH.nd (aD iM.o (hr.mono (by decide)) iM.d.mg iM.d.fn.kp iM.d.bd (a8 (ak 0) aj)))
  (ai (aw (i := 2) (own := false) kH.nd (aD fm.o (hr.mono (by decide)) fm.d.mg fm.d.fn.kp fm.d.bd (a8 (ak 0) (a8 (ak 1) aj))))
  (ai (aw (i := 3) (own := false) kH.nd (aD kz.o hr kz.d.mg kz.d.fn.kp kz.d.bd (a8 (ak 2) aj)))
  (ai (aw (i := 4) (own := false) kH.nd (aD fZ.o (hr.mono (by decide)) fZ.d.mg fZ.d.fn.kp fZ.d.bd (a8 (ak 0) (a8 (ak 2) (a8 af (a8 (ak 1) aj))))))
  (ai (aw (i := 5) (own := false) kH.nd (iH (a8 (ak 4) (a8 (aD gQ.o (hr.mono (by decide)) gQ.d.mg gQ.d.fn.kp gQ.d.bd (a8 (ak 0) (a8 (ak 1) aj))) (a8 (aD ky.o (hr.mono (by decide)) ky.d.mg ky.d.fn.kp ky.d.bd (a8 (ak 0) (a8 (ak 2) (a8 (ak 4) aj)))) aj)))))
  (ai (aw (i := 6) (own := false) kH.nd (aT (aA gJ af (aA jT (aA jT (aD ae.o (hr.mono (by decide)) ae.d.mg ae.d.fn.kp ae.d.bd (a8 (ak 0) (a8 af aj))) (aD ae.o (hr.mono (by decide)) ae.d.mg ae.d.fn.kp ae.d.bd (a8 (ak 0) (a8 af aj)))) (aD ae.o (hr.mono (by decide)) ae.d.mg ae.d.fn.kp ae.d.bd (a8 (ak 0) (a8 af aj)))))))
  (ai (iG (pt := .nm 7) (kI (aT (gE (a8 (su rQ af) (a8 (aE ip Z.fy PySem.boot_len (a8 (ak 4) aj)) (a8 (aA tO af (ak 6)) (a8 (aT (aA gJ (aA tO (aE ip Z.fy PySem.boot_len (a8 (ak 4) aj)) af) (ak 6))) aj))))))) (sq kH.nd)
   (ay (gB (cD (o_ne hr.units) (aD bp.o (hr.mono (by decide)) bp.d.mg bp.d.fn.kp bp.d.bd (a8 (ak 3) (a8 (ak 5) (a8 (ak 7) aj)))) af)
   (ay (aO o7))
   cE)))
  (ai (gB (cD (w5 hr.units) (aE ip Z.fy PySem.boot_len (a8 (ak 4) aj)) af)
   (ay (aO o7))
   cE)
  (ai (gB (lX (u5 Z.kit Z.aP Z.oz (aD iN.o (hr.mono (by decide)) iN.d.mg iN.d.fn.kp iN.d.bd (a8 (ak 2) (a8 (ak 4) (a8 (az bc (ak 5) af) (a8 (az bc (ak 5) af) aj)))))))
   (ay (aO (u7 (w5 hr.units) (aD bp.o (hr.mono (by decide)) bp.d.mg bp.d.fn.kp bp.d.bd (a8 (ak 3) (a8 (ak 5) (a8 (aA tO (aE ip Z.fy PySem.boot_len (a8 (ak 4) aj)) af) aj)))) af)))
   cE)
  (ai (aw (i := 8) (own := false) kH.nd (sv dc.o (hr.mono (by decide)) dc.d.mg dc.d.fn.kp dc.d.bd (a8 (ak 3) (a8 (ak 4) (a8 (az bc (ak 5) af) (a8 (az bc (ak 5) af) aj))))))
  (ai (aw (i := 9) (own := false) kH.nd (sv cn.o (hr.mono (by decide)) cn.d.mg cn.d.fn.kp cn.d.bd (a8 (ak 3) (a8 (ak 4) (a8 (az bc (ak 5) af) (a8 (az bc (ak 5) af) aj))))))
  (ai (iG (pt := .nm 7) (kI (aT (aA gJ (aT (gE (a8 (aA tO (aE ip Z.fy PySem.boot_len (a8 (ak 4) aj)) af) aj))) (aT (lG ["_law_k", "_law_script", "_law_flights_here"] [none, some 0, some 4] (kh Z.eF (a8 (aE (c_min rfl) Z.sR boot_min (a8 (aE ip Z.fy PySem.boot_len (a8 (ak 0) aj)) (a8 af aj))) aj)) (fun _ _ _ _ _ => pj (by decide +kernel)) (dQ rfl) (fun _ _ _ _ _ => kf) (fun _ _ _ _ _ => (aA gx (aD ae.o (hr.mono (by decide)) ae.d.mg ae.d.fn.kp ae.d.bd (a8 (ak 1) (a8 (aT (aA gJ af (ak 0))) aj))) (aE ip Z.fy PySem.boot_len (a8 (ak 2) aj))))))))) (sq kH.nd)
   (ai (aw (i := 10) (own := false) kH.nd (sv dh.o (hr.mono (by decide)) dh.d.mg dh.d.fn.kp dh.d.bd (a8 (ak 3) (a8 (ak 4) (a8 (az bc (ak 5) af) (a8 (az bc (ak 5) af) (a8 (ak 7) aj)))))))
  (ai (gB (PW.pt (zp (qH (lX (pq Z.kit Z.aP Z.nP (ak 10)))) (zp (cD (w5 hr.units) (aE ip Z.fy PySem.boot_len (a8 (ak 10) aj)) af) (wx (cD (o_ne hr.units) (az bc (ak 10) (su rQ af)) (ak 7))))))
   (ay (aO o7))
   cE)
  (ay (gB (qH (lX (aD di.o (hr.mono (by decide)) di.d.mg di.d.fn.kp di.d.bd (a8 (ak 2) (a8 (ak 5) (a8 (ak 8) (a8 (ak 9) (a8 (ak 10) aj))))))))
   (ay (aO o7))
   cE)))))
  (ay (aO o7))))))))))))))
noncomputable abbrev fx := Int × Int
noncomputable def stD (p : fx) : Dat := .tup [.int p.1, .int p.2]
theorem sX : ∀ cs : List fx, lS (cs.map stD) = .ok (cs.map fun p => [p.1, p.2])
 | [] => rfl
 | p :: cs => by simp [lS, tupD, stD, cR, sX cs]
theorem t8 (cs : List fx) (hl : cs.length < 64) : ∃ ss : List fx, m4 [.lst (cs.map stD)] = .ok (.lst (ss.map stD)) /\ ss.Perm cs /\ ss.Pairwise (fun p q => p.1 <= q.1) := by
 cases hc : cs with
 | nil => exact ⟨[], by simp [m4, t9, cR, mM], List.Perm.refl _, List.Pairwise.nil⟩
 | cons p ps =>
  rw [<- hc]
  have hi : ∃ e, cR (cs.map stD) = .error e := ⟨.stuck, by rw [hc]; simp [cR, stD, asI]⟩
  obtain ⟨e, he⟩ := hi
  have hne : ((cs.map fun p => [p.1, p.2]).all fun t => !t.isEmpty) = true := by simp
  have es : m4 [.lst (cs.map stD)] = .ok (.lst ((mM oR (cs.map fun p => [p.1, p.2])).map tupZ)) := by
   simp only [m4, t9, List.length_map, hl, if_true, he, sX, ax, hne]
  have hp := nz (lt := oR) (cs.map fun p => [p.1, p.2])
  have hs := la yz (cs.map fun p => [p.1, p.2])
  generalize mM oR (cs.map fun p => [p.1, p.2]) = L at *
  let back : List Int -> fx := fun l => (l.getD 0 0, l.getD 1 0)
  have hL : ∀ l ∈ L, ∃ p : fx, l = [p.1, p.2] := fun l h => by
   have := hp.mem_iff.mp h
   simp only [List.mem_map] at this
   obtain ⟨p, _, e⟩ := this
   exact ⟨p, e.symm⟩
  refine ⟨L.map back, ?_, ?_, ?_⟩
  ·rw [es, List.map_map]
   congr 2
   refine List.map_congr_left fun l h => ?_
   obtain ⟨p, rfl⟩ := hL l h
   rfl
  ·have := hp.map back
   rw [List.map_map] at this
   have e2 : List.map (back ∘ fun p => [p.1, p.2]) cs = cs := by
    rw [List.map_congr_left (g := id)]
    ·simp
    ·intro p _; rfl
   rwa [e2] at this
  ·rw [List.pairwise_map]
   refine hs.imp_of_mem fun {a b} ha hb h => ?_
   obtain ⟨p, rfl⟩ := hL a ha
   obtain ⟨q, rfl⟩ := hL b hb
   show p.1 <= q.1
   simp only [oR] at h
   by_cases e1 : q.1 = p.1
   ·omega
   ·rw [if_neg e1] at h
    have := of_decide_eq_false h
    omega
@[simp] theorem getI_c0 (a : Dat) (l : List Dat) : iY (a :: l) 0 = .ok a := by
 show 'ա'
 rfl
@[simp] theorem getI_c1 (a b : Dat) (l : List Dat) : iY (a :: b :: l) 1 = .ok b := by
 show 'ա'
 rfl
@[simp] theorem getI_c2 (a b c : Dat) (l : List Dat) : iY (a :: b :: c :: l) 2 = .ok c := by
 show 'ա'
 rfl
@[simp] theorem getI_c3 (a b c d : Dat) (l : List Dat) : iY (a :: b :: c :: d :: l) 3 = .ok d := by
 show 'ա'
 rfl
section
variable (CR CP CN CQ : Addr)
theorem draw_b (y : Int) : 0 <= y % 1152921504606846883 / 8 /\ y % 1152921504606846883 / 8 < 1152921504606846883 := by omega
theorem so (n : Nat) (ns : List Int) (k : Int) (h0 : 0 <= k) (h1 : k < 1000000) : ∃ x, ar CR CP CN CQ n [.lst (ns.map .int), .int k] = .ok (.int x) /\ 0 <= x /\ x < 1152921504606846883 := by
 have hk1 : -18446744073709551616 < 7919 * k := by omega
 have hk2 : 7919 * k < 18446744073709551616 := by omega
 have hk3 : -18446744073709551616 < k := by omega
 have hk4 : k < 18446744073709551616 := by omega
 by_cases hl : 0 < ns.length
 ·have hm0 : 0 <= k % (ns.length : Int) := Int.emod_nonneg _ (by omega)
  have hm1 : k % (ns.length : Int) < (ns.length : Int) := Int.emod_lt_of_pos _ (by omega)
  have hl' : (0 : Int) < ns.length := by omega
  have hne : ns ≠ [] := fun e => by rw [e] at hl; simp at hl
  refine ⟨(ns[(k % (ns.length : Int)).toNat]'(by omega) + 7919 * k * k + k) * 982451653 % 2305843009213693951 * 1000003 % 1152921504606846883 / 8, ?_, ?_⟩
  ·simp [ar, kb, km, hl, hne, getI_int hm0 hm1, pZ hl', hk1, hk2, hk3, hk4]
  ·exact draw_b _
 ·have hne : ns = [] := by cases ns with | nil => rfl | cons a b => simp at hl
  subst hne
  refine ⟨(k + 7919 * k * k + k) * 982451653 % 2305843009213693951 * 1000003 % 1152921504606846883 / 8, ?_, ?_⟩
  ·simp [ar, kb, km, hk1, hk2, hk3, hk4]
  ·exact draw_b _
theorem gC (n : Nat) (ns : List Int) (k : Int) (h0 : 0 <= k) (h1 : k < 1000000) : ∃ x, ar CR CP CN CQ n [.lst (ns.map .int), .int k] = .ok (.int x) /\ 0 <= x := by
 obtain ⟨x, e, h, _⟩ := so CR CP CN CQ n ns k h0 h1
 exact ⟨x, e, h⟩
theorem scale_ok (n : Nat) (ns : List Int) : ∃ s : Int, bF CR CP CN CQ n [.lst (ns.map .int)] = .ok (.int s) /\ 1 <= s /\ s <= 100000 := by
 obtain ⟨x, e, hx⟩ := gC CR CP CN CQ n ns 99 (by omega) (by omega)
 have h4 : x % 4 = 0 \/ x % 4 = 1 \/ x % 4 = 2 \/ x % 4 = 3 := by omega
 rcases h4 with h | h | h | h
 ·exact ⟨1, by simp [bF, eD, e, h], by omega, by omega⟩
 ·exact ⟨1, by simp [bF, eD, e, h], by omega, by omega⟩
 ·exact ⟨100, by simp [bF, eD, e, h], by omega, by omega⟩
 ·exact ⟨100000, by simp [bF, eD, e, h], by omega, by omega⟩
noncomputable def nQ (r : List Int) : Dat := .lst (r.map .int)
noncomputable def aR (rows : List (List Int)) : Dat := .lst (rows.map nQ)
noncomputable def pJ (k : Nat) (r : List Int) : Prop := r.length = k /\ ∀ x ∈ r, 0 <= x /\ x <= 1000000
noncomputable def fq (k : Nat) (rows : List (List Int)) : Prop := rows.length = k /\ ∀ r ∈ rows, pJ k r
theorem x8 {lo : Int} {m i : Nat} {d : Dat} (h : (aX lo m)[i]? = some d) : i < m /\ d = .int (lo + i) := by
 unfold aX at h
 rw [List.getElem?_map] at h
 obtain ⟨a, h1, h2⟩ := Option.map_eq_some_iff.mp h
 have hi := (List.getElem?_eq_some_iff.mp h1).1
 rw [List.length_range] at hi
 rw [List.getElem?_range hi] at h1
 cases h1
 exact ⟨hi, h2.symm⟩
theorem fF {m i : Nat} {d : Dat} (h : (aX 0 m)[i]? = some d) : i < m /\ d = .int i := by
 obtain ⟨h1, h2⟩ := x8 h
 exact ⟨h1, by rw [h2, Int.zero_add]⟩
theorem eB (lo : Int) (m : Nat) : (aX lo m).length = m := by unfold aX; simp
theorem gap_row (n : Nat) (ns : List Int) (b : Int) (k : Nat) (s : Int) (one : Nat) (rows : List Dat) (z7 z8 : Option Dat) (hb0 : 0 <= b) (hb1 : b <= 100) (hk : k <= 6) (hs0 : 1 <= s) (hs1 : s <= 100000) (ho : one < k) :
  ∃ (r : List Int) (z7' z8' : Option Dat), pJ k r /\ j8 (.nm 7) (gN CR CP CN CQ n) (aX 0 k) [some (.lst (ns.map .int)), some (.int b), some (.int k), some (.int s), some (.lst rows), some (.int one), some (.lst []), z7, z8] = .ok (.nx [some (.lst (ns.map .int)), some (.int b), some (.int k), some (.int s), some (.lst rows), some (.int one), some (nQ r), z7', z8']) := by
 obtain ⟨ρ', e, r, z7', z8', rfl, h1, h2⟩ := gK (p := .nm 7) (g := gN CR CP CN CQ n)
  (fun i ρ => ∃ (r : List Int) (z7 z8 : Option Dat), ρ = [some (.lst (ns.map .int)), some (.int b), some (.int k), some (.int s), some (.lst rows), some (.int one), some (nQ r), z7, z8] /\ r.length = i /\ ∀ x ∈ r, 0 <= x /\ x <= 1000000) (aX 0 k) 0 _ ⟨[], z7, z8, rfl, rfl, by simp⟩ (by
  rintro i d ρ hd ⟨r, z7, z8, rfl, hr1, hr2⟩
  obtain ⟨hi, rfl⟩ := fF hd
  have hm : (one : Int) * k <= 36 := by
   have : one * k <= 6 * 6 := Nat.mul_le_mul (by omega) hk
   exact_mod_cast this
  have hm0 : 0 <= (one : Int) * k := Int.mul_nonneg (by omega) (by omega)
  obtain ⟨x, e, hx⟩ := gC CR CP CN CQ n ns (b + (one : Int) * k + (i : Int)) (by omega) (by omega)
  have hs' : 0 < s := by omega
  have ho1 : -18446744073709551616 < (one : Int) := by omega
  have ho2 : (one : Int) < 18446744073709551616 := by omega
  have q1 : -18446744073709551616 < x % 6 := by omega
  have q2 : x % 6 < 18446744073709551616 := by omega
  have hl : r.length < 16777216 := by omega
  refine ⟨_, by simp; rfl, ?_⟩
  refine ⟨_, .inl (by simp [gN, e, pZ hs', ho1, ho2, q1, q2, hl, nQ]; rfl), r ++ [x % 6 * s + x / 6 % s], some (.int (i : Int)), some (.int x), by simp [nQ], by simp; omega, fun y hy => ?_⟩
  rcases List.mem_append.mp hy with z | z
  ·exact hr2 y z
  ·simp at z
   subst z
   have a1 : 0 <= x / 6 % s := Int.emod_nonneg _ (by omega)
   have a2 : x / 6 % s < s := Int.emod_lt_of_pos _ hs'
   have a3 : 0 <= x % 6 * s := Int.mul_nonneg (by omega) (by omega)
   have a4 : x % 6 * s <= 5 * 100000 := Int.le_trans (Int.mul_le_mul_of_nonneg_right (by omega) (by omega)) (Int.mul_le_mul_of_nonneg_left hs1 (by omega))
   omega)
 rw [Nat.zero_add, eB] at h1
 exact ⟨r, z7', z8', ⟨h1, h2⟩, e⟩
theorem zc (n : Nat) (ns : List Int) (b : Int) (k : Nat) (s : Int) (hb0 : 0 <= b) (hb1 : b <= 100) (hk : k <= 6) (hs0 : 1 <= s) (hs1 : s <= 100000) : ∃ rows, fq k rows /\ fK CR CP CN CQ n [.lst (ns.map .int), .int b, .int k, .int s] = .ok (aR rows) := by
 have k1 : -4611686018427387904 <= (k : Int) := by omega
 have k2 : (k : Int) < 4611686018427387904 := by omega
 obtain ⟨ρ', e, rows, y5, y6, y7, y8, rfl, h1, h2⟩ := gK (p := .nm 5) (g := kr CR CP CN CQ n)
  (fun i ρ => ∃ (rows : List (List Int)) (z5 z6 z7 z8 : Option Dat), ρ = [some (.lst (ns.map .int)), some (.int b), some (.int k), some (.int s), some (aR rows), z5, z6, z7, z8] /\ rows.length = i /\ ∀ r ∈ rows, pJ k r) (aX 0 k) 0 [some (.lst (ns.map .int)), some (.int b), some (.int k), some (.int s), some (.lst []), none, none, none, none] ⟨[], none, none, none, none, rfl, rfl, by simp⟩ (by
  rintro i d ρ hd ⟨rows, z5, z6, z7, z8, rfl, hr1, hr2⟩
  obtain ⟨hi, rfl⟩ := fF hd
  obtain ⟨r, z7', z8', hg, e⟩ := gap_row CR CP CN CQ n ns b k s i (rows.map nQ) z7 z8 hb0 hb1 hk hs0 hs1 hi
  have hl : rows.length < 16777216 := by omega
  refine ⟨_, by simp; rfl, ?_⟩
  refine ⟨_, .inl (by simp [kr, aR, k1, k2, e, hl]; rfl), rows ++ [r], some (.int i), some (nQ r), z7', z8', by simp [aR], by simp; omega, fun y hy => ?_⟩
  rcases List.mem_append.mp hy with z | z
  ·exact hr2 y z
  ·simp at z; subst z; exact hg)
 rw [Nat.zero_add, eB] at h1
 exact ⟨rows, ⟨h1, h2⟩, by simp [fK, mq, k1, k2, e]⟩
theorem rules_ok (n : Nat) (ns : List Int) (s : Int) (hs0 : 1 <= s) (hs1 : s <= 100000) : ∃ (k : Nat) (rows : List (List Int)) (o : Dat), 1 <= k /\ k <= 6 /\ fq k rows /\ (o = .non \/ ∃ ij, fq k ij /\ o = aR ij) /\ bx CR CP CN CQ n [.lst (ns.map .int), .int s] = .ok (.tup [aR rows, o]) := by
 obtain ⟨x, e1, hx⟩ := gC CR CP CN CQ n ns 0 (by omega) (by omega)
 obtain ⟨y, e2, hy⟩ := gC CR CP CN CQ n ns 1 (by omega) (by omega)
 have hk0 : 0 <= x % 6 := by omega
 have hk : 1 + x % 6 = ((1 + (x % 6).toNat : Nat) : Int) := by omega
 obtain ⟨rows, g1, e3⟩ := zc CR CP CN CQ n ns 4 (1 + (x % 6).toNat) s (by omega) (by omega) (by omega) hs0 hs1
 obtain ⟨ij, g2, e4⟩ := zc CR CP CN CQ n ns 50 (1 + (x % 6).toNat) s (by omega) (by omega) (by omega) hs0 hs1
 rw [<- hk] at e3 e4
 by_cases h : y % 2 = 1
 ·exact ⟨1 + (x % 6).toNat, rows, aR ij, by omega, by omega, g1, .inr ⟨ij, g2, rfl⟩, by simp [bx, eU, fQ, e1, e2, e3, e4, h]⟩
 ·exact ⟨1 + (x % 6).toNat, rows, .non, by omega, by omega, g1, .inl rfl, by simp [bx, eU, fQ, e1, e2, e3, h]⟩
end
section
variable (CR CP CN CQ : Addr)
theorem yV (n : Nat) (x : Int) (h0 : 0 <= x) (h1 : x <= 1000000) : jV CR CP CN CQ n [.int x] = .ok (.bl true) := by simp [jV, rZ, qS, h0, h1]
theorem rW (n : Nat) (k : Nat) (r : List Int) (hk : k <= 6) (h : pJ k r) : cP CR CP CN CQ n [nQ r, .int k] = .ok (.bl true) := by
 have hl : r.length <= 16777216 := by have := h.1; omega
 have hk' : k <= 16777216 := by omega
 have e : bM (.nm 0) pb (fL (jV CR CP CN CQ n) (aa (ah 0) aJ)) [none] (r.map .int) = .ok ((r.map fun _ => true).map Dat.bl) := by
  have := i8 (p := .nm 0) (fe := fL (jV CR CP CN CQ n) (aa (ah 0) aJ)) (ρ0 := [none]) (fun _ => .bl true) (r.map .int) (fun d hd => by
   obtain ⟨x, hx, rfl⟩ := List.mem_map.mp hd
   exact ⟨[some (.int x)], by simp, by simp [yV CR CP CN CQ n x (h.2 x hx).1 (h.2 x hx).2]⟩)
  rw [this, List.map_map, List.map_map]
  rfl
 simp [cP, lz, nQ, e, hl, hk', h.1, -List.map_map]
theorem zy (n : Nat) (rows : List (List Int)) (hl : rows.length <= 1000) : eQ CR CP CN CQ n [aR rows] = .ok (aR rows) := by
 have hl2 : rows.length <= 16777216 := by omega
 have e : bM (.nm 0) pb (fL yO (aa (ah 0) aJ)) [none] (rows.map nQ) = .ok (rows.map nQ) := by
  have := i8 (p := .nm 0) (fe := fL yO (aa (ah 0) aJ)) (ρ0 := [none]) id (rows.map nQ) (fun d hd => by
   obtain ⟨x, hx, rfl⟩ := List.mem_map.mp hd
   exact ⟨[some (nQ x)], by simp, by simp [nQ]⟩)
  rw [this, List.map_id]
 simp [eQ, k9, aR, e, hl2]
theorem qQ (n : Nat) (k : Nat) (rows : List (List Int)) (h1 : 1 <= k) (h6 : k <= 6) (h : fq k rows) : aC CR CP CN CQ n [aR rows] = .ok (aR rows) := by
 have hl2 : rows.length <= 16777216 := by have := h.1; omega
 have e : bM (.nm 0) pb (fL (cP CR CP CN CQ n) (aa (ah 0) (aa (ah 1) aJ))) [none, some (.int rows.length)] (rows.map nQ) = .ok ((rows.map fun _ => true).map Dat.bl) := by
  have := i8 (p := .nm 0) (fe := fL (cP CR CP CN CQ n) (aa (ah 0) (aa (ah 1) aJ))) (ρ0 := [none, some (.int rows.length)]) (fun _ => .bl true) (rows.map nQ) (fun d hd => by
   obtain ⟨x, hx, rfl⟩ := List.mem_map.mp hd
   exact ⟨[some (nQ x), some (.int rows.length)], by simp, by simp [h.1, rW CR CP CN CQ n k x h6 (h.2 x hx)]⟩)
  rw [this, List.map_map, List.map_map]
  rfl
 have a1 : (1 : Int) <= rows.length := by have := h.1; omega
 have a2 : (rows.length : Int) <= 6 := by have := h.1; omega
 have e3 := zy CR CP CN CQ n rows (by have := h.1; omega)
 simp only [aR] at e3
 simp [aC, iZ, kK, kJ, aR, e, e3, hl2, a1, a2, -List.map_map]
noncomputable def aW (rows : List (List Int)) : Dat -> Dat
 | .non => .ins CR [("gaps", aR rows)]
 | o => .ins CP [("gaps", aR rows), ("beside", o)]
theorem made_ok (n : Nat) (k : Nat) (rows : List (List Int)) (o : Dat) (h1 : 1 <= k) (h6 : k <= 6) (h : fq k rows) (ho : o = .non \/ ∃ ij, fq k ij /\ o = aR ij) : dP CR CP CN CQ n [.tup [aR rows, o]] = .ok (aW CR CP rows o) := by
 have e1 := qQ CR CP CN CQ n k rows h1 h6 h
 rcases ho with rfl | ⟨ij, g2, rfl⟩
 ·simp [dP, ka, kl, newR, e1, aW]
 ·have e2 := qQ CR CP CN CQ n k ij h1 h6 g2
  have ht : twoL (aR rows) (aR ij) = true := by simp [twoL, aR, h.1, g2.1]
  have e3 : aW CR CP rows (aR ij) = .ins CP [("gaps", aR rows), ("beside", aR ij)] := rfl
  rw [e3]
  have hr : aR ij = .lst (ij.map nQ) := rfl
  simp [dP, ka, kl, newP, e1, e2, ht]
  rw [hr]
  have en : newP CP (aC CR CP CN CQ n) [aR rows, aR ij] = .ok (.ins CP [("gaps", aR rows), ("beside", aR ij)]) := by simp [newP, e1, e2, ht]
  simp [<- hr, en]
theorem zd (rows : List (List Int)) (o : Dat) (ho : o = .non \/ ∃ ij, o = aR ij) : sF [CR, CP] "gaps" (aW CR CP rows o) = .ok (aR rows) := by
 have h1 : ((("gaps" : Str) == ("gaps" : Str)) = true) := by decide +kernel
 rcases ho with rfl | ⟨ij, rfl⟩
 ·show (if ([CR, CP].contains CR) = true then (match List.lookup ("gaps" : Str) [(("gaps" : Str), aR rows)] with | some d => Except.ok d | none => stk) else stk) = _
  rw [if_pos (by simp), List.lookup_cons, h1]
 ·show (if ([CR, CP].contains CP) = true then (match List.lookup ("gaps" : Str) [(("gaps" : Str), aR rows), (("beside" : Str), aR ij)] with | some d => Except.ok d | none => stk) else stk) = _
  rw [if_pos (by simp), List.lookup_cons, h1]
end
structure Fli where
 kind : Int
 first : Int
 last : Int
 due : Int
 price : Int
noncomputable def flD (f : Fli) : Dat := .tup [.int f.kind, .int f.first, .int f.last, .int f.due, .int f.price]
structure uq (k : Nat) (f : Fli) : Prop where
 k0 : 0 <= f.kind
 k1 : f.kind < k
 f0 : 0 <= f.first
 f1 : f.first <= f.last
 l1 : f.last <= 1000000000
 d0 : 0 <= f.due
 d1 : f.due <= 1000000000
 p0 : 0 <= f.price
 p1 : f.price <= 1000000000
@[simp] theorem flatTop_f (d : Dat) : nJ false d = il d := by cases d <;> rfl
@[simp] theorem flatD_int (i : Int) : il (.int i) = true := by rw [il] <;> simp
theorem vf (a b : Int) : kN a b <= a /\ kN a b <= b /\ (kN a b = a \/ kN a b = b) := by unfold kN; split <;> omega
section
variable (CR CP CN CQ : Addr)
theorem xv (n : Nat) (ns : List Int) (k : Nat) (rows : List (List Int)) (o : Dat) (most s : Int) (many i : Nat) (fl : List Fli) (z6 z7 z8 z9 z10 z11 z12 : Option Dat) (hk : rows.length = k) (hk1 : 1 <= k) (hm : many <= 40) (hi : i < many) (hs0 : 1 <= s) (hs1 : s <= 100000) (hfl : fl.length <= 40) :
  ∃ (f : Fli) (y7 y8 y9 y10 y11 y12 : Option Dat), uq k f /\ dI CR CP CN CQ n [some (.lst (ns.map .int)), some (.tup [aR rows, o]), some (.int most), some (.int s), some (.int many), some (.lst (fl.map flD)), some (.int i), z7, z8, z9, z10, z11, z12] = .ok (.nx [some (.lst (ns.map .int)), some (.tup [aR rows, o]), some (.int most), some (.int s), some (.int many), some (.lst ((fl ++ [f]).map flD)), some (.int i), y7, y8, y9, y10, y11, y12]) := by
 obtain ⟨x, e, hx⟩ := gC CR CP CN CQ n ns (100 + (i : Int)) (by omega) (by omega)
 have p1 : 0 < 25 * s * ((i : Int) + 1) := Int.mul_pos (by omega) (by omega)
 have p2 : 25 * s * ((i : Int) + 1) <= 2500000 * 40 := Int.le_trans (Int.mul_le_mul_of_nonneg_right (by omega) (by omega)) (Int.mul_le_mul_of_nonneg_left (by omega) (by omega))
 have p3 : 0 < 20 * s := by omega
 have f0 : 0 <= x / 16 % (25 * s * ((i : Int) + 1)) := Int.emod_nonneg _ (by omega)
 have f1 : x / 16 % (25 * s * ((i : Int) + 1)) < 25 * s * ((i : Int) + 1) := Int.emod_lt_of_pos _ p1
 have d0 : 0 <= x / 1000 % (20 * s) := Int.emod_nonneg _ (by omega)
 have c1 : -18446744073709551616 < 25 * s := by omega
 have c2 : 25 * s < 18446744073709551616 := by omega
 have c3 : -18446744073709551616 < 100 * s := by omega
 have c4 : 100 * s < 18446744073709551616 := by omega
 have c5 : -18446744073709551616 < 12 * s := by omega
 have c6 : 12 * s < 18446744073709551616 := by omega
 have hk2 : (0 : Int) < rows.length := by omega
 have hfl2 : fl.length < 16777216 := by omega
 have hmp : (0 : Int) <= many := by omega
 generalize hF : x / 16 % (25 * s * ((i : Int) + 1)) = F at f0 f1
 generalize hDd : x / 1000 % (20 * s) = dd at d0
 have q4 : x % 16 / 5 = 0 \/ x % 16 / 5 = 1 \/ x % 16 / 5 = 2 \/ x % 16 / 5 = 3 := by omega
 have q2 : x / 3 % 2 = 0 \/ x / 3 % 2 = 1 := by omega
 obtain ⟨w, hw0, ew⟩ : ∃ w, 0 <= w /\ iY [.int 1000000000, .int (100 * s * many), .int (12 * s * many), .int (3 * s)] (x % 16 / 5) = .ok (.int w) := by
  rcases q4 with h | h | h | h
  ·exact ⟨1000000000, by omega, by rw [h]; simp⟩
  ·exact ⟨100 * s * many, Int.mul_nonneg (by omega) (by omega), by rw [h]; simp⟩
  ·exact ⟨12 * s * many, Int.mul_nonneg (by omega) (by omega), by rw [h]; simp⟩
  ·exact ⟨3 * s, by omega, by rw [h]; simp⟩
 obtain ⟨pr, hp0, hp1, ep⟩ : ∃ w, 0 <= w /\ w <= 1000000000 /\ iY [.int (x / 7 % 10), .int (x / 7 % 1000000001)] (x / 3 % 2) = .ok (.int w) := by
  rcases q2 with h | h
  ·exact ⟨x / 7 % 10, by omega, by omega, by rw [h]; simp⟩
  ·exact ⟨x / 7 % 1000000001, by omega, by omega, by rw [h]; simp⟩
 have kk0 : 0 <= x / 11 % (rows.length : Int) := Int.emod_nonneg _ (by omega)
 have kk1 : x / 11 % (rows.length : Int) < rows.length := Int.emod_lt_of_pos _ hk2
 have m1 := vf 1000000000 (F + w)
 have m2 := vf 1000000000 (F + dd)
 have g1 : x / 11 % (rows.length : Int) < (k : Int) := by omega
 have g2 : F <= kN 1000000000 (F + w) := by omega
 have g3 : 0 <= kN 1000000000 (F + dd) := by omega
 refine ⟨⟨x / 11 % (rows.length : Int), F, kN 1000000000 (F + w), kN 1000000000 (F + dd), pr⟩, some (.int x), some (.int F), some (.int w), some (.int (kN 1000000000 (F + w))), some (.int (kN 1000000000 (F + dd))), some (.int pr), ⟨kk0, g1, f0, g2, m1.1, g3, m2.1, hp0, hp1⟩, ?_⟩
 simp [dI, e, c1, c2, c3, c4, c5, c6, pZ p1, pZ p3, hF, hDd, ew, ep, pZ hk2, hfl2, aR, flD]
theorem xu (n : Nat) (ns : List Int) (k : Nat) (rows : List (List Int)) (o : Dat) (most : Nat) (s : Int) (hk : rows.length = k) (hk1 : 1 <= k) (hm : most <= 40) (hs0 : 1 <= s) (hs1 : s <= 100000) :
  ∃ fl : List Fli, fl.length <= most /\ (∀ f ∈ fl, uq k f) /\ cz CR CP CN CQ n [.lst (ns.map .int), .tup [aR rows, o], .int most, .int s] = .ok (.lst (fl.map flD)) := by
 obtain ⟨x, e1, hx⟩ := gC CR CP CN CQ n ns 2 (by omega) (by omega)
 obtain ⟨y, e2, hy⟩ := gC CR CP CN CQ n ns 3 (by omega) (by omega)
 have hmp : 0 < (most : Int) / 4 + 1 := by omega
 have a0 : 0 <= x % ((most : Int) / 4 + 1) := Int.emod_nonneg _ (by omega)
 have a1 : x % ((most : Int) / 4 + 1) < (most : Int) / 4 + 1 := Int.emod_lt_of_pos _ hmp
 obtain ⟨many, hmany, em⟩ : ∃ many : Nat, many <= most /\ dH CR CP CN CQ n [some (.lst (ns.map .int)), some (.tup [aR rows, o]), some (.int most), some (.int s), some (.int (x % ((most : Int) / 4 + 1))), none, none, none, none, none, none, none, none] = .ok (.nx [some (.lst (ns.map .int)), some (.tup [aR rows, o]), some (.int most), some (.int s), some (.int many), none, none, none, none, none, none, none, none]) := by
  by_cases h : y % 8 = 5
  ·exact ⟨most, by omega, by simp [dH, e2, h]⟩
  ·exact ⟨(x % ((most : Int) / 4 + 1)).toNat, by omega, by simp [dH, e2, h] <;> omega⟩
 show 'ռ'
 obtain ⟨ρ', e, fl, y6, y7, y8, y9, y10, y11, y12, rfl, h1, h2⟩ := gK (p := .nm 6) (g := dI CR CP CN CQ n)
  (fun i ρ => ∃ (fl : List Fli) (z6 z7 z8 z9 z10 z11 z12 : Option Dat), ρ = [some (.lst (ns.map .int)), some (.tup [aR rows, o]), some (.int most), some (.int s), some (.int many), some (.lst (fl.map flD)), z6, z7, z8, z9, z10, z11, z12] /\ fl.length = i /\ ∀ f ∈ fl, uq k f) (aX 0 many) 0 [some (.lst (ns.map .int)), some (.tup [aR rows, o]), some (.int most), some (.int s), some (.int many), some (.lst []), none, none, none, none, none, none, none] ⟨[], none, none, none, none, none, none, none, rfl, rfl, by simp⟩ (by
  rintro i d ρ hd ⟨fl, z6, z7, z8, z9, z10, z11, z12, rfl, hr1, hr2⟩
  obtain ⟨hi, rfl⟩ := fF hd
  obtain ⟨f, y7, y8, y9, y10, y11, y12, hg, e⟩ := xv CR CP CN CQ n ns k rows o most s many i fl z6 z7 z8 z9 z10 z11 z12 hk hk1 (by omega) hi hs0 hs1 (by omega)
  refine ⟨_, by simp <;> rfl, _, .inl e, fl ++ [f], some (.int i), y7, y8, y9, y10, y11, y12, rfl, by simp; omega, fun y hy => ?_⟩
  rcases List.mem_append.mp hy with z | z
  ·exact hr2 y z
  ·simp at z; subst z; exact hg)
 rw [Nat.zero_add, eB] at h1
 exact ⟨fl, by omega, h2, by simp [cz, j0, e1, pZ hmp, em, k1, k2, e]⟩
end
theorem xC {α : Type} {l : List α} {i : Nat} (h : i < l.length) : (l[i] :: l.eraseIdx i).Perm l := by
 rw [List.eraseIdx_eq_take_drop_succ]
 have e : l.take i ++ l[i] :: l.drop (i + 1) = l := by rw [List.getElem_cons_drop, List.take_append_drop]
 have := (List.perm_middle (a := l[i]) (l₁ := l.take i) (l₂ := l.drop (i + 1))).symm
 rw [e] at this
 exact this
theorem sf (l : List fx) (j : Nat) : (l.map stD).eraseIdx j = (l.eraseIdx j).map stD := by
 rw [List.eraseIdx_eq_take_drop_succ, List.eraseIdx_eq_take_drop_succ]
 simp
theorem popD_st {ls : List fx} {k : Int} (h0 : 0 <= k) (h1 : k < ls.length) (hl : ls.length <= 16777216) : yo (ls.map stD) (.int k) = .ok (stD (ls[k.toNat]'(by omega)), (ls.eraseIdx k.toNat).map stD) := by
 have hj : k.toNat < ls.length := by omega
 have hn : ¬ 16777216 < ls.length := by omega
 simp [yo, ixN, h0, h1, hj, hn, sf]
section
variable (CR CP CN CQ : Addr)
theorem qM (fl : List Fli) : ∀ ks : List Nat, (∀ k ∈ ks, k < fl.length) -> ∃ cs : List fx, cs.map (·.2) = ks.map (fun k : Nat => (k : Int)) /\ bM (.nm 0) pb (fL jq (aa (f2 ixD (f2 ixD (ah 1) (ah 0)) (fC (.int 1))) (aa (ah 0) aJ))) [none, some (.lst (fl.map flD))] (ks.map fun k : Nat => Dat.int (k : Int)) = .ok (cs.map stD)
 | [], _ => ⟨[], rfl, rfl⟩
 | k :: ks, h => by
  obtain ⟨cs, h1, h2⟩ := qM fl ks fun x hx => h x (by simp [hx])
  have hk := h k (by simp)
  have e : iY (fl.map flD) (k : Int) = .ok (flD fl[k]) := by
   rw [eS (by simpa using hk)]; simp
  refine ⟨((fl[k]).first, (k : Int)) :: cs, by simp [h1], ?_⟩
  rw [List.map_cons, bM]
  simp [e, flD, h2, stD]
theorem tE (n : Nat) (ns : List Int) (a1 a2 : Option Dat) (st : Int) (hs0 : 1 <= st) : ∀ (m : Nat) (left pairs : List fx) (z6 z7 z8 z9 : Option Dat), left.length < m -> left.length + pairs.length <= 1000 -> (∀ p ∈ pairs, 0 <= p.2 /\ p.2 < st) ->
  ∃ (qs : List fx) (y6 y7 y8 y9 : Option Dat), (qs.map (·.1)).Perm (pairs.map (·.1) ++ left.map (·.2)) /\ (∀ p ∈ qs, 0 <= p.2 /\ p.2 < st) /\
   bU (eJ CR CP CN CQ n) (gM CR CP CN CQ n) m [some (.lst (ns.map .int)), a1, a2, some (.lst (left.map stD)), some (.lst (pairs.map stD)), some (.int st), z6, z7, z8, z9] = .ok (.nx [some (.lst (ns.map .int)), a1, a2, some (.lst []), some (.lst (qs.map stD)), some (.int st), y6, y7, y8, y9])
 | 0, left, pairs, z6, z7, z8, z9, h, _, _ => by omega
 | m + 1, left, pairs, z6, z7, z8, z9, h, hl, hp => by
  by_cases h0 : left.length = 0
  ·have : left = [] := List.length_eq_zero_iff.mp h0
   subst this
   exact ⟨pairs, z6, z7, z8, z9, by simp, hp, by rw [bU]; simp [eJ]⟩
  ·obtain ⟨x, e, hx⟩ := gC CR CP CN CQ n ns (180 + (left.length : Int)) (by omega) (by omega)
   have hpos : 0 < left.length := by omega
   have m1 := vf (left.length : Int) 3
   have hmz : 0 < kN (left.length : Int) 3 := by omega
   have b0 : 0 <= x / 64 % kN (left.length : Int) 3 := Int.emod_nonneg _ (by omega)
   have b1 : x / 64 % kN (left.length : Int) 3 < kN (left.length : Int) 3 := Int.emod_lt_of_pos _ hmz
   obtain ⟨at_, c0, c1, ec⟩ : ∃ at_ : Int, 0 <= at_ /\ at_ < left.length /\ nZ (.int (x / 64 % kN (left.length : Int) 3)) (.int (b2z (decide (x % 4 = 0)))) = .ok (.int at_) := by
    by_cases hq : x % 4 = 0
    ·exact ⟨x / 64 % kN (left.length : Int) 3, b0, by omega, by simp [hq, b2z]⟩
    ·exact ⟨0, by omega, by omega, by simp [hq, b2z]⟩
   have ep := popD_st c0 c1 (by omega)
   have hst : 0 < st := by omega
   have r0 : 0 <= x / 4096 % st := Int.emod_nonneg _ (by omega)
   have r1 : x / 4096 % st < st := Int.emod_lt_of_pos _ hst
   have hpl : pairs.length < 16777216 := by omega
   have hat : at_.toNat < left.length := by omega
   generalize hpd : left[at_.toNat]'hat = pd at ep
   have hle := List.length_eraseIdx_of_lt hat
   obtain ⟨qs, y6, y7, y8, y9, hq1, hq2, hq3⟩ := tE n ns a1 a2 st hs0 m (left.eraseIdx at_.toNat) (pairs ++ [(pd.2, x / 4096 % st)]) (some (.int x)) (some (.int at_)) (some (.int pd.1)) (some (.int pd.2)) (by omega) (by simp; omega) (fun p hp' => by
    rcases List.mem_append.mp hp' with z | z
    ·exact hp p z
    ·simp at z; subst z; exact ⟨r0, r1⟩)
   refine ⟨qs, y6, y7, y8, y9, ?_, hq2, ?_⟩
   ·refine hq1.trans ?_
    rw [List.map_append, List.append_assoc]
    refine List.Perm.append_left _ ?_
    have := (xC hat).map (·.2)
    rw [hpd] at this
    simpa using this
   ·rw [bU]
    rw [List.map_append, List.map_cons, List.map_nil] at hq3
    simp only [stD] at hq3 ep
    have ht : eJ CR CP CN CQ n [some (.lst (ns.map .int)), a1, a2, some (.lst (left.map stD)), some (.lst (pairs.map stD)), some (.int st), z6, z7, z8, z9] = .ok true := by simp [eJ, hpos]
    have hb : gM CR CP CN CQ n [some (.lst (ns.map .int)), a1, a2, some (.lst (left.map stD)), some (.lst (pairs.map stD)), some (.int st), z6, z7, z8, z9] = .ok (.nx [some (.lst (ns.map .int)), a1, a2, some (.lst ((left.eraseIdx at_.toNat).map stD)), some (.lst (pairs.map stD ++ [.tup [.int pd.2, .int (x / 4096 % st)]])), some (.int st), some (.int x), some (.int at_), some (.int pd.1), some (.int pd.2)]) := by
     simp [gM, e, pZ hmz, ec, ep, pZ hst, hpl]
    rw [ht, ax, if_pos rfl, hb, ax]
    exact hq3
end
section
variable (CR CP CN CQ : Addr)
theorem plan_ok (n : Nat) (ns : List Int) (rows : List (List Int)) (o : Dat) (fl : List Fli) (hf : fl.length <= 60) (hn : 64 <= n) : ∃ qs : List fx, (qs.map (·.1)).Perm ((List.range fl.length).map fun k : Nat => (k : Int)) /\ (∀ p ∈ qs, 0 <= p.2 /\ p.2 < 2) /\ (o = .non -> ∀ p ∈ qs, p.2 = 0) /\ fJ CR CP CN CQ n [.lst (ns.map .int), .tup [aR rows, o], .lst (fl.map flD)] = .ok (.lst (qs.map stD)) := by
 obtain ⟨cs, h1, h2⟩ := qM fl (List.range fl.length) (fun k hk => List.mem_range.mp hk)
 have hcl : cs.length = fl.length := by have := congrArg List.length h1; simpa using this
 obtain ⟨ss, e, hp, _⟩ := t8 cs (by omega)
 obtain ⟨b, hb⟩ : ∃ b, isND o .non = .ok (.bl b) := by cases o <;> exact ⟨_, rfl⟩
 have hs0 : 1 <= (2 : Int) - b2z b := by cases b <;> decide
 have hs1 : (2 : Int) - b2z b <= 2 := by cases b <;> decide
 obtain ⟨qs, y6, y7, y8, y9, q1, q2, q3⟩ := tE CR CP CN CQ n ns (some (.tup [aR rows, o])) (some (.lst (fl.map flD))) (2 - b2z b) hs0 n ss [] none none none none (by rw [hp.length_eq]; omega) (by rw [hp.length_eq]; simp; omega) (by simp)
 refine ⟨qs, ?_, fun p hp => ⟨(q2 p hp).1, by have := (q2 p hp).2; omega⟩, fun hon p hp => by subst hon; cases hb; have := q2 p hp; simp [b2z] at this; omega, ?_⟩
 ·refine q1.trans ?_
  rw [List.map_nil, List.nil_append, <- h1]
  exact hp.map _
 ·have k1 : -4611686018427387904 <= (fl.length : Int) := by omega
  have k2 : (fl.length : Int) < 4611686018427387904 := by omega
  have hl2 : fl.length <= 16777216 := by omega
  have er : aX 0 fl.length = (List.range fl.length).map fun k : Nat => Dat.int (k : Int) := by
   unfold aX
   exact List.map_congr_left fun k _ => by rw [Int.zero_add]
  rw [List.map_nil] at q3
  simp [fJ, mn, k1, k2, er, h2, e, hb, hl2, q3, -e_isN]
end
noncomputable def flAt (fl : List Fli) (i : Int) : Fli := match fl[i.toNat]? with
 | some f => f
 | none => ⟨0, 0, 0, 0, 0⟩
theorem getFl {fl : List Fli} {i : Int} (h0 : 0 <= i) (h1 : i < fl.length) : iY (fl.map flD) i = .ok (flD (flAt fl i)) /\ flAt fl i ∈ fl := by
 have hj : i.toNat < fl.length := by omega
 have e : flAt fl i = fl[i.toNat] := by unfold flAt; rw [List.getElem?_eq_getElem hj]
 refine ⟨?_, by rw [e]; exact List.getElem_mem hj⟩
 have := eS (ds := fl.map flD) (k := i.toNat) (by simpa using hj)
 rw [show ((i.toNat : Nat) : Int) = i by omega] at this
 rw [this, e]
 simp
noncomputable def Cov (cs : List fx) (t : Int) : Prop := ∃ p ∈ cs, p.1 <= t /\ t < p.2
noncomputable def iO (cs : List fx) (t u : Int) : Prop := t <= u /\ ¬ Cov cs u /\ ∀ v, t <= v -> v < u -> Cov cs v
noncomputable def A4 (cs : List fx) (t u : Int) : Prop := u <= t /\ ¬ Cov cs u /\ ∀ v, u < v -> v <= t -> Cov cs v
theorem iO.uniq {cs : List fx} {t u v : Int} (h : iO cs t u) (k : iO cs t v) : u = v := by
 rcases Int.lt_trichotomy u v with e | e | e
 ·exact absurd (k.2.2 u h.1 e) h.2.1
 ·exact e
 ·exact absurd (h.2.2 v k.1 e) k.2.1
theorem A4.uniq {cs : List fx} {t u v : Int} (h : A4 cs t u) (k : A4 cs t v) : u = v := by
 rcases Int.lt_trichotomy u v with e | e | e
 ·exact absurd (h.2.2 v e k.1) k.2.1
 ·exact e
 ·exact absurd (k.2.2 u e h.1) h.2.1
theorem vm (t : Int) : ¬ Cov [] t := fun ⟨_, h, _⟩ => by simp at h
theorem sA {p : fx} {cs : List fx} {t : Int} : Cov (p :: cs) t ↔ (p.1 <= t /\ t < p.2) \/ Cov cs t := by
 constructor
 ·rintro ⟨q, h, h2⟩
  rcases List.mem_cons.mp h with e | e
  ·subst e; exact .inl h2
  ·exact .inr ⟨q, e, h2⟩
 ·rintro (h | ⟨q, h, h2⟩)
  ·exact ⟨p, by simp, h⟩
  ·exact ⟨q, by simp [h], h2⟩
theorem jE {as bs : List fx} {t : Int} : Cov (as ++ bs) t ↔ Cov as t \/ Cov bs t := by
 constructor
 ·rintro ⟨q, h, h2⟩
  rcases List.mem_append.mp h with e | e
  ·exact .inl ⟨q, e, h2⟩
  ·exact .inr ⟨q, e, h2⟩
 ·rintro (⟨q, h, h2⟩ | ⟨q, h, h2⟩)
  ·exact ⟨q, by simp [h], h2⟩
  ·exact ⟨q, by simp [h], h2⟩
theorem cov_perm {as bs : List fx} (h : as.Perm bs) {t : Int} : Cov as t ↔ Cov bs t := ⟨fun ⟨p, m, q⟩ => ⟨p, h.mem_iff.mp m, q⟩, fun ⟨p, m, q⟩ => ⟨p, h.mem_iff.mpr m, q⟩⟩
theorem vl {p : fx} {t : Int} : Cov [p] t ↔ p.1 <= t /\ t < p.2 := by rw [sA]; simp [vm]
theorem jC : ∀ (ds : List Dat) (k i : Nat) (d : Dat), (j3 k ds)[i]? = some d -> ∃ e, ds[i]? = some e /\ d = .tup [.int ((k + i : Nat) : Int), e]
 | [], k, i, d, h => by simp [j3] at h
 | a :: ds, k, 0, d, h => by simp [j3] at h; exact ⟨a, by simp, by simp [<- h]⟩
 | a :: ds, k, i + 1, d, h => by
  simp [j3] at h
  obtain ⟨e, h1, h2⟩ := jC ds (k + 1) i d h
  exact ⟨e, by simpa using h1, by rw [h2, show k + 1 + i = k + (i + 1) by omega]⟩
theorem f9 : ∀ (ds : List Dat) (k : Nat), (j3 k ds).length = ds.length
 | [], k => rfl
 | a :: ds, k => by simp [j3, f9 ds (k + 1)]
noncomputable def tAt (ts : List Int) (i : Nat) : Int := ts.getD i 0
noncomputable def qAt (qs : List fx) (i : Nat) : fx := qs.getD i (0, 0)
noncomputable def rwAt (rows : List (List Int)) (i : Int) : List Int := rows.getD i.toNat []
noncomputable def at2 (rows : List (List Int)) (i j : Int) : Int := (rwAt rows i).getD j.toNat 0
noncomputable def apS (rows r2 : List (List Int)) (a b : fx) : Int := if a.2 = b.2 then at2 rows a.1 b.1 else at2 r2 a.1 b.1
noncomputable def mC (fl : List Fli) (p : fx) : fx := ((flAt fl p.1).kind, p.2)
structure Wo where
 k : Nat
 rows : List (List Int)
 r2 : List (List Int)
 o : Dat
 fl : List Fli
 cs : List fx
 qs : List fx
structure Wo.Good (w : Wo) : Prop where
 k1 : 1 <= w.k
 k6 : w.k <= 6
 rows : fq w.k w.rows
 o : (w.o = .non /\ ∀ p ∈ w.qs, p.2 = 0) \/ (w.o = aR w.r2 /\ fq w.k w.r2)
 fl : ∀ f ∈ w.fl, uq w.k f
 fll : w.fl.length <= 60
 cs : ∀ p ∈ w.cs, p.1 < p.2
 csl : w.cs.length <= 20
 qs : ∀ p ∈ w.qs, 0 <= p.1 /\ p.1 < w.fl.length
 qsl : w.qs.length = w.fl.length
noncomputable def Wo.f (w : Wo) (i : Nat) : Fli := flAt w.fl (qAt w.qs i).1
noncomputable def Wo.ap (w : Wo) (j i : Nat) : Int := apS w.rows w.r2 (mC w.fl (qAt w.qs j)) (mC w.fl (qAt w.qs i))
noncomputable def Wo.ruD (w : Wo) : Dat := .tup [aR w.rows, w.o]
theorem getQ {qs : List fx} {i : Nat} (h : i < qs.length) : iY (qs.map stD) (i : Int) = .ok (stD (qAt qs i)) := by
 rw [eS (by simpa using h)]
 simp [qAt, h]
theorem oH {qs : List fx} {i : Nat} (h : i < qs.length) : qAt qs i ∈ qs := by
 have : qAt qs i = qs[i] := by simp [qAt, h]
 rw [this]
 exact List.getElem_mem h
theorem getT {ts : List Int} {i : Nat} (h : i < ts.length) : iY (ts.map .int) (i : Int) = .ok (.int (tAt ts i)) := by
 rw [eS (by simpa using h)]
 simp [tAt, h]
theorem getR {k : Nat} {rows : List (List Int)} (g : fq k rows) {i : Int} (h0 : 0 <= i) (h1 : i < k) : iY (rows.map nQ) i = .ok (nQ (rwAt rows i)) /\ pJ k (rwAt rows i) := by
 have hl := g.1
 have hj : i.toNat < rows.length := by omega
 have e : rwAt rows i = rows[i.toNat] := by simp [rwAt, hj]
 refine ⟨?_, by rw [e]; exact g.2 _ (List.getElem_mem hj)⟩
 have := eS (ds := rows.map nQ) (k := i.toNat) (by simpa using hj)
 rw [show ((i.toNat : Nat) : Int) = i by omega] at this
 rw [this, e]
 simp
theorem getA {k : Nat} {rows : List (List Int)} (g : fq k rows) {i j : Int} (h0 : 0 <= i) (h1 : i < k) (h2 : 0 <= j) (h3 : j < k) : iY ((rwAt rows i).map .int) j = .ok (.int (at2 rows i j)) /\ 0 <= at2 rows i j := by
 have gr := (getR g h0 h1).2
 have hl := gr.1
 have hj : j.toNat < (rwAt rows i).length := by omega
 have e : at2 rows i j = (rwAt rows i)[j.toNat] := by simp [at2, hj]
 refine ⟨?_, by rw [e]; exact (gr.2 _ (List.getElem_mem hj)).1⟩
 rw [getI_int h2 (by omega), e]
theorem Wo.Good.fAt {w : Wo} (hw : w.Good) {i : Nat} (h : i < w.qs.length) : iY (w.fl.map flD) (qAt w.qs i).1 = .ok (flD (w.f i)) /\ uq w.k (w.f i) := by
 obtain ⟨h0, h1⟩ := hw.qs _ (oH h)
 obtain ⟨e, m⟩ := getFl h0 h1
 exact ⟨e, hw.fl _ m⟩
section
variable (CR CP CN CQ : Addr)
theorem wL (n : Nat) {w : Wo} (hw : w.Good) {j i : Nat} (hj : j < w.qs.length) (hi : i < w.qs.length) : bX CR CP CN CQ n [w.ruD, .lst (w.fl.map flD), stD (qAt w.qs j), stD (qAt w.qs i)] = .ok (.int (w.ap j i)) := by
 show 'ե'
 unfold Wo.f at *
 by_cases hs : (qAt w.qs j).2 = (qAt w.qs i).2
 ·simp [bX, iC, j6, Wo.ruD, stD, ej, ei, flD, hs, aR, r1, nQ, r2, Wo.ap, apS, mC]
 ·rcases hw.o with ⟨_, h⟩ | ⟨ho, h⟩
  ·exact absurd ((h _ (oH hj)).trans (h _ (oH hi)).symm) hs
  ·obtain ⟨r3, _⟩ := getR h gj.k0 gj.k1
   obtain ⟨r4, _⟩ := getA h gj.k0 gj.k1 gi.k0 gi.k1
   simp [bX, iC, j6, Wo.ruD, stD, ej, ei, flD, hs, ho, aR, r3, nQ, r4, Wo.ap, apS, mC]
end
section
variable (CR CP CN CQ : Addr)
theorem zC (n : Nat) (ns : List Int) (s : Int) (hs0 : 1 <= s) (hs1 : s <= 100000) : ∃ cs : List fx, cs.length <= 20 /\ (∀ p ∈ cs, 0 <= p.1 /\ p.1 < p.2) /\ d9 CR CP CN CQ n [.lst (ns.map .int), .int s] = .ok (.lst (cs.map stD)) := by
 obtain ⟨x, e1, hx⟩ := gC CR CP CN CQ n ns 150 (by omega) (by omega)
 obtain ⟨y, e2, hy⟩ := gC CR CP CN CQ n ns 151 (by omega) (by omega)
 obtain ⟨many, hmany, em⟩ : ∃ many : Nat, many <= 20 /\ fg CR CP CN CQ n [some (.lst (ns.map .int)), some (.int s), some (.int (x % 5)), none, none, none, none] = .ok (.nx [some (.lst (ns.map .int)), some (.int s), some (.int many), none, none, none, none]) := by
  by_cases h : y % 8 = 5
  ·exact ⟨20, by omega, by simp [fg, e2, h]⟩
  ·exact ⟨(x % 5).toNat, by omega, by simp [fg, e2, h] <;> omega⟩
 show 'ռ'
 obtain ⟨ρ', e, cs, y4, y5, y6, rfl, h1, h2⟩ := gK (p := .nm 4) (g := ib CR CP CN CQ n)
  (fun i ρ => ∃ (cs : List fx) (z4 z5 z6 : Option Dat), ρ = [some (.lst (ns.map .int)), some (.int s), some (.int many), some (.lst (cs.map stD)), z4, z5, z6] /\ cs.length = i /\ ∀ p ∈ cs, 0 <= p.1 /\ p.1 < p.2) (aX 0 many) 0 [some (.lst (ns.map .int)), some (.int s), some (.int many), some (.lst []), none, none, none] ⟨[], none, none, none, rfl, rfl, by simp⟩ (by
  rintro i d ρ hd ⟨cs, z4, z5, z6, rfl, hr1, hr2⟩
  obtain ⟨hi, rfl⟩ := fF hd
  obtain ⟨x, ex, hx⟩ := gC CR CP CN CQ n ns (152 + (i : Int)) (by omega) (by omega)
  have p1 : 0 < 150 * s := by omega
  have f0 : 0 <= x / 9 % (150 * s) := Int.emod_nonneg _ (by omega)
  have m0 : 0 <= x % 9 * s := Int.mul_nonneg (by omega) (by omega)
  have q1 : -18446744073709551616 < x % 9 := by omega
  have q2 : x % 9 < 18446744073709551616 := by omega
  have hl : cs.length < 16777216 := by omega
  refine ⟨_, by simp <;> rfl, [some (.lst (ns.map .int)), some (.int s), some (.int many), some (.lst ((cs ++ [(x / 9 % (150 * s), x / 9 % (150 * s) + 1 + x % 9 * s)]).map stD)), some (.int i), some (.int x), some (.int (x / 9 % (150 * s)))], .inl ?_, _, _, _, _, rfl, by simp; omega, fun y hy => ?_⟩
  ·simp [ib, ex, pZ p1, q1, q2, hl, stD]
  ·rcases List.mem_append.mp hy with z | z
   ·exact hr2 y z
   ·simp at z; subst z; exact ⟨f0, by show x / 9 % (150 * s) < x / 9 % (150 * s) + 1 + x % 9 * s; omega⟩)
 rw [Nat.zero_add, eB] at h1
 exact ⟨cs, by omega, h2, by simp [d9, kc, e1, em, k1, k2, e]⟩
end
noncomputable def cnt (cs : List fx) (t : Int) : Nat := cs.countP fun p => decide (t < p.2)
theorem wC {cs : List fx} {t u : Int} (h : t <= u) : cnt cs u <= cnt cs t := by
 unfold cnt
 exact List.countP_mono_left fun p _ hp => by simp at hp ⊢; omega
theorem cnt_lt : ∀ {cs : List fx} {p : fx} {t : Int}, p ∈ cs -> t < p.2 -> cnt cs p.2 < cnt cs t
 | [], p, t, hp, _ => by simp at hp
 | a :: cs, p, t, hp, ht => by
  have hm := wC (cs := cs) (t := t) (u := p.2) (by omega)
  unfold cnt at *
  rw [List.countP_cons, List.countP_cons]
  rcases List.mem_cons.mp hp with e | e
  ·subst e
   simp [ht]
   omega
  ·have ih := cnt_lt (cs := cs) e ht
   unfold cnt at ih
   by_cases h1 : p.2 < a.2
   ·have : t < a.2 := by omega
    simp [h1, this]; omega
   ·by_cases h2 : t < a.2 <;> simp [h1, h2] <;> omega
section
variable (CR CP CN CQ : Addr)
theorem v5 (n : Nat) (all : List fx) (c : Option Dat) : ∀ (ds : List fx) (t : Int) (m : Bool) (z3 z4 : Option Dat), (∀ p ∈ ds, p ∈ all) -> ∃ (t' : Int) (m' : Bool) (y3 y4 : Option Dat), j8 (.tp [3, 4]) (aV CR CP CN CQ n) (ds.map stD) [c, some (.int t), some (.bl m), z3, z4] = .ok (.nx [c, some (.int t'), some (.bl m'), y3, y4]) /\ t <= t' /\ (∀ v, t <= v -> v < t' -> Cov all v) /\ (m' = false -> m = false /\ t' = t /\ ¬ Cov ds t) /\ (m' = true -> m = true \/ cnt all t' < cnt all t)
 | [], t, m, z3, z4, _ => ⟨t, m, z3, z4, rfl, Int.le_refl _, fun v h1 h2 => by omega, fun h => ⟨h, rfl, vm t⟩, fun h => .inl h⟩
 | p :: ds, t, m, z3, z4, hin => by
  have hb : fj (.tp [3, 4]) (stD p) [c, some (.int t), some (.bl m), z3, z4] = .ok [c, some (.int t), some (.bl m), some (.int p.1), some (.int p.2)] := by simp [stD]
  by_cases h : p.1 <= t /\ t < p.2
  ·have hg : aV CR CP CN CQ n [c, some (.int t), some (.bl m), some (.int p.1), some (.int p.2)] = .ok (.nx [c, some (.int p.2), some (.bl true), some (.int p.1), some (.int p.2)]) := by simp [aV, cG, h.1, h.2]
   obtain ⟨t', m', y3, y4, e, h1, h2, h3, h4⟩ := v5 n all c ds p.2 true (some (.int p.1)) (some (.int p.2)) fun q hq => hin q (by simp [hq])
   refine ⟨t', m', y3, y4, ?_, by omega, fun v a b => ?_, fun hm => absurd (h3 hm).1 (by simp), fun _ => .inr ?_⟩
   ·rw [List.map_cons, j8, hb, ax, hg]; exact e
   ·by_cases hv : v < p.2
    ·exact ⟨p, hin p (by simp), by omega, hv⟩
    ·exact h2 v (by omega) b
   ·exact Nat.lt_of_le_of_lt (wC h1) (cnt_lt (hin p (by simp)) h.2)
  ·have hg : aV CR CP CN CQ n [c, some (.int t), some (.bl m), some (.int p.1), some (.int p.2)] = .ok (.nx [c, some (.int t), some (.bl m), some (.int p.1), some (.int p.2)]) := by
    by_cases h1 : p.1 <= t
    ·have h2 : ¬ t < p.2 := fun z => h ⟨h1, z⟩
     simp [aV, cG, h1, h2]
    ·simp [aV, cG, h1]
   obtain ⟨t', m', y3, y4, e, h1, h2, h3, h4⟩ := v5 n all c ds t m (some (.int p.1)) (some (.int p.2)) fun q hq => hin q (by simp [hq])
   refine ⟨t', m', y3, y4, ?_, h1, h2, fun hm => ?_, h4⟩
   ·rw [List.map_cons, j8, hb, ax, hg]; exact e
   ·obtain ⟨a, b, d⟩ := h3 hm
    exact ⟨a, b, fun z => (sA.mp z).elim h d⟩
theorem qt (n : Nat) (cs : List fx) : ∀ (m : Nat) (t : Int) (z3 z4 : Option Dat), cnt cs t + 1 < m -> ∃ (u : Int) (y3 y4 : Option Dat), iO cs t u /\ bU (bf CR CP CN CQ n) (cH CR CP CN CQ n) m [some (.lst (cs.map stD)), some (.int t), some (.bl true), z3, z4] = .ok (.nx [some (.lst (cs.map stD)), some (.int u), some (.bl false), y3, y4])
 | 0, t, z3, z4, h => by omega
 | m + 1, t, z3, z4, h => by
  obtain ⟨t', m', y3, y4, e, h1, h2, h3, h4⟩ := v5 CR CP CN CQ n cs (some (.lst (cs.map stD))) cs t false z3 z4 fun q hq => hq
  have ht : bf CR CP CN CQ n [some (.lst (cs.map stD)), some (.int t), some (.bl true), z3, z4] = .ok true := by simp [bf]
  have hb : cH CR CP CN CQ n [some (.lst (cs.map stD)), some (.int t), some (.bl true), z3, z4] = .ok (.nx [some (.lst (cs.map stD)), some (.int t'), some (.bl m'), y3, y4]) := by simp [cH, e]
  cases m' with
  | false =>
   obtain ⟨_, e2, hn⟩ := h3 rfl
   subst e2
   refine ⟨t', y3, y4, ⟨Int.le_refl _, hn, fun v a b => by omega⟩, ?_⟩
   rw [bU, ht, ax, if_pos rfl, hb, ax]
   have ht2 : bf CR CP CN CQ n [some (.lst (cs.map stD)), some (.int t'), some (.bl false), y3, y4] = .ok false := by simp [bf]
   cases m with
   | zero => omega
   | succ m =>
    show bU _ _ (m + 1) _ = _
    rw [bU, ht2, ax, if_neg (by simp)]
  | true =>
   rcases h4 rfl with z | z
   ·cases z
   ·obtain ⟨u, w3, w4, hu, e2⟩ := qt n cs m t' y3 y4 (by omega)
    refine ⟨u, w3, w4, ⟨Int.le_trans h1 hu.1, hu.2.1, fun v a b => ?_⟩, ?_⟩
    ·by_cases hv : v < t'
     ·exact h2 v a hv
     ·exact hu.2.2 v (by omega) b
    ·rw [bU, ht, ax, if_pos rfl, hb, ax]
     exact e2
theorem from_ok (n : Nat) (cs : List fx) (t : Int) (hl : cs.length <= 20) (hn : 64 <= n) : ∃ u, iO cs t u /\ cv CR CP CN CQ n [.lst (cs.map stD), .int t] = .ok (.int u) := by
 have hc : cnt cs t <= cs.length := List.countP_le_length
 obtain ⟨u, y3, y4, hu, e⟩ := qt CR CP CN CQ n cs n t none none (by omega)
 exact ⟨u, hu, by simp [cv, gA, e]⟩
end
theorem lookA1 (d : Dat) : List.lookup ("apart" : Str) [(("gaps" : Str), d)] = none := by
 rw [List.lookup_cons, show ((("apart" : Str) == ("gaps" : Str)) = false) from by decide +kernel]
 rfl
theorem lookA2 (d e : Dat) : List.lookup ("apart" : Str) [(("gaps" : Str), d), (("beside" : Str), e)] = none := by
 rw [List.lookup_cons, show ((("apart" : Str) == ("gaps" : Str)) = false) from by decide +kernel]
 show List.lookup ("apart" : Str) [(("beside" : Str), e)] = none
 rw [List.lookup_cons, show ((("apart" : Str) == ("beside" : Str)) = false) from by decide +kernel]
 rfl
section
variable (CR CP CN CQ : Addr)
theorem zP (rows r2 : List (List Int)) : sF [CP] "beside" (aW CR CP rows (aR r2)) = .ok (aR r2) := by
 have h1 : ((("beside" : Str) == ("gaps" : Str)) = false) := by decide +kernel
 have h2 : ((("beside" : Str) == ("beside" : Str)) = true) := by decide +kernel
 show (if ([CP].contains CP) = true then (match List.lookup ("beside" : Str) [(("gaps" : Str), aR rows), (("beside" : Str), aR r2)] with | some d => Except.ok d | none => stk) else stk) = _
 rw [if_pos (by simp), List.lookup_cons, h1]
 show (match List.lookup ("beside" : Str) [(("beside" : Str), aR r2)] with | some d => Except.ok d | none => stk) = _
 rw [List.lookup_cons, h2]
theorem meth_ok (n : Nat) (hne : CR ≠ CP) {w : Wo} (hw : w.Good) {j i : Nat} (hj : j < w.qs.length) (hi : i < w.qs.length) (fo f1 f2 : ao -> M Dat) (ρ : ao) (h0 : fo ρ = .ok (aW CR CP w.rows w.o)) (h1 : f1 ρ = .ok (stD (mC w.fl (qAt w.qs j)))) (h2 : f2 ρ = .ok (stD (mC w.fl (qAt w.qs i)))) :
  lD CR CP "apart" (cf CR CP CN CQ n) (bY CR CP CN CQ n) fo (aa f1 (aa f2 aJ)) ρ = .ok (.int (w.ap j i)) := by
 show 'ե'
 unfold Wo.f at *
 unfold lD
 rw [h0, ax]
 rcases hw.o with ⟨ho, h⟩ | ⟨ho, h⟩
 ·have hs : (qAt w.qs j).2 = (qAt w.qs i).2 := (h _ (oH hj)).trans (h _ (oH hi)).symm
  have hc : isC CR "apart" (aW CR CP w.rows w.o) = true := by
   rw [ho]
   show ((CR == CR) && (List.lookup ("apart" : Str) [(("gaps" : Str), aR w.rows)]).isNone) = true
   rw [lookA1]; simp
  have hg := zd CR CP w.rows w.o (.inl ho)
  rw [if_pos hc]
  simp [h1, h2, cf, ke, hg, stD, mC, aR, r1, nQ, r2, Wo.ap, apS, hs]
 ·have hc : isC CR "apart" (aW CR CP w.rows w.o) = false := by
   rw [ho]
   show ((CP == CR) && (List.lookup ("apart" : Str) [(("gaps" : Str), aR w.rows), (("beside" : Str), aR w.r2)]).isNone) = false
   have : (CP == CR) = false := by simp; exact fun z => hne z.symm
   rw [this]; rfl
  have hc2 : isC CP "apart" (aW CR CP w.rows w.o) = true := by
   rw [ho]
   show ((CP == CP) && (List.lookup ("apart" : Str) [(("gaps" : Str), aR w.rows), (("beside" : Str), aR w.r2)]).isNone) = true
   rw [lookA2]; simp
  have hg := zd CR CP w.rows w.o (.inr ⟨_, ho⟩)
  have hb : sF [CP] "beside" (aW CR CP w.rows w.o) = .ok (aR w.r2) := by rw [ho]; exact zP CR CP w.rows w.r2
  obtain ⟨r3, _⟩ := getR h gj.k0 gj.k1
  obtain ⟨r4, _⟩ := getA h gj.k0 gj.k1 gi.k0 gi.k1
  rw [if_neg (by rw [hc]; simp), if_pos hc2]
  by_cases hs : (qAt w.qs j).2 = (qAt w.qs i).2
  ·simp [h1, h2, bY, iE, hg, hb, stD, mC, aR, r1, nQ, r2, Wo.ap, apS, hs]
  ·simp [h1, h2, bY, iE, hg, hb, stD, mC, aR, r3, nQ, r4, Wo.ap, apS, hs]
theorem rq (n : Nat) {w : Wo} (hw : w.Good) : fG CR CP CN CQ n [.lst (w.fl.map flD), .lst (w.qs.map stD)] = .ok (.lst ((w.qs.map (mC w.fl)).map stD)) := by
 have hl : w.qs.length <= 16777216 := by have := hw.qsl; have := hw.fll; omega
 have e : ∀ qs : List fx, (∀ p ∈ qs, 0 <= p.1 /\ p.1 < w.fl.length) -> bM (.tp [0, 1]) pb (fL jq (aa (f2 ixD (f2 ixD (ah 2) (ah 0)) (fC (.int 0))) (aa (ah 1) aJ))) [none, none, some (.lst (w.fl.map flD))] (qs.map stD) = .ok ((qs.map (mC w.fl)).map stD) := by
  intro qs
  induction qs with
  | nil => intro _; rfl
  | cons p qs ih =>
   intro h
   obtain ⟨h0, h1⟩ := h p (by simp)
   obtain ⟨e, _⟩ := getFl h0 h1
   have ih := ih fun q hq => h q (by simp [hq])
   rw [List.map_cons, bM]
   simp [e, flD, ih, mC, stD, -List.map_map]
 simp [fG, nF, hl, e w.qs hw.qs, -List.map_map]
theorem getS {w : Wo} {i : Nat} (h : i < w.qs.length) : iY ((w.qs.map (mC w.fl)).map stD) (i : Int) = .ok (stD (mC w.fl (qAt w.qs i))) := by
 rw [eS (by simpa using h)]
 simp [qAt, h]
noncomputable def Wo.om (w : Wo) (ts : List Int) (i : Nat) : List Int := (List.range i).map fun j => tAt ts j + w.ap j i
theorem gap_ok (n : Nat) (hne : CR ≠ CP) {w : Wo} (hw : w.Good) (ts : List Int) {i : Nat} (hi : i < w.qs.length) (ht : i <= ts.length) : dO CR CP CN CQ n [aW CR CP w.rows w.o, .lst ((w.qs.map (mC w.fl)).map stD), .lst (ts.map .int), .int i] = .ok (.lst ((w.om ts i).map .int)) := by
 show 'Օ'
 have k1 : -4611686018427387904 <= (i : Int) := by omega
 have k2 : (i : Int) < 4611686018427387904 := by omega
 have hl : (aX 0 i).length <= 16777216 := by rw [eB]; omega
 have e : bM (.nm 0) pb (f2 lW (f2 ixD (ah 3) (ah 0)) (lD CR CP "apart" (cf CR CP CN CQ n) (bY CR CP CN CQ n) (ah 1) (aa (f2 ixD (ah 2) (ah 0)) (aa (f2 ixD (ah 2) (ah 4)) aJ)))) [none, some (aW CR CP w.rows w.o), some (.lst ((w.qs.map (mC w.fl)).map stD)), some (.lst (ts.map .int)), some (.int i)] (aX 0 i) = .ok ((w.om ts i).map .int) := by
  have := i8 (p := .nm 0) (fe := f2 lW (f2 ixD (ah 3) (ah 0)) (lD CR CP "apart" (cf CR CP CN CQ n) (bY CR CP CN CQ n) (ah 1) (aa (f2 ixD (ah 2) (ah 0)) (aa (f2 ixD (ah 2) (ah 4)) aJ)))) (ρ0 := [none, some (aW CR CP w.rows w.o), some (.lst ((w.qs.map (mC w.fl)).map stD)), some (.lst (ts.map .int)), some (.int i)]) (fun d => match d with | .int j => .int (tAt ts j.toNat + w.ap j.toNat i) | d => d) (aX 0 i) (fun d hd => by
   obtain ⟨j, hj⟩ := List.getElem?_of_mem hd
   obtain ⟨hj, rfl⟩ := fF hj
   refine ⟨[some (.int j), some (aW CR CP w.rows w.o), some (.lst ((w.qs.map (mC w.fl)).map stD)), some (.lst (ts.map .int)), some (.int i)], by simp, ?_⟩
   have em := meth_ok CR CP CN CQ n hne hw (j := j) (i := i) (by omega) hi (ah 1) (f2 ixD (ah 2) (ah 0)) (f2 ixD (ah 2) (ah 4)) [some (.int j), some (aW CR CP w.rows w.o), some (.lst ((w.qs.map (mC w.fl)).map stD)), some (.lst (ts.map .int)), some (.int i)] (by simp) (by simp [getS (w := w) (i := j) (by omega), -List.map_map]) (by simp [getS (w := w) hi, -List.map_map])
   have et := getT (ts := ts) (i := j) (by omega)
   rw [e_2, em]
   simp [et])
  rw [this, Wo.om]
  congr 1
  unfold aX
  rw [List.map_map, List.map_map]
  exact List.map_congr_left fun j _ => by simp
 simp [dO, mm, k1, k2, e, hl, -List.map_map]
end
theorem wm {p : Pat} {g : ao -> M Flo} (P : Nat -> ao -> Prop) (R : Dat -> Prop) : ∀ (ds : List Dat) (k : Nat) (ρ : ao), P k ρ ->
  (∀ (i : Nat) (d : Dat) (ρ : ao), ds[i]? = some d -> P (k + i) ρ -> ∃ ρ1, fj p d ρ = .ok ρ1 /\ ((∃ ρ2, g ρ1 = .ok (.nx ρ2) /\ P (k + i + 1) ρ2) \/ (∃ r, g ρ1 = .ok (.rt r) /\ R r))) ->
  (∃ ρ', j8 p g ds ρ = .ok (.nx ρ') /\ P (k + ds.length) ρ') \/ (∃ r, j8 p g ds ρ = .ok (.rt r) /\ R r)
 | [], k, ρ, h, _ => .inl ⟨ρ, rfl, h⟩
 | d :: ds, k, ρ, h, st => by
  obtain ⟨ρ1, e1, h1⟩ := st 0 d ρ rfl h
  rcases h1 with ⟨ρ2, e2, h2⟩ | ⟨r, e2, hr⟩
  ·have ih := wm P R ds (k + 1) ρ2 h2 fun i d' ρ he hp => by
    show 'ւ'
    rw [show k + (i + 1) = k + 1 + i by omega] at this
    exact this
   have e : j8 p g (d :: ds) ρ = j8 p g ds ρ2 := by rw [j8, e1]; simp only [ax, e2]
   rcases ih with ⟨ρ', e3, h3⟩ | ⟨r, e3, hr⟩
   ·exact .inl ⟨ρ', by rw [e]; exact e3, by rw [show k + (d :: ds).length = k + 1 + ds.length by simp; omega]; exact h3⟩
   ·exact .inr ⟨r, by rw [e]; exact e3, hr⟩
  ·exact .inr ⟨r, by rw [j8, e1]; simp only [ax, e2], hr⟩
theorem zB {p : Pat} {ft : ao -> M Bool} {fe : ao -> M Dat} {ρ0 : ao} (b : Nat -> Bool) (f : Nat -> Dat) (m : Nat) (h : ∀ j, j < m -> ∃ ρ, fj p (.int j) ρ0 = .ok ρ /\ ft ρ = .ok (b j) /\ (b j = true -> fe ρ = .ok (f j))) : bM p ft fe ρ0 (aX 0 m) = .ok (((List.range m).filter b).map f) := by
 have key : ∀ ks : List Nat, (∀ j ∈ ks, j < m) -> bM p ft fe ρ0 (ks.map fun j : Nat => Dat.int (j : Int)) = .ok ((ks.filter b).map f) := by
  intro ks
  induction ks with
  | nil => intro _; rfl
  | cons j ks ih =>
   intro hk
   obtain ⟨ρ, e1, e2, e3⟩ := h j (hk j (by simp))
   have ih := ih fun x hx => hk x (by simp [hx])
   rw [List.map_cons, bM, e1, ax, e2, ax]
   by_cases hb : b j = true
   ·rw [if_pos hb, e3 hb, ax, ih, ax, List.filter_cons_of_pos hb]
    rfl
   ·rw [if_neg hb, ih, List.filter_cons_of_neg hb]
 have := key (List.range m) fun j hj => List.mem_range.mp hj
 rw [<- this]
 unfold aX
 congr 1
 exact List.map_congr_left fun j _ => by simp
section
variable (CR CP CN CQ : Addr)
theorem getC {cs : List fx} {i : Nat} (h : i < cs.length) : iY (cs.map stD) (i : Int) = .ok (.tup [.int (qAt cs i).1, .int (qAt cs i).2]) := getQ h
end
noncomputable def Wo.low (w : Wo) (ts : List Int) (i j : Nat) : Int := (List.range j).foldl (fun t l => kO t (tAt ts l + w.ap l i)) (w.f i).first
theorem maxZ_le (a b : Int) : a <= kO a b /\ b <= kO a b /\ (kO a b = a \/ kO a b = b) := by unfold kO; split <;> omega
theorem Wo.oi (w : Wo) (ts : List Int) (i j : Nat) : w.low ts i (j + 1) = kO (w.low ts i j) (tAt ts j + w.ap j i) := by
 unfold Wo.low
 rw [List.range_succ, List.foldl_append]
 rfl
theorem Wo.l5 (w : Wo) {ts us : List Int} (i : Nat) : ∀ j, (∀ l, l < j -> tAt ts l = tAt us l) -> w.low ts i j = w.low us i j
 | 0, _ => rfl
 | j + 1, h => by rw [w.oi, w.oi, w.l5 i j fun l hl => h l (by omega), h j (by omega)]
noncomputable def Wo.e8 (w : Wo) (ts : List Int) (i : Nat) : Prop := iO w.cs (w.low ts i i) (tAt ts i) /\ tAt ts i <= (w.f i).last
noncomputable def Wo.qi (w : Wo) (ts : List Int) : Prop := ts.length = w.qs.length /\ ∀ i, i < w.qs.length -> w.e8 ts i
theorem uO {ts us : List Int} {i : Nat} (h : i < ts.length) : tAt (ts ++ us) i = tAt ts i := by
 unfold tAt
 rw [List.getD_eq_getElem?_getD, List.getD_eq_getElem?_getD, List.getElem?_append_left h]
theorem tAt_new (ts us : List Int) (t : Int) : tAt (ts ++ t :: us) ts.length = t := by
 unfold tAt
 rw [List.getD_eq_getElem?_getD, List.getElem?_append_right (Nat.le_refl _)]
 simp
theorem Wo.e8.app {w : Wo} {ts us : List Int} {i : Nat} (h : w.e8 ts i) (hi : i < ts.length) : w.e8 (ts ++ us) i := by
 unfold Wo.e8 at *
 rw [uO hi, w.l5 (us := ts) i i fun l hl => uO (by omega)]
 exact h
section
variable (CR CP CN CQ : Addr)
theorem low_loop (n : Nat) {w : Wo} (hw : w.Good) (ts : List Int) (i : Nat) (hi : i < w.qs.length) (ht : ts.length = i) (z8 : Option Dat) : ∃ y8, j8 (.nm 8) (fY CR CP CN CQ n) (aX 0 i) [some w.ruD, some (.lst (w.fl.map flD)), some (.lst (w.cs.map stD)), some (.lst (w.qs.map stD)), some (.lst (ts.map .int)), some (.int i), some (flD (w.f i)), some (.int (w.f i).first), z8] = .ok (.nx [some w.ruD, some (.lst (w.fl.map flD)), some (.lst (w.cs.map stD)), some (.lst (w.qs.map stD)), some (.lst (ts.map .int)), some (.int i), some (flD (w.f i)), some (.int (w.low ts i i)), y8]) := by
 obtain ⟨ρ', e, y8, rfl⟩ := gK (p := .nm 8) (g := fY CR CP CN CQ n)
  (fun j ρ => ∃ (z8 : Option Dat), ρ = [some w.ruD, some (.lst (w.fl.map flD)), some (.lst (w.cs.map stD)), some (.lst (w.qs.map stD)), some (.lst (ts.map .int)), some (.int i), some (flD (w.f i)), some (.int (w.low ts i j)), z8]) (aX 0 i) 0 _ ⟨z8, rfl⟩ (by
  rintro j d ρ hd ⟨z8, rfl⟩
  obtain ⟨hj, rfl⟩ := fF hd
  have ea := wL CR CP CN CQ n hw (j := j) (i := i) (by omega) hi
  have etj := getT (ts := ts) (i := j) (by omega)
  have eqj := getQ (qs := w.qs) (i := j) (by omega)
  have eqi := getQ (qs := w.qs) (i := i) (by omega)
  refine ⟨_, by simp <;> rfl, [some w.ruD, some (.lst (w.fl.map flD)), some (.lst (w.cs.map stD)), some (.lst (w.qs.map stD)), some (.lst (ts.map .int)), some (.int i), some (flD (w.f i)), some (.int (w.low ts i (0 + j + 1))), some (.int j)], .inl ?_, _, rfl⟩
  rw [w.oi, Nat.zero_add]
  simp [fY, ea, etj, eqj, eqi])
 rw [Nat.zero_add, eB] at e
 exact ⟨y8, e⟩
theorem least_ok (n : Nat) (hn : 64 <= n) {w : Wo} (hw : w.Good) : (∃ ts, w.qi ts /\ cQ CR CP CN CQ n [w.ruD, .lst (w.fl.map flD), .lst (w.cs.map stD), .lst (w.qs.map stD)] = .ok (.lst (ts.map .int))) \/ (∃ (i : Nat) (ts : List Int) (t : Int), i < w.qs.length /\ ts.length = i /\ (∀ j, j < i -> w.e8 ts j) /\ iO w.cs (w.low ts i i) t /\ (w.f i).last < t /\ cQ CR CP CN CQ n [w.ruD, .lst (w.fl.map flD), .lst (w.cs.map stD), .lst (w.qs.map stD)] = .ok (.tup [.int (qAt w.qs i).1, .int t])) := by
 show 'Օ'
 have hc := hw.csl
 have k1 : -4611686018427387904 <= (w.qs.length : Int) := by omega
 have k2 : (w.qs.length : Int) < 4611686018427387904 := by omega
 rcases wm (p := .nm 5) (g := fX CR CP CN CQ n)
  (fun i ρ => ∃ (ts : List Int) (z5 z6 z7 z8 : Option Dat), ρ = [some w.ruD, some (.lst (w.fl.map flD)), some (.lst (w.cs.map stD)), some (.lst (w.qs.map stD)), some (.lst (ts.map .int)), z5, z6, z7, z8] /\ ts.length = i /\ ∀ j, j < i -> w.e8 ts j) (fun r => ∃ (i : Nat) (ts : List Int) (t : Int), i < w.qs.length /\ ts.length = i /\ (∀ j, j < i -> w.e8 ts j) /\ iO w.cs (w.low ts i i) t /\ (w.f i).last < t /\ r = .tup [.int (qAt w.qs i).1, .int t]) (aX 0 w.qs.length) 0 [some w.ruD, some (.lst (w.fl.map flD)), some (.lst (w.cs.map stD)), some (.lst (w.qs.map stD)), some (.lst []), none, none, none, none] ⟨[], none, none, none, none, rfl, rfl, by simp⟩ (by
  rintro i d ρ hd ⟨ts, z5, z6, z7, z8, rfl, ht, hle⟩
  obtain ⟨hi, rfl⟩ := fF hd
  rw [Nat.zero_add] at ht hle
  refine ⟨[some w.ruD, some (.lst (w.fl.map flD)), some (.lst (w.cs.map stD)), some (.lst (w.qs.map stD)), some (.lst (ts.map .int)), some (.int i), z6, z7, z8], by simp, ?_⟩
  have eq := getC hi
  obtain ⟨ef, gf⟩ := hw.fAt hi
  obtain ⟨y8, el⟩ := low_loop CR CP CN CQ n hw ts i hi ht z8
  obtain ⟨u, hu, eo⟩ := from_ok CR CP CN CQ n w.cs (w.low ts i i) (by omega) hn
  have j1 : -4611686018427387904 <= (i : Int) := by omega
  have j2 : (i : Int) < 4611686018427387904 := by omega
  have hl : ts.length < 16777216 := by omega
  by_cases hlt : (w.f i).last < u
  ·refine .inr ⟨.tup [.int (qAt w.qs i).1, .int u], ?_, i, ts, u, hi, ht, hle, hu, hlt, rfl⟩
   simp only [flD] at ef el
   simp [fX, j5, eq, ef, j1, j2, el, eo, hlt]
  ·refine .inl ⟨[some w.ruD, some (.lst (w.fl.map flD)), some (.lst (w.cs.map stD)), some (.lst (w.qs.map stD)), some (.lst ((ts ++ [u]).map .int)), some (.int i), some (flD (w.f i)), some (.int u), y8], ?_, ts ++ [u], _, _, _, _, rfl, by simp; omega, fun j hj => ?_⟩
   ·simp only [flD] at ef el ⊢
    simp [fX, j5, eq, ef, j1, j2, el, eo, hlt, hl]
   ·by_cases hji : j = i
    ·subst hji
     unfold Wo.e8
     rw [w.l5 (us := ts) j j fun l hl => uO (by omega)]
     have := tAt_new ts [] u
     rw [ht] at this
     rw [this]
     exact ⟨hu, by omega⟩
    ·exact (hle j (by omega)).app (by omega)) with ⟨ρ', e, ts, z5, z6, z7, z8, rfl, h1, h2⟩ | ⟨r, e, i, ts, t, h1, h2, h3, h4, h5, rfl⟩
 ·rw [Nat.zero_add, eB] at h1 h2
  exact .inl ⟨ts, ⟨h1, h2⟩, by simp [cQ, iB, k1, k2, e]⟩
 ·exact .inr ⟨i, ts, t, h1, h2, h3, h4, h5, by simp [cQ, iB, k1, k2, e]⟩
end
noncomputable def qY (js : List fx) : Prop := js.Pairwise (fun p q => p.2 < q.1) /\ ∀ p ∈ js, p.1 < p.2
theorem wb (n : Nat) : ixN (n + 1) (-1) = some n := by unfold ixN; simp <;> omega
@[simp] theorem tU (ds : List Dat) (d : Dat) : iY (ds ++ [d]) (-1) = .ok d := by
 unfold iY atI
 rw [List.length_append, List.length_singleton, wb]
 simp
noncomputable def kB (js done : List fx) : Prop := qY js /\ (∀ t, Cov js t ↔ Cov done t) /\ js.length <= done.length /\ ∀ j ∈ js, ∃ d ∈ done, d.1 = j.1
theorem kB.new {js done : List fx} {p : fx} (h : kB js done) (hp : p.1 < p.2) (hlt : ∀ x ∈ js, x.2 < p.1) : kB (js ++ [p]) (done ++ [p]) := by
 obtain ⟨⟨h1, h2⟩, h3, h4, h5⟩ := h
 refine ⟨⟨?_, ?_⟩, ?_, by simp; exact h4, ?_⟩
 ·rw [List.pairwise_append]
  exact ⟨h1, by simp, fun a ha b hb => by simp at hb; subst hb; exact hlt a ha⟩
 ·intro x hx
  rcases List.mem_append.mp hx with e | e
  ·exact h2 x e
  ·simp at e; subst e; exact hp
 ·intro t; rw [jE, jE, h3]
 ·intro j hj
  rcases List.mem_append.mp hj with e | e
  ·obtain ⟨d, m, z⟩ := h5 j e; exact ⟨d, by simp [m], z⟩
  ·simp at e; subst e; exact ⟨j, by simp, rfl⟩
theorem kB.more {js0 done : List fx} {q p : fx} (h : kB (js0 ++ [q]) done) (hp : p.1 < p.2) (h1 : q.1 <= p.1) (h2 : p.1 <= q.2) : kB (js0 ++ [(q.1, kO p.2 q.2)]) (done ++ [p]) := by
 obtain ⟨⟨a1, a2⟩, a3, a4, a5⟩ := h
 have hq : q.1 < q.2 := a2 q (by simp)
 have hm1 : p.2 <= kO p.2 q.2 := by unfold kO; split <;> omega
 have hm2 : q.2 <= kO p.2 q.2 := by unfold kO; split <;> omega
 have hm3 : kO p.2 q.2 = p.2 \/ kO p.2 q.2 = q.2 := by unfold kO; split <;> omega
 rw [List.pairwise_append] at a1
 refine ⟨⟨?_, ?_⟩, ?_, by simp at a4 ⊢; omega, ?_⟩
 ·rw [List.pairwise_append]
  exact ⟨a1.1, by simp, fun a ha b hb => by simp at hb; subst hb; exact a1.2.2 a ha q (by simp)⟩
 ·intro x hx
  rcases List.mem_append.mp hx with e | e
  ·exact a2 x (by simp [e])
  ·simp at e; subst e; show q.1 < kO p.2 q.2; omega
 ·intro t
  have := a3 t
  rw [jE, vl] at this
  rw [jE, jE, <- this, vl, vl]
  show Cov js0 t \/ q.1 <= t /\ t < kO p.2 q.2 ↔ _
  constructor
  ·rintro (z | z)
   ·exact .inl (.inl z)
   ·by_cases e : t < q.2
    ·exact .inl (.inr ⟨z.1, e⟩)
    ·exact .inr (by omega)
  ·rintro ((z | z) | z)
   ·exact .inl z
   ·exact .inr (by omega)
   ·exact .inr (by omega)
 ·intro j hj
  rcases List.mem_append.mp hj with e | e
  ·obtain ⟨d, m, z⟩ := a5 j (by simp [e]); exact ⟨d, by simp [m], z⟩
  ·simp at e; subst e
   obtain ⟨d, m, z⟩ := a5 q (by simp)
   exact ⟨d, by simp [m], z⟩
theorem tW {g : ao -> M Flo} {c : Option Dat} {t : Int} (r : fx -> Dat) (hg : ∀ p : fx, g [c, some (.int t), some (.int p.1), some (.int p.2)] = if p.1 <= t /\ t < p.2 then .ok (.rt (r p)) else .ok (.nx [c, some (.int t), some (.int p.1), some (.int p.2)])) :
  ∀ (js : List fx) (z1 z2 : Option Dat), (∃ p ∈ js, (p.1 <= t /\ t < p.2) /\ j8 (.tp [2, 3]) g (js.map stD) [c, some (.int t), z1, z2] = .ok (.rt (r p))) \/ (¬ Cov js t /\ ∃ z1' z2', j8 (.tp [2, 3]) g (js.map stD) [c, some (.int t), z1, z2] = .ok (.nx [c, some (.int t), z1', z2']))
 | [], z1, z2 => .inr ⟨vm t, z1, z2, rfl⟩
 | p :: js, z1, z2 => by
  have hb : fj (.tp [2, 3]) (stD p) [c, some (.int t), z1, z2] = .ok [c, some (.int t), some (.int p.1), some (.int p.2)] := by simp [stD]
  by_cases h : p.1 <= t /\ t < p.2
  ·refine .inl ⟨p, by simp, h, ?_⟩
   rw [List.map_cons, j8, hb, ax, hg, if_pos h]
   rfl
  ·have e : j8 (.tp [2, 3]) g ((p :: js).map stD) [c, some (.int t), z1, z2] = j8 (.tp [2, 3]) g (js.map stD) [c, some (.int t), some (.int p.1), some (.int p.2)] := by
    rw [List.map_cons, j8, hb, ax, hg, if_neg h]
    rfl
   rcases tW r hg js (some (.int p.1)) (some (.int p.2)) with ⟨q, hq, h2, h3⟩ | ⟨h2, h3⟩
   ·exact .inl ⟨q, by simp [hq], h2, by rw [e]; exact h3⟩
   ·refine .inr ⟨fun z => ?_, by rw [e]; exact h3⟩
    rcases sA.mp z with z | z
    ·exact h z
    ·exact h2 z
theorem qY.tri : ∀ {js : List fx}, qY js -> ∀ p ∈ js, ∀ q ∈ js, p = q \/ p.2 < q.1 \/ q.2 < p.1
 | [], _, p, hp, _, _ => by simp at hp
 | a :: js, ⟨h1, h2⟩, p, hp, q, hq => by
  rw [List.pairwise_cons] at h1
  rcases List.mem_cons.mp hp with e | e <;> rcases List.mem_cons.mp hq with e2 | e2
  ·exact .inl (e.trans e2.symm)
  ·subst e; exact .inr (.inl (h1.1 q e2))
  ·subst e2; exact .inr (.inr (h1.1 p e))
  ·exact qY.tri (js := js) ⟨h1.2, fun x hx => h2 x (by simp [hx])⟩ p e q e2
section
variable (CR CP CN CQ : Addr)
theorem yP (n : Nat) (cs : List fx) (hl : cs.length < 64) (hs : ∀ p ∈ cs, p.1 < p.2) : ∃ js : List fx, bE CR CP CN CQ n [.lst (cs.map stD)] = .ok (.lst (js.map stD)) /\ qY js /\ (∀ t, Cov js t ↔ Cov cs t) /\ js.length <= cs.length := by
 obtain ⟨ss, e, hp, hw⟩ := t8 cs hl
 have hlen : ss.length = cs.length := hp.length_eq
 have key := gK (p := .tp [2, 3]) (g := bh CR CP CN CQ n)
  (fun k ρ => ∃ js z1 z2, ρ = [some (.lst (cs.map stD)), some (.lst (js.map stD)), z1, z2] /\ kB js (ss.take k)) (ss.map stD) 0 [some (.lst (cs.map stD)), some (.lst []), none, none] ⟨[], none, none, rfl, ⟨by simp [qY], fun t => Iff.rfl, by simp, by simp⟩⟩ (by
  rintro i d ρ hd ⟨js, z1, z2, rfl, hj⟩
  rw [List.getElem?_map] at hd
  obtain ⟨p, hpi, rfl⟩ := Option.map_eq_some_iff.mp hd
  obtain ⟨hi, hpe⟩ := List.getElem?_eq_some_iff.mp hpi
  have htk : ss.take (0 + i + 1) = ss.take (0 + i) ++ [p] := by rw [Nat.zero_add, List.take_succ, hpi]; rfl
  have hpp : p.1 < p.2 := hs p (hp.mem_iff.mp (List.mem_of_getElem? hpi))
  have hstart : ∀ j ∈ js, j.1 <= p.1 := fun j hjm => by
   obtain ⟨d, dm, de⟩ := hj.2.2.2 j hjm
   rw [Nat.zero_add] at dm
   obtain ⟨m, hm, hme⟩ := List.mem_take_iff_getElem.mp dm
   have := List.pairwise_iff_getElem.mp hw m i (by omega) hi (by omega)
   rw [hme, hpe] at this
   omega
  have hjl : js.length < 64 := by
   have := hj.2.2.1
   rw [List.length_take] at this
   omega
  refine ⟨_, by simp [stD]; rfl, ?_⟩
  rw [htk]
  rcases List.eq_nil_or_concat js with e0 | ⟨js0, q, e0⟩
  ·subst e0
   refine ⟨_, .inl (by simp [bh, bP]; rfl), [p], some (.int p.1), some (.int p.2), by simp [stD], by simpa using hj.new hpp (by simp)⟩
  ·rw [List.concat_eq_append] at e0
   subst e0
   by_cases hc : p.1 <= q.2
   ·refine ⟨_, .inl (by simp [bh, bP, stD, hc, il, p9, wb]; rfl), js0 ++ [(q.1, kO p.2 q.2)], some (.int p.1), some (.int p.2), ?_, hj.more hpp (hstart q (by simp)) hc⟩
    simp [stD]
   ·have hlt : ∀ x ∈ js0 ++ [q], x.2 < p.1 := fun x hx => by
     rcases List.mem_append.mp hx with e | e
     ·have h1 := (List.pairwise_append.mp hj.1.1).2.2 x e q (by simp)
      have h2 := hj.1.2 q (by simp)
      omega
     ·simp at e; subst e; omega
    simp at hjl
    have hjl2 : js0.length + 1 < 16777216 := by omega
    refine ⟨_, .inl (by simp [bh, bP, stD, hc, hjl2]; rfl), js0 ++ [q] ++ [p], some (.int p.1), some (.int p.2), by simp [stD], hj.new hpp hlt⟩)
 obtain ⟨ρ', e2, js, z1, z2, rfl, hj⟩ := key
 refine ⟨js, ?_, hj.1, fun t => ?_, ?_⟩
 ·simp [bE, eT, e, e2]
 ·rw [hj.2.1 t, Nat.zero_add, List.length_map, List.take_length]
  exact cov_perm hp
 ·have := hj.2.2.1
  rw [List.length_take, List.length_map] at this
  omega
theorem next_ok (n : Nat) (cs : List fx) (t : Int) (hl : cs.length < 64) (hs : ∀ p ∈ cs, p.1 < p.2) : ∃ u, fH CR CP CN CQ n [.lst (cs.map stD), .int t] = .ok (.int u) /\ iO cs t u := by
 obtain ⟨js, e, hj, hc, _⟩ := yP CR CP CN CQ n cs hl hs
 rcases tW (g := kq CR CP CN CQ n) (c := some (.lst (cs.map stD))) (t := t) (fun p => .int p.2) (fun p => by by_cases h1 : p.1 <= t <;> by_cases h2 : t < p.2 <;> simp [kq, mU, h1, h2]) js none none with ⟨p, hp, h, e2⟩ | ⟨h, z1, z2, e2⟩
 ·refine ⟨p.2, by simp [fH, k8, e, e2], by omega, fun z => ?_, fun v h1 h2 => (hc v).mp ⟨p, hp, by omega, h2⟩⟩
  obtain ⟨q, hq, h3⟩ := (hc _).mpr z
  rcases hj.tri p hp q hq with e | e | e
  ·subst e; omega
  ·omega
  ·have := hj.2 p hp; omega
 ·exact ⟨t, by simp [fH, k8, e, e2], Int.le_refl _, fun z => h ((hc t).mpr z), fun v h1 h2 => by omega⟩
end
theorem Wo.low_gapL (w : Wo) (ts : List Int) (i : Nat) : (w.om ts i).foldl kO (w.f i).first = w.low ts i i := by
 unfold Wo.om Wo.low
 rw [List.foldl_map]
theorem vS {ts : List Int} {m i : Nat} (h : i < m) : tAt (ts.take m) i = tAt ts i := by
 unfold tAt
 rw [List.getD_eq_getElem?_getD, List.getD_eq_getElem?_getD, List.getElem?_take_of_lt h]
theorem sZ {ts : List Int} {i : Nat} (h : i < ts.length) : ts.take (i + 1) = ts.take i ++ [tAt ts i] := by
 rw [List.take_add_one, List.getElem?_eq_getElem h]
 simp [tAt, h]
theorem wo {p : Pat} {g : ao -> M Flo} (x : Err) (P : Nat -> ao -> Prop) : ∀ (ds : List Dat) (k m : Nat) (ρ : ao), P k ρ -> m < ds.length ->
  (∀ (i : Nat) (d : Dat) (ρ : ao), i < m -> ds[i]? = some d -> P (k + i) ρ -> ∃ ρ1, fj p d ρ = .ok ρ1 /\ ∃ ρ2, g ρ1 = .ok (.nx ρ2) /\ P (k + i + 1) ρ2) ->
  (∀ (d : Dat) (ρ : ao), ds[m]? = some d -> P (k + m) ρ -> ∃ ρ1, fj p d ρ = .ok ρ1 /\ g ρ1 = .error x) -> j8 p g ds ρ = .error x
 | [], _, _, _, _, h, _, _ => by simp at h
 | d :: ds, k, 0, ρ, h, _, _, er => by
  obtain ⟨ρ1, e1, e2⟩ := er d ρ rfl h
  rw [j8, e1, ax, e2]
  rfl
 | d :: ds, k, m + 1, ρ, h, hm, st, er => by
  obtain ⟨ρ1, e1, ρ2, e2, h2⟩ := st 0 d ρ (by omega) rfl h
  have ih := wo (p := p) (g := g) x P ds (k + 1) m ρ2 h2 (by simpa using hm) (fun i d' ρ hi he hp => by
   have := st (i + 1) d' ρ (by omega) (by simpa using he) (by rw [show k + (i + 1) = k + 1 + i by omega]; exact hp)
   rw [show k + (i + 1) + 1 = k + 1 + i + 1 by omega] at this
   exact this) (fun d' ρ he hp => er d' ρ (by simpa using he) (by rw [show k + (m + 1) = k + 1 + m by omega]; exact hp))
  rw [j8, e1, ax, e2]
  exact ih
section
variable (CR CP CN CQ : Addr)
theorem nq (n : Nat) (hne : CR ≠ CP) {w : Wo} (hw : w.Good) (tk : List Int) {i : Nat} (hi : i < w.qs.length) (htk : tk.length = i) {u : Int} (hu : iO w.cs (w.low tk i i) u) (z8 z9 : Option Dat) :
  eE CR CP CN CQ n [some (aW CR CP w.rows w.o), some (.lst (w.fl.map flD)), some (.lst (w.cs.map stD)), some (.lst (w.qs.map stD)), some (.lst ((w.qs.map (mC w.fl)).map stD)), some (.lst (tk.map .int)), some (.int i), some (.tup [.int (qAt w.qs i).1, .int (qAt w.qs i).2]), z8, z9] =
   if (w.f i).last < u then .error (.exc CN [("flight", .int (qAt w.qs i).1), ("time", .int u)]) else .ok (.nx [some (aW CR CP w.rows w.o), some (.lst (w.fl.map flD)), some (.lst (w.cs.map stD)), some (.lst (w.qs.map stD)), some (.lst ((w.qs.map (mC w.fl)).map stD)), some (.lst ((tk ++ [u]).map .int)), some (.int i), some (.tup [.int (qAt w.qs i).1, .int (qAt w.qs i).2]), some (flD (w.f i)), some (.int u)]) := by
 show 'Օ'
 have hc := hw.csl
 obtain ⟨ef, gf⟩ := hw.fAt hi
 have eg := gap_ok CR CP CN CQ n hne hw tk hi (by omega)
 have hgl : (w.om tk i).length = i := by simp [Wo.om]
 have eM : maxD [.lst (.int (w.f i).first :: (w.om tk i).map .int)] = .ok (.int (w.low tk i i)) := by
  show (cR (((w.f i).first :: w.om tk i).map .int)).bind maxL = _
  rw [lg, ax, maxL, w.low_gapL]
 obtain ⟨u', eu, hu'⟩ := next_ok CR CP CN CQ n w.cs (w.low tk i i) (by omega) hw.cs
 have hut := hu'.uniq hu
 subst hut
 have c1 : 1 + i <= 16777216 := by omega
 have c2 : i < 16777216 := by omega
 by_cases hlt : (w.f i).last < u'
 ·rw [if_pos hlt]
  simp only [flD] at ef ⊢
  simp [eE, lJ, ef, eg, hgl, lW, c1, eM, eu, hlt, htk, c2, -e_maxL, -List.map_map]
 ·rw [if_neg hlt]
  simp only [flD] at ef ⊢
  simp [eE, lJ, ef, eg, hgl, lW, c1, eM, eu, hlt, htk, c2, -e_maxL, -List.map_map]
theorem vk {qs : List fx} {i : Nat} {d : Dat} (hd : (j3 0 (qs.map stD))[i]? = some d) : i < qs.length /\ d = .tup [.int i, .tup [.int (qAt qs i).1, .int (qAt qs i).2]] := by
 obtain ⟨e, h1, rfl⟩ := jC _ _ _ _ hd
 have hi : i < qs.length := by simpa using (List.getElem?_eq_some_iff.mp h1).1
 refine ⟨hi, ?_⟩
 rw [List.getElem?_map, List.getElem?_eq_getElem hi] at h1
 simp at h1
 rw [<- h1]; simp [qAt, hi, stD]
theorem vP (n : Nat) (hne : CR ≠ CP) {w : Wo} (hw : w.Good) {ts : List Int} (hl : w.qi ts) : d8 CR CP CN CQ n [aW CR CP w.rows w.o, .lst (w.fl.map flD), .lst (w.cs.map stD), .lst (w.qs.map stD)] = .ok (.lst (ts.map .int)) := by
 show 'Օ'
 have es := rq CR CP CN CQ n hw
 have htl := hl.1
 obtain ⟨ρ', e, z6, z7, z8, z9, rfl⟩ := gK (p := .tp [6, 7]) (g := eE CR CP CN CQ n)
  (fun i ρ => ∃ (z6 z7 z8 z9 : Option Dat), ρ = [some (aW CR CP w.rows w.o), some (.lst (w.fl.map flD)), some (.lst (w.cs.map stD)), some (.lst (w.qs.map stD)), some (.lst ((w.qs.map (mC w.fl)).map stD)), some (.lst ((ts.take i).map .int)), z6, z7, z8, z9]) (j3 0 (w.qs.map stD)) 0 [some (aW CR CP w.rows w.o), some (.lst (w.fl.map flD)), some (.lst (w.cs.map stD)), some (.lst (w.qs.map stD)), some (.lst ((w.qs.map (mC w.fl)).map stD)), some (.lst []), none, none, none, none] ⟨none, none, none, none, rfl⟩ (by
  rintro i d ρ hd ⟨z6, z7, z8, z9, rfl⟩
  obtain ⟨hi, rfl⟩ := vk hd
  obtain ⟨hn, hlast⟩ := hl.2 i hi
  have e := nq CR CP CN CQ n hne hw (ts.take i) hi (by rw [List.length_take]; omega) (u := tAt ts i) (by rw [w.l5 (us := ts) i i fun l hl => vS hl]; exact hn) z8 z9
  rw [if_neg (by omega)] at e
  rw [Nat.zero_add, sZ (by omega)]
  exact ⟨_, by simp <;> rfl, _, .inl e, _, _, _, _, rfl⟩)
 rw [Nat.zero_add, f9, List.length_map, <- htl, List.take_length] at e
 simp [d8, lP, es, e, -List.map_map]
theorem xV (n : Nat) (hne : CR ≠ CP) {w : Wo} (hw : w.Good) {ts : List Int} {i : Nat} {t : Int} (hi : i < w.qs.length) (ht : ts.length = i) (hle : ∀ j, j < i -> w.e8 ts j) (hn : iO w.cs (w.low ts i i) t) (hlt : (w.f i).last < t) :
  d8 CR CP CN CQ n [aW CR CP w.rows w.o, .lst (w.fl.map flD), .lst (w.cs.map stD), .lst (w.qs.map stD)] = .error (.exc CN [("flight", .int (qAt w.qs i).1), ("time", .int t)]) := by
 show 'Օ'
 have es := rq CR CP CN CQ n hw
 have e := wo (p := .tp [6, 7]) (g := eE CR CP CN CQ n) (.exc CN [("flight", .int (qAt w.qs i).1), ("time", .int t)])
  (fun i ρ => ∃ (z6 z7 z8 z9 : Option Dat), ρ = [some (aW CR CP w.rows w.o), some (.lst (w.fl.map flD)), some (.lst (w.cs.map stD)), some (.lst (w.qs.map stD)), some (.lst ((w.qs.map (mC w.fl)).map stD)), some (.lst ((ts.take i).map .int)), z6, z7, z8, z9]) (j3 0 (w.qs.map stD)) 0 i [some (aW CR CP w.rows w.o), some (.lst (w.fl.map flD)), some (.lst (w.cs.map stD)), some (.lst (w.qs.map stD)), some (.lst ((w.qs.map (mC w.fl)).map stD)), some (.lst []), none, none, none, none] ⟨none, none, none, none, rfl⟩ (by rw [f9, List.length_map]; exact hi) (by
  rintro j d ρ hj hd ⟨z6, z7, z8, z9, rfl⟩
  obtain ⟨hjq, rfl⟩ := vk hd
  obtain ⟨hn, hlast⟩ := hle j hj
  have e := nq CR CP CN CQ n hne hw (ts.take j) hjq (by rw [List.length_take]; omega) (u := tAt ts j) (by rw [w.l5 (us := ts) j j fun l hl => vS hl]; exact hn) z8 z9
  rw [if_neg (by omega)] at e
  rw [Nat.zero_add, sZ (by omega)]
  exact ⟨_, by simp <;> rfl, _, e, _, _, _, _, rfl⟩) (by
  rintro d ρ hd ⟨z6, z7, z8, z9, rfl⟩
  obtain ⟨_, rfl⟩ := vk hd
  have e := nq CR CP CN CQ n hne hw ts hi ht hn z8 z9
  rw [if_pos hlt] at e
  rw [Nat.zero_add, <- ht, List.take_length]
  rw [ht]
  exact ⟨_, by simp <;> rfl, e⟩)
 simp [d8, lP, es, e, -List.map_map]
end
theorem vc (n : Nat) : ∀ ts : List Int, hX (ts.map .int) (n + 1) = true
 | [] => by simp [hX]
 | p :: cs => by simp [hX, okE, vc n cs]
theorem Wo.low_in (w : Wo) (ts : List Int) (i : Nat) : ∀ j, w.low ts i j = (w.f i).first \/ ∃ l, l < j /\ w.low ts i j = tAt ts l + w.ap l i
 | 0 => .inl rfl
 | j + 1 => by
  rw [w.oi]
  obtain ⟨_, _, h⟩ := maxZ_le (w.low ts i j) (tAt ts j + w.ap j i)
  rcases h with h | h
  ·rw [h]
   rcases w.low_in ts i j with z | ⟨l, h1, h2⟩
   ·exact .inl z
   ·exact .inr ⟨l, by omega, h2⟩
  ·exact .inr ⟨j, by omega, h⟩
theorem iO.stop {cs : List fx} {t u : Int} (h : iO cs t u) (hne : t ≠ u) : ∃ p ∈ cs, p.2 = u := by
 obtain ⟨p, hp, h1, h2⟩ := h.2.2 (u - 1) (by have := h.1; omega) (by omega)
 refine ⟨p, hp, ?_⟩
 have : ¬ (p.1 <= u /\ u < p.2) := fun z => h.2.1 ⟨p, hp, z⟩
 omega
theorem wg {xs : List Int} {k : Int} (h : qD xs k = none) : k ∉ xs := fun hm => by
 have := List.findIdx?_eq_none_iff.mp h k hm
 simp at this
theorem we {xs : List Int} {k : Int} {j : Nat} (h : qD xs k = some j) : j < xs.length /\ tAt xs j = k /\ ∀ m, m < j -> tAt xs m ≠ k := by
 obtain ⟨h1, h2, h3⟩ := List.findIdx?_eq_some_iff_getElem.mp h
 refine ⟨h1, by simpa [tAt, h1] using h2, fun m hm e => ?_⟩
 have := h3 m hm
 simp [tAt, show m < xs.length by omega] at e this
 exact this e
theorem wj (w : Wo) (ts : List Int) (i : Nat) : (w.om ts i).length = i := by simp [Wo.om]
theorem ze (w : Wo) (ts : List Int) {i l : Nat} (h : l < i) : tAt (w.om ts i) l = tAt ts l + w.ap l i := by
 unfold tAt
 rw [List.getD_eq_getElem?_getD]
 simp [Wo.om, h, tAt]
noncomputable def bq (w : Wo) (ts : List Int) (i : Nat) : Dat := if tAt ts i = (w.f i).first then .tup [.str "first"] else match qD (w.om ts i) (tAt ts i) with
 | some j => .tup [.str "gap", .int j]
 | none => match qD (w.cs.map (·.2)) (tAt ts i) with
  | some j => .tup [.str "closed", .int j]
  | none => .non
theorem oJ {w : Wo} {ts : List Int} {i : Nat} (hl : w.e8 ts i) (h1 : tAt ts i ≠ (w.f i).first) (h2 : qD (w.om ts i) (tAt ts i) = none) : ∃ j, qD (w.cs.map (·.2)) (tAt ts i) = some j := by
 cases h : qD (w.cs.map (·.2)) (tAt ts i) with
 | some j => exact ⟨j, rfl⟩
 | none =>
  exfalso
  by_cases e : w.low ts i i = tAt ts i
  ·rcases w.low_in ts i i with z | ⟨l, h3, h4⟩
   ·exact h1 (by omega)
   ·refine wg h2 ?_
    have hg := ze w ts h3
    have hlen := wj w ts i
    have : tAt (w.om ts i) l ∈ w.om ts i := by
     unfold tAt
     rw [List.getD_eq_getElem?_getD, List.getElem?_eq_getElem (by omega)]
     exact List.getElem_mem _
    rw [hg] at this
    rw [<- e, h4]
    exact this
  ·obtain ⟨p, hp, hp2⟩ := hl.1.stop e
   exact wg h (by rw [<- hp2]; exact List.mem_map_of_mem hp)
theorem yg {w : Wo} {ts : List Int} {i : Nat} (hl : w.e8 ts i) : bq w ts i = .tup [.str "first"] \/ (∃ j : Nat, bq w ts i = .tup [.str "gap", .int j]) \/ ∃ j : Nat, bq w ts i = .tup [.str "closed", .int j] := by
 unfold bq
 by_cases h : tAt ts i = (w.f i).first
 ·rw [if_pos h]; exact .inl rfl
 ·rw [if_neg h]
  cases h2 : qD (w.om ts i) (tAt ts i) with
  | some j => exact .inr (.inl ⟨j, rfl⟩)
  | none =>
   obtain ⟨j, e⟩ := oJ hl h h2
   rw [e]
   exact .inr (.inr ⟨j, rfl⟩)
theorem in_ints (xs : List Int) (k : Int) : inM (.int k) (.lst (xs.map .int)) = .ok (.bl (qD xs k).isSome) := by
 have h : (okE (.int k) 40 && hX (xs.map .int) 40) = true := by simp [okE, vc]
 show (if (okE (.int k) 40 && hX (xs.map .int) 40) = true then _ else _) = _
 rw [if_pos h]
 congr 2
 unfold qD
 rw [List.findIdx?_isSome, List.any_map]
 congr 1
section
variable (CR CP CN CQ : Addr)
theorem push_ok (n : Nat) {w : Wo} (hw : w.Good) {ts : List Int} {i : Nat} (hi : i < w.qs.length) (hl : w.e8 ts i) : hZ CR CP CN CQ n [flD (w.f i), .lst (w.cs.map stD), .lst ((w.om ts i).map .int), .int (tAt ts i)] = .ok (bq w ts i) := by
 have hc := hw.csl
 have ei := in_ints (w.om ts i) (tAt ts i)
 unfold bq
 by_cases h : tAt ts i = (w.f i).first
 ·rw [if_pos h]
  simp [hZ, lx, kj, flD, h]
 ·rw [if_neg h]
  cases h2 : qD (w.om ts i) (tAt ts i) with
  | some j =>
   rw [h2] at ei
   simp [hZ, lx, kj, mw, flD, h, ei, isL, lg, h2]
  | none =>
   rw [h2] at ei
   obtain ⟨j, e⟩ := oJ hl h h2
   have ec : bM (.tp [0, 1]) pb (ah 1) [none, none] (w.cs.map stD) = .ok ((w.cs.map (·.2)).map .int) := by
    have := i8 (p := .tp [0, 1]) (fe := ah 1) (ρ0 := [none, none]) (fun d => match d with | .tup [_, x] => x | _ => .non) (w.cs.map stD) (fun d hd => by
     obtain ⟨p, _, rfl⟩ := List.mem_map.mp hd
     exact ⟨[some (.int p.1), some (.int p.2)], by simp [stD], by simp [stD]⟩)
    rw [this, List.map_map, List.map_map]
    rfl
   have s2 : w.cs.length <= 16777216 := by omega
   rw [e]
   simp [hZ, lx, kj, mw, flD, h, ei, isL, ec, lg, e, s2, -List.map_map]
theorem zh {w : Wo} {ts : List Int} {i : Nat} (hl : w.e8 ts i) : il (bq w ts i) = true := by
 rcases yg hl with h | ⟨j, h⟩ | ⟨j, h⟩ <;> rw [h] <;> simp [il, p9]
theorem tx (n : Nat) (hne : CR ≠ CP) {w : Wo} (hw : w.Good) {ts : List Int} (hl : w.qi ts) : bw CR CP CN CQ n [aW CR CP w.rows w.o, .lst (w.fl.map flD), .lst (w.cs.map stD), .lst (w.qs.map stD)] = .ok (.lst ((List.range w.qs.length).map (bq w ts))) := by
 show 'Օ'
 have es := rq CR CP CN CQ n hw
 have et := vP CR CP CN CQ n hne hw hl
 have htl := hl.1
 obtain ⟨ρ', e, z7, z8, z9, rfl⟩ := gK (p := .tp [7, 8]) (g := ko CR CP CN CQ n)
  (fun i ρ => ∃ (z7 z8 z9 : Option Dat), ρ = [some (aW CR CP w.rows w.o), some (.lst (w.fl.map flD)), some (.lst (w.cs.map stD)), some (.lst (w.qs.map stD)), some (.lst (ts.map .int)), some (.lst ((w.qs.map (mC w.fl)).map stD)), some (.lst ((List.range i).map (bq w ts))), z7, z8, z9]) (j3 0 (ts.map .int)) 0 [some (aW CR CP w.rows w.o), some (.lst (w.fl.map flD)), some (.lst (w.cs.map stD)), some (.lst (w.qs.map stD)), some (.lst (ts.map .int)), some (.lst ((w.qs.map (mC w.fl)).map stD)), some (.lst []), none, none, none] ⟨none, none, none, rfl⟩ (by
  rintro i d ρ hd ⟨z7, z8, z9, rfl⟩
  obtain ⟨e, h1, rfl⟩ := jC _ _ _ _ hd
  have hi : i < ts.length := by simpa using (List.getElem?_eq_some_iff.mp h1).1
  have he : e = .int (tAt ts i) := by
   rw [List.getElem?_map, List.getElem?_eq_getElem hi] at h1
   simp at h1
   rw [<- h1]; simp [tAt, hi]
  subst he
  rw [Nat.zero_add]
  have hiq : i < w.qs.length := by omega
  obtain ⟨ef, gf⟩ := hw.fAt hiq
  have eq := getC hiq
  have eg := gap_ok CR CP CN CQ n hne hw ts hiq (by omega)
  have ep := push_ok CR CP CN CQ n hw hiq (hl.2 i hiq)
  have hfl := zh (hl.2 i hiq)
  have hsz : ((List.range i).map (bq w ts)).length < 16777216 := by simp; omega
  rw [List.range_succ, List.map_append]
  generalize (List.range i).map (bq w ts) = acc at hsz ⊢
  refine ⟨[some (aW CR CP w.rows w.o), some (.lst (w.fl.map flD)), some (.lst (w.cs.map stD)), some (.lst (w.qs.map stD)), some (.lst (ts.map .int)), some (.lst ((w.qs.map (mC w.fl)).map stD)), some (.lst acc), some (.int i), some (.int (tAt ts i)), z9], by simp, [some (aW CR CP w.rows w.o), some (.lst (w.fl.map flD)), some (.lst (w.cs.map stD)), some (.lst (w.qs.map stD)), some (.lst (ts.map .int)), some (.lst ((w.qs.map (mC w.fl)).map stD)), some (.lst (acc ++ [bq w ts i])), some (.int i), some (.int (tAt ts i)), some (.lst ((w.om ts i).map .int))], .inl ?_, _, _, _, rfl⟩
  simp [ko, eg, eq, ef, ep, hsz, hfl, -List.map_map])
 rw [Nat.zero_add, f9, List.length_map, htl] at e
 simp [bw, k7, et, es, e, -List.map_map]
theorem x9 (n : Nat) (hne : CR ≠ CP) {w : Wo} (hw : w.Good) {ts : List Int} {i : Nat} {t : Int} (hi : i < w.qs.length) (ht : ts.length = i) (hle : ∀ j, j < i -> w.e8 ts j) (hn : iO w.cs (w.low ts i i) t) (hlt : (w.f i).last < t) :
  bw CR CP CN CQ n [aW CR CP w.rows w.o, .lst (w.fl.map flD), .lst (w.cs.map stD), .lst (w.qs.map stD)] = .error (.exc CN [("flight", .int (qAt w.qs i).1), ("time", .int t)]) := by
 have et := xV CR CP CN CQ n hne hw hi ht hle hn hlt
 simp [bw, k7, et]
end
section
variable (CR CP CN CQ : Addr)
theorem whole_ok (n : Nat) (x : Int) : eC CR CP CN CQ n [.int x] = .ok (.bl true) := by simp [eC, lA]
end
section
variable (CR CP CN CQ : Addr)
theorem world_ok (n : Nat) (hn : 64 <= n) (ns : List Int) (most : Nat) (hm : most <= 40) : ∃ (s : Int) (w : Wo), w.Good /\ 1 <= s /\ s <= 100000 /\ w.fl.length <= most /\ bF CR CP CN CQ n [.lst (ns.map .int)] = .ok (.int s) /\ bx CR CP CN CQ n [.lst (ns.map .int), .int s] = .ok w.ruD /\ dP CR CP CN CQ n [w.ruD] = .ok (aW CR CP w.rows w.o) /\ cz CR CP CN CQ n [.lst (ns.map .int), w.ruD, .int most, .int s] = .ok (.lst (w.fl.map flD)) /\ d9 CR CP CN CQ n [.lst (ns.map .int), .int s] = .ok (.lst (w.cs.map stD)) /\ fJ CR CP CN CQ n [.lst (ns.map .int), w.ruD, .lst (w.fl.map flD)] = .ok (.lst (w.qs.map stD)) /\ (∀ p ∈ w.cs, 0 <= p.1) /\ (w.qs.map (·.1)).Perm ((List.range w.fl.length).map fun k : Nat => (k : Int)) := by
 obtain ⟨s, es, hs0, hs1⟩ := scale_ok CR CP CN CQ n ns
 obtain ⟨k, rows, o, hk1, hk6, hr, ho, er⟩ := rules_ok CR CP CN CQ n ns s hs0 hs1
 have em := made_ok CR CP CN CQ n k rows o hk1 hk6 hr ho
 obtain ⟨fl, hfl1, hfl2, ef⟩ := xu CR CP CN CQ n ns k rows o most s hr.1 hk1 hm hs0 hs1
 obtain ⟨cs, hc1, hc2, ec⟩ := zC CR CP CN CQ n ns s hs0 hs1
 obtain ⟨qs, hq1, hq2, hq3, eq⟩ := plan_ok CR CP CN CQ n ns rows o fl (by omega) (by omega)
 have hql : qs.length = fl.length := by have := hq1.length_eq; simpa using this
 have hqb : ∀ p ∈ qs, 0 <= p.1 /\ p.1 < fl.length := fun p hp => by
  have : p.1 ∈ qs.map (·.1) := List.mem_map_of_mem hp
  have := hq1.mem_iff.mp this
  obtain ⟨j, hj, e⟩ := List.mem_map.mp this
  have := List.mem_range.mp hj
  omega
 obtain ⟨r2, hor⟩ : ∃ r2, (o = .non /\ ∀ p ∈ qs, p.2 = 0) \/ (o = aR r2 /\ fq k r2) := by
  rcases ho with h | ⟨r2, h1, h2⟩
  ·exact ⟨[], .inl ⟨h, hq3 h⟩⟩
  ·exact ⟨r2, .inr ⟨h2, h1⟩⟩
 exact ⟨s, ⟨k, rows, r2, o, fl, cs, qs⟩, ⟨hk1, hk6, hr, hor, hfl2, by show fl.length <= 60; omega, fun p hp => (hc2 p hp).2, hc1, hqb, hql⟩, hs0, hs1, hfl1, es, er, em, ef, ec, eq, fun p hp => (hc2 p hp).1, hq1⟩
end
noncomputable def IsCh (w : Wo) (ts : List Int) : Nat -> List Nat -> Prop
 | i, [] => ∀ j : Nat, bq w ts i ≠ .tup [.str "gap", .int j]
 | i, j :: r => j < i /\ tAt ts i = tAt ts j + w.ap j i /\ bq w ts i = .tup [.str "gap", .int j] /\ IsCh w ts j r
theorem push_gap {w : Wo} {ts : List Int} {i j : Nat} (h : bq w ts i = .tup [.str "gap", .int j]) : j < i /\ tAt ts i = tAt ts j + w.ap j i := by
 unfold bq at h
 by_cases h1 : tAt ts i = (w.f i).first
 ·rw [if_pos h1] at h; simp at h
 ·rw [if_neg h1] at h
  cases h2 : qD (w.om ts i) (tAt ts i) with
  | some k =>
   rw [h2] at h
   simp at h
   obtain rfl : k = j := by omega
   obtain ⟨a, b, _⟩ := we h2
   rw [wj] at a
   rw [ze w ts a] at b
   exact ⟨a, b.symm⟩
  | none =>
   rw [h2] at h
   cases h3 : qD (w.cs.map (·.2)) (tAt ts i) with
   | none => rw [h3] at h; simp at h
   | some m => rw [h3] at h; simp at h; exact absurd h.1 (by decide)
theorem ch_ex (w : Wo) (ts : List Int) : ∀ (m i : Nat), i < m -> ∃ r, IsCh w ts i r /\ r.length <= i
 | 0, i, h => by omega
 | m + 1, i, h => by
  by_cases e : ∃ j : Nat, bq w ts i = .tup [.str "gap", .int j]
  ·obtain ⟨j, e⟩ := e
   obtain ⟨h1, h2⟩ := push_gap e
   obtain ⟨r, h3, h4⟩ := ch_ex w ts m j (by omega)
   exact ⟨j :: r, ⟨h1, h2, e, h3⟩, by simp; omega⟩
  ·exact ⟨[], fun j z => e ⟨j, z⟩, by simp⟩
theorem getP {w : Wo} {ts : List Int} {N i : Nat} (h : i < N) : iY ((List.range N).map (bq w ts)) (i : Int) = .ok (bq w ts i) := by
 rw [eS (by simpa using h)]
 simp
theorem wF {w : Wo} {ts : List Int} (hl : w.qi ts) {i : Nat} (hi : i < w.qs.length) (h : ∀ j : Nat, bq w ts i ≠ .tup [.str "gap", .int j]) :
  (tAt ts i = (w.f i).first \/ tAt ts i ∈ w.cs.map (·.2)) /\ ∃ (s : Str) (r : List Dat), bq w ts i = .tup (.str s :: r) /\ (s == ("gap" : Str)) = false := by
 have hp := yg (hl.2 i hi)
 unfold bq at h hp ⊢
 by_cases h1 : tAt ts i = (w.f i).first
 ·rw [if_pos h1]
  exact ⟨.inl h1, _, _, rfl, by decide⟩
 ·rw [if_neg h1] at h ⊢
  cases h2 : qD (w.om ts i) (tAt ts i) with
  | some k => rw [h2] at h; exact absurd rfl (h k)
  | none =>
   obtain ⟨j, e⟩ := oJ (hl.2 i hi) h1 h2
   rw [e]
   obtain ⟨a, b, _⟩ := we e
   refine ⟨.inr ?_, _, _, rfl, by decide⟩
   rw [<- b]
   simp [tAt, List.getD_eq_getElem?_getD] at a ⊢
   rw [List.getElem?_eq_getElem a]
   exact ⟨_, List.getElem_mem a⟩
section
variable (CR CP CN CQ : Addr)
theorem qR (n : Nat) {w : Wo} {ts : List Int} (hl : w.qi ts) (a0 a1 a2 a3 a4 : Option Dat) : ∀ (r : List Nat) (m i : Nat) (pre : List Dat), IsCh w ts i r -> i < w.qs.length -> r.length < m -> pre.length + r.length < 1000 ->
  bU (e9 CR CP CN CQ n) (iJ CR CP CN CQ n) m [a0, a1, a2, a3, a4, some (.lst ((List.range w.qs.length).map (bq w ts))), some (.lst (pre ++ [.int i]))] = .ok (.nx [a0, a1, a2, a3, a4, some (.lst ((List.range w.qs.length).map (bq w ts))), some (.lst (pre ++ (i :: r).map fun j : Nat => Dat.int j))])
 | _, 0, _, _, _, _, h, _ => by omega
 | [], m + 1, i, pre, hc, hi, _, _ => by
  obtain ⟨_, s, r, e, hs⟩ := wF hl hi hc
  have eg := getP (w := w) (ts := ts) hi
  rw [e] at eg
  have ee : eqM (.str s) (.str "gap") = .ok (.bl false) := by
   unfold eqM
   rw [if_pos (by simp [okE])]
   simp only [eqD, hs]
  have e0 : iY (.str s :: r) 0 = .ok (.str s) := by
   show iY _ ((0 : Nat) : Int) = _
   rw [eS (by simp)]
   rfl
  generalize (List.range w.qs.length).map (bq w ts) = ps at eg ⊢
  have ht : e9 CR CP CN CQ n [a0, a1, a2, a3, a4, some (.lst ps), some (.lst (pre ++ [.int i]))] = .ok false := by simp [e9, eg, e0, ee]
  rw [bU, ht, ax, if_neg (by simp)]
  rfl
 | j :: r, m + 1, i, pre, hc, hi, hm, hz => by
  obtain ⟨h1, h2, h3, h4⟩ := hc
  have eg := getP (w := w) (ts := ts) hi
  rw [h3] at eg
  have ih := qR n hl a0 a1 a2 a3 a4 r m j (pre ++ [.int i]) h4 (by omega) (by simpa using hm) (by simp at hz ⊢; omega)
  have ee : eqM (.str "gap") (.str "gap") = .ok (.bl true) := by
   unfold eqM
   rw [if_pos (by simp [okE])]
   simp [eqD]
  have e0 : iY [.str "gap", .int (j : Int)] 0 = .ok (.str "gap") := rfl
  have e1 : iY [.str "gap", .int (j : Int)] 1 = .ok (.int j) := rfl
  have hz2 : pre.length + 1 < 16777216 := by simp at hz; omega
  generalize (List.range w.qs.length).map (bq w ts) = ps at eg ih ⊢
  have ht : e9 CR CP CN CQ n [a0, a1, a2, a3, a4, some (.lst ps), some (.lst (pre ++ [.int i]))] = .ok true := by simp [e9, eg, e0, ee]
  have hb : iJ CR CP CN CQ n [a0, a1, a2, a3, a4, some (.lst ps), some (.lst (pre ++ [.int i]))] = .ok (.nx [a0, a1, a2, a3, a4, some (.lst ps), some (.lst ((pre ++ [.int i]) ++ [.int j]))]) := by simp [iJ, eg, e1, hz2]
  rw [bU, ht, ax, if_pos rfl, hb, ax]
  rw [List.map_cons, show pre ++ Dat.int (i : Int) :: (j :: r).map (fun j : Nat => Dat.int j) = (pre ++ [.int i]) ++ (j :: r).map (fun j : Nat => Dat.int j) by simp]
  exact ih
theorem jS (n : Nat) (fl : List Fli) (x : Int) : ju CR CP CN CQ n [.lst (fl.map flD), .int x] = .ok (.bl (decide (0 <= x) && decide (x < fl.length))) := by
 by_cases h : 0 <= x <;> by_cases h2 : x < fl.length <;> simp [ju, nG, h, h2]
theorem chain_no (n : Nat) {a b c : Dat} (fl : List Fli) {x : Int} (h : ¬ (0 <= x /\ x < fl.length)) : br CR CP CN CQ n [a, .lst (fl.map flD), b, c, .int x] = .error (.exc CQ []) := by
 have e := jS CR CP CN CQ n fl x
 have hd : (decide (0 <= x) && decide (x < fl.length)) = false := by
  rw [Bool.eq_false_iff]
  intro z
  simp at z
  exact h z
 rw [hd] at e
 simp [br, jy, iI, e]
theorem zD (n : Nat) {w : Wo} (hw : w.Good) {x : Int} (h0 : 0 <= x) (h1 : x < w.fl.length) {a b c : Dat} {e : Err} (ep : bw CR CP CN CQ n [a, .lst (w.fl.map flD), b, c] = .error e) : br CR CP CN CQ n [a, .lst (w.fl.map flD), b, c, .int x] = .error e := by
 have e1 := jS CR CP CN CQ n w.fl x
 rw [show (decide (0 <= x) && decide (x < w.fl.length)) = true by simp [h0, h1]] at e1
 simp [br, jy, iI, e1, ep]
theorem chain_ok (n : Nat) (hn : 64 <= n) {w : Wo} (hw : w.Good) {ts : List Int} (hl : w.qi ts) {a b c : Dat} (ep : bw CR CP CN CQ n [a, .lst (w.fl.map flD), b, c] = .ok (.lst ((List.range w.qs.length).map (bq w ts)))) {i : Nat} (hi : i < w.qs.length) {r : List Nat} (hc : IsCh w ts i r) (hr : r.length <= i) :
  br CR CP CN CQ n [a, .lst (w.fl.map flD), b, c, .int i] = .ok (.lst ((r.reverse ++ [i]).map fun j : Nat => Dat.int j)) := by
 show 'Օ'
 have e1 := jS CR CP CN CQ n w.fl (i : Int)
 rw [show (decide (0 <= (i : Int)) && decide ((i : Int) < w.fl.length)) = true by simp; omega] at e1
 have el := qR CR CP CN CQ n hl (some a) (some (.lst (w.fl.map flD))) (some b) (some c) (some (.int i)) r n i [] hc hi (by omega) (by simp; omega)
 rw [List.nil_append, List.nil_append] at el
 generalize (List.range w.qs.length).map (bq w ts) = ps at ep el
 rw [show (r.reverse ++ [i]).map (fun j : Nat => Dat.int j) = ((i :: r).map fun j : Nat => Dat.int j).reverse by rw [<- List.map_reverse, List.reverse_cons]]
 generalize (i :: r).map (fun j : Nat => Dat.int j) = cd at el
 simp [br, jy, iI, e1, ep, el, revD]
theorem refused3 (n : Nat) {a b c d : Dat} {x : Int} (e : br CR CP CN CQ n [a, b, c, d, .int x] = .error (.exc CQ [])) : bj CR CP CN CQ n [a, .tup [b, c, d], .int x] = .ok (.int 3) := by
 have e1 : cy CR CP CN CQ n [some a, some (.tup [b, c, d]), some (.int x), some (.int 0), none, none] = .ok (.nx [some a, some (.tup [b, c, d]), some (.int x), some (.int 3), none, some (.bl false)]) := by
  unfold cy
  rw [wu (by simp [e, iY, atI, ixN])]
  rfl
 simp [bj, fW, e1]
theorem refused2 (n : Nat) (hne : CN ≠ CQ) {a b c d : Dat} {x : Int} {fs : List (Str × Dat)} (e : br CR CP CN CQ n [a, b, c, d, .int x] = .error (.exc CN fs)) : bj CR CP CN CQ n [a, .tup [b, c, d], .int x] = .ok (.int 2) := by
 have e1 : cy CR CP CN CQ n [some a, some (.tup [b, c, d]), some (.int x), some (.int 0), none, none] = .ok (.nx [some a, some (.tup [b, c, d]), some (.int x), some (.int 2), none, none]) := by
  unfold cy
  rw [wt (fs := fs) (by simp [e, iY, atI, ixN]) hne]
  rfl
 simp [bj, fW, e1]
noncomputable def Links (w : Wo) (ts : List Int) (c : List Nat) : Prop := ∀ k, k + 1 < c.length -> c.getD k 0 < c.getD (k + 1) 0 /\ tAt ts (c.getD (k + 1) 0) = tAt ts (c.getD k 0) + w.ap (c.getD k 0) (c.getD (k + 1) 0) /\ bq w ts (c.getD (k + 1) 0) = .tup [.str "gap", .int (c.getD k 0)]
theorem wD {w : Wo} {ts : List Int} : ∀ {r : List Nat} {i : Nat}, IsCh w ts i r -> Links w ts (r.reverse ++ [i]) /\ (∀ j : Nat, bq w ts ((r.reverse ++ [i]).getD 0 0) ≠ .tup [.str "gap", .int j]) /\ ∀ j ∈ r, j <= i
 | [], i, h => ⟨fun k hk => by simp at hk, h, by simp⟩
 | j :: r, i, ⟨h1, h2, h3, h4⟩ => by
  obtain ⟨a, b, c⟩ := wD h4
  refine ⟨fun k hk => ?_, ?_, fun x hx => ?_⟩
  ·rw [List.reverse_cons] at hk ⊢
   simp only [List.length_append, List.length_reverse, List.length_cons, List.length_nil] at hk
   have g1 : ∀ m, m < r.length + 1 -> (r.reverse ++ [j] ++ [i]).getD m 0 = (r.reverse ++ [j]).getD m 0 := fun m hm => by
    rw [List.getD_eq_getElem?_getD, List.getElem?_append_left (by simp; omega), <- List.getD_eq_getElem?_getD]
   by_cases hk2 : k + 1 < r.length + 1
   ·rw [g1 _ hk2, g1 _ (by omega)]
    exact a k (by simp; omega)
   ·have ek : k = r.length := by omega
    subst ek
    have e1 : (r.reverse ++ [j] ++ [i]).getD (r.length + 1) 0 = i := by
     rw [List.getD_eq_getElem?_getD, List.getElem?_append_right (by simp)]
     simp
    have e2 : (r.reverse ++ [j] ++ [i]).getD r.length 0 = j := by
     rw [g1 _ (by omega), List.getD_eq_getElem?_getD, List.getElem?_append_right (by simp)]
     simp
    rw [e1, e2]
    exact ⟨h1, h2, h3⟩
  ·rw [List.reverse_cons, List.getD_eq_getElem?_getD, List.getElem?_append_left (by simp), <- List.getD_eq_getElem?_getD]
   exact b
  ·rcases List.mem_cons.mp hx with z | z
   ·omega
   ·have := c x z; omega
theorem getN {c : List Nat} {k : Nat} (h : k < c.length) : iY (c.map fun j : Nat => Dat.int j) (k : Int) = .ok (.int (c.getD k 0 : Nat)) := by
 rw [eS (by simpa using h)]
 simp [h]
theorem eq_gap (a b : Nat) : neM (.tup [.str "gap", .int (a : Int)]) (.tup [.str "gap", .int (b : Int)]) = .ok (.bl (!decide (a = b))) := by
 unfold neM
 rw [if_pos (by simp [okE, hX])]
 by_cases h : a = b
 ·simp [eqD, xJ, h]
 ·have h2 : ¬ (a : Int) = (b : Int) := by omega
  simp [eqD, xJ, h, h2]
theorem qL (n : Nat) : ∀ c : List Nat, bM (.nm 0) (sQ (fL (eC CR CP CN CQ n) (aa (ah 0) aJ))) (ah 0) [none] (c.map fun j : Nat => Dat.int j) = .ok (c.map fun j : Nat => Dat.int j)
 | [] => rfl
 | j :: c => by
  have ih := qL n c
  have e := whole_ok CR CP CN CQ n (j : Int)
  rw [List.map_cons, bM]
  simp [e, ih]
theorem z0 (n : Nat) {w : Wo} (hw : w.Good) {ts : List Int} (hl : w.qi ts) {c : List Nat} (hc : ∀ j ∈ c, j < w.qs.length) (hL : Links w ts c) {k : Nat} (hk : k + 1 < c.length) (a1 a6 a9 z : Option Dat) :
  bB CR CP CN CQ n [some w.ruD, a1, some (.lst (ts.map .int)), some (.lst ((List.range w.qs.length).map (bq w ts))), some (.lst (c.map fun j : Nat => Dat.int j)), some (.lst (w.fl.map flD)), a6, some (.lst (w.qs.map stD)), some (.int (tAt ts (c.getD k 0))), a9, some (.int ((k + 1 : Nat) : Int))] =
   .ok (.nx [some w.ruD, a1, some (.lst (ts.map .int)), some (.lst ((List.range w.qs.length).map (bq w ts))), some (.lst (c.map fun j : Nat => Dat.int j)), some (.lst (w.fl.map flD)), a6, some (.lst (w.qs.map stD)), some (.int (tAt ts (c.getD (k + 1) 0))), a9, some (.int ((k + 1 : Nat) : Int))]) := by
 obtain ⟨h1, h2, h3⟩ := hL k hk
 have m1 : c.getD (k + 1) 0 < w.qs.length := hc _ (by simp [hk])
 have m0 : c.getD k 0 < w.qs.length := hc _ (by simp [show k < c.length by omega])
 have e0 := getN (c := c) (k := k) (by omega)
 have e1 := getN (c := c) (k := k + 1) hk
 have ea := wL CR CP CN CQ n hw m0 m1
 have q0 := getQ m0
 have q1 := getQ m1
 have ep := getP (w := w) (ts := ts) m1
 rw [h3] at ep
 have eg := eq_gap (c.getD k 0) (c.getD k 0)
 have es : (((k + 1 : Nat) : Int)) - 1 = (k : Int) := by omega
 have hle : ¬ ((c.getD (k + 1) 0 : Nat) : Int) <= ((c.getD k 0 : Nat) : Int) := by omega
 rw [h2]
 generalize c.getD k 0 = x at *
 generalize c.getD (k + 1) 0 = y at *
 generalize (List.range w.qs.length).map (bq w ts) = ps at ep ⊢
 generalize c.map (fun j : Nat => Dat.int j) = cd at e0 e1 ⊢
 generalize ((k + 1 : Nat) : Int) = kk at *
 simp [bB, i9, e0, e1, es, ep, eg, hle, q0, q1, ea, -List.map_map]
theorem good_ok (n : Nat) {w : Wo} (hw : w.Good) {ts : List Int} (hl : w.qi ts) {c : List Nat} (hc : ∀ j ∈ c, j < w.qs.length) (hL : Links w ts c) (hne : 0 < c.length) (hcl : c.length <= 100) (hf : ∀ j : Nat, bq w ts (c.getD 0 0) ≠ .tup [.str "gap", .int j]) :
  bu CR CP CN CQ n [w.ruD, .tup [.lst (w.fl.map flD), .lst (w.cs.map stD), .lst (w.qs.map stD)], .lst (ts.map .int), .lst ((List.range w.qs.length).map (bq w ts)), .lst (c.map fun j : Nat => Dat.int j)] = .ok (.bl true) := by
 have hcs := hw.csl
 have m0 : c.getD 0 0 < w.qs.length := hc _ (by simp [hne])
 obtain ⟨hst, s, r, ep, hs⟩ := wF hl m0 hf
 have htl := hl.1
 have e0 : iY (c.map fun j : Nat => Dat.int j) 0 = .ok (.int (c.getD 0 0 : Nat)) := getN (c := c) (k := 0) hne
 have et0 := getT (ts := ts) (i := c.getD 0 0) (by omega)
 have q0 := getQ m0
 obtain ⟨f0, _⟩ := hw.fAt m0
 have ep0 := getP (w := w) (ts := ts) m0
 rw [ep] at ep0
 have ee : eqM (.str s) (.str "gap") = .ok (.bl false) := by
  unfold eqM
  rw [if_pos (by simp [okE])]
  simp only [eqD, hs]
 have eh : iY (.str s :: r) 0 = .ok (.str s) := by
  show iY _ ((0 : Nat) : Int) = _
  rw [eS (by simp)]
  rfl
 have ec : bM (.tp [0, 1]) pb (ah 1) [none, none] (w.cs.map stD) = .ok ((w.cs.map (·.2)).map .int) := by
  have := i8 (p := .tp [0, 1]) (fe := ah 1) (ρ0 := [none, none]) (fun d => match d with | .tup [_, x] => x | _ => .non) (w.cs.map stD) (fun d hd => by
   obtain ⟨p, _, rfl⟩ := List.mem_map.mp hd
   exact ⟨[some (.int p.1), some (.int p.2)], by simp [stD], by simp [stD]⟩)
  rw [this, List.map_map, List.map_map]
  rfl
 have s2 : w.cs.length <= 16777216 := by omega
 have s3 : c.length <= 16777216 := by omega
 have ewh := qL CR CP CN CQ n c
 have ein : ∀ t : Int, yF (.int t) (.lst ((w.cs.map (·.2)).map .int)) = .ok (.bl (!decide (t ∈ w.cs.map (·.2)))) := fun t => by
  have h : (okE (.int t) 40 && hX ((w.cs.map (·.2)).map .int) 40) = true := by rw [vc 39]; simp [okE]
  show (if (okE (.int t) 40 && hX ((w.cs.map (·.2)).map .int) 40) = true then _ else _) = _
  rw [if_pos h]
  congr 3
  rw [List.any_map, Bool.eq_iff_iff]
  simp [eqD, Function.comp]
 have key : ∀ (m k : Nat), k + m + 1 = c.length -> ∀ (a1 a6 a9 z : Option Dat), ∃ y, j8 (.nm 10) (bB CR CP CN CQ n) (aX ((k + 1 : Nat) : Int) m) [some w.ruD, a1, some (.lst (ts.map .int)), some (.lst ((List.range w.qs.length).map (bq w ts))), some (.lst (c.map fun j : Nat => Dat.int j)), some (.lst (w.fl.map flD)), a6, some (.lst (w.qs.map stD)), some (.int (tAt ts (c.getD k 0))), a9, z] = .ok (.nx [some w.ruD, a1, some (.lst (ts.map .int)), some (.lst ((List.range w.qs.length).map (bq w ts))), some (.lst (c.map fun j : Nat => Dat.int j)), some (.lst (w.fl.map flD)), a6, some (.lst (w.qs.map stD)), some (.int (tAt ts (c.getD (c.length - 1) 0))), a9, y]) := by
  intro m
  induction m with
  | zero =>
   intro k hk a1 a6 a9 z
   refine ⟨z, ?_⟩
   rw [show c.length - 1 = k by omega]
   rfl
  | succ m ih =>
   intro k hk a1 a6 a9 z
   obtain ⟨y, e⟩ := ih (k + 1) (by omega) a1 a6 a9 (some (.int ((k + 1 : Nat) : Int)))
   refine ⟨y, ?_⟩
   have er : aX ((k + 1 : Nat) : Int) (m + 1) = .int ((k + 1 : Nat) : Int) :: aX ((k + 1 + 1 : Nat) : Int) m := by
    unfold aX
    rw [List.range_succ_eq_map, List.map_cons, List.map_map]
    refine congr (congrArg List.cons ?_) (List.map_congr_left fun x _ => ?_)
    ·show Dat.int (((k + 1 : Nat) : Int) + ((0 : Nat) : Int)) = _
     rw [Int.natCast_zero, Int.add_zero]
    ·show Dat.int (((k + 1 : Nat) : Int) + ((x + 1 : Nat) : Int)) = Dat.int (((k + 1 + 1 : Nat) : Int) + (x : Int))
     congr 1
     omega
   rw [er, j8, show fj (.nm 10) (.int ((k + 1 : Nat) : Int)) [some w.ruD, a1, some (.lst (ts.map .int)), some (.lst ((List.range w.qs.length).map (bq w ts))), some (.lst (c.map fun j : Nat => Dat.int j)), some (.lst (w.fl.map flD)), a6, some (.lst (w.qs.map stD)), some (.int (tAt ts (c.getD k 0))), a9, z] = .ok [some w.ruD, a1, some (.lst (ts.map .int)), some (.lst ((List.range w.qs.length).map (bq w ts))), some (.lst (c.map fun j : Nat => Dat.int j)), some (.lst (w.fl.map flD)), a6, some (.lst (w.qs.map stD)), some (.int (tAt ts (c.getD k 0))), a9, some (.int ((k + 1 : Nat) : Int))] from rfl, ax, z0 CR CP CN CQ n hw hl hc hL (by omega) a1 a6 a9 z, ax]
   exact e
 obtain ⟨y, el⟩ := key (c.length - 1) 0 (by omega) (some (.tup [.lst (w.fl.map flD), .lst (w.cs.map stD), .lst (w.qs.map stD)])) (some (.lst (w.cs.map stD))) (some (.lst ((w.cs.map (·.2)).map .int))) none
 have mz : c.getD (c.length - 1) 0 < w.qs.length := hc _ (by simp [show c.length - 1 < c.length by omega])
 have ez : iY (c.map fun j : Nat => Dat.int j) (-1) = .ok (.int (c.getD (c.length - 1) 0 : Nat)) := by
  rcases List.eq_nil_or_concat c with e | ⟨c', x, e⟩
  ·rw [e] at hne; simp at hne
  ·rw [List.concat_eq_append] at e
   rw [e, List.map_append, List.map_singleton, tU]
   simp
 have etz := getT (ts := ts) (i := c.getD (c.length - 1) 0) (by omega)
 have u1 : -4611686018427387904 <= (c.length : Int) := by omega
 have u2 : (c.length : Int) < 4611686018427387904 := by omega
 have k3 : ((c.length : Int) - 1).toNat = c.length - 1 := by omega
 have hcz : (c.map fun j : Nat => Dat.int j).length = c.length := by simp
 generalize (List.range w.qs.length).map (bq w ts) = ps at ep0 el ⊢
 generalize hcd : c.map (fun j : Nat => Dat.int j) = cd at e0 ewh el ez hcz ⊢
 have hcz2 : cd.length <= 16777216 := by omega
 have el : j8 (.nm 10) (bB CR CP CN CQ n) (aX 1 (c.length - 1)) [some w.ruD, some (.tup [.lst (w.fl.map flD), .lst (w.cs.map stD), .lst (w.qs.map stD)]), some (.lst (ts.map .int)), some (.lst ps), some (.lst cd), some (.lst (w.fl.map flD)), some (.lst (w.cs.map stD)), some (.lst (w.qs.map stD)), some (.int (tAt ts (c.getD 0 0))), some (.lst ((w.cs.map (·.2)).map .int)), none] = _ := el
 by_cases hfi : tAt ts (c.getD 0 0) = (w.f (c.getD 0 0)).first
 ·simp only [flD] at f0
  generalize c.getD 0 0 = x0 at *
  generalize c.getD (c.length - 1) 0 = xz at *
  simp only [stD] at q0
  rw [hfi] at el
  simp [bu, da, dZ, dY, e0, et0, q0, f0, ep0, ee, eh, ec, s2, ewh, hcz, s3, hfi, u1, u2, k3, el, ez, etz, -List.map_map]
 ·have hin : tAt ts (c.getD 0 0) ∈ w.cs.map (·.2) := hst.resolve_left hfi
  have ei := ein (tAt ts (c.getD 0 0))
  rw [decide_eq_true hin] at ei
  simp only [flD] at f0
  generalize c.getD 0 0 = x0 at *
  generalize c.getD (c.length - 1) 0 = xz at *
  simp only [stD] at q0
  simp [bu, da, dZ, dY, e0, et0, q0, f0, ep0, ee, eh, ec, s2, ewh, hcz, s3, hfi, ei, u1, u2, k3, el, ez, etz, -List.map_map]
end
section
variable (CR CP CN CQ : Addr)
theorem tP (n : Nat) {w : Wo} (a0 a1 a2 a6 z8 z9 z10 : Option Dat) (rd : Dat) : ∀ (xs : List Int), (∀ x ∈ xs, ¬ (0 <= x /\ x < w.fl.length)) -> ∀ z7 : Option Dat, ∃ y7, j8 (.nm 7) (sE CR CP CN CQ n) (xs.map .int) [a0, a1, a2, some rd, some (.lst (w.fl.map flD)), some (.tup [.lst (w.fl.map flD), .lst (w.cs.map stD), .lst (w.qs.map stD)]), a6, z7, z8, z9, z10] = .ok (.nx [a0, a1, a2, some rd, some (.lst (w.fl.map flD)), some (.tup [.lst (w.fl.map flD), .lst (w.cs.map stD), .lst (w.qs.map stD)]), a6, y7, z8, z9, z10])
 | [], _, z7 => ⟨z7, rfl⟩
 | x :: xs, h, z7 => by
  obtain ⟨y7, e⟩ := tP n a0 a1 a2 a6 z8 z9 z10 rd xs (fun y hy => h y (by simp [hy])) (some (.int x))
  have er := refused3 CR CP CN CQ n (a := rd) (b := .lst (w.fl.map flD)) (c := .lst (w.cs.map stD)) (d := .lst (w.qs.map stD)) (chain_no CR CP CN CQ n w.fl (h x (by simp)))
  refine ⟨y7, ?_⟩
  have eb : sE CR CP CN CQ n [a0, a1, a2, some rd, some (.lst (w.fl.map flD)), some (.tup [.lst (w.fl.map flD), .lst (w.cs.map stD), .lst (w.qs.map stD)]), a6, some (.int x), z8, z9, z10] = .ok (.nx [a0, a1, a2, some rd, some (.lst (w.fl.map flD)), some (.tup [.lst (w.fl.map flD), .lst (w.cs.map stD), .lst (w.qs.map stD)]), a6, some (.int x), z8, z9, z10]) := by
   simp [sE, zK, er, -List.map_map]
  rw [List.map_cons, j8, show fj (.nm 7) (.int x) [a0, a1, a2, some rd, some (.lst (w.fl.map flD)), some (.tup [.lst (w.fl.map flD), .lst (w.cs.map stD), .lst (w.qs.map stD)]), a6, z7, z8, z9, z10] = .ok [a0, a1, a2, some rd, some (.lst (w.fl.map flD)), some (.tup [.lst (w.fl.map flD), .lst (w.cs.map stD), .lst (w.qs.map stD)]), a6, some (.int x), z8, z9, z10] from rfl, ax, eb, ax]
  exact e
theorem xb (n : Nat) (hn : 64 <= n) (hne : CR ≠ CP) {w : Wo} (hw : w.Good) {ts : List Int} (hl : w.qi ts) {i : Nat} (hi : i < w.qs.length) (a0 a1 a6 z10 : Option Dat) : ∃ y10,
  sD CR CP CN CQ n [a0, a1, some w.ruD, some (aW CR CP w.rows w.o), some (.lst (w.fl.map flD)), some (.tup [.lst (w.fl.map flD), .lst (w.cs.map stD), .lst (w.qs.map stD)]), a6, some (.int i), some (.lst (ts.map .int)), some (.lst ((List.range w.qs.length).map (bq w ts))), z10] = .ok (.nx [a0, a1, some w.ruD, some (aW CR CP w.rows w.o), some (.lst (w.fl.map flD)), some (.tup [.lst (w.fl.map flD), .lst (w.cs.map stD), .lst (w.qs.map stD)]), a6, some (.int i), some (.lst (ts.map .int)), some (.lst ((List.range w.qs.length).map (bq w ts))), y10]) := by
 obtain ⟨r, hc, hr⟩ := ch_ex w ts (i + 1) i (by omega)
 show 'Օ'
 have ep := tx CR CP CN CQ n hne hw hl
 have e1 := chain_ok CR CP CN CQ n hn hw hl ep hi hc hr
 obtain ⟨hL, h0, hb⟩ := wD hc
 have eg := good_ok CR CP CN CQ n hw hl (c := r.reverse ++ [i]) (fun j hj => by
  rcases List.mem_append.mp hj with z | z
  ·have := hb j (by simpa using z); omega
  ·simp at z; omega) hL (by simp) (by simp; omega) h0
 have ez : iY ((r.reverse ++ [i]).map fun j : Nat => Dat.int j) (-1) = .ok (.int (i : Int)) := by
  rw [List.map_append, List.map_singleton, tU]
 have elen : ((r.reverse ++ [i]).map fun j : Nat => Dat.int j).length = r.length + 1 := by simp
 have hl0 : ¬ ((r.length : Int) + 1 = 0) := by omega
 generalize (r.reverse ++ [i]).map (fun j : Nat => Dat.int j) = cd at e1 eg ez elen
 generalize (List.range w.qs.length).map (bq w ts) = ps at eg ⊢
 refine ⟨some (.lst cd), ?_⟩
 simp [sD, zJ, zI, e1, eg, ez, elen, hl0, jw, -List.map_map]
theorem qW (n : Nat) (hn : 64 <= n) (hne : CR ≠ CP) {w : Wo} (hw : w.Good) {ts : List Int} (hl : w.qi ts) (a0 a1 a6 : Option Dat) : ∀ (is : List Nat), (∀ i ∈ is, i < w.qs.length) -> ∀ (z7 z10 : Option Dat), ∃ y7 y10,
  j8 (.nm 7) (sD CR CP CN CQ n) (is.map fun i : Nat => Dat.int i) [a0, a1, some w.ruD, some (aW CR CP w.rows w.o), some (.lst (w.fl.map flD)), some (.tup [.lst (w.fl.map flD), .lst (w.cs.map stD), .lst (w.qs.map stD)]), a6, z7, some (.lst (ts.map .int)), some (.lst ((List.range w.qs.length).map (bq w ts))), z10] = .ok (.nx [a0, a1, some w.ruD, some (aW CR CP w.rows w.o), some (.lst (w.fl.map flD)), some (.tup [.lst (w.fl.map flD), .lst (w.cs.map stD), .lst (w.qs.map stD)]), a6, y7, some (.lst (ts.map .int)), some (.lst ((List.range w.qs.length).map (bq w ts))), y10])
 | [], _, z7, z10 => ⟨z7, z10, rfl⟩
 | i :: is, h, z7, z10 => by
  obtain ⟨y, e⟩ := xb CR CP CN CQ n hn hne hw hl (h i (by simp)) a0 a1 a6 z10
  obtain ⟨y7, y10, e2⟩ := qW n hn hne hw hl a0 a1 a6 is (fun j hj => h j (by simp [hj])) (some (.int i)) y
  refine ⟨y7, y10, ?_⟩
  rw [List.map_cons, j8, show fj (.nm 7) (.int (i : Int)) [a0, a1, some w.ruD, some (aW CR CP w.rows w.o), some (.lst (w.fl.map flD)), some (.tup [.lst (w.fl.map flD), .lst (w.cs.map stD), .lst (w.qs.map stD)]), a6, z7, some (.lst (ts.map .int)), some (.lst ((List.range w.qs.length).map (bq w ts))), z10] = .ok [a0, a1, some w.ruD, some (aW CR CP w.rows w.o), some (.lst (w.fl.map flD)), some (.tup [.lst (w.fl.map flD), .lst (w.cs.map stD), .lst (w.qs.map stD)]), a6, some (.int i), some (.lst (ts.map .int)), some (.lst ((List.range w.qs.length).map (bq w ts))), z10] from rfl, ax, e, ax]
  exact e2
theorem u0 (n : Nat) (ns : List Int) (L : Nat) (hL : 0 < L) (ds : List Dat) (hds : ds.length = L) (m : Nat) (hm : m <= 9) : ∃ is : List Nat, is.length = m /\ (∀ i ∈ is, i < L) /\
  bM (.nm 0) pb (f2 my (fL (ar CR CP CN CQ n) (aa (ah 1) (aa (f2 lW (fC (.int 260)) (ah 0)) aJ))) (fL nR (aa (ah 2) aJ))) [none, some (.lst (ns.map .int)), some (.lst ds)] (aX 0 m) = .ok (is.map fun i : Nat => Dat.int i) := by
 have h : ∀ j : Nat, ∃ x : Int, j < 9 -> ar CR CP CN CQ n [.lst (ns.map .int), .int (260 + (j : Int))] = .ok (.int x) /\ 0 <= x := fun j => by
  by_cases hj : j < 9
  ·obtain ⟨x, e, h⟩ := gC CR CP CN CQ n ns (260 + (j : Int)) (by omega) (by omega)
   exact ⟨x, fun _ => ⟨e, h⟩⟩
  ·exact ⟨0, fun z => absurd z hj⟩
 obtain ⟨g, hg⟩ := Classical.skolem.mp h
 have hL' : (0 : Int) < (L : Int) := by omega
 refine ⟨(List.range m).map fun j => (g j % (L : Int)).toNat, by simp, fun i hi => ?_, ?_⟩
 ·obtain ⟨j, _, rfl⟩ := List.mem_map.mp hi
  have h0 : 0 <= g j % (L : Int) := Int.emod_nonneg _ (by omega)
  have h1 : g j % (L : Int) < L := Int.emod_lt_of_pos _ hL'
  omega
 ·have := zB (p := .nm 0) (ft := pb) (fe := f2 my (fL (ar CR CP CN CQ n) (aa (ah 1) (aa (f2 lW (fC (.int 260)) (ah 0)) aJ))) (fL nR (aa (ah 2) aJ))) (ρ0 := [none, some (.lst (ns.map .int)), some (.lst ds)]) (fun _ => true) (fun j => .int (((g j % (L : Int)).toNat : Nat) : Int)) m (fun j hj => by
   obtain ⟨e, h0⟩ := hg j (by omega)
   refine ⟨[some (.int j), some (.lst (ns.map .int)), some (.lst ds)], by simp, rfl, fun _ => ?_⟩
   have hz : 0 <= g j % (L : Int) := Int.emod_nonneg _ (by omega)
   have ez : (((g j % (L : Int)).toNat : Nat) : Int) = g j % (L : Int) := by omega
   rw [ez]
   simp [e, hds, pZ hL'])
  rw [this, List.map_map, List.filter_eq_self.mpr (by simp)]
  rfl
theorem law_true (hne : CR ≠ CP) (hqn : CQ ≠ CN) : ∀ ns : List Int, ns.length <= 63 -> ∃ n, xj CR CP CN CQ n [.lst (ns.map .int)] = .ok (.bl true) := by
 intro ns hns
 refine ⟨64, ?_⟩
 obtain ⟨s, w, hw, hs0, hs1, hfl, es, er, em, ef, ec, eq, _, _⟩ := world_ok CR CP CN CQ 64 (by omega) ns 40 (by omega)
 simp only [Int.cast_ofNat_Int] at ef
 obtain ⟨d1, e1, p1, b1⟩ := so CR CP CN CQ 64 ns 250 (by omega) (by omega)
 obtain ⟨d2, e2, p2, b2⟩ := so CR CP CN CQ 64 ns 251 (by omega) (by omega)
 obtain ⟨d3, e3, p3, b3⟩ := so CR CP CN CQ 64 ns 252 (by omega) (by omega)
 have hm1 : nZ (.int d1) (.int d2) = .ok (.int (d1 * d2)) := tZ (by simp only [tf, Bool.and_eq_true, decide_eq_true_eq]; omega)
 have hm2 : nZ (.int (d1 * d2)) (.int d3) = .ok (.int (d1 * d2 * d3)) := tZ (by simp only [tf, Bool.and_eq_true, decide_eq_true_eq]; omega)
 have hfar : 0 <= d1 * d2 * d3 := Int.mul_nonneg (Int.mul_nonneg p1 p2) p3
 show 'Օ'
 have hc := hw.csl
 generalize d1 * d2 * d3 = far at hm2 hfar
 obtain ⟨y7, el⟩ := tP CR CP CN CQ 64 (w := w) (some (.lst (ns.map .int))) (some (.int s)) (some w.ruD) (some (.int (1 + far))) none none none (aW CR CP w.rows w.o) [-1, (w.fl.length : Int), -(1 + far), (w.fl.length : Int) - 1 + (1 + far)] (fun x hx => by
  simp only [List.mem_cons, List.not_mem_nil, or_false] at hx
  omega) none
 simp only [List.map_cons, List.map_nil] at el
 by_cases h0 : w.fl.length = 0
 ·have e3' : pD CR CP CN CQ 64 [some (.lst (ns.map .int)), some (.int s), some w.ruD, some (aW CR CP w.rows w.o), some (.lst (w.fl.map flD)), some (.tup [.lst (w.fl.map flD), .lst (w.cs.map stD), .lst (w.qs.map stD)]), some (.int (1 + far)), y7, none, none, none] = .ok (.rt (.bl true)) := by simp [pD, h0]
  simp [xj, zf, es, er, em, ef, ec, eq, e1, e2, e3, hm1, hm2, el, e3', -tZ, -zo, -List.map_map]
 ·have hL : ¬ ((w.fl.length : Int) = 0) := by omega
  have hL2 : ¬ w.fl = [] := fun e => h0 (by rw [e]; rfl)
  rcases least_ok CR CP CN CQ 64 (by omega) hw with ⟨ts, hl, elst⟩ | ⟨i, ts, t, h1, h2, h3, h4, h5, elst⟩
  ·have et := vP CR CP CN CQ 64 hne hw hl
   have ep := tx CR CP CN CQ 64 hne hw hl
   obtain ⟨m, hm9, emin⟩ : ∃ m : Nat, m <= 9 /\ minD [.int (ns.length : Int), .int 9] = .ok (.int (m : Int)) := by
    by_cases h : ns.length <= 9
    ·exact ⟨ns.length, h, by simp [kN]; omega⟩
    ·exact ⟨9, by omega, by simp [kN]; omega⟩
   obtain ⟨is, his, hib, eis⟩ := u0 CR CP CN CQ 64 ns w.fl.length (by omega) (w.fl.map flD) (by simp) m hm9
   obtain ⟨x7, x10, ea⟩ := qW CR CP CN CQ 64 (by omega) hne hw hl (some (.lst (ns.map .int))) (some (.int s)) (some (.int (1 + far))) ((w.fl.length - 1) :: is) (fun j hj => by
    rcases List.mem_cons.mp hj with z | z
    ·omega
    ·have := hib j z; omega) y7 none
   rw [List.map_cons, show (((w.fl.length - 1 : Nat)) : Int) = (w.fl.length : Int) - 1 by omega] at ea
   have u1 : -4611686018427387904 <= (m : Int) := by omega
   have u2 : (m : Int) < 4611686018427387904 := by omega
   have u3 : m <= 16777216 := by omega
   have u4 : 1 + m <= 16777216 := by omega
   have hrl : (aX 0 m).length <= 16777216 := by rw [eB]; omega
   have hisz : (is.map fun i : Nat => Dat.int i).length = m := by simp [his]
   generalize (is.map fun i : Nat => Dat.int i) = isd at eis ea hisz
   generalize (List.range w.qs.length).map (bq w ts) = ps at ep ea
   simp [xj, zf, es, er, em, ef, ec, eq, e1, e2, e3, hm1, hm2, el, pD, hL, hL2, vn, elst, jv, et, ep, emin, u1, u2, hrl, eis, lW, hisz, u3, u4, ea, -tZ, -zo, -List.map_map]
  ·have ep := x9 CR CP CN CQ 64 hne hw h1 h2 h3 h4 h5
   have erf := refused2 CR CP CN CQ 64 (Ne.symm hqn) (zD CR CP CN CQ 64 hw (x := (w.fl.length : Int) - 1) (by omega) (by omega) ep)
   simp [xj, zf, es, er, em, ef, ec, eq, e1, e2, e3, hm1, hm2, el, pD, hL, hL2, vn, elst, jv, erf, -tZ, -zo, -List.map_map]
end
theorem fin_mk {P : Program} {w : World} {K : PySem.W.Frag} {mg : Str -> Option Value} {st : Stmt} {ps : List Str} {f : Addr} {fd : FuncData} {k : Nat} (_ : Def K mg "law" st ps f fd) (hb : ∀ (s : Shared) (v : Value), BindsTo s fd ⟨[v], []⟩ [("_law_script", v)]) (h : ∀ base : Heap, cJ P w K mg base CX0 k f fd ["_law_script"] (wX K)) : ∃ fd : FuncData, (∀ (s : Shared) (v : Value), BindsTo s fd ⟨[v], []⟩ [("_law_script", v)]) /\ ∀ base : Heap, K.In base -> base.Ns mainGlobals mg -> cJ P w K mg base CX0 k f fd ["_law_script"] (wX K) := ⟨fd, hb, fun base _ _ => h base⟩
theorem all_mk {l : PySem.W.OpenLaw} {w : World} {K : PySem.W.Frag} {h : Heap} {mg : Str -> Option Value} {fa CR CP b9 bo xy f_nR f_nP CN pY CQ AStripError ANoTime ANoPlan ANoRow ANoRules ANoSheet ANotFree ATooMany : Addr} {pV qf rO sH od_law an_law od_nR an_nR od_nP an_nP od_nCN an_nCN : Option Addr} {pM rz sl_law sl_nR sl_nP sl_nCN : Array (Option Value)} {pW pX qc pR lY qe rP rV sx rE mT sy oc_law kV_law dc_law pm_law cd_law ct_law oc_nR kV_nR dc_nR pm_nR cd_nR ct_nR oc_nP kV_nP dc_nP pm_nP cd_nP ct_nP oc_nCN kV_nCN dc_nCN pm_nCN cd_nCN ct_nCN : Value} {pL t4 : Tok} (KX : K.In h) (G : h.Ns mainGlobals mg) (hfa : mg "law" = some (.ref fa))
  (zN : nsIn K mainGlobals "Rules" = some (some (.ref CR)))
  (vt : PySem.W.plainGet K CR Str.empty = true)
  (vw : PySem.W.hasDictIn K CR = true)
  (vq : plainOver K CR = true)
  (vp : PySem.W.findIn K (.ref CR) "__setattr__" = some (some (.builtin "object.__setattr__")))
  (vu : PySem.W.makesIn K CR = true)
  (vv : keepIn K (.ref CR) = true)
  (vy : PySem.W.findIn K (.ref CR) "__class__" = some (some (.builtin "object.__class__")))
  (vx : PySem.W.mroIn K CR (.type "object") = some true)
  (mK : PySem.W.findIn K (.ref CR) "gaps" = some none)
  (oQ : PySem.W.findIn K (.ref CR) "beside" = some none)
  (zO : nsIn K mainGlobals "Pair" = some (some (.ref CP)))
  (vB : PySem.W.plainGet K CP Str.empty = true)
  (vF : PySem.W.hasDictIn K CP = true)
  (vA : plainOver K CP = true)
  (vz : PySem.W.findIn K (.ref CP) "__setattr__" = some (some (.builtin "object.__setattr__")))
  (vC : PySem.W.makesIn K CP = true)
  (vE : keepIn K (.ref CP) = true)
  (vH : PySem.W.findIn K (.ref CP) "__class__" = some (some (.builtin "object.__class__")))
  (vG : PySem.W.mroIn K CP (.type "object") = some true)
  (l4 : PySem.W.findIn K (.ref CP) "gaps" = some none)
  (jU : PySem.W.findIn K (.ref CP) "beside" = some none)
  (o2 : specialIn K (.builtin "object.__class__") "__get__" = some (some (.builtin "getset_descriptor.__get__")))
  (o3 : takesIn K (.builtin "object.__class__") = some true)
  (x_ne : CR ≠ CP)
  (ml : ∃ f fd, Def K mg "_law_draw" bL ["_law_script", "_law_k"] f fd)
  (lq : ∃ f fd, Def K mg "_law_scale" iy ["_law_script"] f fd)
  (mj : ∃ f fd, Def K mg "_law_gaps" jP ["_law_script", "_law_by", "_law_kinds", "_law_scale_here"] f fd)
  (i0 : ∃ f fd, Def K mg "_law_rules_of" eO ["_law_script", "_law_scale_here"] f fd)
  (jZ : ∃ f fd, Def K mg "copied_rows" gG ["rows"] f fd)
  (rY : ∃ f fd, Def K mg "is_gap" oh ["number"] f fd)
  (ll : ∃ f fd, Def K mg "is_gap_row" iu ["row", "kinds"] f fd)
  (iV : ∃ f fd, Def K mg "checked_rows" du ["rows"] f fd)
  (mi : ∃ f fd, Def K mg "_law_made" jO ["_law_rules"] f fd)
  (iX : ∃ f fd, Def K mg "_law_flights" fU ["_law_script", "_law_rules", "_law_most", "_law_scale_here"] f fd)
  (nB : ∃ f fd, Def K mg "spots_of" jd ["flights", "plan"] f fd)
  (eR : ∃ f fd, Def K mg "joined_stretches" cC ["closed"] f fd)
  (md : ∃ f fd, Def K mg "next_open" jM ["closed", "time"] f fd)
  (ku : PySem.W.findIn K (.ref CR) "apart" = some (some (.ref b9)))
  (jY : PySem.W.isFn K (.ref b9) = true)
  (jW : K.lookup b9 = some ⟨pW, pV, .func (fnOf "apart" "Rules.apart" (dn cb) (cm cb) (aq cb) .none pX qc pR qf lY qe), pM⟩)
  (ki : codeIn K lY "Rules.apart" = true)
  (jX : keepIn K (.ref b9) = true)
  (lK : PySem.W.findIn K (.ref CP) "apart" = some (some (.ref bo)))
  (lj : PySem.W.isFn K (.ref bo) = true)
  (l6 : K.lookup bo = some ⟨rP, rO, .func (fnOf "apart" "Pair.apart" (dn cM) (cm cM) (aq cM) .none rV sx rE sH mT sy), rz⟩)
  (lH : codeIn K mT "Pair.apart" = true)
  (l8 : keepIn K (.ref bo) = true)
  (mf : ∃ f fd, Def K mg "gap_times" gW ["rules", "spots", "times", "place"] f fd)
  (nA : ∃ f fd, Def K mg "times_of" jc ["rules", "flights", "closed", "plan"] f fd)
  (p8 : ∃ f fd, Def K mg "push_of" mE ["flight", "closed", "gaps", "time"] f fd)
  (ma : ∃ f fd, Def K mg "pushes_of" gU ["rules", "flights", "closed", "plan"] f fd)
  (k4 : ∃ f fd, Def K mg "_law_closed" gH ["_law_script", "_law_scale_here"] f fd)
  (mh : ∃ f fd, Def K mg "_law_plan" jN ["_law_script", "_law_rules", "_law_flights_here"] f fd)
  (gz : ∃ f fd, Def K mg "_law_open_from" dG ["_law_closed_here", "_law_time"] f fd)
  (lu : ∃ f fd, Def K mg "_law_apart" g6 ["_law_rules", "_law_flights_here", "_law_one", "_law_other"] f fd)
  (lr : ∃ f fd, Def K mg "_law_least" iz ["_law_rules", "_law_flights_here", "_law_closed_here", "_law_plan_here"] f fd)
  (nC : ∃ f fd, Def K mg "is_place" lM ["flights", "place"] f fd)
  (nE : ∃ f fd, Def K mg "chain_of" jf ["rules", "flights", "closed", "plan", "place"] f fd)
  (iW : ∃ f fd, Def K mg "_law_refused" fS ["_law_made_here", "_law_lists", "_law_place"] f fd)
  (lp : ∃ f fd, Def K mg "_law_whole" iw ["_law_found"] f fd)
  (fM : ∃ f fd, Def K mg "_law_chain_good" d6 ["_law_rules", "_law_lists", "_law_times", "_law_pushes", "_law_chain"] f fd)
  (a_law : nsIn K mainGlobals "law" = some (some (.ref xy)))
  (l_law : K.lookup xy = some ⟨oc_law, od_law, .func (fnOf "law" "law" (dn x5) (cm x5) (aq x5) .none kV_law dc_law pm_law an_law cd_law ct_law), sl_law⟩)
  (d_law : codeIn K cd_law "law" = true)
  (k_law : keepIn K (.ref xy) = true)
  (a_nR : PySem.W.findIn K (.ref CR) "__init__" = some (some (.ref f_nR)))
  (i_nR : PySem.W.isFn K (.ref f_nR) = true)
  (l_nR : K.lookup f_nR = some ⟨oc_nR, od_nR, .func (fnOf "__init__" "Rules.__init__" (dn s_nR) (cm s_nR) (aq s_nR) .none kV_nR dc_nR pm_nR an_nR cd_nR ct_nR), sl_nR⟩)
  (d_nR : codeIn K cd_nR "Rules.__init__" = true)
  (k_nR : keepIn K (.ref f_nR) = true)
  (a_nP : PySem.W.findIn K (.ref CP) "__init__" = some (some (.ref f_nP)))
  (i_nP : PySem.W.isFn K (.ref f_nP) = true)
  (l_nP : K.lookup f_nP = some ⟨oc_nP, od_nP, .func (fnOf "__init__" "Pair.__init__" (dn s_nP) (cm s_nP) (aq s_nP) .none kV_nP dc_nP pm_nP an_nP cd_nP ct_nP), sl_nP⟩)
  (d_nP : codeIn K cd_nP "Pair.__init__" = true)
  (k_nP : keepIn K (.ref f_nP) = true)
  (x_s1 : specialIn K (.ref CR) "__getattribute__" = some (some (.builtin "type.__getattribute__")))
  (x_s2 : PySem.W.readsIn K CR (.type "type") = true)
  (x_s3 : PySem.W.findCls K (.ref CR) (.type "type") "__init__" = some (.val (.ref f_nR)))
  (sS : nsIn K mainGlobals "NoTime" = some (some (.ref CN)))
  (a_nCN : PySem.W.findIn K (.ref CN) "__init__" = some (some (.ref pY)))
  (i_nCN : PySem.W.isFn K (.ref pY) = true)
  (l_nCN : K.lookup pY = some ⟨oc_nCN, od_nCN, .func (fnOf "__init__" "NoTime.__init__" (dn uT) (cm uT) (aq uT) .none kV_nCN dc_nCN pm_nCN an_nCN cd_nCN ct_nCN), sl_nCN⟩)
  (d_nCN : codeIn K cd_nCN "NoTime.__init__" = true)
  (k_nCN : keepIn K (.ref pY) = true)
  (rg : nV K CN [.type "ValueError", .type "Exception", .type "BaseException", .type "object"] "ValueError.__new__" pY = true)
  (uJ : keepIn K (.ref CN) = true)
  (uM : PySem.W.findIn K (.ref CN) "__getattribute__" = some (some (.builtin "BaseException.__getattribute__")))
  (uN : PySem.W.findIn K (.ref CN) "__class__" = some (some (.builtin "object.__class__")))
  (uL : PySem.W.findIn K (.ref CN) "__getattr__" = some none)
  (rj : PySem.W.mroIn K CN (.type "BaseException") = some true)
  (uI : PySem.W.mroIn K CN (.type "object") = some true)
  (uK : (PySem.W.clsIn K CN).isSome = true)
  (r9 : PySem.W.findIn K (.ref CN) "__setattr__" = some (some (.builtin "object.__setattr__")))
  (rh : ((PySem.W.clsIn K CN).any fun cd => oF cd.mro && cd.hasDict) = true)
  (kQ : PySem.W.findIn K (.ref CN) "flight" = some none)
  (ng : PySem.W.findIn K (.ref CN) "time" = some none)
  (vM : nsIn K mainGlobals "NoPlace" = some (some (.ref CQ)))
  (jK : nsIn K mainGlobals "StripError" = some (some (.ref AStripError)))
  (oA : nsIn K mainGlobals "NoTime" = some (some (.ref ANoTime)))
  (oB : nsIn K mainGlobals "NoPlan" = some (some (.ref ANoPlan)))
  (rl : nsIn K mainGlobals "NoRow" = some (some (.ref ANoRow)))
  (nk : nsIn K mainGlobals "NoRules" = some (some (.ref ANoRules)))
  (nj : nsIn K mainGlobals "NoSheet" = some (some (.ref ANoSheet)))
  (ni : nsIn K mainGlobals "NotFree" = some (some (.ref ANotFree)))
  (nh : nsIn K mainGlobals "TooMany" = some (some (.ref ATooMany)))
  (eG : kitOne K (.ref CQ) (.ref AStripError) = some true)
  (eI : kitOne K (.ref CQ) (.type "ValueError") = some true)
  (uC : kitAny K (.ref CQ) ([ANoTime, ANoPlan, ANoRow, ANoRules, ANoSheet, ANotFree, ATooMany].map Value.ref) = some false)
  (nc : CN ≠ CQ)
  (uv : PySem.W.typeIn K (.ref CQ) = some (.type "type"))
  (uw : PySem.W.typeIn K (.ref CN) = some (.type "type"))
  (uy : PySem.W.mroIn K CQ (.ref CQ) = some true)
  (ux : PySem.W.mroIn K CN (.ref CN) = some true)
  (uA : PySem.W.mroIn K CN (.ref CQ) = some false)
  (uG : PySem.W.findIn K (.ref CQ) "__getattribute__" = some (some (.builtin "BaseException.__getattribute__")))
  (uH : PySem.W.findIn K (.ref CQ) "__class__" = some (some (.builtin "object.__class__")))
  (uF : PySem.W.findIn K (.ref CQ) "__getattr__" = some none)
  (r6 : PySem.W.mroIn K CQ (.type "BaseException") = some true)
  (uD : PySem.W.mroIn K CQ (.type "object") = some true)
  (uE : (PySem.W.clsIn K CQ).isSome = true)
  (xO : PySem.W.excIn K CQ [.type "ValueError", .type "Exception", .type "BaseException", .type "object"] "ValueError.__new__" = true)
  (x_n10 : CQ ≠ CN)
  (g5 : nsIn K mainGlobals "ValueError" = some none)
  (wO : nsIn K mainGlobals "all" = some none)
  (qj : nsIn K mainGlobals "bool" = some none)
  (fD : nsIn K mainGlobals "enumerate" = some none)
  (qZ : nsIn K mainGlobals "int" = some none)
  (aP : nsIn K mainGlobals "isinstance" = some none)
  (fy : nsIn K mainGlobals "len" = some none)
  (nP : nsIn K mainGlobals "list" = some none)
  (ur : nsIn K mainGlobals "max" = some none)
  (sR : nsIn K mainGlobals "min" = some none)
  (eF : nsIn K mainGlobals "range" = some none)
  (j9 : nsIn K mainGlobals "reversed" = some none)
  (lL : nsIn K mainGlobals "sorted" = some none)
  (oz : nsIn K mainGlobals "tuple" = some none)
  (dz : nsIn K mainGlobals "GREATEST_GAP" = some (some (.int 1000000 pL)))
  (gc : nsIn K mainGlobals "MOST_KINDS" = some (some (.int 6 t4)))
  (l3 : kitOne K (.type "int") (.type "int") = some true)
  (jn : kitOne K (.type "bool") (.type "int") = some true)
  (jj : kitOne K (.type "list") (.type "int") = some false)
  (gY : kitOne K (.type "tuple") (.type "int") = some false)
  (kZ : kitOne K (.type "str") (.type "int") = some false)
  (dw : kitOne K (.type "NoneType") (.type "int") = some false)
  (jl : kitOne K (.type "int") (.type "bool") = some false)
  (hW : kitOne K (.type "bool") (.type "bool") = some true)
  (hI : kitOne K (.type "list") (.type "bool") = some false)
  (g8 : kitOne K (.type "tuple") (.type "bool") = some false)
  (jh : kitOne K (.type "str") (.type "bool") = some false)
  (cO : kitOne K (.type "NoneType") (.type "bool") = some false)
  (jk : kitOne K (.type "int") (.type "list") = some false)
  (hV : kitOne K (.type "bool") (.type "list") = some false)
  (hG : kitOne K (.type "list") (.type "list") = some true)
  (g7 : kitOne K (.type "tuple") (.type "list") = some false)
  (jg : kitOne K (.type "str") (.type "list") = some false)
  (cN : kitOne K (.type "NoneType") (.type "list") = some false)
  (hU : kitOne K (.type "int") (.type "tuple") = some false)
  (gb : kitOne K (.type "bool") (.type "tuple") = some false)
  (g9 : kitOne K (.type "list") (.type "tuple") = some false)
  (eP : kitOne K (.type "tuple") (.type "tuple") = some true)
  (gZ : kitOne K (.type "str") (.type "tuple") = some false)
  (cu : kitOne K (.type "NoneType") (.type "tuple") = some false)
  (l0 : kitOne K (.type "int") (.type "str") = some false)
  (jm : kitOne K (.type "bool") (.type "str") = some false)
  (ji : kitOne K (.type "list") (.type "str") = some false)
  (gX : kitOne K (.type "tuple") (.type "str") = some false)
  (kY : kitOne K (.type "str") (.type "str") = some true)
  (dv : kitOne K (.type "NoneType") (.type "str") = some false) :
  ∃ fd : FuncData, (∀ (s : Shared) (v : Value), BindsTo s fd ⟨[v], []⟩ [("_law_script", v)]) /\ ∀ base : Heap, K.In base -> base.Ns mainGlobals mg -> cJ l.prog w K mg base CX0 8 fa fd ["_law_script"] (wX K) := by
 have e := hfa.symm.trans (mg_of KX G a_law)
 cases e
 have K_CR := kls_of (mg := mg) KX G zN vt vw vq vp vu vv vy o2 o3 vx
 have K_CP := kls_of (mg := mg) KX G zO vB vF vA vz vC vE vH o2 o3 vG
 obtain ⟨aL, aG, bN⟩ := ml
 obtain ⟨gq, eX, iR⟩ := lq
 obtain ⟨i7, gm, kF⟩ := mj
 obtain ⟨cW, cw, fw⟩ := i0
 obtain ⟨f6, dA, gR⟩ := jZ
 obtain ⟨mQ, lB, oy⟩ := rY
 obtain ⟨gn, eV, iP⟩ := ll
 obtain ⟨b8, aU, aF⟩ := iV
 obtain ⟨i6, gk, kE⟩ := mi
 obtain ⟨dE, cV, g4⟩ := iX
 obtain ⟨fO, dS, jH⟩ := nB
 obtain ⟨bH, bz, cK⟩ := eR
 obtain ⟨i4, gd, kC⟩ := md
 have gT := tQ (C := CR) (st := cb) (ps := ["self", "one", "other"]) ku jY jW ki jX fun _ _ _ _ _ _ us hl => match us, hl with | [_, _, _], _ => rfl
 have iT := tQ (C := CP) (st := cM) (ps := ["self", "one", "other"]) lK lj l6 lH l8 fun _ _ _ _ _ _ us hl => match us, hl with | [_, _, _], _ => rfl
 obtain ⟨dX, cT, ig⟩ := mf
 obtain ⟨fN, dR, jG⟩ := nA
 obtain ⟨lC, jz, n8⟩ := p8
 obtain ⟨dW, cS, ie⟩ := ma
 obtain ⟨f7, dB, gS⟩ := k4
 obtain ⟨i5, gh, kD⟩ := mh
 obtain ⟨cx, bR, dM⟩ := gz
 obtain ⟨cX, cj, gv⟩ := lu
 obtain ⟨gu, eY, iS⟩ := lr
 obtain ⟨jA, i3, lR⟩ := nC
 obtain ⟨fP, dU, jI⟩ := nE
 obtain ⟨dD, cU, g0⟩ := iW
 obtain ⟨gp, eW, iQ⟩ := lp
 obtain ⟨bS, bG, dj⟩ := fM
 have D_law := bO (mg := mg) (st := x5) (ps := ["_law_script"]) KX G a_law l_law d_law k_law fun _ _ _ _ _ _ us hl => match us, hl with | [_], _ => rfl
 have n5 := gT
 have n6 := iT
 have N_R := tQ (C := CR) (st := s_nR) (ps := ["self", "gaps"]) a_nR i_nR l_nR d_nR k_nR fun _ _ _ _ _ _ us hl => match us, hl with | [_, _], _ => rfl
 have N_P := tQ (C := CP) (st := s_nP) (ps := ["self", "gaps", "beside"]) a_nP i_nP l_nP d_nP k_nP fun _ _ _ _ _ _ us hl => match us, hl with | [_, _, _], _ => rfl
 have N_CN := tQ (C := CN) (st := uT) (ps := ["self", "flight", "time"]) a_nCN i_nCN l_nCN d_nCN k_nCN fun _ _ _ _ _ _ us hl => match us, hl with | [_, _, _], _ => rfl
 have XCN : XMk K mg "NoTime" CN pY := ⟨mg_of KX G sS, rg, beq_iff_eq.mp i_nCN, uJ⟩
 have Z : Zs K mg CR CP CN CQ AStripError ANoTime ANoPlan ANoRow ANoRules ANoSheet ANotFree ATooMany := ⟨mg_of KX G jK, mg_of KX G oA, mg_of KX G oB, mg_of KX G rl, mg_of KX G nk, mg_of KX G nj, mg_of KX G ni, mg_of KX G nh, eG, eI, uC, nc, ⟨⟨mg_of KX G vM, uv, r6⟩, ⟨mg_of KX G sS, uw, rj⟩, ⟨uG, uH, uF, r6, uD, Option.isSome_iff_exists.mp uE⟩, uy, ux, uA⟩, ⟨mg_of KX G vM, xO⟩, ⟨mg_of KX G sS, xnamed2 rg, ⟨uM, uN, uL, rj, uI, Option.isSome_iff_exists.mp uK⟩⟩, ⟨r9, kQ, rh⟩, ⟨r9, ng, rh⟩, K_CR, K_CP, (by intro C h; simp only [List.mem_cons, List.not_mem_nil, or_false] at h; exact h.elim (fun e => by subst e; exact ⟨K_CR.cl, mK⟩) (fun e => by subst e; exact ⟨K_CP.cl, l4⟩)), (by intro C h; simp only [List.mem_cons, List.not_mem_nil, or_false] at h; subst h; exact ⟨K_CP.cl, jU⟩), mg_none_of KX G g5, mg_none_of KX G wO, mg_none_of KX G qj, mg_none_of KX G fD, mg_none_of KX G qZ, mg_none_of KX G aP, mg_none_of KX G fy, mg_none_of KX G nP, mg_none_of KX G ur, mg_none_of KX G sR, mg_none_of KX G eF, mg_none_of KX G j9, mg_none_of KX G lL, mg_none_of KX G oz, ⟨_, mg_of KX G dz⟩, ⟨_, mg_of KX G gc⟩, ⟨l3, jn, jj, gY, kZ, dw, jl, hW, hI, g8, jh, cO, jk, hV, hG, g7, jg, cN, hU, gb, g9, eP, gZ, cu, l0, jm, ji, gX, kY, dv⟩⟩
 refine fin_mk D_law (fun s v => .of_eq rfl) fun base => law_ok (ro := false) (mlaw := xj CR CP CN CQ) (fun n => ?_) (law_true CR CP CN CQ x_ne x_n10)
 have A0 := okn_CN (P := l.prog) (w := w) (base := base) (mg := mg) N_CN.fn Z.aCN_flight Z.aCN_time
 have cZ := tN (n := n) (P := l.prog) (w := w) (base := base) Z  bN
 have sM := rK (n := n) (P := l.prog) (w := w) (base := base) Z ⟨bN, cZ⟩ iR
 have uo := tM (n := n) (P := l.prog) (w := w) (base := base) Z ⟨bN, cZ⟩ kF
 have o9 := nY (n := n) (P := l.prog) (w := w) (base := base) Z ⟨kF, uo⟩ ⟨bN, cZ⟩ fw
 have qg := pS (n := n) (P := l.prog) (w := w) (base := base) Z  gR
 have zZ := yB (n := n) (P := l.prog) (w := w) (base := base) Z  oy
 have sI := rH (n := n) (P := l.prog) (w := w) (base := base) Z ⟨oy, zZ⟩ iP
 have ic := oN (n := n) (P := l.prog) (w := w) (base := base) Z ⟨gR, qg⟩ ⟨iP, sI⟩ aF
 have OKN_R := okn_R (n := n) (P := l.prog) (w := w) (base := base) (CR := CR) (CP := CP) (CN := CN) (CQ := CQ) (C := CR) aF ic N_R.fn K_CR.cl mK
 have OKN_RP := okn_R (n := n) (P := l.prog) (w := w) (base := base) (CR := CR) (CP := CP) (CN := CN) (CQ := CQ) (C := CP) aF ic N_R.fn K_CP.cl l4
 have OKN_P := okn_P (n := n) (P := l.prog) (w := w) (base := base) (CR := CR) (CP := CP) (CN := CN) (CQ := CQ) aF ic ⟨x_s1, x_s2, x_s3, k_nR⟩ N_R.bd OKN_RP K_CR.mg (mg_none_of KX G fy) N_P.fn K_CP.cl l4 jU
 have um := tL (n := n) (P := l.prog) (w := w) (base := base) Z N_P OKN_P N_R OKN_R kE
 have pI := oP (n := n) (P := l.prog) (w := w) (base := base) Z ⟨bN, cZ⟩ g4
 have pF := v8 (n := n) (P := l.prog) (w := w) (base := base) Z  jH
 have mx := m8 (n := n) (P := l.prog) (w := w) (base := base) Z  cK
 have uj := tI (n := n) (P := l.prog) (w := w) (base := base) Z ⟨cK, mx⟩ kC
 have j7 := pU (n := n) (P := l.prog) (w := w) (base := base) Z  gT
 have kA := rN (n := n) (P := l.prog) (w := w) (base := base) Z  iT
 have nX := tJ (n := n) (P := l.prog) (w := w) (base := base) Z n5 j7 n6 kA ig
 have pE := v7 (n := n) (P := l.prog) (w := w) (base := base) Z ⟨jH, pF⟩ ⟨kC, uj⟩ ⟨ig, nX⟩ N_CN XCN A0 jG
 have xI := xf (n := n) (P := l.prog) (w := w) (base := base) Z  n8
 have nW := tH (n := n) (P := l.prog) (w := w) (base := base) Z ⟨jG, pE⟩ ⟨jH, pF⟩ ⟨ig, nX⟩ ⟨n8, xI⟩ ie
 have qh := pT (n := n) (P := l.prog) (w := w) (base := base) Z ⟨bN, cZ⟩ gS
 have uk := tK (n := n) (P := l.prog) (w := w) (base := base) Z ⟨bN, cZ⟩ kD
 have nO := ny (n := n) (P := l.prog) (w := w) (base := base) Z  dM
 have n4 := rM (n := n) (P := l.prog) (w := w) (base := base) Z  gv
 have sN := rL (n := n) (P := l.prog) (w := w) (base := base) Z ⟨dM, nO⟩ ⟨gv, n4⟩ iS
 have vK := v9 (n := n) (P := l.prog) (w := w) (base := base) Z  lR
 have pG := vb (n := n) (P := l.prog) (w := w) (base := base) Z ⟨ie, nW⟩ ⟨lR, vK⟩ jI
 have pH := oO (n := n) (P := l.prog) (w := w) (base := base) Z ⟨jI, pG⟩ g0
 have sJ := rJ (n := n) (P := l.prog) (w := w) (base := base) Z  iQ
 have n0 := mJ (n := n) (P := l.prog) (w := w) (base := base) Z ⟨gv, n4⟩ ⟨iQ, sJ⟩ dj
 have OK_law := ok_law (n := n) (P := l.prog) (w := w) (base := base) Z ⟨iR, sM⟩ ⟨fw, o9⟩ ⟨kE, um⟩ ⟨g4, pI⟩ ⟨jG, pE⟩ ⟨ie, nW⟩ ⟨gS, qh⟩ ⟨kD, uk⟩ ⟨iS, sN⟩ ⟨jI, pG⟩ ⟨bN, cZ⟩ ⟨g0, pH⟩ ⟨dj, n0⟩ D_law
 exact OK_law
theorem walk {l : PySem.W.OpenLaw} {q : Program} {loose : List Str} {XP : (Str -> Option Value) -> Heap -> Prop} {YP : World -> Heap -> Prop} {d : DefRec} {K : Params -> PySem.W.Frag} (hn : l.most = some 63) (hdf : d.params.defaults = [])
  (hY : ∀ (w : World) (h : Heap), YP w h -> (K w.params).In h)
  (F : ∀ (w : World) (mg : Str -> Option Value) (fa : Addr) (h : Heap), (K w.params).In h -> h.Ns mainGlobals mg -> mg d.name = some (.ref fa) ->
   ∃ fd : FuncData, (∀ (s : Shared) (u : Value), BindsTo s fd ⟨[u], []⟩ [("_law_script", u)]) /\ ∀ base : Heap, (K w.params).In base -> base.Ns mainGlobals mg -> cJ l.prog w (K w.params) mg base CX0 8 fa fd ["_law_script"] (wX (K w.params))) :
  PySem.W.WalkO q loose XP YP l.row.toRowW d [] (fun f vs => PySem.call f vs) :=
 L2.walk_of (n := 63) (k := 8) (x := "_law_script") (CX := fun _ => CX0) (sp := fun w => wX (K w.params)) hn (by decide) hdf ⟨rfl, by decide, by decide⟩ hY F (fun _ _ a ns hl _ hS => ⟨a, ns, rfl, hS, hl, fun _ => rfl⟩) fun _ _ _ _ _ z => z
end Ru
open PySem PySem.W PyProof.Rows
namespace PySem.W.Fast
noncomputable def tw15394271040316660631:Nat:=0
noncomputable def tw6030542210112292172:Nat:=0
noncomputable def tw7981314353246241088:Nat:=0
noncomputable def tw7521595331110872521:Nat:=0
noncomputable def tw12887168135801164084:Nat:=0
noncomputable def tw9933032302072142571:Nat:=0
noncomputable def tw10699940271113232058:Nat:=0
noncomputable def tw10954524283354255813:Nat:=0
noncomputable def tw17543052296538641978:Nat:=0
noncomputable def tw5481133114572509994:Nat:=0
noncomputable def tw3659180507570445973:Nat:=0
noncomputable def tw17390057225262941191:Nat:=0
noncomputable def tw15922807220255358630:Nat:=0
noncomputable def tw8389561597531403427:Nat:=0
noncomputable def tw12347087889884306117:Nat:=0
noncomputable def tw16872367022292677792:Nat:=0
noncomputable def tw10331188836811729717:Nat:=0
noncomputable def tw6974370271436795432:Nat:=0
noncomputable def tw11377411155320574198:Nat:=0
noncomputable def tw7246669022422803872:Nat:=0
noncomputable def tw14957683718591080832:Nat:=0
noncomputable def tw5829920052463542483:Nat:=0
noncomputable def tw9138812294497831620:Nat:=0
noncomputable def tw9145702855977204157:Nat:=0
noncomputable def tw1060176738617782083:Nat:=0
noncomputable def tw11614390760411829026:Nat:=0
noncomputable def tw3294503693248124116:Nat:=0
noncomputable def tw2780621296814762816:Nat:=0
noncomputable def tw7881638685762764978:Nat:=0
noncomputable def tw12566591599656035100:Nat:=0
noncomputable def tw2001076031511654549:Nat:=0
noncomputable def tw12378845211077101082:Nat:=0
noncomputable def tw11173967013590828701:Nat:=0
noncomputable def tw15296861714938919616:Nat:=0
noncomputable def tw4710619340755421330:Nat:=0
noncomputable def tw8575402565547994053:Nat:=0
noncomputable def tw17610062571449756567:Nat:=0
noncomputable def tw1692945733719541076:Nat:=0
noncomputable def tw10404964421986495824:Nat:=0
noncomputable def tw12277850311861701532:Nat:=0
noncomputable def tw14766935965405711565:Nat:=0
noncomputable def tw5677051704529871002:Nat:=0
noncomputable def tw16607921118877016576:Nat:=0
noncomputable def tw8147405093704552314:Nat:=0
noncomputable def tw14088271945332968046:Nat:=0
noncomputable def tw9469991002684305614:Nat:=0
noncomputable def tw11559705437556155957:Nat:=0
noncomputable def tw9378522599802593463:Nat:=0
noncomputable def tw6556943515896589552:Nat:=0
noncomputable def tw861386525482326399:Nat:=0
noncomputable def tw7734218490001844395:Nat:=0
noncomputable def tw16236584903121050653:Nat:=0
noncomputable def tw14492872913026106749:Nat:=0
noncomputable def tw2501416191665986365:Nat:=0
noncomputable def tw13364868678528815973:Nat:=0
noncomputable def tw6088034385085574051:Nat:=0
noncomputable def tw4055769873732157513:Nat:=0
noncomputable def tw10789830788567924234:Nat:=0
noncomputable def tw6972547413204266357:Nat:=0
noncomputable def tw16463065279325575426:Nat:=0
noncomputable def tw5437350283667979792:Nat:=0
noncomputable def tw1460696117538712613:Nat:=0
noncomputable def tw2679410259582331574:Nat:=0
noncomputable def tw471046000496946222:Nat:=0
noncomputable def tw17136192270467896226:Nat:=0
noncomputable def tw16443193126270090592:Nat:=0
noncomputable def tw6309724522962838197:Nat:=0
noncomputable def tw2714772643419192819:Nat:=0
noncomputable def tw17212708581086546806:Nat:=0
noncomputable def tw891499655806281363:Nat:=0
noncomputable def tw4677814299951855125:Nat:=0
noncomputable def tw17489162520404256418:Nat:=0
noncomputable def tw8902455571361115656:Nat:=0
noncomputable def tw2441003623879518912:Nat:=0
noncomputable def tw1859006350915729952:Nat:=0
noncomputable def tw877948847861297304:Nat:=0
noncomputable def tw1638695365361560232:Nat:=0
noncomputable def tw4488949535175313439:Nat:=0
noncomputable def tw7623437920104091993:Nat:=0
noncomputable def tw7475756277959278148:Nat:=0
noncomputable def tw1570306706559701184:Nat:=0
noncomputable def tw1983727574291669532:Nat:=0
noncomputable def tw14415754742172884501:Nat:=0
noncomputable def tw5681452796537862636:Nat:=0
noncomputable def tw11456211497267002410:Nat:=0
noncomputable def tw8194600746120314210:Nat:=0
noncomputable def tw12461042095129998540:Nat:=0
noncomputable def tw17710587308839648196:Nat:=0
noncomputable def tw8418814934921030991:Nat:=0
noncomputable def tw909620355580391781:Nat:=0
noncomputable def tw8578798579332538158:Nat:=0
noncomputable def tw2036101537087912393:Nat:=0
noncomputable def tw12668043233571933948:Nat:=0
noncomputable def tw936269770751939738:Nat:=0
noncomputable def tw8906133667246750069:Nat:=0
noncomputable def tw6072709132841054742:Nat:=0
noncomputable def tw13140219986757776217:Nat:=0
noncomputable def tw13042087353993014659:Nat:=0
noncomputable def tw808481925776255241:Nat:=0
noncomputable def tw10010655807328202748:Nat:=0
noncomputable def tw5953902260029947084:Nat:=0
noncomputable def tw4295534274948313175:Nat:=0
noncomputable def tw15605259941679870621:Nat:=0
noncomputable def tw15294135325910841018:Nat:=0
noncomputable def tw16281106784367223587:Nat:=0
noncomputable def tw12121352429692288418:Nat:=0
noncomputable def tw11610279999049501040:Nat:=0
noncomputable def tw11322676074302110788:Nat:=0
noncomputable def tw12748543584801858221:Nat:=0
noncomputable def tw6287015905005874129:Nat:=0
noncomputable def tw4684909275576058722:Nat:=0
noncomputable def tw3174384726712255716:Nat:=0
noncomputable def tw11187855263916911235:Nat:=0
noncomputable def tw10198638022990540028:Nat:=0
noncomputable def tw1694947667934324044:Nat:=0
noncomputable def tw12078779789318238482:Nat:=0
noncomputable def tw1783245550172832098:Nat:=0
noncomputable def tw10660476946350874590:Nat:=0
noncomputable def tw9644327310633270273:Nat:=0
noncomputable def tw6403720353870703401:Nat:=0
noncomputable def tw5915452704412702574:Nat:=0
noncomputable def tw3809526807234502055:Nat:=0
noncomputable def tw17216197355979993139:Nat:=0
noncomputable def tw16856583199815535068:Nat:=0
noncomputable def tw15371709123047343512:Nat:=0
noncomputable def tw11373426717262237123:Nat:=0
noncomputable def tw1119043737586293236:Nat:=0
noncomputable def tw8976848254409696283:Nat:=0
noncomputable def tw16206205664832062367:Nat:=0
noncomputable def tw13972893641602866768:Nat:=0
noncomputable def tw13760453906078458121:Nat:=0
noncomputable def tw5577698398914825477:Nat:=0
noncomputable def tw18316844347447225627:Nat:=0
noncomputable def tw16593264037092130483:Nat:=0
noncomputable def tw1467151864661879202:Nat:=0
noncomputable def tw1444816256576544809:Nat:=0
noncomputable def tw13396172333540961170:Nat:=0
noncomputable def tw13223083227480600655:Nat:=0
noncomputable def tw11486324264592054247:Nat:=0
noncomputable def tw11485478721974990452:Nat:=0
noncomputable def tw11337091649521810521:Nat:=0
noncomputable def tw11124312195634261950:Nat:=0
noncomputable def tw10562224697508834163:Nat:=0
noncomputable def tw9932103981826545744:Nat:=0
noncomputable def tw6016852970477034088:Nat:=0
noncomputable def tw7889568241332811224:Nat:=0
noncomputable def tw7587280356121112053:Nat:=0
noncomputable def tw6387210306963944637:Nat:=0
noncomputable def tw4941222025657016541:Nat:=0
noncomputable def tw3734219536316131067:Nat:=0
noncomputable def tw3191724353133561747:Nat:=0
noncomputable def tw2879791182246340742:Nat:=0
noncomputable def tw2101791369233925292:Nat:=0
noncomputable def tw17557556734739729912:Nat:=0
noncomputable def tw16294689237359139453:Nat:=0
noncomputable def tw10209328547634371614:Nat:=0
noncomputable def tw9349747288121055758:Nat:=0
noncomputable def tw9251811779521064020:Nat:=0
noncomputable def tw8969559783872248784:Nat:=0
noncomputable def tw6291069093382947925:Nat:=0
noncomputable def tw5692870543823403996:Nat:=0
noncomputable def tw4937583422356208659:Nat:=0
noncomputable def tw4210997383019096388:Nat:=0
noncomputable def tw3588556581358351488:Nat:=0
noncomputable def tw1982332742187708281:Nat:=0
noncomputable def tw18132420872635294612:Nat:=0
noncomputable def tw15611764390166485580:Nat:=0
noncomputable def tw154715541425922610:Nat:=0
noncomputable def tw13704761820775626566:Nat:=0
noncomputable def tw1324726132189887747:Nat:=0
noncomputable def tw12808421125039317585:Nat:=0
noncomputable def tw12651646428616551901:Nat:=0
noncomputable def tw11077288745199568798:Nat:=0
noncomputable def tw10561619074442844843:Nat:=0
noncomputable def tw927189831734086765:Nat:=0
noncomputable def tw5675412920474196408:Nat:=0
noncomputable def tw3899178277069438452:Nat:=0
noncomputable def tw3715549518828369889:Nat:=0
noncomputable def tw2967177034075179593:Nat:=0
noncomputable def tw2701701618319261407:Nat:=0
noncomputable def tw15978670786077104213:Nat:=0
noncomputable def tw9877051611578556294:Nat:=0
noncomputable def tw9782165411022306124:Nat:=0
noncomputable def tw9300763131239037437:Nat:=0
noncomputable def tw8463964212284686643:Nat:=0
noncomputable def tw8389048278299691156:Nat:=0
noncomputable def tw4345644790047221005:Nat:=0
noncomputable def tw12045649122682799095:Nat:=0
noncomputable def tw11894546602595142657:Nat:=0
noncomputable def tw10730719001112478646:Nat:=0
noncomputable def tw888002321816624075:Nat:=0
noncomputable def tw789689957247372485:Nat:=0
noncomputable def tw5959168089474783836:Nat:=0
noncomputable def tw2827439237870509842:Nat:=0
noncomputable def tw17171400078205979335:Nat:=0
noncomputable def tw16473099986188011891:Nat:=0
noncomputable def tw16314631847090547172:Nat:=0
end PySem.W.Fast
set_option maxRecDepth 100000 in
set_option maxHeartbeats 0 in
theorem PySem.Challenge.cw_wakeorder_k25_chains_holds : PySem.Challenge.rw_wakeorder_k25_chains.Holds := by
 w_on; o_law; k_head; (case hw => w_witness2)
 k_fill
 refine Ru.walk (l := PySem.Challenge.rw_wakeorder_k25_chains) rfl rfl (fun w h Y => PySem.W.kIn_of Y) ?F
 case F =>
  intro w mg fa h KX G hmg
  refine' Ru.all_mk KX G hmg ?zN ?vt ?vw ?vq ?vp ?vu ?vv ?vy ?vx ?mK ?oQ ?zO ?vB ?vF ?vA ?vz ?vC ?vE ?vH ?vG ?l4 ?jU ?o2 ?o3 ?x_ne ?ml ?lq ?mj ?i0 ?jZ ?rY ?ll ?iV ?mi ?iX ?nB ?eR ?md ?ku ?jY ?jW ?ki ?jX ?lK ?lj ?l6 ?lH ?l8 ?mf ?nA ?p8 ?ma ?k4 ?mh ?gz ?lu ?lr ?nC ?nE ?iW ?lp ?fM ?a_law ?l_law ?d_law ?k_law ?a_nR ?i_nR ?l_nR ?d_nR ?k_nR ?a_nP ?i_nP ?l_nP ?d_nP ?k_nP ?x_s1 ?x_s2 ?x_s3 ?sS ?a_nCN ?i_nCN ?l_nCN ?d_nCN ?k_nCN ?rg ?uJ ?uM ?uN ?uL ?rj ?uI ?uK ?r9 ?rh ?kQ ?ng ?vM ?jK ?oA ?oB ?rl ?nk ?nj ?ni ?nh ?eG ?eI ?uC ?nc ?uv ?uw ?uy ?ux ?uA ?uG ?uH ?uF ?r6 ?uD ?uE ?xO ?x_n10 ?g5 ?wO ?qj ?fD ?qZ ?aP ?fy ?nP ?ur ?sR ?eF ?j9 ?lL ?oz ?dz ?gc ?l3 ?jn ?jj ?gY ?kZ ?dw ?jl ?hW ?hI ?g8 ?jh ?cO ?jk ?hV ?hG ?g7 ?jg ?cN ?hU ?gb ?g9 ?eP ?gZ ?cu ?l0 ?jm ?ji ?gX ?kY ?dv
  (case zN => k_is)
  (case vt => k_is)
  (case vw => k_is)
  (case vq => k_is)
  (case vp => k_is)
  (case vu => k_is)
  (case vv => k_is)
  (case vy => k_is)
  (case vx => k_is)
  (case mK => k_is)
  (case oQ => k_is)
  (case zO => k_is)
  (case vB => k_is)
  (case vF => k_is)
  (case vA => k_is)
  (case vz => k_is)
  (case vC => k_is)
  (case vE => k_is)
  (case vH => k_is)
  (case vG => k_is)
  (case l4 => k_is)
  (case jU => k_is)
  (case o2 => k_is)
  (case o3 => k_is)
  (case x_ne => first | k_is | kernel_rfl | rfl | decide +kernel)
  (case ml => exact ⟨_, _, L2.bO KX G (by k_is) (by k_is) (by k_is) (by k_is) fun _ _ _ _ _ _ us hl => match us, hl with | [_, _], _ => rfl⟩)
  (case lq => exact ⟨_, _, L2.bO KX G (by k_is) (by k_is) (by k_is) (by k_is) fun _ _ _ _ _ _ us hl => match us, hl with | [_], _ => rfl⟩)
  (case mj => exact ⟨_, _, L2.bO KX G (by k_is) (by k_is) (by k_is) (by k_is) fun _ _ _ _ _ _ us hl => match us, hl with | [_, _, _, _], _ => rfl⟩)
  (case i0 => exact ⟨_, _, L2.bO KX G (by k_is) (by k_is) (by k_is) (by k_is) fun _ _ _ _ _ _ us hl => match us, hl with | [_, _], _ => rfl⟩)
  (case jZ => exact ⟨_, _, L2.bO KX G (by k_is) (by k_is) (by k_is) (by k_is) fun _ _ _ _ _ _ us hl => match us, hl with | [_], _ => rfl⟩)
  (case rY => exact ⟨_, _, L2.bO KX G (by k_is) (by k_is) (by k_is) (by k_is) fun _ _ _ _ _ _ us hl => match us, hl with | [_], _ => rfl⟩)
  (case ll => exact ⟨_, _, L2.bO KX G (by k_is) (by k_is) (by k_is) (by k_is) fun _ _ _ _ _ _ us hl => match us, hl with | [_, _], _ => rfl⟩)
  (case iV => exact ⟨_, _, L2.bO KX G (by k_is) (by k_is) (by k_is) (by k_is) fun _ _ _ _ _ _ us hl => match us, hl with | [_], _ => rfl⟩)
  (case mi => exact ⟨_, _, L2.bO KX G (by k_is) (by k_is) (by k_is) (by k_is) fun _ _ _ _ _ _ us hl => match us, hl with | [_], _ => rfl⟩)
  (case iX => exact ⟨_, _, L2.bO KX G (by k_is) (by k_is) (by k_is) (by k_is) fun _ _ _ _ _ _ us hl => match us, hl with | [_, _, _, _], _ => rfl⟩)
  (case nB => exact ⟨_, _, L2.bO KX G (by k_is) (by k_is) (by k_is) (by k_is) fun _ _ _ _ _ _ us hl => match us, hl with | [_, _], _ => rfl⟩)
  (case eR => exact ⟨_, _, L2.bO KX G (by k_is) (by k_is) (by k_is) (by k_is) fun _ _ _ _ _ _ us hl => match us, hl with | [_], _ => rfl⟩)
  (case md => exact ⟨_, _, L2.bO KX G (by k_is) (by k_is) (by k_is) (by k_is) fun _ _ _ _ _ _ us hl => match us, hl with | [_, _], _ => rfl⟩)
  (case ku => k_is)
  (case jY => k_is)
  (case jW => k_is)
  (case ki => k_is)
  (case jX => k_is)
  (case lK => k_is)
  (case lj => k_is)
  (case l6 => k_is)
  (case lH => k_is)
  (case l8 => k_is)
  (case mf => exact ⟨_, _, L2.bO KX G (by k_is) (by k_is) (by k_is) (by k_is) fun _ _ _ _ _ _ us hl => match us, hl with | [_, _, _, _], _ => rfl⟩)
  (case nA => exact ⟨_, _, L2.bO KX G (by k_is) (by k_is) (by k_is) (by k_is) fun _ _ _ _ _ _ us hl => match us, hl with | [_, _, _, _], _ => rfl⟩)
  (case p8 => exact ⟨_, _, L2.bO KX G (by k_is) (by k_is) (by k_is) (by k_is) fun _ _ _ _ _ _ us hl => match us, hl with | [_, _, _, _], _ => rfl⟩)
  (case ma => exact ⟨_, _, L2.bO KX G (by k_is) (by k_is) (by k_is) (by k_is) fun _ _ _ _ _ _ us hl => match us, hl with | [_, _, _, _], _ => rfl⟩)
  (case k4 => exact ⟨_, _, L2.bO KX G (by k_is) (by k_is) (by k_is) (by k_is) fun _ _ _ _ _ _ us hl => match us, hl with | [_, _], _ => rfl⟩)
  (case mh => exact ⟨_, _, L2.bO KX G (by k_is) (by k_is) (by k_is) (by k_is) fun _ _ _ _ _ _ us hl => match us, hl with | [_, _, _], _ => rfl⟩)
  (case gz => exact ⟨_, _, L2.bO KX G (by k_is) (by k_is) (by k_is) (by k_is) fun _ _ _ _ _ _ us hl => match us, hl with | [_, _], _ => rfl⟩)
  (case lu => exact ⟨_, _, L2.bO KX G (by k_is) (by k_is) (by k_is) (by k_is) fun _ _ _ _ _ _ us hl => match us, hl with | [_, _, _, _], _ => rfl⟩)
  (case lr => exact ⟨_, _, L2.bO KX G (by k_is) (by k_is) (by k_is) (by k_is) fun _ _ _ _ _ _ us hl => match us, hl with | [_, _, _, _], _ => rfl⟩)
  (case nC => exact ⟨_, _, L2.bO KX G (by k_is) (by k_is) (by k_is) (by k_is) fun _ _ _ _ _ _ us hl => match us, hl with | [_, _], _ => rfl⟩)
  (case nE => exact ⟨_, _, L2.bO KX G (by k_is) (by k_is) (by k_is) (by k_is) fun _ _ _ _ _ _ us hl => match us, hl with | [_, _, _, _, _], _ => rfl⟩)
  (case iW => exact ⟨_, _, L2.bO KX G (by k_is) (by k_is) (by k_is) (by k_is) fun _ _ _ _ _ _ us hl => match us, hl with | [_, _, _], _ => rfl⟩)
  (case lp => exact ⟨_, _, L2.bO KX G (by k_is) (by k_is) (by k_is) (by k_is) fun _ _ _ _ _ _ us hl => match us, hl with | [_], _ => rfl⟩)
  (case fM => exact ⟨_, _, L2.bO KX G (by k_is) (by k_is) (by k_is) (by k_is) fun _ _ _ _ _ _ us hl => match us, hl with | [_, _, _, _, _], _ => rfl⟩)
  (case a_law => k_is)
  (case l_law => k_is)
  (case d_law => k_is)
  (case k_law => k_is)
  (case a_nR => k_is)
  (case i_nR => k_is)
  (case l_nR => k_is)
  (case d_nR => k_is)
  (case k_nR => k_is)
  (case a_nP => k_is)
  (case i_nP => k_is)
  (case l_nP => k_is)
  (case d_nP => k_is)
  (case k_nP => k_is)
  (case x_s1 => first | k_is | kernel_rfl | rfl | decide +kernel)
  (case x_s2 => first | k_is | kernel_rfl | rfl | decide +kernel)
  (case x_s3 => first | k_is | kernel_rfl | rfl | decide +kernel)
  (case sS => first | k_is | kernel_rfl | rfl | decide +kernel)
  (case a_nCN => k_is)
  (case i_nCN => k_is)
  (case l_nCN => k_is)
  (case d_nCN => k_is)
  (case k_nCN => k_is)
  (case rg => first | k_is | kernel_rfl | rfl | decide +kernel)
  (case uJ => first | k_is | kernel_rfl | rfl | decide +kernel)
  (case uM => first | k_is | kernel_rfl | rfl | decide +kernel)
  (case uN => first | k_is | kernel_rfl | rfl | decide +kernel)
  (case uL => first | k_is | kernel_rfl | rfl | decide +kernel)
  (case rj => first | k_is | kernel_rfl | rfl | decide +kernel)
  (case uI => first | k_is | kernel_rfl | rfl | decide +kernel)
  (case uK => first | k_is | kernel_rfl | rfl | decide +kernel)
  (case r9 => first | k_is | kernel_rfl | rfl | decide +kernel)
  (case rh => first | k_is | kernel_rfl | rfl | decide +kernel)
  (case kQ => first | k_is | kernel_rfl | rfl | decide +kernel)
  (case ng => first | k_is | kernel_rfl | rfl | decide +kernel)
  (case vM => first | k_is | kernel_rfl | rfl | decide +kernel)
  (case jK => first | k_is | kernel_rfl | rfl | decide +kernel)
  (case oA => first | k_is | kernel_rfl | rfl | decide +kernel)
  (case oB => first | k_is | kernel_rfl | rfl | decide +kernel)
  (case rl => first | k_is | kernel_rfl | rfl | decide +kernel)
  (case nk => first | k_is | kernel_rfl | rfl | decide +kernel)
  (case nj => first | k_is | kernel_rfl | rfl | decide +kernel)
  (case ni => first | k_is | kernel_rfl | rfl | decide +kernel)
  (case nh => first | k_is | kernel_rfl | rfl | decide +kernel)
  (case eG => first | k_is | kernel_rfl | rfl | decide +kernel)
  (case eI => first | k_is | kernel_rfl | rfl | decide +kernel)
  (case uC => first | k_is | kernel_rfl | rfl | decide +kernel)
  (case nc => first | k_is | kernel_rfl | rfl | decide +kernel)
  (case uv => first | k_is | kernel_rfl | rfl | decide +kernel)
  (case uw => first | k_is | kernel_rfl | rfl | decide +kernel)
  (case uy => first | k_is | kernel_rfl | rfl | decide +kernel)
  (case ux => first | k_is | kernel_rfl | rfl | decide +kernel)
  (case uA => first | k_is | kernel_rfl | rfl | decide +kernel)
  (case uG => first | k_is | kernel_rfl | rfl | decide +kernel)
  (case uH => first | k_is | kernel_rfl | rfl | decide +kernel)
  (case uF => first | k_is | kernel_rfl | rfl | decide +kernel)
  (case r6 => first | k_is | kernel_rfl | rfl | decide +kernel)
  (case uD => first | k_is | kernel_rfl | rfl | decide +kernel)
  (case uE => first | k_is | kernel_rfl | rfl | decide +kernel)
  (case xO => first | k_is | kernel_rfl | rfl | decide +kernel)
  (case x_n10 => first | k_is | kernel_rfl | rfl | decide +kernel)
  (case g5 => k_is)
  (case wO => k_is)
  (case qj => k_is)
  (case fD => k_is)
  (case qZ => k_is)
  (case aP => k_is)
  (case fy => k_is)
  (case nP => k_is)
  (case ur => k_is)
  (case sR => k_is)
  (case eF => k_is)
  (case j9 => k_is)
  (case lL => k_is)
  (case oz => k_is)
  (case dz => k_is)
  (case gc => k_is)
  (case l3 => first | k_is | kernel_rfl | rfl | decide +kernel)
  (case jn => first | k_is | kernel_rfl | rfl | decide +kernel)
  (case jj => first | k_is | kernel_rfl | rfl | decide +kernel)
  (case gY => first | k_is | kernel_rfl | rfl | decide +kernel)
  (case kZ => first | k_is | kernel_rfl | rfl | decide +kernel)
  (case dw => first | k_is | kernel_rfl | rfl | decide +kernel)
  (case jl => first | k_is | kernel_rfl | rfl | decide +kernel)
  (case hW => first | k_is | kernel_rfl | rfl | decide +kernel)
  (case hI => first | k_is | kernel_rfl | rfl | decide +kernel)
  (case g8 => first | k_is | kernel_rfl | rfl | decide +kernel)
  (case jh => first | k_is | kernel_rfl | rfl | decide +kernel)
  (case cO => first | k_is | kernel_rfl | rfl | decide +kernel)
  (case jk => first | k_is | kernel_rfl | rfl | decide +kernel)
  (case hV => first | k_is | kernel_rfl | rfl | decide +kernel)
  (case hG => first | k_is | kernel_rfl | rfl | decide +kernel)
  (case g7 => first | k_is | kernel_rfl | rfl | decide +kernel)
  (case jg => first | k_is | kernel_rfl | rfl | decide +kernel)
  (case cN => first | k_is | kernel_rfl | rfl | decide +kernel)
  (case hU => first | k_is | kernel_rfl | rfl | decide +kernel)
  (case gb => first | k_is | kernel_rfl | rfl | decide +kernel)
  (case g9 => first | k_is | kernel_rfl | rfl | decide +kernel)
  (case eP => first | k_is | kernel_rfl | rfl | decide +kernel)
  (case gZ => first | k_is | kernel_rfl | rfl | decide +kernel)
  (case cu => first | k_is | kernel_rfl | rfl | decide +kernel)
  (case l0 => first | k_is | kernel_rfl | rfl | decide +kernel)
  (case jm => first | k_is | kernel_rfl | rfl | decide +kernel)
  (case ji => first | k_is | kernel_rfl | rfl | decide +kernel)
  (case gX => first | k_is | kernel_rfl | rfl | decide +kernel)
  (case kY => first | k_is | kernel_rfl | rfl | decide +kernel)
  (case dv => first | k_is | kernel_rfl | rfl | decide +kernel)
