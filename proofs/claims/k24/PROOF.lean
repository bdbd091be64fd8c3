import PyProof.Rows.All
import PyProof.InstStoreFacts
import PyProof.ExcInit
import PyProof.IsiBase
import PyProof.ExcAttrAll.ValueError
import OpenK.KDescr
import KE.KIsAll
import PyProof.Rows.CatchOwn
import PyProof.RulesTry
import PyProof.RulesAs
import PyProof.RulesDel
import OpenK.KOwn
import PyProof.ExcBaseAll.ValueError
import PyProof.StationsW
import Wide.All
import OpenK.AllK
import Wide.FinOn
import Lean
import PyProof.EqAt
import PyProof.EqKinds
import PyProof.NeKinds
import PyProof.TupleCall
import PySem.Challenge.RW_wakeorder_k24_what_pushes
set_option Elab.async false
set_option linter.all false
set_option maxRecDepth 100000
set_option hygiene false
local macro_rules
|`('a')=>`(Addr × Obj)
|`('b')=>`(model X.prog X.w)
|`('c')=>`(x == ("__debug__" : Str))
|`('d')=>`(bF X N' sc L cs s H fp)
|`('e')=>`(.lst (w.fl.map flD))
|`('f')=>`(.lst (w.qs.map stD))
|`('g')=>`(w.cs.map stD)
|`('h')=>`(.lst (ts.map .int))
|`('i')=>`(model prog w)
|`('j')=>`(.lst ((w.qs.map (oJ w.fl)).map stD))
local macro_rules
|`('k')=>`((false, eval e X.env))
|`('l')=>`((s.heap.update a (Obj.mapSeq fun _ => (#[] : Array Value))).push (seqObj "tuple" vs.toArray 0))
|`('m')=>`(backTo pos (starEach es X.env))
|`('n')=>`(Nat.le_refl _)
|`('o')=>`(["rules", "flights", "closed", "plan"])
|`('p')=>`(["_law_made_here", "_law_flights_here", "_law_closed_here", "_law_plan_here", "_law_due_here"])
|`('q')=>`(.builtin "object.__class__")
|`('r')=>`((backTo q (starEach [e] X.env)).all (fun x => !x.1) && (backToKw q (keywordEach [] X.env)).all (fun x => x.1.isSome) && decide ([e].length + ([] : List Keyword).length + (if ([] : List Keyword).isEmpty then 0 else 1) < 30))
|`('s')=>`(ns.map fun (n, k) => if (k == NameKind.free && env.scope.kind == .function && env.kindOf n == some .cell) then (n, NameKind.cell) else (n, k))
|`('t')=>`(["_law_rules", "_law_flights_here", "_law_one", "_law_other"])
local macro_rules
|`('u')=>`(hr.mono (by decide))
|`('v')=>`(fC (.int 1))
|`('w')=>`(s.heap.objs.size + 1)
|`('x')=>`(["_law_script", "_law_k"])
|`('y')=>`(.lst (ns.map .int))
|`('z')=>`(.ListComp elt [⟨tg, iter, ifs, 0⟩] sc pos)
|`('A')=>`(["_law_rules", "_law_flights_here", "_law_closed_here", "_law_plan_here"])
|`('B')=>`(["_law_script", "_law_scale_here"])
|`('C')=>`(fun z => nomatch z)
|`('D')=>`(PySem.W.fnOf x qual (aG st) (aE st) (af st) .none kV doc pm an cdv ct)
local macro_rules
|`('E')=>`(by decide +kernel)
|`('F')=>`(.tup [.lst (w.fl.map flD), .lst 'g', .lst (w.qs.map stD)])
|`('G')=>`(.Call (.Name x p) (e :: es) [] pos)
|`('H')=>`(cv CR CP w.rows w.o)
|`('I')=>`(((s.heap.objs.size : Addr), ({ cls := .type "list", data := .seq its nD } : Obj)))
|`('J')=>`(fC (.int 0))
|`('K')=>`(["_law_script", "_law_rules", "_law_most", "_law_scale_here"])
|`('L')=>`(.type "list")
|`('M')=>`(["_law_script", "_law_by", "_law_kinds", "_law_scale_here"])
|`('N')=>`(.type "tuple")
local macro_rules
|`('O')=>`(uB X.env.cells sc.names [])
|`('P')=>`(["_law_script", "_law_flights_here", "_law_closed_here"])
|`('Q')=>`(["rules", "spots", "times", "place"])
|`('R')=>`(cs.map stD)
|`('S')=>`(ρ.set i (some d))
|`('T')=>`(.type "bool")
|`('U')=>`(["self", "one", "other"])
|`('V')=>`(.type "int")
|`('W')=>`(fW (ltK (rk lt zs d)) (kas_sort zs.length))
|`('X')=>`(some (.ref a))
local macro_rules
|`('Y')=>`([some w.ruD, a1, some 'h', some 'e', a4, some 'f', a6, some (.int i), some (.int (tAt ts i)), some y, a10, some (.int p)])
|`('Z')=>`(["_law_script", "_law_rules", "_law_flights_here"])
|`('0')=>`(f2 D5 (fC (.int 10)) (fC (.int 9)))
|`('1')=>`(.type "str")
|`('2')=>`(envOfC qual scope s.heap.objs.size f cd)
set_option hygiene true
namespace L2
open PySem PySem.Spec PyProof.Rows
noncomputable abbrev Key := Sum Int Str
noncomputable def keyIs : Key -> Value -> Bool
 | .inl k, v => Value.isInt k v
 | .inr x, v => Value.isStrOf x v
noncomputable def keyH (w : World) : Key -> Int
 | .inl k => hashInt k
 | .inr x => hashStr w x
theorem dk : ∀ {k : Key} {v : Value}, keyIs k v = true -> (∃ i t, k = Sum.inl i /\ v = Value.int i t) \/ (∃ x t, k = Sum.inr x /\ v = Value.str x t)
 | .inl i, v, h => by
  obtain ⟨t, e⟩ := Value.isInt_shape (k := i) (v := v) h
  exact .inl ⟨i, t, rfl, e⟩
 | .inr x, v, h => by
  obtain ⟨t, e⟩ := Value.isStrOf_shape (x := x) (v := v) h
  exact .inr ⟨x, t, rfl, e⟩
theorem key_ll (a b : Int) : decide ((Sum.inl a : Key) = Sum.inl b) = (a == b) := by
 by_cases e : a = b
 ·subst e; simp
 ·have h : ¬ (Sum.inl a : Key) = Sum.inl b := fun q => e (Sum.inl.inj q)
  rw [decide_eq_false h]
  exact (beq_eq_false_iff_ne.mpr e).symm
theorem key_rr (a b : Str) : decide ((Sum.inr a : Key) = Sum.inr b) = decide (a = b) := by
 by_cases e : a = b
 ·subst e; simp
 ·have h : ¬ (Sum.inr a : Key) = Sum.inr b := fun q => e (Sum.inr.inj q)
  rw [decide_eq_false h, decide_eq_false e]
theorem key_lr (a : Int) (b : Str) : decide ((Sum.inl a : Key) = Sum.inr b) = false := decide_eq_false (fun q => nomatch q)
theorem key_rl (a : Str) (b : Int) : decide ((Sum.inr a : Key) = Sum.inl b) = false := decide_eq_false (fun q => nomatch q)
noncomputable def Ac (prog : Program) (w : World) : PySem.KeyKind prog w Key where
 is := keyIs
 hash := keyH w
 inj := fun v a b ha hb => by
  rcases dk ha with ⟨i, t, rfl, rfl⟩ | ⟨x, t, rfl, rfl⟩
  ·rcases dk hb with ⟨j, u, rfl, e⟩ | ⟨y, u, rfl, e⟩
   ·injection e with e1 _; rw [e1]
   ·exact nomatch e
  ·rcases dk hb with ⟨j, u, rfl, e⟩ | ⟨y, u, rfl, e⟩
   ·exact nomatch e
   ·injection e with e1 _; rw [e1]
 byValue := fun k v h => by
  rcases dk h with ⟨i, t, rfl, rfl⟩ | ⟨x, t, rfl, rfl⟩ <;> rfl
 pyHash := fun hv h => by
  rcases dk hv with ⟨i, t, rfl, rfl⟩ | ⟨x, t, rfl, rfl⟩
  ·exact wpAny_pyHash_int h
  ·exact wpAny_pyHash_str h
 eqBool := fun hu hv h => by
  rcases dk hu with ⟨i, t, rfl, rfl⟩ | ⟨x, t, rfl, rfl⟩
  ·rcases dk hv with ⟨j, u, rfl, rfl⟩ | ⟨y, u, rfl, rfl⟩
   ·rw [key_ll] at h; exact wpAny_eqBool_int h
   ·rw [key_lr] at h; exact SeqAt.EqAt.int_str i t y u _ _ _ _ h
  ·rcases dk hv with ⟨j, u, rfl, rfl⟩ | ⟨y, u, rfl, rfl⟩
   ·rw [key_rl] at h; exact SeqAt.EqAt.str_int x t j u _ _ _ _ h
   ·rw [key_rr] at h; exact wpAny_eqBool_str h
 «strs» := fun k x t v h => by
  rcases dk h with ⟨i, u, rfl, e⟩ | ⟨y, u, rfl, e⟩
  ·exact nomatch e
  ·injection e with e1 _
   subst e1
   cases v <;> rfl
end L2
namespace L2
open PySem PySem.Spec PyProof.Rows
inductive V where
 | non | bl (b : Bool) | int (i : Int) | str (x : Str) | byt (b : Array UInt8) | flt (b : UInt64) | ref (a : Addr) | ty (n : String)
 deriving DecidableEq
noncomputable def RelV : V -> Value -> Prop
 | .non, u => u = Value.none
 | .bl b, u => u = Value.bool b
 | .int i, u => ∃ t, u = Value.int i t
 | .str x, u => ∃ t, u = Value.str x t
 | .byt b, u => ∃ t, u = Value.bytes b t
 | .flt b, u => ∃ t, u = Value.float b t
 | .ref a, u => u = Value.ref a
 | .ty n, u => u = Value.type n
noncomputable abbrev Vals : List V -> List Value -> Prop := Paired RelV
theorem Vals.length {xs : List V} {us : List Value} (r : Vals xs us) : xs.length = us.length := Paired.length r
theorem Vals.get : ∀ {xs : List V} {us : List Value} {i : Nat} {x : V}, Vals xs us -> xs[i]? = some x -> ∃ u, us[i]? = some u /\ RelV x u
 | _, _, _, _, .nil, e => by simp at e
 | _, _, 0, _, .cons r _, e => by simp at e; subst e; exact ⟨_, rfl, r⟩
 | _, _, i + 1, x, .cons _ t, e => by
  obtain ⟨u, h1, h2⟩ := Vals.get (i := i) (x := x) t (by simpa using e)
  exact ⟨u, by simpa using h1, h2⟩
theorem Vals.set {x : V} {u : Value} (r : RelV x u) : ∀ {xs : List V} {us : List Value} (i : Nat), Vals xs us -> Vals (xs.set i x) (us.set i u)
 | _, _, _, .nil => .nil
 | _, _, 0, .cons _ t => .cons r t
 | _, _, i + 1, .cons q t => .cons q (Vals.set r i t)
theorem Vals.append : ∀ {xs ys : List V} {us ws : List Value}, Vals xs us -> Vals ys ws -> Vals (xs ++ ys) (us ++ ws)
 | _, _, _, _, .nil, s => s
 | _, _, _, _, .cons r t, s => .cons r (Vals.append t s)
theorem Vals.take : ∀ {xs : List V} {us : List Value} (n : Nat), Vals xs us -> Vals (xs.take n) (us.take n)
 | _, _, 0, _ => .nil
 | _, _, _ + 1, .nil => .nil
 | _, _, n + 1, .cons r t => .cons r (Vals.take n t)
theorem Vals.drop : ∀ {xs : List V} {us : List Value} (n : Nat), Vals xs us -> Vals (xs.drop n) (us.drop n)
 | _, _, 0, r => r
 | _, _, _ + 1, .nil => .nil
 | _, _, n + 1, .cons _ t => Vals.drop n t
noncomputable def xg : Option V -> Option Value -> Prop
 | some v, some u => RelV v u
 | none, none => True
 | _, _ => False
noncomputable def KV {κ : Type} : List (κ × V) -> List (κ × Value) -> Prop := Paired fun (p : κ × V) (q : κ × Value) => p.1 = q.1 /\ RelV p.2 q.2
noncomputable def kV : Key -> V
 | .inl i => .int i
 | .inr x => .str x
inductive HO where
  | lst (xs : List V)
  | tup (xs : List V)
  | dK (kvs : List (Key × V)) | dT (kvs : List (List Key × V))
  | set (S : Int -> Bool) (n : Nat)
  | ins (C dx : Addr) (fs : List (Str × V))
  | own (x : Addr)
  | xd (fs : List (Str × V))
  | met (f x : Addr)
  | rng (lo hi : Int)
  | frz (o : Obj) (u : HO)
  | tbl (ps : Array Value)
  | ext (φ : Heap -> Prop)
noncomputable abbrev Hp := Addr -> Option HO
noncomputable def upd (H : Hp) (a : Addr) (o : HO) : Hp := fun b => if b = a then some o else H b
theorem av {H : Hp} {a : Addr} {o : HO} : upd H a o a = some o := by unfold upd; rw [if_pos rfl]
theorem ar {H : Hp} {a b : Addr} {o : HO} (h : b ≠ a) : upd H a o b = H b := by unfold upd; rw [if_neg h]
theorem aQ {H : Hp} {a b : Addr} {o : HO} (h : H a = some o) (h' : H b = none) : a ≠ b := by
 intro e; subst e; rw [h] at h'; cases h'
section
variable (P : Program) (w : World)
noncomputable def gu (H : Hp) (h : Heap) (a : Addr) : HO -> Prop
 | .lst xs => xs.length <= sizeLine /\ ∃ (its : List Value) (n : Nat), Vals xs its /\ h.get? a = some { cls := .type "list", data := .seq its.toArray n }
 | .tup xs => xs.length <= sizeLine /\ ∃ its : List Value, Vals xs its /\ IsTup h a its.toArray
 | .dK kvs => kvs.length <= sizeLine /\ (a == sysModules) = false /\ ∃ vs, KV kvs vs /\ h.DictOf (Ac P w) a vs
 | .dT kvs => kvs.length <= sizeLine /\ (a == sysModules) = false /\ ∃ xs : List (List Key × Addr × Value),
   Paired (fun (p : List Key × V) (q : List Key × Addr × Value) => p.1 = q.1 /\ H q.2.1 = some (.tup (p.1.map kV)) /\ RelV p.2 q.2.2) kvs xs /\
   ∃ o es ep, h.get? a = some o /\ o.ExactDict /\ o.data = .dict es ep /\ es.toList = xs.map (entryOfKey (tupleKind (Ac P w))) /\ (xs.map (·.1)).Nodup
 | .set S n => h.SetOf (intKind P w) a S n
 | .ins C dx fs => H dx = some (.own a) /\ fs.length <= 1000 /\ dx ≠ a /\ h.get? a = some (PySem.W.instObj C dx) /\
   ∃ mA, h.Ns1 dx mA /\ (∀ f, xg (fs.lookup f) (mA f)) /\ PySem.Within mA (fs.map (·.1))
 | .own _ => ∃ o, h.get? a = some o
 | .xd fs => ∃ mA, h.Ns1 a mA /\ ∀ f, xg (fs.lookup f) (mA f)
 | .rng lo hi => ∃ t u v, h.get? a = some { cls := .type "range", data := .fields #[.int lo t, .int hi u, .int 1 v] }
 | .frz o u => h.get? a = some o /\ gu H h a u
 | .tbl ps => h.get? a = some { cls := .none, data := .fields ps }
 | .met f x => h.get? a = some (PySem.W.methodObj (.ref f) (.ref x))
 | .ext φ => φ h /\ (∃ o, h.get? a = some o) /\ ∀ h1 h2 : Heap, φ h1 -> (∀ o, h1.get? a = some o -> h2.get? a = some o) -> φ h2
noncomputable def HOk (H : Hp) (h : Heap) : Prop := ∀ a o, H a = some o -> gu P w H h a o
end
section
variable {P : Program} {w : World} {H H' : Hp} {h h' : Heap} {a : Addr} {o : HO}
theorem gu.lt (x : gu P w H h a o) : a < h.objs.size := by
 cases o with
 | lst xs => obtain ⟨_, _, _, _, e⟩ := x; exact Heap.lt_size e
 | tup xs => obtain ⟨_, _, _, p⟩ := x; exact p.lt
 | dK kvs => obtain ⟨_, _, _, _, o, _, _, e, _⟩ := x; exact Heap.lt_size e
 | dT kvs => obtain ⟨_, _, _, _, o, _, _, e, _⟩ := x; exact Heap.lt_size e
 | set S n => obtain ⟨o, _, _, _, e, _⟩ := x; exact Heap.lt_size e
 | ins C dx fs => obtain ⟨_, _, _, e, _⟩ := x; exact Heap.lt_size e
 | own y => obtain ⟨_, e⟩ := x; exact Heap.lt_size e
 | xd fs => obtain ⟨_, ⟨_, _, _, e, _⟩, _⟩ := x; exact Heap.lt_size e
 | rng lo hi => obtain ⟨_, _, _, e⟩ := x; exact Heap.lt_size e
 | frz ob u => obtain ⟨e, _⟩ := x; exact Heap.lt_size e
 | tbl ps => exact Heap.lt_size (show h.get? a = some _ from x)
 | met f y => exact Heap.lt_size (show h.get? a = some _ from x)
 | ext φ => obtain ⟨_, ⟨_, e⟩, _⟩ := x; exact Heap.lt_size e
theorem Paired.mapP {α β : Type} {F G : α -> β -> Prop} : ∀ {l₁ : List α} {l₂ : List β}, Paired F l₁ l₂ -> (∀ a b, F a b -> G a b) -> Paired G l₁ l₂
 | _, _, .nil, _ => .nil
 | _, _, .cons r t, f => .cons (f _ _ r) (Paired.mapP t f)
theorem gu.zJ (x : gu P w H h a o) (k : ∀ b u, (b = a \/ H b = some (.own a)) -> h.get? b = some u -> h'.get? b = some u)
  (ho : ∀ b, H b = some (.own a) -> H' b = some (.own a)) (ht : ∀ b xs, H b = some (.tup xs) -> H' b = some (.tup xs)) : gu P w H' h' a o := by
 induction o with
 | lst xs => obtain ⟨z, its, n, r, e⟩ := x; exact ⟨z, its, n, r, k _ _ (.inl rfl) e⟩
 | tup xs => obtain ⟨z, its, r, ob, e, c⟩ := x; exact ⟨z, its, r, ob, k _ _ (.inl rfl) e, c⟩
 | dK kvs => obtain ⟨z, y, vs, r, ob, es, ep, e, c⟩ := x; exact ⟨z, y, vs, r, ob, es, ep, k _ _ (.inl rfl) e, c⟩
 | dT kvs =>
  obtain ⟨z, y, xs, r, ob, es, ep, e, c⟩ := x
  exact ⟨z, y, xs, Paired.mapP r fun p q z => ⟨z.1, ht _ _ z.2.1, z.2.2⟩, ob, es, ep, k _ _ (.inl rfl) e, c⟩
 | set S n => obtain ⟨ob, es, ep, t, e, c⟩ := x; exact ⟨ob, es, ep, t, k _ _ (.inl rfl) e, c⟩
 | ins C dx fs =>
  obtain ⟨d, z, ne, e, mA, ⟨od, es, ep, e2, c⟩, r⟩ := x
  exact ⟨ho _ d, z, ne, k _ _ (.inl rfl) e, mA, ⟨od, es, ep, k _ _ (.inr d) e2, c⟩, r⟩
 | own y => obtain ⟨ob, e⟩ := x; exact ⟨ob, k _ _ (.inl rfl) e⟩
 | xd fs => obtain ⟨mA, ⟨od, es, ep, e, c⟩, r⟩ := x; exact ⟨mA, ⟨od, es, ep, k _ _ (.inl rfl) e, c⟩, r⟩
 | rng lo hi => obtain ⟨t, u, v, e⟩ := x; exact ⟨t, u, v, k _ _ (.inl rfl) e⟩
 | frz ob u ih => obtain ⟨e, q⟩ := x; exact ⟨k _ _ (.inl rfl) e, ih q⟩
 | tbl ps =>
  have e : h.get? a = some { cls := .none, data := .fields ps } := x
  show h'.get? a = some { cls := .none, data := .fields ps }
  exact k a _ (.inl rfl) e
 | met f y =>
  have e : h.get? a = some (PySem.W.methodObj (.ref f) (.ref y)) := x
  show h'.get? a = some (PySem.W.methodObj (.ref f) (.ref y))
  exact k a _ (.inl rfl) e
 | ext φ => obtain ⟨p, ⟨o, e⟩, st⟩ := x; exact ⟨st _ _ p fun o q => k _ _ (.inl rfl) q, ⟨o, k _ _ (.inl rfl) e⟩, st⟩
theorem HOk.lt (x : HOk P w H h) (e : H a = some o) : a < h.objs.size := (x a o e).lt
theorem HOk.fresh (x : HOk P w H h) (e : h.objs.size <= a) : H a = none := by
 cases q : H a with
 | none => rfl
 | some u => exact absurd (Nat.lt_of_lt_of_le (x.lt q) e) (Nat.lt_irrefl _)
theorem HOk.kept (x : HOk P w H h) (k : ∀ b u, h.get? b = some u -> h'.get? b = some u) : HOk P w H h' := fun a o e =>
 (x a o e).zJ (fun b u _ q => k b u q) (fun _ q => q) fun _ _ q => q
theorem HOk.laid (x : HOk P w H h) (k : ∀ b u, h.get? b = some u -> h'.get? b = some u) (hp : h.objs.size <= a) (new : gu P w (upd H a o) h' a o) : HOk P w (upd H a o) h' := fun b u e => by
 have hn := x.fresh hp
 by_cases hb : b = a
 ·subst hb; rw [av] at e; cases e; exact new
 ·rw [ar hb] at e
  exact (x b u e).zJ (fun c v _ q => k c v q) (fun c q => by rw [ar (aQ q hn)]; exact q) fun c xs q => by rw [ar (aQ q hn)]; exact q
end
noncomputable def Rd (H : Hp) (a : Addr) (u : HO) : Prop := H a = some u \/ ∃ o, H a = some (.frz o u)
theorem Rd.ok {P : Program} {w : World} {H : Hp} {h : Heap} {a : Addr} {u : HO} (r : Rd H a u) (x : HOk P w H h) : gu P w H h a u := by
 rcases r with r | ⟨o, r⟩
 ·exact x a u r
 ·obtain ⟨_, q⟩ := x a _ r
  exact q
noncomputable def Mut : Option HO -> Prop
 | some (.lst _) => True
 | some (.dK _) => True
 | some (.dT _) => True
 | some (.set _ _) => True
 | some (.ins _ _ _) => True
 | some (.ext _) => True
 | _ => False
section
variable {P : Program} {w : World} {H : Hp} {h h' : Heap} {x e : Addr} {o' : HO}
theorem HOk.write (ok : HOk P w H h) (mu : Mut (H x)) (he : e = x \/ H e = some (.own x)) (k : ∀ b u, b ≠ e -> h.get? b = some u -> h'.get? b = some u) (heo : ∃ u, h'.get? e = some u)
  (new : gu P w (upd H x o') h' x o') : HOk P w (upd H x o') h' := fun b u q => by
 have nown : ∀ c y, H c = some (.own y) -> c ≠ x := fun c y r z => by subst z; rw [r] at mu; exact mu
 have ntup : ∀ c xs, H c = some (.tup xs) -> c ≠ x := fun c xs r z => by subst z; rw [r] at mu; exact mu
 by_cases hb : b = x
 ·subst hb; rw [av] at q; cases q; exact new
 ·rw [ar hb] at q
  by_cases hbe : b = e
  ·have q' : H b = some (.own x) := by
    rcases he with z | z
    ·exact absurd (hbe.trans z) hb
    ·rw [hbe]; exact z
   rw [q] at q'; cases q'
   obtain ⟨v, hv⟩ := heo
   exact ⟨v, by rw [hbe]; exact hv⟩
  ·refine (ok b u q).zJ (fun c v hc r => k c v ?_ r) (fun c r => by rw [ar (nown c b r)]; exact r) fun c xs r => by rw [ar (ntup c xs r)]; exact r
   rcases hc with rfl | hc
   ·exact hbe
   ·rintro rfl
    rcases he with z | z
    ·exact nown c b hc z
    ·rw [hc] at z; cases z; exact hb rfl
end
structure Un (fs ex : List Addr) (H H' : Hp) (h h' : Heap) : Prop where
 keep : ∀ b o, h.get? b = some o -> H b = none -> b ∉ fs -> b ∉ ex -> h'.get? b = some o
 slot : ∀ b o, h.get? b = some o -> H b = none -> b ∈ fs -> b ∉ ex -> ∃ sl, h'.get? b = some { o with slots := sl }
 free : ∀ b o, h.get? b = some o -> H b = none -> b ∉ ex -> H' b = none
 there : ∀ b o, h.get? b = some o -> b ∉ ex -> ∃ o', h'.get? b = some o'
 tups : ∀ b xs, H b = some (.tup xs) -> H' b = some (.tup xs)
 frzs : ∀ b o u, H b = some (.frz o u) -> H' b = some (.frz o u)
 tbls : ∀ b ps, H b = some (.tbl ps) -> ∃ more, H' b = some (.tbl (ps ++ more))
section
variable {fs fs' ex ex' : List Addr} {H H1 H2 : Hp} {h h1 h2 h' : Heap} {a x e : Addr} {o : HO}
theorem Un.any (u : Un fs ex H H1 h h1) {b : Addr} {ob : Obj} (q : h.get? b = some ob) (n : H b = none) (hx : b ∉ ex) : ∃ sl, h1.get? b = some { ob with slots := sl } := by
 by_cases hb : b ∈ fs
 ·exact u.slot b ob q n hb hx
 ·exact ⟨ob.slots, u.keep b ob q n hb hx⟩
theorem Un.trans (a : Un fs ex H H1 h h1) (b : Un fs ex H1 H2 h1 h2) : Un fs ex H H2 h h2 where
 keep := fun c ob q n hc hx => b.keep c ob (a.keep c ob q n hc hx) (a.free c ob q n hx) hc hx
 slot := fun c ob q n hc hx => by
  obtain ⟨sl, e1⟩ := a.slot c ob q n hc hx
  obtain ⟨sl', e2⟩ := b.slot c _ e1 (a.free c ob q n hx) hc hx
  exact ⟨sl', e2⟩
 free := fun c ob q n hx => by
  obtain ⟨o', e1⟩ := a.there c ob q hx
  exact b.free c o' e1 (a.free c ob q n hx) hx
 there := fun c ob q hx => by
  obtain ⟨o', e1⟩ := a.there c ob q hx
  exact b.there c o' e1 hx
 tups := fun c xs q => b.tups c xs (a.tups c xs q)
 frzs := fun c ob xs q => b.frzs c ob xs (a.frzs c ob xs q)
 tbls := fun c ps q => by
  obtain ⟨m1, e1⟩ := a.tbls c ps q
  obtain ⟨m2, e2⟩ := b.tbls c _ e1
  exact ⟨m1 ++ m2, by rw [e2, Array.append_assoc]⟩
theorem Un.kept (k : ∀ b u, h.get? b = some u -> h'.get? b = some u) : Un fs ex H H h h' :=
 ⟨fun b ob q _ _ _ => k b ob q, fun b ob q _ _ _ => ⟨ob.slots, k b ob q⟩, fun _ _ _ n _ => n, fun b ob q _ => ⟨ob, k b ob q⟩, fun _ _ q => q, fun _ _ _ q => q, fun _ ps q => ⟨#[], by rw [q]; simp⟩⟩
theorem Un.refl : Un fs ex H H h h := Un.kept fun _ _ q => q
theorem Un.laid (k : ∀ b u, h.get? b = some u -> h'.get? b = some u) (hp : h.objs.size <= a) (hn : H a = none) : Un fs ex H (upd H a o) h h' where
 keep := fun b u q _ _ _ => k b u q
 slot := fun b u q _ _ _ => ⟨u.slots, k b u q⟩
 free := fun b u q n _ => by rw [ar (Nat.ne_of_lt (Nat.lt_of_lt_of_le (Heap.lt_size q) hp))]; exact n
 there := fun b u q _ => ⟨u, k b u q⟩
 tups := fun b xs q => by rw [ar (aQ q hn)]; exact q
 frzs := fun b u xs q => by rw [ar (aQ q hn)]; exact q
 tbls := fun b ps q => ⟨#[], by rw [ar (aQ q hn), q]; simp⟩
theorem Un.write (mu : Mut (H x)) (he : e = x \/ H e = some (.own x)) (k : ∀ b u, b ≠ e -> h.get? b = some u -> h'.get? b = some u) (heo : ∃ u, h'.get? e = some u) : Un fs ex H (upd H x o) h h' := by
 have hx : ∀ b, H b = none -> b ≠ x := fun b n z => by subst z; rw [n] at mu; exact mu
 have hb : ∀ b, H b = none -> b ≠ e := fun b n z => by
  subst z
  rcases he with r | r
  ·exact hx b n r
  ·rw [n] at r; cases r
 have hm : ∀ b u, H b = some u -> ¬ Mut (some u) -> b ≠ x := fun b u q nm z => by subst z; rw [q] at mu; exact nm mu
 refine ⟨fun b u q n _ _ => k b u (hb b n) q, fun b u q n _ _ => ⟨u.slots, k b u (hb b n) q⟩, fun b u q n _ => by rw [ar (hx b n)]; exact n, fun b u q _ => ?_,
  fun b xs q => by rw [ar (hm b _ q fun z => z)]; exact q, fun b u xs q => by rw [ar (hm b _ q fun z => z)]; exact q, fun b ps q => ⟨#[], by rw [ar (hm b _ q fun z => z), q]; simp⟩⟩
 by_cases hbe : b = e
 ·subst hbe; exact heo
 ·exact ⟨u, k b u hbe q⟩
end
noncomputable def trk (h : Heap) (H : Hp) : List Addr := (List.range h.objs.size).filter fun a => (H a).isSome
noncomputable def hidT (h : Heap) (H : Hp) : Heap := PySem.W.hideAll h (trk h H)
theorem DR (h : Heap) (H : Hp) : (hidT h H).objs.size = h.objs.size := PySem.W.hideAll_size _ _
theorem hidT_get {h : Heap} {H : Hp} {b : Addr} {o : Obj} (e : h.get? b = some o) (n : H b = none) : (hidT h H).get? b = some o :=
 PySem.W.hideAll_get _ e fun hm => by
  have q : (H b).isSome = true := (List.mem_filter.mp hm).2
  rw [n] at q; simp at q
theorem of_hidT {h : Heap} {H : Hp} {b : Addr} {o : Obj} (e : (hidT h H).get? b = some o) : h.get? b = some o /\ H b = none := by
 have e' : h.get? b = some o := PySem.W.of_hideAll (trk h H) e
 refine ⟨e', ?_⟩
 cases q : H b with
 | none => rfl
 | some x =>
  have hm : b ∈ trk h H := List.mem_filter.mpr ⟨List.mem_range.mpr (Heap.lt_size e'), by simp [q]⟩
  have z : (hidT h H).get? b = none := PySem.W.hideAll_none (trk h H) hm
  rw [z] at e; cases e
end L2
namespace L2
open PySem PySem.Spec PyProof.Rows
structure Mod (K : PySem.W.Frag) (mg : Str -> Option Value) (base : Heap) : Prop where
 kin : K.In base
 glob : base.Ns mainGlobals mg
 blt : ∃ mb, base.Ns builtinsNs mb /\ ∀ x : Str, x ≠ "__name__" -> mb x = bootBuiltins x
 nolimit : base.NoLimit
structure Cx where
 prog : Program
 w : World
 K : PySem.W.Frag
 mg : Str -> Option Value
 base : Heap
 A : Around
 N : List Str
 s₀ : Shared
 H₀ : Hp
 env : Env
 outer : List Env
 stack : List Env
 ex : List Addr
 fn : Str -> Bool
 calm : Bool
 pn : List 'a'
 xe : Value -> Shared -> Prop
noncomputable def frs (l : List Env) : List Addr := l.filterMap (·.frame)
noncomputable abbrev Cx.fs (X : Cx) : List Addr := frs X.outer
noncomputable def Vis (sc : Scope) (x : Str) : Prop := sc.names.lookup x = some .local \/ sc.names.lookup x = some .cell \/ sc.names.lookup x = some .free
noncomputable def Loc (sc : Scope) (x : Str) : Prop := sc.names.lookup x = some .local \/ sc.names.lookup x = some .cell
noncomputable def Look (env : Env) (h : Heap) (m : Str -> Option Value) (x : Str) (u : Value) : Prop :=
 (env.kindOf x = some .local /\ m x = some u) \/ ((env.kindOf x = some .cell \/ env.kindOf x = some .free) /\ ∃ c, env.cells.lookup x = some c /\ h.IsCell c (some u))
structure Cx.Ok (X : Cx) : Prop where
 mod : Mod X.K X.mg X.base
 kind : X.env.scope.kind = .function
 glob : X.env.globals = mainGlobals
 blt : X.env.builtins = builtinsNs
 above : X.s₀.heap.objs.size <= X.env.locals
 inj : ∀ x y c, X.env.cells.lookup x = some c -> X.env.cells.lookup y = some c -> x = y
 has : ∀ x, (X.env.kindOf x = some .cell \/ X.env.kindOf x = some .free) -> ∃ c, X.env.cells.lookup x = some c
 cab : ∀ x c, X.fn x = true -> X.env.cells.lookup x = some c -> X.s₀.heap.objs.size <= c
 hd : X.calm = true -> X.A.handled = none
 frames : X.A.frames = some X.stack
 stk : X.stack = X.outer \/ (X.stack = X.env :: X.outer /\ X.env.frame = some X.env.locals)
 exf : ∀ b ∈ X.ex, b ≠ X.env.locals /\ ∀ x c, X.env.cells.lookup x = some c -> c ≠ b
 bs : ∀ b o, X.base.get? b = some o -> X.s₀.heap.get? b = some o /\ X.H₀ b = none
 bsz : X.base.objs.size <= X.s₀.heap.objs.size
 noex : ∀ b o, X.base.get? b = some o -> b ∉ X.ex
 exfs : ∀ b ∈ X.ex, b ∉ X.fs
 yH : X.s₀.heap.FunFrames X.base X.outer
 frf : ∀ b ∈ X.fs, X.H₀ b = none
structure Inv (X : Cx) (pins : List 'a') (σ : List (Option V)) (H : Hp) (s : Shared) : Prop where
 ok : X.Ok
 os : s.os = X.s₀.os
 bare : AllBare s.gens
 base : Un X.fs X.ex X.H₀ H X.s₀.heap s.heap
 loc : ∃ m, s.heap.Ns X.env.locals m /\ ∀ (i : Nat) (x : Str) (v : V), X.N[i]? = some x -> σ[i]? = some (some v) -> Vis X.env.scope x -> ∃ u, RelV v u /\ Look X.env s.heap m x u
 cell : ∀ x c, X.env.cells.lookup x = some c -> ∃ v, s.heap.IsCell c v
 free : H X.env.locals = none
 freeC : ∀ x c, X.env.cells.lookup x = some c -> H c = none
 pin : ∀ p ∈ X.pn ++ pins, s.heap.get? p.1 = some p.2 /\ H p.1 = none /\ p.1 ≠ X.env.locals /\ p.1 ∉ X.fs /\ ∀ v, p.2.data ≠ .cell v
 hok : HOk X.prog X.w H s.heap
 len : σ.length = X.N.length
section
variable {X : Cx} {pins : List 'a'} {σ : List (Option V)} {H H' : Hp} {s : Shared} {h' : Heap}
theorem Cx.Ok.nofr (ok : X.Ok) {b : Addr} {o : Obj} (e : X.base.get? b = some o) : b ∉ X.fs := fun hb => by
 have := (ok.yH.mem hb).1
 rw [e] at this; cases this
theorem Inv.bs (I : Inv X pins σ H s) : ∀ b o, X.base.get? b = some o -> s.heap.get? b = some o /\ H b = none := fun b o e =>
 ⟨I.base.keep b o (I.ok.bs b o e).1 (I.ok.bs b o e).2 (I.ok.nofr e) (I.ok.noex b o e), I.base.free b o (I.ok.bs b o e).1 (I.ok.bs b o e).2 (I.ok.noex b o e)⟩
theorem Inv.bk (I : Inv X pins σ H s) : ∀ b o, X.base.get? b = some o -> s.heap.get? b = some o := fun b o e => (I.bs b o e).1
theorem Inv.mod (I : Inv X pins σ H s) : Mod X.K X.mg X.base := I.ok.mod
theorem Inv.kIn (I : Inv X pins σ H s) : X.K.In s.heap := I.ok.mod.kin.keeps I.bk
theorem Inv.lt (I : Inv X pins σ H s) : X.env.locals < s.heap.objs.size := let ⟨_, hn, _⟩ := I.loc; hn.lt
theorem Inv.sz (I : Inv X pins σ H s) : X.s₀.heap.objs.size <= s.heap.objs.size := Nat.le_trans I.ok.above (Nat.le_of_lt I.lt)
theorem Inv.nofs (I : Inv X pins σ H s) {a : Addr} (h : s.heap.objs.size <= a) : a ∉ X.fs := fun hb => by
 obtain ⟨_, o, ho, _⟩ := I.ok.yH.mem hb
 exact absurd (Nat.lt_of_lt_of_le (Heap.lt_size ho) (Nat.le_trans I.sz h)) (Nat.lt_irrefl _)
theorem Inv.cne (I : Inv X pins σ H s) : ∀ x c, X.env.cells.lookup x = some c -> c ≠ X.env.locals := fun x c e z => by
 obtain ⟨v, o, ho, hd⟩ := I.cell x c e
 obtain ⟨m, ⟨o', es, ep, ho', hd', _⟩, _⟩ := I.loc
 rw [z, ho'] at ho; cases ho; rw [hd'] at hd; cases hd
theorem Inv.yH (I : Inv X pins σ H s) : s.heap.FunFrames X.base X.outer := by
 have all : ∀ (l : List Env), (∀ b ∈ frs l, b ∈ X.fs) -> X.s₀.heap.FunFrames X.base l -> s.heap.FunFrames X.base l := by
  intro l
  induction l with
  | nil => intro _ _; trivial
  | cons env r ih =>
   intro hs hl
   obtain ⟨hk, ⟨L, o, hf, hn, ho, hd⟩, hr⟩ := hl
   have hL : L ∈ X.fs := hs L (by unfold frs; rw [List.filterMap_cons, hf]; exact List.mem_cons_self)
   obtain ⟨sl, e⟩ := I.base.slot L o ho (I.ok.frf L hL) hL fun z => I.ok.exfs L z hL
   exact ⟨hk, ⟨L, _, hf, hn, e, hd⟩, ih (fun b hb => hs b (by unfold frs; rw [List.filterMap_cons, hf]; exact List.mem_cons_of_mem _ hb)) hr⟩
 exact all X.outer (fun _ hb => hb) I.ok.yH
theorem Inv.stack (I : Inv X pins σ H s) : s.heap.FunFrames X.base X.stack := by
 rcases I.ok.stk with e | ⟨e, hf⟩
 ·rw [e]; exact I.yH
 ·rw [e]
  obtain ⟨m, hn, _⟩ := I.loc
  refine .cons (by rw [I.ok.kind]; decide) hf hn ?_ I.yH
  exact Heap.get?_none_of_le (Nat.le_trans I.ok.bsz I.ok.above)
theorem Inv.u7 (I : Inv X pins σ H s) : ∀ b ∈ frs X.stack, b ∈ X.env.locals :: X.fs := fun b hb => by
 rcases I.ok.stk with e | ⟨e, hf⟩
 ·rw [e] at hb; exact List.mem_cons_of_mem _ hb
 ·rw [e] at hb
  unfold frs at hb
  rw [List.filterMap_cons, hf] at hb
  exact hb
theorem Inv.CL (I : Inv X pins σ H s) : ∀ b ∈ frs X.stack, H b = none := fun b hb => by
 rcases List.mem_cons.mp (I.u7 b hb) with e | hb
 ·rw [e]; exact I.free
 ·obtain ⟨_, o, ho, _⟩ := I.ok.yH.mem hb
  exact I.base.free b o ho (I.ok.frf b hb) fun z => I.ok.exfs b z hb
theorem Inv.step {g' : Array GenState} {t' : Nat} {d' : Drawn} {ch : List Addr} (I : Inv X pins σ H s)
  (hch : ∀ b ∈ ch, (b ∈ X.ex \/ X.s₀.heap.objs.size <= b) /\ b ≠ X.env.locals /\ (∀ x c, X.env.cells.lookup x = some c -> c ≠ b) /\ ∀ p ∈ X.pn ++ pins, p.1 ≠ b)
  (keep : ∀ b o, b ≠ X.env.locals -> b ∉ X.fs -> b ∉ ch -> s.heap.get? b = some o -> H b = none -> h'.get? b = some o)
  (slot : ∀ b o, b ≠ X.env.locals -> b ∈ X.fs -> b ∉ ch -> s.heap.get? b = some o -> H b = none -> ∃ sl, h'.get? b = some { o with slots := sl }) (free : ∀ b o, b ∉ ch -> s.heap.get? b = some o -> H b = none -> H' b = none)
  (there : ∀ b o, b ∉ ch -> s.heap.get? b = some o -> ∃ o', h'.get? b = some o')
  (tups : ∀ b xs, H b = some (.tup xs) -> H' b = some (.tup xs)) (frzs : ∀ b o u, H b = some (.frz o u) -> H' b = some (.frz o u)) (tbls : ∀ b ps, H b = some (.tbl ps) -> ∃ more, H' b = some (.tbl (ps ++ more)))
  (ns : ∀ m, s.heap.Ns X.env.locals m -> h'.Ns X.env.locals m) (hok : HOk X.prog X.w H' h') (hg : AllBare g') :
  Inv X pins σ H' { s with heap := h', gens := g', drawn := d', toks := t' } := by
 have neL : ∀ b o, X.s₀.heap.get? b = some o -> b ≠ X.env.locals := fun b o e => Nat.ne_of_lt (Nat.lt_of_lt_of_le (Heap.lt_size e) I.ok.above)
 have neC : ∀ b o, X.s₀.heap.get? b = some o -> b ∉ X.ex -> b ∉ ch := fun b o e hx hb => by
  rcases (hch b hb).1 with z | z
  ·exact hx z
  ·exact absurd (Nat.lt_of_lt_of_le (Heap.lt_size e) z) (Nat.lt_irrefl _)
 have cellK : ∀ x c, X.env.cells.lookup x = some c -> ∀ v, s.heap.IsCell c v -> h'.IsCell c v := fun x c e v ⟨o, ho, hd⟩ => by
  have nch : c ∉ ch := fun z => (hch c z).2.2.1 x c e rfl
  by_cases hc : c ∈ X.fs
  ·obtain ⟨sl, q⟩ := slot c o (I.cne x c e) hc nch ho (I.freeC x c e)
   exact ⟨_, q, hd⟩
  ·exact ⟨o, keep c o (I.cne x c e) hc nch ho (I.freeC x c e), hd⟩
 refine ⟨I.ok, I.os, hg, ⟨fun b o e n hb hx => ?_, fun b o e n hb hx => ?_, fun b o e n hx => ?_, fun b o e hx => ?_, fun b xs e => tups b xs (I.base.tups b xs e), fun b o xs e => frzs b o xs (I.base.frzs b o xs e), fun b ps e => ?_⟩, ?_, fun x c e => ?_, ?_, fun x c e => ?_, fun p hp => ?_, hok, I.len⟩
 ·exact keep b o (neL b o e) hb (neC b o e hx) (I.base.keep b o e n hb hx) (I.base.free b o e n hx)
 ·obtain ⟨sl, e1⟩ := I.base.slot b o e n hb hx
  obtain ⟨sl', e2⟩ := slot b _ (neL b o e) hb (neC b o e hx) e1 (I.base.free b o e n hx)
  exact ⟨sl', e2⟩
 ·obtain ⟨o', e1⟩ := I.base.there b o e hx
  exact free b o' (neC b o e hx) e1 (I.base.free b o e n hx)
 ·obtain ⟨o', e1⟩ := I.base.there b o e hx
  exact there b o' (neC b o e hx) e1
 ·obtain ⟨m1, e1⟩ := I.base.tbls b ps e
  obtain ⟨m2, e2⟩ := tbls b _ e1
  exact ⟨m1 ++ m2, by rw [e2, Array.append_assoc]⟩
 ·obtain ⟨m, hn, hl⟩ := I.loc
  refine ⟨m, ns m hn, fun i x v e1 e2 e3 => ?_⟩
  obtain ⟨u, r, l⟩ := hl i x v e1 e2 e3
  refine ⟨u, r, ?_⟩
  rcases l with l | ⟨k, c, e, z⟩
  ·exact .inl l
  ·exact .inr ⟨k, c, e, cellK x c e _ z⟩
 ·obtain ⟨v, z⟩ := I.cell x c e
  exact ⟨v, cellK x c e v z⟩
 ·obtain ⟨m, ⟨o, _, _, ho, _⟩, _⟩ := I.loc
  exact free _ o (fun z => (hch _ z).2.1 rfl) ho I.free
 ·obtain ⟨v, o, ho, hd⟩ := I.cell x c e
  exact free c o (fun z => (hch c z).2.2.1 x c e rfl) ho (I.freeC x c e)
 ·obtain ⟨e, n, ne, nf, d⟩ := I.pin p hp
  have nch : p.1 ∉ ch := fun z => (hch p.1 z).2.2.2 p hp rfl
  exact ⟨keep p.1 p.2 ne nf nch e n, free p.1 p.2 nch e n, ne, nf, d⟩
theorem Inv.un {t' : Nat} (I : Inv X pins σ H s) (u : Un X.fs [] H H' s.heap h') (hok : HOk X.prog X.w H' h') : Inv X pins σ H' { s with heap := h', toks := t' } := by
 obtain ⟨m, ⟨o, es, ep, ho, r⟩, _⟩ := id I.loc
 obtain ⟨sl, hL⟩ := u.any ho I.free (by simp)
 exact I.step (g' := s.gens) (d' := s.drawn) (ch := []) (fun _ z => nomatch z) (fun b o _ hb _ e n => u.keep b o e n hb (by simp)) (fun b o _ hb _ e n => u.slot b o e n hb (by simp)) (fun b o _ e n => u.free b o e n (by simp)) (fun b o _ e => u.there b o e (by simp)) u.tups u.frzs u.tbls (fun m' hm => by
  obtain ⟨o', es', ep', ho', r'⟩ := hm
  rw [ho] at ho'; cases ho'
  exact ⟨_, es', ep', hL, r'⟩) hok I.bare
theorem Inv.call {g' : Array GenState} {t' : Nat} {d' : Drawn} {ch : List Addr} (I : Inv X pins σ H s) (u : Un (frs X.stack) ch H H' s.heap h') (hok : HOk X.prog X.w H' h') (hg : AllBare g')
  (hch : ∀ b ∈ ch, (b ∈ X.ex \/ X.s₀.heap.objs.size <= b) /\ b ≠ X.env.locals /\ (∀ x c, X.env.cells.lookup x = some c -> c ≠ b) /\ ∀ p ∈ X.pn ++ pins, p.1 ≠ b) :
  Inv X pins σ H' { s with heap := h', gens := g', drawn := d', toks := t' } := by
 obtain ⟨m, ⟨o, es, ep, ho, r⟩, _⟩ := id I.loc
 obtain ⟨sl, hL⟩ := u.any ho I.free fun z => (hch _ z).2.1 rfl
 exact I.step (ch := ch) hch (fun b o hL hb hc e n => u.keep b o e n (fun z => (List.mem_cons.mp (I.u7 b z)).elim hL hb) hc) (fun b o _ _ hc e n => u.any e n hc) (fun b o hc e n => u.free b o e n hc) (fun b o hc e => u.there b o e hc) u.tups u.frzs u.tbls (fun m' hm => by
  obtain ⟨o', es', ep', ho', r'⟩ := hm
  rw [ho] at ho'; cases ho'
  exact ⟨_, es', ep', hL, r'⟩) hok hg
theorem Inv.turned {t' : Nat} {it : Addr} (I : Inv X pins σ H s) (k : ∀ b o, b ≠ it -> s.heap.get? b = some o -> h'.get? b = some o) (hn : H it = none) (hL : it ≠ X.env.locals)
  (h1 : it ∈ X.ex \/ X.s₀.heap.objs.size <= it) (h2 : ∀ x c, X.env.cells.lookup x = some c -> c ≠ it) (h3 : ∀ p ∈ X.pn ++ pins, p.1 ≠ it) : Inv X pins σ H { s with heap := h', toks := t' } := by
 have nit : ∀ b u, H b = some u -> b ≠ it := fun b u e z => by rw [z, hn] at e; cases e
 refine I.step (g' := s.gens) (d' := s.drawn) (ch := [it]) (fun b hb => ?_) (fun b o _ _ hc e _ => k b o (fun z => hc (by simp [z])) e) (fun b o _ _ hc e _ => ⟨o.slots, k b o (fun z => hc (by simp [z])) e⟩) (fun _ _ _ _ n => n)
  (fun b o hc e => ⟨o, k b o (fun z => hc (by simp [z])) e⟩) (fun _ _ e => e) (fun _ _ _ e => e) (fun b ps e => ⟨#[], by rw [e]; simp⟩) (fun m hm => ?_) (fun b u e => ?_) I.bare
 ·have e : b = it := by simpa using hb
  subst e
  exact ⟨h1, hL, h2, h3⟩
 ·obtain ⟨o, es, ep, ho, r⟩ := hm
  exact ⟨o, es, ep, k _ o (Ne.symm hL) ho, r⟩
 ·refine (I.hok b u e).zJ (fun c v hc q => k c v ?_ q) (fun _ q => q) fun _ _ q => q
  rcases hc with z | z
  ·rw [z]; exact nit b u e
  ·exact nit c _ z
theorem Inv.tok (I : Inv X pins σ H s) (t : Nat) : Inv X pins σ H { s with toks := t } := I.un (h' := s.heap) (t' := t) Un.refl I.hok
theorem Inv.kept {t' : Nat} (I : Inv X pins σ H s) (k : ∀ b u, s.heap.get? b = some u -> h'.get? b = some u) : Inv X pins σ H { s with heap := h', toks := t' } := I.un (Un.kept k) (I.hok.kept k)
theorem Inv.laid {a : Addr} {o : HO} {t' : Nat} (I : Inv X pins σ H s) (k : ∀ b u, s.heap.get? b = some u -> h'.get? b = some u) (hp : s.heap.objs.size <= a) (new : gu X.prog X.w (upd H a o) h' a o) :
  Inv X pins σ (upd H a o) { s with heap := h', toks := t' } := I.un (Un.laid k hp (I.hok.fresh hp)) (I.hok.laid k hp new)
theorem Inv.write {x e : Addr} {o : HO} {t' : Nat} (I : Inv X pins σ H s) (mu : Mut (H x)) (he : e = x \/ H e = some (.own x)) (k : ∀ b u, b ≠ e -> s.heap.get? b = some u -> h'.get? b = some u) (heo : ∃ u, h'.get? e = some u)
  (new : gu X.prog X.w (upd H x o) h' x o) : Inv X pins σ (upd H x o) { s with heap := h', toks := t' } := I.un (Un.write mu he k heo) (I.hok.write mu he k heo new)
theorem Inv.weak {σ' : List (Option V)} (I : Inv X pins σ H s) (hl : σ'.length = σ.length) (w : ∀ (i : Nat) v, σ'[i]? = some (some v) -> σ[i]? = some (some v)) : Inv X pins σ' H s :=
 ⟨I.ok, I.os, I.bare, I.base, let ⟨m, hn, hl'⟩ := I.loc; ⟨m, hn, fun i x v e1 e2 e3 => hl' i x v e1 (w i v e2) e3⟩, I.cell, I.free, I.freeC, I.pin, I.hok, hl.trans I.len⟩
theorem Inv.vj {pins' : List 'a'} (I : Inv X pins σ H s) (h : ∀ p ∈ pins', s.heap.get? p.1 = some p.2 /\ H p.1 = none /\ p.1 ≠ X.env.locals /\ p.1 ∉ X.fs /\ ∀ v, p.2.data ≠ .cell v) : Inv X pins' σ H s :=
 ⟨I.ok, I.os, I.bare, I.base, I.loc, I.cell, I.free, I.freeC, fun p hp => (List.mem_append.mp hp).elim (fun z => I.pin p (List.mem_append_left _ z)) (h p), I.hok, I.len⟩
theorem vL {N : List Str} (hN : N.Nodup) {i j : Nat} {x : Str} (a : N[i]? = some x) (b : N[j]? = some x) : i = j := by
 obtain ⟨h1, e1⟩ := List.getElem?_eq_some_iff.mp a
 obtain ⟨h2, e2⟩ := List.getElem?_eq_some_iff.mp b
 exact (List.getElem_inj hN).mp (e1.trans e2.symm)
theorem xr {M : Model} {A : Around} {E : Value -> Shared -> Prop} {i : Nat} {x : Str} {v : V} {u : Value} {Q : Unit -> Shared -> Prop} (I : Inv X pins σ H s) (hN : X.N.Nodup) (hi : X.N[i]? = some x) (hx : Loc X.env.scope x) (r : RelV v u)
  (h : ∀ s', Inv X pins (σ.set i (some v)) H s' -> (∃ a, Heap.SameBut a s.heap s'.heap /\ (a = X.env.locals \/ X.env.cells.lookup x = some a)) -> Q () s') (hf : X.fn x = true \/ X.env.scope.names.lookup x = some .local := by first | exact .inl rfl | exact .inr rfl | assumption) : wpAny M A (storeName X.env x u) Q E s := by
 obtain ⟨m, hn, hl⟩ := id I.loc
 have hcls : (X.env.scope.kind == .class || (X.env.scope.kind == .module && X.env.locals != X.env.globals)) = false := by rw [I.ok.kind]; rfl
 have hiσ : i < σ.length := by rw [I.len]; exact (List.getElem?_eq_some_iff.mp hi).1
 have cne := I.cne
 have tracked : ∀ {a : Addr} {h' : Heap}, (∃ o, s.heap.get? a = some o /\ H a = none) -> Heap.SameBut a s.heap h' -> HOk X.prog X.w H h' := fun {a h'} ha hs b ob e => by
  obtain ⟨_, _, hfree⟩ := ha
  refine (I.hok b ob e).zJ (fun c w' hc q => (hs.2 c ?_).trans q) (fun _ q => q) fun _ _ q => q
  rintro rfl
  rcases hc with rfl | hc
  ·rw [hfree] at e; cases e
  ·rw [hfree] at hc; cases hc
 rcases hx with hk | hk
 ·refine wpAny_storeName_local hk hn (fun h' hn' hs => ?_) hcls
  obtain ⟨oL, _, _, hoL, _⟩ := id hn
  refine h _ ⟨I.ok, I.os, I.bare, ⟨fun b o e n hb hx => ?_, fun b o e n hb hx => ?_, I.base.free, fun b o e hx => ?_, I.base.tups, I.base.frzs, I.base.tbls⟩, ⟨_, hn', fun j y v' e1 e2 e3 => ?_⟩, fun y c e => ?_, I.free, I.freeC, fun p hp => ?_, tracked ⟨oL, hoL, I.free⟩ hs, by simpa using I.len⟩ ⟨_, hs, .inl rfl⟩
  ·exact (hs.2 b (Nat.ne_of_lt (Nat.lt_of_lt_of_le (Heap.lt_size e) I.ok.above))).trans (I.base.keep b o e n hb hx)
  ·obtain ⟨sl, e1⟩ := I.base.slot b o e n hb hx
   exact ⟨sl, (hs.2 b (Nat.ne_of_lt (Nat.lt_of_lt_of_le (Heap.lt_size e) I.ok.above))).trans e1⟩
  ·obtain ⟨o', e1⟩ := I.base.there b o e hx
   exact ⟨o', (hs.2 b (Nat.ne_of_lt (Nat.lt_of_lt_of_le (Heap.lt_size e) I.ok.above))).trans e1⟩
  ·by_cases hj : j = i
   ·subst hj
    rw [hi] at e1; cases e1
    rw [List.getElem?_set_self hiσ] at e2
    cases e2
    exact ⟨u, r, .inl ⟨hk, by simp⟩⟩
   ·rw [List.getElem?_set_ne (Ne.symm hj)] at e2
    obtain ⟨u', r', q⟩ := hl j y v' e1 e2 e3
    refine ⟨u', r', ?_⟩
    rcases q with ⟨k, e⟩ | ⟨k, c, e, z⟩
    ·refine .inl ⟨k, ?_⟩
     have : y ≠ x := fun e => hj (vL hN e1 (e ▸ hi))
     simp [this, e]
    ·exact .inr ⟨k, c, e, z.sameBut hs (cne y c e)⟩
  ·obtain ⟨w', z⟩ := I.cell y c e
   exact ⟨w', z.sameBut hs (cne y c e)⟩
  ·obtain ⟨e, n, ne, nf, d⟩ := I.pin p hp
   exact ⟨(hs.2 p.1 ne).trans e, n, ne, nf, d⟩
 ·have hfn : X.fn x = true := by
   rcases hf with z | z
   ·exact z
   ·rw [z] at hk; cases hk
  obtain ⟨c, hc⟩ := I.ok.has x (.inl hk)
  obtain ⟨w', z⟩ := I.cell x c hc
  refine wpAny_storeName_cell I.ok.kind hk hc z (fun h' hc' hs => ?_)
  obtain ⟨oc, hoc, hocd⟩ := id z
  refine h { s with heap := h' } ⟨I.ok, I.os, I.bare, ⟨fun b o e n hb hx => ?_, fun b o e n hb hx => ?_, I.base.free, fun b o e hx => ?_, I.base.tups, I.base.frzs, I.base.tbls⟩, ⟨m, hn.sameBut hs (Ne.symm (cne x c hc)), fun j y v' e1 e2 e3 => ?_⟩, fun y c' e => ?_, I.free, I.freeC, fun p hp => ?_, tracked ⟨oc, hoc, I.freeC x c hc⟩ hs, by simpa using I.len⟩ ⟨c, hs, .inr hc⟩
  ·exact (hs.2 b (Nat.ne_of_lt (Nat.lt_of_lt_of_le (Heap.lt_size e) (I.ok.cab x c hfn hc)))).trans (I.base.keep b o e n hb hx)
  ·obtain ⟨sl, e1⟩ := I.base.slot b o e n hb hx
   exact ⟨sl, (hs.2 b (Nat.ne_of_lt (Nat.lt_of_lt_of_le (Heap.lt_size e) (I.ok.cab x c hfn hc)))).trans e1⟩
  ·obtain ⟨o', e1⟩ := I.base.there b o e hx
   exact ⟨o', (hs.2 b (Nat.ne_of_lt (Nat.lt_of_lt_of_le (Heap.lt_size e) (I.ok.cab x c hfn hc)))).trans e1⟩
  ·by_cases hj : j = i
   ·subst hj
    rw [hi] at e1; cases e1
    rw [List.getElem?_set_self hiσ] at e2
    cases e2
    exact ⟨u, r, .inr ⟨.inl hk, c, hc, hc'⟩⟩
   ·rw [List.getElem?_set_ne (Ne.symm hj)] at e2
    obtain ⟨u', r', q⟩ := hl j y v' e1 e2 e3
    refine ⟨u', r', ?_⟩
    rcases q with q | ⟨k, c', e, z'⟩
    ·exact .inl q
    ·refine .inr ⟨k, c', e, z'.sameBut hs ?_⟩
     rintro rfl
     exact hj (vL hN e1 (I.ok.inj _ _ _ e hc ▸ hi))
  ·by_cases hcc : c' = c
   ·subst hcc; exact ⟨_, hc'⟩
   ·obtain ⟨w2, z2⟩ := I.cell y c' e
    exact ⟨w2, z2.sameBut hs hcc⟩
  ·obtain ⟨e, n, ne, nf, d⟩ := I.pin p hp
   refine ⟨(hs.2 p.1 ?_).trans e, n, ne, nf, d⟩
   intro q
   rw [q, hoc] at e
   have q' : oc = p.2 := Option.some.inj e
   exact d w' (by rw [<- q']; exact hocd)
theorem rg {M : Model} {A : Around} {E : Value -> Shared -> Prop} {i : Nat} {x : Str} {v : V} {u : Value} {Q : Unit -> Shared -> Prop} (I : Inv X pins σ H s) (hN : X.N.Nodup) (hi : X.N[i]? = some x) (hx : Loc X.env.scope x) (r : RelV v u)
  (h : ∀ s', Inv X pins (σ.set i (some v)) H s' -> Q () s') (hf : X.fn x = true \/ X.env.scope.names.lookup x = some .local := by first | exact .inl rfl | exact .inr rfl | assumption) : wpAny M A (storeName X.env x u) Q E s :=
 xr I hN hi hx r (fun s' I' _ => h s' I') hf
theorem Inv.call' {s' : Shared} {ch : List Addr} (I : Inv X pins σ H s) (ho : s'.os = s.os) (u : Un (frs X.stack) ch H H' s.heap s'.heap) (hok : HOk X.prog X.w H' s'.heap) (hg : AllBare s'.gens)
  (hch : ∀ b ∈ ch, (b ∈ X.ex \/ X.s₀.heap.objs.size <= b) /\ b ≠ X.env.locals /\ (∀ x c, X.env.cells.lookup x = some c -> c ≠ b) /\ ∀ p ∈ X.pn ++ pins, p.1 ≠ b) : Inv X pins σ H' s' := by
 obtain ⟨h', g', d', t', o'⟩ := s'
 have e : o' = s.os := ho
 subst e
 exact I.call (g' := g') (t' := t') (d' := d') u hok hg hch
end
noncomputable abbrev XK := Value -> Option Addr -> Hp -> Prop
noncomputable abbrev St := List (Option V)
noncomputable abbrev VK := V -> Hp -> Prop
noncomputable abbrev TE := St -> Hp -> VK -> Prop
noncomputable abbrev TT := St -> Hp -> (Bool -> Hp -> Prop) -> Prop
noncomputable abbrev TA := St -> Hp -> (List V -> Hp -> Prop) -> Prop
structure Ends where
 nx : St -> Hp -> Prop
 rt : VK
 bk : St -> Hp -> Prop := fun _ _ => False
 ct : St -> Hp -> Prop := fun _ _ => False
noncomputable abbrev TS := Ends -> St -> Hp -> Prop
noncomputable def EP (X : Cx) (pins : List 'a') (σ : St) (Q : VK) (u : Value) (s' : Shared) : Prop := ∃ v H', Inv X pins σ H' s' /\ RelV v u /\ Q v H'
noncomputable def TP (X : Cx) (pins : List 'a') (σ : St) (Q : Bool -> Hp -> Prop) (b : Bool) (s' : Shared) : Prop := ∃ H', Inv X pins σ H' s' /\ Q b H'
noncomputable def AP (X : Cx) (pins : List 'a') (σ : St) (Q : List V -> Hp -> Prop) (us : List Value) (s' : Shared) : Prop := ∃ vs H', Inv X pins σ H' s' /\ Vals vs us /\ Q vs H'
noncomputable def SP (X : Cx) (pins : List 'a') (D : Ends) (f : Flow) (s' : Shared) : Prop :=
 match f with
 | .next => ∃ σ' H', Inv X pins σ' H' s' /\ D.nx σ' H'
 | .brk => ∃ σ' H', Inv X pins σ' H' s' /\ D.bk σ' H'
 | .cont => ∃ σ' H', Inv X pins σ' H' s' /\ D.ct σ' H'
 | .ret u => ∃ v σ' H', Inv X pins σ' H' s' /\ RelV v u /\ D.rt v H'
noncomputable def PE (X : Cx) (e : Expr) (t : TE) : Prop :=
 ∀ (pins : List 'a') (s : Shared) (σ : St) (H : Hp) (Q : VK), Inv X pins σ H s -> t σ H Q -> wpAny 'b' X.A (eval e X.env) (EP X pins σ Q) X.xe s
noncomputable def PT (X : Cx) (e : Expr) (t : TT) : Prop :=
 ∀ (pins : List 'a') (s : Shared) (σ : St) (H : Hp) (Q : Bool -> Hp -> Prop), Inv X pins σ H s -> t σ H Q -> wpAny 'b' X.A (isTrue e X.env (eval e X.env)) (TP X pins σ Q) X.xe s
noncomputable def PW (X : Cx) (e : Expr) (t : TT) : Prop :=
 ∀ (whole : Sem Value) (pins : List 'a') (s : Shared) (σ : St) (H : Hp) (Q : Bool -> Hp -> Prop), Inv X pins σ H s -> t σ H Q -> wpAny 'b' X.A (isTrue e X.env whole) (TP X pins σ Q) X.xe s
theorem PW.pt {X : Cx} {e : Expr} {t : TT} (h : PW X e t) : PT X e t := h _
noncomputable def PA (X : Cx) (es : List Expr) (t : TA) : Prop :=
 ∀ (pos : Pos) (pins : List 'a') (s : Shared) (σ : St) (H : Hp) (Q : List V -> Hp -> Prop), Inv X pins σ H s -> t σ H Q -> wpAny 'b' X.A (spliced 'm') (AP X pins σ Q) X.xe s
noncomputable def PS (X : Cx) (st : Stmt) (t : TS) : Prop :=
 ∀ (pins : List 'a') (s : Shared) (σ : St) (H : Hp) (D : Ends), Inv X pins σ H s -> t D σ H -> wpAny 'b' X.A (exec st X.env) (SP X pins D) X.xe s
noncomputable def PSs (X : Cx) (st : List Stmt) (t : TS) : Prop :=
 ∀ (pins : List 'a') (s : Shared) (σ : St) (H : Hp) (D : Ends), Inv X pins σ H s -> t D σ H -> wpAny 'b' X.A (execs st X.env) (SP X pins D) X.xe s
theorem thn {α : Type} {t : Sem α} {Q Q' : α -> Shared -> Prop} {M : Model} {A : Around} {E : Value -> Shared -> Prop} {s : Shared} (h : wpAny M A t Q E s) (hQ : ∀ a s, Q a s -> Q' a s) : wpAny M A t Q' E s := wpAny_mono h hQ fun _ _ x => x
end L2
namespace L2
open PySem PySem.Spec PyProof.Rows
section
variable {X : Cx}
noncomputable def tVar (i : Nat) : TE := fun σ H Q => ∃ v, σ[i]? = some (some v) /\ Q v H
noncomputable def tC (v : V) : TE := fun _ H Q => Q v H
theorem pe_var {i : Nat} {x : Str} {pos : Pos} (hN : X.N[i]? = some x) (hv : Vis X.env.scope x) (hd : 'c' = false := by decide) (hcd : (x == ("__classdict__" : Str)) = false := by decide) : PE X (.Name x pos) (tVar i) := by
 intro pins s σ H Q I h
 obtain ⟨v, e, h⟩ := h
 obtain ⟨m, hn, hl⟩ := I.loc
 obtain ⟨u, r, l⟩ := hl i x v hN e hv
 have fin : EP X pins σ Q u s := ⟨v, H, I, r, h⟩
 rcases l with ⟨hk, hm⟩ | ⟨hk, c, hc, hcell⟩
 ·exact wpAny_Name (wpAny_loadName_local I.ok.kind hk hn hm fin) hd
 ·rcases hk with hk | hk
  ·exact wpAny_Name (wpAny_loadName_cell I.ok.kind hk hc hcell fin) hd
  ·exact wpAny_Name (wpAny_loadName_free I.ok.kind hk hc hcell fin hcd) hd
theorem pe_int {i j pos} : PE X (.Constant (.int i) j pos) (tC (.int i)) := fun _ _ _ H _ I h => wpAny_Constant_int ⟨.int i, H, I.tok _, ⟨_, rfl⟩, h⟩
theorem pe_bl {b j pos} : PE X (.Constant (.bool b) j pos) (tC (.bl b)) := fun _ _ _ H _ I h => Constant_bool ⟨.bl b, H, I, rfl, h⟩
theorem pe_non {j pos} : PE X (.Constant .none j pos) (tC .non) := fun _ _ _ H _ I h => Constant_none ⟨.non, H, I, rfl, h⟩
theorem pe_str {x j pos} : PE X (.Constant (.str x) j pos) (tC (.str x)) := fun _ _ _ H _ I h => Calls.Constant_str ⟨.str x, H, I.tok _, ⟨_, rfl⟩, h⟩
noncomputable def Gl (X : Cx) (x : Str) : Prop := X.env.kindOf x = some .globalImplicit
theorem lL {E : Value -> Shared -> Prop} {pins : List 'a'} {s : Shared} {σ : St} {H : Hp} {x : Str} {u : Value} {pos : Pos} {Q : Value -> Shared -> Prop} (I : Inv X pins σ H s) (hg : Gl X x) (hm : X.mg x = some u) (h : Q u s)
  (hd : 'c' = false := by decide) : wpAny 'b' X.A (eval (.Name x pos) X.env) Q E s :=
 Calls.Name_function_global I.ok.kind hg (Calls.loadGlobal_global (by rw [I.ok.glob]; exact I.mod.glob.keeps I.bk) hm h) hd
theorem uh {E : Value -> Shared -> Prop} {pins : List 'a'} {s : Shared} {σ : St} {H : Hp} {x : Str} {u : Value} {pos : Pos} {Q : Value -> Shared -> Prop} (I : Inv X pins σ H s) (hg : Gl X x) (hm : X.mg x = none) (hv : bootBuiltins x = some u) (h : Q u s)
  (hn : x ≠ "__name__" := by decide) (hd : 'c' = false := by decide) : wpAny 'b' X.A (eval (.Name x pos) X.env) Q E s := by
 obtain ⟨mb, h1, h2⟩ := I.mod.blt
 exact Calls.Name_function_global I.ok.kind hg (Calls.loadGlobal_builtin (by rw [I.ok.glob]; exact I.mod.glob.keeps I.bk) hm (by rw [I.ok.blt]; exact h1.keeps I.bk) ((h2 x hn).trans hv) h) hd
theorem pe_glob {x : Str} {v : V} {u : Value} {pos : Pos} (hg : Gl X x) (hm : X.mg x = some u) (r : RelV v u) (hd : 'c' = false := by decide) : PE X (.Name x pos) (tC v) :=
 fun _ _ _ H _ I h => lL I hg hm ⟨v, H, I, r, h⟩ hd
theorem pe_bltn {x : Str} {v : V} {u : Value} {pos : Pos} (hg : Gl X x) (hm : X.mg x = none) (hv : bootBuiltins x = some u) (r : RelV v u) (hn : x ≠ "__name__" := by decide) (hd : 'c' = false := by decide) : PE X (.Name x pos) (tC v) :=
 fun _ _ _ H _ I h => uh I hg hm hv ⟨v, H, I, r, h⟩ hn hd
variable {a b : Expr} {ta tb : TE} {pos : Pos}
variable {tA tB' : TT} {rest : List Expr}
noncomputable def tAnd (t u : TT) : TT := fun σ H Q => t σ H fun c H1 => if c = true then u σ H1 Q else Q false H1
noncomputable def tOr (t u : TT) : TT := fun σ H Q => t σ H fun c H1 => if c = true then Q true H1 else u σ H1 Q
noncomputable def tNot (t : TT) : TT := fun σ H Q => t σ H fun c H1 => Q (!c) H1
theorem pw_and1 (ha : PT X a tA) : PW X (.BoolOp .And [a] pos) tA := by
 intro wh pins s σ H Q I h
 refine isTrue_and (thn (ha pins s σ H Q I h) fun c s1 e => ?_)
 cases c with
 | true => exact isTrue_and_nil e
 | false => exact e
theorem pw_or1 (ha : PT X a tA) : PW X (.BoolOp .Or [a] pos) tA := by
 intro wh pins s σ H Q I h
 refine isTrue_or (thn (ha pins s σ H Q I h) fun c s1 e => ?_)
 cases c with
 | false => exact isTrue_or_nil e
 | true => exact e
theorem pw_and (ha : PT X a tA) (hb : PW X (.BoolOp .And (b :: rest) pos) tB') : PW X (.BoolOp .And (a :: b :: rest) pos) (tAnd tA tB') := by
 intro wh pins s σ H Q I h
 refine isTrue_and (thn (ha pins s σ H _ I h) fun c s1 ⟨H1, I1, q1⟩ => ?_)
 cases c with
 | true => exact hb wh pins s1 σ H1 Q I1 q1
 | false => exact ⟨H1, I1, q1⟩
theorem pw_or (ha : PT X a tA) (hb : PW X (.BoolOp .Or (b :: rest) pos) tB') : PW X (.BoolOp .Or (a :: b :: rest) pos) (tOr tA tB') := by
 intro wh pins s σ H Q I h
 refine isTrue_or (thn (ha pins s σ H _ I h) fun c s1 ⟨H1, I1, q1⟩ => ?_)
 cases c with
 | true => exact ⟨H1, I1, q1⟩
 | false => exact hb wh pins s1 σ H1 Q I1 q1
theorem pt_not (ha : PT X a tA) : PT X (.UnaryOp .Not a pos) (tNot tA) := by
 intro pins s σ H Q I h
 exact isTrue_not (ha pins s σ H (fun c H1 => Q (!c) H1) I h)
noncomputable def tAndV (ta tb : TE) : TE := fun σ H Q => ta σ H fun x H1 => ∃ c, x = .bl c /\ if c = true then tb σ H1 Q else Q (.bl false) H1
noncomputable def tNotV (ta : TE) : TE := fun σ H Q => ta σ H fun x H1 => ∃ c, x = .bl c /\ Q (.bl (!c)) H1
theorem pe_one {op} {t : TE} (h : PE X a t) : PE X (.BoolOp op [a] pos) t := fun pins s σ H Q I hw => BoolOp_one (h pins s σ H Q I hw)
theorem pe_and (ha : PE X a ta) (hb : PE X (.BoolOp .And (b :: rest) pos) tb) : PE X (.BoolOp .And (a :: b :: rest) pos) (tAndV ta tb) := by
 intro pins s σ H Q I h
 refine BoolOp_and (thn (ha pins s σ H _ I h) fun v s1 ⟨x, H1, I1, r1, q1⟩ => ?_)
 obtain ⟨c, rfl, q1⟩ := q1
 cases r1
 refine wpAny_truthy_bool ?_
 cases c with
 | true => exact hb pins s1 σ H1 Q I1 q1
 | false => exact ⟨.bl false, H1, I1, rfl, q1⟩
theorem pe_not (ha : PE X a ta) : PE X (.UnaryOp .Not a pos) (tNotV ta) := by
 intro pins s σ H Q I h
 refine UnaryOp_ (thn (ha pins s σ H _ I h) fun v s1 ⟨x, H1, I1, r1, q1⟩ => ?_)
 obtain ⟨c, rfl, q1⟩ := q1
 cases r1
 exact not_of (wpAny_truthy_bool ⟨.bl (!c), H1, I1, rfl, q1⟩)
noncomputable def tIf (t : TT) (ta tb : TE) : TE := fun σ H Q => t σ H fun c H1 => if c = true then ta σ H1 Q else tb σ H1 Q
theorem pe_ifExp {c : Expr} (hc : PT X c tA) (ha : PE X a ta) (hb : PE X b tb) : PE X (.IfExp c a b pos) (tIf tA ta tb) := by
 intro pins s σ H Q I h
 refine wpAny_IfExp (thn (hc pins s σ H _ I h) fun d s1 ⟨H1, I1, q1⟩ => ?_)
 cases d with
 | true => exact ha pins s1 σ H1 Q I1 q1
 | false => exact hb pins s1 σ H1 Q I1 q1
end
end L2
namespace L2
open PySem PySem.Spec PyProof.Rows
noncomputable def SqL (K : PySem.W.Frag) (H : Hp) (a : Addr) (xs : List V) : Prop :=
 Rd H a (.lst xs) \/
  ∃ (o : Obj) (its : Array Value) (n : Nat), K.lookup a = some o /\ o.cls = .type "list" /\ o.dict = none /\ o.data = .seq its n /\ its.size <= sizeLine /\ Vals xs its.toList
noncomputable def SqT (K : PySem.W.Frag) (H : Hp) (a : Addr) (xs : List V) : Prop :=
 Rd H a (.tup xs) \/
  ∃ (o : Obj) (its : Array Value) (n : Nat), K.lookup a = some o /\ o.cls = .type "tuple" /\ o.data = .seq its n /\ its.size <= sizeLine /\ Vals xs its.toList
noncomputable def absV : Value -> Option V
 | .none => some .non
 | .bool b => some (.bl b)
 | .int i _ => some (.int i)
 | .str x _ => some (.str x)
 | .bytes b _ => some (.byt b)
 | .float b _ => some (.flt b)
 | .ref a => some (.ref a)
 | .type n => some (.ty n)
 | _ => none
theorem RelV.abs {x : V} {u : Value} (r : RelV x u) : absV u = some x := by
 cases x with
 | non => cases r; rfl
 | bl _ => cases r; rfl
 | int _ => obtain ⟨t, rfl⟩ := r; rfl
 | str _ => obtain ⟨t, rfl⟩ := r; rfl
 | byt _ => obtain ⟨t, rfl⟩ := r; rfl
 | flt _ => obtain ⟨t, rfl⟩ := r; rfl
 | ref _ => cases r; rfl
 | ty _ => cases r; rfl
theorem RelV.inj {x y : V} {u : Value} (r : RelV x u) (q : RelV y u) : x = y := Option.some.inj (r.abs.symm.trans q.abs)
theorem Vals.inj : ∀ {xs ys : List V} {us : List Value}, Vals xs us -> Vals ys us -> xs = ys
 | _, _, _, .nil, .nil => rfl
 | _, _, _, .cons r t, .cons r' t' => by rw [r.inj r', Vals.inj t t']
section
variable {X : Cx} {pins : List 'a'} {σ : St} {H : Hp} {s : Shared} {a : Addr} {xs ys : List V}
theorem SqL.of {K : PySem.W.Frag} (h : H a = some (.lst xs)) : SqL K H a xs := .inl (.inl h)
theorem SqT.of {K : PySem.W.Frag} (h : H a = some (.tup xs)) : SqT K H a xs := .inl (.inl h)
theorem Inv.list (I : Inv X pins σ H s) (h : SqL X.K H a xs) : ∃ its : List Value, Vals xs its /\ PlainL s.heap a its.toArray /\ xs.length <= sizeLine := by
 rcases h with h | ⟨o, its, n, hk, hc, hd, hs, hz, r⟩
 ·obtain ⟨z, its, n, r, e⟩ := h.ok I.hok
  exact ⟨its, r, ⟨_, n, e, rfl, rfl, rfl⟩, z⟩
 ·refine ⟨its.toList, r, ⟨o, n, I.kIn a o hk, hc, hd, by simpa using hs⟩, ?_⟩
  have e := r.length
  simp only [Array.length_toList] at e
  omega
theorem Inv.tuple (I : Inv X pins σ H s) (h : SqT X.K H a xs) : ∃ its : List Value, Vals xs its /\ IsTup s.heap a its.toArray /\ xs.length <= sizeLine := by
 rcases h with h | ⟨o, its, n, hk, hc, hs, hz, r⟩
 ·obtain ⟨z, its, r, p⟩ := h.ok I.hok
  exact ⟨its, r, p, z⟩
 ·refine ⟨its.toList, r, ⟨o, I.kIn a o hk, hc, n, by simpa using hs⟩, ?_⟩
  have e := r.length
  simp only [Array.length_toList] at e
  omega
theorem Inv.Bc (I : Inv X pins σ H s) (h : SqL X.K H a xs) (h' : SqL X.K H a ys) : xs = ys := by
 obtain ⟨its, r, ⟨o, n, e, _, _, d⟩, _⟩ := I.list h
 obtain ⟨its', r', ⟨o', n', e', _, _, d'⟩, _⟩ := I.list h'
 rw [e] at e'; cases e'
 rw [d] at d'
 injection d' with d1 _
 have : its = its' := by simpa using congrArg Array.toList d1
 subst this
 exact r.inj r'
theorem Inv.CG (I : Inv X pins σ H s) (h : SqT X.K H a xs) (h' : SqT X.K H a ys) : xs = ys := by
 obtain ⟨its, r, ⟨o, e, _, n, d⟩, _⟩ := I.tuple h
 obtain ⟨its', r', ⟨o', e', _, n', d'⟩, _⟩ := I.tuple h'
 rw [e] at e'; cases e'
 rw [d] at d'
 injection d' with d1 _
 have : its = its' := by simpa using congrArg Array.toList d1
 subst this
 exact r.inj r'
end
noncomputable abbrev Cx.xb (X : Cx) (E : Value -> Shared -> Prop) : Cx := { X with xe := E }
noncomputable abbrev Cx.nox (X : Cx) : Cx := X.xb fun _ _ => False
theorem Cx.Ok.xb {X : Cx} (ok : X.Ok) (E : Value -> Shared -> Prop) : (X.xb E).Ok :=
 ⟨ok.mod, ok.kind, ok.glob, ok.blt, ok.above, ok.inj, ok.has, ok.cab, ok.hd, ok.frames, ok.stk, ok.exf, ok.bs, ok.bsz, ok.noex, ok.exfs, ok.yH, ok.frf⟩
theorem Cx.Ok.lB {X : Cx} {E : Value -> Shared -> Prop} (ok : (X.xb E).Ok) : X.Ok :=
 ⟨ok.mod, ok.kind, ok.glob, ok.blt, ok.above, ok.inj, ok.has, ok.cab, ok.hd, ok.frames, ok.stk, ok.exf, ok.bs, ok.bsz, ok.noex, ok.exfs, ok.yH, ok.frf⟩
section
variable {X : Cx} {pins : List 'a'} {σ : St} {H : Hp} {s : Shared} {E : Value -> Shared -> Prop}
theorem Inv.xb (I : Inv X pins σ H s) (E : Value -> Shared -> Prop) : Inv (X.xb E) pins σ H s := ⟨I.ok.xb E, I.os, I.bare, I.base, I.loc, I.cell, I.free, I.freeC, I.pin, I.hok, I.len⟩
theorem Inv.lB (I : Inv (X.xb E) pins σ H s) : Inv X pins σ H s := ⟨I.ok.lB, I.os, I.bare, I.base, I.loc, I.cell, I.free, I.freeC, I.pin, I.hok, I.len⟩
theorem SP.lB {D : Ends} {f : Flow} {s' : Shared} (h : SP (X.xb E) pins D f s') : SP X pins D f s' := by
 cases f with
 | next => obtain ⟨σ', H', I, q⟩ := h; exact ⟨σ', H', I.lB, q⟩
 | brk => obtain ⟨σ', H', I, q⟩ := h; exact ⟨σ', H', I.lB, q⟩
 | cont => obtain ⟨σ', H', I, q⟩ := h; exact ⟨σ', H', I.lB, q⟩
 | ret u => obtain ⟨v, σ', H', I, r, q⟩ := h; exact ⟨v, σ', H', I.lB, r, q⟩
theorem PSs.nox {st : List Stmt} {t : TS} (h : PSs X.nox st t) : PSs X st t := fun pins s σ H D I hw =>
 wpAny_mono (h pins s σ H D (I.xb _) hw) (fun _ _ q => q.lB) fun _ _ z => False.elim z
end
section
variable {X : Cx} {st : Stmt} {rest : List Stmt} {t u : TS} {e : Expr} {te : TE} {pos : Pos}
noncomputable def tNext : TS := fun D σ H => D.nx σ H
noncomputable def tSeq (t u : TS) : TS := fun D σ H => t { D with nx := u D } σ H
theorem D0 : PSs X [] tNext := fun _ _ σ H _ I h => wpAny_execs_nil ⟨σ, H, I, h⟩
theorem rh (h1 : PS X st t) (h2 : PSs X rest u) : PSs X (st :: rest) (tSeq t u) := by
 intro pins s σ H D I h
 refine wpAny_execs_cons (thn (h1 pins s σ H { D with nx := u D } I h) fun f s1 q => ?_)
 cases f with
 | next =>
  obtain ⟨σ', H', I', q⟩ := q
  exact h2 pins s1 σ' H' D I' q
 | ret v => exact q
 | brk => exact q
 | cont => exact q
theorem rE (h1 : PS X st t) : PSs X [st] t := by
 intro pins s σ H D I h
 refine wpAny_execs_cons (thn (h1 pins s σ H D I h) fun f s1 q => ?_)
 cases f with
 | next => exact wpAny_execs_nil q
 | ret v => exact q
 | brk => exact q
 | cont => exact q
theorem Inv.quiet {pins : List 'a'} {σ : St} {H : Hp} {s : Shared} (I : Inv X pins σ H s) : interactive X.env = false := by simp [interactive, I.ok.kind]
noncomputable def tDrop (te : TE) : TS := fun D σ H => te σ H fun _ H1 => D.nx σ H1
theorem D3 (he : PE X e te) (hs : swapsWith e none pos.line X.env = pure false := by rfl) : PS X (.Expr e pos) (tDrop te) := by
 intro pins s σ H D I h
 exact wpAny_Expr_any (thn (he pins s σ H _ I h) fun v s1 ⟨x, H1, I1, r1, q1⟩ => ⟨σ, H1, I1, q1⟩) I.quiet hs
noncomputable def tRet (te : TE) : TS := fun D σ H => te σ H D.rt
theorem ps_ret (he : PE X e te) : PS X (.Return (some e) pos) (tRet te) := by
 intro pins s σ H D I h
 exact wpAny_Return_some (thn (he pins s σ H _ I h) fun v s1 ⟨x, H1, I1, r1, q1⟩ => ⟨x, σ, H1, I1, r1, q1⟩)
noncomputable def tIfS (c : TT) (t u : TS) : TS := fun D σ H => c σ H fun b H1 => if b = true then t D σ H1 else u D σ H1
theorem ps_if {c : Expr} {a b : List Stmt} {tc : TT} (hc : PT X c tc) (ha : PSs X a t) (hb : PSs X b u) : PS X (.If c a b pos) (tIfS tc t u) := by
 intro pins s σ H D I h
 refine wpAny_If (thn (hc pins s σ H _ I h) fun d s1 ⟨H1, I1, q1⟩ => ?_)
 cases d with
 | true => exact ha pins s1 σ H1 D I1 q1
 | false => exact hb pins s1 σ H1 D I1 q1
noncomputable def tNever : TS := fun _ _ _ => False
theorem xK {sts : List Stmt} : PSs X sts tNever := fun _ _ _ _ _ _ h => h.elim
end
noncomputable abbrev TG := V -> St -> Hp -> (St -> Hp -> Prop) -> Prop
noncomputable abbrev TGs := List V -> St -> Hp -> (St -> Hp -> Prop) -> Prop
noncomputable def PG (X : Cx) (target : Expr) (t : TG) : Prop :=
 ∀ (pins : List 'a') (s : Shared) (σ : St) (H : Hp) (v : V) (u : Value) (Q : St -> Hp -> Prop), Inv X pins σ H s -> RelV v u -> t v σ H Q ->
  wpAny 'b' X.A (assign target X.env u) (fun _ s' => ∃ σ' H', Inv X pins σ' H' s' /\ Q σ' H') X.xe s
noncomputable def PGs (X : Cx) (ts : List Expr) (t : TGs) : Prop :=
 ∀ (pins : List 'a') (s : Shared) (σ : St) (H : Hp) (vs : List V) (us : List Value) (Q : St -> Hp -> Prop), Inv X pins σ H s -> Vals vs us -> t vs σ H Q ->
  wpAny 'b' X.A (assignInOrder ((assignEach ts X.env).map (·.2)) us) (fun _ s' => ∃ σ' H', Inv X pins σ' H' s' /\ Q σ' H') X.xe s
noncomputable abbrev TSet := V -> V -> V -> Hp -> (Hp -> Prop) -> Prop
noncomputable def PSet (X : Cx) (t : TSet) : Prop :=
 ∀ (pins : List 'a') (s : Shared) (σ : St) (H : Hp) (o i v : V) (ov iv u : Value) (Q : Hp -> Prop), Inv X pins σ H s -> RelV o ov -> RelV i iv -> RelV v u -> t o i v H Q ->
  wpAny 'b' X.A (setItem ov iv u) (fun _ s' => ∃ H', Inv X pins σ H' s' /\ Q H') X.xe s
section
variable {X : Cx} {pos : Pos}
noncomputable def tQ (i : Nat) : TG := fun v σ H Q => Q (σ.set i (some v)) H
theorem zW {i : Nat} {x : Str} (hN : X.N.Nodup) (hi : X.N[i]? = some x) (hx : Loc X.env.scope x) (hf : X.fn x = true \/ X.env.scope.names.lookup x = some .local := by first | exact .inl rfl | exact .inr rfl | assumption) : PG X (.Name x pos) (tQ i) := by
 intro pins s σ H v u Q I r h
 exact wpAny_assign_Name (rg I hN hi hx r (fun s' I' => ⟨_, H, I', h⟩) hf)
noncomputable def gNil : TGs := fun vs σ H Q => vs = [] /\ Q σ H
noncomputable def gCons (t : TG) (u : TGs) : TGs := fun vs σ H Q => ∃ v r, vs = v :: r /\ t v σ H fun σ' H' => u r σ' H' Q
theorem pgs_nil : PGs X [] gNil := by
 intro pins s σ H vs us Q I r h
 obtain ⟨e, h⟩ := h
 subst e
 cases r
 exact assignInOrder_nil ⟨σ, H, I, h⟩
theorem B9 {e : Expr} {es : List Expr} {t : TG} {u : TGs} (h1 : PG X e t) (h2 : PGs X es u)
  (hs : (assignEach (e :: es) X.env).map (·.2) = assign e X.env :: (assignEach es X.env).map (·.2) := by rfl) : PGs X (e :: es) (gCons t u) := by
 intro pins s σ H vs us Q I r h
 obtain ⟨v, vr, e1, h⟩ := h
 subst e1
 cases r with
 | cons r rr =>
  rw [hs]
  refine assignInOrder_cons (thn (h1 pins s σ H _ _ _ I r h) fun _ s1 ⟨σ1, H1, I1, q1⟩ => ?_)
  exact h2 pins s1 σ1 H1 _ _ Q I1 rr q1
noncomputable def gTup (K : PySem.W.Frag) (n : Nat) (t : TGs) : TG := fun v σ H Q => ∃ a xs, v = .ref a /\ SqT K H a xs /\ xs.length = n /\ t xs σ H Q
theorem pg_tup {es : List Expr} {k : Nat} {t : TGs} {n : Nat} (hc : X.calm = true) (h : PGs X es t)
  (hn : (assignEach es X.env).length = n := by rfl) (hst : (assignEach es X.env).findIdx? (·.1) = none := by rfl) : PG X (.Tuple es k pos) (gTup X.K n t) := by
 intro pins s σ H v u Q I r hw
 obtain ⟨a, xs, e1, hq, hl, hw⟩ := hw
 subst e1
 cases r
 obtain ⟨its, rv, ht, hz⟩ := I.tuple hq
 refine assign_Tuple_tuple (I.ok.hd hc) ht (by simp [hn, <- hl, rv.length]) hst fun h' hx => ?_
 have I1 : Inv X pins σ H { s with heap := h' } := I.kept (t' := s.toks) fun b o e => hx b o (Nat.ne_of_lt (Heap.lt_size e)) e
 exact h pins _ σ H xs _ Q I1 (by simpa using rv) hw
noncomputable def gSub (to ti : TE) (t : TSet) : TG := fun v σ H Q => to σ H fun o H1 => ti σ H1 fun i H2 => t o i v H2 fun H3 => Q σ H3
theorem pg_sub {o i : Expr} {to ti : TE} {t : TSet} (ho : PE X o to) (hi : PE X i ti) (hs : PSet X t)
  (ha : ∀ v, assign (.Subscript o i pos) X.env v = (do
   let ov <- holding [v] (eval o X.env)
   let iv <- holding [v, ov] (eval i X.env)
   standAt pos
   holding [v, ov, iv] (setItem ov iv v)
   release [v, ov, iv] []) := by intro _; rfl) : PG X (.Subscript o i pos) (gSub to ti t) := by
 intro pins s σ H v u Q I r h
 rw [ha]
 refine wpAny_bind (wpAny_holding (thn (ho pins s σ H _ I h) fun ov s1 ⟨x, H1, I1, r1, q1⟩ => ?_))
 refine wpAny_bind (wpAny_holding (thn (hi pins s1 σ H1 _ I1 q1) fun iv s2 ⟨y, H2, I2, r2, q2⟩ => ?_))
 refine wpAny_bind (wpAny_standAt (wpAny_bind (wpAny_holding (thn (hs pins s2 σ H2 x y v ov iv u _ I2 r1 r2 r q2) fun _ s3 ⟨H3, I3, q3⟩ => ?_))))
 exact wpAny_release ⟨σ, H3, I3, q3⟩
noncomputable def tAsg (te : TE) (g : TG) : TS := fun D σ H => te σ H fun x H1 => g x σ H1 D.nx
theorem D4 {tg e : Expr} {te : TE} {g : TG} (he : PE X e te) (hg : PG X tg g) (hs : swapsWithSole [tg] e pos.line X.env = pure false := by rfl) (hw : swappedStores [tg] e X.env = pure none := by rfl)
  (h1 : (assignEach [tg] X.env).map (·.2) = [assign tg X.env] := by rfl) : PS X (.Assign [tg] e pos) (tAsg te g) := by
 intro pins s σ H D I h
 refine wpAny_Assign_stores (thn (he pins s σ H _ I h) fun v s1 ⟨x, H1, I1, r1, q1⟩ => ?_) hs hw
 rw [h1]
 exact thn (hg pins s1 σ H1 x v _ I1 r1 q1) fun _ s2 q => q
theorem D1 {i : Nat} {x : Str} {e : Expr} {te : TE} {pos' : Pos} (hN : X.N.Nodup) (hi : X.N[i]? = some x) (hx : Loc X.env.scope x) (he : PE X e te) (hs : swapsWith e (some (.Name x pos')) pos.line X.env = pure false := by rfl) (hf : X.fn x = true \/ X.env.scope.names.lookup x = some .local := by first | exact .inl rfl | exact .inr rfl | assumption) :
  PS X (.Assign [.Name x pos'] e pos) (tAsg te (tQ i)) := by
 intro pins s σ H D I h
 refine wpAny_Assign_Name (thn (he pins s σ H _ I h) fun v s1 ⟨y, H1, I1, r1, q1⟩ => ?_) hs
 exact rg I1 hN hi hx r1 (fun s2 I2 => ⟨_, H1, I2, q1⟩) hf
end
section
variable {X : Cx} {pos : Pos}
noncomputable def tWhile (c : TT) (tb : TS) : TS := fun D σ H => ∃ W : Nat -> St -> Hp -> Prop, (∃ m, W m σ H) /\ ∀ m σ H, W m σ H ->
 c σ H fun b H1 => if b = true then ∃ N : St -> Hp -> Prop, (∀ σ' H', N σ' H' -> ∃ m', m' < m /\ W m' σ' H') /\ tb { D with nx := N, ct := N, bk := D.nx } σ H1 else D.nx σ H1
theorem ps_while {c : Expr} {body : List Stmt} {tc : TT} {tb : TS} (hp : PassesOwn 'b' X.A X.env X.xe) (hc : PT X c tc) (hb : PSs X body tb) : PS X (.While c body [] pos) (tWhile tc tb) := by
 intro pins s σ H D I h
 obtain ⟨W, ⟨m0, w0⟩, turn⟩ := h
 refine wpAny_While (codeAny_whileLoop (fun n s' => ∃ σ' H', Inv X pins σ' H' s' /\ W n σ' H') ?_ m0 ⟨σ, H, I, w0⟩)
 rintro n s1 ⟨σ1, H1, I1, w1⟩
 refine wpAny_passesOwn hp (thn (hc pins s1 σ1 H1 _ I1 (turn n σ1 H1 w1)) fun b s2 ⟨H2, I2, q2⟩ => ?_)
 cases b with
 | true =>
  obtain ⟨N, hN, q2⟩ := q2
  rw [if_pos rfl]
  refine wpAny_passesOwn hp (thn (hb pins s2 σ1 H2 _ I2 q2) fun f s3 q3 => ?_)
  cases f with
  | next =>
   obtain ⟨σ3, H3, I3, n3⟩ := q3
   obtain ⟨m', hm, w3⟩ := hN σ3 H3 n3
   exact ⟨m', hm, σ3, H3, I3, w3⟩
  | cont =>
   obtain ⟨σ3, H3, I3, n3⟩ := q3
   obtain ⟨m', hm, w3⟩ := hN σ3 H3 n3
   exact ⟨m', hm, σ3, H3, I3, w3⟩
  | brk => exact q3
  | ret v => exact q3
 | false =>
  rw [if_neg Bool.false_ne_true]
  exact wpAny_execs_nil ⟨σ1, H2, I2, q2⟩
end
structure It where
 go : Nat -> Hp -> Prop
 yld : Nat -> Hp -> V -> Hp -> Prop
 stop : Nat -> Hp -> Prop
noncomputable def Ct (X : Cx) (pins : List 'a') (H : Hp) (b : Addr) : Prop :=
 H b = none /\ b ≠ X.env.locals /\ b ∉ X.fs /\ (b ∈ X.ex \/ X.s₀.heap.objs.size <= b) /\ (∀ x c, X.env.cells.lookup x = some c -> c ≠ b) /\ ∀ p ∈ X.pn ++ pins, p.1 ≠ b
theorem Inv.fpOk {X : Cx} {pins : List 'a'} {σ : St} {H H' : Hp} {s : Shared} {b : Addr} (I : Inv X pins σ H s) (hb : s.heap.objs.size <= b) (hn : H' b = none) : Ct X pins H' b := by
 refine ⟨hn, Nat.ne_of_gt (Nat.lt_of_lt_of_le I.lt hb), I.nofs hb, .inr (Nat.le_trans I.sz hb), fun x c e z => ?_, fun p hp z => ?_⟩
 ·obtain ⟨v, q⟩ := I.cell x c e
  exact absurd (Nat.lt_of_lt_of_le q.lt (by rw [z]; exact hb)) (Nat.lt_irrefl _)
 ·exact absurd (Nat.lt_of_lt_of_le (Heap.lt_size (I.pin p hp).1) (by rw [z]; exact hb)) (Nat.lt_irrefl _)
structure Turn (P : Program) (w : World) (K : PySem.W.Frag) (tg : Expr) (J : It) (fp : List Addr) (it : Addr) (tn : Nat -> Heap -> Prop) : Prop where
 mem : it ∈ fp
 obj : ∀ i h, tn i h -> ∀ b ∈ fp, ∃ o, h.get? b = some o /\ ∀ v, o.data ≠ .cell v
 keep : ∀ i h h', tn i h -> (∀ b ∈ fp, ∀ o, h.get? b = some o -> h'.get? b = some o) -> tn i h'
 item : ∀ (X : Cx), X.prog = P -> X.w = w -> X.K = K -> X.calm = true -> ∀ (i : Nat) (pins : List 'a') (s : Shared) (σ : St) (H : Hp) (E : Value -> Shared -> Prop), Inv X pins σ H s -> (∀ b ∈ fp, Ct X pins H b) -> tn i s.heap -> J.go i H ->
  wpAny (model P w) X.A (pyNext (.ref it)) (fun r s1 => ∃ u, r = some u /\
   wpAny (model P w) X.A (letOwnedTupleGo tg (.ref it) u) (fun _ s2 => ∃ x H', Inv X pins σ H' s2 /\ RelV x u /\ J.yld i H x H' /\ tn (i + 1) s2.heap /\ ∀ b ∈ fp, H' b = none) E s1) E s
 done : ∀ (X : Cx), X.prog = P -> X.w = w -> X.K = K -> X.calm = true -> ∀ (i : Nat) (pins : List 'a') (s : Shared) (σ : St) (H : Hp) (E : Value -> Shared -> Prop), Inv X pins σ H s -> (∀ b ∈ fp, Ct X pins H b) -> tn i s.heap -> J.stop i H ->
  wpAny (model P w) X.A (pyNext (.ref it)) (fun r s1 => r = none /\ Inv X pins σ H s1) E s
 self : ∀ (A : Around) (i : Nat) (s : Shared) (Q : Value -> Shared -> Prop) (E : Value -> Shared -> Prop), tn i s.heap -> Q (.ref it) s -> wpAny (model P w) A (pyIter (.ref it)) Q E s
noncomputable abbrev TI := St -> Hp -> (It -> Hp -> Prop) -> Prop
noncomputable def PIE (X : Cx) (pins : List 'a') (σ : St) (tg : Expr) (R : It -> Hp -> Prop) (itv : Value) (s2 : Shared) : Prop :=
 ∃ (it : Addr) (fp : List Addr) (tn : Nat -> Heap -> Prop) (J : It) (H' : Hp), itv = .ref it /\ Inv X pins σ H' s2 /\ Turn X.prog X.w X.K tg J fp it tn /\ tn 0 s2.heap /\ (∀ b ∈ fp, Ct X pins H' b) /\ R J H'
noncomputable def PI (X : Cx) (tg iter : Expr) (wi : TI) : Prop :=
 ∀ (pins : List 'a') (s : Shared) (σ : St) (H : Hp) (R : It -> Hp -> Prop), Inv X pins σ H s -> wi σ H R ->
  wpAny 'b' X.A (eval iter X.env) (fun v s1 => wpAny 'b' X.A (pyIter v) (PIE X pins σ tg R) X.xe s1) X.xe s
theorem go_of {M : Model} {A : Around} {E : Value -> Shared -> Prop} {s : Shared} {tg : Expr} {it : Addr} {u : Value} {o : Obj} {n : String} {vs : Array Value} {Q : Unit -> Shared -> Prop} (ho : s.heap.get? it = some o) (hc : o.cls = .type n) (hd : o.data = .fields vs)
    (hn : ["enumerate", "zip", "dict_itemiterator", "dict_reverseitemiterator", "odict_iterator", "itertools.zip_longest", "itertools.pairwise"].contains n = false) (hQ : Q () s) : wpAny M A (letOwnedTupleGo tg (.ref it) u) Q E s := by
  unfold letOwnedTupleGo
  cases tg <;> first
    | exact wpAny_pure hQ
    | (cases u <;> first
        | exact wpAny_pure hQ
        | (refine wpAny_bind (wpAny_load ho ?_)
           rw [hc, hd]
           show wpAny M A (if (["enumerate", "zip", "dict_itemiterator", "dict_reverseitemiterator", "odict_iterator", "itertools.zip_longest", "itertools.pairwise"].contains n && vs[0]? == some (rawInt _)) = true then _ else _) Q E s
           rw [if_neg (by intro h; rw [hn, Bool.false_and] at h; cases h)]
           exact wpAny_pure hQ))
noncomputable def Itl (K : PySem.W.Frag) (a : Addr) : It :=
 ⟨fun i H => ∃ xs x, SqL K H a xs /\ xs[i]? = some x, fun i H x H' => H' = H /\ ∀ xs, SqL K H a xs -> xs[i]? = some x, fun i H => ∃ xs, SqL K H a xs /\ xs.length <= i⟩
noncomputable def Itt (K : PySem.W.Frag) (a : Addr) : It :=
 ⟨fun i H => ∃ xs x, SqT K H a xs /\ xs[i]? = some x, fun i H x H' => H' = H /\ ∀ xs, SqT K H a xs -> xs[i]? = some x, fun i H => ∃ xs, SqT K H a xs /\ xs.length <= i⟩
noncomputable def Itr (lo : Int) (n : Nat) : It := ⟨fun i _ => i < n, fun i H x H' => H' = H /\ x = .int (lo + i), fun i _ => n <= i⟩
theorem CC {P : Program} {w : World} {K : PySem.W.Frag} {tg : Expr} (a it : Addr) : Turn P w K tg (Itl K a) [it] it (fun i h => h.IsListIter it a i) where
 mem := by simp
 obj := fun i h st b hb => by
  have e : b = it := by simpa using hb
  subst e
  obtain ⟨o, e, c, d⟩ := st
  exact ⟨o, e, fun v z => by rw [d] at z; cases z⟩
 keep := fun i h h' st k => st.at fun o e => k it (by simp) o e
 item := by
  intro X hP hw hK hc i pins s σ H E I hf st hg
  subst hP hw hK
  obtain ⟨xs, x, hq, hx⟩ := hg
  obtain ⟨its, rv, p, hz⟩ := I.list hq
  obtain ⟨u, hu, ru⟩ := rv.get hx
  obtain ⟨f0, f1, f2, f3, f4, f5⟩ := hf it (by simp)
  refine wpAny_pyNext_list_item st p.isList (x := u) (by simpa using hu) fun h' st' sb => ?_
  have I1 : Inv X pins σ H { s with heap := h' } := I.turned (t' := s.toks) (fun b o hb e => (sb.2 b hb).trans e) f0 f1 f3 f4 f5
  obtain ⟨o, e, c, d⟩ := id st'
  exact ⟨u, rfl, go_of (s := { s with heap := h' }) e c d (by decide) ⟨x, H, I1, ru, ⟨rfl, fun ys hy => by rw [I.Bc hy hq]; exact hx⟩, st', fun b hb => (hf b hb).1⟩⟩
 done := by
  intro X hP hw hK hc i pins s σ H E I hf st hg
  subst hP hw hK
  obtain ⟨xs, hq, hx⟩ := hg
  obtain ⟨its, rv, p, hz⟩ := I.list hq
  obtain ⟨f0, f1, f2, f3, f4, f5⟩ := hf it (by simp)
  have hl := rv.length
  exact wpAny_pyNext_list_end (I.ok.hd hc) st p.isList (by simp; omega) fun h' eb => ⟨rfl, I.turned (t' := s.toks) (fun b o hb e => eb b o hb e) f0 f1 f3 f4 f5⟩
 self := fun _ _ _ _ _ st h => wpAny_pyIter_listiter st h
theorem BE {P : Program} {w : World} {K : PySem.W.Frag} {tg : Expr} (a it : Addr) : Turn P w K tg (Itt K a) [it] it (fun i h => h.IsTupleIter it a i) where
 mem := by simp
 obj := fun i h st b hb => by
  have e : b = it := by simpa using hb
  subst e
  obtain ⟨o, e, c, d⟩ := st
  exact ⟨o, e, fun v z => by rw [d] at z; cases z⟩
 keep := fun i h h' st k => st.at fun o e => k it (by simp) o e
 item := by
  intro X hP hw hK hc i pins s σ H E I hf st hg
  subst hP hw hK
  obtain ⟨xs, x, hq, hx⟩ := hg
  obtain ⟨its, rv, p, hz⟩ := I.tuple hq
  obtain ⟨u, hu, ru⟩ := rv.get hx
  obtain ⟨f0, f1, f2, f3, f4, f5⟩ := hf it (by simp)
  refine wpAny_pyNext_tuple_item st (show s.heap.IsTuple a its.toArray from p) (x := u) (by simpa using hu) fun h' st' sb => ?_
  have I1 : Inv X pins σ H { s with heap := h' } := I.turned (t' := s.toks) (fun b o hb e => (sb.2 b hb).trans e) f0 f1 f3 f4 f5
  obtain ⟨o, e, c, d⟩ := id st'
  exact ⟨u, rfl, go_of (s := { s with heap := h' }) e c d (by decide) ⟨x, H, I1, ru, ⟨rfl, fun ys hy => by rw [I.CG hy hq]; exact hx⟩, st', fun b hb => (hf b hb).1⟩⟩
 done := by
  intro X hP hw hK hc i pins s σ H E I hf st hg
  subst hP hw hK
  obtain ⟨xs, hq, hx⟩ := hg
  obtain ⟨its, rv, p, hz⟩ := I.tuple hq
  obtain ⟨f0, f1, f2, f3, f4, f5⟩ := hf it (by simp)
  have hl := rv.length
  exact wpAny_pyNext_tuple_end (I.ok.hd hc) st (show s.heap.IsTuple a its.toArray from p) (by simp; omega) fun h' eb => ⟨rfl, I.turned (t' := s.toks) (fun b o hb e => eb b o hb e) f0 f1 f3 f4 f5⟩
 self := fun _ _ _ _ _ st h => wpAny_pyIter_tupleiter st h
theorem BF {P : Program} {w : World} {K : PySem.W.Frag} {tg : Expr} (it : Addr) (lo : Int) (n : Nat) : Turn P w K tg (Itr lo n) [it] it (fun i h => IsRangeIter h it (lo + (i : Nat) * 1) ((n : Int) - (i : Nat)) 1) where
 mem := by simp
 obj := fun i h st b hb => by
  have e : b = it := by simpa using hb
  subst e
  exact ⟨_, st, fun v z => by
   have z' : Data.fields _ = Data.cell v := z
   cases z'⟩
 keep := fun i h h' st k => k it (by simp) _ st
 item := by
  intro X hP hw hK hc i pins s σ H E I hf st hg
  subst hP hw hK
  obtain ⟨f0, f1, f2, f3, f4, f5⟩ := hf it (by simp)
  have W := Walks.range (prog := X.prog) (w := X.w) (I.ok.hd hc) it lo 1 n
  refine W.item i s _ _ hg st fun v h' tk hv st' kk => ?_
  obtain ⟨t, rfl⟩ := hv
  have I1 : Inv X pins σ H { s with heap := h', toks := tk } := I.turned (fun b o hb e => kk b o (by simpa using hb) e) f0 f1 f3 f4 f5
  refine ⟨_, rfl, go_of (s := { s with heap := h', toks := tk }) (n := "range_iterator") st' rfl rfl (by decide) ⟨.int (lo + i), H, I1, ⟨t, ?_⟩, ⟨rfl, rfl⟩, st', fun b hb => (hf b hb).1⟩⟩
  rw [Int.mul_one]
 done := by
  intro X hP hw hK hc i pins s σ H E I hf st hg
  subst hP hw hK
  obtain ⟨f0, f1, f2, f3, f4, f5⟩ := hf it (by simp)
  exact wpAny_pyNext_range_end (I.ok.hd hc) st (by have : n <= i := hg; omega) fun h' eb => ⟨rfl, I.turned (t' := s.toks) (fun b o hb e => eb b o hb e) f0 f1 f3 f4 f5⟩
 self := fun _ _ _ _ _ st h => wpAny_pyIter_rangeiter st h
end L2
namespace L2
open PySem PySem.Spec PyProof.Rows
section
variable {X : Cx} {tg : Expr}
theorem range_it {pins : List 'a'} {σ : St} {H : Hp} {s : Shared} {R : It -> Hp -> Prop} {E : Value -> Shared -> Prop} {lo hi : Int} {t u v : Tok} {tk : Nat} (I : Inv X pins σ H s) (h1 : -(2 ^ 62) <= lo) (h2 : lo < 2 ^ 62) (h3 : -(2 ^ 62) <= hi) (h4 : hi < 2 ^ 62)
  (q : R (Itr lo (hi - lo).toNat) H) : wpAny 'b' X.A (pyIter (.ref s.heap.objs.size)) (PIE X pins σ tg R) E { s with heap := s.heap.push { cls := .type "range", data := .fields #[.int lo t, .int hi u, .int 1 v] }, toks := tk } := by
 refine wpAny_pyIter_range (IsRange.new ..) (small_one h1 h2 h3 h4) ?_
 have I1 : Inv X pins σ H { s with heap := s.heap.push { cls := .type "range", data := .fields #[.int lo t, .int hi u, .int 1 v] }, toks := tk } := I.kept fun b o e => Heap.get?_push_of_some _ e
 refine ⟨(s.heap.push { cls := .type "range", data := .fields #[.int lo t, .int hi u, .int 1 v] }).objs.size, [(s.heap.push { cls := .type "range", data := .fields #[.int lo t, .int hi u, .int 1 v] }).objs.size], _, _, H, rfl,
  I1.kept (t' := tk) fun b o e => Heap.get?_push_of_some _ e, BF _ lo (hi - lo).toNat, ?_, fun b hb => ?_, q⟩
 ·have e1 : lo + ((0 : Nat) : Int) * 1 = lo := by simp
  have e2 : (((hi - lo).toNat : Nat) : Int) - ((0 : Nat) : Int) = Builtin.Range.rangeSize lo hi 1 := by rw [rangeSize_one]; split <;> omega
  show IsRangeIter _ _ (lo + ((0 : Nat) : Int) * 1) ((((hi - lo).toNat : Nat) : Int) - ((0 : Nat) : Int)) 1
  rw [e1, e2]
  exact Heap.get?_push_size _ rfl
 ·have e : b = (s.heap.push { cls := .type "range", data := .fields #[.int lo t, .int hi u, .int 1 v] }).objs.size := by simpa using hb
  subst e
  exact I1.fpOk 'n' (I1.hok.fresh 'n')
noncomputable def iRng1 (ta : TA) : TI := fun σ H R => ta σ H fun vs H1 => ∃ j : Int, vs = [.int j] /\ -(2 ^ 62) <= j /\ j < 2 ^ 62 /\ R (Itr 0 j.toNat) H1
theorem Dd {a : Expr} {ta : TA} {p pos : Pos} (hg : Gl X "range") (hm : X.mg "range" = none) (ha : PA X [a] ta) (hs : starEach [a] X.env = [(false, eval a X.env)] := by rfl) : PI X tg (.Call (.Name "range" p) [a] [] pos) (iRng1 ta) := by
 intro pins s σ H R I h
 refine Call_ (uh I hg hm boot_range (PyProof.Rows.callWith_type1 (thn (ha pos pins s σ H _ I h) fun us s1 ⟨vs, H1, I1, r1, q1⟩ => ?_) hs rfl))
 obtain ⟨j, e, q1, q2, q⟩ := q1
 subst e
 cases r1 with
 | cons r rr =>
  cases rr
  obtain ⟨t, rfl⟩ := r
  exact call_range_1 (range_it I1 (by omega) (by omega) q1 q2 (by simpa using q))
noncomputable def tFor (wi : TI) (g : TG) (tb : TS) : TS := fun D σ H => wi σ H fun J H1 => ∃ W : Nat -> Nat -> St -> Hp -> Prop, (∃ m, W 0 m σ H1) /\ ∀ i m σ H, W i m σ H ->
 (J.stop i H /\ D.nx σ H) \/ (J.go i H /\ ∃ N : St -> Hp -> Prop, (∀ σ' H', N σ' H' -> ∃ m', m' < m /\ W (i + 1) m' σ' H') /\ ∀ x H', J.yld i H x H' -> g x σ H' fun σ2 H2 => tb { D with nx := N, ct := N, bk := D.nx } σ2 H2)
noncomputable def xU (fp : List Addr) (h : Heap) : List 'a' := fp.filterMap fun b => (h.get? b).map fun o => (b, o)
theorem mX {fp : List Addr} {h : Heap} {b : Addr} {o : Obj} (hb : b ∈ fp) (e : h.get? b = some o) : (b, o) ∈ xU fp h := List.mem_filterMap.mpr ⟨b, hb, by rw [e]; rfl⟩
theorem Dq {fp : List Addr} {h : Heap} {p : Addr × Obj} (hp : p ∈ xU fp h) : p.1 ∈ fp /\ h.get? p.1 = some p.2 := by
 obtain ⟨b, hb, e⟩ := List.mem_filterMap.mp hp
 cases q : h.get? b with
 | none => rw [q] at e; cases e
 | some o =>
  rw [q] at e
  have e' : (b, o) = p := Option.some.inj e
  subst e'
  exact ⟨hb, q⟩
theorem Inv.pinned {pins : List 'a'} {σ : St} {H : Hp} {s : Shared} {fp : List Addr} (I : Inv X pins σ H s) (hf : ∀ b ∈ fp, Ct X pins H b) (ho : ∀ b ∈ fp, ∃ o, s.heap.get? b = some o /\ ∀ v, o.data ≠ .cell v) : Inv X (pins ++ xU fp s.heap) σ H s :=
 I.vj fun p hp => (List.mem_append.mp hp).elim (fun z => I.pin p (List.mem_append_right _ z)) fun z => by
  obtain ⟨hb, e⟩ := Dq z
  obtain ⟨f0, f1, f2, _⟩ := hf p.1 hb
  obtain ⟨o, e', d⟩ := ho p.1 hb
  rw [e] at e'; cases e'
  exact ⟨e, f0, f1, f2, d⟩
theorem Inv.uP {pins pl : List 'a'} {σ : St} {H : Hp} {s : Shared} (I : Inv X (pins ++ pl) σ H s) : Inv X pins σ H s := I.vj fun p hp => I.pin p (List.mem_append_right _ (List.mem_append_left _ hp))
theorem ps_for {iter : Expr} {body : List Stmt} {wi : TI} {g : TG} {tb : TS} {pos : Pos} (hp : PassesOwn 'b' X.A X.env X.xe) (hc : X.calm = true) (hi : PI X tg iter wi) (hg : PG X tg g) (hb : PSs X body tb)
  (hs : ∀ x, foldedSetIterable iter X.env x = pure x := by intro _; rfl) : PS X (.For tg iter body [] pos) (tFor wi g tb) := by
 intro pins s σ H D I h
 refine wpAny_For (thn (hi pins s σ H _ I h) fun v s1 h1 => thn h1 fun itv s2 h2 => ?_) hs
 obtain ⟨it, fp, tn, J, H2, e, I2, T, st2, f2, W, ⟨m0, w0⟩, turn⟩ := h2
 subst e
 have stat : ∀ {H' : Hp}, (∀ b ∈ fp, H' b = none) -> ∀ b ∈ fp, Ct X pins H' b := fun hn b hb => ⟨hn b hb, (f2 b hb).2⟩
 refine codeAny_forLoop_any (fun n s' => ∃ i σ' H', Inv X pins σ' H' s' /\ tn i s'.heap /\ (∀ b ∈ fp, H' b = none) /\ W i n σ' H') ?_ m0 ⟨0, σ, H2, I2, st2, fun b hb => (f2 b hb).1, w0⟩
 rintro n s3 ⟨i, σ3, H3, I3, st3, fr3, w3⟩
 rcases turn i n σ3 H3 w3 with ⟨stop, qn⟩ | ⟨go, N, hN, step⟩
 ·refine wpAny_passesOwn hp (thn (T.done X rfl rfl rfl hc i pins s3 σ3 H3 X.xe I3 (stat fr3) st3 stop) fun r s4 ⟨hr, I4⟩ => ?_)
  subst hr
  exact wpAny_execs_nil ⟨σ3, H3, I4, qn⟩
 ·refine wpAny_passesOwn hp (thn (T.item X rfl rfl rfl hc i pins s3 σ3 H3 X.xe I3 (stat fr3) st3 go) fun r s4 ⟨u, hr, h4⟩ => ?_)
  subst hr
  refine wpAny_passesOwn hp (thn h4 fun _ s5 ⟨x, H5, I5, r5, y5, st5, fr5⟩ => ?_)
  have I5' := I5.pinned (stat fr5) (T.obj _ _ st5)
  refine wpAny_passesOwn hp (thn (hg _ s5 σ3 H5 x u _ I5' r5 (step x H5 y5)) fun _ s6 ⟨σ6, H6, I6, q6⟩ => ?_)
  refine wpAny_passesOwn hp (thn (hb _ s6 σ6 H6 _ I6 q6) fun f s7 q7 => ?_)
  have again : ∀ {σ7 : St} {H7 : Hp}, Inv X (pins ++ xU fp s5.heap) σ7 H7 s7 -> N σ7 H7 -> ∃ m, m < n /\ ∃ i σ' H', Inv X pins σ' H' s7 /\ tn i s7.heap /\ (∀ b ∈ fp, H' b = none) /\ W i m σ' H' := fun {σ7 H7} I7 n7 => by
   obtain ⟨m', hm, w7⟩ := hN σ7 H7 n7
   refine ⟨m', hm, i + 1, σ7, H7, I7.uP, T.keep _ _ _ st5 fun b hb o e => (I7.pin (b, o) (List.mem_append_right _ (List.mem_append_right _ (mX hb e)))).1, fun b hb => ?_, w7⟩
   obtain ⟨o, e, d⟩ := T.obj _ _ st5 b hb
   exact (I7.pin (b, o) (List.mem_append_right _ (List.mem_append_right _ (mX hb e)))).2.1
  cases f with
  | next => obtain ⟨σ7, H7, I7, n7⟩ := q7; exact again I7 n7
  | cont => obtain ⟨σ7, H7, I7, n7⟩ := q7; exact again I7 n7
  | brk => obtain ⟨σ7, H7, I7, q7⟩ := q7; exact ⟨σ7, H7, I7.uP, q7⟩
  | ret v => obtain ⟨x7, σ7, H7, I7, r7, q7⟩ := q7; exact ⟨x7, σ7, H7, I7.uP, r7, q7⟩
end
end L2
namespace L2
open PySem PySem.Spec PyProof.Rows
noncomputable abbrev R2 := V -> V -> Hp -> VK -> Prop
noncomputable def OpR (X : Cx) (f : Value -> Value -> Sem Value) (r : R2) : Prop :=
 ∀ (pins : List 'a') (s : Shared) (σ : St) (H : Hp) (x y : V) (v u : Value) (Q : VK), Inv X pins σ H s -> RelV x v -> RelV y u -> r x y H Q ->
  wpAny 'b' X.A (f v u) (EP X pins σ Q) X.xe s
noncomputable def UnR (X : Cx) (f : Value -> Sem Value) (r : V -> Hp -> VK -> Prop) : Prop :=
 ∀ (pins : List 'a') (s : Shared) (σ : St) (H : Hp) (x : V) (v : Value) (Q : VK), Inv X pins σ H s -> RelV x v -> r x H Q ->
  wpAny 'b' X.A (f v) (EP X pins σ Q) X.xe s
noncomputable def gL (X : Cx) (f : Value) (r : List V -> Hp -> VK -> Prop) : Prop :=
 ∀ (pins : List 'a') (s : Shared) (σ : St) (H : Hp) (xs : List V) (us : List Value) (Q : VK), Inv X pins σ H s -> Vals xs us -> r xs H Q ->
  wpAny 'b' X.A (call f us) (EP X pins σ Q) X.xe s
noncomputable def TruR (X : Cx) (r : V -> Hp -> (Bool -> Hp -> Prop) -> Prop) : Prop :=
 ∀ (pins : List 'a') (s : Shared) (σ : St) (H : Hp) (x : V) (v : Value) (Q : Bool -> Hp -> Prop), Inv X pins σ H s -> RelV x v -> r x H Q ->
  wpAny 'b' X.A (truthy v) (TP X pins σ Q) X.xe s
noncomputable def tOp (r : R2) (ta tb : TE) : TE := fun σ H Q => ta σ H fun x H1 => tb σ H1 fun y H2 => r x y H2 Q
noncomputable def tUn (r : V -> Hp -> VK -> Prop) (ta : TE) : TE := fun σ H Q => ta σ H fun x H1 => r x H1 Q
noncomputable def rI (C : Int -> Int -> Prop) (g : Int -> Int -> V) : R2 := fun x y H Q => ∃ i j, x = .int i /\ y = .int j /\ C i j /\ Q (g i j) H
noncomputable def rI0 (g : Int -> Int -> V) : R2 := fun x y H Q => ∃ i j, x = .int i /\ y = .int j /\ Q (g i j) H
noncomputable def rU (g : Int -> V) : V -> Hp -> VK -> Prop := fun x H Q => ∃ i, x = .int i /\ Q (g i) H
section
variable {X : Cx} {a b c : Expr} {ta tb tc : TE} {pos : Pos}
theorem binT (ha : PE X a ta) (hb : PE X b tb) {pins : List 'a'} {s : Shared} {σ : St} {H : Hp} {R : V -> V -> Hp -> Prop} (I : Inv X pins σ H s)
  (h : ta σ H fun x H1 => tb σ H1 fun y H2 => R x y H2) {Q : Value -> Shared -> Prop} {f : Value -> Value -> Sem Value}
  (hf : ∀ v u s2 x y H2, Inv X pins σ H2 s2 -> RelV x v -> RelV y u -> R x y H2 -> wpAny 'b' X.A (f v u) Q X.xe s2) :
  wpAny 'b' X.A (eval a X.env) (fun v s₁ => wpAny 'b' X.A (eval b X.env) (fun u s₂ => wpAny 'b' X.A (f v u) Q X.xe s₂) X.xe s₁) X.xe s := by
 refine thn (ha pins s σ H _ I h) fun v s1 ⟨x, H1, I1, r1, q1⟩ => ?_
 refine thn (hb pins s1 σ H1 _ I1 q1) fun u s2 ⟨y, H2, I2, r2, q2⟩ => ?_
 exact hf v u s2 x y H2 I2 r1 r2 q2
theorem pe_op {op : Operator} {r : R2} (ho : OpR X (binaryOp op) r) (ha : PE X a ta) (hb : PE X b tb) : PE X (.BinOp a op b pos) (tOp r ta tb) := by
 intro pins s σ H Q I h
 exact wpAny_BinOp (binT ha hb I h fun v u s2 x y H2 I2 rx ry q => ho pins s2 σ H2 x y v u Q I2 rx ry q)
theorem pe_un {op : UnaryOp} {r : V -> Hp -> VK -> Prop} (ho : UnR X (unaryOp op) r) (ha : PE X a ta) : PE X (.UnaryOp op a pos) (tUn r ta) := by
 intro pins s σ H Q I h
 exact UnaryOp_ (thn (ha pins s σ H _ I h) fun v s1 ⟨x, H1, I1, r1, q1⟩ => ho pins s1 σ H1 x v Q I1 r1 q1)
theorem opI {f : Value -> Value -> Sem Value} {C : Int -> Int -> Prop} {g : Int -> Int -> Int}
  (rule : ∀ (i j : Int) (t u : Tok) (s : Shared) (Q : Value -> Shared -> Prop) (E : Value -> Shared -> Prop), C i j -> Q (.int (g i j) s.toks) { s with toks := s.toks + 1 } -> wpAny 'b' X.A (f (.int i t) (.int j u)) Q E s) :
  OpR X f (rI C fun i j => .int (g i j)) := by
 intro pins s σ H x y v u Q I rx ry h
 obtain ⟨i, j, rfl, rfl, hc, q⟩ := h
 obtain ⟨t, rfl⟩ := rx
 obtain ⟨t', rfl⟩ := ry
 exact rule i j t t' s _ _ hc ⟨.int (g i j), H, I.tok _, ⟨_, rfl⟩, q⟩
theorem opI0 {f : Value -> Value -> Sem Value} {g : Int -> Int -> Int}
  (rule : ∀ (i j : Int) (t u : Tok) (s : Shared) (Q : Value -> Shared -> Prop) (E : Value -> Shared -> Prop), Q (.int (g i j) s.toks) { s with toks := s.toks + 1 } -> wpAny 'b' X.A (f (.int i t) (.int j u)) Q E s) :
  OpR X f (rI0 fun i j => .int (g i j)) := by
 intro pins s σ H x y v u Q I rx ry h
 obtain ⟨i, j, rfl, rfl, q⟩ := h
 obtain ⟨t, rfl⟩ := rx
 obtain ⟨t', rfl⟩ := ry
 exact rule i j t t' s _ _ ⟨.int (g i j), H, I.tok _, ⟨_, rfl⟩, q⟩
theorem opB0 {f : Value -> Value -> Sem Value} {g : Int -> Int -> Bool}
  (rule : ∀ (i j : Int) (t u : Tok) (s : Shared) (Q : Value -> Shared -> Prop) (E : Value -> Shared -> Prop), Q (.bool (g i j)) s -> wpAny 'b' X.A (f (.int i t) (.int j u)) Q E s) :
  OpR X f (rI0 fun i j => .bl (g i j)) := by
 intro pins s σ H x y v u Q I rx ry h
 obtain ⟨i, j, rfl, rfl, q⟩ := h
 obtain ⟨t, rfl⟩ := rx
 obtain ⟨t', rfl⟩ := ry
 exact rule i j t t' s _ _ ⟨.bl (g i j), H, I, rfl, q⟩
noncomputable def CPow (i j : Int) : Prop := 0 <= j /\ j <= 1000000 /\ i.natAbs < 2 ^ 64
noncomputable def CMul (i j : Int) : Prop := (-(2 ^ 64) < i /\ i < 2 ^ 64) \/ (-(2 ^ 64) < j /\ j < 2 ^ 64)
theorem CMul.ok {i j : Int} (h : CMul i j) : IntMulOk i j := by
 rcases h with ⟨h1, h2⟩ | ⟨h1, h2⟩
 ·exact .of_left (intBits_le_64 h1 h2)
 ·exact .of_right (intBits_le_64 h1 h2)
theorem op_add : OpR X (binaryOp .Add) (rI0 fun i j => .int (i + j)) := opI0 fun _ _ _ _ _ _ _ q => add_int q
theorem op_sub : OpR X (binaryOp .Sub) (rI0 fun i j => .int (i - j)) := opI0 fun _ _ _ _ _ _ _ q => sub_int q
theorem op_mul : OpR X (binaryOp .Mult) (rI CMul fun i j => .int (i * j)) := opI fun _ _ _ _ _ _ _ hc q => mul_int q hc.ok
theorem op_mod : OpR X (binaryOp .Mod) (rI (fun _ j => 0 < j) fun i j => .int (i % j)) := opI fun i j _ _ _ _ _ hc q => by
 have h1 : (0 : Int) < j := hc
 exact mod_int' (by omega) (by rw [Int.fmod_eq_emod_of_nonneg i (by omega)]; exact q)
theorem op_pow : OpR X (binaryOp .Pow) (rI CPow fun i j => .int (i ^ j.toNat)) := opI fun _ _ _ _ _ _ _ hc q => pow_int_small hc.1 hc.2.1 hc.2.2 q
theorem unI {f : Value -> Sem Value} {g : Int -> Int}
  (rule : ∀ (i : Int) (t : Tok) (s : Shared) (Q : Value -> Shared -> Prop) (E : Value -> Shared -> Prop), Q (.int (g i) s.toks) { s with toks := s.toks + 1 } -> wpAny 'b' X.A (f (.int i t)) Q E s) :
  UnR X f (rU fun i => .int (g i)) := by
 intro pins s σ H x v Q I rx h
 obtain ⟨i, rfl, q⟩ := h
 obtain ⟨t, rfl⟩ := rx
 exact rule i t s _ _ ⟨.int (g i), H, I.tok _, ⟨_, rfl⟩, q⟩
theorem un_neg : UnR X (unaryOp .USub) (rU fun i => .int (-i)) := unI fun _ _ _ _ _ q => neg_int q
end
noncomputable def scal : V -> V -> Bool
 | .non, .non => true | .non, .int _ => true | .int _, .non => true | .non, .bl _ => true | .bl _, .non => true | .non, .str _ => true | .str _, .non => true
 | .int _, .int _ => true | .bl _, .bl _ => true | .str _, .str _ => true | .byt _, .byt _ => true
 | .int _, .str _ => true | .str _, .int _ => true | .bl _, .str _ => true | .str _, .bl _ => true
 | _, _ => false
noncomputable def rNe : R2 := fun x y H Q => scal x y = true /\ Q (.bl (!decide (x = y))) H
theorem dec_int {i j : Int} : decide (V.int i = V.int j) = (i == j) := by
 rw [Bool.eq_iff_iff]
 simp
theorem dec_bl {i j : Bool} : decide (V.bl i = V.bl j) = (i == j) := by
 rw [Bool.eq_iff_iff]
 simp
theorem dec_str {i j : Str} : decide (V.str i = V.str j) = (i == j) := by
 rw [Bool.eq_iff_iff]
 simp
theorem dec_byt {i j : Array UInt8} : decide (V.byt i = V.byt j) = (i.toList == j.toList) := by
 rw [Bool.eq_iff_iff]
 cases i
 cases j
 simp
section
variable {X : Cx} {a b c : Expr} {ta tb tc : TE} {pos : Pos}
theorem ig {pins : List 'a'} {σ : St} {H : Hp} {s : Shared} {Q : VK} {k k' : Bool} (I : Inv X pins σ H s) (q : Q (.bl k) H) (e : k = k') : EP X pins σ Q (.bool k') s := by
 subst e
 exact ⟨.bl k, H, I, rfl, q⟩
theorem op_ne : OpR X (compareOp .NotEq) rNe := by
 intro pins s σ H x y v u Q I rx ry h
 obtain ⟨hs, q⟩ := h
 cases x with
 | non =>
  cases rx
  cases y with
  | non => cases ry; exact PySem.EqNone.ne_none_none (ig I q (by simp))
  | bl j => cases ry; exact PySem.EqNone.ne_none_bool (ig I q (by simp))
  | int j => obtain ⟨t', rfl⟩ := ry; exact PySem.EqNone.ne_none_int (ig I q (by simp))
  | str j => obtain ⟨t', rfl⟩ := ry; exact PySem.EqNone.ne_none_str (ig I q (by simp))
  | _ => exact absurd (show false = true from hs) Bool.false_ne_true
 | bl i =>
  cases rx
  cases y with
  | non => cases ry; exact PySem.EqNone.ne_bool_none (ig I q (by simp))
  | bl j => cases ry; exact ne_bool (ig I q (congrArg not dec_bl))
  | str j => obtain ⟨t', rfl⟩ := ry; exact PySem.EqMixed.ne_bool_str (ig I q (by simp))
  | _ => exact absurd (show false = true from hs) Bool.false_ne_true
 | int i =>
  obtain ⟨t, rfl⟩ := rx
  cases y with
  | non => cases ry; exact PySem.EqNone.ne_int_none (ig I q (by simp))
  | int j => obtain ⟨t', rfl⟩ := ry; exact ne_int (ig I q (congrArg not dec_int))
  | str j => obtain ⟨t', rfl⟩ := ry; exact PySem.EqMixed.ne_int_str (ig I q (by simp))
  | _ => exact absurd (show false = true from hs) Bool.false_ne_true
 | str i =>
  obtain ⟨t, rfl⟩ := rx
  cases y with
  | non => cases ry; exact PySem.EqNone.ne_str_none (ig I q (by simp))
  | bl j => cases ry; exact PySem.EqMixed.ne_str_bool (ig I q (by simp))
  | int j => obtain ⟨t', rfl⟩ := ry; exact PySem.EqMixed.ne_str_int (ig I q (by simp))
  | str j => obtain ⟨t', rfl⟩ := ry; exact ne_str (ig I q (congrArg not dec_str))
  | _ => exact absurd (show false = true from hs) Bool.false_ne_true
 | byt i =>
  obtain ⟨t, rfl⟩ := rx
  cases y with
  | byt j => obtain ⟨t', rfl⟩ := ry; exact PySem.W.ne_bytes (ig I q (congrArg not dec_byt))
  | _ => exact absurd (show false = true from hs) Bool.false_ne_true
 | _ => cases y <;> exact absurd (show false = true from hs) Bool.false_ne_true
theorem op_lt : OpR X (compareOp .Lt) (rI0 fun i j => .bl (decide (i < j))) := opB0 fun _ _ _ _ _ _ _ q => lt_int q
theorem op_le : OpR X (compareOp .LtE) (rI0 fun i j => .bl (decide (i <= j))) := opB0 fun _ _ _ _ _ _ _ q => le_int q
theorem op_gt : OpR X (compareOp .Gt) (rI0 fun i j => .bl (decide (j < i))) := opB0 fun _ _ _ _ _ _ _ q => gt_int q
theorem op_isN : OpR X (compareOp .Is) (fun x y H Q => y = .non /\ Q (.bl (decide (x = .non))) H) := by
 intro pins s σ H x y v u Q I rx ry h
 obtain ⟨rfl, q⟩ := h
 cases ry
 refine is_none_gen (ig I q ?_)
 cases x <;> first
  | (cases rx; rfl)
  | (obtain ⟨t, rfl⟩ := rx; rfl)
noncomputable def isObj : HO -> Bool
 | .lst _ => true
 | .ins _ _ _ => true
 | _ => false
theorem OpR.or {f : Value -> Value -> Sem Value} {r r' : R2} (h : OpR X f r) (h' : OpR X f r') : OpR X f (fun x y H Q => r x y H Q \/ r' x y H Q) := by
 intro pins s σ H x y v u Q I rx ry q
 rcases q with q | q
 ·exact h pins s σ H x y v u Q I rx ry q
 ·exact h' pins s σ H x y v u Q I rx ry q
theorem Dt (b : Expr) {op : CmpOp} (h : op ≠ .In := by decide) (h2 : op ≠ .NotIn := by decide) : behindInMarks op b = false := by
 have e1 : (op == CmpOp.In) = false := by cases op <;> first | rfl | exact absurd rfl h
 have e2 : (op == CmpOp.NotIn) = false := by cases op <;> first | rfl | exact absurd rfl h2
 cases b <;> simp [behindInMarks, e1, e2]
theorem pe_cmpR {op : CmpOp} {r : R2} (ho : OpR X (compareOp op) r) (ha : PE X a ta) (hb : PE X b tb) (hm : behindInMarks op b = false) : PE X (.Compare a [op] [b] pos) (tOp r ta tb) := by
 intro pins s σ H Q I h
 exact wpAny_Compare1 (binT ha hb I h fun v u s2 x y H2 I2 rx ry q => ho pins s2 σ H2 x y v u Q I2 rx ry q) hm
noncomputable def tTest (t : TE) : TT := fun σ H Q => t σ H fun x H' => ∃ k, x = .bl k /\ Q k H'
theorem CZ {op : CmpOp} {r : R2} (ho : OpR X (compareOp op) r) (ha : PE X a ta) (hb : PE X b tb) (hm : behindInMarks op b = false) : PT X (.Compare a [op] [b] pos) (tTest (tOp r ta tb)) := by
 intro pins s σ H Q I h
 refine wpAny_isTrue_Compare1 (thn (ha pins s σ H _ I h) fun v s1 ⟨x, H1, I1, r1, q1⟩ => thn (hb pins s1 σ H1 _ I1 q1) fun u s2 ⟨y, H2, I2, r2, q2⟩ =>
  thn (ho pins s2 σ H2 x y v u _ I2 r1 r2 q2) fun c s3 ⟨z, H3, I3, r3, k, e, q3⟩ => ?_) hm
 subst e
 cases r3
 exact wpAny_truthy_bool ⟨H3, I3, q3⟩
noncomputable def CK (r r' : R2) (ta tb tc : TE) : TE := fun σ H Q => ta σ H fun x H1 => tb σ H1 fun y H2 => r x y H2 fun z H3 => ∃ k, z = .bl k /\
 (if k = true then tc σ H3 fun w' H4 => r' y w' H4 Q else Q (.bl false) H3)
theorem pe_chain {op op' : CmpOp} {r r' : R2} (ho : OpR X (compareOp op) r) (ho' : OpR X (compareOp op') r') (ha : PE X a ta) (hb : PE X b tb) (hc : PE X c tc)
  (hm : lastMarks [op, op'] [b, c] = false := by with_unfolding_all rfl) : PE X (.Compare a [op, op'] [b, c] pos) (CK r r' ta tb tc) := by
 intro pins s σ H Q I h
 refine Compare_chain (thn (ha pins s σ H _ I h) fun v s1 ⟨x, H1, I1, r1, q1⟩ => chain_link (thn (hb pins s1 σ H1 _ I1 q1) fun u s2 ⟨y, H2, I2, r2, q2⟩ =>
  thn (ho pins s2 σ H2 x y v u _ I2 r1 r2 q2) fun d s3 ⟨z, H3, I3, r3, k, e, q3⟩ => ?_)) hm
 subst e
 cases r3
 refine wpAny_truthy_bool ?_
 cases k with
 | false => exact ite_ff ⟨.bl false, H3, I3, rfl, q3⟩
 | true => exact ite_tt (chain_last (thn (hc pins s3 σ H3 _ I3 q3) fun w' s4 ⟨z', H4, I4, r4, q4⟩ => ho' pins s4 σ H4 y z' u w' Q I4 r2 r4 q4))
theorem pt_chain {op op' : CmpOp} {r r' : R2} (ho : OpR X (compareOp op) r) (ho' : OpR X (compareOp op') r') (ha : PE X a ta) (hb : PE X b tb) (hc : PE X c tc)
  (hm : lastMarks [op, op'] [b, c] = false := by with_unfolding_all rfl) : PT X (.Compare a [op, op'] [b, c] pos) (tTest (CK r r' ta tb tc)) := by
 intro pins s σ H Q I h
 refine isTrue_chain (thn (ha pins s σ H _ I h) fun v s1 ⟨x, H1, I1, r1, q1⟩ => test_link (thn (hb pins s1 σ H1 _ I1 q1) fun u s2 ⟨y, H2, I2, r2, q2⟩ =>
  thn (ho pins s2 σ H2 x y v u _ I2 r1 r2 q2) fun d s3 ⟨z, H3, I3, r3, k, e, q3⟩ => ?_)) hm
 subst e
 cases r3
 refine wpAny_truthy_bool ?_
 cases k with
 | false =>
  obtain ⟨k', e', q'⟩ := q3
  cases e'
  exact ite_ff ⟨H3, I3, q'⟩
 | true =>
  refine ite_tt (test_last (thn (hc pins s3 σ H3 _ I3 q3) fun w' s4 ⟨z', H4, I4, r4, q4⟩ => thn (ho' pins s4 σ H4 y z' u w' _ I4 r2 r4 q4) fun d' s5 ⟨z2, H5, I5, r5, k2, e2, q5⟩ => ?_))
  subst e2
  cases r5
  exact wpAny_truthy_bool ⟨H5, I5, q5⟩
noncomputable def TruV (K : PySem.W.Frag) (x : V) (H : Hp) (k : Bool) : Prop :=
 match x with
 | .non => k = false
 | .bl b => k = b
 | .int i => k = (i != 0)
 | .str y => y.length <= sizeLine /\ k = ((y.length : Int) != 0)
 | .byt y => y.size <= sizeLine /\ k = ((y.size : Int) != 0)
 | .ref p => (∃ xs, SqL K H p xs /\ k = !xs.isEmpty) \/ (∃ xs, SqT K H p xs /\ k = !xs.isEmpty) \/ ∃ kvs, H p = some (.dK kvs) /\ k = !kvs.isEmpty
 | _ => False
theorem C6 {κ : Type} {kvs : List (κ × V)} {vs : List (κ × Value)} (r : KV kvs vs) : (!vs.isEmpty) = !kvs.isEmpty := by
 cases r <;> rfl
theorem uj {xs : List V} {its : List Value} (r : Vals xs its) : (!its.toArray.isEmpty) = !xs.isEmpty := by
 cases r <;> simp
theorem ug : (sizeLine : Nat) < 2 ^ 63 := by rw [sizeLine_eq]; decide
theorem tru_ok : TruR X (fun x H Q => ∃ k, TruV X.K x H k /\ Q k H) := by
 intro pins s σ H x v Q I rx h
 obtain ⟨k, e, q⟩ := h
 have hl := ug
 have hs : sizeLine = 16777216 := sizeLine_eq
 cases x with
 | non =>
  cases rx
  have e' : k = false := e
  subst e'
  exact truthy_none ⟨H, I, q⟩
 | bl b =>
  cases rx
  have e' : k = b := e
  subst e'
  exact wpAny_truthy_bool ⟨H, I, q⟩
 | int i =>
  obtain ⟨t, rfl⟩ := rx
  have e' : k = (i != 0) := e
  subst e'
  exact PySem.P.truthy_int ⟨H, I, q⟩
 | str y =>
  obtain ⟨t, rfl⟩ := rx
  obtain ⟨hy, e'⟩ : y.length <= sizeLine /\ k = ((y.length : Int) != 0) := e
  subst e'
  exact PySem.P.truthy_str (by omega) ⟨H, I.tok _, q⟩
 | byt y =>
  obtain ⟨t, rfl⟩ := rx
  obtain ⟨hy, e'⟩ : y.size <= sizeLine /\ k = ((y.size : Int) != 0) := e
  subst e'
  exact PySem.W.truthy_bytes (by omega) ⟨H, I.tok _, q⟩
 | ref p =>
  cases rx
  have e' : (∃ xs, SqL X.K H p xs /\ k = !xs.isEmpty) \/ (∃ xs, SqT X.K H p xs /\ k = !xs.isEmpty) \/ ∃ kvs, H p = some (.dK kvs) /\ k = !kvs.isEmpty := e
  rcases e' with ⟨xs, hx, e'⟩ | ⟨xs, hx, e'⟩ | ⟨kvs, hx, e'⟩
  ·subst e'
   obtain ⟨its, r, pl, hz⟩ := I.list hx
   have hlen := r.length
   exact wpAny_truthy_list pl.isList (by simp only [List.size_toArray]; omega) ⟨H, I.tok _, by rw [uj r]; exact q⟩
  ·subst e'
   obtain ⟨its, r, pl, hz⟩ := I.tuple hx
   have hlen := r.length
   exact truthy_tuple pl (by simp only [List.size_toArray]; omega) ⟨H, I.tok _, by rw [uj r]; exact q⟩
  ·subst e'
   obtain ⟨hz, hS, vs, r, m⟩ : kvs.length <= sizeLine /\ (p == sysModules) = false /\ ∃ vs, KV kvs vs /\ s.heap.DictOf (Ac X.prog X.w) p vs := I.hok p _ hx
   have hlen : kvs.length = vs.length := Paired.length r
   exact wpAny_truthy_dict hS m (by omega) ⟨H, I.tok _, by rw [C6 r]; exact q⟩
 | _ => exact (show False from e).elim
theorem pt_truth (ha : PE X a ta) (he : ∀ whole, isTrue a X.env whole = (do let v <- whole; standAt a.pos; holding [v] (truthy v))) :
  PT X a (fun σ H Q => ta σ H fun x H' => ∃ k, TruV X.K x H' k /\ Q k H') := by
 intro pins s σ H Q I h
 exact isTrue_plain (thn (ha pins s σ H _ I h) fun v s1 ⟨x, H1, I1, r1, q1⟩ => tru_ok pins s1 σ H1 x v Q I1 r1 q1) (he _)
theorem BU : OpR X (binaryOp .Add) (fun x y H Q => ∃ i j, x = .str i /\ y = .str j /\ i.length + j.length <= sizeLine /\ Q (.str (i ++ j)) H) := by
 intro pins s σ H x y v u Q I rx ry h
 obtain ⟨i, j, rfl, rfl, hz, q⟩ := h
 obtain ⟨t, rfl⟩ := rx
 obtain ⟨t', rfl⟩ := ry
 exact add_str (fun t' tk => ⟨.str (i ++ j), H, I.tok _, ⟨_, rfl⟩, q⟩) hz
theorem vals1 {x : V} {us : List Value} (r : Vals [x] us) : ∃ u, us = [u] /\ RelV x u := by
 cases r with
 | cons r1 r2 => cases r2; exact ⟨_, rfl, r1⟩
theorem vals2 {x y : V} {us : List Value} (r : Vals [x, y] us) : ∃ u w', us = [u, w'] /\ RelV x u /\ RelV y w' := by
 cases r with
 | cons r1 r2 =>
  cases r2 with
  | cons r3 r4 => cases r4; exact ⟨_, _, rfl, r1, r3⟩
theorem Et (hc : X.calm = true) : gL X (.builtin "max") (fun xs H Q => ∃ i j, xs = [.int i, .int j] /\ Q (.int (if j > i then j else i)) H) := by
 intro pins s σ H xs us Q I r h
 obtain ⟨i, j, rfl, q⟩ := h
 obtain ⟨u, w', rfl, ⟨t, rfl⟩, ⟨t', rfl⟩⟩ := vals2 r
 refine max_two_ints (I.ok.hd hc) fun h' tk k => ⟨_, H, I.kept k, ?_, q⟩
 by_cases hj : j > i
 ·rw [if_pos hj, if_pos hj]; exact ⟨_, rfl⟩
 ·rw [if_neg hj, if_neg hj]; exact ⟨_, rfl⟩
theorem Er (hc : X.calm = true) : gL X (.builtin "min") (fun xs H Q => ∃ i j, xs = [.int i, .int j] /\ Q (.int (if j < i then j else i)) H) := by
 intro pins s σ H xs us Q I r h
 obtain ⟨i, j, rfl, q⟩ := h
 obtain ⟨u, w', rfl, ⟨t, rfl⟩, ⟨t', rfl⟩⟩ := vals2 r
 refine min_two_ints (I.ok.hd hc) fun h' tk k => ⟨_, H, I.kept k, ?_, q⟩
 by_cases hj : j < i
 ·rw [if_pos hj, if_pos hj]; exact ⟨_, rfl⟩
 ·rw [if_neg hj, if_neg hj]; exact ⟨_, rfl⟩
theorem Eu : gL X 'V' (fun xs H Q => (∃ i, xs = [.int i] /\ Q (.int i) H) \/ ∃ k, xs = [.bl k] /\ Q (.int (if k then 1 else 0)) H) := by
 intro pins s σ H xs us Q I r h
 rcases h with ⟨i, rfl, q⟩ | ⟨k, rfl, q⟩
 ·obtain ⟨u, rfl, t, rfl⟩ := vals1 r
  exact call_int_int ⟨.int i, H, I, ⟨_, rfl⟩, q⟩
 ·obtain ⟨u, rfl, r1⟩ := vals1 r
  cases r1
  exact call_int_bool ⟨.int (if k then 1 else 0), H, I.tok _, ⟨_, rfl⟩, q⟩
end
end L2
namespace L2
open PySem PySem.Spec PyProof.Rows
structure ObjM (h : Heap) (x dx C : Addr) (mA : Str -> Option Value) : Prop where
 obj : h.get? x = some (PySem.W.instObj C dx)
 ns : h.Ns1 dx mA
 ne : dx ≠ x
theorem yw {h : Heap} {dx : Addr} {mA : Str -> Option Value} (n : h.Ns1 dx mA) : ∃ od, h.get? dx = some od /\ ∀ name, PySem.W.lookIn name od = some (mA name) := by
 obtain ⟨o, es, ep, ho, hd, hk, _, hm⟩ := n
 refine ⟨o, ho, fun name => ?_⟩
 have e := hm name
 unfold nsFind findBy at e
 rw [<- Array.find?_toList] at e
 unfold PySem.W.lookIn
 rw [hd]
 dsimp only
 split
 ·rename_i y q
  rw [q] at e
  exact congrArg some e
 ·rename_i q
  rw [q] at e
  have a : es.toList.any (·.refKey) = false := by
   rw [List.any_eq_false]
   intro y hy
   obtain ⟨z, t, hkey⟩ := hk y (Array.mem_toList_iff.mp hy)
   simp [DictEntry.refKey, hkey]
  have a' : ¬ es.toList.any (·.refKey) = true := by rw [a]; exact Bool.false_ne_true
  rw [if_neg a']
  exact congrArg some e
theorem ObjM.look {h : Heap} {x dx C : Addr} {mA : Str -> Option Value} (I : ObjM h x dx C mA) : ∃ od, PySem.W.InstAt h x (PySem.W.instObj C dx) C (some od) /\ ∀ name, PySem.W.lookIn name od = some (mA name) :=
 let ⟨od, ho, hl⟩ := yw I.ns
 ⟨od, ⟨I.obj, rfl, rfl, ho⟩, hl⟩
section
variable {prog : Program} {w : World} {A : Around} {E : Value -> Shared -> Prop} {s : Shared} {K : PySem.W.Frag} {x dx C f : Addr} {mA : Str -> Option Value} {name : Str} {v : Value}
theorem get_map {expr : Bool} {Q : Value -> Shared -> Prop} (X : K.In s.heap) (I : ObjM s.heap x dx C mA) (hg : PySem.W.plainGet K C name = true) (hh : PySem.W.hasDictIn K C = true)
  (ha : PySem.W.findIn K (.ref C) name = some none) (hv : mA name = some v) (hv' : PySem.W.handedIn v = true) (h : Q v { s with toks := s.toks + 1 }) :
  wpAny 'i' A (getAttr (.ref x) name expr) Q E s := by
 obtain ⟨od, J, hl⟩ := I.look
 exact PySem.W.get_value X J (PySem.W.plainGet_of hg).1 (PySem.W.findObj_own hh ha rfl (by rw [hl, hv])) hv' h
theorem get_meth {pl : Sem Bool} {Q : Value × List Value -> Shared -> Prop} (X : K.In s.heap) (I : ObjM s.heap x dx C mA) (hg : PySem.W.plainGet K C name = true)
  (hf : PySem.W.findIn K (.ref C) name = some (some (.ref f))) (ht : PySem.W.isFn K (.ref f) = true) (hv : mA name = none) (h : Q (.ref f, [.ref x]) s) :
  wpAny 'i' A (getMethod (.ref x) name pl) Q E s := by
 obtain ⟨od, J, hl⟩ := I.look
 exact PySem.W.method_fn X J (PySem.W.plainGet_of hg).1 (PySem.W.plainGet_of hg).2 hf (beq_iff_eq.mp ht) (by show (PySem.W.lookIn name od).map (·.isSome) = some false; rw [hl, hv]; rfl) h
theorem set_map {ns : List Str} {Q : Unit -> Shared -> Prop} (X : K.In s.heap) (I : ObjM s.heap x dx C mA)
  (hs : PySem.W.findIn K (.ref C) "__setattr__" = some (some (.builtin "object.__setattr__"))) (hp : PySem.W.plainOver K C = true) (ht : PySem.W.takerIn K C name = some none) (hh : PySem.W.hasDictIn K C = true)
  (hw : PySem.Within mA ns) (hsz : ns.length <= sizeLine)
  (h : ∀ h', ObjM h' x dx C (fun y => if y = name then some v else mA y) -> Heap.SameBut dx s.heap h' -> Q () { s with heap := h', toks := s.toks + 2 }) :
  wpAny 'i' A (setAttr (.ref x) name v) Q E s := by
 obtain ⟨od, J, hl⟩ := I.look
 refine PySem.W.set_plain X J hs (PySem.W.osa_open (s := { s with toks := s.toks + 1 }) (r := none) X J hp ht fun b => ?_)
 obtain ⟨cd, hc, hd'⟩ := PySem.W.any_some hh
 have hx : s.heap.get? x = some ⟨.ref C, some dx, .plain, #[]⟩ := I.obj
 refine wpAny_bind (wpAny_pure (wpAny_bind (wpAny_bind (wpAny_loadPart hx (wpAny_bind (PySem.W.Looks.here (s := { s with toks := s.toks + 1 }) (PySem.W.looks_clsIn X hc) ?_))))))
 rw [hd']
 refine wpAny_pure (a := some dx) (wpAny_bind (wpAny_pure (wpAny_bind ?_)))
 refine wpAny_nsSet1 (s := { s with toks := s.toks + 1 }) I.ns fun h' hn2 hs2 => ?_
 obtain ⟨oD, esD, epD, hoD, hdD, hcD⟩ := hn2.count (PySem.Within.cons name v hw)
 refine wpAny_bind (wpAny_lookBehind hoD (by rw [hdD]; exact pastItsLine_dict (Nat.le_trans hcD (by rw [List.length_cons]; omega))) ?_)
 exact wpAny_pure (h _ ⟨(hs2.2 _ (Ne.symm I.ne)).trans I.obj, hn2, I.ne⟩ hs2)
theorem make_map {R : Result -> Shared -> Prop} {vs : List Value} {kw : List (Str × Value)} (X : K.In s.heap) (hm : PySem.W.makesIn K C = true)
  (hi : PySem.W.findIn K (.ref C) "__init__" = some (some (.ref f))) (hf : PySem.W.typeIn K (.ref f) = some (.type "function"))
  (h : codeAny 'i' (A.under (.builtin "type.__call__" ⟨.ref C :: vs, kw⟩)) (.call (.ref f) ⟨.ref 'w' :: vs, kw⟩) (PySem.W.InitBack 'w' R)
   { s with heap := (s.heap.push PySem.W.emptyDict).push (PySem.W.instObj C s.heap.objs.size) }) :
  codeAny 'i' A (.call (.ref C) ⟨vs, kw⟩) R s := by
 obtain ⟨hh, g, d, t, os⟩ := s
 exact PySem.W.make_core (PySem.W.makes_of X hm) (PySem.W.looks_findIn X hi) (fun self => PySem.W.bind_fn X self hf) (.inl rfl) h
end
noncomputable def tu (f : Str) (v : V) : List (Str × V) -> List (Str × V)
 | [] => [(f, v)]
 | (g, x) :: r => if g = f then (g, v) :: r else (g, x) :: tu f v r
theorem nC (f g : Str) (v : V) : ∀ fs : List (Str × V), (tu f v fs).lookup g = if g = f then some v else fs.lookup g
 | [] => by
  show List.lookup g [(f, v)] = _
  by_cases h : g = f
  ·have hb : (g == f) = true := beq_iff_eq.mpr h
   simp only [List.lookup, hb, if_pos h]
  ·have hb : (g == f) = false := beq_eq_false_iff_ne.mpr h
   simp only [List.lookup, hb, if_neg h]
 | (k, x) :: r => by
  have ih := nC f g v r
  rw [show tu f v ((k, x) :: r) = (if k = f then (k, v) :: r else (k, x) :: tu f v r) from rfl]
  by_cases hk : k = f
  ·rw [if_pos hk]
   by_cases h : g = k
   ·have hb : (g == k) = true := beq_iff_eq.mpr h
    simp only [List.lookup, hb, if_pos (h.trans hk)]
   ·have hb : (g == k) = false := beq_eq_false_iff_ne.mpr h
    simp only [List.lookup, hb, if_neg (fun e : g = f => h (e.trans hk.symm))]
  ·rw [if_neg hk]
   by_cases h : g = k
   ·have hb : (g == k) = true := beq_iff_eq.mpr h
    simp only [List.lookup, hb, if_neg (fun e : g = f => hk (h.symm.trans e))]
   ·have hb : (g == k) = false := beq_eq_false_iff_ne.mpr h
    simp only [List.lookup, hb]
    exact ih
theorem lT (f : Str) (v : V) : ∀ fs : List (Str × V), f ∈ (tu f v fs).map (·.1) /\ ∀ g, g ∈ fs.map (·.1) -> g ∈ (tu f v fs).map (·.1)
 | [] => ⟨by simp [tu], fun g h => by simp at h⟩
 | (k, x) :: r => by
  obtain ⟨i1, i2⟩ := lT f v r
  rw [show tu f v ((k, x) :: r) = (if k = f then (k, v) :: r else (k, x) :: tu f v r) from rfl]
  by_cases hk : k = f
  ·rw [if_pos hk]
   subst hk
   exact ⟨by simp, fun g h => by simpa using h⟩
  ·rw [if_neg hk]
   refine ⟨?_, fun g h => ?_⟩
   ·rw [List.map_cons]
    exact List.mem_cons_of_mem _ i1
   ·rw [List.map_cons] at h ⊢
    rcases List.mem_cons.mp h with e | e
    ·exact List.mem_cons.mpr (.inl e)
    ·exact List.mem_cons_of_mem _ (i2 g e)
theorem rZ (f : Str) (v : V) : ∀ fs : List (Str × V), (tu f v fs).length <= fs.length + 1
 | [] => by simp [tu]
 | (k, x) :: r => by
  have ih := rZ f v r
  rw [show tu f v ((k, x) :: r) = (if k = f then (k, v) :: r else (k, x) :: tu f v r) from rfl]
  by_cases hk : k = f
  ·rw [if_pos hk, List.length_cons, List.length_cons]; omega
  ·rw [if_neg hk, List.length_cons, List.length_cons]; omega
theorem xg.some_of {v : V} {o : Option Value} (r : xg (some v) o) : ∃ u, o = some u /\ RelV v u := by
 cases o with
 | none => exact (show False from r).elim
 | some u => exact ⟨u, rfl, r⟩
theorem xg.none_of {o : Option Value} (r : xg none o) : o = none := by
 cases o with
 | none => rfl
 | some u => exact (show False from r).elim
theorem yG {v : V} {u : Value} (r : RelV v u) : PySem.W.handedIn u = true := by
 cases v with
 | non => cases (show u = Value.none from r); rfl
 | bl b => cases (show u = Value.bool b from r); rfl
 | int i => obtain ⟨t, e⟩ := (show ∃ t, u = Value.int i t from r); cases e; rfl
 | str x => obtain ⟨t, e⟩ := (show ∃ t, u = Value.str x t from r); cases e; rfl
 | byt b => obtain ⟨t, e⟩ := (show ∃ t, u = Value.bytes b t from r); cases e; rfl
 | flt b => obtain ⟨t, e⟩ := (show ∃ t, u = Value.float b t from r); cases e; rfl
 | ref a => cases (show u = Value.ref a from r); rfl
 | ty n => cases (show u = Value.type n from r); rfl
section
variable {P : Program} {w : World} {H H' : Hp} {h h' : Heap} {a C dx : Addr} {fs fs' : List (Str × V)}
theorem vX (hok : HOk P w H h) (e : H a = some (.ins C dx fs)) : ∃ mA, ObjM h a dx C mA /\ (∀ f, xg (fs.lookup f) (mA f)) /\ PySem.Within mA (fs.map (·.1)) /\ fs.length <= 1000 /\ H dx = some (.own a) := by
 obtain ⟨d, z, ne, ob, mA, n, r, q⟩ := (show gu P w H h a (.ins C dx fs) from hok a _ e)
 exact ⟨mA, ⟨ob, n, ne⟩, r, q, z, d⟩
end
structure Cls (K : PySem.W.Frag) (C : Addr) : Prop where
 pg : PySem.W.plainGet K C Str.empty = true
 hd : PySem.W.hasDictIn K C = true
 po : PySem.W.plainOver K C = true
 sa : PySem.W.findIn K (.ref C) "__setattr__" = some (some (.builtin "object.__setattr__"))
theorem Cls.get {K : PySem.W.Frag} {C : Addr} (c : Cls K C) (f : Str) : PySem.W.plainGet K C f = true := c.pg
noncomputable def lr (K : PySem.W.Frag) (C : Addr) (f : Str) : Prop := PySem.W.findIn K (.ref C) f = some none
theorem lr.taker {K : PySem.W.Frag} {C : Addr} {f : Str} (n : lr K C f) : PySem.W.takerIn K C f = some none := by
 unfold PySem.W.takerIn
 rw [show PySem.W.findIn K (.ref C) f = some none from n]
 rfl
structure Con (K : PySem.W.Frag) (C : Addr) (f : Str) (v : V) (u : Value) : Prop where
 at_ : PySem.W.findIn K (.ref C) f = some (some u)
 rel : RelV v u
 get : PySem.W.specialIn K u "__get__" = some none
 cp : PySem.W.copiedNames.contains f = false
structure Meth (K : PySem.W.Frag) (C : Addr) (m : Str) (f : Addr) : Prop where
 at_ : PySem.W.findIn K (.ref C) m = some (some (.ref f))
 fn : PySem.W.isFn K (.ref f) = true
 kp : PySem.W.keepIn K (.ref f) = true
section
variable {X : Cx} {pins : List 'a'} {σ : St} {H : Hp} {s : Shared} {a C dx : Addr} {fs : List (Str × V)} {f : Str} {v : V} {A : Around} {E : Value -> Shared -> Prop}
theorem C7 {b : Bool} {Q : Value -> Shared -> Prop} (I : Inv X pins σ H s) (e : H a = some (.ins C dx fs)) (c : Cls X.K C) (n : lr X.K C f) (l : fs.lookup f = some v)
  (h : ∀ u s', Inv X pins σ H s' -> RelV v u -> Q u s') : wpAny 'b' A (getAttr (.ref a) f b) Q E s := by
 obtain ⟨mA, O, r, _, _, _⟩ := vX I.hok e
 obtain ⟨u, hu, ru⟩ := xg.some_of (v := v) (o := mA f) (by rw [<- l]; exact r f)
 exact get_map I.kIn O (c.get f) c.hd n hu (yG ru) (h u _ (I.tok _) ru)
theorem um {m : Str} {g : Addr} {pl : Sem Bool} {Q : Value × List Value -> Shared -> Prop} (I : Inv X pins σ H s) (e : H a = some (.ins C dx fs)) (c : Cls X.K C) (k : Meth X.K C m g) (l : fs.lookup m = none)
  (h : Q (.ref g, [.ref a]) s) : wpAny 'b' A (getMethod (.ref a) m pl) Q E s := by
 obtain ⟨mA, O, r, _, _, _⟩ := vX I.hok e
 have hn : mA m = none := xg.none_of (by rw [<- l]; exact r m)
 exact get_meth I.kIn O (c.get m) k.at_ k.fn hn h
theorem BK {y : V} {u : Value} {Q : Unit -> Shared -> Prop} (I : Inv X pins σ H s) (e : H a = some (.ins C dx fs)) (c : Cls X.K C) (n : lr X.K C f) (hl : fs.length < 1000) (ry : RelV y u)
  (h : ∀ s', Inv X pins σ (upd H a (.ins C dx (tu f y fs))) s' -> Q () s') : wpAny 'b' A (setAttr (.ref a) f u) Q E s := by
 obtain ⟨mA, O, r, wi, _, ho⟩ := vX I.hok e
 have hz : (fs.map (·.1)).length <= sizeLine := by rw [List.length_map, sizeLine_eq]; omega
 refine set_map I.kIn O c.sa c.po n.taker c.hd wi hz fun h' O' sb => h _ ?_
 have hd : ∃ o, h'.get? dx = some o := let ⟨o, _, _, e', _⟩ := O'.ns; ⟨o, e'⟩
 refine I.write (x := a) (e := dx) (by rw [e]; exact True.intro) (.inr ho) (fun b q hb z => (sb.2 b hb).trans z) hd ?_
 refine ⟨by rw [ar O.ne]; exact ho, ?_, O.ne, O'.obj, _, O'.ns, fun g => ?_, fun g hg => ?_⟩
 ·have := rZ f y fs; omega
 ·show xg ((tu f y fs).lookup g) (if g = f then some u else mA g)
  rw [nC]
  by_cases q : g = f
  ·rw [if_pos q, if_pos q]; exact ry
  ·rw [if_neg q, if_neg q]; exact r g
 ·by_cases q : g = f
  ·rw [q]; exact (lT f y fs).1
  ·refine (lT f y fs).2 g (wi g fun z => hg ?_)
   show (if g = f then some u else mA g) = none
   rw [if_neg q]; exact z
theorem Inv.made (I : Inv X pins σ H s) : Inv X pins σ (upd (upd H s.heap.objs.size (.own 'w')) 'w' (.ins C s.heap.objs.size []))
  { s with heap := (s.heap.push PySem.W.emptyDict).push (PySem.W.instObj C s.heap.objs.size) } := by
 have e1 : (s.heap.push PySem.W.emptyDict).get? s.heap.objs.size = some PySem.W.emptyDict := Heap.get?_push_size s.heap rfl
 have e2 : ((s.heap.push PySem.W.emptyDict).push (PySem.W.instObj C s.heap.objs.size)).get? 'w' = some (PySem.W.instObj C s.heap.objs.size) := by
  have := Heap.get?_push_size (s.heap.push PySem.W.emptyDict) (o := PySem.W.instObj C s.heap.objs.size) rfl
  rwa [Heap.size_push] at this
 have e3 : (s.heap.push PySem.W.emptyDict).Ns s.heap.objs.size (fun _ => none) := ⟨PySem.W.emptyDict, #[], _, e1, rfl, (fun e he => absurd he (by simp)), fun _ => rfl⟩
 have I1 := I.laid (a := s.heap.objs.size) (o := .own 'w') (h' := s.heap.push PySem.W.emptyDict) (t' := s.toks) (fun b u q => Heap.get?_push_of_some _ q) 'n' ⟨_, e1⟩
 refine I1.laid (a := s.heap.objs.size + 1) (o := .ins C s.heap.objs.size []) (t' := s.toks) (fun b u q => Heap.get?_push_of_some _ q) (Nat.le_of_eq (Heap.size_push _ _)) ?_
 have ne : s.heap.objs.size ≠ s.heap.objs.size + 1 := Nat.ne_of_lt (Nat.lt_succ_self _)
 refine ⟨by rw [ar ne, av], Nat.zero_le _, ne, e2, fun _ => none, (Heap.Ns1.of_empty e3).at fun o q => Heap.get?_push_of_some _ q, fun _ => True.intro, fun y hy => absurd rfl hy⟩
theorem EE {prog : Program} {w : World} {env : Env} {e : Expr} {f : Str} {pos : Pos} {s : Shared} {Q : Value -> Shared -> Prop} (hb : attributeBase e f env (eval e env) = eval e env)
  (h : wpAny 'i' A (eval e env) (fun o s₁ => wpAny 'i' A (getAttr o f true) Q E s₁) E s) : wpAny 'i' A (eval (.Attribute e f pos) env) Q E s :=
 Attribute_any_ h (by rw [arm_eval_Attribute, hb])
end
noncomputable def tFld (K : PySem.W.Frag) (ta : TE) (f : Str) : TE := fun σ H Q => ta σ H fun x H1 => ∃ a C dx fs v, x = .ref a /\ H1 a = some (.ins C dx fs) /\ Cls K C /\ lr K C f /\ fs.lookup f = some v /\ Q v H1
noncomputable def sFld (K : PySem.W.Frag) (ta tv : TE) (f : Str) : TS := fun D σ H => tv σ H fun y H1 => ta σ H1 fun x H2 => ∃ a C dx fs, x = .ref a /\ H2 a = some (.ins C dx fs) /\ Cls K C /\ lr K C f /\ fs.length < 1000 /\
 D.nx σ (upd H2 a (.ins C dx (tu f y fs)))
section
variable {X : Cx} {o e value : Expr} {f : Str} {pos pos' tpos : Pos} {ta tv : TE}
theorem Dg (he : PE X e ta) (hb : attributeBase e f X.env (eval e X.env) = eval e X.env) : PE X (.Attribute e f pos) (tFld X.K ta f) := by
 intro pins s σ H Q I h
 refine EE hb (thn (he pins s σ H _ I h) fun u s1 ⟨x, H1, I1, rx, a, C, dx, fs, v, ex, ea, c, n, l, q⟩ => ?_)
 subst ex
 obtain rfl : u = Value.ref a := rx
 exact C7 I1 ea c n l fun u' s2 I2 ru => ⟨v, H1, I2, ru, q⟩
theorem ps_fld (ha : PE X o ta) (hv : PE X value tv) (hs : swapsWith value (some (.Attribute o f pos')) pos.line X.env = pure false) : PS X (.Assign [.Attribute o f pos'] value pos) (sFld X.K ta tv f) := by
 intro pins s σ H D I h
 refine plainObj_wpAny_Assign_Attribute (thn (hv pins s σ H _ I h) fun u s1 ⟨y, H1, I1, ry, q⟩ => thn (ha pins s1 σ H1 _ I1 q) fun ov s2 ⟨x, H2, I2, rx, a, C, dx, fs, ex, ea, c, n, l, q2⟩ => ?_) hs
 subst ex
 obtain rfl : ov = Value.ref a := rx
 exact BK I2 ea c n l ry fun s3 I3 => ⟨σ, _, I3, q2⟩
theorem methcall_of {pl : Sem Bool} {m : Str} {apos : Pos} {args : List Expr} {pins : List 'a'} {s : Shared} {σ : St} {H : Hp} {Q : Value -> Shared -> Prop} {te : TE} (he : PE X e te) (I : Inv X pins σ H s)
  (h : te σ H fun x H1 => ∃ a C dx fs g, x = .ref a /\ H1 a = some (.ins C dx fs) /\ Cls X.K C /\ Meth X.K C m g /\ fs.lookup m = none /\
   ∀ s1, Inv X pins σ H1 s1 -> wpAny 'b' X.A (callWith pos (.ref g) [.ref a] (backTo pos (starEach args X.env)) (backToKw pos (keywordEach [] X.env))) Q X.xe s1)
  (ht : eval (.Call (.Attribute e m apos) args [] pos) X.env = (do
   let ov <- eval e X.env
   standAt apos.atName
   let (f, first) <- holding [ov] (getMethod ov m pl)
   callWith pos f first (backTo pos (starEach args X.env)) (backToKw pos (keywordEach [] X.env)))) :
  wpAny 'b' X.A (eval (.Call (.Attribute e m apos) args [] pos) X.env) Q X.xe s := by
 refine PySem.W.methodCall_KW (pl := pl) (thn (he pins s σ H _ I h) fun u s1 ⟨x, H1, I1, rx, a, C, dx, fs, g, ex, ea, c, k, l, q⟩ => ?_) ht
 subst ex
 obtain rfl : u = Value.ref a := rx
 exact um I1 ea c k l (q s1 I1)
end
section
variable {X : Cx} {pins : List 'a'} {σ : St} {H : Hp} {s : Shared} {A : Around} {E : Value -> Shared -> Prop} {Q : Value -> Shared -> Prop} {c : Value} {b : Bool}
inductive BA (K : PySem.W.Frag) (H : Hp) : V -> Value -> Prop where
 | non : BA K H .non (.type "NoneType")
 | bl (x : Bool) : BA K H (.bl x) 'T'
 | int (i : Int) : BA K H (.int i) 'V'
 | str (x : Str) : BA K H (.str x) '1'
 | flt (x : UInt64) : BA K H (.flt x) (.type "float")
 | lst {a : Addr} {xs : List V} (e : H a = some (.lst xs)) : BA K H (.ref a) 'L'
 | frz {a : Addr} {o : Obj} {xs : List V} (e : H a = some (.frz o (.lst xs))) : BA K H (.ref a) 'L'
 | tup {a : Addr} {xs : List V} (e : H a = some (.tup xs)) : BA K H (.ref a) 'N'
 | dK {a : Addr} {kvs : List (Key × V)} (e : H a = some (.dK kvs)) : BA K H (.ref a) (.type "dict")
 | dT {a : Addr} {kvs : List (List Key × V)} (e : H a = some (.dT kvs)) : BA K H (.ref a) (.type "dict")
 | ins {a C dx : Addr} {fs : List (Str × V)} (e : H a = some (.ins C dx fs)) (cl : Cls K C) (ha : PySem.W.findIn K (.ref C) "__class__" = some (some 'q'))
   (hn : PySem.W.specialIn K 'q' "__get__" = some (some (.builtin "getset_descriptor.__get__"))) (htk : PySem.W.takesIn K 'q' = some true)
   (hm : PySem.W.mroIn K C (.type "object") = some true) : BA K H (.ref a) (.ref C)
theorem DL {x : V} {u t : Value} (I : Inv X pins σ H s) (rx : RelV x u) (ty : BA X.K H x t) (e : PySem.W.kitOne X.K t c = some b) (h : ∀ tk, Q (.bool b) { s with toks := tk }) :
  wpAny 'b' A (call (.builtin "isinstance") [u, c]) Q E s := by
 cases ty with
 | non => cases (show u = Value.none from rx); exact PySem.W.kia_one PySem.W.kitx_none I.kIn True.intro e 'C' h
 | bl y => cases (show u = Value.bool y from rx); exact PySem.W.kia_one PySem.W.kitx_bool I.kIn True.intro e 'C' h
 | int i => obtain ⟨t, q⟩ := (show ∃ t, u = Value.int i t from rx); cases q; exact PySem.W.kia_one PySem.W.kitx_int I.kIn True.intro e 'C' h
 | str y => obtain ⟨t, q⟩ := (show ∃ t, u = Value.str y t from rx); cases q; exact PySem.W.kia_one PySem.W.kitx_str I.kIn True.intro e 'C' h
 | flt y => obtain ⟨t, q⟩ := (show ∃ t, u = Value.float y t from rx); cases q; exact PySem.W.kia_one PySem.W.kitx_float I.kIn True.intro e 'C' h
 | @lst a xs ea =>
  cases (show u = Value.ref a from rx)
  obtain ⟨_, _, n, _, h1⟩ := (show gu X.prog X.w H s.heap a (.lst xs) from I.hok a _ ea)
  exact PySem.W.kia_one PySem.W.kitx_list I.kIn ⟨_, h1, rfl⟩ e 'C' h
 | @frz a ob xs ea =>
  cases (show u = Value.ref a from rx)
  obtain ⟨_, _, _, n, _, h1⟩ := (show gu X.prog X.w H s.heap a (.frz ob (.lst xs)) from I.hok a _ ea)
  exact PySem.W.kia_one PySem.W.kitx_list I.kIn ⟨_, h1, rfl⟩ e 'C' h
 | @tup a xs ea =>
  cases (show u = Value.ref a from rx)
  obtain ⟨_, _, _, p⟩ := (show gu X.prog X.w H s.heap a (.tup xs) from I.hok a _ ea)
  obtain ⟨o, h1, h2, _⟩ := p
  exact PySem.W.kia_one PySem.W.kitx_tuple I.kIn ⟨o, h1, h2⟩ e 'C' h
 | @dK a kvs ea =>
  cases (show u = Value.ref a from rx)
  obtain ⟨_, _, vs, _, p⟩ := (show gu X.prog X.w H s.heap a (.dK kvs) from I.hok a _ ea)
  obtain ⟨o, es, ep, h1, h2, _⟩ := p
  exact PySem.W.kia_one PySem.W.kitx_dict I.kIn ⟨o, h1, h2.1⟩ e 'C' h
 | @dT a kvs ea =>
  cases (show u = Value.ref a from rx)
  obtain ⟨_, _, xs, _, o, es, ep, h1, h2, _⟩ := (show gu X.prog X.w H s.heap a (.dT kvs) from I.hok a _ ea)
  exact PySem.W.kia_one PySem.W.kitx_dict I.kIn ⟨o, h1, h2.1⟩ e 'C' h
 | @ins a C dx fs ea cl ha hn htk hm =>
  cases (show u = Value.ref a from rx)
  obtain ⟨mA, O, _⟩ := vX I.hok ea
  obtain ⟨od, J, _⟩ := O.look
  exact PySem.W.kia_one (PySem.W.kitx_own (cl.get _) cl.hd ha hn htk hm) I.kIn J e 'C' h
end
end L2
namespace L2
open PySem PySem.Spec PyProof.Rows
structure kg (k : Nat) (A : Around) : Prop where
 hd : A.handled = none
 dp : A.depth + 3 * k + 5 < recursionLimit
 un : A.units + 16 * k + 200 < cLine
theorem kg.mono {j k : Nat} {A : Around} (r : kg k A) (h : j <= k) : kg j A := ⟨r.hd, by have := r.dp; omega, by have := r.un; omega⟩
theorem kg.deeper {k : Nat} {A : Around} (r : kg (k + 1) A) (env : Env) : kg k (A.deeper env) :=
 ⟨r.hd, by have := r.dp; show A.depth + 1 + 3 * k + 5 < _; omega, by have := r.un; show A.units + 3 + 16 * k + 200 < _; omega⟩
theorem C1 {A : Around} {C : Addr} {us : List Value} {kw : List (Str × Value)} : (A.under (.builtin "type.__call__" ⟨.ref C :: us, kw⟩)).depth = A.depth + 1 := by
 first | rfl | simp [Around.under, Code.weight, Code.isCreation, Code.isGuard, Code.isCaller, Code.frames, Code.isFrame, guardIds]
theorem C0 {A : Around} {C : Addr} {us : List Value} {kw : List (Str × Value)} : (A.under (.builtin "type.__call__" ⟨.ref C :: us, kw⟩)).units = A.units + 1 := by
 first | rfl | simp [Around.under, Code.cUnits, Code.frames, Code.isFrame]
theorem kg.make {k : Nat} {A : Around} (r : kg (k + 1) A) (C : Addr) (us : List Value) (kw : List (Str × Value)) : kg k (A.under (.builtin "type.__call__" ⟨.ref C :: us, kw⟩)) :=
 ⟨r.hd, by have := r.dp; rw [C1]; omega, by have := r.un; rw [C0]; omega⟩
theorem kg.depth {k : Nat} {A : Around} (r : kg k A) : A.depth < recursionLimit := by have := r.dp; omega
theorem kg.units {k : Nat} {A : Around} (r : kg k A) : A.units + 64 < cLine := by have := r.un; omega
noncomputable def tNil : TA := fun _ H Q => Q [] H
noncomputable def uQ (ta : TE) (tr : TA) : TA := fun σ H Q => ta σ H fun x H1 => tr σ H1 fun xs H2 => Q (x :: xs) H2
section
variable {X : Cx} {e : Expr} {es : List Expr} {te : TE} {t : TA} {pos : Pos}
theorem iJ : PA X [] tNil := fun _ _ _ _ H Q I h => Calls.spliced_nil ⟨[], H, I, .nil, h⟩
theorem cL (ha : PE X e te) (hr : PA X es t) (hs : starEach (e :: es) X.env = 'k' :: starEach es X.env := by rfl) : PA X (e :: es) (uQ te t) := by
 intro pos pins s σ H Q I h
 rw [hs]
 show wpAny _ _ (spliced ('k' :: backTo pos (starEach es X.env))) _ _ s
 refine Calls.spliced_cons (thn (ha pins s σ H _ I h) fun u s1 ⟨x, H1, I1, r1, q1⟩ => ?_)
 exact thn (hr pos pins s1 σ H1 _ I1 q1) fun us s2 ⟨xs, H2, I2, r2, q2⟩ => ⟨x :: xs, H2, I2, .cons r1 r2, q2⟩
noncomputable def tTup (t : TA) : TE := fun σ H Q => t σ H fun xs H1 => xs.length <= sizeLine /\ ∀ p, H1 p = none -> Q (.ref p) (upd H1 p (.tup xs))
noncomputable def tLst (t : TA) : TE := fun σ H Q => t σ H fun xs H1 => xs.length <= sizeLine /\ ∀ p, H1 p = none -> Q (.ref p) (upd H1 p (.lst xs))
theorem pe_tup {x1} (h : PA X es t) : PE X (.Tuple es x1 pos) (tTup t) := by
 intro pins s σ H Q I hq
 refine wpAny_Tuple_spliced (thn (h pos pins s σ H _ I hq) fun us s1 ⟨xs, H1, I1, r, z, q⟩ => ⟨by rw [<- r.length]; exact z, ?_⟩)
 have hf : H1 s1.heap.objs.size = none := I1.hok.fresh 'n'
 refine ⟨.ref s1.heap.objs.size, upd H1 s1.heap.objs.size (.tup xs), I1.laid (t' := s1.toks) (fun b u e => Heap.get?_push_of_some _ e) 'n' ?_, rfl, q _ hf⟩
 exact ⟨z, us, r, ⟨_, Heap.get?_push_size _ rfl, rfl, _, rfl⟩⟩
theorem pe_lst (h : PA X es t) : PE X (.List es pos) (tLst t) := by
 intro pins s σ H Q I hq
 refine wpAny_List_spliced (thn (h pos pins s σ H _ I hq) fun us s1 ⟨xs, H1, I1, r, z, q⟩ => ⟨by rw [<- r.length]; exact z, ?_⟩)
 have hf : H1 s1.heap.objs.size = none := I1.hok.fresh 'n'
 refine ⟨.ref s1.heap.objs.size, upd H1 s1.heap.objs.size (.lst xs), I1.laid (t' := s1.toks) (fun b u e => Heap.get?_push_of_some _ e) 'n' ?_, rfl, q _ hf⟩
 exact ⟨z, us, 0, r, Heap.get?_push_size _ rfl⟩
end
noncomputable abbrev Sp := List V -> Hp -> VK -> XK -> Prop
noncomputable abbrev CXT := List Env -> Hp -> Shared -> XK -> Value -> Shared -> Prop
structure Env0 (P : Program) (w : World) (K : PySem.W.Frag) (mg : Str -> Option Value) (base : Heap) (A : Around) (outer : List Env) (s : Shared) (H : Hp) : Prop where
 frames : A.frames = some outer
 mod : Mod K mg base
 bs : ∀ b o, base.get? b = some o -> s.heap.get? b = some o /\ H b = none
 bsz : base.objs.size <= s.heap.objs.size
 yH : s.heap.FunFrames base outer
 frf : ∀ b ∈ frs outer, H b = none
 hok : HOk P w H s.heap
 bare : AllBare s.gens
noncomputable def CE (outer : List Env) (P : Program) (w : World) (H : Hp) (s : Shared) (Q : VK) (u : Value) (s' : Shared) : Prop :=
 ∃ v H', s'.os = s.os /\ AllBare s'.gens /\ Un (frs outer) [] H H' s.heap s'.heap /\ HOk P w H' s'.heap /\ RelV v u /\ Q v H'
noncomputable def CR (CX : CXT) (outer : List Env) (P : Program) (w : World) (H : Hp) (s : Shared) (Q : VK) (E : XK) (r : Result) (s' : Shared) : Prop :=
 match r with
 | .ok (.ret u) => CE outer P w H s Q u s'
 | .ok _ => False
 | .error e => CX outer H s E e s'
structure bx (P : Program) (w : World) (K : PySem.W.Frag) (mg : Str -> Option Value) (base : Heap) (CX : CXT) (k : Nat) (f : Addr) (fd : FuncData) (ps : List Str) (sp : Sp) : Prop where
 len : ∀ vs H Q E, sp vs H Q E -> vs.length = ps.length
 run : ∀ (A : Around) (outer : List Env) (s : Shared) (H : Hp) (args : Args) (us : List Value) (vs : List V) (Q : VK) (E : XK), kg k A -> Env0 P w K mg base A outer s H -> BindsTo s fd args (ps.zip us) -> Vals vs us -> sp vs H Q E ->
  codeAny (model P w) A (.call (.ref f) args) (CR CX outer P w H s Q E) s
theorem Env0.make {P : Program} {w : World} {K : PySem.W.Frag} {mg : Str -> Option Value} {base : Heap} {A : Around} {outer : List Env} {s : Shared} {H : Hp} (e : Env0 P w K mg base A outer s H) (C : Addr) (us : List Value) (kw : List (Str × Value)) :
  Env0 P w K mg base (A.under (.builtin "type.__call__" ⟨.ref C :: us, kw⟩)) outer s H := ⟨by first | exact e.frames | (simpa [Around.under, Code.envs, Code.isFrame, pushEnvs] using e.frames), e.mod, e.bs, e.bsz, e.yH, e.frf, e.hok, e.bare⟩
section
variable {X : Cx} {pins : List 'a'} {σ : St} {H : Hp} {s s' : Shared}
theorem Inv.env0 (I : Inv X pins σ H s) : Env0 X.prog X.w X.K X.mg X.base X.A X.stack s H :=
 ⟨I.ok.frames, I.ok.mod, I.bs, Nat.le_trans I.ok.bsz I.sz, I.stack, I.CL, I.hok, I.bare⟩
theorem Inv.after {Q : VK} {u : Value} (I : Inv X pins σ H s) (h : CE X.stack X.prog X.w H s Q u s') : EP X pins σ Q u s' := by
 obtain ⟨v, H', os, bare, un, hok, r, q⟩ := h
 obtain ⟨hh, g, d, t, os'⟩ := s'
 obtain rfl : os' = s.os := os
 exact ⟨v, H', I.call (h' := hh) (g' := g) (d' := d) (t' := t) (ch := []) un hok bare (fun b z => absurd z (by simp)), r, q⟩
end
noncomputable def tCall (sp : Sp) (dvs : List V) (E : XK) (t : TA) : TE := fun σ H Q => t σ H fun vs H1 => sp (vs ++ dvs) H1 Q E
noncomputable def tMeth (C : Addr) (m : Str) (sp : Sp) (dvs : List V) (E : XK) (ta : TE) (t : TA) : TE := fun σ H Q => ta σ H fun x H1 => ∃ a dx fs, x = .ref a /\ H1 a = some (.ins C dx fs) /\ fs.lookup m = none /\
 t σ H1 fun vs H2 => sp (x :: (vs ++ dvs)) H2 Q E
noncomputable def tMake (C : Addr) (sp : Sp) (dvs : List V) (E : XK) (t : TA) : TE := fun σ H Q => t σ H fun vs H1 => ∀ x dx, H1 x = none -> H1 dx = none -> dx ≠ x ->
 sp (.ref x :: (vs ++ dvs)) (upd (upd H1 dx (.own x)) x (.ins C dx [])) (fun v H2 => v = .non /\ Q (.ref x) H2) E
noncomputable def Binds (K : PySem.W.Frag) (fd : FuncData) (ps : List Str) (ds : List Value) : Prop :=
 ∀ (s : Shared) (us : List Value), K.In s.heap -> (us ++ ds).length = ps.length -> BindsTo s fd ⟨us, []⟩ (ps.zip (us ++ ds))
theorem Binds.all {K : PySem.W.Frag} {fd : FuncData} {ps : List Str} (h : ∀ us : List Value, us.length = ps.length -> bindArgs fd ⟨us, []⟩ = pure (ps.zip us)) : Binds K fd ps [] := fun s us _ hl => by
 rw [List.append_nil] at hl ⊢
 exact .of_eq (h us hl)
noncomputable def Passes (CX : CXT) (X : Cx) (E : XK) : Prop := ∀ (pins : List 'a') (σ : St) (H : Hp) (s : Shared) (e : Value) (s' : Shared), Inv X pins σ H s -> CX X.stack H s E e s' -> X.xe e s'
section
variable {X : Cx} {CX : CXT} {k : Nat} {f C : Addr} {fd : FuncData} {ps : List Str} {sp : Sp} {dvs : List V} {ds : List Value} {E : XK} {x m : Str} {p pos apos : Pos} {e o : Expr} {es : List Expr} {ta : TE} {t : TA}
theorem CT {pins : List 'a'} {σ : St} {H : Hp} {s : Shared} {Q : VK} {us : List Value} {vs : List V} (F : bx X.prog X.w X.K X.mg X.base CX k f fd ps sp) (hr : kg k X.A) (hb : Binds X.K fd ps ds) (hd : Vals dvs ds) (hx : Passes CX X E)
  (I : Inv X pins σ H s) (r : Vals vs us) (h : sp (vs ++ dvs) H Q E) : wpAny 'b' X.A (call (.ref f) us) (EP X pins σ Q) X.xe s := by
 have r2 : Vals (vs ++ dvs) (us ++ ds) := r.append hd
 have hl : (us ++ ds).length = ps.length := by rw [<- r2.length]; exact F.len _ _ _ _ h
 refine wpAny_call (codeAny_mono (F.run X.A X.stack s H ⟨us, []⟩ (us ++ ds) (vs ++ dvs) Q E hr I.env0 (hb s us I.kIn hl) r2 h) fun r s' hq => ?_)
 cases r with
 | error e => exact hx pins σ H s e s' I hq
 | ok fl =>
  cases fl with
  | ret u => exact I.after hq
  | next => exact False.elim hq
  | brk => exact False.elim hq
  | cont => exact False.elim hq
theorem rK (F : bx X.prog X.w X.K X.mg X.base CX k f fd ps sp) (hr : kg k X.A) (hg : Gl X x) (hm : X.mg x = some (.ref f)) (hk : PySem.W.keepIn X.K (.ref f) = true) (hb : Binds X.K fd ps ds) (hd : Vals dvs ds) (hx : Passes CX X E)
  (ha : PA X (e :: es) t) (hdb : 'c' = false := by decide) (he : starEach (e :: es) X.env = 'k' :: starEach es X.env := by rfl) (hpl : 'm'.any (·.1) = false := by rfl) :
  PE X 'G' (tCall sp dvs E t) := by
 intro pins s σ H Q I h
 refine wpAny_Call_Name_kw (lL I hg hm ?_ hdb)
 refine PySem.W.callWith_K (h₀ := X.base) I.ok.mod.kin hk (thn (ha pos pins s σ H _ I h) fun us s1 ⟨vs, H1, I1, r, q⟩ => ⟨I1.kIn, ?_⟩) he hpl
 exact CT F hr hb hd hx I1 r q
theorem pe_meth {pl : Sem Bool} (he : PE X o ta) (c : Cls X.K C) (hm : Meth X.K C m f) (F : bx X.prog X.w X.K X.mg X.base CX k f fd ps sp) (hr : kg k X.A) (hb : Binds X.K fd ps ds) (hd : Vals dvs ds) (hx : Passes CX X E) (ha : PA X (e :: es) t)
  (hst : starEach (e :: es) X.env = 'k' :: starEach es X.env := by rfl) (hpl : 'm'.any (·.1) = false := by rfl)
  (ht : eval (.Call (.Attribute o m apos) (e :: es) [] pos) X.env = (do
   let ov <- eval o X.env
   standAt apos.atName
   let (f, first) <- holding [ov] (getMethod ov m pl)
   callWith pos f first (backTo pos (starEach (e :: es) X.env)) (backToKw pos (keywordEach [] X.env))) := by rfl) :
  PE X (.Call (.Attribute o m apos) (e :: es) [] pos) (tMeth C m sp dvs E ta t) := by
 intro pins s σ H Q I h
 refine PySem.W.methodCall_KW (pl := pl) (thn (he pins s σ H _ I h) fun u s1 ⟨x, H1, I1, rx, a, dx, fs, ex, ea, l, q⟩ => ?_) ht
 subst ex
 obtain rfl : u = Value.ref a := rx
 refine um I1 ea c hm l ?_
 refine PySem.W.callWith_K (first := [.ref a]) (h₀ := X.base) I.ok.mod.kin hm.kp (thn (ha pos pins s1 σ H1 _ I1 q) fun us s2 ⟨vs, H2, I2, r, q2⟩ => ⟨I2.kIn, ?_⟩) hst hpl
 exact CT (us := .ref a :: us) (vs := .ref a :: vs) F hr hb hd hx I2 (.cons rfl r) q2
structure Mk (K : PySem.W.Frag) (C f : Addr) : Prop where
 makes : PySem.W.makesIn K C = true
 init : PySem.W.findIn K (.ref C) "__init__" = some (some (.ref f))
 fn : PySem.W.isFn K (.ref f) = true
 kp : PySem.W.keepIn K (.ref C) = true
theorem run_make {pins : List 'a'} {σ : St} {H : Hp} {s : Shared} {Q : VK} {us : List Value} {vs : List V} (M : Mk X.K C f) (F : bx X.prog X.w X.K X.mg X.base CX k f fd ps sp) (hr : kg (k + 1) X.A) (hb : Binds X.K fd ps ds) (hd : Vals dvs ds)
  (hx : Passes CX X E) (I : Inv X pins σ H s) (r : Vals vs us)
  (h : ∀ x dx, H x = none -> H dx = none -> dx ≠ x -> sp (.ref x :: (vs ++ dvs)) (upd (upd H dx (.own x)) x (.ins C dx [])) (fun v H2 => v = .non /\ Q (.ref x) H2) E) :
  wpAny 'b' X.A (call (.ref C) us) (EP X pins σ Q) X.xe s := by
 have hq := h 'w' s.heap.objs.size (I.hok.fresh (Nat.le_succ _)) (I.hok.fresh 'n') (Nat.ne_of_lt (Nat.lt_succ_self _))
 have I2 := Inv.made (C := C) I
 have r2 : Vals (V.ref 'w' :: (vs ++ dvs)) (Value.ref 'w' :: (us ++ ds)) := .cons rfl (r.append hd)
 have hl : (Value.ref 'w' :: us ++ ds).length = ps.length := by
  have e := r2.length
  rw [F.len _ _ _ _ hq] at e
  exact e.symm
 refine wpAny_call (make_map (f := f) I.kIn M.makes M.init (beq_iff_eq.mp M.fn) (codeAny_mono (F.run _ X.stack _ _ ⟨Value.ref 'w' :: us, []⟩ (Value.ref 'w' :: (us ++ ds)) _ _ E (hr.make C us [])
  (I2.env0.make C us []) (hb _ (Value.ref 'w' :: us) I2.kIn hl) r2 hq) fun r s' hq' => ?_))
 cases r with
 | error e => exact hx pins σ _ _ e s' I2 hq'
 | ok fl =>
  cases fl with
  | ret u =>
   obtain ⟨v, H', I3, rv, ev, q3⟩ := I2.after hq'
   subst ev
   exact ⟨rv, ⟨V.ref 'w', H', I3, rfl, q3⟩⟩
  | next => exact False.elim hq'
  | brk => exact False.elim hq'
  | cont => exact False.elim hq'
theorem Df (M : Mk X.K C f) (F : bx X.prog X.w X.K X.mg X.base CX k f fd ps sp) (hr : kg (k + 1) X.A) (hg : Gl X x) (hm : X.mg x = some (.ref C)) (hb : Binds X.K fd ps ds) (hd : Vals dvs ds) (hx : Passes CX X E)
  (ha : PA X (e :: es) t) (hdb : 'c' = false := by decide) (he : starEach (e :: es) X.env = 'k' :: starEach es X.env := by rfl) (hpl : 'm'.any (·.1) = false := by rfl) :
  PE X 'G' (tMake C sp dvs E t) := by
 intro pins s σ H Q I h
 refine wpAny_Call_Name_kw (lL I hg hm ?_ hdb)
 refine PySem.W.callWith_K (h₀ := X.base) I.ok.mod.kin M.kp (thn (ha pos pins s σ H _ I h) fun us s1 ⟨vs, H1, I1, r, q⟩ => ⟨I1.kIn, ?_⟩) he hpl
 exact run_make M F hr hb hd hx I1 r q
end
section
variable {X : Cx} {CX : CXT} {k : Nat} {f C : Addr} {fd : FuncData} {ps ks : List Str} {sp : Sp} {E : XK} {x m : Str} {p pos apos kpos : Pos} {e o : Expr} {es : List Expr} {kws : List Keyword} {te ta : TE} {t tk : TA} {nm : Option Str}
structure KBinds (K : PySem.W.Frag) (fd : FuncData) (ps ks : List Str) (g : List Value -> List Value -> List Value) (gV : List V -> List V -> List V) : Prop where
 to : ∀ (s : Shared) (us ws : List Value), K.In s.heap -> (g us ws).length = ps.length -> BindsTo s fd ⟨us, ks.zip ws⟩ (ps.zip (g us ws))
 rel : ∀ {vs : List V} {us : List Value} {zs : List V} {ws : List Value}, Vals vs us -> Vals zs ws -> Vals (gV vs zs) (g us ws)
variable {g : List Value -> List Value -> List Value} {gV : List V -> List V -> List V}
end
structure aM (N P : List Str) (sc : Scope) : Prop where
 kind : sc.kind = .function
 co : sc.isCoroutine = false
 gen : sc.isGenerator = false
 nd : N.Nodup
 pre : N.take P.length = P
 par : ∀ x ∈ P, sc.names.lookup x = some .local \/ sc.names.lookup x = some .cell
 nofree : ∀ y ∈ sc.names, y.2 ≠ .free
theorem zh {kindOf : Str -> Option NameKind} {x : Str} : ∀ {binds : List (Str × Value)} {m : Str -> Option Value}, (∀ v, (x, v) ∉ binds) -> bindL kindOf binds m x = m x
 | [], _, _ => rfl
 | (n, v) :: r, m, h => by
  unfold bindL
  rw [zh fun w hw => h w (List.mem_cons_of_mem _ hw)]
  split
  ·have : x ≠ n := by rintro rfl; exact h v List.mem_cons_self
   simp [this]
  ·rfl
theorem zm {kindOf : Str -> Option NameKind} {x : Str} : ∀ {binds : List (Str × Value)} {m : Str -> Option Value}, (∀ v, (x, v) ∉ binds) -> bindC kindOf binds m x = m x
 | [], _, _ => rfl
 | (n, v) :: r, m, h => by
  unfold bindC
  rw [zm fun w hw => h w (List.mem_cons_of_mem _ hw)]
  split
  ·rfl
  ·have : x ≠ n := by rintro rfl; exact h v List.mem_cons_self
   simp [this]
theorem zi {kindOf : Str -> Option NameKind} {x : Str} {v : Value} : ∀ {P : List Str} {vs : List Value} {i : Nat} {m : Str -> Option Value}, P.Nodup -> P[i]? = some x -> vs[i]? = some v -> kindOf x = some .local ->
  bindL kindOf (P.zip vs) m x = some v
 | [], _, _, _, _, h, _, _ => by simp at h
 | _ :: _, [], _, _, _, _, h, _ => by simp at h
 | p :: P, w :: vs, 0, m, nd, h1, h2, hk => by
  simp at h1 h2; subst h1; subst h2
  show bindL kindOf ((p, w) :: P.zip vs) m p = _
  unfold bindL
  rw [zh fun v hv => (List.nodup_cons.mp nd).1 (List.of_mem_zip hv).1, if_pos hk]
  simp
 | p :: P, w :: vs, i + 1, m, nd, h1, h2, hk => by
  show bindL kindOf ((p, w) :: P.zip vs) m x = _
  unfold bindL
  exact zi (i := i) (List.nodup_cons.mp nd).2 (by simpa using h1) (by simpa using h2) hk
theorem zo {kindOf : Str -> Option NameKind} {x : Str} {v : Value} : ∀ {P : List Str} {vs : List Value} {i : Nat} {m : Str -> Option Value}, P.Nodup -> P[i]? = some x -> vs[i]? = some v -> kindOf x ≠ some .local ->
  bindC kindOf (P.zip vs) m x = some v
 | [], _, _, _, _, h, _, _ => by simp at h
 | _ :: _, [], _, _, _, _, h, _ => by simp at h
 | p :: P, w :: vs, 0, m, nd, h1, h2, hk => by
  simp at h1 h2; subst h1; subst h2
  show bindC kindOf ((p, w) :: P.zip vs) m p = _
  unfold bindC
  rw [zm fun v hv => (List.nodup_cons.mp nd).1 (List.of_mem_zip hv).1, if_neg hk]
  simp
 | p :: P, w :: vs, i + 1, m, nd, h1, h2, hk => by
  show bindC kindOf ((p, w) :: P.zip vs) m x = _
  unfold bindC
  exact zo (i := i) (List.nodup_cons.mp nd).2 (by simpa using h1) (by simpa using h2) hk
noncomputable def start (N : List Str) (vs : List V) : St := vs.map some ++ List.replicate (N.length - vs.length) none
noncomputable def Cr (CX : CXT) (P : Program) (w : World) (K : PySem.W.Frag) (mg : Str -> Option Value) (base : Heap) (N : List Str) (qual : Str) (scope : Scope) (f : Addr) (cd : Value) (A : Around) (outer : List Env) (s : Shared) (H : Hp) (E : XK) : Cx where
 prog := P
 w := w
 K := K
 mg := mg
 base := base
 A := A.deeper '2'
 N := N
 s₀ := s
 H₀ := H
 env := envOfC qual scope s.heap.objs.size f cd
 outer := outer
 stack := envOfC qual scope s.heap.objs.size f cd :: outer
 ex := []
 calm := true
 fn := fun _ => true
 pn := []
 xe := fun e s' => wpAny (model P w) (A.deeper '2') (leaving '2' e) (fun _ s'' => CX outer H s E e s'') (fun e' s'' => CX outer H s E e' s'') s'
theorem Bt {sc : Scope} {n : Nat} {x : Str} (h : sc.names.lookup x = some .cell) : ∃ c, (cellsFrom n sc.names []).lookup x = some c := by
 have q := PySem.W.cellsFrom_some sc.names n [] (.inl h)
 exact Option.isSome_iff_exists.mp q
theorem DO {CX : CXT} {P : Program} {w : World} {K : PySem.W.Frag} {mg : Str -> Option Value} {base : Heap} {N ps : List Str} {qual : Str} {scope : Scope} {f : Addr} {cd : Value} {A : Around} {outer : List Env} {s s1 : Shared} {H : Hp} {E : XK} {us : List Value} {vs : List V}
  (S : aM N ps scope) (hd : A.handled = none) (e0 : Env0 P w K mg base A outer s H) (hl : vs.length = ps.length) (r : Vals vs us)
  (x : InCallC s s.heap.objs.size (bindL '2'.kindOf (ps.zip us) fun _ => none) (cellsFrom 'w' scope.names []) (bindC '2'.kindOf (ps.zip us) fun _ => none) s1) :
  Inv (Cr CX P w K mg base N qual scope f cd A outer s H E) [] (start N vs) H s1 := by
 have hpl : ps.length <= N.length := by have := congrArg List.length S.pre; rw [List.length_take] at this; omega
 obtain ⟨h1, tk, rfl, hk⟩ := x.done
 have noA : ∀ b : Addr, b ∉ (Cr CX P w K mg base N qual scope f cd A outer s H E).ex := fun b z => absurd (show b ∈ ([] : List Addr) from z) (by simp)
 refine ⟨⟨e0.mod, S.kind, rfl, rfl, Nat.le_refl _, fun y z c h1 h2 => ?_, fun y hy => ?_, fun y c _ h => ?_, fun _ => hd, Around.frames_deeper e0.frames, .inr ⟨rfl, rfl⟩, fun b z => absurd z (noA b), e0.bs, e0.bsz, fun b _ _ => noA b, fun b z => absurd z (noA b), e0.yH, e0.frf⟩,
  rfl, e0.bare, Un.kept hk, ⟨_, x.toInCall.ns, fun i y v h1 h2 h3 => ?_⟩, fun y c h => ⟨_, x.cell y c h⟩, e0.hok.fresh 'n', fun y c h => ?_, fun p hp => absurd (show p ∈ ([] : List 'a') from hp) (by simp), e0.hok.kept hk, ?_⟩
 ·exact name_of_addr x.apart (PySem.mem_of_lookup h1) (PySem.mem_of_lookup h2)
 ·have hy : scope.names.lookup y = some .cell \/ scope.names.lookup y = some .free := hy
  rcases hy with hy | hy
  ·exact Bt hy
  ·exact absurd rfl (S.nofree _ (PySem.mem_of_lookup hy))
 ·exact Nat.le_of_lt (x.above y c (PySem.mem_of_lookup h))
 ·have hi : i < vs.length := by
   unfold start at h2
   by_cases hi : i < vs.length
   ·exact hi
   ·rw [List.getElem?_append_right (by simpa using hi)] at h2
    rw [List.getElem?_replicate] at h2
    split at h2 <;> cases h2
  have ha : vs[i]? = some v := by
   unfold start at h2
   rw [List.getElem?_append_left (by simpa using hi), List.getElem?_map] at h2
   cases e : vs[i]? with
   | none => rw [e] at h2; cases h2
   | some a => rw [e] at h2; cases h2; rfl
  obtain ⟨u, hu, rv⟩ := r.get ha
  have hp : ps[i]? = some y := by
   rw [<- S.pre, List.getElem?_take_of_lt (by omega)]; exact h1
  have ndP : ps.Nodup := by rw [<- S.pre]; exact S.nd.sublist (List.take_sublist _ _)
  refine ⟨u, rv, ?_⟩
  rcases S.par y (List.mem_of_getElem? hp) with k | k
  ·exact .inl ⟨k, zi ndP hp hu k⟩
  ·obtain ⟨c, e⟩ := Bt (n := s.heap.objs.size + 1) k
   refine .inr ⟨.inl k, c, e, ?_⟩
   have q := x.cell y c e
   rw [zo ndP hp hu (by show scope.names.lookup y ≠ _; rw [k]; decide)] at q
   exact q
 ·exact e0.hok.fresh (Nat.le_of_lt (x.above y c (PySem.mem_of_lookup h)))
 ·unfold start
  show _ = N.length
  rw [List.length_append, List.length_map, List.length_replicate]
  omega
theorem fn_of {CX : CXT} {P : Program} {w : World} {K : PySem.W.Frag} {mg : Str -> Option Value} {base : Heap} {k : Nat} {f : Addr} {name qual : Str} {params : Arguments} {body : List Stmt} {scope : Scope} {dV kV doc pm cdv ct oc : Value} {an od : Option Addr}
  {osl : Array (Option Value)} {N ps : List Str} {sp : Sp} (lk : K.lookup f = some ⟨oc, od, .func (PySem.W.fnOf name qual params body scope dV kV doc pm an cdv ct), osl⟩) (hcd : PySem.W.codeIn K cdv qual = true) (S : aM N ps scope)
  (len : ∀ vs H Q E, sp vs H Q E -> vs.length = ps.length)
  (hbody : ∀ (A : Around) (outer : List Env) (s : Shared) (H : Hp) (vs : List V) (Q : VK) (E : XK), kg k (A.deeper (envOfC qual scope s.heap.objs.size f cdv)) -> sp vs H Q E ->
   ∃ t, PSs (Cr CX P w K mg base N qual scope f cdv A outer s H E) body t /\ t { nx := fun _ H' => Q .non H', rt := Q } (start N vs) H) :
  bx P w K mg base CX (k + 1) f (PySem.W.fnOf name qual params body scope dV kV doc pm an cdv ct) ps sp := by
 refine ⟨len, fun A outer s H args us vs Q E hr e0 hb r hsp => ?_⟩
 have hl := len _ _ _ _ hsp
 have KX : K.In s.heap := e0.mod.kin.keeps fun b o e => (e0.bs b o e).1
 have lim : s.heap.NoLimit := e0.mod.nolimit.keeps fun b o e => (e0.bs b o e).1
 have hkind : ∀ y ∈ ps.zip us, scope.names.lookup y.1 = some .local \/ (scope.names.lookup y.1 = some .cell /\ ((cellsFrom 'w' scope.names []).lookup y.1).isSome = true) := fun ⟨n, v⟩ hy => by
  rcases S.par n (List.of_mem_zip hy).1 with q | q
  ·exact .inl q
  ·exact .inr ⟨q, PySem.W.cellsFrom_some _ _ _ (.inl q)⟩
 refine codeAny_call_function hr.depth (KX _ _ lk) rfl S.co S.gen rfl (PySem.W.codeRec_of KX hcd) (hb _ _ _ _ ?_)
 refine wpAny_newFunctionEnv_cells S.kind hkind fun env he s1 x => ?_
 subst he
 refine ⟨lim.keeps x.toInCall.keep, codeAny_func ?_⟩
 obtain ⟨t, ht, hq⟩ := hbody A outer s H vs Q E (hr.deeper _) hsp
 have I : Inv (Cr CX P w K mg base N qual scope f cdv A outer s H E) [] (start N vs) H s1 := DO S hr.hd e0 hl r x
 refine wpAny_mono (ht [] s1 (start N vs) H _ I hq) (fun fl s' hs => ?_) fun e s' hs => hs
 have fin : ∀ {σ' : St} {H' : Hp} {v : V} {u : Value}, Inv (Cr CX P w K mg base N qual scope f cdv A outer s H E) [] σ' H' s' -> RelV v u -> Q v H' -> CE outer P w H s Q u s' :=
  fun {σ' H' v u} J rv q => ⟨v, H', J.os, J.bare, J.base, J.hok, rv, q⟩
 cases fl with
 | ret u =>
  obtain ⟨v, σ', H', J, rv, q⟩ := hs
  exact fin J rv q
 | next =>
  obtain ⟨σ', H', J, q⟩ := hs
  exact fin (v := V.non) (u := Value.none) J rfl q
 | brk =>
  obtain ⟨_, _, _, q⟩ := hs
  exact False.elim q
 | cont =>
  obtain ⟨_, _, _, q⟩ := hs
  exact False.elim q
end L2
namespace L2
open PySem PySem.Spec PyProof.Rows
section
variable {X : Cx} {x : Str} {p pos : Pos} {e : Expr} {es : List Expr} {t : TA} {id T : String} {r : List V -> Hp -> VK -> Prop}
noncomputable def tCB (r : List V -> Hp -> VK -> Prop) (t : TA) : TE := fun σ H Q => t σ H fun vs H1 => r vs H1 Q
theorem kn (hc : gL X (.builtin id) r) (hg : Gl X x) (hm : X.mg x = none) (hv : bootBuiltins x = some (.builtin id)) (ha : PA X (e :: es) t) (hn : x ≠ "__name__" := by decide) (hdb : 'c' = false := by decide)
  (he : starEach (e :: es) X.env = 'k' :: starEach es X.env := by rfl) (hpl : 'm'.any (·.1) = false := by rfl) : PE X 'G' (tCB r t) := by
 intro pins s σ H Q I h
 refine wpAny_Call_Name_kw (uh I hg hm hv ?_ hn hdb)
 exact PyProof.Rows.callWith_builtin1 (thn (ha pos pins s σ H _ I h) fun us s1 ⟨vs, H1, I1, r1, q1⟩ => hc pins s1 σ H1 vs us Q I1 r1 q1) he hpl
theorem Dh (hc : gL X (.type T) r) (hg : Gl X x) (hm : X.mg x = none) (hv : bootBuiltins x = some (.type T)) (ha : PA X (e :: es) t) (hn : x ≠ "__name__" := by decide) (hdb : 'c' = false := by decide)
  (he : starEach (e :: es) X.env = 'k' :: starEach es X.env := by rfl) (hpl : 'm'.any (·.1) = false := by rfl) : PE X 'G' (tCB r t) := by
 intro pins s σ H Q I h
 refine wpAny_Call_Name_kw (uh I hg hm hv ?_ hn hdb)
 exact PyProof.Rows.callWith_type1 (thn (ha pos pins s σ H _ I h) fun us s1 ⟨vs, H1, I1, r1, q1⟩ => hc pins s1 σ H1 vs us Q I1 r1 q1) he hpl
end
end L2
namespace HT
open PySem PyProof.Rows
section
open PySem.SeqAt
open PySem.AutoSeq1 (wpAny_loadPart')
open PySem.MeetsSeq PySem.MeetsSeq2 PySem.MeetsSeq3
end
section
variable {prog : Program} {w : World} {A : Around} {E : Value -> Shared -> Prop} {s : Shared}
theorem cat_tup {t b : Addr} {vs ws : List Value} {Q : Value -> Shared -> Prop} (ht : IsTup s.heap t vs.toArray) (hb : IsTup s.heap b ws.toArray) (hv : vs ≠ [])
  (h1 : ws = [] -> Q (.ref t) s) (h2 : ws ≠ [] -> Q (.ref s.heap.objs.size) { s with heap := s.heap.push { cls := .type "tuple", data := .seq (vs ++ ws).toArray } })
  (hsz : vs.length + ws.length <= sizeLine) : wpAny 'i' A (binaryOp .Add (.ref t) (.ref b)) Q E s := by
 obtain ⟨⟨cls, dd, data, sl⟩, ho, hc, n, hd⟩ := id ht
 obtain ⟨⟨cls2, dd2, data2, sl2⟩, ho2, hc2, n2, hd2⟩ := id hb
 simp only at hc hd hc2 hd2
 subst hc hd hc2 hd2
 have e : vs.toArray ++ ws.toArray = (vs ++ ws).toArray := by simp
 by_cases hw : ws = []
 ·exact concat_meets ⟨_, ho, rfl⟩ ⟨_, ho2, rfl⟩ noFill_tuple_add seq_tuple_add PySem.F.slot_tuple_add PySem.F.entry_tuple_add (PySem.F.args_tuple_add_2 _ _)
   (tuple_addW1 t b vs.toArray ws.toArray n n2 dd dd2 sl sl2 (by simpa using hv) (by simp [hw])) ⟨ho, ho2, h1 hw⟩
 ·refine concat_meets ⟨_, ho, rfl⟩ ⟨_, ho2, rfl⟩ noFill_tuple_add seq_tuple_add PySem.F.slot_tuple_add PySem.F.entry_tuple_add (PySem.F.args_tuple_add_2 _ _)
   (tuple_addW2 t b vs.toArray ws.toArray n n2 dd dd2 sl sl2 (by simpa using hv) (by simpa using hw) (by rw [List.size_toArray, List.size_toArray]; exact hsz)) ⟨ho, ho2, ?_⟩
  rw [e]
  exact h2 hw
noncomputable def sIx (n d : Nat) : Option Int -> Nat
 | none => d
 | some v => if v < 0 then (v + (n : Int)).toNat else min v.toNat n
theorem sIx_le (n d : Nat) (hd : d <= n) (o : Option Int) : sIx n d o <= n := by
 cases o with
 | none => exact hd
 | some v =>
  show (if v < 0 then (v + (n : Int)).toNat else min v.toNat n) <= n
  by_cases hv : v < 0
  ·rw [if_pos hv]; omega
  ·rw [if_neg hv]; exact Nat.min_le_right _ _
theorem Eo (v : Int) (n d : Nat) : (if v < 0 then max (v + (n : Int)) 0 else min v (n : Int)) = ((sIx n d (some v) : Nat) : Int) := by
 show (if v < 0 then max (v + (n : Int)) 0 else min v (n : Int)) = (((if v < 0 then (v + (n : Int)).toNat else min v.toNat n) : Nat) : Int)
 by_cases hv : v < 0
 ·simp only [if_pos hv]; omega
 ·simp only [if_neg hv]; omega
theorem Cq (lo hi : Option Int) (n : Nat) : Builtin.Slice.sliceAdjust lo hi 1 (n : Int) = (((sIx n 0 lo : Nat) : Int), ((sIx n n hi : Nat) : Int)) := by
 have h1 : ¬ ((1 : Int) < 0) := by omega
 unfold Builtin.Slice.sliceAdjust
 simp only [h1, if_false]
 refine Prod.ext ?_ ?_
 ·cases lo with
  | none => rfl
  | some v => exact Eo v n 0
 ·cases hi with
  | none => rfl
  | some v => exact Eo v n n
theorem BS (i j : Nat) : Builtin.Slice.slicePlaces (i : Int) (j : Int) 1 = j - i := by
 unfold Builtin.Slice.slicePlaces
 have h1 : (1 : Int) > 0 := by omega
 simp only [h1, if_true, Int.ediv_one]
 split <;> omega
theorem u9 {v : Value} {o : Option Int} {Q : Option Int -> Shared -> Prop} (p : IsPart v o) (h : Q o s) : wpAny 'i' A (Builtin.Slice.slicePartIndex v) Q E s := by
 cases p with
 | none => exact slicePart_none h
 | int i t => exact slicePart_int h
theorem qF {sl : Addr} {vl vu : Value} {lo hi : Option Int} {n : Nat} {Q : Int × Int × Nat -> Shared -> Prop} (hs : s.heap.IsSliceOf sl vl vu .none) (pl : IsPart vl lo) (pu : IsPart vu hi)
  (h : Q (((sIx n 0 lo : Nat) : Int), 1, sIx n n hi - sIx n 0 lo) s) : wpAny 'i' A (Builtin.Slice.sliceApplied (.ref sl) (pure (n : Int))) Q E s := by
 obtain ⟨os, hos, hcs, hds⟩ := id hs
 unfold Builtin.Slice.sliceApplied Builtin.Slice.sliceFields
 refine wpAny_bind (wpAny_bind (wpAny_field hos hds (x := vl) rfl (wpAny_bind (wpAny_field hos hds (x := vu) rfl (wpAny_bind (wpAny_field hos hds (x := .none) rfl (wpAny_pure ?_)))))))
 refine wpAny_bind (slicePart_none ?_)
 show wpAny _ _ (if ((1 : Int) == 0) = true then _ else _) _ _ s
 rw [if_neg (by decide)]
 refine wpAny_bind (u9 pl (wpAny_bind (u9 pu (wpAny_bind (wpAny_pure ?_)))))
 show wpAny _ _ (match Builtin.Slice.sliceAdjust lo hi 1 (n : Int) with | (lo, hi) => pure (lo, (1 : Int), Builtin.Slice.slicePlaces lo hi 1)) _ _ s
 rw [Cq lo hi n]
 show wpAny _ _ (pure (((sIx n 0 lo : Nat) : Int), (1 : Int), Builtin.Slice.slicePlaces ((sIx n 0 lo : Nat) : Int) ((sIx n n hi : Nat) : Int) 1)) _ _ s
 rw [BS]
 exact wpAny_pure h
theorem pick_gen (xs : Array Value) (i k : Nat) : ((List.range k).filterMap fun (m : Nat) => xs[((i : Int) + (m : Int) * 1).toNat]?).toArray = ((xs.toList.drop i).take k).toArray := by
 have e : (fun (m : Nat) => xs[((i : Int) + (m : Int) * 1).toNat]?) = fun m => xs[i + m]? := by
  funext m
  have : ((i : Int) + (m : Int) * 1).toNat = i + m := by omega
  rw [this]
 rw [e]
 have := pick_run xs i k
 rw [List.filterMap_map] at this
 have e2 : ((fun x => xs[x]?) ∘ fun x => i + x) = fun m => xs[i + m]? := rfl
 rw [e2] at this
 rw [this]
theorem pR {t sl : Addr} {items : Array Value} {vl vu : Value} {lo hi : Option Int} {Q : Value -> Shared -> Prop} (ht : IsTup s.heap t items) (hs : s.heap.IsSliceOf sl vl vu .none) (pl : IsPart vl lo) (pu : IsPart vu hi)
  (hw : ¬ (sIx items.size 0 lo = 0 /\ sIx items.size items.size hi = items.size))
  (h : Q (.ref s.heap.objs.size) { s with heap := s.heap.push { cls := .type "tuple", data := .seq ((items.toList.drop (sIx items.size 0 lo)).take (sIx items.size items.size hi - sIx items.size 0 lo)).toArray } })
  (hsz : items.size <= sizeLine) : wpAny 'i' A (getItem (.ref t) (.ref sl)) Q E s := by
 have htake : sizeOk (.seq ((items.toList.drop (sIx items.size 0 lo)).take (sIx items.size items.size hi - sIx items.size 0 lo)).toArray) := by
  show ((items.toList.drop (sIx items.size 0 lo)).take (sIx items.size items.size hi - sIx items.size 0 lo)).toArray.size <= sizeLine
  rw [List.size_toArray, List.length_take, List.length_drop, Array.length_toList]
  omega
 have hj : sIx items.size items.size hi <= items.size := sIx_le _ _ 'n' hi
 obtain ⟨os, hos, hcs, hds⟩ := id hs
 have hTs : s.TypeIs (.ref sl) "slice" := ⟨os, hos, hcs⟩
 unfold getItem
 try with_reducible refine wpAny_holding ?_
 first | refine wpAny_bind (wpAny_pure ?_) | skip
 refine wpAny_bind (wpAny_sequenceKey ht.typeIs (by decide) ?_)
 refine wpAny_bind (wpAny_callSpecial?_slot (name := Str.ofString "__getitem__") ht.typeIs PyProof.Rows.slot_tuple_getitem
  (wpAny_call_entry PyProof.Rows.slot_tuple_getitem ht.typeIs entry_tuple_getitem ?_ (args_tuple_getitem _ _)))
 show wpAny _ _ (Builtin.Tuple.tupleItemsOf (.ref t) >>= _) _ _ s
 refine wpAny_bind (tupleItemsOf_ ht ?_)
 refine wpAny_bind (wpAny_typeOf hTs ?_)
 rw [if_pos (by decide)]
 refine wpAny_bind (qF hs pl pu ?_)
 have hno : ¬ ((((sIx items.size 0 lo : Nat) : Int) == 0 && (1 : Int) == 1 && (sIx items.size items.size hi - sIx items.size 0 lo) == items.size) = true) := by
  intro q
  rw [Bool.and_eq_true, Bool.and_eq_true] at q
  have q1 : ((sIx items.size 0 lo : Nat) : Int) = 0 := eq_of_beq q.1.1
  have q2 : sIx items.size items.size hi - sIx items.size 0 lo = items.size := eq_of_beq q.2
  exact hw ⟨by omega, by omega⟩
 show wpAny _ _ (if (((sIx items.size 0 lo : Nat) : Int) == 0 && (1 : Int) == 1 && (sIx items.size items.size hi - sIx items.size 0 lo) == items.size) = true then _ else _) _ _ s
 rw [if_neg hno, pick_gen]
 first
  | exact wpAny_bind (m := Builtin.Tuple.tupleExact _) (wpAny_newObj_type (wpAny_pure ⟨_, rfl, wpAny_pure h⟩) htake)
  | exact wpAny_bind (m := Builtin.Tuple.tupleExact _) (wpAny_newObj_type (wpAny_bind (wpAny_pure (wpAny_pure ⟨_, rfl, wpAny_pure h⟩))) htake)
  | exact wpAny_bind (wpAny_bind (m := Builtin.Tuple.tupleExact _) (wpAny_newObj_type (wpAny_pure (wpAny_pure ⟨_, rfl, wpAny_pure h⟩)) htake))
  | exact wpAny_bind (wpAny_bind (m := Builtin.Tuple.tupleExact _) (wpAny_newObj_type (wpAny_pure ⟨_, rfl, wpAny_pure h⟩) htake))
end
end HT
namespace L2
open PySem PySem.Spec PyProof.Rows
noncomputable abbrev TO := St -> Hp -> (Option Int -> Hp -> Prop) -> Prop
noncomputable def PO (X : Cx) (e : Option Expr) (t : TO) : Prop :=
 ∀ (pins : List 'a') (s : Shared) (σ : St) (H : Hp) (Q : Option Int -> Hp -> Prop), Inv X pins σ H s -> t σ H Q ->
  wpAny 'b' X.A (evalPart e X.env) (fun u s' => ∃ o H', Inv X pins σ H' s' /\ IsPart u o /\ Q o H') X.xe s
noncomputable def tNoPart : TO := fun _ H Q => Q none H
noncomputable def tPart (t : TE) : TO := fun σ H Q => t σ H fun x H1 => ∃ i, x = .int i /\ Q (some i) H1
theorem intsAre_of {ns : List Int} : ∀ {us : List Value}, Vals (ns.map V.int) us -> IntsAre us ns := by
 induction ns with
 | nil => intro us r; rw [List.map_nil] at r; cases r; exact .nil
 | cons n ns ih =>
  intro us r
  rw [List.map_cons] at r
  cases r with
  | cons r1 r2 =>
   obtain ⟨t, e⟩ := r1
   subst e
   exact .cons n t (ih r2)
section
variable {X : Cx} {e : Expr} {te : TE} {lo hi : Option Expr} {tl th : TO} {pos p2 : Pos}
theorem po_none : PO X none tNoPart := by
 intro pins s σ H Q I h
 rw [evalPart_none]
 exact wpAny_pure ⟨none, H, I, .none, h⟩
theorem po_some (h : PE X e te) : PO X (some e) (tPart te) := by
 intro pins s σ H Q I hw
 rw [evalPart_some]
 refine thn (h pins s σ H _ I hw) fun u s1 ⟨x, H1, I1, r1, q1⟩ => ?_
 obtain ⟨i, rfl, q⟩ := q1
 obtain ⟨t, rfl⟩ := r1
 exact ⟨some i, H1, I1, .int i t, q⟩
noncomputable def SlR (X : Cx) (r : V -> Option Int -> Option Int -> Hp -> VK -> Prop) : Prop :=
 ∀ (pins : List 'a') (s : Shared) (σ : St) (H : Hp) (x : V) (v vl vu : Value) (lo hi : Option Int) (sl : Addr) (Q : VK), Inv X pins σ H s -> RelV x v -> s.heap.IsSliceOf sl vl vu .none -> IsPart vl lo -> IsPart vu hi -> r x lo hi H Q ->
  ∃ T id, typeLookup (.type T) "__getitem__" = pure (some (.builtin id)) /\ s.TypeIs v T /\ wpAny 'b' X.A (getItem v (.ref sl)) (EP X pins σ Q) X.xe s
theorem SlR.or {r r' : V -> Option Int -> Option Int -> Hp -> VK -> Prop} (h : SlR X r) (h' : SlR X r') : SlR X (fun x lo hi H Q => r x lo hi H Q \/ r' x lo hi H Q) := by
 intro pins s σ H x v vl vu lo hi sl Q I rx hs pl pu q
 rcases q with q | q
 ·exact h pins s σ H x v vl vu lo hi sl Q I rx hs pl pu q
 ·exact h' pins s σ H x v vl vu lo hi sl Q I rx hs pl pu q
noncomputable def tSl (r : V -> Option Int -> Option Int -> Hp -> VK -> Prop) (te : TE) (tl th : TO) : TE := fun σ H Q => te σ H fun x H1 => tl σ H1 fun l H2 => th σ H2 fun u H3 => r x l u H3 Q
theorem pe_slice {r : V -> Option Int -> Option Int -> Hp -> VK -> Prop} (hr : SlR X r) (he : PE X e te) (hl : PO X lo tl) (hu : PO X hi th) : PE X (.Subscript e (.Slice lo hi none p2) pos) (tSl r te tl th) := by
 intro pins s σ H Q I h
 refine Subscript_ (thn (he pins s σ H _ I h) fun v s1 ⟨x, H1, I1, r1, q1⟩ => ?_)
 refine wpAny_Slice (thn (hl pins s1 σ H1 _ I1 q1) fun vl s2 ⟨l, H2, I2, pl, q2⟩ => thn (hu pins s2 σ H2 _ I2 q2) fun vu s3 ⟨u, H3, I3, pu, q3⟩ => ?_)
 rw [evalPart_none]
 refine wpAny_pure ?_
 have I4 : Inv X pins σ H3 { s3 with heap := s3.heap.push { cls := .type "slice", data := .fields #[vl, vu, .none] } } := I3.kept (t' := s3.toks) fun b ob q => Heap.get?_push_of_some _ q
 obtain ⟨T, id, hT, ht, hg⟩ := hr pins { s3 with heap := s3.heap.push { cls := .type "slice", data := .fields #[vl, vu, .none] } } σ H3 x v vl vu l u s3.heap.objs.size Q I4 r1 (Heap.IsSliceOf.new ..) pl pu q3
 show wpAny 'b' X.A (subscriptTail e (.Slice lo hi none p2) v (.ref s3.heap.objs.size)) (EP X pins σ Q) X.xe { s3 with heap := s3.heap.push { cls := .type "slice", data := .fields #[vl, vu, .none] } }
 exact tail_any (ops := [.ref s3.heap.objs.size, v]) ht hT hg (by with_unfolding_all rfl)
noncomputable def cutV (xs : List V) (lo hi : Option Int) : List V := (xs.drop (HT.sIx xs.length 0 lo)).take (HT.sIx xs.length xs.length hi - HT.sIx xs.length 0 lo)
theorem sG (xs : List V) (lo hi : Option Int) : (cutV xs lo hi).length <= xs.length := by
 unfold cutV
 rw [List.length_take, List.length_drop]
 omega
noncomputable def rSlT (K : PySem.W.Frag) : V -> Option Int -> Option Int -> Hp -> VK -> Prop := fun x lo hi H Q => ∃ a xs, x = .ref a /\ SqT K H a xs /\
 ¬ (HT.sIx xs.length 0 lo = 0 /\ HT.sIx xs.length xs.length hi = xs.length) /\ ∀ p, H p = none -> Q (.ref p) (upd H p (.tup (cutV xs lo hi)))
theorem sl_tup : SlR X (rSlT X.K) := by
 intro pins s σ H x v vl vu lo hi sl Q I rx hs pl pu h
 obtain ⟨a, xs, rfl, hx, hw, q⟩ := h
 cases rx
 obtain ⟨its, r, ht, hz⟩ := I.tuple hx
 have hlen : its.toArray.size = xs.length := by rw [List.size_toArray]; exact r.length.symm
 refine ⟨"tuple", _, PyProof.Rows.slot_tuple_getitem.lookup, ht.typeIs, ?_⟩
 refine HT.pR ht hs pl pu (by rw [hlen]; exact hw) ?_ (by rw [hlen]; exact hz)
 rw [hlen]
 refine ⟨.ref s.heap.objs.size, _, I.laid (t' := s.toks) (o := .tup (cutV xs lo hi)) (fun b ob q => Heap.get?_push_of_some _ q) 'n' ?_, rfl, q _ (I.hok.fresh 'n')⟩
 exact ⟨Nat.le_trans (sG xs lo hi) hz, _, (r.drop (HT.sIx xs.length 0 lo)).take (HT.sIx xs.length xs.length hi - HT.sIx xs.length 0 lo), IsTup.new _ _⟩
noncomputable def rCatT (K : PySem.W.Frag) : R2 := fun x y H Q => ∃ a b xs ys, x = .ref a /\ y = .ref b /\ SqT K H a xs /\ SqT K H b ys /\ xs ≠ [] /\ xs.length + ys.length <= sizeLine /\
 (ys = [] -> Q (.ref a) H) /\ (ys ≠ [] -> ∀ p, H p = none -> Q (.ref p) (upd H p (.tup (xs ++ ys))))
theorem Vals.Ab {xs : List V} {us : List Value} (r : Vals xs us) : us = [] ↔ xs = [] := by
 cases r with
 | nil => simp
 | cons _ _ => simp
theorem op_catT : OpR X (binaryOp .Add) (rCatT X.K) := by
 intro pins s σ H x y v u Q I rx ry h
 obtain ⟨a, b, xs, ys, rfl, rfl, ha, hb, hx, hz, q1, q2⟩ := h
 cases rx
 cases ry
 obtain ⟨its, r1, p1, _⟩ := I.tuple ha
 obtain ⟨its2, r2, p2, _⟩ := I.tuple hb
 refine HT.cat_tup p1 p2 (fun z => hx (r1.Ab.mp z)) (fun z => ⟨.ref a, H, I, rfl, q1 (r2.Ab.mp z)⟩) (fun z => ?_) (by rw [<- r1.length, <- r2.length]; exact hz)
 refine ⟨.ref s.heap.objs.size, _, I.laid (t' := s.toks) (o := .tup (xs ++ ys)) (fun b ob q => Heap.get?_push_of_some _ q) 'n' ?_, rfl, q2 (fun w => z (r2.Ab.mpr w)) _ (I.hok.fresh 'n')⟩
 exact ⟨by rw [List.length_append]; exact hz, _, r1.append r2, IsTup.new _ _⟩
end
end L2
namespace L2
open PySem PySem.Spec PyProof.Rows
noncomputable def ixN (n : Nat) (i : Int) : Option Nat := if 0 <= i then (if i < n then some i.toNat else none) else if -(n : Int) <= i then some (i + n).toNat else none
noncomputable def atI {α : Type} (xs : List α) (i : Int) : Option α := (ixN xs.length i).bind fun j => xs[j]?
theorem Ag {n : Nat} {i : Int} {j : Nat} (h : ixN n i = some j) : seqIndex? i n = some j /\ j < n /\ -(n : Int) <= i /\ i < n := by
 unfold ixN at h
 by_cases h0 : 0 <= i
 ·rw [if_pos h0] at h
  by_cases h1 : i < n
  ·rw [if_pos h1] at h
   have e : i.toNat = j := Option.some.inj h
   exact ⟨by rw [seqIndex_of h0 h1, e], by omega, by omega, h1⟩
  ·rw [if_neg h1] at h; cases h
 ·rw [if_neg h0] at h
  by_cases h1 : -(n : Int) <= i
  ·rw [if_pos h1] at h
   have e : (i + n).toNat = j := Option.some.inj h
   exact ⟨by rw [seqIndex_neg (by omega) h1, e], by omega, h1, by omega⟩
  ·rw [if_neg h1] at h; cases h
theorem AR {α : Type} {xs : List α} {i : Int} {v : α} (h : atI xs i = some v) : ∃ j, seqIndex? i xs.length = some j /\ xs[j]? = some v /\ j < xs.length /\ -(xs.length : Int) <= i /\ i < xs.length := by
 unfold atI at h
 cases e : ixN xs.length i with
 | none => rw [e] at h; cases h
 | some j =>
  rw [e] at h
  obtain ⟨h1, h2, h3, h4⟩ := Ag e
  exact ⟨j, h1, h, h2, h3, h4⟩
noncomputable def EN (b : Expr) : Prop := ∀ o i, subscripted b false o i = operate [o, i] (getItem o i)
noncomputable def IxR (X : Cx) (r : R2) : Prop :=
 ∀ (value slice : Expr) (pins : List 'a') (s : Shared) (σ : St) (H : Hp) (x y : V) (v u : Value) (Q : VK), Inv X pins σ H s -> RelV x v -> RelV y u -> r x y H Q ->
  subscripted slice false v u = operate [v, u] (getItem v u) -> wpAny 'b' X.A (subscriptTail value slice v u) (EP X pins σ Q) X.xe s
noncomputable def MtR (X : Cx) (id : String) (r : V -> List V -> Hp -> VK -> Prop) : Prop :=
 ∀ (pins : List 'a') (s : Shared) (σ : St) (H : Hp) (x : V) (xs : List V) (v : Value) (us : List Value) (Q : VK), Inv X pins σ H s -> RelV x v -> Vals xs us -> r x xs H Q ->
  wpAny 'b' X.A (call (.builtin id) (v :: us)) (EP X pins σ Q) X.xe s
section
variable {X : Cx} {a b : Expr} {ta tb : TE} {pos : Pos}
theorem IxR.or {r r' : R2} (h : IxR X r) (h' : IxR X r') : IxR X (fun x y H Q => r x y H Q \/ r' x y H Q) := by
 intro value slice pins s σ H x y v u Q I rx ry q hs
 rcases q with q | q
 ·exact h value slice pins s σ H x y v u Q I rx ry q hs
 ·exact h' value slice pins s σ H x y v u Q I rx ry q hs
theorem pe_ix {r : R2} (hr : IxR X r) (ha : PE X a ta) (hb : PE X b tb) (hs : EN b) : PE X (.Subscript a b pos) (tOp r ta tb) := by
 intro pins s σ H Q I h
 exact Subscript_ (binT ha hb I h fun v u s2 x y H2 I2 rx ry q => hr a b pins s2 σ H2 x y v u Q I2 rx ry q (hs _ _))
noncomputable def rIxL (K : PySem.W.Frag) : R2 := fun x y H Q => ∃ p xs i v, x = .ref p /\ y = .int i /\ SqL K H p xs /\ atI xs i = some v /\ Q v H
noncomputable def rIxT (K : PySem.W.Frag) : R2 := fun x y H Q => ∃ p xs i v, x = .ref p /\ y = .int i /\ SqT K H p xs /\ atI xs i = some v /\ Q v H
noncomputable def rIxS : R2 := fun x y H Q => ∃ z i c, x = .str z /\ y = .int i /\ z.length <= sizeLine /\ atI z.cps.toList i = some c /\ Q (.str ⟨#[c]⟩) H
theorem ix_list : IxR X (rIxL X.K) := by
 intro value slice pins s σ H x y v u Q I rx ry h hs
 obtain ⟨p, xs, i, z, rfl, rfl, hq, he, q⟩ := h
 cases rx
 obtain ⟨t, rfl⟩ := ry
 obtain ⟨its, r, pl, hz⟩ := I.list hq
 obtain ⟨j, h1, h2, h3, h4, h5⟩ := AR he
 obtain ⟨w, ew, rw'⟩ := r.get h2
 have hl := r.length
 have hn := ug
 have fin : EP X pins σ Q w s := ⟨z, H, I, rw', q⟩
 by_cases h0 : 0 <= i
 ·have hj : i.toNat = j := by
   rw [seqIndex_of h0 h5] at h1
   exact Option.some.inj h1
  exact item_listR pl.isList h0 (by omega) (by rw [hj]; simpa using ew) fin hs
 ·have hj : (i + (its.toArray.size : Int)).toNat = j := by
   rw [seqIndex_neg (by omega) h4] at h1
   rw [List.size_toArray, <- hl]
   exact Option.some.inj h1
  exact subscriptTail_builtinR (x := w) pl.isList.typeIs slot_list_getitem.lookup
   (wpAny_getItem_list_neg (Q := fun r s' => r = w /\ EP X pins σ Q r s') pl.isList (by omega) (by rw [List.size_toArray] <;> omega) (by omega) (by rw [hj]; simpa using ew) ⟨rfl, fin⟩) hs
theorem ix_tup : IxR X (rIxT X.K) := by
 intro value slice pins s σ H x y v u Q I rx ry h hs
 obtain ⟨p, xs, i, z, rfl, rfl, hq, he, q⟩ := h
 cases rx
 obtain ⟨t, rfl⟩ := ry
 obtain ⟨its, r, pl, hz⟩ := I.tuple hq
 obtain ⟨j, h1, h2, h3, h4, h5⟩ := AR he
 obtain ⟨w, ew, rw'⟩ := r.get h2
 have hl := r.length
 have hn := ug
 have fin : EP X pins σ Q w s := ⟨z, H, I, rw', q⟩
 exact subscriptTail_builtinR (x := w) pl.typeIs slot_tuple_getitem.lookup
  (getItem_tuple (j := j) (Q := fun r s' => r = w /\ EP X pins σ Q r s') pl (by omega) (by omega) (by rw [List.size_toArray, <- hl]; exact h1) (by simpa using ew) ⟨rfl, fin⟩) hs
theorem ix_str : IxR X rIxS := by
 intro value slice pins s σ H x y v u Q I rx ry h hs
 obtain ⟨z, i, c, rfl, rfl, hz, he, q⟩ := h
 obtain ⟨t, rfl⟩ := rx
 obtain ⟨t', rfl⟩ := ry
 obtain ⟨j, h1, h2, h3, h4, h5⟩ := AR he
 have hl : z.cps.toList.length = z.length := by simp [Str.length]
 rw [hl] at h1 h4 h5
 have hn := ug
 exact tail_any (typeIs_str s z t) slot_str_getitem.lookup (getItem_str (c := c) (by
  have e1 : decide (i < -(2 ^ 63 : Int)) = false := decide_eq_false (by omega)
  have e2 : decide (i >= 2 ^ 63) = false := decide_eq_false (by omega)
  rw [e1, e2, Bool.or_false]) (by rw [h1]; simpa using h2) ⟨.str ⟨#[c]⟩, H, I.tok _, ⟨_, rfl⟩, q⟩) hs
noncomputable def rIx (K : PySem.W.Frag) : R2 := fun x y H Q => rIxL K x y H Q \/ rIxT K x y H Q \/ rIxS x y H Q
theorem ix_seq : IxR X (rIx X.K) := ix_list.or (ix_tup.or ix_str)
theorem BZ (its : List Value) (n j : Nat) (u : Value) : Obj.mapSeq (·.setIfInBounds j u) { cls := .type "list", data := .seq its.toArray n } = { cls := .type "list", data := .seq (its.set j u).toArray n } := by
 simp [Obj.mapSeq]
theorem Inv.lst {pins : List 'a'} {σ : St} {H : Hp} {s : Shared} {p : Addr} {xs : List V} (I : Inv X pins σ H s) (h : H p = some (.lst xs)) :
  ∃ (its : List Value) (n : Nat), Vals xs its /\ s.heap.get? p = some { cls := .type "list", data := .seq its.toArray n } /\ xs.length <= sizeLine := by
 obtain ⟨z, its, n, r, e⟩ := I.hok p _ h
 exact ⟨its, n, r, e, z⟩
theorem Inv.lstUpd {pins : List 'a'} {σ : St} {H : Hp} {s : Shared} {p : Addr} {xs ys : List V} {its its' : List Value} {n n' : Nat} {f : Obj -> Obj} (I : Inv X pins σ H s) (h : H p = some (.lst xs))
  (ho : s.heap.get? p = some { cls := .type "list", data := .seq its.toArray n }) (hf : f { cls := .type "list", data := .seq its.toArray n } = { cls := .type "list", data := .seq its'.toArray n' }) (r : Vals ys its') (hz : ys.length <= sizeLine) (t : Nat) :
  Inv X pins σ (upd H p (.lst ys)) { s with heap := s.heap.update p f, toks := t } := by
 have e : (s.heap.update p f).get? p = some { cls := .type "list", data := .seq its'.toArray n' } := by
  rw [Heap.get?_update_self f ho (by rw [hf] <;> rfl), hf]
 refine I.write (x := p) (e := p) (by rw [h]; trivial) (.inl rfl) (fun b u hb q => (Heap.get?_update_other _ _ (Ne.symm hb)).trans q) ⟨_, e⟩ ?_
 exact ⟨hz, its', n', r, e⟩
noncomputable def rSetL : V -> V -> V -> Hp -> (Hp -> Prop) -> Prop := fun o i v H Q => ∃ p xs k j, o = .ref p /\ i = .int k /\ H p = some (.lst xs) /\ ixN xs.length k = some j /\ Q (upd H p (.lst (xs.set j v)))
theorem set_list : PSet X rSetL := by
 intro pins s σ H o i v ov iv u Q I ro ri rv h
 obtain ⟨p, xs, k, j, rfl, rfl, hp, hj, q⟩ := h
 cases ro
 obtain ⟨t, rfl⟩ := ri
 obtain ⟨its, n, r, ho, hz⟩ := I.lst hp
 obtain ⟨h1, h2, h3, h4⟩ := Ag hj
 have hl := r.length
 have hn := ug
 have I' : Inv X pins σ (upd H p (.lst (xs.set j v))) { s with heap := s.heap.update p (Obj.mapSeq (·.setIfInBounds j u)) } :=
  I.lstUpd hp ho (BZ its n j u) (r.set rv j) (by rw [List.length_set]; exact hz) s.toks
 by_cases h0 : 0 <= k
 ·have hk : k.toNat = j := by
   rw [seqIndex_of h0 h4] at h1
   exact Option.some.inj h1
  exact PySem.W.ki_setAt ho h0 (by omega) (by rw [List.size_toArray, <- hl]; exact h4) (by rw [hk]; exact ⟨_, I', q⟩)
 ·have hk : (k + (its.toArray.size : Int)).toNat = j := by
   rw [seqIndex_neg (by omega) h3] at h1
   rw [List.size_toArray, <- hl]
   exact Option.some.inj h1
  exact PySem.W.ki_setBack ho (by omega) (by rw [List.size_toArray, <- hl]; exact h3) (by omega) (by rw [hk]; exact ⟨_, I', q⟩)
theorem xw (lo hi : Option Int) (n : Nat) : (sliceBounds lo hi none n).1 = ((HT.sIx n 0 lo : Nat) : Int) /\ (sliceBounds lo hi none n).2.1 = ((HT.sIx n n hi : Nat) : Int) /\ (sliceBounds lo hi none n).2.2 = 1 := by
 refine ⟨?_, ?_, rfl⟩
 ·cases lo with
  | none => simp [sliceBounds, HT.sIx]
  | some i =>
   simp only [sliceBounds, HT.sIx, Option.getD_none, show (1 : Int) > 0 by decide, if_true]
   by_cases h : i < 0
   ·simp only [h, if_true] <;> omega
   ·simp only [h, if_false] <;> omega
 ·cases hi with
  | none => simp [sliceBounds, HT.sIx]
  | some i =>
   simp only [sliceBounds, HT.sIx, Option.getD_none, show (1 : Int) > 0 by decide, if_true]
   by_cases h : i < 0
   ·simp only [h, if_true] <;> omega
   ·simp only [h, if_false] <;> omega
theorem uS (its : List Value) (lo hi : Option Int) : slicePick its.toArray lo hi none = ((its.drop (HT.sIx its.length 0 lo)).take (HT.sIx its.length its.length hi - HT.sIx its.length 0 lo)).toArray := by
 obtain ⟨h1, h2, h3⟩ := xw lo hi its.toArray.size
 unfold slicePick
 rw [h1, h2, h3]
 simp only [sliceRange_one, pick_run, List.size_toArray] <;> rfl
noncomputable def rSlL (K : PySem.W.Frag) : V -> Option Int -> Option Int -> Hp -> VK -> Prop := fun x lo hi H Q => ∃ a xs, x = .ref a /\ SqL K H a xs /\ ∀ p, H p = none -> Q (.ref p) (upd H p (.lst (cutV xs lo hi)))
theorem sl_list : SlR X (rSlL X.K) := by
 intro pins s σ H x v vl vu lo hi sl Q I rx hs pl pu h
 obtain ⟨a, xs, rfl, hx, q⟩ := h
 cases rx
 obtain ⟨its, r, ht, hz⟩ := I.list hx
 have hlen := r.length
 refine ⟨"list", _, slot_list_getitem.lookup, ht.isList.typeIs, ?_⟩
 refine wpAny_getItem_list_slice ht.isList hs pl pu .none (by simp) ?_ (by rw [List.size_toArray] <;> omega)
 rw [uS, <- hlen]
 refine ⟨.ref s.heap.objs.size, _, I.laid (t' := s.toks) (o := .lst (cutV xs lo hi)) (fun b ob q => Heap.get?_push_of_some _ q) 'n' ?_, rfl, q _ (I.hok.fresh 'n')⟩
 exact ⟨Nat.le_trans (sG xs lo hi) hz, _, 0, (r.drop (HT.sIx xs.length 0 lo)).take (HT.sIx xs.length xs.length hi - HT.sIx xs.length 0 lo), Heap.get?_push_size _ rfl⟩
noncomputable def flatV : V -> Bool
 | .non => true
 | .bl _ => true
 | .int _ => true
 | .str _ => true
 | _ => false
noncomputable def eqV : V -> V -> Bool
 | .non, .non => true
 | .bl a, .bl b => a == b
 | .bl a, .int b => (if a then 1 else 0) == b
 | .int a, .bl b => a == (if b then 1 else 0)
 | .int a, .int b => a == b
 | .str a, .str b => a == b
 | _, _ => false
theorem mE : gL X (.builtin "len") (fun xs H Q => ∃ p ys, xs = [.ref p] /\ (SqL X.K H p ys \/ SqT X.K H p ys) /\ Q (.int ys.length) H) := by
 intro pins s σ H xs us Q I r h
 obtain ⟨p, ys, rfl, hq, q⟩ := h
 obtain ⟨u, rfl, rx⟩ := vals1 r
 cases rx
 have hn := ug
 rcases hq with hq | hq
 ·obtain ⟨its, r', pl, hz⟩ := I.list hq
  have hlen := r'.length
  exact Calls.call_len_list pl.isList (by simp only [List.size_toArray] <;> omega) ⟨.int ys.length, H, I.tok _, ⟨s.toks + 1, by rw [List.size_toArray, hlen]⟩, q⟩
 ·obtain ⟨its, r', pl, hz⟩ := I.tuple hq
  have hlen := r'.length
  exact len_tuple pl (by simp only [List.size_toArray] <;> omega) ⟨.int ys.length, H, I.tok _, ⟨s.toks + 1, by rw [List.size_toArray, hlen]⟩, q⟩
theorem gL.or {f : Value} {r r' : List V -> Hp -> VK -> Prop} (h : gL X f r) (h' : gL X f r') : gL X f (fun xs H Q => r xs H Q \/ r' xs H Q) := by
 intro pins s σ H xs us Q I rs q
 rcases q with q | q
 ·exact h pins s σ H xs us Q I rs q
 ·exact h' pins s σ H xs us Q I rs q
theorem zg : gL X 'L' (fun xs H Q => ∃ p ys, xs = [.ref p] /\ (SqL X.K H p ys \/ SqT X.K H p ys) /\ ∀ l, H l = none -> Q (.ref l) (upd H l (.lst ys))) := by
 intro pins s σ H xs us Q I r h
 obtain ⟨p, ys, rfl, hq, q⟩ := h
 obtain ⟨u, rfl, rx⟩ := vals1 r
 cases rx
 have fin : ∀ (its : List Value), Vals ys its -> ys.length <= sizeLine -> ∀ (h' : Heap) (c' : Nat), (∀ b o', s.heap.get? b = some o' -> h'.get? b = some o') ->
   h'.get? s.heap.objs.size = some { cls := .type "list", dict := none, data := .seq its.toArray c', slots := #[] } -> EP X pins σ Q (.ref s.heap.objs.size) { s with heap := h' } := fun its r' hz h' c' kp e =>
  ⟨.ref s.heap.objs.size, _, I.laid (t' := s.toks) kp 'n' (show gu X.prog X.w _ h' _ (.lst ys) from ⟨hz, its, c', r', e⟩), rfl, q _ (I.hok.fresh 'n')⟩
 rcases hq with hq | hq
 ·obtain ⟨its, r', pl, hz⟩ := I.list hq
  have hlen := r'.length
  obtain ⟨o, ho, hc, n, hd⟩ := pl.isList
  exact call_list_seq p (.inl rfl) ho hc hd (fun h' c' kp e => fin its r' hz h' c' kp e) (by simp only [List.size_toArray] <;> omega)
 ·obtain ⟨its, r', pl, hz⟩ := I.tuple hq
  have hlen := r'.length
  obtain ⟨o, ho, hc, n, hd⟩ := pl
  exact call_list_seq p (.inr rfl) ho hc hd (fun h' c' kp e => fin its r' hz h' c' kp e) (by simp only [List.size_toArray] <;> omega)
noncomputable def tyV (K : PySem.W.Frag) (T : String) (x : V) (H : Hp) : Prop := match x with
 | .str _ => T = "str"
 | .int _ => T = "int"
 | .ref p => (T = "list" /\ ∃ xs, SqL K H p xs) \/ (T = "tuple" /\ ∃ o, K.lookup p = some o /\ o.cls = .type "tuple" /\ o.dict = none) \/
   (T = "dict" /\ ((∃ kvs, H p = some (.dK kvs)) \/ ∃ kvs, H p = some (.dT kvs))) \/ (T = "set" /\ ∃ S n, H p = some (.set S n))
 | _ => False
theorem tyV_is {pins : List 'a'} {σ : St} {H : Hp} {s : Shared} {T : String} {x : V} {v : Value} (I : Inv X pins σ H s) (r : RelV x v) (ty : tyV X.K T x H) :
  s.TypeIs v T /\ ∀ a, v = .ref a -> ∃ ob, s.heap.get? a = some ob /\ ob.dict = none := by
 cases x with
 | str z =>
  obtain ⟨t, rfl⟩ := r
  cases (show T = "str" from ty)
  exact ⟨typeIs_str s z t, fun _ e => nomatch e⟩
 | int i =>
  obtain ⟨t, rfl⟩ := r
  cases (show T = "int" from ty)
  exact ⟨typeIs_int s i t, fun _ e => nomatch e⟩
 | ref p =>
  cases r
  rcases ty with ⟨rfl, xs, hq⟩ | ⟨rfl, o, hk, hc, hd⟩ | ⟨rfl, hk⟩ | ⟨rfl, S, n, hk⟩
  ·obtain ⟨its, _, pl, _⟩ := I.list hq
   refine ⟨pl.isList.typeIs, fun a e => ?_⟩
   cases e
   obtain ⟨o, n, e, c, hd, _⟩ := pl
   exact ⟨o, e, hd⟩
  ·refine ⟨⟨o, I.kIn p o hk, hc⟩, fun a e => ?_⟩
   cases e
   exact ⟨o, I.kIn _ o hk, hd⟩
  ·have z : ∃ o, s.heap.get? p = some o /\ o.ExactDict := by
    rcases hk with ⟨kvs, hk⟩ | ⟨kvs, hk⟩
    ·obtain ⟨_, _, _, _, o, _, _, e, ex, _⟩ := I.hok p _ hk
     exact ⟨o, e, ex⟩
    ·obtain ⟨_, _, _, _, o, _, _, e, ex, _⟩ := I.hok p _ hk
     exact ⟨o, e, ex⟩
   obtain ⟨o, e, ex⟩ := z
   refine ⟨⟨o, e, ex.1⟩, fun a e2 => ?_⟩
   cases e2
   exact ⟨o, e, ex.2.1⟩
  ·obtain ⟨o, _, _, _, e, ex, _⟩ := I.hok p _ hk
   refine ⟨⟨o, e, ex.1⟩, fun a e2 => ?_⟩
   cases e2
   exact ⟨o, e, ex.2.1⟩
 | _ => exact False.elim ty
noncomputable def tBM (K : PySem.W.Frag) (T : String) (r : V -> List V -> Hp -> VK -> Prop) (to : TE) (t : TA) : TE := fun σ H Q => to σ H fun x H1 => tyV K T x H1 /\ t σ H1 fun xs H2 => r x xs H2 Q
variable {o e : Expr} {es : List Expr} {to : TE} {t : TA} {name : Str} {apos cpos : Pos} {T id : String} {r : V -> List V -> Hp -> VK -> Prop}
theorem pe_bm (pa : PlainAttrs T) (slot : Slot T name id) (hty : typeOf (.builtin id) = pure (.type "method_descriptor")) (hm : MtR X id r) (ho : PE X o to) (ha : PA X (e :: es) t)
  (hbase : attributeBase o name X.env (eval o X.env) = eval o X.env := by rfl)
  (hfew : ((backTo cpos (starEach (e :: es) X.env)).all (fun x => !x.1) && (backToKw cpos (keywordEach [] X.env)).all (fun x => x.1.isSome)
   && decide ((e :: es).length + ([] : List Keyword).length + (if ([] : List Keyword).isEmpty then 0 else 1) < 30)) = true := by rfl)
  (hline : (apos.endLine == cpos.line) = true := by rfl) (hs : starEach (e :: es) X.env = 'k' :: starEach es X.env := by rfl) (hplain : (backTo cpos (starEach es X.env)).any (·.1) = false := by rfl) :
  PE X (.Call (.Attribute o name apos) (e :: es) [] cpos) (tBM X.K T r to t) := by
 intro pins s σ H Q I h
 refine wpAny_Call_method_late hbase hfew hline rfl (thn (ho pins s σ H _ I h) fun v s1 ⟨x, H1, I1, r1, ty, q1⟩ => ?_)
 obtain ⟨h1, h2⟩ := tyV_is I1 r1 ty
 refine ⟨T, id, pa, slot, hty, h1, h2, ?_⟩
 have hA := ha cpos pins s1 σ H1 _ I1 q1
 rw [hs] at hA ⊢
 refine Calls.callWith_builtin (by show (false || (backTo cpos (starEach es X.env)).any (·.1)) = false; rw [hplain] <;> rfl) (Calls.evalArgs_plain ?_)
 exact thn hA fun us s2 ⟨vs, H2, I2, r2, q2⟩ => hm pins s2 σ H2 x vs v us Q I2 r1 r2 q2
/- xs.append(e), list.index on a module's tuple .. are MtR facts of 06m -/
end
end L2
namespace L2
open PySem PySem.Spec PyProof.Rows
noncomputable def MtM (X : Cx) (id : String) (r : V -> List V -> Hp -> VK -> Prop) : Prop :=
 ∀ (pins : List 'a') (s : Shared) (σ : St) (H : Hp) (x : V) (xs : List V) (v : Value) (us : List Value) (Q : VK), Inv X pins σ H s -> RelV x v -> Vals xs us -> r x xs H Q ->
  wpAny 'b' X.A (call (.builtin id) (v :: us)) (EP X pins σ Q) X.xe s
theorem Vals.one : ∀ {x : V} {us : List Value}, Vals [x] us -> ∃ u, us = [u] /\ RelV x u
 | _, _, .cons r .nil => ⟨_, rfl, r⟩
theorem Vals.two : ∀ {x y : V} {us : List Value}, Vals [x, y] us -> ∃ u v, us = [u, v] /\ RelV x u /\ RelV y v
 | _, _, _, .cons r (.cons q .nil) => ⟨_, _, rfl, r, q⟩
theorem Vals.zero : ∀ {us : List Value}, Vals [] us -> us = []
 | _, .nil => rfl
theorem Vals.eraseIdx : ∀ {xs : List V} {us : List Value} (i : Nat), Vals xs us -> Vals (xs.eraseIdx i) (us.eraseIdx i)
 | _, _, _, .nil => .nil
 | _, _, 0, .cons _ t => t
 | _, _, i + 1, .cons r t => .cons r (Vals.eraseIdx i t)
theorem yy {α : Type} : ∀ (l : List α) (i : Nat), (l.eraseIdx i).length <= l.length
 | [], _ => Nat.le_refl _
 | _ :: _, 0 => Nat.le_succ _
 | _ :: r, i + 1 => Nat.succ_le_succ (yy r i)
section
variable {X : Cx} {pins : List 'a'} {σ : St} {H : Hp} {s : Shared} {l b : Addr} {xs ys zs : List V}
theorem Inv.lset {its its' : List Value} {n : Nat} {f : Array Value -> Array Value} {t' : Nat} (I : Inv X pins σ H s) (hH : H l = some (.lst xs))
  (e : s.heap.get? l = some { cls := .type "list", data := .seq its.toArray n }) (hf : f its.toArray = its'.toArray) (hv : Vals ys its') (hz : ys.length <= sizeLine) :
  Inv X pins σ (upd H l (.lst ys)) { s with heap := s.heap.update l (Obj.mapSeq f), toks := t' } := by
 have q := PySem.IsL.update e f
 rw [hf] at q
 refine I.write (x := l) (e := l) (by rw [hH]; exact trivial) (.inl rfl) (fun b' u hb hu => (Heap.get?_update_other s.heap (Obj.mapSeq f) (Ne.symm hb)).trans hu) ⟨_, q⟩ ?_
 exact ⟨hz, its', _, hv, q⟩
theorem Inv.lnew {its : List Value} {t' : Nat} (I : Inv X pins σ H s) (hv : Vals ys its) (hz : ys.length <= sizeLine) :
  Inv X pins σ (upd H s.heap.objs.size (.lst ys)) { s with heap := s.heap.push { cls := .type "list", data := .seq its.toArray }, toks := t' } :=
 I.laid (fun _ _ q => Heap.get?_push_of_some _ q) 'n' ⟨hz, its, 0, hv, Heap.get?_push_size _ rfl⟩
theorem Inv.fresh (I : Inv X pins σ H s) : H s.heap.objs.size = none := I.hok.fresh 'n'
theorem Inv.lstM (I : Inv X pins σ H s) (hH : H l = some (.lst xs)) : xs.length <= sizeLine /\ ∃ (its : List Value) (n : Nat), Vals xs its /\ xs.length = its.length /\ s.heap.get? l = some { cls := .type "list", data := .seq its.toArray n } := by
 obtain ⟨z, its, n, r, e⟩ := I.hok l _ hH
 exact ⟨z, its, n, r, r.length, e⟩
end
section
variable {X : Cx}
noncomputable def CW : V -> List V -> Hp -> VK -> Prop := fun x vs H Q => ∃ l xs y, x = .ref l /\ vs = [y] /\ H l = some (.lst xs) /\ xs.length < sizeLine /\ Q .non (upd H l (.lst (xs ++ [y])))
theorem Dv : MtM X "list.append" CW := by
 intro pins s σ H x vs v us Q I rx rv h
 obtain ⟨l, xs, y, rfl, rfl, hH, hz, q⟩ := h
 cases rx
 obtain ⟨u, rfl, ru⟩ := rv.one
 obtain ⟨z, its, n, r, hl, e⟩ := I.lstM hH
 refine call_meets F.slot_list_append ⟨_, e, rfl⟩ F.entry_list_append (F.args_list_append_2 _ _) (PySem.list_append l its.toArray n u (by rw [List.size_toArray]; omega)) ⟨e, ?_⟩
 refine ⟨.non, _, I.lset (its' := its ++ [u]) hH e (by simp) (r.append (.cons ru .nil)) ?_, rfl, q⟩
 rw [List.length_append, List.length_singleton]
 omega
noncomputable def rPopAt : V -> List V -> Hp -> VK -> Prop := fun x vs H Q => ∃ l xs i k y, x = .ref l /\ vs = [.int i] /\ H l = some (.lst xs) /\ -(2 ^ 63) <= i /\ i < 2 ^ 63 /\ seqIndex? i xs.length = some k /\ xs[k]? = some y /\ Q y (upd H l (.lst (xs.eraseIdx k)))
theorem mt_popAt : MtM X "list.pop" rPopAt := by
 intro pins s σ H x vs v us Q I rx rv h
 obtain ⟨l, xs, i, k, y, rfl, rfl, hH, h1, h2, hk, hy, q⟩ := h
 cases rx
 obtain ⟨u, rfl, ru⟩ := rv.one
 obtain ⟨t, rfl⟩ := ru
 obtain ⟨z, its, n, r, hl, e⟩ := I.lstM hH
 obtain ⟨w, hw, rw'⟩ := r.get hy
 refine call_meets F.slot_list_pop ⟨_, e, rfl⟩ F.entry_list_pop (F.args_list_pop_2 _ _)
  (MeetsSeq.list_pop_at l its.toArray n i t k w (fitsIndex_both h1 h2) (by rw [List.size_toArray, <- hl]; exact hk) (by rw [<- Array.getElem?_toList]; exact hw) (by rw [List.size_toArray]; omega)) ⟨e, ?_⟩
 refine ⟨y, _, I.lset (its' := its.eraseIdx k) hH e ?_ (r.eraseIdx k) ?_, rw', q⟩
 ·show its.toArray.eraseIdxIfInBounds k = (its.eraseIdx k).toArray
  rw [List.eraseIdxIfInBounds_toArray]
 ·have := yy xs k
  omega
end
end L2
namespace Att
open PySem PySem.W PySem.Calls PyProof.Rows
theorem sk {P : Params} {h : Heap} : ∀ (ns : List Int) (vs : List Value), WellAll P h vs (ns.map WData.int) -> IntsAre vs ns := by
 intro ns
 induction ns with
 | nil =>
  intro vs w
  rw [List.map_nil] at w
  cases w
  exact .nil
 | cons n ns ih =>
  intro vs w
  rw [List.map_cons] at w
  cases w with
  | cons a b =>
   cases a
   exact .cons _ _ (ih _ b)
theorem CO {l : OpenLaw} {n : Nat} (hn : l.most = some n) {P : Params} {h : Heap} {args : List WData} {vals : List Value}
  (hpre : l.row.toRowW.claim.pre args = true) (hwl : WellAll P h vals args) :
  ∃ a vs ns, vals = [Value.ref a] /\ args = [WData.list (ns.map WData.int)] /\ h.get? a = some { cls := .type "list", data := .seq vs.toArray } /\ IntsAre vs ns /\ ns.length <= n := by
 have hsh : WShape.hasAll [] args [.list .int] = true := (pre_splitW hpre).1
 have hc : l.pre.holds [] { args := args } = true := (pre_splitW hpre).2
 obtain ⟨d, r, rfl, h1, h2⟩ := hasAllW_cons hsh
 obtain rfl := hasAllW_nil h2
 obtain ⟨xs, rfl, h3⟩ := hasW_list h1
 obtain ⟨ns, rfl⟩ := items_int h3
 have hlen : ns.length <= n := by
  unfold OpenLaw.pre at hc
  have h4 : (WTm.not (.lt (.lit (.int (n : Int))) (.len (.arg 0)))).holds [] { args := [.list (ns.map .int)] } = true := by
   have h4 := (holds_andW hc).1
   rw [hn] at h4
   exact h4
  have h5 := condW_of h4 (w_not (w_lt w_lit (w_len_list (w_arg rfl))))
  rw [List.length_map] at h5
  refine Nat.le_of_not_lt fun q => ?_
  have q' : (n : Int) < ((ns.length : Nat) : Int) := by omega
  first
   | (rw [decide_eq_true q'] at h5; exact absurd h5 (by decide))
   | (simp at h5; omega)
 cases hwl with
 | cons w1 w2 =>
  cases w2
  cases w1 with
  | list ho hall => exact ⟨_, _, ns, rfl, rfl, ho, sk ns _ hall, hlen⟩
theorem D6 (l : OpenLaw) (args : List WData) : l.row.toRowW.claim.post args (.bool true) args = true :=
 postW_of (r := l.row.toRowW) (X := (true == true))
  (show WShape.has [] (.bool true) .bool = true by first | rfl | decide | simp [WShape.has, WShape.arms, WShape.armsAll])
  (show (WTm.eq .res (.lit (.bool true))).value [] { args := args, res := some (.bool true), after := args } = some (.bool (true == true)) from w_eq_bool (w_res rfl) w_lit) rfl
theorem AQ {l : OpenLaw} {n : Nat} {q : Program} {loose : List Str} {XP : (Str -> Option Value) -> Heap -> Prop} {YP : World -> Heap -> Prop} {d : DefRec}
  (hn : l.most = some n) (hdf : d.params.defaults = [])
  (call : ∀ (w : World) (s₀ s₁ : Shared) (mg mb : Str -> Option Value) (fa : Addr) (o : Obj) (pm cd doc : Value) (a : Addr) (vs : List Value) (ns : List Int),
   Ground q loose [] XP w s₀ mg mb s₁.heap -> YP w s₁.heap ->
   s₁.heap.get? fa = some o -> o.data = .func (docDef d.name d.params d.body d.scope pm cd doc) -> s₁.heap.CodeRec cd d.name -> mg d.name = some (.ref fa) ->
   s₁.heap.get? a = some { cls := .type "list", data := .seq vs.toArray } -> IntsAre vs ns -> ns.length <= n -> s₁.gens = #[] ->
   codeAny (model l.prog w) callerA (.call (.ref fa) ⟨[.ref a], []⟩) (fun r s' => r = .ok (.ret (.bool true)) /\ OldK s₁.heap s'.heap /\ s'.os = s₁.os /\ AllBare s'.gens) s₁) :
  WalkO q loose XP YP l.row.toRowW d [] (fun f vs => PySem.call f vs) := by
 intro w s₀ s₁ mg mb G Y fa o pm cd doc dV kV ho hd hcd hD hmg hg args vals as hpre hlay hrd hwl hlo
 obtain rfl : dV = .none := Dflts.none hD hdf
 obtain rfl : kV = .none := Dflts.noKw hD
 obtain ⟨a, vs, ns, rfl, rfl, hobj, hints, hlen⟩ := CO hn hpre hwl
 refine enter_call (codeAny_mono (call w s₀ s₁ mg mb fa o pm cd doc a vs ns G Y ho (fd_plain hd) hcd hmg hobj hints hlen hg) fun r s' hq => ?_)
 obtain ⟨rfl, h2, h3, h4⟩ := hq
 exact ⟨.inl ⟨.bool true, .bool true, [], rfl, fun _ => rfl, .bool true, D6 l _, fun _ => ⟨List.Pairwise.nil, fun _ hm => (nomatch hm)⟩⟩, h2, h3, h4⟩
section
variable {prog : Program} {w : World} {A : Around} {E : Value -> Shared -> Prop} {s : Shared} {K : Frag}
theorem make_obj {R : Result -> Shared -> Prop} {C fI : Addr} {rest : List Value} {kw : List (Str × Value)}
  (X : K.In s.heap) (hm : makesIn K C = true) (hi : findIn K (.ref C) "__init__" = some (some (.ref fI))) (hf : isFn K (.ref fI) = true)
  (h : codeAny 'i' (A.under (.builtin "type.__call__" ⟨.ref C :: rest, kw⟩)) (.call (.ref fI) ⟨.ref 'w' :: rest, kw⟩) (InitBack 'w' R)
   { s with heap := (s.heap.push emptyDict).push (instObj C s.heap.objs.size) }) : codeAny 'i' A (.call (.ref C) ⟨rest, kw⟩) R s := by
 obtain ⟨hh, g, d, t, os⟩ := s
 exact make_core (makes_of X hm) (looks_findIn X hi) (fun self => bind_fn X self (beq_iff_eq.mp hf)) (.inl rfl) h
theorem get_field {x C : Addr} {ox : Obj} {es : List DictEntry} {n : Nat} {name : Str} {expr : Bool} {v : Value} {Q : Value -> Shared -> Prop}
  (X : K.In s.heap) (I : PySem.W.InstAt s.heap x ox C (some (dictOf es n))) (hg : plainGet K C name = true) (hh : hasDictIn K C = true) (ha : findIn K (.ref C) name = some none)
  (hl : getL name es = some (some v)) (hv : handedIn v = true) (h : Q v { s with toks := s.toks + 1 }) : wpAny 'i' A (getAttr (.ref x) name expr) Q E s :=
 get_value X I (plainGet_of hg).1 (findObj_own hh ha rfl hl) hv h
end
end Att
namespace L2
open PySem PySem.Spec PyProof.Rows
theorem xk : ∀ {vs : List Value} {ns : List Int}, IntsAre vs ns -> Vals (ns.map V.int) vs
 | _, _, .nil => .nil
 | _, _, .cons n t h => .cons ⟨t, rfl⟩ (xk h)
noncomputable def Only (H : Hp) : Prop := ∀ b, H b = none \/ ∃ o xs, H b = some (.frz o (.lst xs))
theorem law_call {P : Program} {w : World} {K : PySem.W.Frag} {mg mb : Str -> Option Value} {CX : CXT} {k : Nat} {fa a : Addr} {fd : FuncData} {x : Str} {sp : Sp} {s₁ : Shared} {vs : List Value} {ns : List Int}
  (KX : K.In s₁.heap) (hns : s₁.heap.Ns mainGlobals mg) (hb : s₁.heap.Ns builtinsNs mb) (hbb : ∀ x : Str, x ≠ "__name__" -> mb x = bootBuiltins x) (hlim : s₁.heap.NoLimit) (hg : s₁.gens = #[])
  (ha : s₁.heap.get? a = some { cls := .type "list", data := .seq vs.toArray }) (hi : IntsAre vs ns) (hl : ns.length <= sizeLine) (hr : kg k callerA)
  (F : ∀ base : Heap, K.In base -> base.Ns mainGlobals mg -> bx P w K mg base CX k fa fd [x] sp) (hbind : ∀ (s : Shared) (u : Value), BindsTo s fd ⟨[u], []⟩ [(x, u)])
  (hsp : ∀ H : Hp, Only H -> SqL K H a (ns.map V.int) -> sp [.ref a] H (fun v _ => v = .bl true) fun _ _ _ => False)
  (hCX : ∀ H e s', CX [] H s₁ (fun _ _ _ => False) e s' -> False) :
  codeAny (model P w) callerA (.call (.ref fa) ⟨[.ref a], []⟩) (fun r s' => r = .ok (.ret (.bool true)) /\ OldK s₁.heap s'.heap /\ s'.os = s₁.os /\ AllBare s'.gens) s₁ := by
 have rv := xk hi
 have lenV := hi.length
 have core : ∀ H : Hp, Only H -> SqL K H a (ns.map V.int) -> HOk P w H s₁.heap -> (∀ b, H b ≠ none -> b = a) -> (H a ≠ none -> K.lookup a = none) ->
   codeAny (model P w) callerA (.call (.ref fa) ⟨[.ref a], []⟩) (fun r s' => r = .ok (.ret (.bool true)) /\ OldK s₁.heap s'.heap /\ s'.os = s₁.os /\ AllBare s'.gens) s₁ := by
  intro H hO hS hok hA hK
  have base_of : ∀ {b : Addr} {o : Obj}, s₁.heap.get? b = some o -> H b = none -> (hidT s₁.heap H).get? b = some o := fun e n => hidT_get e n
  have noA : ∀ {b : Addr} {o : Obj} {es : Array DictEntry} {ep : Nat}, s₁.heap.get? b = some o -> o.data = .dict es ep -> H b = none := fun {b o es ep} e d => by
   cases q : H b with
   | none => rfl
   | some u =>
    have e' : b = a := hA b (by rw [q]; simp)
    subst e'
    rw [ha] at e; cases e
    have d' : Data.seq vs.toArray _ = Data.dict es ep := d
    cases d'
  have nsK : ∀ {b : Addr} {m : Str -> Option Value}, s₁.heap.Ns b m -> (hidT s₁.heap H).Ns b m := fun {b m} ⟨o, es, ep, e, d, r⟩ => ⟨o, es, ep, base_of e (noA e d), d, r⟩
  have hKb : K.In (hidT s₁.heap H) := fun b o e => base_of (KX b o e) (by
   cases q : H b with
   | none => rfl
   | some u =>
    have e' : b = a := hA b (by rw [q]; simp)
    subst e'
    rw [hK (by rw [q]; simp)] at e; cases e)
  have hM : Mod K mg (hidT s₁.heap H) := ⟨hKb, nsK hns, ⟨mb, nsK hb, hbb⟩, let ⟨mc, h1, h2⟩ := hlim; ⟨mc, nsK h1, h2⟩⟩
  have e0 : Env0 P w K mg (hidT s₁.heap H) callerA [] s₁ H := ⟨rfl, hM, fun b o e => of_hidT e, Nat.le_of_eq (DR _ _), trivial, fun b hb => absurd (show b ∈ ([] : List Addr) from hb) (by simp), hok, .of_eq hg⟩
  refine codeAny_mono ((F _ hKb (nsK hns)).run callerA [] s₁ H ⟨[.ref a], []⟩ [.ref a] [.ref a] _ _ hr e0 (hbind s₁ (.ref a)) (.cons rfl .nil) (hsp H hO hS)) fun r s' h => ?_
  cases r with
  | error e => exact (hCX H e s' h).elim
  | ok fl =>
   cases fl with
   | next => exact False.elim h
   | brk => exact False.elim h
   | cont => exact False.elim h
   | ret u =>
    obtain ⟨v, H', os, bare, un, hok', r', q⟩ := h
    have q' : v = .bl true := q
    subst q'
    obtain rfl : u = Value.bool true := r'
    refine ⟨rfl, OldK.of_keep fun b o e => ?_, os, bare⟩
    cases q : H b with
    | none => exact un.keep b o e q (by intro z; exact absurd (show b ∈ ([] : List Addr) from z) (by simp)) (by simp)
    | some u =>
     rcases hO b with z | ⟨ob, xs, z⟩
     ·rw [q] at z; cases z
     ·have z2 := un.frzs b ob _ z
      obtain ⟨e1, _⟩ := hok b _ z
      obtain ⟨e2, _⟩ := hok' b _ z2
      rw [e] at e1; cases e1
      exact e2
 cases hk : K.lookup a with
 | some o =>
  have e := KX a o hk
  rw [ha] at e
  cases e
  refine core (fun _ => none) (fun _ => .inl rfl) (.inr ⟨_, vs.toArray, _, hk, rfl, rfl, rfl, by rw [List.size_toArray, lenV]; exact hl, by simpa using rv⟩) (fun b u z => by have z' : (none : Option HO) = some u := z; cases z') (fun b z => absurd rfl z) fun z => absurd rfl z
 | none =>
  refine core (fun b => if b = a then some (.frz { cls := .type "list", data := .seq vs.toArray } (.lst (ns.map V.int))) else none) (fun b => ?_) (.inl (.inr ⟨{ cls := .type "list", data := .seq vs.toArray }, if_pos rfl⟩)) (fun b u z => ?_) (fun b z => ?_) fun _ => hk
  ·by_cases hb : b = a
   ·exact .inr ⟨_, _, if_pos hb⟩
   ·exact .inl (if_neg hb)
  ·by_cases hb : b = a
   ·have z' := (if_pos hb).symm.trans z
    cases z'
    subst hb
    exact ⟨ha, by rw [List.length_map]; exact hl, vs, _, rv, ha⟩
   ·have z' := (if_neg hb).symm.trans z
    cases z'
  ·by_cases hb : b = a
   ·exact hb
   ·exact absurd (if_neg hb) z
end L2
namespace L2
open PySem PySem.Spec PyProof.Rows
theorem walk_of {l : PySem.W.OpenLaw} {n k : Nat} {q : Program} {loose : List Str} {XP : (Str -> Option Value) -> Heap -> Prop} {YP : World -> Heap -> Prop} {d : DefRec} {K : Params -> PySem.W.Frag} {CX : World -> CXT} {sp : World -> Sp} {x : Str}
  (hn : l.most = some n) (hn2 : n <= sizeLine) (hdf : d.params.defaults = []) (hr : kg k callerA)
  (hY : ∀ (w : World) (h : Heap), YP w h -> (K w.params).In h)
  (F : ∀ (w : World) (mg : Str -> Option Value) (fa : Addr) (h : Heap), (K w.params).In h -> h.Ns mainGlobals mg -> mg d.name = some (.ref fa) ->
   ∃ fd : FuncData, (∀ (s : Shared) (u : Value), BindsTo s fd ⟨[u], []⟩ [(x, u)]) /\
    ∀ base : Heap, (K w.params).In base -> base.Ns mainGlobals mg -> bx l.prog w (K w.params) mg base (CX w) k fa fd [x] (sp w))
  (hsp : ∀ (w : World) (H : Hp) (a : Addr) (ns : List Int), ns.length <= n -> Only H -> SqL (K w.params) H a (ns.map V.int) -> sp w [.ref a] H (fun v _ => v = .bl true) fun _ _ _ => False)
  (hCX : ∀ (w : World) (H : Hp) (s : Shared) (e : Value) (s' : Shared), CX w [] H s (fun _ _ _ => False) e s' -> False) :
  PySem.W.WalkO q loose XP YP l.row.toRowW d [] (fun f vs => PySem.call f vs) := by
 refine Att.AQ hn hdf fun w s₀ s₁ mg mb fa o pm cd doc a vs ns G Y ho hd hcd hmg hobj hints hlen hg => ?_
 have KX := hY w _ Y
 obtain ⟨fd, hb, hF⟩ := F w mg fa _ KX G.T.g hmg
 exact law_call KX G.T.g G.T.b G.T.builtins G.T.nolimit hg hobj hints (Nat.le_trans hlen hn2) hr hF hb (fun H hO hS => hsp w H a ns hlen hO hS) fun H e s' => hCX w H s₁ e s'
end L2
namespace L2
open PySem PySem.Spec PyProof.Rows
noncomputable def inClass (s : Stmt) (j : Nat) : Stmt := match s with
 | .ClassDef _ _ _ body _ _ _ _ _ _ _ => body.getD j (.Pass ⟨0, 0, 0, 0⟩)
 | _ => .Pass ⟨0, 0, 0, 0⟩
noncomputable def aG (s : Stmt) : Arguments := match s with
 | .FunctionDef _ a _ _ _ _ _ _ _ _ => a
 | _ => { posonlyargs := [], args := [], vararg := none, kwonlyargs := [], kw_defaults := [], kwarg := none, defaults := [] }
noncomputable def aE (s : Stmt) : List Stmt := match s with
 | .FunctionDef _ _ b _ _ _ _ _ _ _ => b
 | _ => []
noncomputable def af (s : Stmt) : Scope := match s with
 | .FunctionDef _ _ _ _ _ _ sc _ _ _ => sc
 | _ => { kind := .function, names := [], isGenerator := false, isCoroutine := false }
noncomputable abbrev CX0 : CXT := fun _ _ _ _ _ _ => False
noncomputable abbrev E0 : XK := fun _ _ _ => False
theorem zX {X : Cx} : Passes CX0 X E0 := fun _ _ _ _ _ _ _ h => h.elim
structure Fun (K : PySem.W.Frag) (x qual : Str) (st : Stmt) (f : Addr) (fd : FuncData) : Prop where
 ex : ∃ (oc : Value) (od : Option Addr) (kV doc pm : Value) (an : Option Addr) (cdv ct : Value) (osl : Array (Option Value)),
  fd = PySem.W.fnOf x qual (aG st) (aE st) (af st) .none kV doc pm an cdv ct /\ K.lookup f = some ⟨oc, od, .func fd, osl⟩ /\ PySem.W.codeIn K cdv qual = true
 kp : PySem.W.keepIn K (.ref f) = true
section
variable {P : Program} {w : World} {K : PySem.W.Frag} {mg : Str -> Option Value} {base : Heap}
theorem Fun.binds {x qual : Str} {st : Stmt} {f : Addr} {fd : FuncData} {ps : List Str} (F : Fun K x qual st f fd)
  (h : ∀ (kV doc pm : Value) (an : Option Addr) (cdv ct : Value) (us : List Value), us.length = ps.length -> bindArgs 'D' ⟨us, []⟩ = pure (ps.zip us)) : Binds K fd ps [] := by
 obtain ⟨oc, od, kV, doc, pm, an, cdv, ct, osl, rfl, lk, hcd⟩ := F.ex
 exact .all (h kV doc pm an cdv ct)
theorem Bk {x qual : Str} {st : Stmt} {f : Addr} {oc : Value} {od an : Option Addr} {osl : Array (Option Value)} {kV doc pm cdv ct : Value} (l : K.lookup f = some ⟨oc, od, .func 'D', osl⟩)
  (c : PySem.W.codeIn K cdv qual = true) (k : PySem.W.keepIn K (.ref f) = true) : Fun K x qual st f 'D' := ⟨⟨oc, od, kV, doc, pm, an, cdv, ct, osl, rfl, l, c⟩, k⟩
end
section
variable {X : Cx}
theorem pv (i : Nat) {x : Str} {pos : Pos} (hN : X.N[i]? = some x := by rfl) (hv : Vis X.env.scope x := by first | exact Or.inl rfl | exact Or.inr (Or.inl rfl) | exact Or.inr (Or.inr rfl)) (hd : 'c' = false := by decide)
  (hcd : (x == ("__classdict__" : Str)) = false := by decide) : PE X (.Name x pos) (tVar i) := pe_var hN hv hd hcd
end
theorem iteF {A B : Prop} (h : B) : if false = true then A else B := by
 rw [if_neg Bool.false_ne_true]
 exact h
theorem iteNS {c A B : Prop} [Decidable c] (hc : c) (h : B) : if (!decide c) = true then A else B := by
 rw [decide_eq_true hc]
 exact iteF h
noncomputable def bj (H H' : Hp) : Prop := ∀ b o, H b = some o -> H' b = some o
theorem bj.refl (H : Hp) : bj H H := fun _ _ h => h
theorem bj.trans {H H1 H2 : Hp} (a : bj H H1) (b : bj H1 H2) : bj H H2 := fun c o h => b c o (a c o h)
theorem bj.free {H H' : Hp} (e : bj H H') {l : Addr} (h : H' l = Option.none) : H l = Option.none := by
 cases q : H l with
 | none => rfl
 | some o =>
  rw [e l o q] at h
  cases h
end L2
set_option maxHeartbeats 4000000
namespace L2
open PySem PySem.Spec PyProof.Rows
noncomputable def uB (cells : List (Str × Addr)) : List (Str × NameKind) -> List (Str × Addr) -> List (Str × Addr)
 | [], acc => acc
 | (x, k) :: r, acc => uB cells r (if (k == NameKind.free) = true then (x, (cells.lookup x).getD 0) :: acc else acc)
theorem gt_ne {a b c : Addr} (h1 : b < a) (h2 : a < c) : c ≠ b := by
 rintro rfl
 exact absurd (Nat.lt_trans h1 h2) (Nat.lt_irrefl _)
theorem C3 {a b : Addr} {n : Nat} (h1 : a < n) (h2 : n <= b) : a ≠ b := by
 rintro rfl
 exact absurd (Nat.lt_of_lt_of_le h1 h2) (Nat.lt_irrefl _)
theorem uA {cells : List (Str × Addr)} {x : Str} {c : Addr} : ∀ (ns : List (Str × NameKind)) (acc : List (Str × Addr)), (uB cells ns acc).lookup x = some c ->
  ((x, NameKind.free) ∈ ns /\ c = (cells.lookup x).getD 0) \/ acc.lookup x = some c
 | [], _, h => .inr h
 | (y, k) :: r, acc, h => by
  unfold uB at h
  rcases uA r _ h with ⟨m, e⟩ | q
  ·exact .inl ⟨List.mem_cons_of_mem _ m, e⟩
  ·by_cases hk : (k == NameKind.free) = true
   ·rw [if_pos hk, List.lookup_cons] at q
    cases hy : x == y with
    | true =>
     rw [hy] at q
     have e1 := eq_of_beq hy
     have e2 := eq_of_beq hk
     subst e1 e2
     exact .inl ⟨List.mem_cons_self, (Option.some.inj q).symm⟩
    | false => rw [hy] at q; exact .inr q
   ·rw [if_neg hk] at q; exact .inr q
theorem sO {cells : List (Str × Addr)} {x : Str} : ∀ (ns : List (Str × NameKind)) (acc : List (Str × Addr)), ((x, NameKind.free) ∈ ns \/ (acc.lookup x).isSome = true) -> ((uB cells ns acc).lookup x).isSome = true
 | [], _, h => h.elim 'C' id
 | (y, k) :: r, acc, h => by
  unfold uB
  refine sO r _ ?_
  rcases h with h | h
  ·rcases List.mem_cons.mp h with e | h
   ·cases e
    refine .inr ?_
    rw [if_pos (by decide), List.lookup_cons]
    simp
   ·exact .inl h
  ·refine .inr ?_
   by_cases hk : (k == NameKind.free) = true
   ·rw [if_pos hk, List.lookup_cons]
    cases hy : x == y with
    | true => rfl
    | false => exact h
   ·rw [if_neg hk]; exact h
theorem om {x : Str} {c : Addr} : ∀ (ns : List (Str × NameKind)) (n : Nat) (acc : List (Str × Addr)), (cellsFrom n ns acc).lookup x = some c -> (n <= c /\ (x, NameKind.cell) ∈ ns) \/ acc.lookup x = some c
 | [], _, _, h => .inr h
 | (y, k) :: r, n, acc, h => by
  unfold cellsFrom at h
  by_cases hk : (k == NameKind.cell) = true
  ·rw [if_pos hk] at h
   rcases om r (n + 1) _ h with ⟨a, m⟩ | q
   ·exact .inl ⟨by omega, List.mem_cons_of_mem _ m⟩
   ·rw [List.lookup_cons] at q
    cases hy : x == y with
    | true =>
     rw [hy] at q
     have e1 := eq_of_beq hy
     have e2 := eq_of_beq hk
     have e3 := Option.some.inj q
     subst e1 e2 e3
     exact .inl ⟨Nat.le_refl _, List.mem_cons_self⟩
    | false => rw [hy] at q; exact .inr q
  ·rw [if_neg hk] at h
   rcases om r n acc h with ⟨a, m⟩ | q
   ·exact .inl ⟨a, List.mem_cons_of_mem _ m⟩
   ·exact .inr q
theorem sP : ∀ (ns : List (Str × NameKind)) (n : Nat) (acc : List (Str × Addr)), (∀ x y c, acc.lookup x = some c -> acc.lookup y = some c -> x = y) -> (∀ x c, acc.lookup x = some c -> c < n) ->
  ∀ x y c, (cellsFrom n ns acc).lookup x = some c -> (cellsFrom n ns acc).lookup y = some c -> x = y
 | [], _, _, hi, _ => hi
 | (z, k) :: r, n, acc, hi, hl => by
  unfold cellsFrom
  by_cases hk : (k == NameKind.cell) = true
  ·rw [if_pos hk]
   refine sP r (n + 1) _ (fun x y c h1 h2 => ?_) (fun x c h1 => ?_)
   ·rw [List.lookup_cons] at h1 h2
    cases hx : x == z with
    | true =>
     rw [hx] at h1
     have e1 := Option.some.inj h1
     cases hy : y == z with
     | true => rw [eq_of_beq hx, eq_of_beq hy]
     | false =>
      rw [hy] at h2
      have h3 := hl y c h2
      rw [<- e1] at h3
      exact absurd h3 (Nat.lt_irrefl _)
    | false =>
     rw [hx] at h1
     cases hy : y == z with
     | true =>
      rw [hy] at h2
      have e2 := Option.some.inj h2
      have h3 := hl x c h1
      rw [<- e2] at h3
      exact absurd h3 (Nat.lt_irrefl _)
     | false =>
      rw [hy] at h2
      exact hi x y c h1 h2
   ·rw [List.lookup_cons] at h1
    cases hx : x == z with
    | true =>
     rw [hx] at h1
     have e1 := Option.some.inj h1
     rw [<- e1]
     exact Nat.lt_succ_self _
    | false =>
     rw [hx] at h1
     exact Nat.lt_succ_of_lt (hl x c h1)
  ·rw [if_neg hk]
   exact sP r n acc hi hl
theorem pD {x : Str} {c : Addr} : ∀ (ns : List (Str × NameKind)) (h : Heap) (acc : List (Str × Addr)), (cellsFrom h.objs.size ns acc).lookup x = some c ->
  acc.lookup x = some c \/ (h.objs.size <= c /\ (pushCells h ns).IsCell c none)
 | [], _, _, e => .inl e
 | (y, k) :: r, h, acc, e => by
  unfold cellsFrom at e
  unfold pushCells
  by_cases hk : (k == NameKind.cell) = true
  ·rw [if_pos hk] at e ⊢
   have q := pD (x := x) (c := c) r (h.push { cls := .type "cell", data := .cell none }) ((y, h.objs.size) :: acc) (by rw [Heap.size_push]; exact e)
   rcases q with q | ⟨q1, q2⟩
   ·rw [List.lookup_cons] at q
    cases hy : x == y with
    | true =>
     rw [hy] at q
     have e1 := Option.some.inj q
     subst e1
     exact .inr ⟨Nat.le_refl _, Heap.IsCell.keeps ⟨_, Heap.get?_push_size _ rfl, rfl⟩ (pushCells_keeps r _)⟩
    | false => rw [hy] at q; exact .inl q
   ·rw [Heap.size_push] at q1
    exact .inr ⟨by omega, q2⟩
  ·rw [if_neg hk] at e ⊢
   exact pD r h acc e
theorem pU {env : Env} (f : Str × NameKind -> List (Str × Addr) -> Sem (ForInStep (List (Str × Addr))))
  (hf : ∀ n k cs, f (n, k) cs = if (k == NameKind.free) = true then (do let a <- cellOf env n; pure (.yield ((n, a) :: cs))) else pure (.yield cs)) :
  ∀ (ns : List (Str × NameKind)) (acc : List (Str × Addr)), (∀ x ∈ ns, x.2 = NameKind.free -> ∃ c, env.cells.lookup x.1 = some c) -> forIn ns acc f = (pure (uB env.cells ns acc) : Sem _)
 | [], acc, _ => by rw [List.forIn_nil]; rfl
 | (y, k) :: r, acc, hc => by
  have hr : ∀ x ∈ r, x.2 = NameKind.free -> ∃ c, env.cells.lookup x.1 = some c := fun x hx => hc x (List.mem_cons_of_mem _ hx)
  rw [List.forIn_cons, hf]
  unfold uB
  by_cases hk : (k == NameKind.free) = true
  ·rw [if_pos hk, if_pos hk]
   obtain ⟨c, e⟩ := hc (y, k) List.mem_cons_self (eq_of_beq hk)
   have e' : env.cells.lookup y = some c := e
   have e2 : cellOf env y = pure c := by unfold cellOf; rw [e']
   rw [e2, e']
   exact pU f hf r _ hr
  ·rw [if_neg hk, if_neg hk]
   exact pU f hf r _ hr
theorem uz {scope : Scope} {env : Env} (hc : ∀ x ∈ scope.names, x.2 = NameKind.free -> ∃ c, env.cells.lookup x.1 = some c) : closureFor scope env = pure (uB env.cells scope.names []) := by
 simp only [closureFor]
 rw [pU (env := env) _ (fun n k cs => by cases h : (k == NameKind.free) <;> simp [h]) scope.names [] hc]
 rfl
theorem Du {M : Model} {A : Around} {E : Value -> Shared -> Prop} {s : Shared} {scope : Scope} {gl : Addr} {cl : List (Str × Addr)} {qual : Str} {around : Env} {Q : Env -> Shared -> Prop}
  (hQ : ∀ h1 : Heap, (∀ b o, s.heap.get? b = some o -> h1.get? b = some o) -> h1.Ns s.heap.objs.size (fun _ => none) ->
   (∀ x c, (cellsFrom 'w' scope.names cl).lookup x = some c -> cl.lookup x = some c \/ (s.heap.objs.size < c /\ h1.IsCell c none)) ->
   Q { scope := scope, locals := s.heap.objs.size, globals := gl, cells := cellsFrom 'w' scope.names cl, qual := qual, func := none, code := around.code, frame := around.frame, builtins := around.builtins } { s with heap := h1 }) :
  wpAny M A (newFunctionEnv scope gl cl [] qual none .none (some around)) Q E s := by
 simp only [newFunctionEnv, Option.isSome_some, if_true]
 refine wpAny_bind (wpAny_alloc ?_)
 refine wpAny_bind (wpAny_layCells _ (fun name kind cells => by cases hkc : kind == NameKind.cell <;> simp [hkc]) _ _ _ _ ?_)
 rw [show ({ s with heap := s.heap.push { cls := .type "dict", data := .dict #[] } } : Shared).heap.objs.size = s.heap.objs.size + 1 from Heap.size_push ..]
 rw [List.forIn_nil]
 refine wpAny_bind (wpAny_pure (wpAny_pure ?_))
 refine hQ _ (fun b o e => pushCells_keeps _ _ b o (Heap.get?_push_of_some _ e)) ((Heap.Ns.new s.heap (.type "dict")).keeps (pushCells_keeps _ _)) fun x c e => ?_
 have q := pD (x := x) (c := c) scope.names (s.heap.push { cls := .type "dict", data := .dict #[] }) cl (by rw [Heap.size_push]; exact e)
 rw [Heap.size_push] at q
 exact q.imp id fun ⟨a, b⟩ => ⟨by omega, b⟩
theorem ud {env : Env} {x : Str} : ∀ {ns : List (Str × NameKind)}, ns.lookup x = some .free ->
  's'.lookup x = some .cell \/
  's'.lookup x = some .free
 | [], h => by simp at h
 | (n, k) :: r, h => by
  have ih := @ud env x r
  rw [List.map_cons]
  dsimp only
  by_cases hc : (k == NameKind.free && env.scope.kind == .function && env.kindOf n == some .cell) = true
  ·rw [if_pos hc, List.lookup_cons]
   cases hx : x == n with
   | true => exact .inl rfl
   | false => rw [List.lookup_cons, hx] at h; exact ih h
  ·rw [if_neg hc, List.lookup_cons]
   cases hx : x == n with
   | true =>
    rw [List.lookup_cons, hx] at h
    have e := Option.some.inj h
    subst e
    exact .inr rfl
   | false => rw [List.lookup_cons, hx] at h; exact ih h
theorem ue {env : Env} {x : Str} : ∀ {ns : List (Str × NameKind)},
  ('s'.lookup x = some .cell \/
  's'.lookup x = some .free) ->
  ns.lookup x = some .cell \/ ns.lookup x = some .free
 | [], h => by simp at h
 | (n, k) :: r, h => by
  have ih := @ue env x r
  rw [List.map_cons] at h
  dsimp only at h
  by_cases hc : (k == NameKind.free && env.scope.kind == .function && env.kindOf n == some .cell) = true
  ·rw [if_pos hc, List.lookup_cons] at h
   rw [List.lookup_cons]
   cases hx : x == n with
   | true =>
    have : k = NameKind.free := by
     rw [Bool.and_eq_true, Bool.and_eq_true] at hc
     exact eq_of_beq hc.1.1
    subst this
    exact .inr rfl
   | false => rw [hx] at h; exact ih h
  ·rw [if_neg hc, List.lookup_cons] at h
   rw [List.lookup_cons]
   cases hx : x == n with
   | true => rw [hx] at h; exact h
   | false => rw [hx] at h; exact ih h
noncomputable def bF (X : Cx) (N' : List Str) (sc : Scope) (L : Addr) (cs : List (Str × Addr)) (s : Shared) (H : Hp) (fp : List Addr) : Cx :=
 { X with
  N := N', s₀ := s, H₀ := H, outer := X.stack, ex := fp, pn := [], xe := fun _ _ => False
  fn := fun x => !(sc.names.any fun p => p.1 == x && p.2 == NameKind.free)
  env := { scope := relabel sc X.env, locals := L, globals := X.env.globals, cells := cs, qual := X.env.qual, func := none, code := X.env.code, frame := X.env.frame, builtins := X.env.builtins } }
noncomputable def inS (ix : List (Option Nat)) (σ : St) : St := ix.map fun o => match o with
 | none => none
 | some j => (σ[j]?).join
noncomputable def cf (N : List Str) (osc : Scope) (N' : List Str) (sc : Scope) (ix : List (Option Nat)) : Bool :=
 decide (ix.length = N'.length) &&
 ((List.range ix.length).all fun i => match ix[i]? with
  | some (some j) => (match N'[i]?, N[j]? with
   | some x, some y => x == y && sc.names.lookup x == some NameKind.free
   | _, _ => false)
  | _ => true) &&
 (sc.names.all fun p => (p.2 != NameKind.free || (osc.names.lookup p.1 == some NameKind.cell || osc.names.lookup p.1 == some NameKind.free)) && (p.2 != NameKind.local || sc.names.lookup p.1 == some NameKind.local)) &&
 (sc.names.all fun p => sc.names.all fun q => !(p.1 == q.1) || p.2 == q.2)
section
variable {X : Cx} {pins : List 'a'} {σ : St} {H : Hp} {s : Shared} {N' : List Str} {sc : Scope} {ix : List (Option Nat)}
theorem cf.len (ok : cf X.N X.env.scope N' sc ix = true) : ix.length = N'.length := by
 unfold cf at ok
 rw [Bool.and_eq_true, Bool.and_eq_true, Bool.and_eq_true] at ok
 exact of_decide_eq_true ok.1.1.1
theorem cf.at (ok : cf X.N X.env.scope N' sc ix = true) {i j : Nat} {x : Str} (h : ix[i]? = some (some j)) (hx : N'[i]? = some x) : X.N[j]? = some x /\ sc.names.lookup x = some .free := by
 unfold cf at ok
 rw [Bool.and_eq_true, Bool.and_eq_true, Bool.and_eq_true] at ok
 have q := List.all_eq_true.mp ok.1.1.2 i (List.mem_range.mpr (List.getElem?_eq_some_iff.mp h).1)
 rw [h, hx] at q
 dsimp only at q
 cases e : X.N[j]? with
 | none => rw [e] at q; cases q
 | some y =>
  rw [e] at q
  dsimp only at q
  rw [Bool.and_eq_true] at q
  exact ⟨by rw [eq_of_beq q.1], eq_of_beq q.2⟩
theorem cf.fr (ok : cf X.N X.env.scope N' sc ix = true) {x : Str} (h : (x, NameKind.free) ∈ sc.names) : X.env.kindOf x = some .cell \/ X.env.kindOf x = some .free := by
 unfold cf at ok
 rw [Bool.and_eq_true, Bool.and_eq_true] at ok
 have q := List.all_eq_true.mp ok.1.2 _ h
 rw [Bool.and_eq_true] at q
 have q1 := q.1
 rw [Bool.or_eq_true] at q1
 rcases q1 with z | z
 ·exact absurd z (by simp)
 ·rw [Bool.or_eq_true] at z
  exact z.imp (fun e => eq_of_beq e) fun e => eq_of_beq e
theorem cf.loc (ok : cf X.N X.env.scope N' sc ix = true) : ∀ x ∈ sc.names, x.2 = NameKind.local -> sc.names.lookup x.1 = some .local := fun x hx e => by
 unfold cf at ok
 rw [Bool.and_eq_true, Bool.and_eq_true] at ok
 have q := List.all_eq_true.mp ok.1.2 _ hx
 rw [Bool.and_eq_true] at q
 have q1 := q.2
 rw [Bool.or_eq_true] at q1
 rcases q1 with z | z
 ·rw [e] at z; exact absurd z (by decide)
 ·exact eq_of_beq z
theorem cf.apart (ok : cf X.N X.env.scope N' sc ix = true) {x : Str} (h1 : (x, NameKind.cell) ∈ sc.names) (h2 : (x, NameKind.free) ∈ sc.names) : False := by
 unfold cf at ok
 rw [Bool.and_eq_true] at ok
 have q := List.all_eq_true.mp (List.all_eq_true.mp ok.2 _ h1) _ h2
 simp at q
theorem sM (I : Inv X pins σ H s) (ok : cf X.N X.env.scope N' sc ix = true) : ∀ x ∈ sc.names, x.2 = NameKind.free -> ∃ c, X.env.cells.lookup x.1 = some c := fun x hx e => by
 obtain ⟨n, k⟩ := x
 have e' : k = NameKind.free := e
 subst e'
 exact I.ok.has n (cf.fr ok hx)
theorem El (I : Inv X pins σ H s) (ok : cf X.N X.env.scope N' sc ix = true) {x : Str} {c : Addr} (h : 'O'.lookup x = some c) : (x, NameKind.free) ∈ sc.names /\ X.env.cells.lookup x = some c := by
 rcases uA _ _ h with ⟨m, e⟩ | z
 ·obtain ⟨d, hd⟩ := sM I ok _ m rfl
  have hd' : X.env.cells.lookup x = some d := hd
  rw [hd'] at e
  have e2 : c = d := e
  subst e2
  exact ⟨m, hd'⟩
 ·simp at z
theorem comp_inv {fp : List Addr} {L : Addr} {h1 : Heap} (I : Inv X pins σ H s) (hf : ∀ b ∈ fp, Ct X pins H b) (hb : ∀ b ∈ fp, ∃ o, s.heap.get? b = some o) (ok : cf X.N X.env.scope N' sc ix = true) (hk : sc.kind = .function) (hL : s.heap.objs.size <= L)
  (kp : ∀ b o, s.heap.get? b = some o -> h1.get? b = some o) (ns : h1.Ns L fun _ => none)
  (hc : ∀ x c, (cellsFrom (L + 1) sc.names 'O').lookup x = some c -> 'O'.lookup x = some c \/ (L < c /\ h1.IsCell c none)) :
  Inv (bF X N' sc L (cellsFrom (L + 1) sc.names 'O') s H fp) [] (inS ix σ) H { s with heap := h1 } := by
 have cc : ∀ x c, 'O'.lookup x = some c -> (x, NameKind.free) ∈ sc.names /\ X.env.cells.lookup x = some c /\ (∃ v, s.heap.IsCell c v) /\ c < s.heap.objs.size := fun x c e => by
  obtain ⟨m, e'⟩ := El I ok e
  obtain ⟨v, z⟩ := I.cell x c e'
  exact ⟨m, e', ⟨v, z⟩, z.lt⟩
 have fpl : ∀ b ∈ fp, b < s.heap.objs.size := fun b z => let ⟨o, e⟩ := hb b z; Heap.lt_size e
 have cne : ∀ b ∈ fp, ∀ x c, (cellsFrom (L + 1) sc.names 'O').lookup x = some c -> c ≠ b := fun b z x c e => by
  have hlt := fpl b z
  rcases hc x c e with q | ⟨q, _⟩
  ·exact (hf b z).2.2.2.2.1 x c (cc x c q).2.1
  ·exact gt_ne (Nat.lt_of_lt_of_le hlt hL) q
 have okk : (bF X N' sc L (cellsFrom (L + 1) sc.names 'O') s H fp).Ok := by
  refine ⟨I.ok.mod, hk, I.ok.glob, I.ok.blt, hL, ?_, ?_, ?_, I.ok.hd, I.ok.frames, .inl rfl, ?_, I.bs, Nat.le_trans I.ok.bsz I.sz, ?_, ?_, I.stack, I.CL⟩
  ·refine sP sc.names (L + 1) _ (fun x y c e1 e2 => I.ok.inj x y c (cc x c e1).2.1 (cc y c e2).2.1) fun x c e => ?_
   exact Nat.lt_succ_of_lt (Nat.lt_of_lt_of_le (cc x c e).2.2.2 hL)
  ·intro x hx
   have hx' := ue (env := X.env) (x := x) (ns := sc.names) hx
   have q : ((cellsFrom (L + 1) sc.names 'O').lookup x).isSome = true := by
    rcases hx' with z | z
    ·exact PySem.W.cellsFrom_some _ _ _ (.inl z)
    ·exact PySem.W.cellsFrom_some _ _ _ (.inr (sO _ _ (.inl (PySem.mem_of_lookup z))))
   exact Option.isSome_iff_exists.mp q
  ·intro x c hfn e
   show s.heap.objs.size <= c
   rcases hc x c e with q | ⟨q, _⟩
   ·have m := (cc x c q).1
    have hfn' : (!(sc.names.any fun p => p.1 == x && p.2 == NameKind.free)) = true := hfn
    have z : (sc.names.any fun p => p.1 == x && p.2 == NameKind.free) = true := List.any_eq_true.mpr ⟨_, m, by simp⟩
    rw [z] at hfn'
    cases hfn'
   ·exact Nat.le_trans hL (Nat.le_of_lt q)
  ·intro b z
   have hlt := fpl b z
   exact ⟨Nat.ne_of_lt (Nat.lt_of_lt_of_le hlt hL), cne b z⟩
  ·intro b o e z
   rcases (hf b z).2.2.2.1 with q | q
   ·exact I.ok.noex b o e q
   ·exact absurd (Nat.lt_of_lt_of_le (Heap.lt_size e) (Nat.le_trans I.ok.bsz q)) (Nat.lt_irrefl _)
  ·intro b z hs
   rcases List.mem_cons.mp (I.u7 b hs) with q | q
   ·exact (hf b z).2.1 q
   ·exact (hf b z).2.2.1 q
 refine ⟨okk, rfl, I.bare, Un.kept kp, ⟨_, ns, fun i x v h1' h2 h3 => ?_⟩, fun x c e => ?_, I.hok.fresh hL, fun x c e => ?_, fun p hp => absurd hp (by simp [bF]), I.hok.kept kp, ?_⟩
 ·have hix : ∃ j, ix[i]? = some (some j) /\ σ[j]? = some (some v) := by
   unfold inS at h2
   rw [List.getElem?_map] at h2
   cases e : ix[i]? with
   | none => rw [e] at h2; cases h2
   | some o =>
    rw [e] at h2
    cases o with
    | none => cases h2
    | some j =>
     have h2' : (σ[j]?).join = some v := Option.some.inj h2
     refine ⟨j, rfl, ?_⟩
     cases e2 : σ[j]? with
     | none => rw [e2] at h2'; cases h2'
     | some w =>
      rw [e2] at h2'
      have h2'' : w = some v := h2'
      rw [h2'']
  obtain ⟨j, e1, e2⟩ := hix
  obtain ⟨e3, e4⟩ := cf.at ok e1 h1'
  have hfr := cf.fr ok (PySem.mem_of_lookup e4)
  obtain ⟨m, hn, hl⟩ := I.loc
  obtain ⟨u, r, l⟩ := hl j x v e3 e2 (hfr.elim (fun z => .inr (.inl z)) fun z => .inr (.inr z))
  refine ⟨u, r, .inr ⟨ud (env := X.env) (x := x) (ns := sc.names) e4, ?_⟩⟩
  rcases l with ⟨k, _⟩ | ⟨k, c, e, z⟩
  ·rcases hfr with q | q <;> rw [q] at k <;> cases k
  ·have q1 := sO (cells := X.env.cells) sc.names [] (.inl (PySem.mem_of_lookup e4))
   obtain ⟨c2, q2⟩ := Option.isSome_iff_exists.mp q1
   have q3 := (cc x c2 q2).2.1
   rw [e] at q3
   cases q3
   have q4 := PySem.W.cellsFrom_some (x := x) sc.names (L + 1) 'O' (.inr q1)
   obtain ⟨c3, q5⟩ := Option.isSome_iff_exists.mp q4
   rcases hc x c3 q5 with q6 | ⟨q6, q7⟩
   ·rw [q2] at q6
    cases q6
    exact ⟨c, q5, z.keeps kp⟩
   ·exfalso
    rcases om _ _ _ q5 with ⟨_, m'⟩ | q8
    ·exact cf.apart ok m' (PySem.mem_of_lookup e4)
    ·rw [q2] at q8
     cases q8
     exact absurd (Nat.lt_trans (Nat.lt_of_lt_of_le (cc x c q2).2.2.2 hL) q6) (Nat.lt_irrefl _)
 ·rcases hc x c e with q | ⟨_, q⟩
  ·obtain ⟨v, z⟩ := (cc x c q).2.2.1
   exact ⟨v, z.keeps kp⟩
  ·exact ⟨_, q⟩
 ·rcases hc x c e with q | ⟨q, _⟩
  ·exact I.freeC x c (cc x c q).2.1
  ·exact I.hok.fresh (Nat.le_trans hL (Nat.le_of_lt q))
 ·show (inS ix σ).length = N'.length
  unfold inS
  rw [List.length_map]
  exact cf.len ok
end
noncomputable def PTs (X : Cx) (ifs : List Expr) (t : TT) : Prop :=
 ∀ (pins : List 'a') (s : Shared) (σ : St) (H : Hp) (Q : Bool -> Hp -> Prop), Inv X pins σ H s -> t σ H Q ->
  wpAny 'b' X.A (forIn ifs true fun c r => if r = true then do let ok <- isTrue c X.env (eval c X.env); pure (ForInStep.yield ok) else pure (ForInStep.yield r)) (TP X pins σ Q) X.xe s
noncomputable def tYes : TT := fun _ H Q => Q true H
theorem pts_nil {X : Cx} : PTs X [] tYes := fun _ _ _ H _ I h => wpAny_tests_nil ⟨H, I, h⟩
theorem zR {X : Cx} {c : Expr} {t : TT} (h : PT X c t) : PTs X [c] t := fun pins s σ H Q I q => wpAny_tests_one (h pins s σ H Q I q)
theorem ze {prog : Program} {w : World} {A : Around} {R : Result -> Shared -> Prop} {s : Shared} {elt tg iter : Expr} {ifs : List Expr} {scope : Scope} {pos : Pos} {it acc : Value} {env : Env} (J : Nat -> Shared -> Prop)
  (turn : ∀ n s, J n s -> wpAny 'i' A (pyNext it) (fun r s1 => match r with
   | none => R (.ok .next) s1
   | some v => wpAny 'i' A (letOwnedTupleGo tg it v) (fun _ s1' => wpAny 'i' A (assign tg env v) (fun _ s2 =>
     wpAny 'i' A (forIn ifs true fun c r => if r = true then do let ok <- isTrue c env (eval c env); pure (ForInStep.yield ok) else pure (ForInStep.yield r)) (fun ok s3 =>
      if ok = true then wpAny 'i' A (eval elt env) (fun x s4 => wpAny 'i' A (call (.builtin "list.append") [acc, x]) (fun _ s5 => ∃ m, m < n /\ J m s5) (fun _ _ => False) s4) (fun _ _ => False) s3
      else ∃ m, m < n /\ J m s3) (fun _ _ => False) s2) (fun _ _ => False) s1') (fun _ _ => False) s1) (fun _ _ => False) s)
  (n : Nat) (h : J n s) : codeAny 'i' A (.compLoop (.ListComp elt [⟨tg, iter, ifs, 0⟩] scope pos) 0 it acc env) R s := by
 refine codeAny_loop rfl J (fun n s hJ => ?_) n h
 show wpAny _ A ((compTurn (.ListComp elt [⟨tg, iter, ifs, 0⟩] scope pos) 0 it acc env).onRaise (fun x => do noteFrame x env; theTreesLotGoes x)) _ _ s
 refine wpAny_noted ?_
 rw [compTurn_list]
 refine wpAny_bind (wpAny_standAt (wpAny_bind (wpAny_mono (turn n s hJ) (fun r s1 h1 => ?_) fun _ _ z => z.elim)))
 cases r with
 | none => exact wpAny_pure h1
 | some v =>
  refine wpAny_bind (wpAny_mono h1 (fun _ s1' h1' => ?_) fun _ _ z => z.elim)
  refine wpAny_bind (wpAny_mono h1' (fun _ s2 h2 => wpAny_bind (wpAny_mono h2 (fun ok s3 h3 => ?_) fun _ _ z => z.elim)) fun _ _ z => z.elim)
  cases ok with
  | false => exact wpAny_pure ⟨rfl, h3⟩
  | true =>
   exact wpAny_bind (wpAny_bind (wpAny_mono h3 (fun x s4 h4 => wpAny_bind (wpAny_mono h4 (fun _ s5 h5 => wpAny_pure (wpAny_pure ⟨rfl, h5⟩)) fun _ _ z => z.elim)) fun _ _ z => z.elim))
noncomputable def sN (J : It) (ix : List (Option Nat)) (g : TG) (tt : TT) (te : TE) (σ : St) (F : List V -> Hp -> Prop) (H : Hp) : Prop :=
 ∃ W : Nat -> Nat -> List V -> Hp -> Prop, (∃ m, W 0 m [] H) /\ ∀ i m ys H, W i m ys H ->
  (J.stop i H /\ ys.length <= sizeLine /\ F ys H) \/ (J.go i H /\ ys.length <= sizeLine /\ ∃ N : List V -> Hp -> Prop, (∀ ys' H', N ys' H' -> ∃ m', m' < m /\ W (i + 1) m' ys' H') /\
   ∀ x H', J.yld i H x H' -> g x (inS ix σ) H' fun σ2 H2 => tt σ2 H2 fun b H3 => if b = true then te σ2 H3 fun y H4 => N (ys ++ [y]) H4 else N ys H3)
section
variable {X : Cx} {pins : List 'a'} {σ : St} {H : Hp} {s : Shared} {N' : List Str} {sc : Scope} {ix : List (Option Nat)}
theorem Inv.slots0 {X : Cx} {σ' : St} (I : Inv X pins σ' H s) (h : ∀ (i : Nat) v, (inS ix σ)[i]? = some (some v) -> σ'[i]? = some (some v)) (hl : (inS ix σ).length = X.N.length) : Inv X pins (inS ix σ) H s :=
 I.weak (by rw [hl, I.len]) h
theorem zd {tg elt iter : Expr} {ifs : List Expr} {pos : Pos} {g : TG} {tt : TT} {te : TE} {J : It} {fp : List Addr} {it : Addr} {tn : Nat -> Heap -> Prop} {F : List V -> Hp -> Prop} {E : Value -> Shared -> Prop}
  (hc : X.calm = true) (I : Inv X pins σ H s) (T : Turn X.prog X.w X.K tg J fp it tn) (st : tn 0 s.heap) (hf : ∀ b ∈ fp, Ct X pins H b) (ok : cf X.N X.env.scope N' sc ix = true) (hk : sc.kind = .function)
  (hg : ∀ L cs s H fp, PG 'd' tg g) (hkeep : ∀ x σ' H' (Q : St -> Hp -> Prop), g x σ' H' Q -> g x σ' H' fun σ2 H2 => Q σ2 H2 /\ ∀ (i : Nat) v, σ'[i]? = some (some v) -> (∃ j, ix[i]? = some (some j)) -> σ2[i]? = some (some v))
  (ht : ∀ L cs s H fp, PTs 'd' ifs tt) (he : ∀ L cs s H fp, PE 'd' elt te)
  (tr : sN J ix g tt te σ F H) :
  wpAny 'b' X.A (newList []) (fun acc s3 => wpAny 'b' X.A (newFunctionEnv sc X.env.globals 'O' [] X.env.qual none .none (some X.env)) (fun cenv s4 =>
   codeAny 'b' X.A (.compStart 'z' 0 (.ref it) acc { cenv with scope := relabel sc X.env }) (fun r s' => (∃ fl, r = .ok fl) /\
    ∃ (p : Addr) (ys : List V) (H2 : Hp), acc = .ref p /\ Inv X pins σ (upd H2 p (.lst ys)) s' /\ H2 p = none /\ F ys H2 /\ (∃ m, s'.heap.Ns cenv.locals m) /\ (upd H2 p (.lst ys)) cenv.locals = none /\ cenv.locals ≠ X.env.locals /\
     X.s₀.heap.objs.size <= cenv.locals /\ (∀ x c, X.env.cells.lookup x = some c -> c ≠ cenv.locals) /\ ∀ q ∈ X.pn ++ pins, q.1 ≠ cenv.locals) s4) E s3) E s := by
 obtain ⟨W, ⟨m0, w0⟩, turn⟩ := tr
 refine wpAny_newObj_type (Du fun h1 kp ns hcl => ?_)
 dsimp only at kp ns hcl ⊢
 generalize hH2 : s.heap.push { cls := .type "list", dict := none, data := .seq ([] : List Value).toArray } = HH at kp ns hcl ⊢
 have eL : HH.objs.size = s.heap.objs.size + 1 := by rw [<- hH2, Heap.size_push]
 have kp0 : ∀ b o, s.heap.get? b = some o -> h1.get? b = some o := fun b o e => kp b o (hH2 ▸ Heap.get?_push_of_some _ e)
 have hD0 : h1.PlainList s.heap.objs.size #[] := ⟨_, kp _ _ (hH2 ▸ Heap.get?_push_size _ rfl)⟩
 have fpo : ∀ b ∈ fp, ∃ o, s.heap.get? b = some o := fun b z => let ⟨o, e, _⟩ := T.obj 0 _ st b z; ⟨o, e⟩
 have fpl : ∀ b ∈ fp, b < s.heap.objs.size := fun b z => let ⟨o, e⟩ := fpo b z; Heap.lt_size e
 have sL : s.heap.objs.size <= HH.objs.size := by rw [eL]; exact Nat.le_succ _
 have sL' : s.heap.objs.size < HH.objs.size := by rw [eL]; exact Nat.lt_succ_self _
 have I0 := comp_inv (h1 := h1) I hf fpo ok hk sL kp0 ns hcl
 generalize hXX : bF X N' sc HH.objs.size (cellsFrom (HH.objs.size + 1) sc.names 'O') s H fp = Y at I0
 have eY1 : Y.prog = X.prog := by subst hXX; rfl
 have eY2 : Y.w = X.w := by subst hXX; rfl
 have eY3 : Y.K = X.K := by subst hXX; rfl
 have eY4 : Y.calm = true := by subst hXX; exact hc
 have eY5 : Y.A = X.A := by subst hXX; rfl
 have eY6 : Y.env = { scope := relabel sc X.env, locals := HH.objs.size, globals := X.env.globals, cells := cellsFrom (HH.objs.size + 1) sc.names 'O', qual := X.env.qual, func := none, code := X.env.code, frame := X.env.frame, builtins := X.env.builtins } := by subst hXX; rfl
 have eY7 : Y.xe = fun _ _ => False := by subst hXX; rfl
 have eY8 : Y.pn = [] := by subst hXX; rfl
 have eY9 : Y.fs = frs X.stack := by subst hXX; rfl
 have eY10 : Y.s₀ = s := by subst hXX; rfl
 have eY11 : Y.H₀ = H := by subst hXX; rfl
 have eY12 : Y.ex = fp := by subst hXX; rfl
 have eY13 : Y.N = N' := by subst hXX; rfl
 have hgY : PG Y tg g := by subst hXX; exact hg _ _ _ _ _
 have htY : PTs Y ifs tt := by subst hXX; exact ht _ _ _ _ _
 have heY : PE Y elt te := by subst hXX; exact he _ _ _ _ _
 have lenI : (inS ix σ).length = Y.N.length := by rw [eY13]; unfold inS; rw [List.length_map]; exact cf.len ok
 have cellN : ∀ (b : Addr), b <= HH.objs.size -> (∀ x c, X.env.cells.lookup x = some c -> c ≠ b) -> ∀ x c, Y.env.cells.lookup x = some c -> c ≠ b := fun b hb hx x c e => by
  rw [eY6] at e
  rcases hcl x c e with q | ⟨q, _⟩
  ·exact hx x c (El I ok q).2
  ·exact (C3 (Nat.lt_of_le_of_lt hb (Nat.lt_succ_self _)) q).symm
 have oldc : ∀ x c, X.env.cells.lookup x = some c -> c < s.heap.objs.size := fun x c e => let ⟨v, z⟩ := I.cell x c e; z.lt
 have nfs : ∀ b, s.heap.objs.size <= b -> b ∉ frs X.stack := fun b hb z => by
  rcases List.mem_cons.mp (I.u7 b z) with q | q
  ·exact C3 I.lt hb q.symm
  ·exact I.nofs hb q
 have fpY : ∀ (pp : List 'a') (H' : Hp), (∀ b ∈ fp, H' b = none) -> (∀ q ∈ pp, q.1 ∉ fp) -> ∀ b ∈ fp, Ct Y pp H' b := fun pp H' hn hq b z => by
  have hlt := fpl b z
  refine ⟨hn b z, ?_, ?_, .inl (by rw [eY12]; exact z), cellN b (Nat.le_of_lt (Nat.lt_trans hlt sL')) ((hf b z).2.2.2.2.1), fun q hq' e => ?_⟩
  ·rw [eY6]; exact C3 hlt sL
  ·rw [eY9]; intro hs
   rcases List.mem_cons.mp (I.u7 b hs) with q | q
   ·exact (hf b z).2.1 q
   ·exact (hf b z).2.2.1 q
  ·rw [eY8] at hq'
   exact hq q (by simpa using hq') (by rw [e]; exact z)
 have Dfp : s.heap.objs.size ∉ fp := fun z => absurd (fpl _ z) (Nat.lt_irrefl _)
 have Dok : ∀ (pp : List 'a') (H' : Hp), H' s.heap.objs.size = none -> (∀ q ∈ pp, q.1 ≠ s.heap.objs.size) -> Ct Y pp H' s.heap.objs.size := fun pp H' hn hq => by
  refine ⟨hn, ?_, by rw [eY9]; exact nfs _ 'n', .inr (by rw [eY10]; exact Nat.le_refl _), cellN _ sL (fun x c e => Nat.ne_of_lt (oldc x c e)), fun q hq' => ?_⟩
  ·rw [eY6]; exact Nat.ne_of_lt sL'
  ·rw [eY8] at hq'
   exact hq q (by simpa using hq')
 have loop : codeAny 'b' X.A (.compLoop 'z' 0 (.ref it) (.ref s.heap.objs.size) Y.env) (fun r s' => (∃ fl, r = .ok fl) /\
    ∃ (p : Addr) (ys : List V) (H2 : Hp), Value.ref s.heap.objs.size = .ref p /\ Inv X pins σ (upd H2 p (.lst ys)) s' /\ H2 p = none /\ F ys H2 /\ (∃ m, s'.heap.Ns HH.objs.size m) /\ (upd H2 p (.lst ys)) HH.objs.size = none /\ HH.objs.size ≠ X.env.locals /\
     X.s₀.heap.objs.size <= HH.objs.size /\ (∀ x c, X.env.cells.lookup x = some c -> c ≠ HH.objs.size) /\ ∀ q ∈ X.pn ++ pins, q.1 ≠ HH.objs.size) { s with heap := h1 } := by
  refine ze (fun n s' => ∃ i ys its H', Inv Y [] (inS ix σ) H' s' /\ tn i s'.heap /\ (∀ b ∈ fp, H' b = none) /\ H' s.heap.objs.size = none /\ s'.heap.PlainList s.heap.objs.size its /\ Vals ys its.toList /\ W i n ys H') ?_ m0
   ⟨0, [], #[], H, I0, T.keep _ _ _ st fun b _ o e => kp0 b o e, fun b z => (hf b z).1, I.hok.fresh 'n', hD0, .nil, w0⟩
  rintro n s3 ⟨i, ys, its, H3, I3, st3, fr3, hD3, pl3, vs3, w3⟩
  obtain ⟨nD, oD⟩ := pl3
  have hpD : ∀ q ∈ ['I'], q.1 ∉ fp := fun q hq => by
   have : q = _ := List.mem_singleton.mp hq
   rw [this]; exact Dfp
  have I3' : Inv Y ['I'] (inS ix σ) H3 s3 := I3.vj fun q hq => by
   have e : q = _ := List.mem_singleton.mp hq
   obtain ⟨d0, d1, d2, _⟩ := Dok [] H3 hD3 (fun _ z => nomatch z)
   rw [e]
   exact ⟨oD, d0, d1, d2, fun v z => by cases z⟩
  rcases turn i n ys H3 w3 with ⟨stop, ln, qn⟩ | ⟨go, ln, NN, hNN, step⟩
  ·have h1 := T.done Y eY1 eY2 eY3 eY4 i _ s3 _ H3 (fun _ _ => False) I3' (fpY _ H3 fr3 hpD) st3 stop
   rw [eY5] at h1
   refine wpAny_mono h1 (fun r s4 ⟨hr, I4⟩ => ?_) fun _ _ z => z
   subst hr
   obtain ⟨oD4, hD4, _⟩ := I4.pin 'I' (by rw [eY8]; simp)
   refine ⟨⟨_, rfl⟩, s.heap.objs.size, ys, H3, rfl, ?_, hD3, qn, ?_, ?_, ?_, ?_, ?_, ?_⟩
   ·have ub : Un (frs X.stack) fp H H3 s.heap s4.heap := by
     have := I4.base
     rw [eY9, eY10, eY11, eY12] at this
     exact this
    have hok4 : HOk X.prog X.w H3 s4.heap := by
     have := I4.hok
     rw [eY1, eY2] at this
     exact this
    refine I.call' (ch := fp) (by have := I4.os; rw [eY10] at this; exact this) ⟨ub.keep, ub.slot, fun b o e nn hx => ?_, ub.there, fun b xs q => ?_, fun b o u q => ?_, fun b ps q => ?_⟩ (fun b u e => ?_) I4.bare (fun b hb => ?_)
    ·rw [ar (Nat.ne_of_lt (Heap.lt_size e))]; exact ub.free b o e nn hx
    ·rw [ar (aQ (ub.tups b xs q) hD3)]; exact ub.tups b xs q
    ·rw [ar (aQ (ub.frzs b o u q) hD3)]; exact ub.frzs b o u q
    ·obtain ⟨more, z⟩ := ub.tbls b ps q
     exact ⟨more, by rw [ar (aQ z hD3)]; exact z⟩
    ·by_cases hb : b = s.heap.objs.size
     ·subst hb
      rw [av] at e
      cases e
      exact ⟨ln, its.toList, nD, vs3, by simpa using oD4⟩
     ·rw [ar hb] at e
      exact (hok4 b u e).zJ (fun _ _ _ q => q) (fun c q => by rw [ar (aQ q hD3)]; exact q) fun c xs q => by rw [ar (aQ q hD3)]; exact q
    ·obtain ⟨f0, f1, f2, f3, f4, f5⟩ := hf b hb
     exact ⟨f3, f1, f4, f5⟩
   ·obtain ⟨m, hn, _⟩ := I4.loc
    rw [eY6] at hn
    exact ⟨m, hn⟩
   ·rw [ar (Nat.ne_of_gt sL')]
    have := I4.free
    rw [eY6] at this
    exact this
   ·exact Nat.ne_of_gt (Nat.lt_trans I.lt sL')
   ·exact Nat.le_trans I.sz sL
   ·exact fun x c e => C3 (oldc x c e) sL
   ·exact fun q hq => C3 (Heap.lt_size (I.pin q hq).1) sL
  ·have h1 := T.item Y eY1 eY2 eY3 eY4 i _ s3 _ H3 (fun _ _ => False) I3' (fpY _ H3 fr3 hpD) st3 go
   rw [eY5] at h1
   refine wpAny_mono h1 (fun r s4 ⟨u, hr, h4⟩ => ?_) fun _ _ z => z
   subst hr
   refine wpAny_mono h4 (fun _ s5 ⟨x, H5, I5, r5, y5, st5, fr5⟩ => ?_) fun _ _ z => z
   have I5' := I5.pinned (fpY _ H5 fr5 hpD) (T.obj _ _ st5)
   have h5 := hgY _ s5 _ H5 x u _ I5' r5 (hkeep x _ H5 _ (step x H5 y5))
   rw [eY1, eY2, eY5, eY7] at h5
   refine wpAny_mono h5 (fun _ s6 ⟨σ6, H6, I6, q6, k6⟩ => ?_) fun _ _ z => z
   have h6 := htY _ s6 σ6 H6 _ I6 q6
   rw [eY1, eY2, eY5, eY7] at h6
   refine wpAny_mono h6 (fun b s7 ⟨H7, I7, q7⟩ => ?_) fun _ _ z => z
   have back : ∀ {s8 : Shared} {H8 : Hp}, Inv Y (['I'] ++ xU fp s5.heap) σ6 H8 s8 -> Inv Y [] (inS ix σ) H8 s8 /\ tn (i + 1) s8.heap /\ (∀ b ∈ fp, H8 b = none) /\ H8 s.heap.objs.size = none /\ s8.heap.get? s.heap.objs.size = some { cls := .type "list", data := .seq its nD } := fun {s8 H8} I8 => by
    obtain ⟨a1, a2, _⟩ := I8.pin 'I' (by rw [eY8]; simp)
    refine ⟨(I8.vj (pins' := []) fun _ z => nomatch z).slots0 (fun k v e => ?_) lenI, T.keep _ _ _ st5 fun b hb o e => (I8.pin (b, o) (List.mem_append_right _ (List.mem_append_right _ (mX hb e)))).1, fun b hb => ?_, a2, a1⟩
    ·refine k6 k v e ?_
     unfold inS at e
     rw [List.getElem?_map] at e
     cases e2 : ix[k]? with
     | none => rw [e2] at e; cases e
     | some o =>
      cases o with
      | none => rw [e2] at e; cases e
      | some j => exact ⟨j, rfl⟩
    ·obtain ⟨o, e, d⟩ := T.obj _ _ st5 b hb
     exact (I8.pin (b, o) (List.mem_append_right _ (List.mem_append_right _ (mX hb e)))).2.1
   cases b with
   | false =>
    rw [if_neg Bool.false_ne_true] at q7 ⊢
    obtain ⟨m', hm, w7⟩ := hNN _ _ q7
    obtain ⟨b1, b2, b3, b4, b5⟩ := back I7
    exact ⟨m', hm, i + 1, ys, its, H7, b1, b2, b3, b4, ⟨nD, b5⟩, vs3, w7⟩
   | true =>
    rw [if_pos rfl] at q7 ⊢
    have h7 := heY _ s7 σ6 H7 _ I7 q7
    rw [eY1, eY2, eY5, eY7, eY6] at h7
    rw [eY6]
    refine wpAny_mono h7 (fun uu s8 ⟨y, H8, I8, r8, q8⟩ => ?_) fun _ _ z => z
    obtain ⟨m', hm, w8⟩ := hNN _ _ q8
    obtain ⟨b1, b2, b3, b4, b5⟩ := back I8
    have ez : its.size <= sizeLine := by
     have h1 := vs3.length
     have h2 : its.toList.length = its.size := by simp
     omega
    refine wpAny_list_append_plain (hsz := ez) ⟨nD, b5⟩ fun h9 pl9 sb9 => ?_
    obtain ⟨d0, d1, d2, d3, d4, d5⟩ := Dok [] H8 b4 (fun _ z => nomatch z)
    refine ⟨m', hm, i + 1, ys ++ [y], its.push uu, H8, b1.turned (t' := s8.toks) (fun b o hb e => (sb9.2 b hb).trans e) d0 d1 d3 d4 d5, T.keep _ _ _ b2 fun b hb o e => (sb9.2 b ?_).trans e, b3, b4, pl9, ?_, w8⟩
    ·exact C3 (fpl b hb) 'n'
    ·rw [Array.toList_push]
     exact vs3.append (.cons r8 .nil)
 rw [eY6] at loop
 exact codeAny_compStart_list loop (T.self X.A 0 _ _ _ (T.keep _ _ _ st fun b _ o e => kp0 b o e) loop)
end
noncomputable def tComp (wi : TI) (ix : List (Option Nat)) (g : TG) (tt : TT) (te : TE) : TE := fun σ H Q => wi σ H fun J H1 => sN J ix g tt te σ (fun ys H2 => ∀ p, H2 p = none -> Q (.ref p) (upd H2 p (.lst ys))) H1
noncomputable def uI (ix : List (Option Nat)) (g : TG) : Prop := ∀ x σ' H' (Q : St -> Hp -> Prop), g x σ' H' Q -> g x σ' H' fun σ2 H2 => Q σ2 H2 /\ ∀ (i : Nat) v, σ'[i]? = some (some v) -> (∃ j, ix[i]? = some (some j)) -> σ2[i]? = some (some v)
theorem dX {ix : List (Option Nat)} {k : Nat} (h : ix[k]? = some none) : uI ix (tQ k) := fun x σ' H' Q q => ⟨q, fun i v e ⟨j, hj⟩ => by
 have : k ≠ i := by rintro rfl; rw [h] at hj; cases hj
 rw [List.getElem?_set_ne this]; exact e⟩
section
variable {X : Cx} {N' : List Str} {sc : Scope} {ix : List (Option Nat)} {tg elt iter : Expr} {ifs : List Expr} {pos spos py : Pos} {wi : TI} {g : TG} {tt : TT} {te : TE}
theorem pe_comp (N' : List Str) (ix : List (Option Nat)) (hc : X.calm = true) (hi : PI X tg iter wi) (hg : ∀ L cs s H fp, PG 'd' tg g) (hl : uI ix g)
  (ht : ∀ L cs s H fp, PTs 'd' ifs tt) (he : ∀ L cs s H fp, PE 'd' elt te)
  (ok : cf X.N X.env.scope N' sc ix = true := by rfl) (hk : sc.kind = .function := by rfl) (hs : ∀ x, foldedSetIterable iter X.env x = pure x := by intro _; rfl) :
  PE X 'z' (tComp wi ix g tt te) := by
 intro pins s σ H Q I h
 rw [eval_ListComp]
 refine wpAny_comprehension_free (use := none) rfl hs (uz (sM I ok)) hk (cf.loc ok) (thn (hi pins s σ H _ I h) fun v s1 h1 => thn h1 fun itv s2 h2 => ?_)
 obtain ⟨it, fp, tn, J, H2, e, I2, T, st2, f2, tr⟩ := h2
 subst e
 refine thn (zd hc I2 T st2 f2 ok hk hg hl ht he tr) fun acc s3 h3 => thn h3 fun cenv s4 h4 => codeAny_mono h4 fun r s5 hr => ?_
 obtain ⟨⟨fl, e1⟩, p, ys, H5, e2, I5, hp, q, ⟨m, hn⟩, c0, c1, c2, c3, c4⟩ := hr
 subst e1
 subst e2
 exact ⟨m, hn, fun h' sb => ⟨.ref p, _, I5.turned (t' := s5.toks) (fun b o hb e => (sb.2 b hb).trans e) c0 c1 (.inr c2) c3 c4, rfl, q p hp⟩⟩
noncomputable def tSetComp (j : Nat) (wi : TI) (ix : List (Option Nat)) (g : TG) (tt : TT) (te : TE) : TS := fun D σ H => wi σ H fun J H1 => sN J ix g tt te σ (fun ys H2 => ∀ p, H2 p = none -> D.nx (σ.set j (some (.ref p))) (upd H2 p (.lst ys))) H1
theorem BQ (N' : List Str) (ix : List (Option Nat)) {j : Nat} {y : Str} (hN : X.N.Nodup) (hj : X.N[j]? = some y) (hy : X.env.scope.names.lookup y = some .local) (hc : X.calm = true) (hi : PI X tg iter wi) (hg : ∀ L cs s H fp, PG 'd' tg g) (hl : uI ix g)
  (ht : ∀ L cs s H fp, PTs 'd' ifs tt) (he : ∀ L cs s H fp, PE 'd' elt te)
  (hsw : swapsWith 'z' (some (.Name y py)) spos.line X.env = pure true := by rfl)
  (ok : cf X.N X.env.scope N' sc ix = true := by rfl) (hk : sc.kind = .function := by rfl) (hs : ∀ x, foldedSetIterable iter X.env x = pure x := by intro _; rfl) :
  PS X (.Assign [.Name y py] 'z' spos) (tSetComp j wi ix g tt te) := by
 intro pins s σ H D I h
 rw [exec_Assign_Name_used _ _ _ _ hsw]
 refine wpAny_bind (wpAny_standAt (wpAny_bind ?_))
 show wpAny _ X.A (do let _ <- comprehension 'z' sc X.env _ (newList []) false (eval iter X.env) (some (assign (.Name y py) X.env))) _ _ s
 refine wpAny_bind (wpAny_mono (wpAny_comprehension_free (use := some (assign (.Name y py) X.env)) (Q := fun _ s' => SP X pins D .next s') rfl hs (uz (sM I ok)) hk (cf.loc ok) (thn (hi pins s σ H _ I h) fun v s1 h1 => thn h1 fun itv s2 h2 => ?_)) (fun _ s' hq => wpAny_pure (wpAny_pure hq)) fun _ _ z => z)
 obtain ⟨it, fp, tn, J, H2, e, I2, T, st2, f2, tr⟩ := h2
 subst e
 refine thn (zd hc I2 T st2 f2 ok hk hg hl ht he tr) fun acc s3 h3 => thn h3 fun cenv s4 h4 => codeAny_mono h4 fun r s5 hr => ?_
 obtain ⟨⟨fl, e1⟩, p, ys, H5, e2, I5, hp, q, ⟨m, hn⟩, c0, c1, c2, c3, c4⟩ := hr
 subst e1
 subst e2
 show wpAny _ X.A (assign (.Name y py) X.env (.ref p)) _ _ s5
 refine wpAny_assign_Name (xr (v := .ref p) I5 hN hj (.inl hy) rfl (fun s6 I6 ⟨a, sb, ha⟩ => ?_) (.inr hy))
 have ea : cenv.locals ≠ a := by
  rcases ha with z | z
  ·rw [z]; exact c1
  ·exact fun e => c3 y a z e.symm
 refine ⟨m, hn.sameBut sb ea, fun h' sb' => ?_⟩
 exact ⟨_, _, I6.turned (t' := s6.toks) (fun b o hb e => (sb'.2 b hb).trans e) c0 c1 (.inr c2) c3 c4, q p hp⟩
end
end L2
namespace L2
open PySem PySem.Spec PyProof.Rows
section
variable {X : Cx}
theorem Bx : ∀ {bs : List Bool} {us : List Value}, Vals (bs.map V.bl) us -> LSm.BoolsAre us bs
 | [], _, .nil => .nil
 | b :: r, _, .cons e t => by cases e; exact .cons b (Bx t)
theorem call_all (hc : X.calm = true) : gL X (.builtin "all") (fun xs H Q => ∃ (a : Addr) (bs : List Bool), xs = [.ref a] /\ SqL X.K H a (bs.map V.bl) /\ Q (.bl (bs.all id)) H) := by
 intro pins s σ H xs us Q I r h
 obtain ⟨a, bs, rfl, hq, q⟩ := h
 obtain ⟨u, rfl, ru⟩ := r.one
 cases ru
 obtain ⟨its, rv, p, hz⟩ := I.list hq
 have hb := Bx rv
 have hl := p.isList
 have hlt : a < s.heap.objs.size := by obtain ⟨_, e, _⟩ := hl; exact Heap.lt_size e
 refine call_all_walk (wpAny_pyIter_list hl ?_)
 refine ⟨s.heap.objs.size, [s.heap.objs.size, a], [s.heap.objs.size], its.toArray.size, _, _, fun i => (bs[i]?).getD true, rfl, Walks.list (A := X.A.in1) (I.ok.hd hc) _ a (Nat.ne_of_lt hlt) its.toArray,
  ⟨⟨_, Heap.get?_push_size _ rfl, rfl, rfl⟩, hl.push _⟩, fun i v s' Q' E' hP hQ => ?_, fun h' tk hk => ?_⟩
 ·obtain ⟨b, e, rfl⟩ := hb.get i v (by simpa using hP)
  simp only [e, Option.getD_some] at hQ
  exact wpAny_truthy_bool hQ
 ·have e : ((List.range its.toArray.size).all fun i => (bs[i]?).getD true) = bs.all id := by
   rw [List.size_toArray, hb.length]; exact LSm.range_all bs
  rw [e]
  exact ⟨.bl (bs.all id), H, I.kept (LSm.kept_iter hk), rfl, q⟩
noncomputable def clsV : V -> Option Value
 | .ty n => some (.type n)
 | .ref a => some (.ref a)
 | _ => none
theorem clsV_is {y : V} {c u : Value} (h : clsV y = some c) (r : RelV y u) : u = c := by
 cases y with
 | ty n => cases r; exact Option.some.inj h
 | ref a => cases r; exact Option.some.inj h
 | _ => cases h
theorem call_isi : gL X (.builtin "isinstance") (fun xs H Q => ∃ x y c t b, xs = [x, y] /\ clsV y = some c /\ BA X.K H x t /\ PySem.W.kitOne X.K t c = some b /\ Q (.bl b) H) := by
 intro pins s σ H xs us Q I r h
 obtain ⟨x, y, c, t, b, rfl, hc, ty, e, q⟩ := h
 obtain ⟨u, v, rfl, ru, rv⟩ := r.two
 have ev := clsV_is hc rv
 subst ev
 exact DL I ru ty e fun tk => ⟨.bl b, H, I.tok tk, rfl, q⟩
inductive EqV (K : PySem.W.Frag) (H : Hp) : Nat -> V -> V -> Bool -> Prop where
 | flat {n : Nat} {x y : V} (hx : flatV x = true) (hy : flatV y = true) : EqV K H n x y (eqV x y)
 | same {n : Nat} {a : Addr} : EqV K H n (.ref a) (.ref a) true
 | lists {n : Nat} {a b : Addr} {xs ys : List V} {e : Nat -> Bool} (ha : SqL K H a xs) (hb : SqL K H b ys) (hl : xs.length = ys.length) (ne : a ≠ b)
   (he : ∀ j x y, xs[j]? = some x -> ys[j]? = some y -> EqV K H n x y (e j)) : EqV K H (n + 1) (.ref a) (.ref b) ((List.range xs.length).all e)
 | listsL {n : Nat} {a b : Addr} {xs ys : List V} (ha : SqL K H a xs) (hb : SqL K H b ys) (hl : xs.length ≠ ys.length) (ne : a ≠ b) : EqV K H (n + 1) (.ref a) (.ref b) false
 | tups {n : Nat} {a b : Addr} {xs ys : List V} {e : Nat -> Bool} (ha : SqT K H a xs) (hb : SqT K H b ys) (ne : a ≠ b)
   (he : ∀ j x y, xs[j]? = some x -> ys[j]? = some y -> EqV K H n x y (e j)) : EqV K H (n + 1) (.ref a) (.ref b) ((List.range (min xs.length ys.length)).all e && xs.length == ys.length)
theorem Vals.atA {xs : List V} {us : List Value} (r : Vals xs us) {j : Nat} (h : j < us.toArray.size) : ∃ x, xs[j]? = some x /\ RelV x us.toArray[j] := by
 have hl := r.length
 have hj : j < xs.length := by rw [hl]; simpa using h
 obtain ⟨u, e1, e2⟩ := r.get (i := j) (x := xs[j]) (by simp [hj])
 refine ⟨xs[j], by simp [hj], ?_⟩
 have : us.toArray[j] = u := by
  have h' : j < us.length := by simpa using h
  rw [List.getElem?_eq_getElem h'] at e1
  simpa using Option.some.inj e1
 rw [this]; exact e2
end
end L2
namespace L2
open PySem PySem.Spec PyProof.Rows
section
variable {X : Cx} {x : Str} {pos : Pos}
theorem pe_tyN {T : String} (hg : Gl X x) (hm : X.mg x = none) (hv : bootBuiltins x = some (.type T)) (hn : x ≠ "__name__" := by decide) (hd : 'c' = false := by decide) : PE X (.Name x pos) (tC (.ty T)) := pe_bltn (v := .ty T) hg hm hv rfl hn hd
theorem pe_gint {n : Int} (hg : Gl X x) (hm : ∃ t, X.mg x = some (.int n t)) (hd : 'c' = false := by decide) : PE X (.Name x pos) (tC (.int n)) := by
 obtain ⟨t, e⟩ := hm
 exact pe_glob (v := .int n) hg e ⟨t, rfl⟩ hd
end
section
variable {P : Program} {w : World} {K : PySem.W.Frag} {mg : Str -> Option Value} {base : Heap} {CX : CXT}
theorem Fun.okX {x qual : Str} {st : Stmt} {f : Addr} {fd : FuncData} {N ps : List Str} {k : Nat} {sp : Sp} (F : Fun K x qual st f fd) (S : aM N ps (af st)) (len : ∀ vs H Q E, sp vs H Q E -> vs.length = ps.length)
  (hbody : ∀ (cdv : Value) (A : Around) (outer : List Env) (s : Shared) (H : Hp) (vs : List V) (Q : VK) (E : XK), kg k (A.deeper (envOfC qual (af st) s.heap.objs.size f cdv)) -> sp vs H Q E ->
   ∃ t, PSs (Cr CX P w K mg base N qual (af st) f cdv A outer s H E).nox (aE st) t /\ t { nx := fun _ H' => Q .non H', rt := Q } (start N vs) H) : bx P w K mg base CX (k + 1) f fd ps sp := by
 obtain ⟨oc, od, kV, doc, pm, an, cdv, ct, osl, rfl, lk, hcd⟩ := F.ex
 refine fn_of lk hcd S len fun A outer s H vs Q E hr hsp => ?_
 obtain ⟨t, h, q⟩ := hbody cdv A outer s H vs Q E hr hsp
 exact ⟨t, h.nox, q⟩
structure Def (K : PySem.W.Frag) (mg : Str -> Option Value) (x : Str) (st : Stmt) (ps : List Str) (f : Addr) (fd : FuncData) : Prop where
 fn : Fun K x x st f fd
 mg : mg x = some (.ref f)
 bd : Binds K fd ps []
theorem cM {h : Heap} (KX : K.In h) (G : h.Ns mainGlobals mg) {x : Str} {st : Stmt} {ps : List Str} {f : Addr} {oc : Value} {od an : Option Addr} {osl : Array (Option Value)} {kV doc pm cdv ct : Value}
  (a : PySem.W.nsIn K mainGlobals x = some (some (.ref f))) (l : K.lookup f = some ⟨oc, od, .func (PySem.W.fnOf x x (aG st) (aE st) (af st) .none kV doc pm an cdv ct), osl⟩) (c : PySem.W.codeIn K cdv x = true) (k : PySem.W.keepIn K (.ref f) = true)
  (hb : ∀ (kV doc pm : Value) (an : Option Addr) (cdv ct : Value) (us : List Value), us.length = ps.length -> bindArgs (PySem.W.fnOf x x (aG st) (aE st) (af st) .none kV doc pm an cdv ct) ⟨us, []⟩ = pure (ps.zip us)) :
  Def K mg x st ps f (PySem.W.fnOf x x (aG st) (aE st) (af st) .none kV doc pm an cdv ct) :=
 ⟨Bk l c k, PySem.W.mg_of KX G a, (Bk l c k).binds hb⟩
structure Mth (K : PySem.W.Frag) (C : Addr) (x qual : Str) (st : Stmt) (ps : List Str) (f : Addr) (fd : FuncData) : Prop where
 fn : Fun K x qual st f fd
 mt : Meth K C x f
 bd : Binds K fd ps []
theorem yu {C : Addr} {x qual : Str} {st : Stmt} {ps : List Str} {f : Addr} {oc : Value} {od an : Option Addr} {osl : Array (Option Value)} {kV doc pm cdv ct : Value}
  (a : PySem.W.findIn K (.ref C) x = some (some (.ref f))) (i : PySem.W.isFn K (.ref f) = true) (l : K.lookup f = some ⟨oc, od, .func 'D', osl⟩) (c : PySem.W.codeIn K cdv qual = true) (k : PySem.W.keepIn K (.ref f) = true)
  (hb : ∀ (kV doc pm : Value) (an : Option Addr) (cdv ct : Value) (us : List Value), us.length = ps.length -> bindArgs 'D' ⟨us, []⟩ = pure (ps.zip us)) :
  Mth K C x qual st ps f 'D' :=
 ⟨Bk l c k, ⟨a, i, k⟩, (Bk l c k).binds hb⟩
structure Kls (K : PySem.W.Frag) (mg : Str -> Option Value) (x : Str) (C : Addr) : Prop where
 cl : Cls K C
 mg : mg x = some (.ref C)
 mks : PySem.W.makesIn K C = true
 kp : PySem.W.keepIn K (.ref C) = true
 c1 : PySem.W.findIn K (.ref C) "__class__" = some (some 'q')
 c2 : PySem.W.specialIn K 'q' "__get__" = some (some (.builtin "getset_descriptor.__get__"))
 c3 : PySem.W.takesIn K 'q' = some true
 c4 : PySem.W.mroIn K C (.type "object") = some true
theorem kls_of {h : Heap} (KX : K.In h) (G : h.Ns mainGlobals mg) {x : Str} {C : Addr} (a : PySem.W.nsIn K mainGlobals x = some (some (.ref C)))
  (pg : PySem.W.plainGet K C Str.empty = true) (hd : PySem.W.hasDictIn K C = true) (po : PySem.W.plainOver K C = true) (sa : PySem.W.findIn K (.ref C) "__setattr__" = some (some (.builtin "object.__setattr__"))) (mk : PySem.W.makesIn K C = true) (kp : PySem.W.keepIn K (.ref C) = true)
  (c1 : PySem.W.findIn K (.ref C) "__class__" = some (some 'q')) (c2 : PySem.W.specialIn K 'q' "__get__" = some (some (.builtin "getset_descriptor.__get__")))
  (c3 : PySem.W.takesIn K 'q' = some true) (c4 : PySem.W.mroIn K C (.type "object") = some true) : Kls K mg x C :=
 ⟨⟨pg, hd, po, sa⟩, PySem.W.mg_of KX G a, mk, kp, c1, c2, c3, c4⟩
end
section
variable {X : Cx} {K : PySem.W.Frag}
theorem call_isiK (hK : X.K = K := by rfl) : gL X (.builtin "isinstance") (fun xs H Q => ∃ x y c t b, xs = [x, y] /\ clsV y = some c /\ BA K H x t /\ PySem.W.kitOne K t c = some b /\ Q (.bl b) H) := by subst hK; exact call_isi
theorem pg_c {N' : List Str} {sc : Scope} {L : Addr} {cs : List (Str × Addr)} {s : Shared} {H : Hp} {fp : List Addr} {pos : Pos} {i : Nat} {x : Str} (hN : N'.Nodup) (hi : N'[i]? = some x) (hx : Loc 'd'.env.scope x)
  (hf : 'd'.fn x = true \/ 'd'.env.scope.names.lookup x = some .local := by first | exact .inl rfl | exact .inr rfl | assumption) : PG 'd' (.Name x pos) (tQ i) := zW hN hi hx hf
end
structure Grid (H : Hp) (a : Addr) (as : List Addr) (rows : List (List Int)) : Prop where
 top : H a = some (.lst (as.map V.ref))
 len : as.length = rows.length
 row : ∀ (i : Nat) (b : Addr) (r : List Int), as[i]? = some b -> rows[i]? = some r -> H b = some (.lst (r.map V.int))
theorem bj.upd {H : Hp} {a : Addr} {o : HO} (h : H a = none) : bj H (upd H a o) := fun b u e => by rw [ar (aQ e h)]; exact e
end L2
namespace L2
open PySem PySem.Spec PyProof.Rows
section
variable {X : Cx} {CX : CXT} {k : Nat} {f C : Addr} {fd : FuncData} {ps : List Str} {sp : Sp} {dvs : List V} {ds : List Value} {E : XK} {x m : Str} {p pos apos : Pos} {e : Expr} {es : List Expr} {t : TA} {mc : Value}
structure Stat (K : PySem.W.Frag) (C : Addr) (mc : Value) (m : Str) (f : Addr) : Prop where
 s1 : PySem.W.specialIn K (.ref C) "__getattribute__" = some (some (.builtin "type.__getattribute__"))
 s2 : PySem.W.readsIn K C mc = true
 s3 : PySem.W.findCls K (.ref C) mc m = some (.val (.ref f))
 s4 : PySem.W.keepIn K (.ref f) = true
theorem pe_cmeth {pl : Sem Bool} (S : Stat X.K C mc m f) (hg : Gl X x) (hm : X.mg x = some (.ref C)) (F : bx X.prog X.w X.K X.mg X.base CX k f fd ps sp) (hr : kg k X.A) (hb : Binds X.K fd ps ds) (hd : Vals dvs ds) (hx : Passes CX X E) (ha : PA X (e :: es) t)
  (hdb : 'c' = false := by decide)
  (hst : starEach (e :: es) X.env = 'k' :: starEach es X.env := by rfl) (hpl : 'm'.any (·.1) = false := by rfl)
  (ht : eval (.Call (.Attribute (.Name x p) m apos) (e :: es) [] pos) X.env = (do
   let ov <- eval (.Name x p) X.env
   standAt apos.atName
   let (f, first) <- holding [ov] (getMethod ov m pl)
   callWith pos f first (backTo pos (starEach (e :: es) X.env)) (backToKw pos (keywordEach [] X.env))) := by rfl) :
  PE X (.Call (.Attribute (.Name x p) m apos) (e :: es) [] pos) (tCall sp dvs E t) := by
 intro pins s σ H Q I h
 refine PySem.W.methodCall_KW (pl := pl) (lL I hg hm ?_ hdb) ht
 refine PySem.W.method_cls I.kIn S.s1 (PySem.W.cls_value I.kIn S.s2 S.s3 rfl ?_)
 refine PySem.W.callWith_K (first := []) (h₀ := X.base) I.ok.mod.kin S.s4 (thn (ha pos pins _ σ H _ (I.tok (s.toks + 1)) h) fun us s2 ⟨vs, H2, I2, r, q2⟩ => ⟨I2.kIn, ?_⟩) hst hpl
 exact CT (us := us) (vs := vs) F hr hb hd hx I2 r q2
end
noncomputable def Keeps (S : Addr -> Prop) (H H' : Hp) : Prop := ∀ b o, H b = some o -> ¬ S b -> H' b = some o
theorem Keeps.refl (S : Addr -> Prop) (H : Hp) : Keeps S H H := fun _ _ e _ => e
end L2
namespace L2
open PySem PySem.Spec PyProof.Rows
section
variable {X : Cx} {a b c d : Expr} {ta tb tc td : TE} {pos : Pos}
theorem bj.tup {K : PySem.W.Frag} {H H' : Hp} {a : Addr} {xs : List V} (e : bj H H') (h : SqT K H a xs) : SqT K H' a xs := by
 rcases h with (h | ⟨o, h⟩) | h
 ·exact .inl (.inl (e _ _ h))
 ·exact .inl (.inr ⟨o, e _ _ h⟩)
 ·exact .inr h
end
end L2
namespace L2
open PySem PySem.Spec PyProof.Rows
theorem B0 {K : PySem.W.Frag} {a : Addr} {H : Hp} {xs : List V} (h : H a = some (.lst xs)) : tyV K "list" (.ref a) H := .inl ⟨rfl, _, SqL.of h⟩
inductive Dat where
 | non | bl (b : Bool) | int (i : Int) | str (x : Str) | tup (ds : List Dat) | lst (ds : List Dat) | ins (C : Addr) (fs : List (Str × Dat))
mutual
noncomputable def cR (K : PySem.W.Frag) (F : Hp) : Dat -> V -> Prop
 | .non, v => v = .non
 | .bl b, v => v = .bl b
 | .int i, v => v = .int i
 | .str x, v => v = .str x
 | .tup ds, v => ∃ a xs, v = .ref a /\ SqT K F a xs /\ aD K F ds xs
 | .lst ds, v => ∃ a xs, v = .ref a /\ SqL K F a xs /\ aD K F ds xs
 | .ins C gs, v => ∃ a dx fs, v = .ref a /\ F a = some (.ins C dx fs) /\ pj K F gs fs
noncomputable def aD (K : PySem.W.Frag) (F : Hp) : List Dat -> List V -> Prop
 | [], xs => xs = []
 | d :: ds, xs => ∃ v vs, xs = v :: vs /\ cR K F d v /\ aD K F ds vs
noncomputable def pj (K : PySem.W.Frag) (F : Hp) : List (Str × Dat) -> List (Str × V) -> Prop
 | [], fs => fs = []
 | (f, d) :: gs, fs => ∃ v r, fs = (f, v) :: r /\ cR K F d v /\ pj K F gs r
end
mutual
noncomputable def kK : Dat -> Bool
 | .tup ds => sq ds
 | .lst _ => false
 | .ins _ _ => false
 | _ => true
noncomputable def sq : List Dat -> Bool
 | [] => true
 | d :: ds => kK d && sq ds
end
theorem bj.lst {K : PySem.W.Frag} {H H' : Hp} {a : Addr} {xs : List V} (e : bj H H') (h : SqL K H a xs) : SqL K H' a xs := by
 rcases h with (h | ⟨o, h⟩) | h
 ·exact .inl (.inl (e _ _ h))
 ·exact .inl (.inr ⟨o, e _ _ h⟩)
 ·exact .inr h
mutual
theorem cR.mono {K : PySem.W.Frag} {F F' : Hp} (s : bj F F') : ∀ {d : Dat} {v : V}, cR K F d v -> cR K F' d v
 | .non, _, h => h
 | .bl _, _, h => h
 | .int _, _, h => h
 | .str _, _, h => h
 | .tup _, _, ⟨a, xs, e, q, r⟩ => ⟨a, xs, e, s.tup q, aD.mono s r⟩
 | .lst _, _, ⟨a, xs, e, q, r⟩ => ⟨a, xs, e, s.lst q, aD.mono s r⟩
 | .ins _ _, _, ⟨a, dx, fs, e, q, r⟩ => ⟨a, dx, fs, e, s _ _ q, pj.mono s r⟩
theorem aD.mono {K : PySem.W.Frag} {F F' : Hp} (s : bj F F') : ∀ {ds : List Dat} {xs : List V}, aD K F ds xs -> aD K F' ds xs
 | [], _, h => h
 | _ :: _, _, ⟨v, vs, e, q, r⟩ => ⟨v, vs, e, cR.mono s q, aD.mono s r⟩
theorem pj.mono {K : PySem.W.Frag} {F F' : Hp} (s : bj F F') : ∀ {gs : List (Str × Dat)} {fs : List (Str × V)}, pj K F gs fs -> pj K F' gs fs
 | [], _, h => h
 | (_, _) :: _, _, ⟨v, r, e, q, t⟩ => ⟨v, r, e, cR.mono s q, pj.mono s t⟩
end
mutual
theorem cR.flat {K : PySem.W.Frag} {F F' : Hp} (s : ∀ a xs, SqT K F a xs -> SqT K F' a xs) : ∀ {d : Dat} {v : V}, kK d = true -> cR K F d v -> cR K F' d v
 | .non, _, _, h => h
 | .bl _, _, _, h => h
 | .int _, _, _, h => h
 | .str _, _, _, h => h
 | .tup ds, _, f, ⟨a, xs, e, q, r⟩ => ⟨a, xs, e, s _ _ q, aD.flat s (by simpa [kK] using f) r⟩
 | .lst _, _, f, _ => by simp [kK] at f
 | .ins _ _, _, f, _ => by simp [kK] at f
theorem aD.flat {K : PySem.W.Frag} {F F' : Hp} (s : ∀ a xs, SqT K F a xs -> SqT K F' a xs) : ∀ {ds : List Dat} {xs : List V}, sq ds = true -> aD K F ds xs -> aD K F' ds xs
 | [], _, _, h => h
 | d :: ds, _, f, ⟨v, vs, e, q, r⟩ => by
  simp only [sq, Bool.and_eq_true] at f
  exact ⟨v, vs, e, cR.flat s f.1 q, aD.flat s f.2 r⟩
end
theorem aD.length {K : PySem.W.Frag} {F : Hp} : ∀ {ds : List Dat} {xs : List V}, aD K F ds xs -> xs.length = ds.length
 | [], _, h => by rw [show _ = [] from h]; rfl
 | _ :: _, _, ⟨_, _, e, _, r⟩ => by rw [e, List.length_cons, List.length_cons, aD.length r]
theorem aD.get {K : PySem.W.Frag} {F : Hp} : ∀ {ds : List Dat} {xs : List V} {i : Nat} {d : Dat}, aD K F ds xs -> ds[i]? = some d -> ∃ v, xs[i]? = some v /\ cR K F d v
 | [], _, _, _, _, e => by simp at e
 | _ :: _, _, 0, _, ⟨v, vs, e, q, _⟩, h => by
  simp only [List.getElem?_cons_zero, Option.some.injEq] at h
  subst h e
  exact ⟨v, rfl, q⟩
 | _ :: _, _, i + 1, _, ⟨v, vs, e, _, r⟩, h => by
  subst e
  simp only [List.getElem?_cons_succ] at h ⊢
  exact aD.get r h
theorem aD.at {K : PySem.W.Frag} {F : Hp} {ds : List Dat} {xs : List V} {i : Nat} {v : V} (r : aD K F ds xs) (h : xs[i]? = some v) : ∃ d, ds[i]? = some d /\ cR K F d v := by
 have hi : i < ds.length := by rw [<- r.length]; exact (List.getElem?_eq_some_iff.mp h).1
 obtain ⟨w, e, q⟩ := r.get (i := i) (d := ds[i]) (by simp [hi])
 rw [h] at e
 have e' := Option.some.inj e
 subst e'
 exact ⟨ds[i], by simp [hi], q⟩
theorem aD.cons {K : PySem.W.Frag} {F : Hp} {d : Dat} {v : V} {ds : List Dat} {xs : List V} (q : cR K F d v) (r : aD K F ds xs) : aD K F (d :: ds) (v :: xs) := ⟨v, xs, rfl, q, r⟩
theorem aD.append {K : PySem.W.Frag} {F : Hp} : ∀ {ds es : List Dat} {xs ys : List V}, aD K F ds xs -> aD K F es ys -> aD K F (ds ++ es) (xs ++ ys)
 | [], _, _, _, h, r => by rw [show _ = [] from h]; exact r
 | _ :: _, _, _, _, ⟨v, vs, e, q, t⟩, r => by subst e; exact ⟨v, _, rfl, q, aD.append t r⟩
theorem aD.take {K : PySem.W.Frag} {F : Hp} : ∀ {ds : List Dat} {xs : List V} (n : Nat), aD K F ds xs -> aD K F (ds.take n) (xs.take n)
 | _, _, 0, _ => rfl
 | [], _, _ + 1, h => by rw [show _ = [] from h]; rfl
 | _ :: _, _, n + 1, ⟨v, vs, e, q, r⟩ => by subst e; exact ⟨v, _, rfl, q, aD.take n r⟩
theorem aD.drop {K : PySem.W.Frag} {F : Hp} : ∀ {ds : List Dat} {xs : List V} (n : Nat), aD K F ds xs -> aD K F (ds.drop n) (xs.drop n)
 | _, _, 0, h => h
 | [], _, _ + 1, h => by rw [show _ = [] from h]; rfl
 | _ :: _, _, n + 1, ⟨v, vs, e, q, r⟩ => by subst e; exact aD.drop n r
theorem aD.set {K : PySem.W.Frag} {F : Hp} {d : Dat} {v : V} (q : cR K F d v) : ∀ {ds : List Dat} {xs : List V} (n : Nat), aD K F ds xs -> aD K F (ds.set n d) (xs.set n v)
 | [], _, _, h => by rw [show _ = [] from h]; rfl
 | _ :: _, _, 0, ⟨w, vs, e, _, r⟩ => by subst e; exact ⟨v, _, rfl, q, r⟩
 | _ :: _, _, n + 1, ⟨w, vs, e, p, r⟩ => by subst e; exact ⟨w, _, rfl, p, aD.set q n r⟩
theorem aD.eraseIdx {K : PySem.W.Frag} {F : Hp} : ∀ {ds : List Dat} {xs : List V} (n : Nat), aD K F ds xs -> aD K F (ds.eraseIdx n) (xs.eraseIdx n)
 | [], _, _, h => by rw [show _ = [] from h]; rfl
 | _ :: _, _, 0, ⟨w, vs, e, _, r⟩ => by subst e; exact r
 | _ :: _, _, n + 1, ⟨w, vs, e, p, r⟩ => by subst e; exact ⟨w, _, rfl, p, aD.eraseIdx n r⟩
theorem aD.of_get {K : PySem.W.Frag} {F : Hp} : ∀ {ds : List Dat} {xs : List V}, xs.length = ds.length -> (∀ (i : Nat) d v, ds[i]? = some d -> xs[i]? = some v -> cR K F d v) -> aD K F ds xs
 | [], [], _, _ => rfl
 | [], _ :: _, h, _ => by simp at h
 | _ :: _, [], h, _ => by simp at h
 | d :: ds, v :: vs, h, q => ⟨v, vs, rfl, q 0 d v rfl rfl, aD.of_get (by simpa using h) fun i e w h1 h2 => q (i + 1) e w (by simpa using h1) (by simpa using h2)⟩
structure Step (F H F' H' : Hp) : Prop where
 ff : bj F F'
 hh : bj H H'
 fh : bj F' H'
 nw : ∀ b o, F' b = some o -> F b = some o \/ H b = none
theorem Step.refl {F H : Hp} (s : bj F H) : Step F H F H := ⟨bj.refl _, bj.refl _, s, fun _ _ h => .inl h⟩
theorem Step.trans {F H F1 H1 F2 H2 : Hp} (a : Step F H F1 H1) (b : Step F1 H1 F2 H2) : Step F H F2 H2 :=
 ⟨a.ff.trans b.ff, a.hh.trans b.hh, b.fh, fun x o h => (b.nw x o h).elim (fun z => a.nw x o z) fun z => .inr (a.hh.free z)⟩
theorem Step.lay {F H : Hp} {p : Addr} {o : HO} (s : bj F H) (hp : H p = none) : Step F H (upd F p o) (upd H p o) :=
 ⟨bj.upd (s.free hp), bj.upd hp, fun b u h => by
  by_cases e : b = p
  ·subst e; rw [av] at h ⊢; exact h
  ·rw [ar e] at h ⊢; exact s b u h, fun b u h => by
  by_cases e : b = p
  ·subst e; exact .inr hp
  ·rw [ar e] at h; exact .inl h⟩
theorem Step.grow {F H : Hp} {p : Addr} {o : HO} (s : bj F H) (hp : H p = none) : Step F H F (upd H p o) :=
 ⟨bj.refl _, bj.upd hp, s.trans (bj.upd hp), fun _ _ h => .inl h⟩
noncomputable def EO (K : PySem.W.Frag) (F H0 H : Hp) : Dat -> V -> Prop
 | .lst ds, v => ∃ a xs, v = .ref a /\ H a = some (.lst xs) /\ F a = none /\ H0 a = none /\ aD K F ds xs
 | d, v => cR K F d v
noncomputable def Val (K : PySem.W.Frag) (own : Bool) (F H0 H : Hp) (d : Dat) (v : V) : Prop := if own = true then EO K F H0 H d v else cR K F d v
theorem EO.back {K : PySem.W.Frag} {F H0 H1 H : Hp} {d : Dat} {v : V} (s : bj H0 H1) (h : EO K F H1 H d v) : EO K F H0 H d v := by
 cases d with
 | lst ds => obtain ⟨a, xs, e, p, q, z, r⟩ := h; exact ⟨a, xs, e, p, q, s.free z, r⟩
 | _ => exact h
theorem Val.back {K : PySem.W.Frag} {own : Bool} {F H0 H1 H : Hp} {d : Dat} {v : V} (s : bj H0 H1) (h : Val K own F H1 H d v) : Val K own F H0 H d v := by
 cases own with
 | true => exact EO.back s h
 | false => exact h
theorem EO.freeze {K : PySem.W.Frag} {F H0 H : Hp} {d : Dat} {v : V} (s : bj F H) (h : EO K F H0 H d v) : ∃ F', bj F F' /\ bj F' H /\ (∀ b o, F' b = some o -> F b = some o \/ H0 b = none) /\ cR K F' d v := by
 cases d with
 | lst ds =>
  obtain ⟨a, xs, e, p, q, z, r⟩ := h
  refine ⟨upd F a (.lst xs), bj.upd q, fun b o h => ?_, fun b o h => ?_, a, xs, e, SqL.of av, r.mono (bj.upd q)⟩
  ·by_cases e : b = a
   ·subst e; rw [av] at h; rw [p, <- h]
   ·rw [ar e] at h; exact s b o h
  ·by_cases e : b = a
   ·subst e; exact .inr z
   ·rw [ar e] at h; exact .inl h
 | _ => exact ⟨F, bj.refl _, s, fun _ _ z => .inl z, h⟩
inductive Err where
 | stuck | exc (C : Addr) (fs : List (Str × Dat))
noncomputable abbrev M := Except Err
noncomputable abbrev ak := List (Option Dat)
structure gS where
 p : Err -> Hp -> Hp -> Prop
 mono : ∀ {e : Err} {F H F' H' : Hp}, p e F H -> Step F H F' H' -> p e F' H'
 ns : ∀ {F H : Hp}, p .stuck F H -> False
noncomputable def Wno : gS := ⟨fun _ _ _ => False, fun h _ => h, fun h => h⟩
noncomputable def aL (K : PySem.W.Frag) (W : gS) (own : Bool) (F H : Hp) (r : M Dat) (Q : VK) : Prop := match r with
 | .ok d => ∀ v F' H', Step F H F' H' -> Val K own F' H H' d v -> Q v H'
 | .error e => W.p e F H
theorem aL.step {K : PySem.W.Frag} {W : gS} {own : Bool} {F H F1 H1 : Hp} {r : M Dat} {Q : VK} (p : aL K W own F H r Q) (s : Step F H F1 H1) : aL K W own F1 H1 r Q := by
 cases r with
 | ok d => exact fun v F' H' t q => p v F' H' (s.trans t) (q.back s.hh)
 | error e => exact W.mono p s
theorem aL.frz {K : PySem.W.Frag} {W : gS} {F H : Hp} {r : M Dat} {Q : VK} (p : aL K W false F H r Q) : aL K W true F H r Q := by
 cases r with
 | ok d =>
  intro v F' H' t q
  obtain ⟨F2, s1, s2, n, z⟩ := EO.freeze t.fh q
  exact p v F2 H' ⟨t.ff.trans s1, t.hh, s2, fun b o h => (n b o h).elim (fun z => t.nw b o z) .inr⟩ z
 | error e => exact p
structure qk (K : PySem.W.Frag) (F : Hp) (σ : St) (ρ : ak) : Prop where
 len : ρ.length = σ.length
 sl : ∀ (i : Nat) (d : Dat), ρ[i]? = some (some d) -> ∃ v, σ[i]? = some (some v) /\ cR K F d v
theorem qk.mono {K : PySem.W.Frag} {F F' : Hp} {σ : St} {ρ : ak} (r : qk K F σ ρ) (s : bj F F') : qk K F' σ ρ :=
 ⟨r.len, fun i d e => let ⟨v, h, q⟩ := r.sl i d e; ⟨v, h, q.mono s⟩⟩
theorem qk.set {K : PySem.W.Frag} {F : Hp} {σ : St} {ρ : ak} {d : Dat} {v : V} (r : qk K F σ ρ) (q : cR K F d v) (i : Nat) : qk K F (σ.set i (some v)) 'S' :=
 ⟨by rw [List.length_set, List.length_set, r.len], fun j e h => by
  by_cases hij : i = j
  ·subst hij
   have hi : i < ρ.length := by
    have := (List.getElem?_eq_some_iff.mp h).1
    simpa using this
   rw [List.getElem?_set_self hi] at h
   cases h
   exact ⟨v, by rw [List.getElem?_set_self (by rw [<- r.len]; exact hi)], q⟩
  ·rw [List.getElem?_set_ne hij] at h
   obtain ⟨w, h1, h2⟩ := r.sl j e h
   exact ⟨w, by rw [List.getElem?_set_ne hij]; exact h1, h2⟩⟩
noncomputable def tD (K : PySem.W.Frag) (W : gS) (own : Bool) (f : ak -> M Dat) : TE := fun σ H Q => ∃ F ρ, qk K F σ ρ /\ bj F H /\ aL K W own F H (f ρ) Q
theorem cq {K : PySem.W.Frag} {W : gS} {own : Bool} {f : ak -> M Dat} {σ : St} {ρ : ak} {F H : Hp} {R : VK} (r : qk K F σ ρ) (s : bj F H) (hE : ∀ e, f ρ = .error e -> W.p e F H)
  (hO : ∀ d, f ρ = .ok d -> ∀ v F1 H1, Step F H F1 H1 -> Val K own F1 H H1 d v -> R v H1) : tD K W own f σ H R := by
 refine ⟨F, ρ, r, s, ?_⟩
 cases e : f ρ with
 | ok d => exact hO d e
 | error x => exact hE x e
noncomputable def tDT (K : PySem.W.Frag) (W : gS) (f : ak -> M Bool) : TT := fun σ H Q => ∃ F ρ, qk K F σ ρ /\ bj F H /\ (match f ρ with
 | .ok b => ∀ F' H', Step F H F' H' -> Q b H'
 | .error e => W.p e F H)
theorem nq {K : PySem.W.Frag} {W : gS} {f : ak -> M Bool} {σ : St} {ρ : ak} {F H : Hp} {R : Bool -> Hp -> Prop} (r : qk K F σ ρ) (s : bj F H) (hE : ∀ e, f ρ = .error e -> W.p e F H)
  (hO : ∀ b, f ρ = .ok b -> ∀ F1 H1, Step F H F1 H1 -> R b H1) : tDT K W f σ H R := by
 refine ⟨F, ρ, r, s, ?_⟩
 cases e : f ρ with
 | ok d => exact hO d e
 | error x => exact hE x e
noncomputable def tDA (K : PySem.W.Frag) (W : gS) (f : ak -> M (List Dat)) : TA := fun σ H Q => ∃ F ρ, qk K F σ ρ /\ bj F H /\ (match f ρ with
 | .ok ds => ∀ vs F' H', Step F H F' H' -> aD K F' ds vs -> Q vs H'
 | .error e => W.p e F H)
theorem pB {K : PySem.W.Frag} {W : gS} {f : ak -> M (List Dat)} {σ : St} {ρ : ak} {F H : Hp} {R : List V -> Hp -> Prop} (r : qk K F σ ρ) (s : bj F H) (hE : ∀ e, f ρ = .error e -> W.p e F H)
  (hO : ∀ ds, f ρ = .ok ds -> ∀ vs F1 H1, Step F H F1 H1 -> aD K F1 ds vs -> R vs H1) : tDA K W f σ H R := by
 refine ⟨F, ρ, r, s, ?_⟩
 cases e : f ρ with
 | ok d => exact hO d e
 | error x => exact hE x e
noncomputable def ah (i : Nat) : ak -> M Dat := fun ρ => match ρ[i]? with
 | some (some d) => .ok d
 | _ => .error .stuck
noncomputable def fC (d : Dat) : ak -> M Dat := fun _ => .ok d
noncomputable def f1 (g : Dat -> M Dat) (fa : ak -> M Dat) : ak -> M Dat := fun ρ => (fa ρ).bind g
noncomputable def f2 (g : Dat -> Dat -> M Dat) (fa fb : ak -> M Dat) : ak -> M Dat := fun ρ => (fa ρ).bind fun a => (fb ρ).bind fun b => g a b
noncomputable def aN : ak -> M (List Dat) := fun _ => .ok []
noncomputable def a9 (fa : ak -> M Dat) (fr : ak -> M (List Dat)) : ak -> M (List Dat) := fun ρ => (fa ρ).bind fun a => (fr ρ).bind fun r => .ok (a :: r)
noncomputable def fL (g : List Dat -> M Dat) (fr : ak -> M (List Dat)) : ak -> M Dat := fun ρ => (fr ρ).bind g
noncomputable def fZ (ds : List Dat) : M Dat := if ds.length <= sizeLine then .ok (.tup ds) else .error .stuck
noncomputable def gA (ds : List Dat) : M Dat := if ds.length <= sizeLine then .ok (.lst ds) else .error .stuck
noncomputable def fIte (ft : ak -> M Bool) (fa fb : ak -> M Dat) : ak -> M Dat := fun ρ => (ft ρ).bind fun b => if b = true then fa ρ else fb ρ
noncomputable def fAnd (ft fu : ak -> M Bool) : ak -> M Bool := fun ρ => (ft ρ).bind fun b => if b = true then fu ρ else .ok false
noncomputable def fOr (ft fu : ak -> M Bool) : ak -> M Bool := fun ρ => (ft ρ).bind fun b => if b = true then .ok true else fu ρ
noncomputable def Ak (ft : ak -> M Bool) : ak -> M Bool := fun ρ => (ft ρ).bind fun b => .ok (!b)
noncomputable def asB : Dat -> M Bool
 | .bl b => .ok b
 | _ => .error .stuck
noncomputable def fB (fa : ak -> M Dat) : ak -> M Bool := fun ρ => (fa ρ).bind asB
noncomputable def w9 (fa fb : ak -> M Dat) : ak -> M Dat := fun ρ => (fa ρ).bind fun a => (asB a).bind fun b => if b = true then fb ρ else .ok (.bl false)
noncomputable def notD : Dat -> M Dat
 | .bl b => .ok (.bl (!b))
 | _ => .error .stuck
noncomputable def truD : Dat -> M Bool
 | .non => .ok false
 | .bl b => .ok b
 | .int i => .ok (i != 0)
 | .str x => if x.length <= sizeLine then .ok ((x.length : Int) != 0) else .error .stuck
 | .tup ds => .ok (!ds.isEmpty)
 | .lst ds => .ok (!ds.isEmpty)
 | _ => .error .stuck
noncomputable def xc (fa : ak -> M Dat) : ak -> M Bool := fun ρ => (fa ρ).bind truD
noncomputable def lg (g g' : Dat -> Dat -> M Dat) (fa fb fc : ak -> M Dat) : ak -> M Dat := fun ρ => (fa ρ).bind fun a => (fb ρ).bind fun b => (g a b).bind fun x => (asB x).bind fun k => if k = true then (fc ρ).bind fun c => g' b c else .ok (.bl false)
noncomputable def rD2 (K : PySem.W.Frag) (W : gS) (own : Bool) (g : Dat -> Dat -> M Dat) : R2 := fun x y H Q => ∃ F a b, bj F H /\ cR K F a x /\ cR K F b y /\ aL K W own F H (g a b) Q
noncomputable def rD1 (K : PySem.W.Frag) (W : gS) (own : Bool) (g : Dat -> M Dat) : V -> Hp -> VK -> Prop := fun x H Q => ∃ F a, bj F H /\ cR K F a x /\ aL K W own F H (g a) Q
noncomputable def rDL (K : PySem.W.Frag) (W : gS) (own : Bool) (g : List Dat -> M Dat) : List V -> Hp -> VK -> Prop := fun xs H Q => ∃ F ds, bj F H /\ aD K F ds xs /\ aL K W own F H (g ds) Q
section
variable {K : PySem.W.Frag} {W : gS} {own : Bool} {σ : St} {H : Hp} {Q : VK} {fa fb fc : ak -> M Dat}
theorem rd_var {i : Nat} (h : tD K W false (ah i) σ H Q) : tVar i σ H Q := by
 obtain ⟨F, ρ, r, s, p⟩ := h
 unfold ah at p
 match e : ρ[i]? with
 | some (some d) =>
  rw [e] at p
  obtain ⟨v, e1, q⟩ := r.sl i d e
  exact ⟨v, e1, p v F H (Step.refl s) q⟩
 | some none => rw [e] at p; exact (W.ns p).elim
 | none => rw [e] at p; exact (W.ns p).elim
theorem rd_c {d : Dat} {v : V} (hd : ∀ F, cR K F d v) (h : tD K W false (fC d) σ H Q) : tC v σ H Q := by
 obtain ⟨F, ρ, r, s, p⟩ := h
 exact p v F H (Step.refl s) (hd F)
theorem aL.err {F : Hp} {x : M Dat} {e : Err} (p : aL K W own F H x Q) (h : x = .error e) : W.p e F H := by rw [h] at p; exact p
theorem rd_1 {g : Dat -> M Dat} (h : tD K W own (f1 g fa) σ H Q) : tUn (rD1 K W own g) (tD K W false fa) σ H Q := by
 obtain ⟨F, ρ, r, s, p⟩ := h
 refine cq r s (fun e he => p.err (by unfold f1; rw [he]; rfl)) fun a ha x F1 H1 s1 q1 => ?_
 refine ⟨F1, a, s1.fh, q1, ?_⟩
 have e : f1 g fa ρ = g a := by unfold f1; rw [ha]; rfl
 rw [e] at p
 exact p.step s1
theorem rd_2 {g : Dat -> Dat -> M Dat} (h : tD K W own (f2 g fa fb) σ H Q) : tOp (rD2 K W own g) (tD K W false fa) (tD K W false fb) σ H Q := by
 obtain ⟨F, ρ, r, s, p⟩ := h
 refine cq r s (fun e he => p.err (by unfold f2; rw [he]; rfl)) fun a ha x F1 H1 s1 q1 => ?_
 refine cq (r.mono s1.ff) s1.fh (fun e he => (p.step s1).err (by unfold f2; rw [ha]; show (fb ρ).bind _ = _; rw [he]; rfl)) fun b hb y F2 H2 s2 q2 => ?_
 refine ⟨F2, a, b, s2.fh, cR.mono s2.ff q1, q2, ?_⟩
 have e : f2 g fa fb ρ = g a b := by unfold f2; rw [ha]; show (fb ρ).bind _ = _; rw [hb]; rfl
 rw [e] at p
 exact p.step (s1.trans s2)
theorem rd_nil {R : List V -> Hp -> Prop} (h : tDA K W aN σ H R) : tNil σ H R := by
 obtain ⟨F, ρ, r, s, p⟩ := h
 exact p [] F H (Step.refl s) rfl
theorem rd_cons {fr : ak -> M (List Dat)} {R : List V -> Hp -> Prop} (h : tDA K W (a9 fa fr) σ H R) : uQ (tD K W false fa) (tDA K W fr) σ H R := by
 obtain ⟨F, ρ, r, s, p⟩ := h
 refine cq r s (fun e he => ?_) fun a ha x F1 H1 s1 q1 => pB (r.mono s1.ff) s1.fh (fun e he => ?_) fun ds hd xs F2 H2 s2 q2 => ?_
 ·have z : a9 fa fr ρ = .error e := by unfold a9; rw [he]; rfl
  rw [z] at p
  exact p
 ·have z : a9 fa fr ρ = .error e := by unfold a9; rw [ha]; show (fr ρ).bind _ = _; rw [he]; rfl
  rw [z] at p
  exact W.mono p s1
 ·have z : a9 fa fr ρ = .ok (a :: ds) := by unfold a9; rw [ha]; show (fr ρ).bind _ = _; rw [hd]; rfl
  rw [z] at p
  exact p (x :: xs) F2 H2 (s1.trans s2) ⟨x, xs, rfl, cR.mono s2.ff q1, q2⟩
theorem rd_L {g : List Dat -> M Dat} {fr : ak -> M (List Dat)} (h : tD K W own (fL g fr) σ H Q) : tDA K W fr σ H fun xs H1 => rDL K W own g xs H1 Q := by
 obtain ⟨F, ρ, r, s, p⟩ := h
 refine pB r s (fun e he => p.err (by unfold fL; rw [he]; rfl)) fun ds hd xs F1 H1 s1 q1 => ⟨F1, ds, s1.fh, q1, ?_⟩
 have e : fL g fr ρ = g ds := by unfold fL; rw [hd]; rfl
 rw [e] at p
 exact p.step s1
theorem rd_tup {fr : ak -> M (List Dat)} (h : tD K W own (fL fZ fr) σ H Q) : tTup (tDA K W fr) σ H Q := by
 obtain ⟨F, ρ, r, s, p⟩ := rd_L h
 refine ⟨F, ρ, r, s, ?_⟩
 cases e : fr ρ with
 | error x => rw [e] at p; exact p
 | ok ds =>
  rw [e] at p
  intro vs F' H' t q
  obtain ⟨F1, es, s1, q1, z⟩ := p vs F' H' t q
  unfold fZ at z
  by_cases hl : es.length <= sizeLine
  ·rw [if_pos hl] at z
   refine ⟨by rw [q1.length]; exact hl, fun a ha => z (.ref a) _ _ (Step.lay s1 ha) ?_⟩
   have : cR K (upd F1 a (.tup vs)) (.tup es) (.ref a) := ⟨a, vs, rfl, SqT.of av, q1.mono (bj.upd (s1.free ha))⟩
   cases own with
   | true => exact this
   | false => exact this
  ·rw [if_neg hl] at z
   exact (W.ns z).elim
theorem rd_lst {fr : ak -> M (List Dat)} (h : tD K W true (fL gA fr) σ H Q) : tLst (tDA K W fr) σ H Q := by
 obtain ⟨F, ρ, r, s, p⟩ := rd_L h
 refine ⟨F, ρ, r, s, ?_⟩
 cases e : fr ρ with
 | error x => rw [e] at p; exact p
 | ok ds =>
  rw [e] at p
  intro vs F' H' t q
  obtain ⟨F1, es, s1, q1, z⟩ := p vs F' H' t q
  unfold gA at z
  by_cases hl : es.length <= sizeLine
  ·rw [if_pos hl] at z
   exact ⟨by rw [q1.length]; exact hl, fun a ha => z (.ref a) F1 _ (Step.grow s1 ha) ⟨a, vs, rfl, av, s1.free ha, ha, q1⟩⟩
  ·rw [if_neg hl] at z
   exact (W.ns z).elim
theorem rd_ite {ft : ak -> M Bool} (h : tD K W own (fIte ft fa fb) σ H Q) : tIf (tDT K W ft) (tD K W own fa) (tD K W own fb) σ H Q := by
 obtain ⟨F, ρ, r, s, p⟩ := h
 refine nq r s (fun e he => p.err (by unfold fIte; rw [he]; rfl)) fun b hb F1 H1 s1 => ?_
 have e : fIte ft fa fb ρ = if b = true then fa ρ else fb ρ := by unfold fIte; rw [hb]; rfl
 rw [e] at p
 cases b with
 | true => exact ⟨F1, ρ, r.mono s1.ff, s1.fh, p.step s1⟩
 | false => exact ⟨F1, ρ, r.mono s1.ff, s1.fh, p.step s1⟩
theorem B3 {f : ak -> M Bool} {F F1 H1 : Hp} {ρ : ak} {R : Bool -> Hp -> Prop} (r : qk K F σ ρ) (s1 : Step F H F1 H1) (p : match f ρ with
 | .ok b => ∀ F' H', Step F H F' H' -> R b H'
 | .error e => W.p e F H) : tDT K W f σ H1 R := by
 refine ⟨F1, ρ, r.mono s1.ff, s1.fh, ?_⟩
 cases e : f ρ with
 | ok b => rw [e] at p; exact fun F' H' t => p F' H' (s1.trans t)
 | error x => rw [e] at p; exact W.mono p s1
theorem rd_and {ft fu : ak -> M Bool} {R : Bool -> Hp -> Prop} (h : tDT K W (fAnd ft fu) σ H R) : tAnd (tDT K W ft) (tDT K W fu) σ H R := by
 obtain ⟨F, ρ, r, s, p⟩ := h
 refine nq r s (fun e he => ?_) fun b hb F1 H1 s1 => ?_
 ·have z : fAnd ft fu ρ = .error e := by unfold fAnd; rw [he]; rfl
  rw [z] at p; exact p
 ·have z : fAnd ft fu ρ = if b = true then fu ρ else .ok false := by unfold fAnd; rw [hb]; rfl
  rw [z] at p
  cases b with
  | true => exact B3 r s1 p
  | false => exact p F1 H1 s1
theorem rd_or {ft fu : ak -> M Bool} {R : Bool -> Hp -> Prop} (h : tDT K W (fOr ft fu) σ H R) : tOr (tDT K W ft) (tDT K W fu) σ H R := by
 obtain ⟨F, ρ, r, s, p⟩ := h
 refine nq r s (fun e he => ?_) fun b hb F1 H1 s1 => ?_
 ·have z : fOr ft fu ρ = .error e := by unfold fOr; rw [he]; rfl
  rw [z] at p; exact p
 ·have z : fOr ft fu ρ = if b = true then .ok true else fu ρ := by unfold fOr; rw [hb]; rfl
  rw [z] at p
  cases b with
  | false => exact B3 r s1 p
  | true => exact p F1 H1 s1
theorem rd_not {ft : ak -> M Bool} {R : Bool -> Hp -> Prop} (h : tDT K W (Ak ft) σ H R) : tNot (tDT K W ft) σ H R := by
 obtain ⟨F, ρ, r, s, p⟩ := h
 refine nq r s (fun e he => ?_) fun b hb F1 H1 s1 => ?_
 ·have z : Ak ft ρ = .error e := by unfold Ak; rw [he]; rfl
  rw [z] at p; exact p
 ·have z : Ak ft ρ = .ok (!b) := by unfold Ak; rw [hb]; rfl
  rw [z] at p; exact p F1 H1 s1
theorem rd_B {R : Bool -> Hp -> Prop} (h : tDT K W (fB fa) σ H R) : tTest (tD K W false fa) σ H R := by
 obtain ⟨F, ρ, r, s, p⟩ := h
 refine cq r s (fun e he => ?_) fun a ha x F1 H1 s1 q1 => ?_
 ·have z : fB fa ρ = .error e := by unfold fB; rw [he]; rfl
  rw [z] at p; exact p
 ·have z : fB fa ρ = asB a := by unfold fB; rw [ha]; rfl
  rw [z] at p
  cases a with
  | bl b => exact ⟨b, q1, p F1 H1 s1⟩
  | _ => exact (W.ns p).elim
theorem tru_of {F H1 : Hp} {a : Dat} {x : V} {b : Bool} (s : bj F H1) (q : cR K F a x) (h : truD a = .ok b) : TruV K x H1 b := by
 cases a with
 | non => rw [show x = .non from q]; exact (Except.ok.inj h).symm
 | bl c => rw [show x = .bl c from q]; exact (Except.ok.inj h).symm
 | int i => rw [show x = .int i from q]; exact (Except.ok.inj h).symm
 | str y =>
  rw [show x = .str y from q]
  have h' : (if y.length <= sizeLine then Except.ok ((y.length : Int) != 0) else Except.error Err.stuck) = Except.ok b := h
  by_cases hy : y.length <= sizeLine
  ·rw [if_pos hy] at h'
   exact ⟨hy, (Except.ok.inj h').symm⟩
  ·rw [if_neg hy] at h'
   cases h'
 | tup ds =>
  obtain ⟨p, xs, e, t, r⟩ := q
  subst e
  refine .inr (.inl ⟨xs, s.tup t, ?_⟩)
  rw [<- Except.ok.inj h]
  cases ds with
  | nil => rw [show xs = [] from r]; rfl
  | cons d ds => obtain ⟨v, vs, e, _⟩ := r; rw [e]; rfl
 | lst ds =>
  obtain ⟨p, xs, e, t, r⟩ := q
  subst e
  refine .inl ⟨xs, s.lst t, ?_⟩
  rw [<- Except.ok.inj h]
  cases ds with
  | nil => rw [show xs = [] from r]; rfl
  | cons d ds => obtain ⟨v, vs, e, _⟩ := r; rw [e]; rfl
 | ins C fs => cases h
theorem rd_tru {R : Bool -> Hp -> Prop} (h : tDT K W (xc fa) σ H R) : tD K W false fa σ H fun x H1 => ∃ k, TruV K x H1 k /\ R k H1 := by
 obtain ⟨F, ρ, r, s, p⟩ := h
 refine cq r s (fun e he => ?_) fun a ha x F1 H1 s1 q1 => ?_
 ·have z : xc fa ρ = .error e := by unfold xc; rw [he]; rfl
  rw [z] at p; exact p
 ·have z : xc fa ρ = truD a := by unfold xc; rw [ha]; rfl
  rw [z] at p
  cases e : truD a with
  | ok b => rw [e] at p; exact ⟨b, tru_of s1.fh q1 e, p F1 H1 s1⟩
  | error x =>
   rw [e] at p
   have : x = .stuck := by
    cases a with
    | str y =>
     have e' : (if y.length <= sizeLine then Except.ok ((y.length : Int) != 0) else Except.error Err.stuck) = Except.error x := e
     by_cases hy : y.length <= sizeLine
     ·rw [if_pos hy] at e'
      cases e'
     ·rw [if_neg hy] at e'
      cases e'
      rfl
    | ins C fs => cases e; rfl
    | _ => cases e
   subst this
   exact (W.ns p).elim
theorem rd_andV (h : tD K W false (w9 fa fb) σ H Q) : tAndV (tD K W false fa) (tD K W false fb) σ H Q := by
 obtain ⟨F, ρ, r, s, p⟩ := h
 refine cq r s (fun e he => p.err (by unfold w9; rw [he]; rfl)) fun a ha x F1 H1 s1 q1 => ?_
 have z : w9 fa fb ρ = (asB a).bind fun b => if b = true then fb ρ else .ok (.bl false) := by unfold w9; rw [ha]; rfl
 rw [z] at p
 cases a with
 | bl b =>
  refine ⟨b, q1, ?_⟩
  cases b with
  | true => exact ⟨F1, ρ, r.mono s1.ff, s1.fh, aL.step (own := false) (r := fb ρ) p s1⟩
  | false => exact p (.bl false) F1 H1 s1 rfl
 | _ => exact (W.ns p).elim
theorem rd_notV (h : tD K W false (f1 notD fa) σ H Q) : tNotV (tD K W false fa) σ H Q := by
 obtain ⟨F, ρ, r, s, p⟩ := h
 refine cq r s (fun e he => p.err (by unfold f1; rw [he]; rfl)) fun a ha x F1 H1 s1 q1 => ?_
 have z : f1 notD fa ρ = notD a := by unfold f1; rw [ha]; rfl
 rw [z] at p
 cases a with
 | bl b => exact ⟨b, q1, p (.bl (!b)) F1 H1 s1 rfl⟩
 | _ => exact (W.ns p).elim
theorem B8 {g g' : Dat -> Dat -> M Dat} (h : tD K W false (lg g g' fa fb fc) σ H Q) : CK (rD2 K W false g) (rD2 K W false g') (tD K W false fa) (tD K W false fb) (tD K W false fc) σ H Q := by
 obtain ⟨F, ρ, r, s, p⟩ := h
 refine cq r s (fun e he => p.err (by unfold lg; rw [he]; rfl)) fun a ha x F1 H1 s1 q1 => ?_
 refine cq (r.mono s1.ff) s1.fh (fun e he => (p.step s1).err (by unfold lg; rw [ha]; show (fb ρ).bind _ = _; rw [he]; rfl)) fun b hb y F2 H2 s2 q2 => ?_
 have z : lg g g' fa fb fc ρ = (g a b).bind fun x => (asB x).bind fun k => if k = true then (fc ρ).bind fun c => g' b c else .ok (.bl false) := by unfold lg; rw [ha]; show (fb ρ).bind _ = _; rw [hb]; rfl
 rw [z] at p
 refine ⟨F2, a, b, s2.fh, cR.mono s2.ff q1, q2, ?_⟩
 have p2 := p.step (s1.trans s2)
 cases e : g a b with
 | error x => rw [e] at p2; exact p2
 | ok d =>
  rw [e] at p2
  intro v F3 H3 s3 q3
  have p3 : aL K W false F3 H3 ((asB d).bind fun k => if k = true then (fc ρ).bind fun c => g' b c else .ok (.bl false)) Q := aL.step p2 s3
  cases d with
  | bl k =>
   refine ⟨k, q3, ?_⟩
   cases k with
   | false => exact p3 (.bl false) F3 H3 (Step.refl s3.fh) rfl
   | true =>
    have p4 : aL K W false F3 H3 ((fc ρ).bind fun c => g' b c) Q := p3
    refine cq (r.mono (s1.trans (s2.trans s3)).ff) s3.fh (fun e he => p4.err (by rw [he]; rfl)) fun c hc w F4 H4 s4 q4 => ⟨F4, b, c, s4.fh, cR.mono (s3.trans s4).ff q2, q4, ?_⟩
    rw [hc] at p4
    exact p4.step s4
  | _ => exact (W.ns p3).elim
end
inductive Pat where
 | nm (i : Nat) | tp (is : List Nat)
noncomputable def lC : List Nat -> List Dat -> ak -> ak
 | i :: is, d :: ds, ρ => lC is ds 'S'
 | _, _, ρ => ρ
noncomputable def gw : Pat -> Dat -> ak -> M ak
 | .nm i, d, ρ => .ok 'S'
 | .tp is, .tup ds, ρ => if ds.length = is.length then .ok (lC is ds ρ) else .error .stuck
 | .tp _, _, _ => .error .stuck
noncomputable def jc : List Nat -> TGs
 | [] => gNil
 | i :: is => gCons (tQ i) (jc is)
noncomputable def gP (K : PySem.W.Frag) : Pat -> TG
 | .nm i => tQ i
 | .tp is => gTup K is.length (jc is)
theorem uo {K : PySem.W.Frag} {F H : Hp} {R : St -> Hp -> Prop} : ∀ {is : List Nat} {ds : List Dat} {vs : List V} {σ : St} {ρ : ak}, qk K F σ ρ -> aD K F ds vs -> ds.length = is.length -> (∀ σ', qk K F σ' (lC is ds ρ) -> R σ' H) -> jc is vs σ H R
 | [], [], _, σ, ρ, r, q, _, h => ⟨q, h σ r⟩
 | [], _ :: _, _, _, _, _, _, e, _ => by simp at e
 | _ :: _, [], _, _, _, _, _, e, _ => by simp at e
 | i :: is, d :: ds, _, σ, ρ, r, ⟨v, vs, e, q, t⟩, l, h => ⟨v, vs, e, uo (r.set q i) t (by simpa using l) h⟩
theorem gP_run {K : PySem.W.Frag} {F H : Hp} {R : St -> Hp -> Prop} {p : Pat} {d : Dat} {v : V} {σ : St} {ρ ρ' : ak} (r : qk K F σ ρ) (s : bj F H) (q : cR K F d v) (e : gw p d ρ = .ok ρ') (h : ∀ σ', qk K F σ' ρ' -> R σ' H) : gP K p v σ H R := by
 cases p with
 | nm i =>
  have := Except.ok.inj e
  subst this
  exact h _ (r.set q i)
 | tp is =>
  cases d with
  | tup ds =>
   have e' : (if ds.length = is.length then Except.ok (lC is ds ρ) else Except.error Err.stuck) = Except.ok ρ' := e
   by_cases hl : ds.length = is.length
   ·rw [if_pos hl] at e'
    have := Except.ok.inj e'
    subst this
    obtain ⟨a, xs, ev, t, z⟩ := q
    exact ⟨a, xs, ev, s.tup t, by rw [z.length, hl], uo r z hl h⟩
   ·rw [if_neg hl] at e'
    cases e'
  | _ => cases e
theorem p9 {p : Pat} {d : Dat} {ρ : ak} {e : Err} (h : gw p d ρ = .error e) : e = .stuck := by
 cases p with
 | nm i => cases h
 | tp is =>
  cases d with
  | tup ds =>
   have e' : (if ds.length = is.length then Except.ok (lC is ds ρ) else Except.error Err.stuck) = Except.error e := h
   by_cases hl : ds.length = is.length
   ·rw [if_pos hl] at e'; cases e'
   ·rw [if_neg hl] at e'; cases e'; rfl
  | _ => cases h; rfl
structure zy (K : PySem.W.Frag) (F1 : Hp) (J : It) (ds : List Dat) : Prop where
 go : ∀ (i : Nat) (F H : Hp), bj F1 F -> bj F H -> i < ds.length -> J.go i H
 yl : ∀ (i : Nat) (F H : Hp) (x : V) (H' : Hp) (d : Dat), bj F1 F -> bj F H -> ds[i]? = some d -> J.yld i H x H' -> ∃ F', Step F H F' H' /\ cR K F' d x
 st : ∀ (F H : Hp), bj F1 F -> bj F H -> J.stop ds.length H
noncomputable def iD (K : PySem.W.Frag) (W : gS) (f : ak -> M (List Dat)) : TI := fun σ H R => ∃ F ρ, qk K F σ ρ /\ bj F H /\ (match f ρ with
 | .ok ds => ∀ J F1 H1, Step F H F1 H1 -> zy K F1 J ds -> R J H1
 | .error e => W.p e F H)
noncomputable def qq : Dat -> M (List Dat)
 | .lst ds => .ok ds
 | .tup ds => .ok ds
 | _ => .error .stuck
noncomputable def fIt (fa : ak -> M Dat) : ak -> M (List Dat) := fun ρ => (fa ρ).bind qq
noncomputable def iSeq (K : PySem.W.Frag) (tl : TE) : TI := fun σ H R => tl σ H fun x H1 => ∃ a, x = .ref a /\ ((∃ xs, SqL K H1 a xs) /\ R (Itl K a) H1 \/ (∃ xs, SqT K H1 a xs) /\ R (Itt K a) H1)
theorem DH {K : PySem.W.Frag} {F : Hp} {a : Addr} {xs : List V} {ds : List Dat} (t : SqL K F a xs) (z : aD K F ds xs) : zy K F (Itl K a) ds where
 go := fun i F' H' s1 s2 hi => ⟨xs, xs[i]'(by rw [z.length]; exact hi), s2.lst (s1.lst t), by simp [z.length, hi]⟩
 yl := fun i F' H' x H2 d s1 s2 hd hy => by
  obtain ⟨e, hy⟩ := hy
  subst e
  obtain ⟨v, e1, q⟩ := z.get hd
  have e2 := hy xs (s2.lst (s1.lst t))
  rw [e1] at e2
  cases e2
  exact ⟨F', Step.refl s2, q.mono s1⟩
 st := fun F' H' s1 s2 => ⟨xs, s2.lst (s1.lst t), by rw [z.length]; exact Nat.le_refl _⟩
theorem iter_tup {K : PySem.W.Frag} {F : Hp} {a : Addr} {xs : List V} {ds : List Dat} (t : SqT K F a xs) (z : aD K F ds xs) : zy K F (Itt K a) ds where
 go := fun i F' H' s1 s2 hi => ⟨xs, xs[i]'(by rw [z.length]; exact hi), s2.tup (s1.tup t), by simp [z.length, hi]⟩
 yl := fun i F' H' x H2 d s1 s2 hd hy => by
  obtain ⟨e, hy⟩ := hy
  subst e
  obtain ⟨v, e1, q⟩ := z.get hd
  have e2 := hy xs (s2.tup (s1.tup t))
  rw [e1] at e2
  cases e2
  exact ⟨F', Step.refl s2, q.mono s1⟩
 st := fun F' H' s1 s2 => ⟨xs, s2.tup (s1.tup t), by rw [z.length]; exact Nat.le_refl _⟩
noncomputable def cj (lo : Int) (n : Nat) : List Dat := (List.range n).map fun k : Nat => Dat.int (lo + k)
theorem C5 {K : PySem.W.Frag} {F : Hp} {lo : Int} {n : Nat} : zy K F (Itr lo n) (cj lo n) where
 go := fun i F' H' s1 s2 hi => by show i < n; simpa [cj] using hi
 yl := fun i F' H' x H2 d s1 s2 hd hy => by
  obtain ⟨e, hy⟩ := hy
  subst e hy
  unfold cj at hd
  rw [List.getElem?_map] at hd
  have hi : i < n := by
   have := (List.getElem?_eq_some_iff.mp (show ((List.range n).map fun k : Nat => Dat.int (lo + k))[i]? = some d by rw [List.getElem?_map]; exact hd)).1
   simpa using this
  rw [List.getElem?_range hi] at hd
  cases hd
  exact ⟨F', Step.refl s2, rfl⟩
 st := fun F' H' s1 s2 => by show n <= _; simp [cj]
noncomputable def dD (i : Int) : Bool := decide (-(2 ^ 62) <= i) && decide (i < 2 ^ 62)
noncomputable def zz : List Dat -> M (List Dat)
 | [.int j] => if dD j = true then .ok (cj 0 j.toNat) else .error .stuck
 | _ => .error .stuck
noncomputable def rl (g : List Dat -> M (List Dat)) (fr : ak -> M (List Dat)) : ak -> M (List Dat) := fun ρ => (fr ρ).bind g
section
variable {K : PySem.W.Frag} {W : gS} {own : Bool} {σ : St} {H : Hp} {Q : VK} {fa fb fc : ak -> M Dat}
theorem ri_seq {R : It -> Hp -> Prop} (h : iD K W (fIt fa) σ H R) : iSeq K (tD K W false fa) σ H R := by
 obtain ⟨F, ρ, r, s, p⟩ := h
 refine cq r s (fun e he => ?_) fun a ha x F1 H1 s1 q1 => ?_
 ·have z : fIt fa ρ = .error e := by unfold fIt; rw [he]; rfl
  rw [z] at p; exact p
 ·have z : fIt fa ρ = qq a := by unfold fIt; rw [ha]; rfl
  rw [z] at p
  cases a with
  | lst ds =>
   obtain ⟨b, xs, e, t, z⟩ := q1
   exact ⟨b, e, .inl ⟨⟨xs, s1.fh.lst t⟩, p _ F1 H1 s1 (DH t z)⟩⟩
  | tup ds =>
   obtain ⟨b, xs, e, t, z⟩ := q1
   exact ⟨b, e, .inr ⟨⟨xs, s1.fh.tup t⟩, p _ F1 H1 s1 (iter_tup t z)⟩⟩
  | _ => exact (W.ns p).elim
theorem ri_rng1 {fr : ak -> M (List Dat)} {R : It -> Hp -> Prop} (h : iD K W (rl zz fr) σ H R) : iRng1 (tDA K W fr) σ H R := by
 obtain ⟨F, ρ, r, s, p⟩ := h
 refine pB r s (fun e he => ?_) fun ds hd xs F1 H1 s1 q1 => ?_
 ·have z : rl zz fr ρ = .error e := by unfold rl; rw [he]; rfl
  rw [z] at p; exact p
 ·have z : rl zz fr ρ = zz ds := by unfold rl; rw [hd]; rfl
  rw [z] at p
  match ds, q1, p with
  | [.int j], ⟨v, vs, e, q, t⟩, p =>
   have p' : match (if dD j = true then Except.ok (cj 0 j.toNat) else Except.error Err.stuck : M (List Dat)) with
    | .ok ds => ∀ J F1 H1, Step F H F1 H1 -> zy K F1 J ds -> R J H1
    | .error e => W.p e F H := p
   by_cases hj : dD j = true
   ·rw [if_pos hj] at p'
    unfold dD at hj
    simp only [Bool.and_eq_true, decide_eq_true_eq] at hj
    exact ⟨j, by rw [e, show v = .int j from q, show vs = [] from t], hj.1, hj.2, p' _ F1 H1 s1 C5⟩
   ·rw [if_neg hj] at p'
    exact (W.ns p').elim
  | [], _, p => exact (W.ns p).elim
  | .non :: _, _, p => exact (W.ns p).elim
  | .bl _ :: _, _, p => exact (W.ns p).elim
  | .str _ :: _, _, p => exact (W.ns p).elim
  | .tup _ :: _, _, p => exact (W.ns p).elim
  | .lst _ :: _, _, p => exact (W.ns p).elim
  | .ins _ _ :: _, _, p => exact (W.ns p).elim
  | .int _ :: _ :: _, _, p => exact (W.ns p).elim
noncomputable def n8 (ix : List (Option Nat)) (ρ : ak) : ak := ix.map fun o => match o with
 | none => none
 | some j => (ρ[j]?).join
noncomputable def ck (p : Pat) (ft : ak -> M Bool) (fe : ak -> M Dat) (ρ0 : ak) : List Dat -> M (List Dat)
 | [] => .ok []
 | d :: ds => (gw p d ρ0).bind fun ρ => (ft ρ).bind fun b => if b = true then (fe ρ).bind fun y => (ck p ft fe ρ0 ds).bind fun r => .ok (y :: r) else ck p ft fe ρ0 ds
noncomputable def lx (fi : ak -> M (List Dat)) (ix : List (Option Nat)) (p : Pat) (ft : ak -> M Bool) (fe : ak -> M Dat) : ak -> M Dat := fun ρ => (fi ρ).bind fun ds => if ds.length <= sizeLine then (ck p ft fe (n8 ix ρ) ds).bind fun r => .ok (.lst r) else .error .stuck
noncomputable def ur : ak -> M Bool := fun _ => .ok true
theorem qk.inS {F : Hp} {ρ : ak} (r : qk K F σ ρ) (ix : List (Option Nat)) : qk K F (L2.inS ix σ) (n8 ix ρ) :=
 ⟨by simp [L2.inS, n8], fun i d e => by
  unfold n8 at e
  unfold L2.inS
  rw [List.getElem?_map] at e ⊢
  cases h : ix[i]? with
  | none => rw [h] at e; cases e
  | some o =>
   rw [h] at e
   cases o with
   | none => cases e
   | some j =>
    simp only [Option.map_some, Option.some.injEq] at e ⊢
    have e1 : ρ[j]? = some (some d) := by
     cases z : ρ[j]? with
     | none => rw [z] at e; cases e
     | some w => rw [z] at e; simp at e; rw [e]
    obtain ⟨v, h1, h2⟩ := r.sl j d e1
    exact ⟨v, by rw [h1]; rfl, h2⟩⟩
theorem CV {fi : ak -> M (List Dat)} {ix : List (Option Nat)} {p : Pat} {ft : ak -> M Bool} {fe : ak -> M Dat} (h : tD K W true (lx fi ix p ft fe) σ H Q) :
  tComp (iD K W fi) ix (gP K p) (tDT K W ft) (tD K W false fe) σ H Q := by
 obtain ⟨F, ρ, r, s, q⟩ := h
 refine ⟨F, ρ, r, s, ?_⟩
 cases hf : fi ρ with
 | error e => exact q.err (by unfold lx; rw [hf]; rfl)
 | ok ds =>
  intro J F1 H1 s1 it
  have e0 : lx fi ix p ft fe ρ = if ds.length <= sizeLine then (ck p ft fe (n8 ix ρ) ds).bind fun r => .ok (.lst r) else .error .stuck := by unfold lx; rw [hf]; rfl
  rw [e0] at q
  by_cases hl : ds.length <= sizeLine
  ·rw [if_pos hl] at q
   refine ⟨fun i m ys H2 => m = ds.length - i /\ i <= ds.length /\ ∃ F2 yd, Step F1 H1 F2 H2 /\ aD K F2 yd ys /\ yd.length <= i /\
    (match ck p ft fe (n8 ix ρ) (ds.drop i) with
     | .ok rr => ck p ft fe (n8 ix ρ) ds = .ok (yd ++ rr)
     | .error e => W.p e F H), ⟨ds.length, by omega, Nat.zero_le _, F1, [], Step.refl s1.fh, rfl, Nat.zero_le _, ?_⟩, ?_⟩
   ·rw [List.drop_zero]
    cases e : ck p ft fe (n8 ix ρ) ds with
    | ok rr => rfl
    | error x => exact q.err (by rw [e]; rfl)
   ·rintro i m ys H2 ⟨rfl, hi, F2, yd, s2, dy, ly, hc⟩
    have lys : ys.length <= sizeLine := by rw [dy.length]; omega
    by_cases hlt : i < ds.length
    ·have ed : ds.drop i = ds[i] :: ds.drop (i + 1) := List.drop_eq_getElem_cons hlt
     rw [ed] at hc
     refine .inr ⟨it.go i F2 H2 s2.ff s2.fh hlt, lys, fun ys' H' => (i + 1 <= ds.length /\ ∃ F2 yd, Step F1 H1 F2 H' /\ aD K F2 yd ys' /\ yd.length <= i + 1 /\
      (match ck p ft fe (n8 ix ρ) (ds.drop (i + 1)) with
       | .ok rr => ck p ft fe (n8 ix ρ) ds = .ok (yd ++ rr)
       | .error e => W.p e F H)), fun ys' H' n => ⟨ds.length - (i + 1), by omega, rfl, n⟩, fun x H' y => ?_⟩
     obtain ⟨F3, s3, q3⟩ := it.yl i F2 H2 x H' ds[i] s2.ff s2.fh (by simp [hlt]) y
     have r3 : qk K F3 (L2.inS ix σ) (n8 ix ρ) := (r.mono (s1.trans (s2.trans s3)).ff).inS ix
     have st3 : Step F H F3 H' := s1.trans (s2.trans s3)
     have ec : ck p ft fe (n8 ix ρ) (ds[i] :: ds.drop (i + 1)) = (gw p ds[i] (n8 ix ρ)).bind fun ρ1 => (ft ρ1).bind fun b => if b = true then (fe ρ1).bind fun y => (ck p ft fe (n8 ix ρ) (ds.drop (i + 1))).bind fun r => .ok (y :: r) else ck p ft fe (n8 ix ρ) (ds.drop (i + 1)) := by rw [ck]
     rw [ec] at hc
     cases hb : gw p ds[i] (n8 ix ρ) with
     | error e =>
      rw [hb] at hc
      have := p9 hb
      subst this
      exact (W.ns hc).elim
     | ok ρ1 =>
      rw [hb] at hc
      refine gP_run r3 s3.fh q3 hb fun σ2 r4 => ?_
      have hc1 : match ((ft ρ1).bind fun b => if b = true then (fe ρ1).bind fun y => (ck p ft fe (n8 ix ρ) (ds.drop (i + 1))).bind fun r => .ok (y :: r) else ck p ft fe (n8 ix ρ) (ds.drop (i + 1))) with
       | .ok rr => ck p ft fe (n8 ix ρ) ds = .ok (yd ++ rr)
       | .error e => W.p e F H := hc
      refine nq r4 s3.fh (fun e he => by rw [he] at hc1; exact W.mono hc1 st3) fun b hb2 F5 H5 s5 => ?_
      rw [hb2] at hc1
      cases b with
      | false =>
       have hc2 : match ck p ft fe (n8 ix ρ) (ds.drop (i + 1)) with
        | .ok rr => ck p ft fe (n8 ix ρ) ds = .ok (yd ++ rr)
        | .error e => W.p e F H := hc1
       exact ⟨hlt, F5, yd, s2.trans (s3.trans s5), dy.mono (s3.trans s5).ff, by omega, hc2⟩
      | true =>
       have hc2 : match ((fe ρ1).bind fun y => (ck p ft fe (n8 ix ρ) (ds.drop (i + 1))).bind fun r => .ok (y :: r)) with
        | .ok rr => ck p ft fe (n8 ix ρ) ds = .ok (yd ++ rr)
        | .error e => W.p e F H := hc1
       refine cq (r4.mono s5.ff) s5.fh (fun e he => by rw [he] at hc2; exact W.mono hc2 (st3.trans s5)) fun d hd v F6 H6 s6 q6 => ?_
       rw [hd] at hc2
       refine ⟨hlt, F6, yd ++ [d], s2.trans (s3.trans (s5.trans s6)), aD.append (dy.mono (s3.trans (s5.trans s6)).ff) ⟨v, [], rfl, q6, rfl⟩, by simp; omega, ?_⟩
       have hc3 : match ((ck p ft fe (n8 ix ρ) (ds.drop (i + 1))).bind fun r => .ok (d :: r) : M (List Dat)) with
        | .ok rr => ck p ft fe (n8 ix ρ) ds = .ok (yd ++ rr)
        | .error e => W.p e F H := hc2
       cases e7 : ck p ft fe (n8 ix ρ) (ds.drop (i + 1)) with
       | ok rr =>
        rw [e7] at hc3
        show _ = Except.ok ((yd ++ [d]) ++ rr)
        rw [List.append_assoc]
        exact hc3
       | error x => rw [e7] at hc3; exact hc3
    ·have : i = ds.length := by omega
     subst this
     rw [List.drop_length] at hc
     have hc' : ck p ft fe (n8 ix ρ) ds = .ok (yd ++ []) := hc
     rw [List.append_nil] at hc'
     rw [hc'] at q
     refine .inl ⟨it.st F2 H2 s2.ff s2.fh, lys, fun a ha => ?_⟩
     have st : Step F H F2 H2 := s1.trans s2
     exact q (.ref a) F2 _ (st.trans (Step.grow s2.fh ha)) ⟨a, ys, rfl, av, s2.fh.free ha, st.hh.free ha, dy⟩
  ·rw [if_neg hl] at q
   exact (W.ns q).elim
end
inductive Flo where
 | nx (ρ : ak) | rt (d : Dat) | bk (ρ : ak) | ct (ρ : ak)
structure Rep (K : PySem.W.Frag) (F0 H0 FB : Hp) (O : List Nat) (F H : Hp) (σ : St) (ρ : ak) : Prop where
 st : Step F0 H0 F H
 fb : bj FB F
 len : ρ.length = σ.length
 fz : ∀ (i : Nat) (d : Dat), ρ[i]? = some (some d) -> i ∉ O -> ∃ v, σ[i]? = some (some v) /\ cR K F d v
 ow : ∀ (i : Nat) (d : Dat), ρ[i]? = some (some d) -> i ∈ O -> ∃ v, σ[i]? = some (some v) /\ EO K F H0 H d v
 ap : ∀ (i j : Nat) (ds es : List Dat) (a : Addr), i ∈ O -> j ∈ O -> ρ[i]? = some (some (.lst ds)) -> ρ[j]? = some (some (.lst es)) -> σ[i]? = some 'X' -> σ[j]? = some 'X' -> i = j
noncomputable def pw (O O2 : List Nat) (σ : St) (ρ : ak) (b : Addr) : Prop := ∃ (i : Nat) (ds : List Dat), i ∈ O /\ i ∉ O2 /\ ρ[i]? = some (some (.lst ds)) /\ σ[i]? = some (some (.ref b))
open Classical in
noncomputable def plus (F H : Hp) (A : Addr -> Prop) : Hp := fun b => if A b then H b else F b
open Classical in
noncomputable def minus (F : Hp) (A : Addr -> Prop) : Hp := fun b => if A b then none else F b
theorem zV {F H : Hp} {A : Addr -> Prop} {b : Addr} (h : A b) : plus F H A b = H b := by unfold plus; rw [if_pos h]
theorem kl {F H : Hp} {A : Addr -> Prop} {b : Addr} (h : ¬ A b) : plus F H A b = F b := by unfold plus; rw [if_neg h]
theorem vM {F : Hp} {A : Addr -> Prop} {b : Addr} (h : A b) : minus F A b = none := by unfold minus; rw [if_pos h]
theorem jU {F : Hp} {A : Addr -> Prop} {b : Addr} (h : ¬ A b) : minus F A b = F b := by unfold minus; rw [if_neg h]
section
variable {K : PySem.W.Frag} {F0 H0 FB F H : Hp} {O O2 : List Nat} {σ : St} {ρ : ak}
theorem Rep.own (r : Rep K F0 H0 FB O F H σ ρ) {b : Addr} (h : pw O O2 σ ρ b) : F b = none /\ H0 b = none /\ ∃ xs, H b = some (.lst xs) := by
 obtain ⟨i, ds, hi, _, e1, e2⟩ := h
 obtain ⟨v, e3, a, xs, e, p, q, z, _⟩ := r.ow i _ e1 hi
 rw [e2] at e3
 cases e3
 cases e
 exact ⟨q, z, xs, p⟩
theorem Rep.ny (r : Rep K F0 H0 FB O F H σ ρ) : bj F (plus F H (pw O O2 σ ρ)) := fun b o h => by
 by_cases hb : pw O O2 σ ρ b
 ·rw [(r.own hb).1] at h; cases h
 ·rw [kl hb]; exact h
theorem Rep.km (r : Rep K F0 H0 FB O F H σ ρ) : bj (plus F H (pw O O2 σ ρ)) H := fun b o h => by
 by_cases hb : pw O O2 σ ρ b
 ·rw [zV hb] at h; exact h
 ·rw [kl hb] at h; exact r.st.fh b o h
theorem Rep.freeze (r : Rep K F0 H0 FB O F H σ ρ) (hs : ∀ i ∈ O2, i ∈ O) : Rep K F0 H0 FB O2 (plus F H (pw O O2 σ ρ)) H σ ρ where
 st := ⟨r.st.ff.trans r.ny, r.st.hh, r.km, fun b o h => by
  by_cases hb : pw O O2 σ ρ b
  ·exact .inr (r.own hb).2.1
  ·rw [kl hb] at h; exact r.st.nw b o h⟩
 fb := r.fb.trans r.ny
 len := r.len
 fz := fun i d e hi => by
  by_cases ho : i ∈ O
  ·obtain ⟨v, e3, q⟩ := r.ow i d e ho
   refine ⟨v, e3, ?_⟩
   cases d with
   | lst ds =>
    obtain ⟨a, xs, ev, p, _, _, t⟩ := q
    subst ev
    refine ⟨a, xs, rfl, SqL.of ?_, t.mono r.ny⟩
    rw [zV ⟨i, ds, ho, hi, e, e3⟩]
    exact p
   | _ => exact cR.mono r.ny q
  ·obtain ⟨v, e3, q⟩ := r.fz i d e ho
   exact ⟨v, e3, q.mono r.ny⟩
 ow := fun i d e hi => by
  obtain ⟨v, e3, q⟩ := r.ow i d e (hs i hi)
  refine ⟨v, e3, ?_⟩
  cases d with
  | lst ds =>
   obtain ⟨a, xs, ev, p, q, z, t⟩ := q
   subst ev
   refine ⟨a, xs, rfl, p, ?_, z, t.mono r.ny⟩
   have : ¬ pw O O2 σ ρ a := fun ⟨j, es, hj, hj2, f1, f2⟩ => by
    have := r.ap i j ds es a (hs i hi) hj e f1 e3 f2
    subst this
    exact hj2 hi
   rw [kl this]
   exact q
  | _ => exact cR.mono r.ny q
 ap := fun i j ds es a hi hj => r.ap i j ds es a (hs i hi) (hs j hj)
theorem Rep.repE (r : Rep K F0 H0 FB [] F H σ ρ) : qk K F σ ρ := ⟨r.len, fun i d e => r.fz i d e (by simp)⟩
theorem Rep.qo (r : Rep K F0 H0 FB O F H σ ρ) : qk K (plus F H (pw O [] σ ρ)) σ ρ := (r.freeze (O2 := []) (by simp)).repE
noncomputable def erase : List Nat -> ak -> ak
 | [], ρ => ρ
 | i :: is, ρ => erase is (ρ.set i none)
theorem yK : ∀ (O : List Nat) (ρ : ak), (erase O ρ).length = ρ.length
 | [], _ => rfl
 | i :: is, ρ => by rw [erase, yK, List.length_set]
theorem yL : ∀ (O : List Nat) (ρ : ak) (i : Nat) (d : Dat), (erase O ρ)[i]? = some (some d) -> ρ[i]? = some (some d) /\ i ∉ O
 | [], _, _, _, h => ⟨h, by simp⟩
 | j :: is, ρ, i, d, h => by
  obtain ⟨h1, h2⟩ := yL is (ρ.set j none) i d h
  by_cases e : j = i
  ·subst e
   have hj : j < ρ.length := by
    have := (List.getElem?_eq_some_iff.mp h1).1
    simpa using this
   rw [List.getElem?_set_self hj] at h1
   cases h1
  ·rw [List.getElem?_set_ne e] at h1
   exact ⟨h1, by simp [h2]; omega⟩
theorem Rep.mW (r : Rep K F0 H0 FB O F H σ ρ) : qk K F σ (erase O ρ) :=
 ⟨by rw [yK, r.len], fun i d e => let ⟨h1, h2⟩ := yL O ρ i d e; r.fz i d h1 h2⟩
theorem Rep.step {F1 H1 : Hp} (r : Rep K F0 H0 FB O F H σ ρ) (s : Step F H F1 H1) : Rep K F0 H0 FB O F1 H1 σ ρ where
 st := r.st.trans s
 fb := r.fb.trans s.ff
 len := r.len
 fz := fun i d e hi => let ⟨v, e3, q⟩ := r.fz i d e hi; ⟨v, e3, q.mono s.ff⟩
 ow := fun i d e hi => by
  obtain ⟨v, e3, q⟩ := r.ow i d e hi
  refine ⟨v, e3, ?_⟩
  cases d with
  | lst ds =>
   obtain ⟨a, xs, ev, p, q, z, t⟩ := q
   refine ⟨a, xs, ev, s.hh _ _ p, ?_, z, t.mono s.ff⟩
   cases e1 : F1 a with
   | none => rfl
   | some o =>
    rcases s.nw a o e1 with h | h
    ·rw [q] at h; cases h
    ·rw [p] at h; cases h
  | _ => exact cR.mono s.ff q
 ap := r.ap
theorem Rep.nr {F1 H1 : Hp} (r : Rep K F0 H0 FB O F H σ ρ) (s : Step (plus F H (pw O [] σ ρ)) H F1 H1) : Rep K F0 H0 FB O (minus F1 (pw O [] σ ρ)) H1 σ ρ := by
 refine r.step ⟨fun b o h => ?_, s.hh, fun b o h => ?_, fun b o h => ?_⟩
 ·by_cases hb : pw O [] σ ρ b
  ·rw [(r.own hb).1] at h; cases h
  ·rw [jU hb]; exact s.ff b o (by rw [kl hb]; exact h)
 ·by_cases hb : pw O [] σ ρ b
  ·rw [vM hb] at h; cases h
  ·rw [jU hb] at h; exact s.fh b o h
 ·by_cases hb : pw O [] σ ρ b
  ·rw [vM hb] at h; cases h
  ·rw [jU hb] at h
   rcases s.nw b o h with z | z
   ·rw [kl hb] at z; exact .inl z
   ·exact .inr z
theorem Rep.yv {F1 H1 : Hp} (r : Rep K F0 H0 FB O F H σ ρ) (s : Step (plus F H (pw O [] σ ρ)) H F1 H1) (a : Addr) (xs : List V) (h : SqT K F1 a xs) : SqT K (minus F1 (pw O [] σ ρ)) a xs := by
 have key : ∀ {b : Addr} {o : HO}, F1 b = some o -> (∀ xs, o ≠ .lst xs) -> minus F1 (pw O [] σ ρ) b = some o := fun {b o} h n => by
  by_cases hb : pw O [] σ ρ b
  ·obtain ⟨_, _, xs, e⟩ := r.own hb
   have := s.ff b (.lst xs) (by rw [zV hb]; exact e)
   rw [h] at this
   cases this
   exact absurd rfl (n xs)
  ·rw [jU hb]; exact h
 rcases h with (h | ⟨o, h⟩) | h
 ·exact .inl (.inl (key h (by intro xs e; cases e)))
 ·exact .inl (.inr ⟨o, key h (by intro xs e; cases e)⟩)
 ·exact .inr h
theorem Rep.set {d : Dat} {v : V} (r : Rep K F0 H0 FB O F H σ ρ) (q : cR K F d v) (i : Nat) : Rep K F0 H0 FB (O.filter (· != i)) F H (σ.set i (some v)) 'S' where
 st := r.st
 fb := r.fb
 len := by rw [List.length_set, List.length_set, r.len]
 fz := fun j e h hj => by
  by_cases hij : i = j
  ·subst hij
   have hi : i < ρ.length := by
    have := (List.getElem?_eq_some_iff.mp h).1
    simpa using this
   rw [List.getElem?_set_self hi] at h
   cases h
   exact ⟨v, by rw [List.getElem?_set_self (by rw [<- r.len]; exact hi)], q⟩
  ·rw [List.getElem?_set_ne hij] at h
   rw [List.getElem?_set_ne hij]
   exact r.fz j e h fun z => hj (List.mem_filter.mpr ⟨z, by simpa using Ne.symm hij⟩)
 ow := fun j e h hj => by
  obtain ⟨h1, h2⟩ := List.mem_filter.mp hj
  have hij : i ≠ j := fun z => by simp [z] at h2
  rw [List.getElem?_set_ne hij] at h ⊢
  exact r.ow j e h h1
 ap := fun j k ds es a hj hk e1 e2 e3 e4 => by
  obtain ⟨j1, j2⟩ := List.mem_filter.mp hj
  obtain ⟨k1, k2⟩ := List.mem_filter.mp hk
  have hij : i ≠ j := fun z => by simp [z] at j2
  have hik : i ≠ k := fun z => by simp [z] at k2
  rw [List.getElem?_set_ne hij] at e1 e3
  rw [List.getElem?_set_ne hik] at e2 e4
  exact r.ap j k ds es a j1 k1 e1 e2 e3 e4
theorem Rep.setOwn {d : Dat} {v : V} (r : Rep K F0 H0 FB O F H σ ρ) (q : EO K F H0 H d v) (nw : ∀ a, v = .ref a -> (∃ ds, d = .lst ds) -> ¬ pw O [i] σ ρ a) : Rep K F0 H0 FB (i :: O.filter (· != i)) F H (σ.set i (some v)) 'S' where
 st := r.st
 fb := r.fb
 len := by rw [List.length_set, List.length_set, r.len]
 fz := fun j e h hj => by
  simp only [List.mem_cons, not_or] at hj
  have hij : i ≠ j := fun z => hj.1 z.symm
  rw [List.getElem?_set_ne hij] at h ⊢
  exact r.fz j e h fun z => hj.2 (List.mem_filter.mpr ⟨z, by simpa using Ne.symm hij⟩)
 ow := fun j e h hj => by
  by_cases hij : i = j
  ·subst hij
   have hi : i < ρ.length := by
    have := (List.getElem?_eq_some_iff.mp h).1
    simpa using this
   rw [List.getElem?_set_self hi] at h
   cases h
   exact ⟨v, by rw [List.getElem?_set_self (by rw [<- r.len]; exact hi)], q⟩
  ·rw [List.getElem?_set_ne hij] at h ⊢
   rcases List.mem_cons.mp hj with z | z
   ·exact absurd z.symm hij
   ·exact r.ow j e h (List.mem_filter.mp z).1
 ap := fun j k ds es a hj hk e1 e2 e3 e4 => by
  have key : ∀ {k' : Nat} {ds' es' : List Dat}, k' ∈ O -> k' ≠ i -> 'S'[i]? = some (some (.lst ds')) -> 'S'[k']? = some (some (.lst es')) -> (σ.set i (some v))[i]? = some 'X' -> (σ.set i (some v))[k']? = some 'X' -> False := by
   intro k' ds' es' hk' hne f1 f2 f3 f4
   have hi : i < ρ.length := by
    have := (List.getElem?_eq_some_iff.mp f1).1
    simpa using this
   rw [List.getElem?_set_self hi] at f1
   rw [List.getElem?_set_self (by rw [<- r.len]; exact hi)] at f3
   rw [List.getElem?_set_ne (Ne.symm hne)] at f2 f4
   have z1 : v = .ref a := by simpa using f3
   have z2 : d = .lst ds' := by simpa using f1
   exact nw a z1 ⟨ds', z2⟩ ⟨k', es', hk', by simpa using hne, f2, f4⟩
  rcases List.mem_cons.mp hj with zj | zj
  ·rcases List.mem_cons.mp hk with zk | zk
   ·rw [zj, zk]
   ·obtain ⟨k1, k2⟩ := List.mem_filter.mp zk
    subst zj
    exact (key k1 (by simpa using k2) e1 e2 e3 e4).elim
  ·obtain ⟨j1, j2⟩ := List.mem_filter.mp zj
   have hij : i ≠ j := fun z => by simp [z] at j2
   rcases List.mem_cons.mp hk with zk | zk
   ·subst zk
    exact (key j1 (Ne.symm hij) e2 e1 e4 e3).elim
   ·obtain ⟨k1, k2⟩ := List.mem_filter.mp zk
    have hik : i ≠ k := fun z => by simp [z] at k2
    rw [List.getElem?_set_ne hij] at e1 e3
    rw [List.getElem?_set_ne hik] at e2 e4
    exact r.ap j k ds es a j1 k1 e1 e2 e3 e4
end
section
variable {K : PySem.W.Frag} {F0 H0 FB F H : Hp} {O O2 : List Nat} {σ : St} {ρ : ak}
theorem Rep.mV {F1 H1 : Hp} (r : Rep K F0 H0 FB O F H σ ρ) (s : Step (plus F H (pw O [] σ ρ)) H F1 H1) : bj F (minus F1 (pw O [] σ ρ)) := fun b o h => by
 by_cases hb : pw O [] σ ρ b
 ·rw [(r.own hb).1] at h; cases h
 ·rw [jU hb]; exact s.ff b o (by rw [kl hb]; exact h)
theorem Cc {i : Nat} {O : List Nat} (h : i ∉ O) : O.filter (· != i) = O := by
 rw [List.filter_eq_self]
 intro a ha
 simp
 intro e
 exact h (e ▸ ha)
theorem Rep.set' {d : Dat} {v : V} (r : Rep K F0 H0 FB O F H σ ρ) (q : cR K F d v) {i : Nat} (hi : i ∉ O) : Rep K F0 H0 FB O F H (σ.set i (some v)) 'S' := by
 have := r.set q i
 rw [Cc hi] at this
 exact this
theorem Rep.base {FB' : Hp} (r : Rep K F0 H0 FB O F H σ ρ) (s : bj FB' FB) : Rep K F0 H0 FB' O F H σ ρ := ⟨r.st, s.trans r.fb, r.len, r.fz, r.ow, r.ap⟩
theorem Rep.write {i : Nat} {a : Addr} {ds ds' : List Dat} {xs' : List V} (r : Rep K F0 H0 FB O F H σ ρ) (hi : i ∈ O) (e1 : ρ[i]? = some (some (.lst ds))) (e2 : σ[i]? = some 'X') (q : aD K F ds' xs') : Rep K F0 H0 FB O F (upd H a (.lst xs')) σ (ρ.set i (some (.lst ds'))) := by
 have ho : F a = none /\ H0 a = none /\ ∃ xs, H a = some (.lst xs) := r.own (O2 := []) ⟨i, ds, hi, by simp, e1, e2⟩
 have hil : i < ρ.length := (List.getElem?_eq_some_iff.mp e1).1
 refine ⟨⟨r.st.ff, fun b o h => ?_, fun b o h => ?_, r.st.nw⟩, r.fb, by rw [List.length_set, r.len], fun j e h hj => ?_, fun j e h hj => ?_, fun j k es fs b hj hk f1 f2 f3 f4 => ?_⟩
 ·rw [ar (aQ h ho.2.1)]; exact r.st.hh b o h
 ·rw [ar (aQ h ho.1)]; exact r.st.fh b o h
 ·have hij : i ≠ j := fun z => hj (z ▸ hi)
  rw [List.getElem?_set_ne hij] at h
  exact r.fz j e h hj
 ·by_cases hij : i = j
  ·subst hij
   rw [List.getElem?_set_self hil] at h
   cases h
   exact ⟨.ref a, e2, a, xs', rfl, av, ho.1, ho.2.1, q⟩
  ·rw [List.getElem?_set_ne hij] at h
   obtain ⟨v, e3, z⟩ := r.ow j e h hj
   refine ⟨v, e3, ?_⟩
   cases e with
   | lst es =>
    obtain ⟨b, ys, ev, p, q1, q2, t⟩ := z
    subst ev
    have hab : b ≠ a := fun z => by
     subst z
     exact hij (r.ap i j ds es b hi hj e1 h e2 e3)
    exact ⟨b, ys, rfl, by rw [ar hab]; exact p, q1, q2, t⟩
   | _ => exact z
 ·have fix : ∀ {j : Nat} {es : List Dat}, (ρ.set i (some (.lst ds')))[j]? = some (some (.lst es)) -> ∃ es', ρ[j]? = some (some (.lst es')) := fun {j es} f => by
   by_cases hij : i = j
   ·subst hij; exact ⟨ds, e1⟩
   ·rw [List.getElem?_set_ne hij] at f; exact ⟨es, f⟩
  obtain ⟨es', g1⟩ := fix f1
  obtain ⟨fs', g2⟩ := fix f2
  exact r.ap j k es' fs' b hj hk g1 g2 f3 f4
noncomputable def Pat.names : Pat -> List Nat
 | .nm i => [i]
 | .tp is => is
theorem uq {R : St -> Hp -> Prop} : ∀ {is : List Nat} {ds : List Dat} {vs : List V} {σ : St} {ρ : ak}, Rep K F0 H0 FB O F H σ ρ -> (∀ i ∈ is, i ∉ O) -> aD K F ds vs -> ds.length = is.length -> (∀ σ', Rep K F0 H0 FB O F H σ' (lC is ds ρ) -> R σ' H) -> jc is vs σ H R
 | [], [], _, σ, ρ, r, _, q, _, h => ⟨q, h σ r⟩
 | [], _ :: _, _, _, _, _, _, _, e, _ => by simp at e
 | _ :: _, [], _, _, _, _, _, _, e, _ => by simp at e
 | i :: is, d :: ds, _, σ, ρ, r, n, ⟨v, vs, e, q, t⟩, l, h => ⟨v, vs, e, uq (r.set' q (n i (by simp))) (fun j hj => n j (by simp [hj])) t (by simpa using l) h⟩
theorem DZ {R : St -> Hp -> Prop} {p : Pat} {d : Dat} {v : V} {ρ' : ak} (r : Rep K F0 H0 FB O F H σ ρ) (n : ∀ i ∈ p.names, i ∉ O) (q : cR K F d v) (e : gw p d ρ = .ok ρ') (h : ∀ σ', Rep K F0 H0 FB O F H σ' ρ' -> R σ' H) : gP K p v σ H R := by
 cases p with
 | nm i =>
  have := Except.ok.inj e
  subst this
  exact h _ (r.set' q (n i (by simp [Pat.names])))
 | tp is =>
  cases d with
  | tup ds =>
   have e' : (if ds.length = is.length then Except.ok (lC is ds ρ) else Except.error Err.stuck) = Except.ok ρ' := e
   by_cases hl : ds.length = is.length
   ·rw [if_pos hl] at e'
    have := Except.ok.inj e'
    subst this
    obtain ⟨a, xs, ev, t, z⟩ := q
    exact ⟨a, xs, ev, r.st.fh.tup t, by rw [z.length, hl], uq r n z hl h⟩
   ·rw [if_neg hl] at e'
    cases e'
  | _ => cases e
end
noncomputable def kc (K : PySem.W.Frag) (W : gS) (ro : Bool) (F0 H0 FB : Hp) (OL O' : List Nat) (D : Ends) (r : M Flo) : Prop := match r with
 | .ok (.nx ρ) => ∀ σ F H, Rep K F0 H0 FB O' F H σ ρ -> D.nx σ H
 | .ok (.rt d) => ∀ v F H, Step F0 H0 F H -> Val K ro F H0 H d v -> D.rt v H
 | .ok (.bk ρ) => ∀ σ F H, Rep K F0 H0 FB OL F H σ ρ -> D.bk σ H
 | .ok (.ct ρ) => ∀ σ F H, Rep K F0 H0 FB OL F H σ ρ -> D.ct σ H
 | .error e => W.p e F0 H0
noncomputable def tS (K : PySem.W.Frag) (W : gS) (ro : Bool) (F0 H0 : Hp) (OL O O' : List Nat) (g : ak -> M Flo) : TS := fun D σ H => ∃ FB F ρ, Rep K F0 H0 FB O F H σ ρ /\ kc K W ro F0 H0 FB OL O' D (g ρ)
noncomputable def gT : ak -> M Flo := fun ρ => .ok (.nx ρ)
noncomputable def bC (g h : ak -> M Flo) : ak -> M Flo := fun ρ => (g ρ).bind fun fl => match fl with
 | .nx ρ' => h ρ'
 | fl => .ok fl
noncomputable def sIf (ft : ak -> M Bool) (g h : ak -> M Flo) : ak -> M Flo := fun ρ => (ft ρ).bind fun b => if b = true then g ρ else h ρ
noncomputable def pV : Bool -> Dat -> Bool
 | true, .lst ds => sq ds
 | _, d => kK d
noncomputable def tm (own : Bool) (i : Nat) (f : ak -> M Dat) : ak -> M Flo := fun ρ => (f ρ).bind fun d => if pV own d = true then .ok (.nx 'S') else .error .stuck
noncomputable def aO (O : List Nat) (i : Nat) (f : ak -> M Dat) : ak -> M Flo := fun ρ => (f (erase O ρ)).bind fun d => .ok (.nx 'S')
noncomputable def xI (O : List Nat) (p : Pat) (f : ak -> M Dat) : ak -> M Flo := fun ρ => (f (erase O ρ)).bind fun d => (gw p d ρ).bind fun ρ' => .ok (.nx ρ')
noncomputable def kr (ρ : ak) (i : Nat) : M (List Dat) := match ρ[i]? with
 | some (some (.lst ds)) => .ok ds
 | _ => .error .stuck
noncomputable def put (ρ : ak) (i : Nat) (ds : List Dat) : M Flo := .ok (.nx (ρ.set i (some (.lst ds))))
noncomputable def jK (O : List Nat) (i : Nat) (f : ak -> M Dat) : ak -> M Flo := fun ρ => (kr ρ i).bind fun ds => (f (erase O ρ)).bind fun d => if ds.length < sizeLine then put ρ i (ds ++ [d]) else .error .stuck
noncomputable def asI : Dat -> M Int
 | .int i => .ok i
 | _ => .error .stuck
noncomputable def zQ (i : Nat) (fi f : ak -> M Dat) : ak -> M Flo := fun ρ => (f ρ).bind fun d => (kr ρ i).bind fun ds => (fi ρ).bind fun k => (asI k).bind fun k => if kK d = true then (match ixN ds.length k with
 | some j => put ρ i (ds.set j d)
 | none => .error .stuck) else .error .stuck
noncomputable def i3 (f : ak -> M Dat) : ak -> M Flo := fun ρ => (f ρ).bind fun d => .ok (.rt d)
noncomputable def isL : Dat -> Bool
 | .lst _ => true
 | _ => false
noncomputable def kf (p : Pat) (g : ak -> M Flo) : List Dat -> ak -> M Flo
 | [], ρ => .ok (.nx ρ)
 | d :: ds, ρ => (gw p d ρ).bind fun ρ1 => (g ρ1).bind fun fl => match fl with
  | .nx ρ2 => kf p g ds ρ2
  | .ct ρ2 => kf p g ds ρ2
  | .bk ρ2 => .ok (.nx ρ2)
  | .rt d => .ok (.rt d)
noncomputable def t4 (O : List Nat) (fi : ak -> M (List Dat)) (p : Pat) (g : ak -> M Flo) : ak -> M Flo := fun ρ => (fi (erase O ρ)).bind fun ds => kf p g ds ρ
noncomputable def eR (ft : ak -> M Bool) (g : ak -> M Flo) : Nat -> ak -> M Flo
 | 0, _ => .error .stuck
 | n + 1, ρ => (ft ρ).bind fun b => if b = true then (g ρ).bind fun fl => match fl with
  | .nx ρ2 => eR ft g n ρ2
  | .ct ρ2 => eR ft g n ρ2
  | .bk ρ2 => .ok (.nx ρ2)
  | .rt d => .ok (.rt d) else .ok (.nx ρ)
section
variable {K : PySem.W.Frag} {W : gS} {ro own : Bool} {F0 H0 FB F H : Hp} {OL O O' O2 : List Nat} {D : Ends} {σ : St} {ρ : ak} {g h : ak -> M Flo} {f fi : ak -> M Dat} {ft : ak -> M Bool}
theorem kc.err {x : M Flo} {e : Err} (p : kc K W ro F0 H0 FB OL O' D x) (h : x = .error e) : W.p e F0 H0 := by rw [h] at p; exact p
theorem kc.qS {x : M Flo} {e : Err} (p : kc K W ro F0 H0 FB OL O' D x) (s : Step F0 H0 F H) (h : x = .error e) : W.p e F H := W.mono (p.err h) s
theorem kc.stuck {x : M Flo} {P : Prop} (p : kc K W ro F0 H0 FB OL O' D x) (h : x = .error .stuck) : P := (W.ns (p.err h)).elim
theorem tS.enter (hs : ∀ i ∈ O2, i ∈ O) (t : tS K W ro F0 H0 OL O O' g D σ H) : tS K W ro F0 H0 OL O2 O' g D σ H := by
 obtain ⟨FB, F, ρ, r, p⟩ := t
 exact ⟨FB, _, ρ, r.freeze hs, p⟩
theorem rs_next (t : tS K W ro F0 H0 OL O O gT D σ H) : tNext D σ H := by
 obtain ⟨FB, F, ρ, r, p⟩ := t
 exact p σ F H r
theorem rs_seq (t : tS K W ro F0 H0 OL O O2 (bC g h) D σ H) : tSeq (tS K W ro F0 H0 OL O O' g) (tS K W ro F0 H0 OL O' O2 h) D σ H := by
 obtain ⟨FB, F, ρ, r, p⟩ := t
 refine ⟨FB, F, ρ, r, ?_⟩
 unfold bC at p
 cases e : g ρ with
 | error x => exact p.err (by rw [e]; rfl)
 | ok fl =>
  rw [e] at p
  cases fl with
  | nx ρ' => exact fun σ' F' H' r' => ⟨FB, F', ρ', r', p⟩
  | rt d => exact p
  | bk ρ' => exact p
  | ct ρ' => exact p
theorem rs_if (t : tS K W ro F0 H0 OL O O' (sIf ft g h) D σ H) : tIfS (tDT K W ft) (tS K W ro F0 H0 OL O O' g) (tS K W ro F0 H0 OL O O' h) D σ H := by
 obtain ⟨FB, F, ρ, r, p⟩ := t
 refine nq r.qo r.km (fun e he => p.qS (r.freeze (O2 := []) (by simp)).st (by unfold sIf; rw [he]; rfl)) fun b hb F1 H1 s1 => ?_
 have z : sIf ft g h ρ = if b = true then g ρ else h ρ := by unfold sIf; rw [hb]; rfl
 rw [z] at p
 cases b with
 | true => exact ⟨FB, _, ρ, r.nr s1, p⟩
 | false => exact ⟨FB, _, ρ, r.nr s1, p⟩
noncomputable def aft (own : Bool) (i : Nat) (O : List Nat) : List Nat := if own = true then i :: O.filter (· != i) else O.filter (· != i)
theorem Rep.bindV {i : Nat} {d : Dat} {v : V} {H2 : Hp} (r : Rep K F0 H0 FB O F H σ ρ) (q : Val K own F H2 H d v) (h2 : bj H0 H2) (nw : ∀ a, pw O [] σ ρ a -> ∃ o, H2 a = some o) : Rep K F0 H0 FB (aft own i O) F H (σ.set i (some v)) 'S' := by
 cases own with
 | false => exact r.set q i
 | true =>
  refine r.setOwn (EO.back h2 q) fun a ha ⟨ds, hd⟩ z => ?_
  subst ha hd
  obtain ⟨b, xs, e, _, _, n, _⟩ := q
  cases e
  obtain ⟨j, es, h1, h2, h3, h4⟩ := z
  obtain ⟨o, ho⟩ := nw a ⟨j, es, h1, by simp, h3, h4⟩
  rw [n] at ho
  cases ho
theorem CU {i : Nat} (t : tS K W ro F0 H0 OL O (aft own i O) (aO O i f) D σ H) : tAsg (tD K W own f) (tQ i) D σ H := by
 obtain ⟨FB, F, ρ, r, p⟩ := t
 refine cq r.mW r.st.fh (fun e he => p.qS r.st (by unfold aO; rw [he]; rfl)) fun d hd v F1 H1 s1 q => ?_
 have z : aO O i f ρ = .ok (.nx 'S') := by unfold aO; rw [hd]; rfl
 rw [z] at p
 exact p _ F1 H1 ((r.step s1).bindV q r.st.hh fun a ha => let ⟨_, _, xs, e⟩ := r.own ha; ⟨_, e⟩)
theorem Rep.flatV {F1 H1 : Hp} {d : Dat} {v : V} (r : Rep K F0 H0 FB O F H σ ρ) (s : Step (plus F H (pw O [] σ ρ)) H F1 H1) (q : Val K own F1 H H1 d v) (fl : pV own d = true) : Val K own (minus F1 (pw O [] σ ρ)) H H1 d v := by
 have none_of : ∀ {a : Addr}, F1 a = none -> minus F1 (pw O [] σ ρ) a = none := fun {a} h => by
  by_cases hb : pw O [] σ ρ a
  ·exact vM hb
  ·rw [jU hb]; exact h
 cases own with
 | false => exact cR.flat (r.yv s) (by cases d <;> exact fl) q
 | true =>
  cases d with
  | lst ds =>
   obtain ⟨a, xs, e, p, n, z, t⟩ := q
   exact ⟨a, xs, e, p, none_of n, z, t.flat (r.yv s) fl⟩
  | non => exact q
  | bl b => exact q
  | int i => exact q
  | str x => exact q
  | tup ds => exact cR.flat (d := .tup ds) (r.yv s) fl q
  | ins C fs => exact cR.flat (d := .ins C fs) (r.yv s) fl q
theorem rs_setA {i : Nat} (t : tS K W ro F0 H0 OL O (aft own i O) (tm own i f) D σ H) : tAsg (tD K W own f) (tQ i) D σ H := by
 obtain ⟨FB, F, ρ, r, p⟩ := t
 refine cq r.qo r.km (fun e he => p.qS (r.freeze (O2 := []) (by simp)).st (by unfold tm; rw [he]; rfl)) fun d hd v F1 H1 s1 q => ?_
 have z : tm own i f ρ = if pV own d = true then .ok (.nx 'S') else .error .stuck := by unfold tm; rw [hd]; rfl
 rw [z] at p
 by_cases hf : pV own d = true
 ·rw [if_pos hf] at p
  exact p _ _ H1 ((r.nr s1).bindV (r.flatV s1 q hf) r.st.hh fun a ha => let ⟨_, _, xs, e⟩ := r.own ha; ⟨_, e⟩)
 ·rw [if_neg hf] at p
  exact p.stuck rfl
theorem rs_unpB {pt : Pat} (n : ∀ i ∈ pt.names, i ∉ O) (t : tS K W ro F0 H0 OL O O (xI O pt f) D σ H) : tAsg (tD K W false f) (gP K pt) D σ H := by
 obtain ⟨FB, F, ρ, r, p⟩ := t
 refine cq r.mW r.st.fh (fun e he => p.qS r.st (by unfold xI; rw [he]; rfl)) fun d hd v F1 H1 s1 q => ?_
 have z : xI O pt f ρ = (gw pt d ρ).bind fun ρ' => .ok (.nx ρ') := by unfold xI; rw [hd]; rfl
 rw [z] at p
 cases e : gw pt d ρ with
 | error x =>
  have := p9 e
  subst this
  exact p.stuck (by rw [e]; rfl)
 | ok ρ' =>
  rw [e] at p
  exact DZ (r.step s1) n q e fun σ' r' => p σ' F1 H1 r'
theorem mY {i : Nat} {ds : List Dat} (h : kr ρ i = .ok ds) : ρ[i]? = some (some (.lst ds)) := by
 unfold kr at h
 split at h
 ·cases h; assumption
 ·cases h
theorem rX {i : Nat} {e : Err} (h : kr ρ i = .error e) : e = .stuck := by
 unfold kr at h
 split at h
 ·cases h
 ·cases h; rfl
theorem Rep.Dz {i : Nat} {ds : List Dat} (r : Rep K F0 H0 FB O F H σ ρ) (hi : i ∈ O) (e : ρ[i]? = some (some (.lst ds))) : ∃ a xs, σ[i]? = some 'X' /\ H a = some (.lst xs) /\ aD K F ds xs := by
 obtain ⟨v, e3, a, xs, ev, p, _, _, t⟩ := r.ow i _ e hi
 subst ev
 exact ⟨a, xs, e3, p, t⟩
noncomputable def tApp (K : PySem.W.Frag) (i : Nat) (te : TE) : TS := tDrop (tBM K "list" CW (tVar i) (uQ te tNil))
theorem rs_appB {i : Nat} (hi : i ∈ O) (t : tS K W ro F0 H0 OL O O (jK O i f) D σ H) : tApp K i (tD K W false f) D σ H := by
 obtain ⟨FB, F, ρ, r, p⟩ := t
 cases hl : kr ρ i with
 | error e =>
  have := rX hl
  subst this
  exact p.stuck (by unfold jK; rw [hl]; rfl)
 | ok ds =>
  obtain ⟨a, xs, e2, ha, z⟩ := r.Dz hi (mY hl)
  refine ⟨.ref a, e2, B0 ha, ?_⟩
  refine cq r.mW r.st.fh (fun e he => p.qS r.st (by unfold jK; rw [hl]; show (f (erase O ρ)).bind _ = _; rw [he]; rfl)) fun d hd v F1 H1 s1 q => ?_
  have ez : jK O i f ρ = if ds.length < sizeLine then put ρ i (ds ++ [d]) else .error .stuck := by unfold jK; rw [hl]; show (f (erase O ρ)).bind _ = _; rw [hd]; rfl
  rw [ez] at p
  by_cases hs : ds.length < sizeLine
  ·rw [if_pos hs] at p
   exact ⟨a, xs, v, rfl, rfl, s1.hh _ _ ha, by rw [z.length]; exact hs, p σ F1 _ ((r.step s1).write hi (mY hl) e2 (aD.append (z.mono s1.ff) ⟨v, [], rfl, q, rfl⟩))⟩
  ·rw [if_neg hs] at p
   exact p.stuck rfl
theorem rs_setI {i : Nat} (hi : i ∈ O) (t : tS K W ro F0 H0 OL O O (zQ i fi f) D σ H) : tAsg (tD K W false f) (gSub (tVar i) (tD K W false fi) rSetL) D σ H := by
 obtain ⟨FB, F, ρ, r, p⟩ := t
 refine cq r.qo r.km (fun e he => p.qS (r.freeze (O2 := []) (by simp)).st (by unfold zQ; rw [he]; rfl)) fun d hd v F1 H1 s1 q => ?_
 have ez : zQ i fi f ρ = (kr ρ i).bind fun ds => (fi ρ).bind fun k => (asI k).bind fun k => if kK d = true then (match ixN ds.length k with
  | some j => put ρ i (ds.set j d)
  | none => .error .stuck) else .error .stuck := by unfold zQ; rw [hd]; rfl
 rw [ez] at p
 cases hl : kr ρ i with
 | error e =>
  have := rX hl
  subst this
  exact p.stuck (by rw [hl]; rfl)
 | ok ds =>
  rw [hl] at p
  have p : kc K W ro F0 H0 FB OL O D ((fi ρ).bind fun k => (asI k).bind fun k => if kK d = true then (match ixN ds.length k with
   | some j => put ρ i (ds.set j d)
   | none => .error .stuck) else .error .stuck) := p
  have r1 := r.nr s1
  obtain ⟨a, xs, e2, ha, z⟩ := r1.Dz hi (mY hl)
  refine ⟨.ref a, e2, ?_⟩
  refine cq r1.qo r1.km (fun e he => p.qS (r1.freeze (O2 := []) (by simp)).st (by rw [he]; rfl)) fun k hk w F2 H2 s2 q2 => ?_
  rw [hk] at p
  cases k with
  | int k =>
   have p : kc K W ro F0 H0 FB OL O D (if kK d = true then (match ixN ds.length k with
    | some j => put ρ i (ds.set j d)
    | none => .error .stuck) else .error .stuck) := p
   by_cases hf : kK d = true
   ·rw [if_pos hf] at p
    cases hj : ixN ds.length k with
    | none => rw [hj] at p; exact p.stuck rfl
    | some j =>
     rw [hj] at p
     refine ⟨a, xs, k, j, rfl, q2, s2.hh _ _ ha, by rw [z.length]; exact hj, ?_⟩
     have qd : cR K (minus F1 (pw O [] σ ρ)) d v := cR.flat (r.yv s1) hf q
     exact p σ _ _ ((r1.nr s2).write hi (mY hl) e2 (aD.set (qd.mono (r1.mV s2)) j (z.mono (r1.mV s2))))
   ·rw [if_neg hf] at p
    exact p.stuck rfl
  | _ => exact p.stuck rfl
theorem rs_ret (t : tS K W ro F0 H0 OL O O' (i3 f) D σ H) : tRet (tD K W ro f) D σ H := by
 obtain ⟨FB, F, ρ, r, p⟩ := t
 have rf := r.freeze (O2 := []) (by simp)
 refine cq r.qo r.km (fun e he => p.qS rf.st (by unfold i3; rw [he]; rfl)) fun d hd v F1 H1 s1 q => ?_
 have z : i3 f ρ = .ok (.rt d) := by unfold i3; rw [hd]; rfl
 rw [z] at p
 exact p v F1 H1 (rf.st.trans s1) (q.back r.st.hh)
theorem rs_retV {i : Nat} (hi : i ∈ O) (t : tS K W true F0 H0 OL O O' (i3 (ah i)) D σ H) : tRet (tVar i) D σ H := by
 obtain ⟨FB, F, ρ, r, p⟩ := t
 unfold i3 ah at p
 match e : ρ[i]? with
 | some (some d) =>
  rw [e] at p
  obtain ⟨v, e3, q⟩ := r.ow i d e hi
  exact ⟨v, e3, p v F H r.st q⟩
 | some none => rw [e] at p; exact p.stuck rfl
 | none => rw [e] at p; exact p.stuck rfl
theorem rs_for {fs : ak -> M (List Dat)} {pt : Pat} (n : ∀ i ∈ pt.names, i ∉ O) (t : tS K W ro F0 H0 OL O O (t4 O fs pt g) D σ H) : tFor (iD K W fs) (gP K pt) (tS K W ro F0 H0 O O O g) D σ H := by
 obtain ⟨FB, F, ρ, r, p⟩ := t
 refine ⟨F, erase O ρ, r.mW, r.st.fh, ?_⟩
 cases e : fs (erase O ρ) with
 | error x => exact p.qS r.st (by unfold t4; rw [e]; rfl)
 | ok ds =>
  have z : t4 O fs pt g ρ = kf pt g ds ρ := by unfold t4; rw [e]; rfl
  rw [z] at p
  intro J F1 H1 s1 it
  refine ⟨fun i m σ H => ∃ F ρ, Rep K F0 H0 F1 O F H σ ρ /\ i <= ds.length /\ m = ds.length - i /\ kc K W ro F0 H0 FB OL O D (kf pt g (ds.drop i) ρ), ⟨ds.length, F1, ρ, ?_, Nat.zero_le _, by omega, by rw [List.drop_zero]; exact p⟩, ?_⟩
  ·have r1 := r.step s1
   exact ⟨r1.st, bj.refl _, r1.len, r1.fz, r1.ow, r1.ap⟩
  ·rintro i m σ2 H2 ⟨F2, ρ2, r2, hi, rfl, p2⟩
   by_cases hlt : i < ds.length
   ·have ed : ds.drop i = ds[i] :: ds.drop (i + 1) := List.drop_eq_getElem_cons hlt
    rw [ed] at p2
    refine .inr ⟨it.go i F2 H2 r2.fb r2.st.fh hlt, fun σ' H' => (∃ F ρ, Rep K F0 H0 F1 O F H' σ' ρ /\ kc K W ro F0 H0 FB OL O D (kf pt g (ds.drop (i + 1)) ρ)), fun σ' H' ⟨F, ρ, r, p⟩ => ⟨ds.length - (i + 1), by omega, F, ρ, r, hlt, rfl, p⟩, fun x H' y => ?_⟩
    obtain ⟨F3, s3, q3⟩ := it.yl i F2 H2 x H' ds[i] r2.fb r2.st.fh (by simp [hlt]) y
    have ef : kf pt g (ds[i] :: ds.drop (i + 1)) ρ2 = (gw pt ds[i] ρ2).bind fun ρ1 => (g ρ1).bind fun fl => match fl with
     | .nx ρ2 => kf pt g (ds.drop (i + 1)) ρ2
     | .ct ρ2 => kf pt g (ds.drop (i + 1)) ρ2
     | .bk ρ2 => .ok (.nx ρ2)
     | .rt d => .ok (.rt d) := by rw [kf]
    rw [ef] at p2
    cases eb : gw pt ds[i] ρ2 with
    | error x =>
     have := p9 eb
     subst this
     exact p2.stuck (by rw [eb]; rfl)
    | ok ρ3 =>
     rw [eb] at p2
     have p2 : kc K W ro F0 H0 FB OL O D ((g ρ3).bind fun fl => match fl with
      | .nx ρ2 => kf pt g (ds.drop (i + 1)) ρ2
      | .ct ρ2 => kf pt g (ds.drop (i + 1)) ρ2
      | .bk ρ2 => .ok (.nx ρ2)
      | .rt d => .ok (.rt d)) := p2
     refine DZ (r2.step s3) n q3 eb fun σ4 r4 => ⟨F1, F3, ρ3, r4, ?_⟩
     have fb1 : bj FB F1 := (r.step s1).fb
     cases eg : g ρ3 with
     | error x => exact p2.err (by rw [eg]; rfl)
     | ok fl =>
      rw [eg] at p2
      cases fl with
      | nx ρ5 => exact fun σ' F' H' r' => ⟨F', ρ5, r', p2⟩
      | ct ρ5 => exact fun σ' F' H' r' => ⟨F', ρ5, r', p2⟩
      | bk ρ5 => exact fun σ' F' H' r' => p2 σ' F' H' (r'.base fb1)
      | rt d => exact p2
   ·have : i = ds.length := by omega
    subst this
    rw [List.drop_length] at p2
    exact .inl ⟨it.st F2 H2 r2.fb r2.st.fh, p2 σ2 F2 H2 (r2.base (r.step s1).fb)⟩
theorem rs_while {m : Nat} (t : tS K W ro F0 H0 OL O O (eR ft g m) D σ H) : tWhile (tDT K W ft) (tS K W ro F0 H0 O O O g) D σ H := by
 refine ⟨fun m σ H => tS K W ro F0 H0 OL O O (eR ft g m) D σ H, ⟨m, t⟩, ?_⟩
 rintro m σ H ⟨FB, F, ρ, r, p⟩
 cases m with
 | zero => exact p.stuck rfl
 | succ m =>
  have ez : eR ft g (m + 1) ρ = (ft ρ).bind fun b => if b = true then (g ρ).bind fun fl => match fl with
   | .nx ρ2 => eR ft g m ρ2
   | .ct ρ2 => eR ft g m ρ2
   | .bk ρ2 => .ok (.nx ρ2)
   | .rt d => .ok (.rt d) else .ok (.nx ρ) := by rw [eR]
  rw [ez] at p
  refine nq r.qo r.km (fun e he => p.qS (r.freeze (O2 := []) (by simp)).st (by rw [he]; rfl)) fun b hb F1 H1 s1 => ?_
  rw [hb] at p
  have r1 := r.nr s1
  cases b with
  | false => exact p σ _ H1 r1
  | true =>
   have p : kc K W ro F0 H0 FB OL O D ((g ρ).bind fun fl => match fl with
    | .nx ρ2 => eR ft g m ρ2
    | .ct ρ2 => eR ft g m ρ2
    | .bk ρ2 => .ok (.nx ρ2)
    | .rt d => .ok (.rt d)) := p
   refine ⟨fun σ' H' => tS K W ro F0 H0 OL O O (eR ft g m) D σ' H', fun σ' H' n => ⟨m, Nat.lt_succ_self _, n⟩, FB, _, ρ, r1, ?_⟩
   cases eg : g ρ with
   | error x => exact p.err (by rw [eg]; rfl)
   | ok fl =>
    rw [eg] at p
    cases fl with
    | nx ρ5 => exact fun σ' F' H' r' => ⟨FB, F', ρ5, r', p⟩
    | ct ρ5 => exact fun σ' F' H' r' => ⟨FB, F', ρ5, r', p⟩
    | bk ρ5 => exact fun σ' F' H' r' => p σ' F' H' r'
    | rt d => exact p
end
noncomputable def stk {α : Type} : M α := .error .stuck
noncomputable def lq : Dat -> Dat -> M Dat
 | .int i, .int j => .ok (.int (i + j))
 | .str x, .str y => if x.length + y.length <= sizeLine then .ok (.str (x ++ y)) else stk
 | .lst xs, .lst ys => if xs.length + ys.length <= sizeLine then .ok (.lst (xs ++ ys)) else stk
 | .tup xs, .tup ys => if xs.length + ys.length <= sizeLine then .ok (.tup (xs ++ ys)) else stk
 | _, _ => stk
noncomputable def subD : Dat -> Dat -> M Dat
 | .int i, .int j => .ok (.int (i - j))
 | _, _ => stk
noncomputable def fX (i : Int) : Bool := decide (-(2 ^ 64) < i) && decide (i < 2 ^ 64)
noncomputable def t5 : Dat -> Dat -> M Dat
 | .int i, .int j => if (fX i || fX j) = true then .ok (.int (i * j)) else stk
 | _, _ => stk
noncomputable def n9 : Dat -> Dat -> M Dat
 | .int i, .int j => if (decide (0 < j) && decide (j < 18446744073709551616)) = true then .ok (.int (i / j)) else stk
 | _, _ => stk
noncomputable def pk : Dat -> Dat -> M Dat
 | .int i, .int j => if 0 < j then .ok (.int (i % j)) else stk
 | _, _ => stk
noncomputable def D5 : Dat -> Dat -> M Dat
 | .int i, .int j => if (decide (0 <= j) && decide (j <= 1000000) && decide (i.natAbs < 2 ^ 64)) = true then .ok (.int (i ^ j.toNat)) else stk
 | _, _ => stk
noncomputable def negD : Dat -> M Dat
 | .int i => .ok (.int (-i))
 | _ => stk
noncomputable def ltD : Dat -> Dat -> M Dat
 | .int i, .int j => .ok (.bl (decide (i < j)))
 | _, _ => stk
noncomputable def leD : Dat -> Dat -> M Dat
 | .int i, .int j => .ok (.bl (decide (i <= j)))
 | _, _ => stk
noncomputable def gtD : Dat -> Dat -> M Dat
 | .int i, .int j => .ok (.bl (decide (j < i)))
 | _, _ => stk
noncomputable def b2z (b : Bool) : Int := if b then 1 else 0
mutual
noncomputable def eqD : Dat -> Dat -> Bool
 | .non, .non => true
 | .bl a, .bl b => a == b
 | .bl a, .int b => b2z a == b
 | .int a, .bl b => a == b2z b
 | .int a, .int b => a == b
 | .str a, .str b => a == b
 | .tup xs, .tup ys => qT xs ys
 | .lst xs, .lst ys => qT xs ys
 | _, _ => false
noncomputable def qT : List Dat -> List Dat -> Bool
 | [], [] => true
 | d :: ds, e :: es => eqD d e && qT ds es
 | _, _ => false
end
mutual
noncomputable def okE : Dat -> Nat -> Bool
 | .tup ds, n => (match n with
  | 0 => false
  | n + 1 => gM ds n)
 | .lst ds, n => (match n with
  | 0 => false
  | n + 1 => gM ds n)
 | .ins _ _, _ => false
 | .non, _ => true
 | .bl _, _ => true
 | .int _, _ => true
 | .str _, _ => true
noncomputable def gM : List Dat -> Nat -> Bool
 | [], _ => true
 | d :: ds, n => okE d n && gM ds n
end
noncomputable def eqM (a b : Dat) : M Dat := if (okE a 40 && okE b 40) = true then .ok (.bl (eqD a b)) else stk
noncomputable def neM (a b : Dat) : M Dat := if (okE a 40 && okE b 40) = true then .ok (.bl (!eqD a b)) else stk
noncomputable def inM (a b : Dat) : M Dat := (qq b).bind fun ds => if (okE a 40 && gM ds 40) = true then .ok (.bl (ds.any fun d => eqD d a)) else stk
noncomputable def isND : Dat -> Dat -> M Dat
 | .non, .non => .ok (.bl true)
 | _, .non => .ok (.bl false)
 | _, _ => stk
noncomputable def ng (ds : List Dat) (i : Int) : M Dat := match atI ds i with
 | some d => .ok d
 | none => stk
noncomputable def ixD : Dat -> Dat -> M Dat
 | .lst ds, .int i => ng ds i
 | .tup ds, .int i => ng ds i
 | _, _ => stk
noncomputable def Be : List Dat -> M Dat
 | [.lst ds] => .ok (.int ds.length)
 | [.tup ds] => .ok (.int ds.length)
 | _ => stk
noncomputable def iW : List Dat -> M (List Bool)
 | [] => .ok []
 | d :: ds => (asB d).bind fun b => (iW ds).bind fun r => .ok (b :: r)
noncomputable def dG : List Dat -> M (List Int)
 | [] => .ok []
 | d :: ds => (asI d).bind fun b => (dG ds).bind fun r => .ok (b :: r)
noncomputable def allD : List Dat -> M Dat
 | [.lst ds] => (iW ds).bind fun bs => .ok (.bl (bs.all id))
 | _ => stk
noncomputable def yx : List Dat -> M Dat
 | [.lst ds] => .ok (.lst ds)
 | [.tup ds] => .ok (.lst ds)
 | _ => stk
noncomputable def intD : List Dat -> M Dat
 | [.int i] => .ok (.int i)
 | [.bl b] => .ok (.int (b2z b))
 | _ => stk
noncomputable def jI (i j : Int) : Int := if j > i then j else i
noncomputable def ke (i j : Int) : Int := if j < i then j else i
noncomputable def maxL : List Int -> M Dat
 | [] => stk
 | i :: is => .ok (.int (is.foldl jI i))
noncomputable def minL : List Int -> M Dat
 | [] => stk
 | i :: is => .ok (.int (is.foldl ke i))
noncomputable def maxD : List Dat -> M Dat
 | [.int i, .int j] => .ok (.int (jI i j))
 | [.lst ds] => (dG ds).bind maxL
 | _ => stk
noncomputable def minD : List Dat -> M Dat
 | [.int i, .int j] => .ok (.int (ke i j))
 | [.lst ds] => (dG ds).bind minL
 | _ => stk
noncomputable def oQ : Dat -> M Dat
 | .int _ => .ok (.bl true)
 | .bl _ => .ok (.bl true)
 | .ins _ _ => stk
 | _ => .ok (.bl false)
noncomputable def m7 : Dat -> M Dat
 | .bl _ => .ok (.bl true)
 | .ins _ _ => stk
 | _ => .ok (.bl false)
noncomputable def jW : Dat -> M Dat
 | .lst _ => .ok (.bl true)
 | .ins _ _ => stk
 | _ => .ok (.bl false)
noncomputable def eF : Dat -> M Dat
 | .tup _ => .ok (.bl true)
 | .ins _ _ => stk
 | _ => .ok (.bl false)
noncomputable def jv : Nat -> List Dat -> List Dat
 | _, [] => []
 | k, d :: ds => .tup [.int k, d] :: jv (k + 1) ds
noncomputable def Bh : Dat -> M (List Dat)
 | .lst ds => .ok ds
 | _ => .error .stuck
noncomputable def w6 (fa : ak -> M Dat) : ak -> M (List Dat) := fun ρ => (fa ρ).bind fun d => (Bh d).bind fun ds => .ok (jv 0 ds)
noncomputable def cV (nN n : Nat) (g : ak -> M Flo) (ds : List Dat) : M Dat := if ds.length = n then (g (ds.map some ++ List.replicate (nN - ds.length) none)).bind fun fl => match fl with
 | .nx _ => .ok .non
 | .rt d => .ok d
 | _ => stk else stk
noncomputable def D7 (ds : List Dat) (k : Dat) : M (Dat × List Dat) := (asI k).bind fun k => if sizeLine < ds.length then stk else match ixN ds.length k with
 | some j => match ds[j]? with
  | some d => .ok (d, ds.eraseIdx j)
  | none => stk
 | none => stk
noncomputable def CS (i : Nat) (pt : Pat) (fk : ak -> M Dat) : ak -> M Flo := fun ρ => (kr ρ i).bind fun ds => (fk ρ).bind fun k => (D7 ds k).bind fun p => (gw pt p.1 (ρ.set i (some (.lst p.2)))).bind fun ρ' => .ok (.nx ρ')
@[simp] theorem ax {α β : Type} (a : α) (f : α -> M β) : Except.bind (Except.ok a : M α) f = f a := id rfl
@[simp] theorem kU {α β : Type} (e : Err) (f : α -> M β) : Except.bind (Except.error e : M α) f = .error e := id rfl
@[simp] theorem jY : ∀ is : List Int, dG (is.map Dat.int) = .ok is
 | [] => rfl
 | i :: is => by simp [dG, asI, jY is]
@[simp] theorem Cm : ∀ is : List Bool, iW (is.map Dat.bl) = .ok is
 | [] => rfl
 | i :: is => by simp [iW, asB, Cm is]
@[simp] theorem Dn (n : Nat) : ∀ is : List Int, gM (is.map Dat.int) n = true
 | [] => by simp [gM]
 | i :: is => by simp [gM, okE, Dn n is]
theorem j8 {ds : List Dat} {k : Nat} (h : k < ds.length) : ng ds (k : Int) = .ok ds[k] := by
 unfold ng atI ixN
 rw [if_pos (by omega), if_pos (by omega)]
 simp [h]
theorem getI_int {is : List Int} {k : Int} (h0 : 0 <= k) (h : k < is.length) : ng (is.map Dat.int) k = .ok (.int (is[k.toNat]'(by omega))) := by
 have hj : k.toNat < (is.map Dat.int).length := by simp; omega
 have e : k = (k.toNat : Int) := by omega
 have := j8 hj
 rw [<- e] at this
 rw [this]
 simp
theorem eG {p : Pat} {g : ak -> M Flo} (P : Nat -> ak -> Prop) : ∀ (ds : List Dat) (k : Nat) (ρ : ak), P k ρ ->
  (∀ (i : Nat) (d : Dat) (ρ : ak), ds[i]? = some d -> P (k + i) ρ -> ∃ ρ1, gw p d ρ = .ok ρ1 /\ ∃ ρ2, (g ρ1 = .ok (.nx ρ2) \/ g ρ1 = .ok (.ct ρ2)) /\ P (k + i + 1) ρ2) -> ∃ ρ', kf p g ds ρ = .ok (.nx ρ') /\ P (k + ds.length) ρ'
 | [], k, ρ, h, _ => ⟨ρ, rfl, h⟩
 | d :: ds, k, ρ, h, st => by
  obtain ⟨ρ1, e1, ρ2, e2, h2⟩ := st 0 d ρ rfl h
  obtain ⟨ρ', e3, h3⟩ := eG P ds (k + 1) ρ2 h2 fun i d' ρ he hp => by
   have := st (i + 1) d' ρ (by simpa using he) (by rw [show k + (i + 1) = k + 1 + i by omega]; exact hp)
   rw [show k + (i + 1) + 1 = k + 1 + i + 1 by omega] at this
   exact this
  refine ⟨ρ', ?_, by rw [show k + (d :: ds).length = k + 1 + ds.length by simp; omega]; exact h3⟩
  rw [kf, e1]
  rcases e2 with e2 | e2
  ·simp only [ax, e2]; exact e3
  ·simp only [ax, e2]; exact e3
theorem iU {p : Pat} {fe : ak -> M Dat} {ρ0 : ak} (f : Dat -> Dat) : ∀ (ds : List Dat), (∀ d ∈ ds, ∃ ρ, gw p d ρ0 = .ok ρ /\ fe ρ = .ok (f d)) -> ck p ur fe ρ0 ds = .ok (ds.map f)
 | [], _ => rfl
 | d :: ds, h => by
  obtain ⟨ρ, e1, e2⟩ := h d (by simp)
  rw [ck, e1]
  simp only [ax, ur, e2, iU f ds fun x hx => h x (by simp [hx])]
  simp
@[simp] theorem small_def (i : Int) : fX i = (decide (-(2 ^ 64) < i) && decide (i < 2 ^ 64)) := id rfl
@[simp] theorem BI (i : Int) : dD i = (decide (-(2 ^ 62) <= i) && decide (i < 2 ^ 62)) := id rfl
@[simp] theorem eqDs_nilR (ds : List Dat) : qT ds [] = ds.isEmpty := by cases ds <;> rfl
section
variable {ρ : ak} {fa fb fc : ak -> M Dat} {fr : ak -> M (List Dat)} {ft fu : ak -> M Bool} {g h : ak -> M Flo}
@[simp] theorem e_var0 (d : Dat) (r : ak) : ah 0 (some d :: r) = .ok d := id rfl
@[simp] theorem e_varS (i : Nat) (o : Option Dat) (r : ak) : ah (i + 1) (o :: r) = ah i r := by simp [ah]
@[simp] theorem e_c (d : Dat) : fC d ρ = .ok d := id rfl
@[simp] theorem e_1 (k : Dat -> M Dat) : f1 k fa ρ = (fa ρ).bind k := id rfl
@[simp] theorem e_2 (k : Dat -> Dat -> M Dat) : f2 k fa fb ρ = (fa ρ).bind fun a => (fb ρ).bind fun b => k a b := id rfl
@[simp] theorem e_nil : aN ρ = .ok [] := id rfl
@[simp] theorem e_cons : a9 fa fr ρ = (fa ρ).bind fun a => (fr ρ).bind fun r => .ok (a :: r) := id rfl
@[simp] theorem e_L (k : List Dat -> M Dat) : fL k fr ρ = (fr ρ).bind k := id rfl
@[simp] theorem e_ite : fIte ft fa fb ρ = (ft ρ).bind fun b => if b = true then fa ρ else fb ρ := id rfl
@[simp] theorem e_and : fAnd ft fu ρ = (ft ρ).bind fun b => if b = true then fu ρ else .ok false := id rfl
@[simp] theorem e_or : fOr ft fu ρ = (ft ρ).bind fun b => if b = true then .ok true else fu ρ := id rfl
@[simp] theorem e_not : Ak ft ρ = (ft ρ).bind fun b => .ok (!b) := id rfl
@[simp] theorem e_B : fB fa ρ = (fa ρ).bind asB := id rfl
@[simp] theorem e_andV : w9 fa fb ρ = (fa ρ).bind fun a => (asB a).bind fun b => if b = true then fb ρ else .ok (.bl false) := id rfl
@[simp] theorem e_tru : xc fa ρ = (fa ρ).bind truD := id rfl
@[simp] theorem e_chain (k k' : Dat -> Dat -> M Dat) : lg k k' fa fb fc ρ = (fa ρ).bind fun a => (fb ρ).bind fun b => (k a b).bind fun x => (asB x).bind fun z => if z = true then (fc ρ).bind fun c => k' b c else .ok (.bl false) := id rfl
@[simp] theorem e_yes : ur ρ = .ok true := id rfl
@[simp] theorem e_it : fIt fa ρ = (fa ρ).bind qq := id rfl
@[simp] theorem e_rng (k : List Dat -> M (List Dat)) : rl k fr ρ = (fr ρ).bind k := id rfl
@[simp] theorem e_enum : w6 fa ρ = (fa ρ).bind fun d => (Bh d).bind fun ds => .ok (jv 0 ds) := id rfl
@[simp] theorem e_comp (fi : ak -> M (List Dat)) (ix : List (Option Nat)) (p : Pat) : lx fi ix p ft fa ρ = (fi ρ).bind fun ds => if ds.length <= sizeLine then (ck p ft fa (n8 ix ρ) ds).bind fun r => .ok (.lst r) else .error .stuck := id rfl
@[simp] theorem e_asB (b : Bool) : asB (.bl b) = .ok b := id rfl
@[simp] theorem e_asI (b : Int) : asI (.int b) = .ok b := id rfl
@[simp] theorem e_itemsL (ds : List Dat) : qq (.lst ds) = .ok ds := id rfl
@[simp] theorem e_itL (ds : List Dat) : Bh (.lst ds) = .ok ds := id rfl
@[simp] theorem e_notD (b : Bool) : notD (.bl b) = .ok (.bl (!b)) := id rfl
@[simp] theorem e_truB (b : Bool) : truD (.bl b) = .ok b := id rfl
@[simp] theorem e_truL (ds : List Dat) : truD (.lst ds) = .ok (!ds.isEmpty) := id rfl
@[simp] theorem e_addI (i j : Int) : lq (.int i) (.int j) = .ok (.int (i + j)) := id rfl
@[simp] theorem e_subI (i j : Int) : subD (.int i) (.int j) = .ok (.int (i - j)) := id rfl
@[simp] theorem e_negI (i : Int) : negD (.int i) = .ok (.int (-i)) := id rfl
@[simp] theorem e_ltI (i j : Int) : ltD (.int i) (.int j) = .ok (.bl (decide (i < j))) := id rfl
@[simp] theorem e_leI (i j : Int) : leD (.int i) (.int j) = .ok (.bl (decide (i <= j))) := id rfl
@[simp] theorem e_gtI (i j : Int) : gtD (.int i) (.int j) = .ok (.bl (decide (j < i))) := id rfl
@[simp] theorem e_ixL (ds : List Dat) (i : Int) : ixD (.lst ds) (.int i) = ng ds i := id rfl
@[simp] theorem e_ixT (ds : List Dat) (i : Int) : ixD (.tup ds) (.int i) = ng ds i := id rfl
@[simp] theorem e_lenL (ds : List Dat) : Be [.lst ds] = .ok (.int ds.length) := id rfl
@[simp] theorem e_all (ds : List Dat) : allD [.lst ds] = (iW ds).bind fun bs => .ok (.bl (bs.all id)) := id rfl
@[simp] theorem e_listL (ds : List Dat) : yx [.lst ds] = .ok (.lst ds) := id rfl
@[simp] theorem e_intB (b : Bool) : intD [.bl b] = .ok (.int (b2z b)) := id rfl
@[simp] theorem e_max2 (i j : Int) : maxD [.int i, .int j] = .ok (.int (jI i j)) := id rfl
@[simp] theorem e_min2 (i j : Int) : minD [.int i, .int j] = .ok (.int (ke i j)) := id rfl
@[simp] theorem E7 (ds : List Dat) : maxD [.lst ds] = (dG ds).bind maxL := id rfl
@[simp] theorem e_isiBI (i : Int) : m7 (.int i) = .ok (.bl false) := id rfl
@[simp] theorem e_isiII (i : Int) : oQ (.int i) = .ok (.bl true) := id rfl
@[simp] theorem e_isiLL (ds : List Dat) : jW (.lst ds) = .ok (.bl true) := id rfl
@[simp] theorem e_isN (d : Dat) : isND d .non = .ok (.bl (match d with | .non => true | _ => false)) := by cases d <;> rfl
@[simp] theorem e_next : gT ρ = .ok (.nx ρ) := id rfl
@[simp] theorem e_seq : bC g h ρ = (g ρ).bind fun fl => match fl with
 | .nx ρ' => h ρ'
 | fl => .ok fl := id rfl
@[simp] theorem e_if : sIf ft g h ρ = (ft ρ).bind fun b => if b = true then g ρ else h ρ := id rfl
@[simp] theorem e_setB (O : List Nat) (i : Nat) : aO O i fa ρ = (fa (erase O ρ)).bind fun d => .ok (.nx 'S') := id rfl
@[simp] theorem e_setA (own : Bool) (i : Nat) : tm own i fa ρ = (fa ρ).bind fun d => if pV own d = true then .ok (.nx 'S') else .error .stuck := id rfl
@[simp] theorem e_ret : i3 fa ρ = (fa ρ).bind fun d => .ok (.rt d) := id rfl
@[simp] theorem e_for (O : List Nat) (fi : ak -> M (List Dat)) (p : Pat) : t4 O fi p g ρ = (fi (erase O ρ)).bind fun ds => kf p g ds ρ := id rfl
@[simp] theorem e_unpB (O : List Nat) (p : Pat) : xI O p fa ρ = (fa (erase O ρ)).bind fun d => (gw p d ρ).bind fun ρ' => .ok (.nx ρ') := id rfl
@[simp] theorem e_appB (O : List Nat) (i : Nat) : jK O i fa ρ = (kr ρ i).bind fun ds => (fa (erase O ρ)).bind fun d => if ds.length < sizeLine then put ρ i (ds ++ [d]) else .error .stuck := id rfl
@[simp] theorem e_setI (i : Nat) : zQ i fb fa ρ = (fa ρ).bind fun d => (kr ρ i).bind fun ds => (fb ρ).bind fun k => (asI k).bind fun k => if kK d = true then (match ixN ds.length k with
 | some j => put ρ i (ds.set j d)
 | none => .error .stuck) else .error .stuck := id rfl
@[simp] theorem e_popU (i : Nat) (pt : Pat) : CS i pt fa ρ = (kr ρ i).bind fun ds => (fa ρ).bind fun k => (D7 ds k).bind fun p => (gw pt p.1 (ρ.set i (some (.lst p.2)))).bind fun ρ' => .ok (.nx ρ') := id rfl
@[simp] theorem e_put (i : Nat) (ds : List Dat) : put ρ i ds = .ok (.nx (ρ.set i (some (.lst ds)))) := id rfl
@[simp] theorem e_lst0 (ds : List Dat) (r : ak) : kr (some (.lst ds) :: r) 0 = .ok ds := id rfl
@[simp] theorem e_lstS (i : Nat) (o : Option Dat) (r : ak) : kr (o :: r) (i + 1) = kr r i := by simp [kr]
@[simp] theorem e_er0 : erase [] ρ = ρ := id rfl
@[simp] theorem e_erS (i : Nat) (O : List Nat) : erase (i :: O) ρ = erase O (ρ.set i none) := id rfl
@[simp] theorem e_bnm (i : Nat) (d : Dat) : gw (.nm i) d ρ = .ok 'S' := id rfl
@[simp] theorem e_btp (is : List Nat) (ds : List Dat) : gw (.tp is) (.tup ds) ρ = if ds.length = is.length then .ok (lC is ds ρ) else .error .stuck := id rfl
@[simp] theorem e_sa0 (ds : List Dat) : lC [] ds ρ = ρ := by cases ds <;> rfl
@[simp] theorem e_saS (i : Nat) (is : List Nat) (d : Dat) (ds : List Dat) : lC (i :: is) (d :: ds) ρ = lC is ds 'S' := id rfl
@[simp] theorem e_in0 : n8 [] ρ = [] := id rfl
@[simp] theorem e_inN (ix : List (Option Nat)) : n8 (none :: ix) ρ = none :: n8 ix ρ := id rfl
@[simp] theorem e_inS (j : Nat) (ix : List (Option Nat)) : n8 (some j :: ix) ρ = (ρ[j]?).join :: n8 ix ρ := id rfl
@[simp] theorem e_tup (ds : List Dat) : fZ ds = if ds.length <= sizeLine then .ok (.tup ds) else .error .stuck := id rfl
@[simp] theorem e_lst (ds : List Dat) : gA ds = if ds.length <= sizeLine then .ok (.lst ds) else .error .stuck := id rfl
@[simp] theorem e_line : sizeLine = 16777216 := sizeLine_eq
@[simp] theorem e_run (a b : Nat) (ds : List Dat) : cV a b g ds = if ds.length = b then (g (ds.map some ++ List.replicate (a - ds.length) none)).bind fun fl => match fl with
 | .nx _ => .ok .non
 | .rt d => .ok d
 | _ => stk else stk := id rfl
@[simp] theorem e_rng1 {j : Int} (h : dD j = true) : zz [.int j] = .ok (cj 0 j.toNat) := by show (if dD j = true then _ else _) = _; rw [if_pos h]
@[simp] theorem wg {i j : Int} (h : 0 < j) : pk (.int i) (.int j) = .ok (.int (i % j)) := by simp [pk, h]
@[simp] theorem e_fdiv {i j : Int} (h : 0 < j) (h2 : j < 18446744073709551616) : n9 (.int i) (.int j) = .ok (.int (i / j)) := by simp [n9, h, h2]
@[simp] theorem e_mulR {i j : Int} (h : fX j = true) : t5 (.int i) (.int j) = .ok (.int (i * j)) := by show (if (fX i || fX j) = true then _ else _) = _; rw [h, Bool.or_true, if_pos rfl]
@[simp] theorem e_mulL {i j : Int} (h : fX i = true) : t5 (.int i) (.int j) = .ok (.int (i * j)) := by show (if (fX i || fX j) = true then _ else _) = _; rw [h, Bool.true_or, if_pos rfl]
end
end L2
namespace L2
open PySem PySem.Spec PyProof.Rows
section
variable {X : Cx} {K : PySem.W.Frag} {W : gS} {own ro : Bool} {e a b c : Expr} {es rest : List Expr} {x : Str} {pos p : Pos} {f fa fb fc : ak -> M Dat} {fr : ak -> M (List Dat)} {ft fu : ak -> M Bool}
theorem PE.imp {t t' : TE} (h : PE X e t) (q : ∀ σ H Q, t' σ H Q -> t σ H Q) : PE X e t' := fun pins s σ H Q I z => h pins s σ H Q I (q σ H Q z)
theorem PT.imp {t t' : TT} (h : PT X e t) (q : ∀ σ H Q, t' σ H Q -> t σ H Q) : PT X e t' := fun pins s σ H Q I z => h pins s σ H Q I (q σ H Q z)
theorem PW.imp {t t' : TT} (h : PW X e t) (q : ∀ σ H Q, t' σ H Q -> t σ H Q) : PW X e t' := fun wh pins s σ H Q I z => h wh pins s σ H Q I (q σ H Q z)
theorem PA.imp {t t' : TA} (h : PA X es t) (q : ∀ σ H Q, t' σ H Q -> t σ H Q) : PA X es t' := fun ps pins s σ H Q I z => h ps pins s σ H Q I (q σ H Q z)
theorem PI.imp {tg : Expr} {t t' : TI} (h : PI X tg e t) (q : ∀ σ H Q, t' σ H Q -> t σ H Q) : PI X tg e t' := fun pins s σ H Q I z => h pins s σ H Q I (q σ H Q z)
theorem PS.imp {st : Stmt} {t t' : TS} (h : PS X st t) (q : ∀ D σ H, t' D σ H -> t D σ H) : PS X st t' := fun pins s σ H D I z => h pins s σ H D I (q D σ H z)
theorem PSs.imp {st : List Stmt} {t t' : TS} (h : PSs X st t) (q : ∀ D σ H, t' D σ H -> t D σ H) : PSs X st t' := fun pins s σ H D I z => h pins s σ H D I (q D σ H z)
noncomputable abbrev DE (K : PySem.W.Frag) (W : gS) (own : Bool) (X : Cx) (e : Expr) (f : ak -> M Dat) : Prop := PE X e (tD K W own f)
noncomputable abbrev DT (K : PySem.W.Frag) (W : gS) (X : Cx) (e : Expr) (f : ak -> M Bool) : Prop := PT X e (tDT K W f)
noncomputable abbrev DW (K : PySem.W.Frag) (W : gS) (X : Cx) (e : Expr) (f : ak -> M Bool) : Prop := PW X e (tDT K W f)
noncomputable abbrev DA (K : PySem.W.Frag) (W : gS) (X : Cx) (es : List Expr) (f : ak -> M (List Dat)) : Prop := PA X es (tDA K W f)
noncomputable abbrev DI (K : PySem.W.Frag) (W : gS) (X : Cx) (tg e : Expr) (f : ak -> M (List Dat)) : Prop := PI X tg e (iD K W f)
noncomputable abbrev DG (K : PySem.W.Frag) (X : Cx) (tg : Expr) (p : Pat) : Prop := PG X tg (gP K p)
noncomputable abbrev DS (K : PySem.W.Frag) (W : gS) (ro : Bool) (X : Cx) (OL O O' : List Nat) (st : Stmt) (g : ak -> M Flo) : Prop := ∀ F0 H0 : Hp, PS X st (tS K W ro F0 H0 OL O O' g)
noncomputable abbrev DSs (K : PySem.W.Frag) (W : gS) (ro : Bool) (X : Cx) (OL O O' : List Nat) (st : List Stmt) (g : ak -> M Flo) : Prop := ∀ F0 H0 : Hp, PSs X st (tS K W ro F0 H0 OL O O' g)
noncomputable abbrev Op2 (K : PySem.W.Frag) (W : gS) (own : Bool) (X : Cx) (o : Value -> Value -> Sem Value) (g : Dat -> Dat -> M Dat) : Prop := OpR X o (rD2 K W own g)
noncomputable abbrev xa (K : PySem.W.Frag) (W : gS) (own : Bool) (X : Cx) (v : Value) (g : List Dat -> M Dat) : Prop := gL X v (rDL K W own g)
theorem ao (i : Nat) (hN : X.N[i]? = some x := by rfl) (hv : Vis X.env.scope x := by first | exact Or.inl rfl | exact Or.inr (Or.inl rfl) | exact Or.inr (Or.inr rfl)) (hd : 'c' = false := by decide)
  (hcd : (x == ("__classdict__" : Str)) = false := by decide) : DE K W false X (.Name x pos) (ah i) := (pv i hN hv hd hcd).imp fun _ _ _ => rd_var
theorem aa {i : Int} {j} : DE K W false X (.Constant (.int i) j pos) (fC (.int i)) := pe_int.imp fun _ _ _ => rd_c fun _ => rfl
theorem wt {k : Bool} {j} : DE K W false X (.Constant (.bool k) j pos) (fC (.bl k)) := pe_bl.imp fun _ _ _ => rd_c fun _ => rfl
theorem Ec {j} : DE K W false X (.Constant .none j pos) (fC .non) := pe_non.imp fun _ _ _ => rd_c fun _ => rfl
theorem sx {z : Str} {j} : DE K W false X (.Constant (.str z) j pos) (fC (.str z)) := pe_str.imp fun _ _ _ => rd_c fun _ => rfl
theorem Ed {n : Int} (hm : ∃ t, X.mg x = some (.int n t)) (hg : Gl X x := by rfl) (hd : 'c' = false := by decide) : DE K W false X (.Name x pos) (fC (.int n)) := (pe_gint hg hm hd).imp fun _ _ _ => rd_c fun _ => rfl
theorem aI (h : DE K W true X e f) : DE K W false X e f := PE.imp h fun _ _ _ ⟨F, ρ, r, s, p⟩ => ⟨F, ρ, r, s, p.frz⟩
theorem aC {op : Operator} {g : Dat -> Dat -> M Dat} (ho : Op2 K W own X (binaryOp op) g) (ha : DE K W false X a fa) (hb : DE K W false X b fb) : DE K W own X (.BinOp a op b pos) (f2 g fa fb) := (pe_op ho ha hb).imp fun _ _ _ => rd_2
theorem Am {op : UnaryOp} {g : Dat -> M Dat} (ho : UnR X (unaryOp op) (rD1 K W own g)) (ha : DE K W false X a fa) : DE K W own X (.UnaryOp op a pos) (f1 g fa) := (pe_un ho ha).imp fun _ _ _ => rd_1
theorem yP {op : CmpOp} {g : Dat -> Dat -> M Dat} (ho : Op2 K W false X (compareOp op) g) (ha : DE K W false X a fa) (hb : DE K W false X b fb) (hm : behindInMarks op b = false := by first | exact Dt _ | with_unfolding_all rfl) : DE K W false X (.Compare a [op] [b] pos) (f2 g fa fb) :=
 (pe_cmpR ho ha hb hm).imp fun _ _ _ => rd_2
theorem eS {op : CmpOp} {g : Dat -> Dat -> M Dat} (ho : Op2 K W false X (compareOp op) g) (ha : DE K W false X a fa) (hb : DE K W false X b fb) (hm : behindInMarks op b = false := by first | exact Dt _ | with_unfolding_all rfl) : DT K W X (.Compare a [op] [b] pos) (fB (f2 g fa fb)) :=
 (CZ ho ha hb hm).imp fun σ H Q h => by
  have q := rd_B h
  exact rd_2 (own := false) q
theorem de_chain {op op' : CmpOp} {g g' : Dat -> Dat -> M Dat} (ho : Op2 K W false X (compareOp op) g) (ho' : Op2 K W false X (compareOp op') g') (ha : DE K W false X a fa) (hb : DE K W false X b fb) (hc : DE K W false X c fc)
  (hm : lastMarks [op, op'] [b, c] = false := by with_unfolding_all rfl) : DE K W false X (.Compare a [op, op'] [b, c] pos) (lg g g' fa fb fc) := (pe_chain ho ho' ha hb hc hm).imp fun _ _ _ => B8
theorem wj {op op' : CmpOp} {g g' : Dat -> Dat -> M Dat} (ho : Op2 K W false X (compareOp op) g) (ho' : Op2 K W false X (compareOp op') g') (ha : DE K W false X a fa) (hb : DE K W false X b fb) (hc : DE K W false X c fc)
  (hm : lastMarks [op, op'] [b, c] = false := by with_unfolding_all rfl) : DT K W X (.Compare a [op, op'] [b, c] pos) (fB (lg g g' fa fb fc)) := (pt_chain ho ho' ha hb hc hm).imp fun σ H Q h => by
  have q := rd_B h
  exact B8 q
theorem mm (ha : DE K W false X a fa) (hK : X.K = K := by rfl) (he : ∀ whole, isTrue a X.env whole = (do let v <- whole; standAt a.pos; holding [v] (truthy v)) := by intro _; rfl) : DT K W X a (xc fa) := by
 subst hK
 exact (pt_truth ha he).imp fun _ _ _ => rd_tru
theorem qt (ha : DT K W X a ft) : DT K W X (.UnaryOp .Not a pos) (Ak ft) := (pt_not ha).imp fun _ _ _ => rd_not
theorem dw_and1 (ha : DT K W X a ft) : DW K W X (.BoolOp .And [a] pos) ft := pw_and1 ha
theorem yN (ha : DT K W X a ft) : DW K W X (.BoolOp .Or [a] pos) ft := pw_or1 ha
theorem dw_and (ha : DT K W X a ft) (hb : DW K W X (.BoolOp .And (b :: rest) pos) fu) : DW K W X (.BoolOp .And (a :: b :: rest) pos) (fAnd ft fu) := (pw_and ha hb).imp fun _ _ _ => rd_and
theorem E8 (ha : DT K W X a ft) (hb : DW K W X (.BoolOp .Or (b :: rest) pos) fu) : DW K W X (.BoolOp .Or (a :: b :: rest) pos) (fOr ft fu) := (pw_or ha hb).imp fun _ _ _ => rd_or
theorem de_one {op} (h : DE K W false X a f) : DE K W false X (.BoolOp op [a] pos) f := pe_one h
theorem Ef (ha : DE K W false X a fa) (hb : DE K W false X (.BoolOp .And (b :: rest) pos) fb) : DE K W false X (.BoolOp .And (a :: b :: rest) pos) (w9 fa fb) := (pe_and ha hb).imp fun _ _ _ => rd_andV
theorem de_not (ha : DE K W false X a fa) : DE K W false X (.UnaryOp .Not a pos) (f1 notD fa) := (pe_not ha).imp fun _ _ _ => rd_notV
theorem de_ite (hc : DT K W X c ft) (ha : DE K W own X a fa) (hb : DE K W own X b fb) : DE K W own X (.IfExp c a b pos) (fIte ft fa fb) := (pe_ifExp hc ha hb).imp fun _ _ _ => rd_ite
theorem aj : DA K W X [] aN := iJ.imp fun _ _ _ => rd_nil
theorem a8 (ha : DE K W false X e fa) (hr : DA K W X es fr) (hs : starEach (e :: es) X.env = 'k' :: starEach es X.env := by rfl) : DA K W X (e :: es) (a9 fa fr) := (cL ha hr hs).imp fun _ _ _ => rd_cons
theorem eT {x1} (h : DA K W X es fr) : DE K W own X (.Tuple es x1 pos) (fL fZ fr) := (pe_tup h).imp fun _ _ _ => rd_tup
theorem ee (h : DA K W X es fr) : DE K W true X (.List es pos) (fL gA fr) := (pe_lst h).imp fun _ _ _ => rd_lst
theorem aY {id : String} {g : List Dat -> M Dat} (hc : xa K W own X (.builtin id) g) (hm : X.mg x = none) (hv : bootBuiltins x = some (.builtin id)) (ha : DA K W X (e :: es) fr) (hg : Gl X x := by rfl) (hn : x ≠ "__name__" := by decide) (hdb : 'c' = false := by decide)
  (hst : starEach (e :: es) X.env = 'k' :: starEach es X.env := by rfl) (hpl : 'm'.any (·.1) = false := by rfl) : DE K W own X 'G' (fL g fr) :=
 (kn hc hg hm hv ha hn hdb hst hpl).imp fun _ _ _ => rd_L
theorem k8 {T : String} {g : List Dat -> M Dat} (hc : xa K W own X (.type T) g) (hm : X.mg x = none) (hv : bootBuiltins x = some (.type T)) (ha : DA K W X (e :: es) fr) (hg : Gl X x := by rfl) (hn : x ≠ "__name__" := by decide) (hdb : 'c' = false := by decide)
  (hst : starEach (e :: es) X.env = 'k' :: starEach es X.env := by rfl) (hpl : 'm'.any (·.1) = false := by rfl) : DE K W own X 'G' (fL g fr) :=
 (Dh hc hg hm hv ha hn hdb hst hpl).imp fun _ _ _ => rd_L
theorem aH {g : Dat -> Dat -> M Dat} (hr : IxR X (rD2 K W own g)) (ha : DE K W false X a fa) (hb : DE K W false X b fb) (hs : EN b := by exact fun _ _ => rfl) : DE K W own X (.Subscript a b pos) (f2 g fa fb) := (pe_ix hr ha hb hs).imp fun _ _ _ => rd_2
theorem wo {i : Nat} (hN : X.N.Nodup) (hi : X.N[i]? = some x := by rfl) (hx : Loc X.env.scope x := by first | exact Or.inl rfl | exact Or.inr rfl) (hf : X.fn x = true \/ X.env.scope.names.lookup x = some .local := by first | exact .inl rfl | exact .inr rfl | assumption) : DG K X (.Name x pos) (.nm i) := zW hN hi hx hf
theorem jd {tg : Expr} (hl : DE K W false X e fa) (hK : X.K = K := by rfl) : DI K W X tg e (fIt fa) := by
 subst hK
 refine PI.imp (t := iSeq X.K (tD X.K W false fa)) ?_ fun _ _ _ => ri_seq
 intro pins s σ H R I h
 refine thn (hl pins s σ H _ I h) fun v s1 ⟨y, H1, I1, r1, q1⟩ => ?_
 obtain ⟨l, e1, q⟩ := q1
 subst e1
 cases r1
 rcases q with ⟨⟨xs, hq⟩, q⟩ | ⟨⟨xs, hq⟩, q⟩
 ·obtain ⟨its, rv, p, hz⟩ := I1.list hq
  refine wpAny_pyIter_list p.isList ?_
  refine ⟨s1.heap.objs.size, [s1.heap.objs.size], _, _, H1, rfl, I1.kept (t' := s1.toks) fun b o e => Heap.get?_push_of_some _ e, CC l _, ⟨_, Heap.get?_push_size _ rfl, rfl, rfl⟩, fun b hb => ?_, q⟩
  have e : b = s1.heap.objs.size := by simpa using hb
  subst e
  exact I1.fpOk 'n' (I1.hok.fresh 'n')
 ·obtain ⟨its, rv, p, hz⟩ := I1.tuple hq
  refine wpAny_pyIter_tuple (show s1.heap.IsTuple l its.toArray from p) ?_
  refine ⟨s1.heap.objs.size, [s1.heap.objs.size], _, _, H1, rfl, I1.kept (t' := s1.toks) fun b o e => Heap.get?_push_of_some _ e, BE l _, ⟨_, Heap.get?_push_size _ rfl, rfl, rfl⟩, fun b hb => ?_, q⟩
  have e : b = s1.heap.objs.size := by simpa using hb
  subst e
  exact I1.fpOk 'n' (I1.hok.fresh 'n')
theorem jw {tg : Expr} (hm : X.mg "range" = none) (ha : DA K W X [a] fr) (hg : Gl X "range" := by rfl) (hs : starEach [a] X.env = [(false, eval a X.env)] := by rfl) : DI K W X tg (.Call (.Name "range" p) [a] [] pos) (rl zz fr) := (Dd hg hm ha hs).imp fun _ _ _ => ri_rng1
variable {OL O O' O2 : List Nat} {st : Stmt} {sts : List Stmt} {g h : ak -> M Flo}
theorem e9 : DSs K W ro X OL O O [] gT := fun _ _ => D0.imp fun _ _ _ => rs_next
theorem ai (h1 : DS K W ro X OL O O' st g) (h2 : DSs K W ro X OL O' O2 sts h) : DSs K W ro X OL O O2 (st :: sts) (bC g h) := fun F0 H0 => (rh (h1 F0 H0) (h2 F0 H0)).imp fun _ _ _ => rs_seq
theorem ay (h1 : DS K W ro X OL O O' st g) : DSs K W ro X OL O O' [st] g := fun F0 H0 => rE (h1 F0 H0)
theorem cE (h1 : DSs K W ro X OL O2 O' sts g) (hs : ∀ i ∈ O2, i ∈ O := by decide) : DSs K W ro X OL O O' sts g := fun F0 H0 => PSs.imp (h1 F0 H0) fun _ _ _ => tS.enter hs
theorem iq {sa sb : List Stmt} (hc : DT K W X c ft) (ha : DSs K W ro X OL O O' sa g) (hb : DSs K W ro X OL O O' sb h) : DS K W ro X OL O O' (.If c sa sb pos) (sIf ft g h) := fun F0 H0 => (ps_if hc (ha F0 H0) (hb F0 H0)).imp fun _ _ _ => rs_if
theorem aq {i : Nat} {pos' : Pos} (hN : X.N.Nodup) (he : DE K W own X e f) (hi : X.N[i]? = some x := by rfl) (hx : Loc X.env.scope x := by first | exact Or.inl rfl | exact Or.inr rfl) (hs : swapsWith e (some (.Name x pos')) pos.line X.env = pure false := by rfl) (hf : X.fn x = true \/ X.env.scope.names.lookup x = some .local := by first | exact .inl rfl | exact .inr rfl | assumption) :
  DS K W ro X OL O (aft own i O) (.Assign [.Name x pos'] e pos) (aO O i f) := fun F0 H0 => (D1 hN hi hx he hs hf).imp fun _ _ _ => CU
theorem wm {i : Nat} {pos' : Pos} (hN : X.N.Nodup) (he : DE K W own X e f) (hi : X.N[i]? = some x := by rfl) (hx : Loc X.env.scope x := by first | exact Or.inl rfl | exact Or.inr rfl) (hs : swapsWith e (some (.Name x pos')) pos.line X.env = pure false := by rfl) (hf : X.fn x = true \/ X.env.scope.names.lookup x = some .local := by first | exact .inl rfl | exact .inr rfl | assumption) :
  DS K W ro X OL O (aft own i O) (.Assign [.Name x pos'] e pos) (tm own i f) := fun F0 H0 => (D1 hN hi hx he hs hf).imp fun _ _ _ => rs_setA
theorem aZ (he : DE K W ro X e f) : DS K W ro X OL O O' (.Return (some e) pos) (i3 f) := fun F0 H0 => (ps_ret he).imp fun _ _ _ => rs_ret
theorem ds_retV {i : Nat} (ho : i ∈ O := by decide) (hN : X.N[i]? = some x := by rfl) (hv : Vis X.env.scope x := by first | exact Or.inl rfl | exact Or.inr (Or.inl rfl) | exact Or.inr (Or.inr rfl)) (hd : 'c' = false := by decide)
  (hcd : (x == ("__classdict__" : Str)) = false := by decide) : DS K W true X OL O O' (.Return (some (.Name x p)) pos) (i3 (ah i)) := fun F0 H0 => (ps_ret (pv i hN hv hd hcd)).imp fun _ _ _ => rs_retV ho
theorem ij {tg iter : Expr} {body : List Stmt} {fs : ak -> M (List Dat)} {pt : Pat} (hi : DI K W X tg iter fs) (hg : DG K X tg pt) (hb : DSs K W ro X O O O body g) (n : ∀ i ∈ pt.names, i ∉ O := by decide) (hp : PassesOwn 'b' X.A X.env X.xe := by exact PassesOwn.never) (hc : X.calm = true := by rfl)
  (hs : ∀ x, foldedSetIterable iter X.env x = pure x := by intro _; rfl) : DS K W ro X OL O O (.For tg iter body [] pos) (t4 O fs pt g) := fun F0 H0 => (ps_for hp hc hi hg (hb F0 H0) hs).imp fun _ _ _ => rs_for n
theorem Bo {m : Nat} {body : List Stmt} (hc : DT K W X c ft) (hb : DSs K W ro X O O O body g) (hp : PassesOwn 'b' X.A X.env X.xe := by exact PassesOwn.never) : DS K W ro X OL O O (.While c body [] pos) (eR ft g m) := fun F0 H0 => (ps_while hp hc (hb F0 H0)).imp fun _ _ _ => rs_while
theorem gG {i : Nat} {apos : Pos} {q : Pos} (he : DE K W false X e f) (ho : i ∈ O := by decide) (hN : X.N[i]? = some x := by rfl) (hv : Vis X.env.scope x := by first | exact Or.inl rfl | exact Or.inr (Or.inl rfl) | exact Or.inr (Or.inr rfl)) (hd : 'c' = false := by decide) (hcd : (x == ("__classdict__" : Str)) = false := by decide) (hK : X.K = K := by rfl)
  (hst : starEach [e] X.env = ['k'] := by rfl) (hbase : attributeBase (.Name x p) "append" X.env (eval (.Name x p) X.env) = eval (.Name x p) X.env := by rfl) (hfew : 'r' = true := by rfl) (hplain : (backTo q (starEach [] X.env)).any (·.1) = false := by rfl) (hline : (apos.endLine == q.line) = true := by rfl) (hsw : swapsWith (.Call (.Attribute (.Name x p) "append" apos) [e] [] q) none pos.line X.env = pure false := by rfl) :
  DS K W ro X OL O O (.Expr (.Call (.Attribute (.Name x p) "append" apos) [e] [] q) pos) (jK O i f) := fun F0 H0 => by
 subst hK
 exact PS.imp (D3 (pe_bm PySem.F.plainAttrs_list PySem.F.slot_list_append PySem.F.type_list_append Dv (pv i hN hv hd hcd) (cL he iJ hst) hbase hfew hline hst hplain) hsw) fun _ _ _ => rs_appB ho
end
end L2
namespace L2
open PySem PySem.Spec PyProof.Rows
section
variable {X : Cx} {K : PySem.W.Frag} {W : gS} {own : Bool}
theorem OpR.imp {f : Value -> Value -> Sem Value} {r r' : R2} (h : OpR X f r) (q : ∀ x y H Q, r' x y H Q -> r x y H Q) : OpR X f r' := fun pins s σ H x y v u Q I rx ry z => h pins s σ H x y v u Q I rx ry (q x y H Q z)
theorem UnR.imp {f : Value -> Sem Value} {r r' : V -> Hp -> VK -> Prop} (h : UnR X f r) (q : ∀ x H Q, r' x H Q -> r x H Q) : UnR X f r' := fun pins s σ H x v Q I rx z => h pins s σ H x v Q I rx (q x H Q z)
theorem gL.imp {f : Value} {r r' : List V -> Hp -> VK -> Prop} (h : gL X f r) (q : ∀ x H Q, r' x H Q -> r x H Q) : gL X f r' := fun pins s σ H x v Q I rx z => h pins s σ H x v Q I rx (q x H Q z)
theorem IxR.imp {r r' : R2} (h : IxR X r) (q : ∀ x y H Q, r' x y H Q -> r x y H Q) : IxR X r' := fun va sl pins s σ H x y v u Q I rx ry z e => h va sl pins s σ H x y v u Q I rx ry (q x y H Q z) e
theorem aL.stuck {F H : Hp} {Q : VK} {P : Prop} (p : aL K W own F H (stk) Q) : P := (W.ns p).elim
theorem aL.int {F H : Hp} {Q : VK} {i : Int} (p : aL K W own F H (.ok (.int i)) Q) (s : bj F H) : Q (.int i) H := p _ F H (Step.refl s) (by cases own <;> rfl)
theorem aL.bl {F H : Hp} {Q : VK} {b : Bool} (p : aL K W own F H (.ok (.bl b)) Q) (s : bj F H) : Q (.bl b) H := p _ F H (Step.refl s) (by cases own <;> rfl)
theorem aL.str {F H : Hp} {Q : VK} {x : Str} (p : aL K W own F H (.ok (.str x)) Q) (s : bj F H) : Q (.str x) H := p _ F H (Step.refl s) (by cases own <;> rfl)
theorem aL.tup {F H : Hp} {Q : VK} {ds : List Dat} {xs : List V} {a : Addr} (p : aL K W own F H (.ok (.tup ds)) Q) (s : bj F H) (q : aD K F ds xs) (ha : H a = none) : Q (.ref a) (upd H a (.tup xs)) :=
 p _ _ _ (Step.lay s ha) (by
  have : cR K (upd F a (.tup xs)) (.tup ds) (.ref a) := ⟨a, xs, rfl, SqT.of av, q.mono (bj.upd (s.free ha))⟩
  cases own <;> exact this)
theorem aL.same {F H : Hp} {Q : VK} {ds : List Dat} {v : V} (p : aL K W own F H (.ok (.tup ds)) Q) (s : bj F H) (q : cR K F (.tup ds) v) : Q v H := p _ F H (Step.refl s) (by cases own <;> exact q)
theorem aL.lst {F H : Hp} {Q : VK} {ds : List Dat} {xs : List V} {a : Addr} (p : aL K W true F H (.ok (.lst ds)) Q) (s : bj F H) (q : aD K F ds xs) (ha : H a = none) : Q (.ref a) (upd H a (.lst xs)) :=
 p _ F _ (Step.grow s ha) ⟨a, xs, rfl, av, s.free ha, ha, q⟩
theorem j6 {g : Dat -> Dat -> M Dat} (hg : ∀ a b, (∃ i j, a = .int i /\ b = .int j) \/ g a b = stk) {x y : V} {H : Hp} {Q : VK} (h : rD2 K W own g x y H Q) : ∃ F i j, bj F H /\ x = .int i /\ y = .int j /\ aL K W own F H (g (.int i) (.int j)) Q := by
 obtain ⟨F, a, b, s, qa, qb, p⟩ := h
 rcases hg a b with ⟨i, j, rfl, rfl⟩ | e
 ·exact ⟨F, i, j, s, qa, qb, p⟩
 ·rw [e] at p; exact p.stuck
theorem o_sub : Op2 K W own X (binaryOp .Sub) subD := op_sub.imp fun x y H Q h => by
 obtain ⟨F, i, j, s, e1, e2, p⟩ := j6 (fun a b => by cases a <;> cases b <;> first | exact .inr rfl | exact .inl ⟨_, _, rfl, rfl⟩) h
 exact ⟨i, j, e1, e2, p.int s⟩
theorem lu : Op2 K W own X (binaryOp .Mult) t5 := op_mul.imp fun x y H Q h => by
 obtain ⟨F, i, j, s, e1, e2, p⟩ := j6 (fun a b => by cases a <;> cases b <;> first | exact .inr rfl | exact .inl ⟨_, _, rfl, rfl⟩) h
 have p' : aL K W own F H (if (fX i || fX j) = true then .ok (.int (i * j)) else stk) Q := p
 by_cases hc : (fX i || fX j) = true
 ·rw [if_pos hc] at p'
  refine ⟨i, j, e1, e2, ?_, p'.int s⟩
  unfold fX at hc
  simp only [Bool.or_eq_true, Bool.and_eq_true, decide_eq_true_eq] at hc
  exact hc
 ·rw [if_neg hc] at p'; exact p'.stuck
theorem DC {j : Int} (h0 : 0 < j) (h1 : j < 18446744073709551616) : j.natAbs.log2 < 9000 := by
 have a : j.natAbs < 2 ^ 64 := by omega
 have b := (Nat.log2_lt (n := j.natAbs) (k := 64) (by omega)).mpr a
 omega
theorem Dk : OpR X (binaryOp .FloorDiv) (rI (fun _ j => 0 < j /\ j < 18446744073709551616) fun i j => .int (i / j)) := opI fun i j _ _ _ _ _ hc q => by
 obtain ⟨c1, c2⟩ := hc
 exact floordiv_int (by omega) (by rw [Int.fdiv_eq_ediv_of_nonneg i (by omega)]; exact q) (.inl (PyProof.noPylong_of_log2 (DC c1 c2)))
theorem jT : Op2 K W own X (binaryOp .FloorDiv) n9 := Dk.imp fun x y H Q h => by
 obtain ⟨F, i, j, s, e1, e2, p⟩ := j6 (fun a b => by cases a <;> cases b <;> first | exact .inr rfl | exact .inl ⟨_, _, rfl, rfl⟩) h
 have p' : aL K W own F H (if (decide (0 < j) && decide (j < 18446744073709551616)) = true then .ok (.int (i / j)) else stk) Q := p
 by_cases hc : (decide (0 < j) && decide (j < 18446744073709551616)) = true
 ·rw [if_pos hc] at p'
  simp only [Bool.and_eq_true, decide_eq_true_eq] at hc
  exact ⟨i, j, e1, e2, hc, p'.int s⟩
 ·rw [if_neg hc] at p'; exact p'.stuck
theorem i4 : Op2 K W own X (binaryOp .Mod) pk := op_mod.imp fun x y H Q h => by
 obtain ⟨F, i, j, s, e1, e2, p⟩ := j6 (fun a b => by cases a <;> cases b <;> first | exact .inr rfl | exact .inl ⟨_, _, rfl, rfl⟩) h
 have p' : aL K W own F H (if 0 < j then .ok (.int (i % j)) else stk) Q := p
 by_cases hc : 0 < j
 ·rw [if_pos hc] at p'
  exact ⟨i, j, e1, e2, hc, p'.int s⟩
 ·rw [if_neg hc] at p'; exact p'.stuck
theorem yt : Op2 K W own X (binaryOp .Pow) D5 := op_pow.imp fun x y H Q h => by
 obtain ⟨F, i, j, s, e1, e2, p⟩ := j6 (fun a b => by cases a <;> cases b <;> first | exact .inr rfl | exact .inl ⟨_, _, rfl, rfl⟩) h
 have p' : aL K W own F H (if (decide (0 <= j) && decide (j <= 1000000) && decide (i.natAbs < 2 ^ 64)) = true then .ok (.int (i ^ j.toNat)) else stk) Q := p
 by_cases hc : (decide (0 <= j) && decide (j <= 1000000) && decide (i.natAbs < 2 ^ 64)) = true
 ·rw [if_pos hc] at p'
  simp only [Bool.and_eq_true, decide_eq_true_eq] at hc
  exact ⟨i, j, e1, e2, ⟨hc.1.1, hc.1.2, hc.2⟩, p'.int s⟩
 ·rw [if_neg hc] at p'; exact p'.stuck
theorem Aa : UnR X (unaryOp .USub) (rD1 K W own negD) := un_neg.imp fun x H Q h => by
 obtain ⟨F, a, s, qa, p⟩ := h
 cases a with
 | int i => exact ⟨i, qa, aL.int (own := own) p s⟩
 | _ => exact aL.stuck p
theorem o_lt : Op2 K W own X (compareOp .Lt) ltD := op_lt.imp fun x y H Q h => by
 obtain ⟨F, i, j, s, e1, e2, p⟩ := j6 (fun a b => by cases a <;> cases b <;> first | exact .inr rfl | exact .inl ⟨_, _, rfl, rfl⟩) h
 exact ⟨i, j, e1, e2, p.bl s⟩
theorem o_le : Op2 K W own X (compareOp .LtE) leD := op_le.imp fun x y H Q h => by
 obtain ⟨F, i, j, s, e1, e2, p⟩ := j6 (fun a b => by cases a <;> cases b <;> first | exact .inr rfl | exact .inl ⟨_, _, rfl, rfl⟩) h
 exact ⟨i, j, e1, e2, p.bl s⟩
theorem o_gt : Op2 K W own X (compareOp .Gt) gtD := op_gt.imp fun x y H Q h => by
 obtain ⟨F, i, j, s, e1, e2, p⟩ := j6 (fun a b => by cases a <;> cases b <;> first | exact .inr rfl | exact .inl ⟨_, _, rfl, rfl⟩) h
 exact ⟨i, j, e1, e2, p.bl s⟩
theorem op_catL : OpR X (binaryOp .Add) (fun x y H Q => ∃ l b xs zs, x = .ref l /\ y = .ref b /\ SqL X.K H l xs /\ SqL X.K H b zs /\ xs.length + zs.length <= sizeLine /\ ∀ p, H p = none -> Q (.ref p) (upd H p (.lst (xs ++ zs)))) := by
 intro pins s σ H x y v u Q I rx ry h
 obtain ⟨l, b, xs, zs, rfl, rfl, hH, hB, hz, q⟩ := h
 cases rx
 cases ry
 obtain ⟨its, r, p1, hl⟩ := I.list hH
 obtain ⟨its2, r2, p2, hl2⟩ := I.list hB
 have z1 := r.length
 have z2 := r2.length
 obtain ⟨⟨cls, dd, data, sl⟩, ho, hc, n, hd⟩ := id p1.isList
 obtain ⟨⟨cls2, dd2, data2, sl2⟩, ho2, hc2, n2, hd2⟩ := id p2.isList
 simp only at hc hd hc2 hd2
 subst hc hd hc2 hd2
 refine concat_meets ⟨_, ho, rfl⟩ ⟨_, ho2, rfl⟩ noFill_list_add seq_list_add PySem.F.slot_list_add PySem.F.entry_list_add (PySem.F.args_list_add_2 _ _) (list_addW l b its.toArray its2.toArray n n2 dd dd2 sl sl2 (by simp only [List.size_toArray]; omega)) ⟨ho, ho2, ?_⟩
 have ea : its.toArray ++ its2.toArray = (its ++ its2).toArray := by simp
 rw [ea]
 exact ⟨.ref _, _, I.lnew (t' := s.toks) (r.append r2) (by rw [List.length_append]; omega), rfl, q _ I.fresh⟩
theorem op_cat3 : OpR X (binaryOp .Add) (fun x y H Q => ∃ a b xs ys, x = .ref a /\ y = .ref b /\ SqT X.K H a xs /\ SqT X.K H b ys /\ xs.length + ys.length <= sizeLine /\ (xs = [] -> Q (.ref b) H) /\ (ys = [] -> Q (.ref a) H) /\ ∀ p, H p = none -> Q (.ref p) (upd H p (.tup (xs ++ ys)))) := by
 intro pins s σ H x y v u Q I rx ry h
 obtain ⟨a, b, xs, ys, rfl, rfl, ha, hb, hz, q1, q2, q3⟩ := h
 by_cases hx : xs = []
 ·subst hx
  cases rx
  cases ry
  obtain ⟨its, r1, p1, _⟩ := I.tuple ha
  obtain ⟨its2, r2, p2, _⟩ := I.tuple hb
  cases r1
  obtain ⟨⟨cls, dd, data, sl⟩, ho, hc, n, hd⟩ := id p1
  obtain ⟨⟨cls2, dd2, data2, sl2⟩, ho2, hc2, n2, hd2⟩ := id p2
  simp only at hc hd hc2 hd2
  subst hc hd hc2 hd2
  exact concat_meets ⟨_, ho, rfl⟩ ⟨_, ho2, rfl⟩ noFill_tuple_add seq_tuple_add PySem.F.slot_tuple_add PySem.F.entry_tuple_add (PySem.F.args_tuple_add_2 _ _)
   (tuple_addW0 a b #[] its2.toArray n n2 dd dd2 sl sl2 rfl) ⟨ho, ho2, ⟨.ref b, H, I, rfl, q1 rfl⟩⟩
 ·exact op_catT pins s σ H _ _ v u Q I rx ry ⟨a, b, xs, ys, rfl, rfl, ha, hb, hx, hz, fun e => q2 e, fun _ p hp => q3 p hp⟩
theorem gv (hK : X.K = K := by rfl) : Op2 K W true X (binaryOp .Add) lq := by
 subst hK
 refine (op_add.or (BU.or (op_catL.or op_cat3))).imp fun x y H Q h => ?_
 obtain ⟨F, a, b, s, qa, qb, p⟩ := h
 cases a with
 | int i =>
  cases b with
  | int j => exact .inl ⟨i, j, qa, qb, p.int s⟩
  | _ => exact aL.stuck p
 | str z =>
  cases b with
  | str w =>
   have p' : aL X.K W true F H (if z.length + w.length <= sizeLine then .ok (.str (z ++ w)) else stk) Q := p
   by_cases hc : z.length + w.length <= sizeLine
   ·rw [if_pos hc] at p'
    exact .inr (.inl ⟨z, w, qa, qb, hc, p'.str s⟩)
   ·rw [if_neg hc] at p'; exact p'.stuck
  | _ => exact aL.stuck p
 | lst ds =>
  cases b with
  | lst es =>
   obtain ⟨a, xs, e1, t1, r1⟩ := qa
   obtain ⟨b, ys, e2, t2, r2⟩ := qb
   have p' : aL X.K W true F H (if ds.length + es.length <= sizeLine then .ok (.lst (ds ++ es)) else stk) Q := p
   by_cases hc : ds.length + es.length <= sizeLine
   ·rw [if_pos hc] at p'
    exact .inr (.inr (.inl ⟨a, b, xs, ys, e1, e2, s.lst t1, s.lst t2, by rw [r1.length, r2.length]; exact hc, fun l hl => p'.lst s (r1.append r2) hl⟩))
   ·rw [if_neg hc] at p'; exact p'.stuck
  | _ => exact aL.stuck p
 | tup ds =>
  cases b with
  | tup es =>
   obtain ⟨a, xs, e1, t1, r1⟩ := qa
   obtain ⟨b, ys, e2, t2, r2⟩ := qb
   have p' : aL X.K W true F H (if ds.length + es.length <= sizeLine then .ok (.tup (ds ++ es)) else stk) Q := p
   by_cases hc : ds.length + es.length <= sizeLine
   ·rw [if_pos hc] at p'
    refine .inr (.inr (.inr ⟨a, b, xs, ys, e1, e2, s.tup t1, s.tup t2, by rw [r1.length, r2.length]; exact hc, fun e => ?_, fun e => ?_, fun l hl => p'.tup s (r1.append r2) hl⟩))
    ·have z : ds = [] := by have := r1.length; rw [e] at this; exact List.length_eq_zero_iff.mp this.symm
     subst z
     exact p'.same s ⟨b, ys, rfl, t2, r2⟩
    ·have z : es = [] := by have := r2.length; rw [e] at this; exact List.length_eq_zero_iff.mp this.symm
     subst z
     rw [List.append_nil] at p'
     exact p'.same s ⟨a, xs, rfl, t1, r1⟩
   ·rw [if_neg hc] at p'; exact p'.stuck
  | _ => exact aL.stuck p
 | _ => exact aL.stuck p
theorem o_isN : Op2 K W own X (compareOp .Is) isND := op_isN.imp fun x y H Q h => by
 obtain ⟨F, a, b, s, qa, qb, p⟩ := h
 have key : ∀ {k : Bool}, isND a b = .ok (.bl k) -> b = .non -> (decide (x = V.non) = k) -> y = V.non /\ Q (.bl (decide (x = V.non))) H := fun {k} e1 e2 e3 => by
  subst e2
  rw [e1] at p
  rw [e3]
  exact ⟨qb, p.bl s⟩
 cases b with
 | non =>
  cases a with
  | non => exact key rfl rfl (by rw [show x = .non from qa]; rfl)
  | bl k => exact key rfl rfl (by rw [show x = .bl k from qa]; rfl)
  | int k => exact key rfl rfl (by rw [show x = .int k from qa]; rfl)
  | str k => exact key rfl rfl (by rw [show x = .str k from qa]; rfl)
  | tup ds => obtain ⟨l, xs, e, _⟩ := qa; exact key rfl rfl (by rw [e]; rfl)
  | lst ds => obtain ⟨l, xs, e, _⟩ := qa; exact key rfl rfl (by rw [e]; rfl)
  | ins C fs => obtain ⟨l, dx, xs, e, _⟩ := qa; exact key rfl rfl (by rw [e]; rfl)
 | _ => cases a <;> exact aL.stuck p
theorem DU {F H : Hp} {Q : VK} {ds : List Dat} {xs : List V} {i : Int} (p : aL K W false F H (ng ds i) Q) (s : bj F H) (r : aD K F ds xs) : ∃ v, atI xs i = some v /\ Q v H := by
 unfold ng at p
 cases e : atI ds i with
 | none => rw [e] at p; exact aL.stuck p
 | some d =>
  rw [e] at p
  unfold atI at e
  cases hj : ixN ds.length i with
  | none => rw [hj] at e; cases e
  | some j =>
   rw [hj] at e
   obtain ⟨v, e1, q⟩ := r.get (show ds[j]? = some d from e)
   refine ⟨v, ?_, p v F H (Step.refl s) q⟩
   unfold atI
   rw [r.length, hj]
   exact e1
theorem cH (hK : X.K = K := by rfl) : IxR X (rD2 K W false ixD) := by
 subst hK
 refine ix_seq.imp fun x y H Q h => ?_
 obtain ⟨F, a, b, s, qa, qb, p⟩ := h
 cases a with
 | lst ds =>
  cases b with
  | int i =>
   obtain ⟨a, xs, e1, t1, r1⟩ := qa
   obtain ⟨v, e2, q⟩ := DU p s r1
   exact .inl ⟨a, xs, i, v, e1, qb, s.lst t1, e2, q⟩
  | _ => exact aL.stuck p
 | tup ds =>
  cases b with
  | int i =>
   obtain ⟨a, xs, e1, t1, r1⟩ := qa
   obtain ⟨v, e2, q⟩ := DU p s r1
   exact .inr (.inl ⟨a, xs, i, v, e1, qb, s.tup t1, e2, q⟩)
  | _ => exact aL.stuck p
 | _ => exact aL.stuck p
theorem qY (hK : X.K = K := by rfl) : xa K W own X (.builtin "len") Be := by
 subst hK
 refine mE.imp fun xs H Q h => ?_
 obtain ⟨F, ds, s, q, p⟩ := h
 match ds, q, p with
 | [.lst es], ⟨v, vs, e, ⟨a, ys, e1, t, r⟩, e2⟩, p =>
  refine ⟨a, ys, by rw [e, e1, show vs = [] from e2], .inl (s.lst t), ?_⟩
  rw [r.length]
  exact aL.int (own := own) p s
 | [.tup es], ⟨v, vs, e, ⟨a, ys, e1, t, r⟩, e2⟩, p =>
  refine ⟨a, ys, by rw [e, e1, show vs = [] from e2], .inr (s.tup t), ?_⟩
  rw [r.length]
  exact aL.int (own := own) p s
 | [], _, p => exact aL.stuck p
 | [.non], _, p => exact aL.stuck p
 | [.bl _], _, p => exact aL.stuck p
 | [.int _], _, p => exact aL.stuck p
 | [.str _], _, p => exact aL.stuck p
 | [.ins _ _], _, p => exact aL.stuck p
 | .non :: _ :: _, _, p => exact aL.stuck p
 | .bl _ :: _ :: _, _, p => exact aL.stuck p
 | .int _ :: _ :: _, _, p => exact aL.stuck p
 | .str _ :: _ :: _, _, p => exact aL.stuck p
 | .ins _ _ :: _ :: _, _, p => exact aL.stuck p
 | .lst _ :: _ :: _, _, p => exact aL.stuck p
 | .tup _ :: _ :: _, _, p => exact aL.stuck p
end
end L2
namespace L2
open PySem PySem.Spec PyProof.Rows
section
variable {X : Cx} {K : PySem.W.Frag} {W : gS} {own ro : Bool}
theorem vk {g : List Dat -> M Dat} (hg : ∀ ds, (∃ d, ds = [d]) \/ g ds = stk) {xs : List V} {H : Hp} {Q : VK} (h : rDL K W own g xs H Q) : ∃ F d x, bj F H /\ xs = [x] /\ cR K F d x /\ aL K W own F H (g [d]) Q := by
 obtain ⟨F, ds, s, q, p⟩ := h
 rcases hg ds with ⟨d, rfl⟩ | e
 ·obtain ⟨v, vs, e, q1, e2⟩ := q
  exact ⟨F, d, v, s, by rw [e, show vs = [] from e2], q1, p⟩
 ·rw [e] at p; exact p.stuck
theorem CB {g : List Dat -> M Dat} (hg : ∀ ds, (∃ d, ds = [d]) \/ (∃ d e, ds = [d, e]) \/ g ds = stk) {xs : List V} {H : Hp} {Q : VK} (h : rDL K W own g xs H Q) : (∃ F d x, bj F H /\ xs = [x] /\ cR K F d x /\ aL K W own F H (g [d]) Q) \/ ∃ F d e x y, bj F H /\ xs = [x, y] /\ cR K F d x /\ cR K F e y /\ aL K W own F H (g [d, e]) Q := by
 obtain ⟨F, ds, s, q, p⟩ := h
 rcases hg ds with ⟨d, rfl⟩ | ⟨d, e, rfl⟩ | e
 ·obtain ⟨v, vs, e, q1, e2⟩ := q
  exact .inl ⟨F, d, v, s, by rw [e, show vs = [] from e2], q1, p⟩
 ·obtain ⟨v, vs, e1, q1, w, ws, e2, q2, e3⟩ := q
  exact .inr ⟨F, d, e, v, w, s, by rw [e1, e2, show ws = [] from e3], q1, q2, p⟩
 ·rw [e] at p; exact p.stuck
theorem uF {F : Hp} : ∀ {ds : List Dat} {xs : List V} {bs : List Bool}, aD K F ds xs -> iW ds = .ok bs -> xs = bs.map V.bl
 | [], _, _, q, e => by cases e; exact q
 | d :: ds, _, bs, ⟨v, vs, e1, q, r⟩, e => by
  cases d with
  | bl b =>
   cases e2 : iW ds with
   | error x => simp only [iW, asB, ax, e2, kU] at e; cases e
   | ok cs =>
    simp only [iW, asB, ax, e2] at e
    cases e
    rw [e1, show v = .bl b from q, uF r e2]
    rfl
  | _ => cases e
theorem uG : ∀ {ds : List Dat} {e : Err}, iW ds = .error e -> e = .stuck
 | [], _, h => by cases h
 | d :: ds, e, h => by
  cases d with
  | bl b =>
   cases e2 : iW ds with
   | error x => simp only [iW, asB, ax, e2, kU] at h; cases h; exact uG e2
   | ok cs => simp only [iW, asB, ax, e2] at h; cases h
  | _ => cases h; rfl
theorem jX {F : Hp} : ∀ {ds : List Dat} {xs : List V} {bs : List Int}, aD K F ds xs -> dG ds = .ok bs -> xs = bs.map V.int
 | [], _, _, q, e => by cases e; exact q
 | d :: ds, _, bs, ⟨v, vs, e1, q, r⟩, e => by
  cases d with
  | int b =>
   cases e2 : dG ds with
   | error x => simp only [dG, asI, ax, e2, kU] at e; cases e
   | ok cs =>
    simp only [dG, asI, ax, e2] at e
    cases e
    rw [e1, show v = .int b from q, jX r e2]
    rfl
  | _ => cases e
theorem m8 : ∀ {ds : List Dat} {e : Err}, dG ds = .error e -> e = .stuck
 | [], _, h => by cases h
 | d :: ds, e, h => by
  cases d with
  | int b =>
   cases e2 : dG ds with
   | error x => simp only [dG, asI, ax, e2, kU] at h; cases h; exact m8 e2
   | ok cs => simp only [dG, asI, ax, e2] at h; cases h
  | _ => cases h; rfl
theorem c_all (hc : X.calm = true) (hK : X.K = K := by rfl) : xa K W own X (.builtin "all") allD := by
 subst hK
 refine (call_all hc).imp fun xs H Q h => ?_
 obtain ⟨F, d, x, s, e, q, p⟩ := vk (fun ds => by match ds with | [d] => exact .inl ⟨d, rfl⟩ | [] => exact .inr rfl | a :: b :: c => exact .inr (by cases a <;> rfl)) h
 cases d with
 | lst ds =>
  obtain ⟨a, ys, e1, t, r⟩ := q
  have p' : aL X.K W own F H ((iW ds).bind fun bs => .ok (.bl (bs.all id))) Q := p
  cases eb : iW ds with
  | error z => rw [eb] at p'; have := uG eb; subst this; exact aL.stuck p'
  | ok bs =>
   rw [eb] at p'
   refine ⟨a, bs, by rw [e, e1], ?_, aL.bl (own := own) p' s⟩
   rw [<- uF r eb]
   exact s.lst t
 | _ => exact aL.stuck p
theorem Bv (hK : X.K = K := by rfl) : xa K W true X 'L' yx := by
 subst hK
 refine zg.imp fun xs H Q h => ?_
 obtain ⟨F, d, x, s, e, q, p⟩ := vk (fun ds => by match ds with | [d] => exact .inl ⟨d, rfl⟩ | [] => exact .inr rfl | a :: b :: c => exact .inr (by cases a <;> rfl)) h
 cases d with
 | lst ds =>
  obtain ⟨a, ys, e1, t, r⟩ := q
  exact ⟨a, ys, by rw [e, e1], .inl (s.lst t), fun l hl => aL.lst p s r hl⟩
 | tup ds =>
  obtain ⟨a, ys, e1, t, r⟩ := q
  exact ⟨a, ys, by rw [e, e1], .inr (s.tup t), fun l hl => aL.lst p s r hl⟩
 | _ => exact aL.stuck p
theorem c_int : xa K W own X 'V' intD := Eu.imp fun xs H Q h => by
 obtain ⟨F, d, x, s, e, q, p⟩ := vk (fun ds => by match ds with | [d] => exact .inl ⟨d, rfl⟩ | [] => exact .inr rfl | a :: b :: c => exact .inr (by cases a <;> rfl)) h
 cases d with
 | int i => exact .inl ⟨i, by rw [e, show x = .int i from q], aL.int (own := own) p s⟩
 | bl b => exact .inr ⟨b, by rw [e, show x = .bl b from q], aL.int (own := own) p s⟩
 | _ => exact aL.stuck p
theorem fold_max : ∀ (is : List Int) (i : Int), (is.foldl jI i = i \/ is.foldl jI i ∈ is) /\ i <= is.foldl jI i /\ ∀ a ∈ is, a <= is.foldl jI i
 | [], i => ⟨.inl rfl, Int.le_refl _, fun _ h => nomatch h⟩
 | j :: is, i => by
  obtain ⟨h1, h2, h3⟩ := fold_max is (jI i j)
  have z : (jI i j = i \/ jI i j = j) /\ i <= jI i j /\ j <= jI i j := by unfold jI; split <;> (refine ⟨?_, ?_, ?_⟩ <;> first | exact .inl rfl | exact .inr rfl | omega)
  rw [List.foldl_cons]
  refine ⟨?_, Int.le_trans z.2.1 h2, fun a ha => ?_⟩
  ·rcases h1 with h1 | h1
   ·rw [h1]
    rcases z.1 with z | z
    ·exact .inl z
    ·exact .inr (by rw [z]; exact List.mem_cons_self)
   ·exact .inr (List.mem_cons_of_mem _ h1)
  ·rcases List.mem_cons.mp ha with e | e
   ·rw [e]; exact Int.le_trans z.2.2 h2
   ·exact h3 a e
theorem fold_min : ∀ (is : List Int) (i : Int), (is.foldl ke i = i \/ is.foldl ke i ∈ is) /\ is.foldl ke i <= i /\ ∀ a ∈ is, is.foldl ke i <= a
 | [], i => ⟨.inl rfl, Int.le_refl _, fun _ h => nomatch h⟩
 | j :: is, i => by
  obtain ⟨h1, h2, h3⟩ := fold_min is (ke i j)
  have z : (ke i j = i \/ ke i j = j) /\ ke i j <= i /\ ke i j <= j := by unfold ke; split <;> (refine ⟨?_, ?_, ?_⟩ <;> first | exact .inl rfl | exact .inr rfl | omega)
  rw [List.foldl_cons]
  refine ⟨?_, Int.le_trans h2 z.2.1, fun a ha => ?_⟩
  ·rcases h1 with h1 | h1
   ·rw [h1]
    rcases z.1 with z | z
    ·exact .inl z
    ·exact .inr (by rw [z]; exact List.mem_cons_self)
   ·exact .inr (List.mem_cons_of_mem _ h1)
  ·rcases List.mem_cons.mp ha with e | e
   ·rw [e]; exact Int.le_trans h2 z.2.2
   ·exact h3 a e
theorem Aj {is : List Int} {i m : Int} (h1 : m ∈ i :: is) (h2 : ∀ a ∈ i :: is, a <= m) : is.foldl jI i = m := by
 obtain ⟨g1, g2, g3⟩ := fold_max is i
 have a1 : is.foldl jI i <= m := by
  rcases g1 with g | g
  ·rw [g]; exact h2 i List.mem_cons_self
  ·exact h2 _ (List.mem_cons_of_mem _ g)
 have a2 : m <= is.foldl jI i := by
  rcases List.mem_cons.mp h1 with e | e
  ·rw [e]; exact g2
  ·exact g3 m e
 omega
theorem Ai {is : List Int} {i m : Int} (h1 : m ∈ i :: is) (h2 : ∀ a ∈ i :: is, m <= a) : is.foldl ke i = m := by
 obtain ⟨g1, g2, g3⟩ := fold_min is i
 have a1 : m <= is.foldl ke i := by
  rcases g1 with g | g
  ·rw [g]; exact h2 i List.mem_cons_self
  ·exact h2 _ (List.mem_cons_of_mem _ g)
 have a2 : is.foldl ke i <= m := by
  rcases List.mem_cons.mp h1 with e | e
  ·rw [e]; exact g2
  ·exact g3 m e
 omega
theorem Es (hc : X.calm = true) : gL X (.builtin "max") (fun xs H Q => ∃ a i is, xs = [.ref a] /\ SqL X.K H a ((i :: is).map V.int) /\ Q (.int (is.foldl jI i)) H) := by
 intro pins s σ H xs us Q I r h
 obtain ⟨a, i, is, rfl, hq, q⟩ := h
 obtain ⟨u, rfl, ru⟩ := r.one
 cases ru
 obtain ⟨its, rv, p, hz⟩ := I.list hq
 have hi := intsAre_of rv
 obtain ⟨xs, e⟩ := hi.allInts.items
 have hns : i :: is = xs.toList.map (·.1) := by rw [<- hi.numsOf, <- nums_intItems, <- e]
 have hsz : 0 < xs.size := by
  have h3 := congrArg List.length hns
  simp at h3
  omega
 have hl := p.isList
 rw [e] at hl
 refine max_intList (I.ok.hd hc) hl hsz fun v h' tk hv hk => ?_
 obtain ⟨t, rfl⟩ := intItems_at hv
 obtain ⟨h1, h2⟩ := argBest_gt (numAt xs) (xs.size - 1)
 refine ⟨.int _, H, I.kept hk, ⟨t, rfl⟩, ?_⟩
 have := Aj (is := is) (i := i) (m := numAt xs (argBest (fun i j => decide (numAt xs i > numAt xs j)) (xs.size - 1))) (by
   rw [hns, numAt_eq]; exact getD_mem (by rw [List.length_map, Array.length_toList]; omega)) (fun a ha => by
   rw [hns] at ha
   obtain ⟨j, hj, rfl⟩ := mem_getD ha
   rw [List.length_map, Array.length_toList] at hj
   rw [<- numAt_eq]; exact h2 j (by omega))
 rw [<- this]
 exact q
theorem Ep (hc : X.calm = true) : gL X (.builtin "min") (fun xs H Q => ∃ a i is, xs = [.ref a] /\ SqL X.K H a ((i :: is).map V.int) /\ Q (.int (is.foldl ke i)) H) := by
 intro pins s σ H xs us Q I r h
 obtain ⟨a, i, is, rfl, hq, q⟩ := h
 obtain ⟨u, rfl, ru⟩ := r.one
 cases ru
 obtain ⟨its, rv, p, hz⟩ := I.list hq
 have hi := intsAre_of rv
 obtain ⟨xs, e⟩ := hi.allInts.items
 have hns : i :: is = xs.toList.map (·.1) := by rw [<- hi.numsOf, <- nums_intItems, <- e]
 have hsz : 0 < xs.size := by
  have h3 := congrArg List.length hns
  simp at h3
  omega
 have hl := p.isList
 rw [e] at hl
 refine min_intList (I.ok.hd hc) hl hsz fun v h' tk hv hk => ?_
 obtain ⟨t, rfl⟩ := intItems_at hv
 obtain ⟨h1, h2⟩ := argBest_lt (numAt xs) (xs.size - 1)
 refine ⟨.int _, H, I.kept hk, ⟨t, rfl⟩, ?_⟩
 have := Ai (is := is) (i := i) (m := numAt xs (argBest (fun i j => decide (numAt xs i < numAt xs j)) (xs.size - 1))) (by
   rw [hns, numAt_eq]; exact getD_mem (by rw [List.length_map, Array.length_toList]; omega)) (fun a ha => by
   rw [hns] at ha
   obtain ⟨j, hj, rfl⟩ := mem_getD ha
   rw [List.length_map, Array.length_toList] at hj
   rw [<- numAt_eq]; exact h2 j (by omega))
 rw [<- this]
 exact q
theorem c_max (hc : X.calm = true) (hK : X.K = K := by rfl) : xa K W own X (.builtin "max") maxD := by
 subst hK
 refine ((Et hc).or (Es hc)).imp fun xs H Q h => ?_
 rcases CB (fun ds => by match ds with | [d] => exact .inl ⟨d, rfl⟩ | [d, e] => exact .inr (.inl ⟨d, e, rfl⟩) | [] => exact .inr (.inr rfl) | a :: b :: c :: d => exact .inr (.inr (by cases a <;> cases b <;> rfl))) h with ⟨F, d, x, s, e, q, p⟩ | ⟨F, d, d2, x, y, s, e, q, q2, p⟩
 ·cases d with
  | lst ds =>
   obtain ⟨a, ys, e1, t, r⟩ := q
   have p' : aL X.K W own F H ((dG ds).bind maxL) Q := p
   cases eb : dG ds with
   | error z => rw [eb] at p'; have := m8 eb; subst this; exact aL.stuck p'
   | ok is =>
    rw [eb] at p'
    cases is with
    | nil => exact aL.stuck p'
    | cons i is =>
     refine .inr ⟨a, i, is, by rw [e, e1], ?_, aL.int (own := own) p' s⟩
     rw [<- jX r eb]
     exact s.lst t
  | _ => exact aL.stuck p
 ·cases d with
  | int i =>
   cases d2 with
   | int j => exact .inl ⟨i, j, by rw [e, show x = .int i from q, show y = .int j from q2], aL.int (own := own) p s⟩
   | _ => exact aL.stuck p
  | _ => cases d2 <;> exact aL.stuck p
theorem Ew (hc : X.calm = true) (hK : X.K = K := by rfl) : xa K W own X (.builtin "min") minD := by
 subst hK
 refine ((Er hc).or (Ep hc)).imp fun xs H Q h => ?_
 rcases CB (fun ds => by match ds with | [d] => exact .inl ⟨d, rfl⟩ | [d, e] => exact .inr (.inl ⟨d, e, rfl⟩) | [] => exact .inr (.inr rfl) | a :: b :: c :: d => exact .inr (.inr (by cases a <;> cases b <;> rfl))) h with ⟨F, d, x, s, e, q, p⟩ | ⟨F, d, d2, x, y, s, e, q, q2, p⟩
 ·cases d with
  | lst ds =>
   obtain ⟨a, ys, e1, t, r⟩ := q
   have p' : aL X.K W own F H ((dG ds).bind minL) Q := p
   cases eb : dG ds with
   | error z => rw [eb] at p'; have := m8 eb; subst this; exact aL.stuck p'
   | ok is =>
    rw [eb] at p'
    cases is with
    | nil => exact aL.stuck p'
    | cons i is =>
     refine .inr ⟨a, i, is, by rw [e, e1], ?_, aL.int (own := own) p' s⟩
     rw [<- jX r eb]
     exact s.lst t
  | _ => exact aL.stuck p
 ·cases d with
  | int i =>
   cases d2 with
   | int j => exact .inl ⟨i, j, by rw [e, show x = .int i from q, show y = .int j from q2], aL.int (own := own) p s⟩
   | _ => exact aL.stuck p
  | _ => cases d2 <;> exact aL.stuck p
end
section
variable {X : Cx} {K : PySem.W.Frag} {W : gS} {own ro : Bool}
theorem SqL.inj {pins : List 'a'} {σ : St} {H : Hp} {s : Shared} {a : Addr} {xs ys : List V} (I : Inv X pins σ H s) (h : SqL X.K H a xs) (h' : SqL X.K H a ys) : xs = ys := by
 obtain ⟨i1, r1, p1, _⟩ := I.list h
 obtain ⟨i2, r2, p2, _⟩ := I.list h'
 obtain ⟨o, n, e, _, _, d⟩ := p1
 obtain ⟨o', n', e', _, _, d'⟩ := p2
 rw [e] at e'
 cases e'
 rw [d] at d'
 injection d' with d1 _
 have : i1 = i2 := by simpa using congrArg Array.toList d1
 subst this
 exact r1.inj r2
theorem SqT.inj {pins : List 'a'} {σ : St} {H : Hp} {s : Shared} {a : Addr} {xs ys : List V} (I : Inv X pins σ H s) (h : SqT X.K H a xs) (h' : SqT X.K H a ys) : xs = ys := by
 obtain ⟨i1, r1, p1, _⟩ := I.tuple h
 obtain ⟨i2, r2, p2, _⟩ := I.tuple h'
 obtain ⟨o, e, _, n, d⟩ := p1
 obtain ⟨o', e', _, n', d'⟩ := p2
 rw [e] at e'
 cases e'
 rw [d] at d'
 injection d' with d1 _
 have : i1 = i2 := by simpa using congrArg Array.toList d1
 subst this
 exact r1.inj r2
theorem aD.all_eq {F : Hp} (e : Nat -> Bool) : ∀ {ds es : List Dat}, ds.length = es.length -> (∀ (j : Nat) a b, ds[j]? = some a -> es[j]? = some b -> e j = eqD a b) -> (List.range ds.length).all e = qT ds es := by
 intro ds
 induction ds generalizing e with
 | nil => intro es h _; cases es with
  | nil => rfl
  | cons _ _ => simp at h
 | cons d ds ih =>
  intro es h q
  cases es with
  | nil => simp at h
  | cons b es =>
   rw [List.length_cons, List.range_succ_eq_map, List.all_cons, List.all_map, qT]
   rw [q 0 d b rfl rfl]
   congr 1
   exact ih (e ∘ Nat.succ) (by simpa using h) fun j x y hx hy => q (j + 1) x y (by simpa using hx) (by simpa using hy)
theorem oR : ∀ {ds es : List Dat}, ds.length ≠ es.length -> qT ds es = false
 | [], [], h => absurd rfl h
 | [], _ :: _, _ => rfl
 | _ :: _, [], _ => rfl
 | d :: ds, e :: es, h => by
  rw [qT, oR (ds := ds) (es := es) (fun z => h (by simp [z])), Bool.and_false]
theorem wc (e : Nat -> Bool) : ∀ {ds es : List Dat}, (∀ (j : Nat) a b, ds[j]? = some a -> es[j]? = some b -> e j = eqD a b) -> ((List.range (min ds.length es.length)).all e && ds.length == es.length) = qT ds es := by
 intro ds es q
 by_cases hl : ds.length = es.length
 ·have e1 : min ds.length es.length = ds.length := by omega
  rw [e1, aD.all_eq (F := fun _ => none) e hl q, hl, beq_self_eq_true, Bool.and_true]
 ·rw [oR hl]
  have : (ds.length == es.length) = false := by simpa using hl
  rw [this, Bool.and_false]
mutual
theorem we : ∀ {d : Dat} {n : Nat}, okE d n = true -> eqD d d = true
 | .non, _, _ => rfl
 | .bl b, _, _ => by simp [eqD]
 | .int i, _, _ => by simp [eqD]
 | .str x, _, _ => by simp [eqD]
 | .tup ds, 0, h => by simp [okE] at h
 | .tup ds, n + 1, h => by simp only [okE] at h; simp only [eqD]; exact su h
 | .lst ds, 0, h => by simp [okE] at h
 | .lst ds, n + 1, h => by simp only [okE] at h; simp only [eqD]; exact su h
 | .ins _ _, _, h => by simp [okE] at h
theorem su : ∀ {ds : List Dat} {n : Nat}, gM ds n = true -> qT ds ds = true
 | [], _, _ => rfl
 | d :: ds, n, h => by
  simp only [gM, Bool.and_eq_true] at h
  simp only [qT, we h.1, su h.2, Bool.and_self]
end
theorem eE : ∀ {ds : List Dat} {n i : Nat} {d : Dat}, gM ds n = true -> ds[i]? = some d -> okE d n = true
 | [], _, _, _, _, h => by simp at h
 | _ :: _, _, 0, _, h, e => by
  simp only [gM, Bool.and_eq_true] at h
  simp at e
  rw [<- e]; exact h.1
 | _ :: _, _, i + 1, _, h, e => by
  simp only [gM, Bool.and_eq_true] at h
  exact eE h.2 (by simpa using e)
end
noncomputable def ip (ds es : List Dat) (j : Nat) : Bool := match ds[j]?, es[j]? with
 | some a, some b => eqD a b
 | _, _ => true
section
variable {X : Cx}
mutual
theorem deep_inj {pins : List 'a'} {σ : St} {F H : Hp} {s : Shared} (I : Inv X pins σ H s) (hF : bj F H) : ∀ (d e : Dat) {v : V} {n : Nat}, cR X.K F d v -> cR X.K F e v -> okE d n = true -> okE e n = true -> d = e
 | .non, .non, v, n, q, r, o1, o2 => by
   rfl
 | .non, .bl b, v, n, q, r, o1, o2 => by
   have e1 : v = .non := q
   have e2 : v = .bl b := r
   rw [e1] at e2
   cases e2
 | .non, .int b, v, n, q, r, o1, o2 => by
   have e1 : v = .non := q
   have e2 : v = .int b := r
   rw [e1] at e2
   cases e2
 | .non, .str b, v, n, q, r, o1, o2 => by
   have e1 : v = .non := q
   have e2 : v = .str b := r
   rw [e1] at e2
   cases e2
 | .non, .tup es, v, n, q, r, o1, o2 => by
   have e1 : v = .non := q
   obtain ⟨l, xs, e2, _⟩ := r
   rw [e1] at e2
   cases e2
 | .non, .lst es, v, n, q, r, o1, o2 => by
   have e1 : v = .non := q
   obtain ⟨l, xs, e2, _⟩ := r
   rw [e1] at e2
   cases e2
 | .bl a, .non, v, n, q, r, o1, o2 => by
   have e1 : v = .bl a := q
   have e2 : v = .non := r
   rw [e1] at e2
   cases e2
 | .bl a, .bl b, v, n, q, r, o1, o2 => by
   have e1 : v = .bl a := q
   have e2 : v = .bl b := r
   rw [e1] at e2
   cases e2
   rfl
 | .bl a, .int b, v, n, q, r, o1, o2 => by
   have e1 : v = .bl a := q
   have e2 : v = .int b := r
   rw [e1] at e2
   cases e2
 | .bl a, .str b, v, n, q, r, o1, o2 => by
   have e1 : v = .bl a := q
   have e2 : v = .str b := r
   rw [e1] at e2
   cases e2
 | .bl a, .tup es, v, n, q, r, o1, o2 => by
   have e1 : v = .bl a := q
   obtain ⟨l, xs, e2, _⟩ := r
   rw [e1] at e2
   cases e2
 | .bl a, .lst es, v, n, q, r, o1, o2 => by
   have e1 : v = .bl a := q
   obtain ⟨l, xs, e2, _⟩ := r
   rw [e1] at e2
   cases e2
 | .int a, .non, v, n, q, r, o1, o2 => by
   have e1 : v = .int a := q
   have e2 : v = .non := r
   rw [e1] at e2
   cases e2
 | .int a, .bl b, v, n, q, r, o1, o2 => by
   have e1 : v = .int a := q
   have e2 : v = .bl b := r
   rw [e1] at e2
   cases e2
 | .int a, .int b, v, n, q, r, o1, o2 => by
   have e1 : v = .int a := q
   have e2 : v = .int b := r
   rw [e1] at e2
   cases e2
   rfl
 | .int a, .str b, v, n, q, r, o1, o2 => by
   have e1 : v = .int a := q
   have e2 : v = .str b := r
   rw [e1] at e2
   cases e2
 | .int a, .tup es, v, n, q, r, o1, o2 => by
   have e1 : v = .int a := q
   obtain ⟨l, xs, e2, _⟩ := r
   rw [e1] at e2
   cases e2
 | .int a, .lst es, v, n, q, r, o1, o2 => by
   have e1 : v = .int a := q
   obtain ⟨l, xs, e2, _⟩ := r
   rw [e1] at e2
   cases e2
 | .str a, .non, v, n, q, r, o1, o2 => by
   have e1 : v = .str a := q
   have e2 : v = .non := r
   rw [e1] at e2
   cases e2
 | .str a, .bl b, v, n, q, r, o1, o2 => by
   have e1 : v = .str a := q
   have e2 : v = .bl b := r
   rw [e1] at e2
   cases e2
 | .str a, .int b, v, n, q, r, o1, o2 => by
   have e1 : v = .str a := q
   have e2 : v = .int b := r
   rw [e1] at e2
   cases e2
 | .str a, .str b, v, n, q, r, o1, o2 => by
   have e1 : v = .str a := q
   have e2 : v = .str b := r
   rw [e1] at e2
   cases e2
   rfl
 | .str a, .tup es, v, n, q, r, o1, o2 => by
   have e1 : v = .str a := q
   obtain ⟨l, xs, e2, _⟩ := r
   rw [e1] at e2
   cases e2
 | .str a, .lst es, v, n, q, r, o1, o2 => by
   have e1 : v = .str a := q
   obtain ⟨l, xs, e2, _⟩ := r
   rw [e1] at e2
   cases e2
 | .tup ds, .non, v, n, q, r, o1, o2 => by
   have e1 : v = .non := r
   obtain ⟨l, xs, e2, _⟩ := q
   rw [e1] at e2
   cases e2
 | .tup ds, .bl b, v, n, q, r, o1, o2 => by
   have e1 : v = .bl b := r
   obtain ⟨l, xs, e2, _⟩ := q
   rw [e1] at e2
   cases e2
 | .tup ds, .int b, v, n, q, r, o1, o2 => by
   have e1 : v = .int b := r
   obtain ⟨l, xs, e2, _⟩ := q
   rw [e1] at e2
   cases e2
 | .tup ds, .str b, v, n, q, r, o1, o2 => by
   have e1 : v = .str b := r
   obtain ⟨l, xs, e2, _⟩ := q
   rw [e1] at e2
   cases e2
 | .tup ds, .tup es, v, n, q, r, o1, o2 => by
   obtain ⟨l, xs, e1, h1, r1⟩ := q
   obtain ⟨l2, ys, e2, h2, r2⟩ := r
   rw [e1] at e2
   cases e2
   have e3 := SqT.inj I (hF.tup h1) (hF.tup h2)
   subst e3
   cases n with
   | zero => exact absurd o1 (by simp [okE])
   | succ n => rw [mn I hF ds es r1 r2 (by simpa only [okE] using o1) (by simpa only [okE] using o2)]
 | .tup ds, .lst es, v, n, q, r, o1, o2 => by
   obtain ⟨l, xs, e1, h1, r1⟩ := q
   obtain ⟨l2, ys, e2, h2, r2⟩ := r
   rw [e1] at e2
   cases e2
   obtain ⟨i1, _, p1, _⟩ := I.list (hF.lst h2)
   obtain ⟨i2, _, p2, _⟩ := I.tuple (hF.tup h1)
   exact absurd rfl (SeqAt.ne_of_list_tuple p1.isList (show s.heap.IsTuple l i2.toArray from p2))
 | .lst ds, .non, v, n, q, r, o1, o2 => by
   have e1 : v = .non := r
   obtain ⟨l, xs, e2, _⟩ := q
   rw [e1] at e2
   cases e2
 | .lst ds, .bl b, v, n, q, r, o1, o2 => by
   have e1 : v = .bl b := r
   obtain ⟨l, xs, e2, _⟩ := q
   rw [e1] at e2
   cases e2
 | .lst ds, .int b, v, n, q, r, o1, o2 => by
   have e1 : v = .int b := r
   obtain ⟨l, xs, e2, _⟩ := q
   rw [e1] at e2
   cases e2
 | .lst ds, .str b, v, n, q, r, o1, o2 => by
   have e1 : v = .str b := r
   obtain ⟨l, xs, e2, _⟩ := q
   rw [e1] at e2
   cases e2
 | .lst ds, .tup es, v, n, q, r, o1, o2 => by
   obtain ⟨l, xs, e1, h1, r1⟩ := q
   obtain ⟨l2, ys, e2, h2, r2⟩ := r
   rw [e1] at e2
   cases e2
   obtain ⟨i1, _, p1, _⟩ := I.list (hF.lst h1)
   obtain ⟨i2, _, p2, _⟩ := I.tuple (hF.tup h2)
   exact absurd rfl (SeqAt.ne_of_list_tuple p1.isList (show s.heap.IsTuple l i2.toArray from p2))
 | .lst ds, .lst es, v, n, q, r, o1, o2 => by
   obtain ⟨l, xs, e1, h1, r1⟩ := q
   obtain ⟨l2, ys, e2, h2, r2⟩ := r
   rw [e1] at e2
   cases e2
   have e3 := SqL.inj I (hF.lst h1) (hF.lst h2)
   subst e3
   cases n with
   | zero => exact absurd o1 (by simp [okE])
   | succ n => rw [mn I hF ds es r1 r2 (by simpa only [okE] using o1) (by simpa only [okE] using o2)]
 | .ins _ _, _, _, _, _, _, o1, _ => by simp [okE] at o1
 | _, .ins _ _, _, _, _, _, _, o2 => by simp [okE] at o2
theorem mn {pins : List 'a'} {σ : St} {F H : Hp} {s : Shared} (I : Inv X pins σ H s) (hF : bj F H) : ∀ (ds es : List Dat) {xs : List V} {n : Nat}, aD X.K F ds xs -> aD X.K F es xs -> gM ds n = true -> gM es n = true -> ds = es
 | [], [], _, _, _, _, _, _ => rfl
 | [], _ :: _, _, _, q, ⟨_, _, e, _⟩, _, _ => by rw [show _ = [] from q] at e; cases e
 | _ :: _, [], _, _, ⟨_, _, e, _⟩, q, _, _ => by rw [show _ = [] from q] at e; cases e
 | d :: ds, e :: es, _, n, ⟨v, vs, e1, q1, r1⟩, ⟨w, ws, e2, q2, r2⟩, o1, o2 => by
  rw [e1] at e2
  cases e2
  simp only [gM, Bool.and_eq_true] at o1 o2
  rw [deep_inj I hF d e q1 q2 o1.1 o2.1, mn I hF ds es r1 r2 o1.2 o2.2]
end
end
section
variable {X : Cx} {K : PySem.W.Frag} {W : gS} {own ro : Bool}
mutual
theorem E5 {pins : List 'a'} {σ : St} {F H : Hp} {s : Shared} (I : Inv X pins σ H s) (hF : bj F H) : ∀ (a b : Dat) {n : Nat} {x y : V} {u v : Value} {A : Around}, okE a n = true -> okE b n = true -> cR X.K F a x -> cR X.K F b y -> RelV x u -> RelV y v -> A.units + n < cLine -> SeqAt.EqAt A s u v (eqD a b)
 | .non, .non, n, x, y, u, v, A, oa, ob, qa, qb, ra, rb, hu => by
   cases (show x = .non from qa)
   cases ra
   cases (show y = .non from qb)
   cases rb
   exact SeqAt.EqAt.same _
 | .non, .bl b, n, x, y, u, v, A, oa, ob, qa, qb, ra, rb, hu => by
   cases (show x = .non from qa)
   cases ra
   cases (show y = .bl b from qb)
   cases rb
   exact SeqAt.EqAt.none_bool b
 | .non, .int b, n, x, y, u, v, A, oa, ob, qa, qb, ra, rb, hu => by
   cases (show x = .non from qa)
   cases ra
   cases (show y = .int b from qb)
   obtain ⟨t2, rfl⟩ := rb
   exact SeqAt.EqAt.none_int b t2
 | .non, .str b, n, x, y, u, v, A, oa, ob, qa, qb, ra, rb, hu => by
   cases (show x = .non from qa)
   cases ra
   cases (show y = .str b from qb)
   obtain ⟨t2, rfl⟩ := rb
   exact SeqAt.EqAt.none_str b t2
 | .non, .tup es, n, x, y, u, v, A, oa, ob, qa, qb, ra, rb, hu => by
   cases (show x = .non from qa)
   cases ra
   obtain ⟨l2, ys, e2, h2, r2⟩ := qb
   subst e2
   cases rb
   obtain ⟨js, w2, p2, _⟩ := I.tuple (hF.tup h2)
   exact SeqAt.EqAt.none_tuple (show s.heap.IsTuple l2 js.toArray from p2) (by omega)
 | .non, .lst es, n, x, y, u, v, A, oa, ob, qa, qb, ra, rb, hu => by
   cases (show x = .non from qa)
   cases ra
   obtain ⟨l2, ys, e2, h2, r2⟩ := qb
   subst e2
   cases rb
   obtain ⟨js, w2, p2, _⟩ := I.list (hF.lst h2)
   exact SeqAt.EqAt.none_list p2.isList (by omega)
 | .bl a, .non, n, x, y, u, v, A, oa, ob, qa, qb, ra, rb, hu => by
   cases (show x = .bl a from qa)
   cases ra
   cases (show y = .non from qb)
   cases rb
   exact SeqAt.EqAt.bool_none a
 | .bl a, .bl b, n, x, y, u, v, A, oa, ob, qa, qb, ra, rb, hu => by
   cases (show x = .bl a from qa)
   cases ra
   cases (show y = .bl b from qb)
   cases rb
   exact SeqAt.EqAt.bool_bool a b
 | .bl a, .int b, n, x, y, u, v, A, oa, ob, qa, qb, ra, rb, hu => by
   cases (show x = .bl a from qa)
   cases ra
   cases (show y = .int b from qb)
   obtain ⟨t2, rfl⟩ := rb
   exact SeqAt.EqAt.bool_int a b t2
 | .bl a, .str b, n, x, y, u, v, A, oa, ob, qa, qb, ra, rb, hu => by
   cases (show x = .bl a from qa)
   cases ra
   cases (show y = .str b from qb)
   obtain ⟨t2, rfl⟩ := rb
   exact SeqAt.EqAt.bool_str a b t2
 | .bl a, .tup es, n, x, y, u, v, A, oa, ob, qa, qb, ra, rb, hu => by
   cases (show x = .bl a from qa)
   cases ra
   obtain ⟨l2, ys, e2, h2, r2⟩ := qb
   subst e2
   cases rb
   obtain ⟨js, w2, p2, _⟩ := I.tuple (hF.tup h2)
   exact SeqAt.EqAt.bool_tuple a (show s.heap.IsTuple l2 js.toArray from p2) (by omega)
 | .bl a, .lst es, n, x, y, u, v, A, oa, ob, qa, qb, ra, rb, hu => by
   cases (show x = .bl a from qa)
   cases ra
   obtain ⟨l2, ys, e2, h2, r2⟩ := qb
   subst e2
   cases rb
   obtain ⟨js, w2, p2, _⟩ := I.list (hF.lst h2)
   exact SeqAt.EqAt.bool_list a p2.isList (by omega)
 | .int a, .non, n, x, y, u, v, A, oa, ob, qa, qb, ra, rb, hu => by
   cases (show x = .int a from qa)
   obtain ⟨t1, rfl⟩ := ra
   cases (show y = .non from qb)
   cases rb
   exact SeqAt.EqAt.int_none a t1
 | .int a, .bl b, n, x, y, u, v, A, oa, ob, qa, qb, ra, rb, hu => by
   cases (show x = .int a from qa)
   obtain ⟨t1, rfl⟩ := ra
   cases (show y = .bl b from qb)
   cases rb
   exact SeqAt.EqAt.int_bool a t1 b
 | .int a, .int b, n, x, y, u, v, A, oa, ob, qa, qb, ra, rb, hu => by
   cases (show x = .int a from qa)
   obtain ⟨t1, rfl⟩ := ra
   cases (show y = .int b from qb)
   obtain ⟨t2, rfl⟩ := rb
   exact SeqAt.EqAt.int_int a t1 b t2
 | .int a, .str b, n, x, y, u, v, A, oa, ob, qa, qb, ra, rb, hu => by
   cases (show x = .int a from qa)
   obtain ⟨t1, rfl⟩ := ra
   cases (show y = .str b from qb)
   obtain ⟨t2, rfl⟩ := rb
   exact SeqAt.EqAt.int_str a t1 b t2
 | .int a, .tup es, n, x, y, u, v, A, oa, ob, qa, qb, ra, rb, hu => by
   cases (show x = .int a from qa)
   obtain ⟨t1, rfl⟩ := ra
   obtain ⟨l2, ys, e2, h2, r2⟩ := qb
   subst e2
   cases rb
   obtain ⟨js, w2, p2, _⟩ := I.tuple (hF.tup h2)
   exact SeqAt.EqAt.int_tuple a t1 (show s.heap.IsTuple l2 js.toArray from p2) (by omega)
 | .int a, .lst es, n, x, y, u, v, A, oa, ob, qa, qb, ra, rb, hu => by
   cases (show x = .int a from qa)
   obtain ⟨t1, rfl⟩ := ra
   obtain ⟨l2, ys, e2, h2, r2⟩ := qb
   subst e2
   cases rb
   obtain ⟨js, w2, p2, _⟩ := I.list (hF.lst h2)
   exact SeqAt.EqAt.int_list a t1 p2.isList (by omega)
 | .str a, .non, n, x, y, u, v, A, oa, ob, qa, qb, ra, rb, hu => by
   cases (show x = .str a from qa)
   obtain ⟨t1, rfl⟩ := ra
   cases (show y = .non from qb)
   cases rb
   exact SeqAt.EqAt.str_none a t1
 | .str a, .bl b, n, x, y, u, v, A, oa, ob, qa, qb, ra, rb, hu => by
   cases (show x = .str a from qa)
   obtain ⟨t1, rfl⟩ := ra
   cases (show y = .bl b from qb)
   cases rb
   exact SeqAt.EqAt.str_bool a t1 b
 | .str a, .int b, n, x, y, u, v, A, oa, ob, qa, qb, ra, rb, hu => by
   cases (show x = .str a from qa)
   obtain ⟨t1, rfl⟩ := ra
   cases (show y = .int b from qb)
   obtain ⟨t2, rfl⟩ := rb
   exact SeqAt.EqAt.str_int a t1 b t2
 | .str a, .str b, n, x, y, u, v, A, oa, ob, qa, qb, ra, rb, hu => by
   cases (show x = .str a from qa)
   obtain ⟨t1, rfl⟩ := ra
   cases (show y = .str b from qb)
   obtain ⟨t2, rfl⟩ := rb
   exact SeqAt.EqAt.str_str a t1 b t2
 | .str a, .tup es, n, x, y, u, v, A, oa, ob, qa, qb, ra, rb, hu => by
   cases (show x = .str a from qa)
   obtain ⟨t1, rfl⟩ := ra
   obtain ⟨l2, ys, e2, h2, r2⟩ := qb
   subst e2
   cases rb
   obtain ⟨js, w2, p2, _⟩ := I.tuple (hF.tup h2)
   exact SeqAt.EqAt.str_tuple a t1 (show s.heap.IsTuple l2 js.toArray from p2) (by omega)
 | .str a, .lst es, n, x, y, u, v, A, oa, ob, qa, qb, ra, rb, hu => by
   cases (show x = .str a from qa)
   obtain ⟨t1, rfl⟩ := ra
   obtain ⟨l2, ys, e2, h2, r2⟩ := qb
   subst e2
   cases rb
   obtain ⟨js, w2, p2, _⟩ := I.list (hF.lst h2)
   exact SeqAt.EqAt.str_list a t1 p2.isList (by omega)
 | .tup ds, .non, n, x, y, u, v, A, oa, ob, qa, qb, ra, rb, hu => by
   obtain ⟨l1, xs, e1, h1, r1⟩ := qa
   subst e1
   cases ra
   obtain ⟨is, w1, p1, _⟩ := I.tuple (hF.tup h1)
   cases (show y = .non from qb)
   cases rb
   exact SeqAt.EqAt.tuple_none (show s.heap.IsTuple l1 is.toArray from p1) (by omega)
 | .tup ds, .bl b, n, x, y, u, v, A, oa, ob, qa, qb, ra, rb, hu => by
   obtain ⟨l1, xs, e1, h1, r1⟩ := qa
   subst e1
   cases ra
   obtain ⟨is, w1, p1, _⟩ := I.tuple (hF.tup h1)
   cases (show y = .bl b from qb)
   cases rb
   exact SeqAt.EqAt.tuple_bool b (show s.heap.IsTuple l1 is.toArray from p1) (by omega)
 | .tup ds, .int b, n, x, y, u, v, A, oa, ob, qa, qb, ra, rb, hu => by
   obtain ⟨l1, xs, e1, h1, r1⟩ := qa
   subst e1
   cases ra
   obtain ⟨is, w1, p1, _⟩ := I.tuple (hF.tup h1)
   cases (show y = .int b from qb)
   obtain ⟨t2, rfl⟩ := rb
   exact SeqAt.EqAt.tuple_int b t2 (show s.heap.IsTuple l1 is.toArray from p1) (by omega)
 | .tup ds, .str b, n, x, y, u, v, A, oa, ob, qa, qb, ra, rb, hu => by
   obtain ⟨l1, xs, e1, h1, r1⟩ := qa
   subst e1
   cases ra
   obtain ⟨is, w1, p1, _⟩ := I.tuple (hF.tup h1)
   cases (show y = .str b from qb)
   obtain ⟨t2, rfl⟩ := rb
   exact SeqAt.EqAt.tuple_str b t2 (show s.heap.IsTuple l1 is.toArray from p1) (by omega)
 | .tup ds, .tup es, n, x, y, u, v, A, oa, ob, qa, qb, ra, rb, hu => by
   obtain ⟨l1, xs, e1, h1, r1⟩ := qa
   subst e1
   cases ra
   obtain ⟨is, w1, p1, _⟩ := I.tuple (hF.tup h1)
   obtain ⟨l2, ys, e2, h2, r2⟩ := qb
   subst e2
   cases rb
   obtain ⟨js, w2, p2, _⟩ := I.tuple (hF.tup h2)
   have z1 := w1.length
   have z2 := w2.length
   have y1 := r1.length
   have y2 := r2.length
   cases n with
   | zero => exact absurd oa (by simp [okE])
   | succ n =>
    have oa' : gM ds n = true := by simpa only [okE] using oa
    have ob' : gM es n = true := by simpa only [okE] using ob
    by_cases hab : l1 = l2
    ·subst hab
     have e3 := SqT.inj I (hF.tup h1) (hF.tup h2)
     subst e3
     have e4 : ds = es := mn I hF ds es r1 r2 oa' ob'
     subst e4
     rw [we (n := n + 1) oa]
     exact SeqAt.EqAt.same _
    ·have q := SeqAt.RcAt.tuples (A := A) (e := ip ds es) (show s.heap.IsTuple l1 is.toArray from p1) (show s.heap.IsTuple l2 js.toArray from p2) (by omega) (fun j h1 h2 => by
      obtain ⟨x', f1, g1⟩ := w1.atA h1
      obtain ⟨y', f2, g2⟩ := w2.atA h2
      obtain ⟨d1, k1, m1⟩ := r1.at f1
      obtain ⟨d2, k2, m2⟩ := r2.at f2
      have q := nZ I hF ds j d1 k1 d2 (n := n) (A := A.in1) (eE oa' k1) (eE ob' k2) m1 m2 g1 g2 (by show A.units + 1 + n < cLine; omega)
      have e5 : ip ds es j = eqD d1 d2 := by simp only [ip, k1, k2]
      rw [e5]
      exact q
      )
     have ez : is.toArray.size = ds.length := by simp; omega
     have ez2 : js.toArray.size = es.length := by simp; omega
     rw [ez, ez2, wc _ (fun j a b h1 h2 => by simp only [ip, h1, h2])] at q
     exact SeqAt.EqAt.of_refs hab q
 | .tup ds, .lst es, n, x, y, u, v, A, oa, ob, qa, qb, ra, rb, hu => by
   obtain ⟨l1, xs, e1, h1, r1⟩ := qa
   subst e1
   cases ra
   obtain ⟨is, w1, p1, _⟩ := I.tuple (hF.tup h1)
   obtain ⟨l2, ys, e2, h2, r2⟩ := qb
   subst e2
   cases rb
   obtain ⟨js, w2, p2, _⟩ := I.list (hF.lst h2)
   exact SeqAt.EqAt.tuple_list (show s.heap.IsTuple l1 is.toArray from p1) p2.isList (by omega)
 | .lst ds, .non, n, x, y, u, v, A, oa, ob, qa, qb, ra, rb, hu => by
   obtain ⟨l1, xs, e1, h1, r1⟩ := qa
   subst e1
   cases ra
   obtain ⟨is, w1, p1, _⟩ := I.list (hF.lst h1)
   cases (show y = .non from qb)
   cases rb
   exact SeqAt.EqAt.list_none p1.isList (by omega)
 | .lst ds, .bl b, n, x, y, u, v, A, oa, ob, qa, qb, ra, rb, hu => by
   obtain ⟨l1, xs, e1, h1, r1⟩ := qa
   subst e1
   cases ra
   obtain ⟨is, w1, p1, _⟩ := I.list (hF.lst h1)
   cases (show y = .bl b from qb)
   cases rb
   exact SeqAt.EqAt.list_bool b p1.isList (by omega)
 | .lst ds, .int b, n, x, y, u, v, A, oa, ob, qa, qb, ra, rb, hu => by
   obtain ⟨l1, xs, e1, h1, r1⟩ := qa
   subst e1
   cases ra
   obtain ⟨is, w1, p1, _⟩ := I.list (hF.lst h1)
   cases (show y = .int b from qb)
   obtain ⟨t2, rfl⟩ := rb
   exact SeqAt.EqAt.list_int b t2 p1.isList (by omega)
 | .lst ds, .str b, n, x, y, u, v, A, oa, ob, qa, qb, ra, rb, hu => by
   obtain ⟨l1, xs, e1, h1, r1⟩ := qa
   subst e1
   cases ra
   obtain ⟨is, w1, p1, _⟩ := I.list (hF.lst h1)
   cases (show y = .str b from qb)
   obtain ⟨t2, rfl⟩ := rb
   exact SeqAt.EqAt.list_str b t2 p1.isList (by omega)
 | .lst ds, .tup es, n, x, y, u, v, A, oa, ob, qa, qb, ra, rb, hu => by
   obtain ⟨l1, xs, e1, h1, r1⟩ := qa
   subst e1
   cases ra
   obtain ⟨is, w1, p1, _⟩ := I.list (hF.lst h1)
   obtain ⟨l2, ys, e2, h2, r2⟩ := qb
   subst e2
   cases rb
   obtain ⟨js, w2, p2, _⟩ := I.tuple (hF.tup h2)
   exact SeqAt.EqAt.list_tuple p1.isList (show s.heap.IsTuple l2 js.toArray from p2) (by omega)
 | .lst ds, .lst es, n, x, y, u, v, A, oa, ob, qa, qb, ra, rb, hu => by
   obtain ⟨l1, xs, e1, h1, r1⟩ := qa
   subst e1
   cases ra
   obtain ⟨is, w1, p1, _⟩ := I.list (hF.lst h1)
   obtain ⟨l2, ys, e2, h2, r2⟩ := qb
   subst e2
   cases rb
   obtain ⟨js, w2, p2, _⟩ := I.list (hF.lst h2)
   have z1 := w1.length
   have z2 := w2.length
   have y1 := r1.length
   have y2 := r2.length
   cases n with
   | zero => exact absurd oa (by simp [okE])
   | succ n =>
    have oa' : gM ds n = true := by simpa only [okE] using oa
    have ob' : gM es n = true := by simpa only [okE] using ob
    by_cases hab : l1 = l2
    ·subst hab
     have e3 := SqL.inj I (hF.lst h1) (hF.lst h2)
     subst e3
     have e4 : ds = es := mn I hF ds es r1 r2 oa' ob'
     subst e4
     rw [we (n := n + 1) oa]
     exact SeqAt.EqAt.same _
    ·by_cases hl : ds.length = es.length
     ·have q := SeqAt.RcAt.lists (A := A) (e := ip ds es) p1.isList p2.isList (by simp; omega) (by omega) (fun j h1 h2 => by
       obtain ⟨x', f1, g1⟩ := w1.atA h1
       obtain ⟨y', f2, g2⟩ := w2.atA h2
       obtain ⟨d1, k1, m1⟩ := r1.at f1
       obtain ⟨d2, k2, m2⟩ := r2.at f2
       have q := nZ I hF ds j d1 k1 d2 (n := n) (A := A.in1) (eE oa' k1) (eE ob' k2) m1 m2 g1 g2 (by show A.units + 1 + n < cLine; omega)
       have e5 : ip ds es j = eqD d1 d2 := by simp only [ip, k1, k2]
       rw [e5]
       exact q
       )
      have ez : is.toArray.size = ds.length := by simp; omega
      rw [ez, aD.all_eq (F := F) _ hl (fun j a b h1 h2 => by simp only [ip, h1, h2])] at q
      exact SeqAt.EqAt.of_refs hab q
     ·rw [show eqD (.lst ds) (.lst es) = false from oR hl]
      exact SeqAt.EqAt.of_refs hab (SeqAt.RcAt.lists_lengths (A := A) p1.isList p2.isList (by simp; omega) (by omega))
 | .ins _ _, _, _, _, _, _, _, _, oa, _, _, _, _, _, _ => by simp [okE] at oa
 | _, .ins _ _, _, _, _, _, _, _, _, ob, _, _, _, _, _ => by simp [okE] at ob
theorem nZ {pins : List 'a'} {σ : St} {F H : Hp} {s : Shared} (I : Inv X pins σ H s) (hF : bj F H) : ∀ (ds : List Dat) (j : Nat) (a : Dat), ds[j]? = some a -> ∀ (b : Dat) {n : Nat} {x y : V} {u v : Value} {A : Around}, okE a n = true -> okE b n = true -> cR X.K F a x -> cR X.K F b y -> RelV x u -> RelV y v -> A.units + n < cLine -> SeqAt.EqAt A s u v (eqD a b)
 | [], j, _, h => by simp at h
 | d :: ds, 0, _, h => by
  simp only [List.getElem?_cons_zero, Option.some.injEq] at h
  subst h
  exact E5 I hF d
 | d :: ds, j + 1, a, h => nZ I hF ds j a (by simpa using h)
end
theorem rcAt_D {pins : List 'a'} {σ : St} {F H : Hp} {s : Shared} (I : Inv X pins σ H s) (hF : bj F H) : ∀ (a b : Dat) {n : Nat} {x y : V} {u v : Value} {A : Around}, okE a n = true -> okE b n = true -> cR X.K F a x -> cR X.K F b y -> RelV x u -> RelV y v -> A.units + n < cLine -> SeqAt.RcAt A s u v (eqD a b)
 | .non, .non, n, x, y, u, v, A, oa, ob, qa, qb, ra, rb, hu => by
   cases (show x = .non from qa)
   cases ra
   cases (show y = .non from qb)
   cases rb
   exact SeqAt.RcAt.none_none
 | .non, .bl b, n, x, y, u, v, A, oa, ob, qa, qb, ra, rb, hu => by
   cases (show x = .non from qa)
   cases ra
   cases (show y = .bl b from qb)
   cases rb
   exact SeqAt.RcAt.none_bool b
 | .non, .int b, n, x, y, u, v, A, oa, ob, qa, qb, ra, rb, hu => by
   cases (show x = .non from qa)
   cases ra
   cases (show y = .int b from qb)
   obtain ⟨t2, rfl⟩ := rb
   exact SeqAt.RcAt.none_int b t2
 | .non, .str b, n, x, y, u, v, A, oa, ob, qa, qb, ra, rb, hu => by
   cases (show x = .non from qa)
   cases ra
   cases (show y = .str b from qb)
   obtain ⟨t2, rfl⟩ := rb
   exact SeqAt.RcAt.none_str b t2
 | .non, .tup es, n, x, y, u, v, A, oa, ob, qa, qb, ra, rb, hu => by
   cases (show x = .non from qa)
   cases ra
   obtain ⟨l2, ys, e2, h2, r2⟩ := qb
   subst e2
   cases rb
   obtain ⟨js, w2, p2, _⟩ := I.tuple (hF.tup h2)
   exact SeqAt.RcAt.none_tuple (show s.heap.IsTuple l2 js.toArray from p2) (by omega)
 | .non, .lst es, n, x, y, u, v, A, oa, ob, qa, qb, ra, rb, hu => by
   cases (show x = .non from qa)
   cases ra
   obtain ⟨l2, ys, e2, h2, r2⟩ := qb
   subst e2
   cases rb
   obtain ⟨js, w2, p2, _⟩ := I.list (hF.lst h2)
   exact SeqAt.RcAt.none_list p2.isList (by omega)
 | .bl a, .non, n, x, y, u, v, A, oa, ob, qa, qb, ra, rb, hu => by
   cases (show x = .bl a from qa)
   cases ra
   cases (show y = .non from qb)
   cases rb
   exact SeqAt.RcAt.bool_none a
 | .bl a, .bl b, n, x, y, u, v, A, oa, ob, qa, qb, ra, rb, hu => by
   cases (show x = .bl a from qa)
   cases ra
   cases (show y = .bl b from qb)
   cases rb
   exact SeqAt.RcAt.bool_bool a b
 | .bl a, .int b, n, x, y, u, v, A, oa, ob, qa, qb, ra, rb, hu => by
   cases (show x = .bl a from qa)
   cases ra
   cases (show y = .int b from qb)
   obtain ⟨t2, rfl⟩ := rb
   exact SeqAt.RcAt.bool_int a b t2
 | .bl a, .str b, n, x, y, u, v, A, oa, ob, qa, qb, ra, rb, hu => by
   cases (show x = .bl a from qa)
   cases ra
   cases (show y = .str b from qb)
   obtain ⟨t2, rfl⟩ := rb
   exact SeqAt.RcAt.bool_str a b t2
 | .bl a, .tup es, n, x, y, u, v, A, oa, ob, qa, qb, ra, rb, hu => by
   cases (show x = .bl a from qa)
   cases ra
   obtain ⟨l2, ys, e2, h2, r2⟩ := qb
   subst e2
   cases rb
   obtain ⟨js, w2, p2, _⟩ := I.tuple (hF.tup h2)
   exact SeqAt.RcAt.bool_tuple a (show s.heap.IsTuple l2 js.toArray from p2) (by omega)
 | .bl a, .lst es, n, x, y, u, v, A, oa, ob, qa, qb, ra, rb, hu => by
   cases (show x = .bl a from qa)
   cases ra
   obtain ⟨l2, ys, e2, h2, r2⟩ := qb
   subst e2
   cases rb
   obtain ⟨js, w2, p2, _⟩ := I.list (hF.lst h2)
   exact SeqAt.RcAt.bool_list a p2.isList (by omega)
 | .int a, .non, n, x, y, u, v, A, oa, ob, qa, qb, ra, rb, hu => by
   cases (show x = .int a from qa)
   obtain ⟨t1, rfl⟩ := ra
   cases (show y = .non from qb)
   cases rb
   exact SeqAt.RcAt.int_none a t1
 | .int a, .bl b, n, x, y, u, v, A, oa, ob, qa, qb, ra, rb, hu => by
   cases (show x = .int a from qa)
   obtain ⟨t1, rfl⟩ := ra
   cases (show y = .bl b from qb)
   cases rb
   exact SeqAt.RcAt.int_bool a t1 b
 | .int a, .int b, n, x, y, u, v, A, oa, ob, qa, qb, ra, rb, hu => by
   cases (show x = .int a from qa)
   obtain ⟨t1, rfl⟩ := ra
   cases (show y = .int b from qb)
   obtain ⟨t2, rfl⟩ := rb
   exact SeqAt.RcAt.int_int a t1 b t2
 | .int a, .str b, n, x, y, u, v, A, oa, ob, qa, qb, ra, rb, hu => by
   cases (show x = .int a from qa)
   obtain ⟨t1, rfl⟩ := ra
   cases (show y = .str b from qb)
   obtain ⟨t2, rfl⟩ := rb
   exact SeqAt.RcAt.int_str a t1 b t2
 | .int a, .tup es, n, x, y, u, v, A, oa, ob, qa, qb, ra, rb, hu => by
   cases (show x = .int a from qa)
   obtain ⟨t1, rfl⟩ := ra
   obtain ⟨l2, ys, e2, h2, r2⟩ := qb
   subst e2
   cases rb
   obtain ⟨js, w2, p2, _⟩ := I.tuple (hF.tup h2)
   exact SeqAt.RcAt.int_tuple a t1 (show s.heap.IsTuple l2 js.toArray from p2) (by omega)
 | .int a, .lst es, n, x, y, u, v, A, oa, ob, qa, qb, ra, rb, hu => by
   cases (show x = .int a from qa)
   obtain ⟨t1, rfl⟩ := ra
   obtain ⟨l2, ys, e2, h2, r2⟩ := qb
   subst e2
   cases rb
   obtain ⟨js, w2, p2, _⟩ := I.list (hF.lst h2)
   exact SeqAt.RcAt.int_list a t1 p2.isList (by omega)
 | .str a, .non, n, x, y, u, v, A, oa, ob, qa, qb, ra, rb, hu => by
   cases (show x = .str a from qa)
   obtain ⟨t1, rfl⟩ := ra
   cases (show y = .non from qb)
   cases rb
   exact SeqAt.RcAt.str_none a t1
 | .str a, .bl b, n, x, y, u, v, A, oa, ob, qa, qb, ra, rb, hu => by
   cases (show x = .str a from qa)
   obtain ⟨t1, rfl⟩ := ra
   cases (show y = .bl b from qb)
   cases rb
   exact SeqAt.RcAt.str_bool a t1 b
 | .str a, .int b, n, x, y, u, v, A, oa, ob, qa, qb, ra, rb, hu => by
   cases (show x = .str a from qa)
   obtain ⟨t1, rfl⟩ := ra
   cases (show y = .int b from qb)
   obtain ⟨t2, rfl⟩ := rb
   exact SeqAt.RcAt.str_int a t1 b t2
 | .str a, .str b, n, x, y, u, v, A, oa, ob, qa, qb, ra, rb, hu => by
   cases (show x = .str a from qa)
   obtain ⟨t1, rfl⟩ := ra
   cases (show y = .str b from qb)
   obtain ⟨t2, rfl⟩ := rb
   exact SeqAt.RcAt.str_str a t1 b t2
 | .str a, .tup es, n, x, y, u, v, A, oa, ob, qa, qb, ra, rb, hu => by
   cases (show x = .str a from qa)
   obtain ⟨t1, rfl⟩ := ra
   obtain ⟨l2, ys, e2, h2, r2⟩ := qb
   subst e2
   cases rb
   obtain ⟨js, w2, p2, _⟩ := I.tuple (hF.tup h2)
   exact SeqAt.RcAt.str_tuple a t1 (show s.heap.IsTuple l2 js.toArray from p2) (by omega)
 | .str a, .lst es, n, x, y, u, v, A, oa, ob, qa, qb, ra, rb, hu => by
   cases (show x = .str a from qa)
   obtain ⟨t1, rfl⟩ := ra
   obtain ⟨l2, ys, e2, h2, r2⟩ := qb
   subst e2
   cases rb
   obtain ⟨js, w2, p2, _⟩ := I.list (hF.lst h2)
   exact SeqAt.RcAt.str_list a t1 p2.isList (by omega)
 | .tup ds, .non, n, x, y, u, v, A, oa, ob, qa, qb, ra, rb, hu => by
   obtain ⟨l1, xs, e1, h1, r1⟩ := qa
   subst e1
   cases ra
   obtain ⟨is, w1, p1, _⟩ := I.tuple (hF.tup h1)
   cases (show y = .non from qb)
   cases rb
   exact SeqAt.RcAt.tuple_none (show s.heap.IsTuple l1 is.toArray from p1) (by omega)
 | .tup ds, .bl b, n, x, y, u, v, A, oa, ob, qa, qb, ra, rb, hu => by
   obtain ⟨l1, xs, e1, h1, r1⟩ := qa
   subst e1
   cases ra
   obtain ⟨is, w1, p1, _⟩ := I.tuple (hF.tup h1)
   cases (show y = .bl b from qb)
   cases rb
   exact SeqAt.RcAt.tuple_bool b (show s.heap.IsTuple l1 is.toArray from p1) (by omega)
 | .tup ds, .int b, n, x, y, u, v, A, oa, ob, qa, qb, ra, rb, hu => by
   obtain ⟨l1, xs, e1, h1, r1⟩ := qa
   subst e1
   cases ra
   obtain ⟨is, w1, p1, _⟩ := I.tuple (hF.tup h1)
   cases (show y = .int b from qb)
   obtain ⟨t2, rfl⟩ := rb
   exact SeqAt.RcAt.tuple_int b t2 (show s.heap.IsTuple l1 is.toArray from p1) (by omega)
 | .tup ds, .str b, n, x, y, u, v, A, oa, ob, qa, qb, ra, rb, hu => by
   obtain ⟨l1, xs, e1, h1, r1⟩ := qa
   subst e1
   cases ra
   obtain ⟨is, w1, p1, _⟩ := I.tuple (hF.tup h1)
   cases (show y = .str b from qb)
   obtain ⟨t2, rfl⟩ := rb
   exact SeqAt.RcAt.tuple_str b t2 (show s.heap.IsTuple l1 is.toArray from p1) (by omega)
 | .tup ds, .tup es, n, x, y, u, v, A, oa, ob, qa, qb, ra, rb, hu => by
   obtain ⟨l1, xs, e1, h1, r1⟩ := qa
   subst e1
   cases ra
   obtain ⟨is, w1, p1, _⟩ := I.tuple (hF.tup h1)
   obtain ⟨l2, ys, e2, h2, r2⟩ := qb
   subst e2
   cases rb
   obtain ⟨js, w2, p2, _⟩ := I.tuple (hF.tup h2)
   have z1 := w1.length
   have z2 := w2.length
   have y1 := r1.length
   have y2 := r2.length
   cases n with
   | zero => exact absurd oa (by simp [okE])
   | succ n =>
    have oa' : gM ds n = true := by simpa only [okE] using oa
    have ob' : gM es n = true := by simpa only [okE] using ob
    have q := SeqAt.RcAt.tuples (A := A) (e := ip ds es) (show s.heap.IsTuple l1 is.toArray from p1) (show s.heap.IsTuple l2 js.toArray from p2) (by omega) (fun j h1 h2 => by
     obtain ⟨x', f1, g1⟩ := w1.atA h1
     obtain ⟨y', f2, g2⟩ := w2.atA h2
     obtain ⟨d1, k1, m1⟩ := r1.at f1
     obtain ⟨d2, k2, m2⟩ := r2.at f2
     have q := nZ I hF ds j d1 k1 d2 (n := n) (A := A.in1) (eE oa' k1) (eE ob' k2) m1 m2 g1 g2 (by show A.units + 1 + n < cLine; omega)
     have e5 : ip ds es j = eqD d1 d2 := by simp only [ip, k1, k2]
     rw [e5]
     exact q
     )
    have ez : is.toArray.size = ds.length := by simp; omega
    have ez2 : js.toArray.size = es.length := by simp; omega
    rw [ez, ez2, wc _ (fun j a b h1 h2 => by simp only [ip, h1, h2])] at q
    exact q
 | .tup ds, .lst es, n, x, y, u, v, A, oa, ob, qa, qb, ra, rb, hu => by
   obtain ⟨l1, xs, e1, h1, r1⟩ := qa
   subst e1
   cases ra
   obtain ⟨is, w1, p1, _⟩ := I.tuple (hF.tup h1)
   obtain ⟨l2, ys, e2, h2, r2⟩ := qb
   subst e2
   cases rb
   obtain ⟨js, w2, p2, _⟩ := I.list (hF.lst h2)
   exact SeqAt.RcAt.tuple_list (show s.heap.IsTuple l1 is.toArray from p1) p2.isList (by omega)
 | .lst ds, .non, n, x, y, u, v, A, oa, ob, qa, qb, ra, rb, hu => by
   obtain ⟨l1, xs, e1, h1, r1⟩ := qa
   subst e1
   cases ra
   obtain ⟨is, w1, p1, _⟩ := I.list (hF.lst h1)
   cases (show y = .non from qb)
   cases rb
   exact SeqAt.RcAt.list_none p1.isList (by omega)
 | .lst ds, .bl b, n, x, y, u, v, A, oa, ob, qa, qb, ra, rb, hu => by
   obtain ⟨l1, xs, e1, h1, r1⟩ := qa
   subst e1
   cases ra
   obtain ⟨is, w1, p1, _⟩ := I.list (hF.lst h1)
   cases (show y = .bl b from qb)
   cases rb
   exact SeqAt.RcAt.list_bool b p1.isList (by omega)
 | .lst ds, .int b, n, x, y, u, v, A, oa, ob, qa, qb, ra, rb, hu => by
   obtain ⟨l1, xs, e1, h1, r1⟩ := qa
   subst e1
   cases ra
   obtain ⟨is, w1, p1, _⟩ := I.list (hF.lst h1)
   cases (show y = .int b from qb)
   obtain ⟨t2, rfl⟩ := rb
   exact SeqAt.RcAt.list_int b t2 p1.isList (by omega)
 | .lst ds, .str b, n, x, y, u, v, A, oa, ob, qa, qb, ra, rb, hu => by
   obtain ⟨l1, xs, e1, h1, r1⟩ := qa
   subst e1
   cases ra
   obtain ⟨is, w1, p1, _⟩ := I.list (hF.lst h1)
   cases (show y = .str b from qb)
   obtain ⟨t2, rfl⟩ := rb
   exact SeqAt.RcAt.list_str b t2 p1.isList (by omega)
 | .lst ds, .tup es, n, x, y, u, v, A, oa, ob, qa, qb, ra, rb, hu => by
   obtain ⟨l1, xs, e1, h1, r1⟩ := qa
   subst e1
   cases ra
   obtain ⟨is, w1, p1, _⟩ := I.list (hF.lst h1)
   obtain ⟨l2, ys, e2, h2, r2⟩ := qb
   subst e2
   cases rb
   obtain ⟨js, w2, p2, _⟩ := I.tuple (hF.tup h2)
   exact SeqAt.RcAt.list_tuple p1.isList (show s.heap.IsTuple l2 js.toArray from p2) (by omega)
 | .lst ds, .lst es, n, x, y, u, v, A, oa, ob, qa, qb, ra, rb, hu => by
   obtain ⟨l1, xs, e1, h1, r1⟩ := qa
   subst e1
   cases ra
   obtain ⟨is, w1, p1, _⟩ := I.list (hF.lst h1)
   obtain ⟨l2, ys, e2, h2, r2⟩ := qb
   subst e2
   cases rb
   obtain ⟨js, w2, p2, _⟩ := I.list (hF.lst h2)
   have z1 := w1.length
   have z2 := w2.length
   have y1 := r1.length
   have y2 := r2.length
   cases n with
   | zero => exact absurd oa (by simp [okE])
   | succ n =>
    have oa' : gM ds n = true := by simpa only [okE] using oa
    have ob' : gM es n = true := by simpa only [okE] using ob
    by_cases hl : ds.length = es.length
    ·have q := SeqAt.RcAt.lists (A := A) (e := ip ds es) p1.isList p2.isList (by simp; omega) (by omega) (fun j h1 h2 => by
      obtain ⟨x', f1, g1⟩ := w1.atA h1
      obtain ⟨y', f2, g2⟩ := w2.atA h2
      obtain ⟨d1, k1, m1⟩ := r1.at f1
      obtain ⟨d2, k2, m2⟩ := r2.at f2
      have q := nZ I hF ds j d1 k1 d2 (n := n) (A := A.in1) (eE oa' k1) (eE ob' k2) m1 m2 g1 g2 (by show A.units + 1 + n < cLine; omega)
      have e5 : ip ds es j = eqD d1 d2 := by simp only [ip, k1, k2]
      rw [e5]
      exact q
      )
     have ez : is.toArray.size = ds.length := by simp; omega
     rw [ez, aD.all_eq (F := F) _ hl (fun j a b h1 h2 => by simp only [ip, h1, h2])] at q
     exact q
    ·rw [show eqD (.lst ds) (.lst es) = false from oR hl]
     exact SeqAt.RcAt.lists_lengths (A := A) p1.isList p2.isList (by simp; omega) (by omega)
 | .ins _ _, _, _, _, _, _, _, _, oa, _, _, _, _, _, _ => by simp [okE] at oa
 | _, .ins _ _, _, _, _, _, _, _, _, ob, _, _, _, _, _ => by simp [okE] at ob
theorem rcNeAt_D {pins : List 'a'} {σ : St} {F H : Hp} {s : Shared} (I : Inv X pins σ H s) (hF : bj F H) : ∀ (a b : Dat) {n : Nat} {x y : V} {u v : Value} {A : Around}, okE a n = true -> okE b n = true -> cR X.K F a x -> cR X.K F b y -> RelV x u -> RelV y v -> A.units + n < cLine -> SeqAt.RcNeAt A s u v (!eqD a b)
 | .non, .non, n, x, y, u, v, A, oa, ob, qa, qb, ra, rb, hu => by
   cases (show x = .non from qa)
   cases ra
   cases (show y = .non from qb)
   cases rb
   exact SeqAt.RcNeAt.none_none
 | .non, .bl b, n, x, y, u, v, A, oa, ob, qa, qb, ra, rb, hu => by
   cases (show x = .non from qa)
   cases ra
   cases (show y = .bl b from qb)
   cases rb
   exact SeqAt.RcNeAt.none_bool b
 | .non, .int b, n, x, y, u, v, A, oa, ob, qa, qb, ra, rb, hu => by
   cases (show x = .non from qa)
   cases ra
   cases (show y = .int b from qb)
   obtain ⟨t2, rfl⟩ := rb
   exact SeqAt.RcNeAt.none_int b t2
 | .non, .str b, n, x, y, u, v, A, oa, ob, qa, qb, ra, rb, hu => by
   cases (show x = .non from qa)
   cases ra
   cases (show y = .str b from qb)
   obtain ⟨t2, rfl⟩ := rb
   exact SeqAt.RcNeAt.none_str b t2
 | .non, .tup es, n, x, y, u, v, A, oa, ob, qa, qb, ra, rb, hu => by
   cases (show x = .non from qa)
   cases ra
   obtain ⟨l2, ys, e2, h2, r2⟩ := qb
   subst e2
   cases rb
   obtain ⟨js, w2, p2, _⟩ := I.tuple (hF.tup h2)
   exact SeqAt.RcNeAt.none_tuple (show s.heap.IsTuple l2 js.toArray from p2) (by omega)
 | .non, .lst es, n, x, y, u, v, A, oa, ob, qa, qb, ra, rb, hu => by
   cases (show x = .non from qa)
   cases ra
   obtain ⟨l2, ys, e2, h2, r2⟩ := qb
   subst e2
   cases rb
   obtain ⟨js, w2, p2, _⟩ := I.list (hF.lst h2)
   exact SeqAt.RcNeAt.none_list p2.isList (by omega)
 | .bl a, .non, n, x, y, u, v, A, oa, ob, qa, qb, ra, rb, hu => by
   cases (show x = .bl a from qa)
   cases ra
   cases (show y = .non from qb)
   cases rb
   exact SeqAt.RcNeAt.bool_none a
 | .bl a, .bl b, n, x, y, u, v, A, oa, ob, qa, qb, ra, rb, hu => by
   cases (show x = .bl a from qa)
   cases ra
   cases (show y = .bl b from qb)
   cases rb
   exact SeqAt.RcNeAt.bool_bool a b
 | .bl a, .int b, n, x, y, u, v, A, oa, ob, qa, qb, ra, rb, hu => by
   cases (show x = .bl a from qa)
   cases ra
   cases (show y = .int b from qb)
   obtain ⟨t2, rfl⟩ := rb
   exact SeqAt.RcNeAt.bool_int a b t2
 | .bl a, .str b, n, x, y, u, v, A, oa, ob, qa, qb, ra, rb, hu => by
   cases (show x = .bl a from qa)
   cases ra
   cases (show y = .str b from qb)
   obtain ⟨t2, rfl⟩ := rb
   exact SeqAt.RcNeAt.bool_str a b t2
 | .bl a, .tup es, n, x, y, u, v, A, oa, ob, qa, qb, ra, rb, hu => by
   cases (show x = .bl a from qa)
   cases ra
   obtain ⟨l2, ys, e2, h2, r2⟩ := qb
   subst e2
   cases rb
   obtain ⟨js, w2, p2, _⟩ := I.tuple (hF.tup h2)
   exact SeqAt.RcNeAt.bool_tuple a (show s.heap.IsTuple l2 js.toArray from p2) (by omega)
 | .bl a, .lst es, n, x, y, u, v, A, oa, ob, qa, qb, ra, rb, hu => by
   cases (show x = .bl a from qa)
   cases ra
   obtain ⟨l2, ys, e2, h2, r2⟩ := qb
   subst e2
   cases rb
   obtain ⟨js, w2, p2, _⟩ := I.list (hF.lst h2)
   exact SeqAt.RcNeAt.bool_list a p2.isList (by omega)
 | .int a, .non, n, x, y, u, v, A, oa, ob, qa, qb, ra, rb, hu => by
   cases (show x = .int a from qa)
   obtain ⟨t1, rfl⟩ := ra
   cases (show y = .non from qb)
   cases rb
   exact SeqAt.RcNeAt.int_none a t1
 | .int a, .bl b, n, x, y, u, v, A, oa, ob, qa, qb, ra, rb, hu => by
   cases (show x = .int a from qa)
   obtain ⟨t1, rfl⟩ := ra
   cases (show y = .bl b from qb)
   cases rb
   exact SeqAt.RcNeAt.int_bool a t1 b
 | .int a, .int b, n, x, y, u, v, A, oa, ob, qa, qb, ra, rb, hu => by
   cases (show x = .int a from qa)
   obtain ⟨t1, rfl⟩ := ra
   cases (show y = .int b from qb)
   obtain ⟨t2, rfl⟩ := rb
   exact SeqAt.RcNeAt.int_int a t1 b t2
 | .int a, .str b, n, x, y, u, v, A, oa, ob, qa, qb, ra, rb, hu => by
   cases (show x = .int a from qa)
   obtain ⟨t1, rfl⟩ := ra
   cases (show y = .str b from qb)
   obtain ⟨t2, rfl⟩ := rb
   exact SeqAt.RcNeAt.int_str a t1 b t2
 | .int a, .tup es, n, x, y, u, v, A, oa, ob, qa, qb, ra, rb, hu => by
   cases (show x = .int a from qa)
   obtain ⟨t1, rfl⟩ := ra
   obtain ⟨l2, ys, e2, h2, r2⟩ := qb
   subst e2
   cases rb
   obtain ⟨js, w2, p2, _⟩ := I.tuple (hF.tup h2)
   exact SeqAt.RcNeAt.int_tuple a t1 (show s.heap.IsTuple l2 js.toArray from p2) (by omega)
 | .int a, .lst es, n, x, y, u, v, A, oa, ob, qa, qb, ra, rb, hu => by
   cases (show x = .int a from qa)
   obtain ⟨t1, rfl⟩ := ra
   obtain ⟨l2, ys, e2, h2, r2⟩ := qb
   subst e2
   cases rb
   obtain ⟨js, w2, p2, _⟩ := I.list (hF.lst h2)
   exact SeqAt.RcNeAt.int_list a t1 p2.isList (by omega)
 | .str a, .non, n, x, y, u, v, A, oa, ob, qa, qb, ra, rb, hu => by
   cases (show x = .str a from qa)
   obtain ⟨t1, rfl⟩ := ra
   cases (show y = .non from qb)
   cases rb
   exact SeqAt.RcNeAt.str_none a t1
 | .str a, .bl b, n, x, y, u, v, A, oa, ob, qa, qb, ra, rb, hu => by
   cases (show x = .str a from qa)
   obtain ⟨t1, rfl⟩ := ra
   cases (show y = .bl b from qb)
   cases rb
   exact SeqAt.RcNeAt.str_bool a t1 b
 | .str a, .int b, n, x, y, u, v, A, oa, ob, qa, qb, ra, rb, hu => by
   cases (show x = .str a from qa)
   obtain ⟨t1, rfl⟩ := ra
   cases (show y = .int b from qb)
   obtain ⟨t2, rfl⟩ := rb
   exact SeqAt.RcNeAt.str_int a t1 b t2
 | .str a, .str b, n, x, y, u, v, A, oa, ob, qa, qb, ra, rb, hu => by
   cases (show x = .str a from qa)
   obtain ⟨t1, rfl⟩ := ra
   cases (show y = .str b from qb)
   obtain ⟨t2, rfl⟩ := rb
   exact SeqAt.RcNeAt.str_str a t1 b t2
 | .str a, .tup es, n, x, y, u, v, A, oa, ob, qa, qb, ra, rb, hu => by
   cases (show x = .str a from qa)
   obtain ⟨t1, rfl⟩ := ra
   obtain ⟨l2, ys, e2, h2, r2⟩ := qb
   subst e2
   cases rb
   obtain ⟨js, w2, p2, _⟩ := I.tuple (hF.tup h2)
   exact SeqAt.RcNeAt.str_tuple a t1 (show s.heap.IsTuple l2 js.toArray from p2) (by omega)
 | .str a, .lst es, n, x, y, u, v, A, oa, ob, qa, qb, ra, rb, hu => by
   cases (show x = .str a from qa)
   obtain ⟨t1, rfl⟩ := ra
   obtain ⟨l2, ys, e2, h2, r2⟩ := qb
   subst e2
   cases rb
   obtain ⟨js, w2, p2, _⟩ := I.list (hF.lst h2)
   exact SeqAt.RcNeAt.str_list a t1 p2.isList (by omega)
 | .tup ds, .non, n, x, y, u, v, A, oa, ob, qa, qb, ra, rb, hu => by
   obtain ⟨l1, xs, e1, h1, r1⟩ := qa
   subst e1
   cases ra
   obtain ⟨is, w1, p1, _⟩ := I.tuple (hF.tup h1)
   cases (show y = .non from qb)
   cases rb
   exact SeqAt.RcNeAt.tuple_none (show s.heap.IsTuple l1 is.toArray from p1) (by omega)
 | .tup ds, .bl b, n, x, y, u, v, A, oa, ob, qa, qb, ra, rb, hu => by
   obtain ⟨l1, xs, e1, h1, r1⟩ := qa
   subst e1
   cases ra
   obtain ⟨is, w1, p1, _⟩ := I.tuple (hF.tup h1)
   cases (show y = .bl b from qb)
   cases rb
   exact SeqAt.RcNeAt.tuple_bool b (show s.heap.IsTuple l1 is.toArray from p1) (by omega)
 | .tup ds, .int b, n, x, y, u, v, A, oa, ob, qa, qb, ra, rb, hu => by
   obtain ⟨l1, xs, e1, h1, r1⟩ := qa
   subst e1
   cases ra
   obtain ⟨is, w1, p1, _⟩ := I.tuple (hF.tup h1)
   cases (show y = .int b from qb)
   obtain ⟨t2, rfl⟩ := rb
   exact SeqAt.RcNeAt.tuple_int b t2 (show s.heap.IsTuple l1 is.toArray from p1) (by omega)
 | .tup ds, .str b, n, x, y, u, v, A, oa, ob, qa, qb, ra, rb, hu => by
   obtain ⟨l1, xs, e1, h1, r1⟩ := qa
   subst e1
   cases ra
   obtain ⟨is, w1, p1, _⟩ := I.tuple (hF.tup h1)
   cases (show y = .str b from qb)
   obtain ⟨t2, rfl⟩ := rb
   exact SeqAt.RcNeAt.tuple_str b t2 (show s.heap.IsTuple l1 is.toArray from p1) (by omega)
 | .tup ds, .tup es, n, x, y, u, v, A, oa, ob, qa, qb, ra, rb, hu => by
   obtain ⟨l1, xs, e1, h1, r1⟩ := qa
   subst e1
   cases ra
   obtain ⟨is, w1, p1, _⟩ := I.tuple (hF.tup h1)
   obtain ⟨l2, ys, e2, h2, r2⟩ := qb
   subst e2
   cases rb
   obtain ⟨js, w2, p2, _⟩ := I.tuple (hF.tup h2)
   have z1 := w1.length
   have z2 := w2.length
   have y1 := r1.length
   have y2 := r2.length
   cases n with
   | zero => exact absurd oa (by simp [okE])
   | succ n =>
    have oa' : gM ds n = true := by simpa only [okE] using oa
    have ob' : gM es n = true := by simpa only [okE] using ob
    have q := SeqAt.RcNeAt.tuples (A := A) (e := ip ds es) (show s.heap.IsTuple l1 is.toArray from p1) (show s.heap.IsTuple l2 js.toArray from p2) (by omega) (fun j h1 h2 => by
     obtain ⟨x', f1, g1⟩ := w1.atA h1
     obtain ⟨y', f2, g2⟩ := w2.atA h2
     obtain ⟨d1, k1, m1⟩ := r1.at f1
     obtain ⟨d2, k2, m2⟩ := r2.at f2
     have q := nZ I hF ds j d1 k1 d2 (n := n) (A := A.in1) (eE oa' k1) (eE ob' k2) m1 m2 g1 g2 (by show A.units + 1 + n < cLine; omega)
     have e5 : ip ds es j = eqD d1 d2 := by simp only [ip, k1, k2]
     rw [e5]
     exact q
     )
    have ez : is.toArray.size = ds.length := by simp; omega
    have ez2 : js.toArray.size = es.length := by simp; omega
    rw [ez, ez2, wc _ (fun j a b h1 h2 => by simp only [ip, h1, h2])] at q
    exact q
 | .tup ds, .lst es, n, x, y, u, v, A, oa, ob, qa, qb, ra, rb, hu => by
   obtain ⟨l1, xs, e1, h1, r1⟩ := qa
   subst e1
   cases ra
   obtain ⟨is, w1, p1, _⟩ := I.tuple (hF.tup h1)
   obtain ⟨l2, ys, e2, h2, r2⟩ := qb
   subst e2
   cases rb
   obtain ⟨js, w2, p2, _⟩ := I.list (hF.lst h2)
   exact SeqAt.RcNeAt.tuple_list (show s.heap.IsTuple l1 is.toArray from p1) p2.isList (by omega)
 | .lst ds, .non, n, x, y, u, v, A, oa, ob, qa, qb, ra, rb, hu => by
   obtain ⟨l1, xs, e1, h1, r1⟩ := qa
   subst e1
   cases ra
   obtain ⟨is, w1, p1, _⟩ := I.list (hF.lst h1)
   cases (show y = .non from qb)
   cases rb
   exact SeqAt.RcNeAt.list_none p1.isList (by omega)
 | .lst ds, .bl b, n, x, y, u, v, A, oa, ob, qa, qb, ra, rb, hu => by
   obtain ⟨l1, xs, e1, h1, r1⟩ := qa
   subst e1
   cases ra
   obtain ⟨is, w1, p1, _⟩ := I.list (hF.lst h1)
   cases (show y = .bl b from qb)
   cases rb
   exact SeqAt.RcNeAt.list_bool b p1.isList (by omega)
 | .lst ds, .int b, n, x, y, u, v, A, oa, ob, qa, qb, ra, rb, hu => by
   obtain ⟨l1, xs, e1, h1, r1⟩ := qa
   subst e1
   cases ra
   obtain ⟨is, w1, p1, _⟩ := I.list (hF.lst h1)
   cases (show y = .int b from qb)
   obtain ⟨t2, rfl⟩ := rb
   exact SeqAt.RcNeAt.list_int b t2 p1.isList (by omega)
 | .lst ds, .str b, n, x, y, u, v, A, oa, ob, qa, qb, ra, rb, hu => by
   obtain ⟨l1, xs, e1, h1, r1⟩ := qa
   subst e1
   cases ra
   obtain ⟨is, w1, p1, _⟩ := I.list (hF.lst h1)
   cases (show y = .str b from qb)
   obtain ⟨t2, rfl⟩ := rb
   exact SeqAt.RcNeAt.list_str b t2 p1.isList (by omega)
 | .lst ds, .tup es, n, x, y, u, v, A, oa, ob, qa, qb, ra, rb, hu => by
   obtain ⟨l1, xs, e1, h1, r1⟩ := qa
   subst e1
   cases ra
   obtain ⟨is, w1, p1, _⟩ := I.list (hF.lst h1)
   obtain ⟨l2, ys, e2, h2, r2⟩ := qb
   subst e2
   cases rb
   obtain ⟨js, w2, p2, _⟩ := I.tuple (hF.tup h2)
   exact SeqAt.RcNeAt.list_tuple p1.isList (show s.heap.IsTuple l2 js.toArray from p2) (by omega)
 | .lst ds, .lst es, n, x, y, u, v, A, oa, ob, qa, qb, ra, rb, hu => by
   obtain ⟨l1, xs, e1, h1, r1⟩ := qa
   subst e1
   cases ra
   obtain ⟨is, w1, p1, _⟩ := I.list (hF.lst h1)
   obtain ⟨l2, ys, e2, h2, r2⟩ := qb
   subst e2
   cases rb
   obtain ⟨js, w2, p2, _⟩ := I.list (hF.lst h2)
   have z1 := w1.length
   have z2 := w2.length
   have y1 := r1.length
   have y2 := r2.length
   cases n with
   | zero => exact absurd oa (by simp [okE])
   | succ n =>
    have oa' : gM ds n = true := by simpa only [okE] using oa
    have ob' : gM es n = true := by simpa only [okE] using ob
    by_cases hl : ds.length = es.length
    ·have q := SeqAt.RcNeAt.lists (A := A) (e := ip ds es) p1.isList p2.isList (by simp; omega) (by omega) (fun j h1 h2 => by
      obtain ⟨x', f1, g1⟩ := w1.atA h1
      obtain ⟨y', f2, g2⟩ := w2.atA h2
      obtain ⟨d1, k1, m1⟩ := r1.at f1
      obtain ⟨d2, k2, m2⟩ := r2.at f2
      have q := nZ I hF ds j d1 k1 d2 (n := n) (A := A.in1) (eE oa' k1) (eE ob' k2) m1 m2 g1 g2 (by show A.units + 1 + n < cLine; omega)
      have e5 : ip ds es j = eqD d1 d2 := by simp only [ip, k1, k2]
      rw [e5]
      exact q
      )
     have ez : is.toArray.size = ds.length := by simp; omega
     rw [ez, aD.all_eq (F := F) _ hl (fun j a b h1 h2 => by simp only [ip, h1, h2])] at q
     exact q
    ·rw [show eqD (.lst ds) (.lst es) = false from oR hl]
     exact SeqAt.RcNeAt.lists_lengths (A := A) p1.isList p2.isList (by simp; omega) (by omega)
 | .ins _ _, _, _, _, _, _, _, _, oa, _, _, _, _, _, _ => by simp [okE] at oa
 | _, .ins _ _, _, _, _, _, _, _, _, ob, _, _, _, _, _ => by simp [okE] at ob
end
section
variable {X : Cx} {K : PySem.W.Frag} {W : gS} {own ro : Bool}
theorem aL.blS {F H : Hp} {Q : VK} {pins : List 'a'} {σ : St} {s : Shared} {b : Bool} (p : aL K W own F H (.ok (.bl b)) Q) (s1 : bj F H) (I : Inv X pins σ H s) : EP X pins σ Q (.bool b) s := ⟨.bl b, H, I, rfl, p.bl s1⟩
theorem BY (hu : X.A.units + 64 < cLine) (hK : X.K = K := by rfl) : Op2 K W own X (compareOp .Eq) eqM := by
 subst hK
 intro pins s σ H x y v u Q I rx ry h
 obtain ⟨F, a, b, s1, qa, qb, p⟩ := h
 unfold eqM at p
 by_cases hc : (okE a 40 && okE b 40) = true
 ·rw [if_pos hc] at p
  simp only [Bool.and_eq_true] at hc
  exact rcAt_D I s1 a b hc.1 hc.2 qa qb rx ry (by omega) _ _ _ _ (p.blS s1 I)
 ·rw [if_neg hc] at p; exact p.stuck
theorem o_ne (hu : X.A.units + 64 < cLine) (hK : X.K = K := by rfl) : Op2 K W own X (compareOp .NotEq) neM := by
 subst hK
 intro pins s σ H x y v u Q I rx ry h
 obtain ⟨F, a, b, s1, qa, qb, p⟩ := h
 unfold neM at p
 by_cases hc : (okE a 40 && okE b 40) = true
 ·rw [if_pos hc] at p
  simp only [Bool.and_eq_true] at hc
  exact rcNeAt_D I s1 a b hc.1 hc.2 qa qb rx ry (by omega) _ _ _ _ (p.blS s1 I)
 ·rw [if_neg hc] at p; exact p.stuck
end
end L2
namespace L2
open PySem PySem.Spec PyProof.Rows
section
variable {X : Cx} {pins : List 'a'} {σ : St} {H : Hp} {s : Shared} {h' : Heap}
theorem Inv.turnedT {t' : Nat} {ch : List Addr} {T : Addr} {xs : List V} (I : Inv X pins σ H s) (hf : ∀ b ∈ ch, Ct X pins H b) (k : ∀ b o, b ∉ ch -> s.heap.get? b = some o -> h'.get? b = some o) (hT : s.heap.objs.size <= T)
  (new : xs.length <= sizeLine /\ ∃ its : List Value, Vals xs its /\ IsTup h' T its.toArray) : Inv X pins σ (upd H T (.tup xs)) { s with heap := h', toks := t' } := by
 have hTn : H T = none := I.hok.fresh hT
 have nit : ∀ b u, H b = some u -> b ∉ ch := fun b u e z => by rw [(hf b z).1] at e; cases e
 have old : ∀ {b : Addr} {o : Obj}, s.heap.get? b = some o -> b ≠ T := fun {b o} e => Nat.ne_of_lt (Nat.lt_of_lt_of_le (Heap.lt_size e) hT)
 refine I.step (g' := s.gens) (d' := s.drawn) (ch := ch) (fun b hb => ?_) (fun b o _ _ hc e _ => k b o hc e) (fun b o _ _ hc e _ => ⟨o.slots, k b o hc e⟩) (fun b o _ e n => by rw [ar (old e)]; exact n)
  (fun b o hc e => ⟨o, k b o hc e⟩) (fun b ys e => by rw [ar (aQ e hTn)]; exact e) (fun b o u e => by rw [ar (aQ e hTn)]; exact e) (fun b ps e => ⟨#[], by rw [ar (aQ e hTn), e]; simp⟩) (fun m hm => ?_) (fun b u e => ?_) I.bare
 ·obtain ⟨f0, f1, f2, f3, f4, f5⟩ := hf b hb
  exact ⟨f3, f1, f4, f5⟩
 ·obtain ⟨o, es, ep, ho, r⟩ := hm
  exact ⟨o, es, ep, k _ o (fun z => (hf _ z).2.1 rfl) ho, r⟩
 ·by_cases hb : b = T
  ·subst hb
   rw [av] at e
   cases e
   exact new
  ·rw [ar hb] at e
   refine (I.hok b u e).zJ (fun c v hc q => k c v ?_ q) (fun c q => ?_) fun c ys q => ?_
   ·rcases hc with z | z
    ·rw [z]; exact nit b u e
    ·exact nit c _ z
   ·rw [ar (aQ q hTn)]; exact q
   ·rw [ar (aQ q hTn)]; exact q
theorem Inv.turnedL {t' : Nat} {ch : List Addr} (I : Inv X pins σ H s) (hf : ∀ b ∈ ch, Ct X pins H b) (k : ∀ b o, b ∉ ch -> s.heap.get? b = some o -> h'.get? b = some o) : Inv X pins σ H { s with heap := h', toks := t' } := by
 have nit : ∀ b u, H b = some u -> b ∉ ch := fun b u e z => by rw [(hf b z).1] at e; cases e
 refine I.step (g' := s.gens) (d' := s.drawn) (ch := ch) (fun b hb => ?_) (fun b o _ _ hc e _ => k b o hc e) (fun b o _ _ hc e _ => ⟨o.slots, k b o hc e⟩) (fun b o _ e n => n)
  (fun b o hc e => ⟨o, k b o hc e⟩) (fun b ys e => e) (fun b o u e => e) (fun b ps e => ⟨#[], by rw [e]; simp⟩) (fun m hm => ?_) (fun b u e => ?_) I.bare
 ·obtain ⟨f0, f1, f2, f3, f4, f5⟩ := hf b hb
  exact ⟨f3, f1, f4, f5⟩
 ·obtain ⟨o, es, ep, ho, r⟩ := hm
  exact ⟨o, es, ep, k _ o (fun z => (hf _ z).2.1 rfl) ho, r⟩
 ·refine (I.hok b u e).zJ (fun c v hc q => k c v ?_ q) (fun _ q => q) fun _ _ q => q
  rcases hc with z | z
  ·rw [z]; exact nit b u e
  ·exact nit c _ z
end
noncomputable def Ite (K : PySem.W.Frag) (a : Addr) : It :=
 ⟨fun i H => ∃ xs x, SqL K H a xs /\ xs[i]? = some x, fun i H x H' => ∃ T y, H T = none /\ x = .ref T /\ H' = upd H T (.tup [.int i, y]) /\ ∀ xs, SqL K H a xs -> xs[i]? = some y, fun i H => ∃ xs, SqL K H a xs /\ xs.length <= i⟩
theorem CD {P : Program} {w : World} {K : PySem.W.Frag} {elts : List Expr} {k : Nat} {pos : Pos} (a e it : Addr) (hei : e ≠ it) : Turn P w K (.Tuple elts k pos) (Ite K a) [e, it] e (fun i h => (∃ old, IsEnum h e it i old) /\ h.IsListIter it a i) where
 mem := by simp
 obj := fun i h st b hb => by
  obtain ⟨⟨old, he⟩, o, e1, c, d⟩ := st
  rcases List.mem_cons.mp hb with rfl | hb
  ·exact ⟨_, he, fun v z => by cases z⟩
  ·have : b = it := by simpa using hb
   subst this
   exact ⟨o, e1, fun v z => by rw [d] at z; cases z⟩
 keep := fun i h h' st kk => by
  obtain ⟨⟨old, he⟩, hit⟩ := st
  exact ⟨⟨old, kk e (by simp) _ he⟩, hit.at fun o x => kk it (by simp) o x⟩
 item := by
  intro X hP hw hK hc i pins s σ H E I hf st hg
  subst hP hw hK
  obtain ⟨⟨old, he⟩, hit⟩ := st
  obtain ⟨xs, x, hq, hx⟩ := hg
  obtain ⟨its, rv, p, hz⟩ := I.list hq
  obtain ⟨u, hu, ru⟩ := rv.get hx
  refine wpAny_pyNext_enum_item he hit p.isList (x := u) (by simpa using hu) hei fun h1 ho hit1 hT hsz hk => ?_
  refine ⟨_, rfl, wpAny_letOwnedTupleGo_enum ho fun h2 he2 hs2 => ?_⟩
  have hlt : e < s.heap.objs.size := Heap.lt_size he
  have hTe : s.heap.objs.size ≠ e := Nat.ne_of_gt hlt
  have I1 : Inv X pins σ (upd H s.heap.objs.size (.tup [.int i, x])) { s with heap := h2, toks := s.toks + 1 } := I.turnedT (ch := [e, it]) hf (fun b o hb q => by
    have h3 := hk b o (fun z => hb (by simp [z])) (fun z => hb (by simp [z])) q
    exact (hs2.2 b (fun z => hb (by simp [z]))).trans h3) 'n' ⟨by show 2 <= sizeLine; decide, [.int i s.toks, u], .cons ⟨_, rfl⟩ (.cons ru .nil), ⟨_, (hs2.2 _ hTe).trans hT, rfl, 0, rfl⟩⟩
  refine ⟨.ref s.heap.objs.size, _, I1, rfl, ⟨s.heap.objs.size, x, I.hok.fresh 'n', rfl, rfl, fun ys hy => by rw [I.Bc hy hq]; exact hx⟩, ⟨⟨u, by simpa using he2⟩, hit1.at fun o y => (hs2.2 it hei.symm).trans y⟩, fun b hb => ?_⟩
  have hbn := (hf b hb).1
  have : b ≠ s.heap.objs.size := by
   rcases List.mem_cons.mp hb with rfl | hb
   ·exact hTe.symm
   ·have : b = it := by simpa using hb
    subst this
    obtain ⟨o, e1, _⟩ := hit
    exact Nat.ne_of_lt (Heap.lt_size e1)
  rw [ar this]
  exact hbn
 done := by
  intro X hP hw hK hc i pins s σ H E I hf st hg
  subst hP hw hK
  obtain ⟨⟨old, he⟩, hit⟩ := st
  obtain ⟨xs, hq, hx⟩ := hg
  obtain ⟨its, rv, p, hz⟩ := I.list hq
  have hl := rv.length
  exact wpAny_pyNext_enum_end (I.ok.hd hc) he hit p.isList (Array.getElem?_eq_none (by simp; omega)) fun h2 eb => ⟨rfl, I.turnedL (t' := s.toks) (ch := [e, it]) hf fun b o hb q => eb b o (fun z => hb (by simp [z])) q⟩
 self := fun _ _ _ _ _ st h => by
  obtain ⟨⟨old, he⟩, _⟩ := st
  exact wpAny_pyIter_enum he h
theorem k4 : ∀ (ds : List Dat) (k i : Nat), (jv k ds)[i]? = (ds[i]?).map fun d => .tup [.int ((k + i : Nat) : Int), d]
 | [], k, i => by simp [jv]
 | d :: ds, k, 0 => by simp [jv]
 | d :: ds, k, i + 1 => by
  rw [jv, List.getElem?_cons_succ, k4 ds (k + 1) i, List.getElem?_cons_succ]
  rw [show k + 1 + i = k + (i + 1) by omega]
theorem gm : ∀ (ds : List Dat) (k : Nat), (jv k ds).length = ds.length
 | [], _ => rfl
 | d :: ds, k => by rw [jv, List.length_cons, gm ds, List.length_cons]
theorem DJ {K : PySem.W.Frag} {F : Hp} {a : Addr} {xs : List V} {ds : List Dat} (t : SqL K F a xs) (z : aD K F ds xs) : zy K F (Ite K a) (jv 0 ds) where
 go := fun i F' H' s1 s2 hi => ⟨xs, xs[i]'(by rw [z.length]; rw [gm] at hi; exact hi), s2.lst (s1.lst t), by rw [gm] at hi; simp [z.length, hi]⟩
 yl := fun i F' H' x H2 d s1 s2 hd hy => by
  obtain ⟨T, y, hT, ex, eH, hy⟩ := hy
  subst ex eH
  rw [k4] at hd
  cases hds : ds[i]? with
  | none => rw [hds] at hd; cases hd
  | some d' =>
   rw [hds] at hd
   simp at hd
   subst hd
   obtain ⟨v, e1, q⟩ := z.get hds
   have e2 := hy xs (s2.lst (s1.lst t))
   rw [e1] at e2
   cases e2
   refine ⟨upd F' T (.tup [.int i, y]), Step.lay s2 hT, T, _, rfl, SqT.of av, ?_⟩
   exact ⟨.int i, [y], rfl, rfl, y, [], rfl, (q.mono s1).mono (bj.upd (s2.free hT)), rfl⟩
 st := fun F' H' s1 s2 => ⟨xs, s2.lst (s1.lst t), by rw [z.length, gm]; exact Nat.le_refl _⟩
section
variable {X : Cx} {K : PySem.W.Frag} {W : gS} {own ro : Bool} {e a b c : Expr} {es : List Expr} {x : Str} {pos p : Pos} {f fa fb fc : ak -> M Dat} {fr : ak -> M (List Dat)} {ft : ak -> M Bool}
noncomputable def iEnum (K : PySem.W.Frag) (tl : TE) : TI := fun σ H R => tl σ H fun x H1 => ∃ a, x = .ref a /\ (∃ xs, SqL K H1 a xs) /\ R (Ite K a) H1
theorem pi_enum {elts : List Expr} {k : Nat} {q : Pos} {tl : TE} (hg : Gl X "enumerate") (hm : X.mg "enumerate" = none) (hl : PE X a tl) (hs : starEach [a] X.env = [(false, eval a X.env)] := by rfl) :
  PI X (.Tuple elts k q) (.Call (.Name "enumerate" p) [a] [] pos) (iEnum X.K tl) := by
 intro pins s σ H R I h
 have ha : PA X [a] (uQ tl tNil) := cL hl iJ hs
 refine Call_ (uh I hg hm boot_enumerate (PyProof.Rows.callWith_type1 (thn (ha pos pins s σ H (fun vs H1 => match vs with
  | [x] => ∃ a, x = .ref a /\ (∃ xs, SqL X.K H1 a xs) /\ R (Ite X.K a) H1
  | _ => False) I h) fun us s1 ⟨vs, H1, I1, r1, q1⟩ => ?_) hs rfl))
 match vs, r1, q1 with
 | [x], r1, ⟨l, e1, ⟨xs, hq⟩, q⟩ =>
  subst e1
  obtain ⟨u, rfl, ru⟩ := r1.one
  cases ru
  obtain ⟨its, rv, pl, hz⟩ := I1.list hq
  refine call_enumerate_list pl.isList fun h2 he hit hsz hk => ?_
  have I2 : Inv X pins σ H1 { s1 with heap := h2 } := I1.kept (t' := s1.toks) hk
  refine wpAny_pyIter_enum he ?_
  refine ⟨s1.heap.objs.size + 1, [s1.heap.objs.size + 1, s1.heap.objs.size], _, _, H1, rfl, I2, CD l _ _ (Nat.succ_ne_self _), ⟨⟨_, he⟩, hit⟩, fun b hb => ?_, q⟩
  have hb2 : s1.heap.objs.size <= b := by
   rcases List.mem_cons.mp hb with rfl | hb
   ·exact Nat.le_succ _
   ·have : b = s1.heap.objs.size := by simpa using hb
    exact Nat.le_of_eq this.symm
  exact I1.fpOk hb2 (I1.hok.fresh hb2)
theorem ri_enum {σ : St} {H : Hp} {R : It -> Hp -> Prop} (h : iD K W (w6 fa) σ H R) : iEnum K (tD K W false fa) σ H R := by
 obtain ⟨F, ρ, r, s, p⟩ := h
 refine cq r s (fun e he => ?_) fun d hd v F1 H1 s1 q1 => ?_
 ·have z : w6 fa ρ = .error e := by unfold w6; rw [he]; rfl
  rw [z] at p; exact p
 ·have z : w6 fa ρ = (Bh d).bind fun ds => .ok (jv 0 ds) := by unfold w6; rw [hd]; rfl
  rw [z] at p
  cases d with
  | lst ds =>
   obtain ⟨b, xs, e, t, z⟩ := q1
   exact ⟨b, e, ⟨xs, s1.fh.lst t⟩, p _ F1 H1 s1 (DJ t z)⟩
  | _ => exact (W.ns p).elim
theorem Eb {elts : List Expr} {k : Nat} {q : Pos} (hm : X.mg "enumerate" = none) (hl : DE K W false X a fa) (hg : Gl X "enumerate" := by rfl) (hs : starEach [a] X.env = [(false, eval a X.env)] := by rfl) (hK : X.K = K := by rfl) :
  DI K W X (.Tuple elts k q) (.Call (.Name "enumerate" p) [a] [] pos) (w6 fa) := by
 subst hK
 exact (pi_enum hg hm hl hs).imp fun _ _ _ => ri_enum
theorem ml : PTs X [] (tDT K W ur) := fun pins s σ H Q I h => pts_nil pins s σ H Q I (by
 obtain ⟨F, ρ, r, s1, q⟩ := h
 exact q F H (Step.refl s1))
theorem gH : PGs X [] (jc []) := pgs_nil
theorem aT {i : Nat} {is : List Nat} (hN : X.N.Nodup) (h2 : PGs X es (jc is)) (hi : X.N[i]? = some x := by rfl) (hx : Loc X.env.scope x := by first | exact Or.inl rfl | exact Or.inr rfl) (hf : X.fn x = true \/ X.env.scope.names.lookup x = some .local := by first | exact .inl rfl | exact .inr rfl | assumption)
  (hs : (assignEach (.Name x p :: es) X.env).map (·.2) = assign (.Name x p) X.env :: (assignEach es X.env).map (·.2) := by rfl) : PGs X (.Name x p :: es) (jc (i :: is)) := B9 (zW hN hi hx hf) h2 hs
theorem pY {k : Nat} {is : List Nat} (hc : X.calm = true) (h : PGs X es (jc is)) (hn : (assignEach es X.env).length = is.length := by rfl) (hst : (assignEach es X.env).findIdx? (·.1) = none := by rfl) (hK : X.K = K := by rfl) : DG K X (.Tuple es k pos) (.tp is) := by
 subst hK
 exact pg_tup hc h hn hst
theorem qp {ix : List (Option Nat)} : ∀ {is : List Nat}, (∀ i ∈ is, ix[i]? = some none) -> ∀ vs σ' H' (Q : St -> Hp -> Prop), jc is vs σ' H' Q -> jc is vs σ' H' fun σ2 H2 => Q σ2 H2 /\ ∀ (i : Nat) v, σ'[i]? = some (some v) -> (∃ j, ix[i]? = some (some j)) -> σ2[i]? = some (some v)
 | [], _, vs, σ', H', Q, ⟨e, q⟩ => ⟨e, q, fun _ _ h _ => h⟩
 | i :: is, hs, vs, σ', H', Q, ⟨v, r, e, q⟩ => by
  refine ⟨v, r, e, ?_⟩
  have := qp (ix := ix) (is := is) (fun j hj => hs j (by simp [hj])) r (σ'.set i (some v)) H' Q q
  have mono : ∀ {is : List Nat} {vs : List V} {σ1 : St} {H1 : Hp} {Q Q' : St -> Hp -> Prop}, (∀ σ2 H2, Q σ2 H2 -> Q' σ2 H2) -> jc is vs σ1 H1 Q -> jc is vs σ1 H1 Q' := by
   intro is
   induction is with
   | nil => rintro vs σ1 H1 Q Q' m ⟨e, q⟩; exact ⟨e, m _ _ q⟩
   | cons i is ih => rintro vs σ1 H1 Q Q' m ⟨v, r, e, q⟩; exact ⟨v, r, e, ih m q⟩
  refine mono (fun σ2 H2 ⟨q1, q2⟩ => ⟨q1, fun j w h ⟨l, hl⟩ => q2 j w ?_ ⟨l, hl⟩⟩) this
  have : i ≠ j := by rintro rfl; rw [hs i (by simp)] at hl; cases hl
  rw [List.getElem?_set_ne this]
  exact h
theorem s9 {ix : List (Option Nat)} {is : List Nat} (h : ∀ i ∈ is, ix[i]? = some none) : uI ix (gP K (.tp is)) := fun x σ' H' Q ⟨a, xs, e, t, l, q⟩ => ⟨a, xs, e, t, l, qp h xs σ' H' Q q⟩
theorem qu {N' : List Str} {sc : Scope} {L : Addr} {cs : List (Str × Addr)} {s : Shared} {H : Hp} {fp : List Addr} {i : Nat} (hN : N'.Nodup) (hi : N'[i]? = some x := by rfl) (hx : Loc 'd'.env.scope x := by first | exact Or.inl rfl | exact Or.inr rfl)
  (hf : 'd'.fn x = true \/ 'd'.env.scope.names.lookup x = some .local := by first | exact .inl rfl | exact .inr rfl | assumption) : DG K 'd' (.Name x pos) (.nm i) := pg_c hN hi hx hf
variable {sc : Scope} {tg elt iter : Expr} {ifs : List Expr} {fi : ak -> M (List Dat)} {pt : Pat} {fe : ak -> M Dat} {spos py : Pos}
theorem kL (N' : List Str) (ix : List (Option Nat)) (hi : DI K W X tg iter fi) (hg : ∀ L cs s H fp, DG K 'd' tg pt) (hl : uI ix (gP K pt))
  (ht : ∀ L cs s H fp, PTs 'd' ifs (tDT K W ft)) (he : ∀ L cs s H fp, DE K W false 'd' elt fe) (hc : X.calm = true := by rfl)
  (ok : cf X.N X.env.scope N' sc ix = true := by rfl) (hk : sc.kind = .function := by rfl) (hs : ∀ x, foldedSetIterable iter X.env x = pure x := by intro _; rfl) :
  DE K W true X 'z' (lx fi ix pt ft fe) := (pe_comp N' ix hc hi hg hl ht he ok hk hs).imp fun _ _ _ => CV
theorem tD_fr {σ : St} {H : Hp} {Q : VK} (h : tD K W own f σ H Q) : tD K W true f σ H Q := by
 cases own with
 | true => exact h
 | false => obtain ⟨F, ρ, r, s, p⟩ := h; exact ⟨F, ρ, r, s, p.frz⟩
theorem Bp {OL O : List Nat} {i : Nat} (own : Bool) (N' : List Str) (ix : List (Option Nat)) (hN : X.N.Nodup) (hi : DI K W X tg iter fi) (hg : ∀ L cs s H fp, DG K 'd' tg pt) (hl : uI ix (gP K pt))
  (ht : ∀ L cs s H fp, PTs 'd' ifs (tDT K W ft)) (he : ∀ L cs s H fp, DE K W false 'd' elt fe) (hj : X.N[i]? = some x := by rfl) (hy : X.env.scope.names.lookup x = some .local := by rfl) (hc : X.calm = true := by rfl)
  (hsw : swapsWith 'z' (some (.Name x py)) spos.line X.env = pure true := by rfl)
  (ok : cf X.N X.env.scope N' sc ix = true := by rfl) (hk : sc.kind = .function := by rfl) (hs : ∀ x, foldedSetIterable iter X.env x = pure x := by intro _; rfl) :
  DS K W ro X OL O (aft own i O) (.Assign [.Name x py] 'z' spos) (aO O i (lx fi ix pt ft fe)) := fun F0 H0 =>
 (BQ N' ix hN hj hy hc hi hg hl ht he hsw ok hk hs).imp fun D σ H t => CV (tD_fr (CU t))
theorem ds_setI {OL O : List Nat} {i : Nat} {q r : Pos} {fk : ak -> M Dat} (he : DE K W false X e f) (hk : DE K W false X b fk) (ho : i ∈ O := by decide) (hN : X.N[i]? = some x := by rfl) (hv : Vis X.env.scope x := by first | exact Or.inl rfl | exact Or.inr (Or.inl rfl) | exact Or.inr (Or.inr rfl)) (hd : 'c' = false := by decide) (hcd : (x == ("__classdict__" : Str)) = false := by decide)
  (ha : ∀ v, assign (.Subscript (.Name x p) b q) X.env v = (do
   let ov <- holding [v] (eval (.Name x p) X.env)
   let iv <- holding [v, ov] (eval b X.env)
   standAt q
   holding [v, ov, iv] (setItem ov iv v)
   release [v, ov, iv] []) := by intro _; rfl) (hs : swapsWithSole [.Subscript (.Name x p) b q] e r.line X.env = pure false := by rfl) (hw : swappedStores [.Subscript (.Name x p) b q] e X.env = pure none := by rfl)
  (h1 : (assignEach [.Subscript (.Name x p) b q] X.env).map (·.2) = [assign (.Subscript (.Name x p) b q) X.env] := by rfl) :
  DS K W ro X OL O O (.Assign [.Subscript (.Name x p) b q] e r) (zQ i fk f) := fun F0 H0 => (D4 he (pg_sub (pv i hN hv hd hcd) hk set_list ha) hs hw h1).imp fun _ _ _ => rs_setI ho
theorem E9 {OL O : List Nat} {pt : Pat} {tg : Expr} (he : DE K W false X e f) (hg : DG K X tg pt) (n : ∀ i ∈ pt.names, i ∉ O := by decide) (hs : swapsWithSole [tg] e pos.line X.env = pure false := by rfl) (hw : swappedStores [tg] e X.env = pure none := by rfl)
  (h1 : (assignEach [tg] X.env).map (·.2) = [assign tg X.env] := by rfl) : DS K W ro X OL O O (.Assign [tg] e pos) (xI O pt f) := fun F0 H0 => (D4 he hg hs hw h1).imp fun _ _ _ => rs_unpB n
noncomputable def spF (K : PySem.W.Frag) (ro : Bool) (g : List Dat -> M Dat) (n : Nat) : Sp := fun vs H Q _ => ∃ F ds, bj F H /\ aD K F ds vs /\ ds.length = n /\ aL K Wno ro F H (g ds) Q
theorem oN {nN n : Nat} {g : ak -> M Flo} {ds : List Dat} (h : ds.length ≠ n) : cV nN n g ds = stk := by unfold cV; rw [if_neg h]
theorem aK {k nN n : Nat} {fad : Addr} {fd : FuncData} {ps : List Str} {g : ak -> M Flo} (F : bx X.prog X.w X.K X.mg X.base CX0 k fad fd ps (spF K ro (cV nN n g) n)) (hr : kg k X.A) (hm : X.mg x = some (.ref fad)) (hk : PySem.W.keepIn X.K (.ref fad) = true) (hb : Binds X.K fd ps [])
  (ha : DA K Wno X (e :: es) fr) (hg : Gl X x := by rfl) (hdb : 'c' = false := by decide) (hst : starEach (e :: es) X.env = 'k' :: starEach es X.env := by rfl) (hpl : 'm'.any (·.1) = false := by rfl) :
  DE K Wno ro X 'G' (fL (cV nN n g) fr) := by
 refine PE.imp (rK F hr hg hm hk hb .nil zX ha hdb hst hpl) fun σ H Q h => ?_
 obtain ⟨F, ρ, r, s, p⟩ := rd_L h
 refine ⟨F, ρ, r, s, ?_⟩
 cases e1 : fr ρ with
 | error z => rw [e1] at p; exact p
 | ok ds =>
  rw [e1] at p
  intro vs F' H' st q
  obtain ⟨F1, es1, s1, q1, z⟩ := p vs F' H' st q
  show spF K ro (cV nN n g) n (vs ++ []) H' Q E0
  rw [List.append_nil]
  by_cases hl : es1.length = n
  ·exact ⟨F1, es1, s1, q1, hl, z⟩
  ·rw [oN hl] at z
   exact aL.stuck z
end
section
variable {P : Program} {w : World} {K : PySem.W.Frag} {mg : Str -> Option Value} {base : Heap}
theorem xt {N : List Str} {vs : List V} {ds : List Dat} {i : Nat} {d : Dat} {F : Hp} (q : aD K F ds vs) (h : (ds.map some ++ List.replicate (N.length - ds.length) none)[i]? = some (some d)) : ∃ v, (start N vs)[i]? = some (some v) /\ cR K F d v := by
 have hi : i < ds.length := by
  by_cases hi : i < ds.length
  ·exact hi
  ·rw [List.getElem?_append_right (by simpa using hi), List.getElem?_replicate] at h
   split at h <;> cases h
 rw [List.getElem?_append_left (by simpa using hi), List.getElem?_map] at h
 cases e : ds[i]? with
 | none => rw [e] at h; cases h
 | some d' =>
  rw [e] at h
  cases h
  obtain ⟨v, e1, q1⟩ := q.get e
  refine ⟨v, ?_, q1⟩
  unfold start
  rw [List.getElem?_append_left (by rw [List.length_map, q.length]; exact hi), List.getElem?_map, e1]
  rfl
theorem pq {x qual : Str} {st : Stmt} {f : Addr} {fd : FuncData} {N ps : List Str} {k : Nat} {O' : List Nat} (F : Fun K x qual st f fd) (S : aM N ps (af st)) (ro : Bool) (g : ak -> M Flo)
  (hb : ∀ (cdv : Value) (A : Around) (outer : List Env) (s : Shared) (H : Hp) (E : XK), kg k (A.deeper (envOfC qual (af st) s.heap.objs.size f cdv)) ->
   DSs K Wno ro (Cr CX0 P w K mg base N qual (af st) f cdv A outer s H E).nox [] [] O' (aE st) g) : bx P w K mg base CX0 (k + 1) f fd ps (spF K ro (cV N.length ps.length g) ps.length) := by
 have hpl : ps.length <= N.length := by have := congrArg List.length S.pre; rw [List.length_take] at this; omega
 refine F.okX S (fun vs H Q E ⟨F, ds, s, q, l, p⟩ => by rw [q.length, l]) fun cdv A outer s H vs Q E hr ⟨F1, ds, s1, q, l, p⟩ => ⟨_, hb cdv A outer s H E hr F1 H, F1, F1, ds.map some ++ List.replicate (N.length - ds.length) none, ?_, ?_⟩
 ·refine ⟨Step.refl s1, bj.refl _, ?_, fun i d e _ => xt q e, (fun i d e h => nomatch h), (fun i j ds es a h => nomatch h)⟩
  unfold start
  rw [List.length_append, List.length_append, List.length_map, List.length_map, List.length_replicate, List.length_replicate, q.length]
 ·have e1 : cV N.length ps.length g ds = (g (ds.map some ++ List.replicate (N.length - ds.length) none)).bind fun fl => match fl with
   | .nx _ => .ok .non
   | .rt d => .ok d
   | _ => stk := by
    unfold cV
    exact if_pos l
  rw [e1] at p
  cases e2 : g (ds.map some ++ List.replicate (N.length - ds.length) none) with
  | error z => rw [e2] at p; exact p
  | ok fl =>
   rw [e2] at p
   cases fl with
   | nx ρ => exact fun σ F H r => p .non F H r.st (by cases ro <;> rfl)
   | rt d => exact fun v F H st q => p v F H st q
   | bk ρ => exact aL.stuck p
   | ct ρ => exact aL.stuck p
noncomputable def BG (K : PySem.W.Frag) : Sp := fun vs H Q _ => ∃ (a : Addr) (ns : List Int), vs = [.ref a] /\ SqL K H a (ns.map V.int) /\ ns.length <= 63 /\ ∀ H', Q (.bl true) H'
theorem uw {F : Hp} : ∀ is : List Int, aD K F (is.map Dat.int) (is.map V.int)
 | [] => rfl
 | i :: is => ⟨.int i, is.map V.int, rfl, rfl, uw is⟩
theorem law_ok {k : Nat} {f : Addr} {fd : FuncData} {x : Str} {ro : Bool} {mlaw : Nat -> List Dat -> M Dat} (F : ∀ n, bx P w K mg base CX0 k f fd [x] (spF K ro (mlaw n) 1)) (h : ∀ ns : List Int, ns.length <= 63 -> ∃ n, mlaw n [.lst (ns.map .int)] = .ok (.bl true)) : bx P w K mg base CX0 k f fd [x] (BG K) := by
 refine ⟨fun vs H Q E ⟨a, ns, e, _⟩ => by rw [e]; rfl, fun A outer s H args us vs Q E hr he hb hv ⟨a, ns, e, hq, hl, q⟩ => ?_⟩
 obtain ⟨n, hn⟩ := h ns hl
 refine (F n).run A outer s H args us vs Q E hr he hb hv ⟨H, [.lst (ns.map .int)], bj.refl _, ⟨.ref a, [], e, ⟨a, _, rfl, hq, uw ns⟩, rfl⟩, rfl, ?_⟩
 rw [hn]
 intro v F' H' st z
 have : v = .bl true := by cases ro <;> exact z
 rw [this]
 exact q H'
end
end L2
namespace L2
open PySem PySem.Spec PyProof.Rows
structure Kit (K : PySem.W.Frag) : Prop where
 lI : PySem.W.kitOne K 'V' 'V' = some true
 jS : PySem.W.kitOne K 'T' 'V' = some true
 jO : PySem.W.kitOne K 'L' 'V' = some false
 iB : PySem.W.kitOne K 'N' 'V' = some false
 lG : PySem.W.kitOne K '1' 'V' = some false
 eW : PySem.W.kitOne K (.type "NoneType") 'V' = some false
 jQ : PySem.W.kitOne K 'V' 'T' = some false
 iI : PySem.W.kitOne K 'T' 'T' = some true
 iF : PySem.W.kitOne K 'L' 'T' = some false
 gW : PySem.W.kitOne K 'N' 'T' = some false
 jM : PySem.W.kitOne K '1' 'T' = some false
 dS : PySem.W.kitOne K (.type "NoneType") 'T' = some false
 jP : PySem.W.kitOne K 'V' 'L' = some false
 iH : PySem.W.kitOne K 'T' 'L' = some false
 iE : PySem.W.kitOne K 'L' 'L' = some true
 gU : PySem.W.kitOne K 'N' 'L' = some false
 jL : PySem.W.kitOne K '1' 'L' = some false
 dR : PySem.W.kitOne K (.type "NoneType") 'L' = some false
 iG : PySem.W.kitOne K 'V' 'N' = some false
 gY : PySem.W.kitOne K 'T' 'N' = some false
 gX : PySem.W.kitOne K 'L' 'N' = some false
 fY : PySem.W.kitOne K 'N' 'N' = some true
 iC : PySem.W.kitOne K '1' 'N' = some false
 dw : PySem.W.kitOne K (.type "NoneType") 'N' = some false
 lH : PySem.W.kitOne K 'V' '1' = some false
 jR : PySem.W.kitOne K 'T' '1' = some false
 jN : PySem.W.kitOne K 'L' '1' = some false
 iA : PySem.W.kitOne K 'N' '1' = some false
 lF : PySem.W.kitOne K '1' '1' = some true
 eV : PySem.W.kitOne K (.type "NoneType") '1' = some false
section
variable {X : Cx} {K : PySem.W.Frag} {W : gS} {own ro : Bool} {e a b c : Expr} {es : List Expr} {x : Str} {pos p p2 : Pos} {f fa fb fc : ak -> M Dat} {fr : ak -> M (List Dat)} {ft : ak -> M Bool}
theorem DM {pins : List 'a'} {σ : St} {F H : Hp} {s : Shared} {T : String} {d : Dat} {x : V} {u : Value} {bi bb bl bt bs bn : Bool} {Q : Value -> Shared -> Prop} (I : Inv X pins σ H s) (hF : bj F H) (q : cR X.K F d x) (r : RelV x u)
  (hi : PySem.W.kitOne X.K 'V' (.type T) = some bi) (hb : PySem.W.kitOne X.K 'T' (.type T) = some bb) (hl : PySem.W.kitOne X.K 'L' (.type T) = some bl) (ht : PySem.W.kitOne X.K 'N' (.type T) = some bt)
  (hs : PySem.W.kitOne X.K '1' (.type T) = some bs) (hn : PySem.W.kitOne X.K (.type "NoneType") (.type T) = some bn)
  (h : ∀ k tk, (match d with | .int _ => k = bi | .bl _ => k = bb | .lst _ => k = bl | .tup _ => k = bt | .str _ => k = bs | .non => k = bn | .ins _ _ => False) -> Q (.bool k) { s with toks := tk }) (no : ∀ C fs, d ≠ .ins C fs) :
  wpAny 'b' X.A (call (.builtin "isinstance") [u, .type T]) Q X.xe s := by
 cases d with
 | non => cases (show x = .non from q); cases r; exact PySem.W.kia_one PySem.W.kitx_none I.kIn True.intro hn 'C' fun tk => h _ tk rfl
 | bl y => cases (show x = .bl y from q); cases r; exact PySem.W.kia_one PySem.W.kitx_bool I.kIn True.intro hb 'C' fun tk => h _ tk rfl
 | int i => cases (show x = .int i from q); obtain ⟨t, rfl⟩ := r; exact PySem.W.kia_one PySem.W.kitx_int I.kIn True.intro hi 'C' fun tk => h _ tk rfl
 | str y => cases (show x = .str y from q); obtain ⟨t, rfl⟩ := r; exact PySem.W.kia_one PySem.W.kitx_str I.kIn True.intro hs 'C' fun tk => h _ tk rfl
 | lst ds =>
  obtain ⟨l, xs, e, t, _⟩ := q
  subst e
  cases r
  obtain ⟨its, _, pl, _⟩ := I.list (hF.lst t)
  obtain ⟨o, h1, h2, _⟩ := pl.isList
  exact PySem.W.kia_one PySem.W.kitx_list I.kIn ⟨o, h1, h2⟩ hl 'C' fun tk => h _ tk rfl
 | tup ds =>
  obtain ⟨l, xs, e, t, _⟩ := q
  subst e
  cases r
  obtain ⟨its, _, pl, _⟩ := I.tuple (hF.tup t)
  obtain ⟨o, h1, h2, _⟩ := pl
  exact PySem.W.kia_one PySem.W.kitx_tuple I.kIn ⟨o, h1, h2⟩ ht 'C' fun tk => h _ tk rfl
 | ins C fs => exact absurd rfl (no C fs)
theorem yO {T : String} {y : Str} {g : Dat -> M Dat} (hc : gL X (.builtin "isinstance") (fun xs H Q => ∃ v, xs = [v, .ty T] /\ rD1 K W own g v H Q)) (hm : X.mg "isinstance" = none) (hmT : X.mg y = none) (hvT : bootBuiltins y = some (.type T)) (ha : DE K W false X a fa)
  (hg : Gl X "isinstance" := by rfl) (hgT : Gl X y := by rfl) (hn : y ≠ "__name__" := by decide) (hd : (y == ("__debug__" : Str)) = false := by decide)
  (hst : starEach [a, .Name y p2] X.env = [(false, eval a X.env), (false, eval (.Name y p2) X.env)] := by rfl) (hst2 : starEach [.Name y p2] X.env = [(false, eval (.Name y p2) X.env)] := by rfl) (hpl : (backTo pos (starEach [.Name y p2] X.env)).any (·.1) = false := by rfl) :
  DE K W own X (.Call (.Name "isinstance" p) [a, .Name y p2] [] pos) (f1 g fa) :=
 (kn hc hg hm boot_isinstance (cL ha (cL (pe_tyN (pos := p2) hgT hmT hvT hn hd) iJ hst2) (by rw [hst, hst2])) (by decide) (by decide) (by rw [hst, hst2]) hpl).imp fun σ H Q h => by
  obtain ⟨F, ρ, r, s, q⟩ := rd_1 h
  refine ⟨F, ρ, r, s, ?_⟩
  cases e1 : fa ρ with
  | error z => rw [e1] at q; exact q
  | ok d => rw [e1] at q; exact fun v F' H' st z => ⟨v, rfl, q v F' H' st z⟩
theorem Ez (kit : Kit K) (hK : X.K = K := by rfl) : gL X (.builtin "isinstance") (fun xs H Q => ∃ v, xs = [v, .ty "int"] /\ rD1 K W own oQ v H Q) := by
 subst hK
 intro pins s σ H xs us Q I r h
 obtain ⟨v, rfl, F, d, s1, q, p⟩ := h
 obtain ⟨u, w, rfl, ru, rw'⟩ := r.two
 cases (show w = Value.type "int" from rw')
 by_cases hi : ∃ C fs, d = .ins C fs
 ·obtain ⟨C, fs, rfl⟩ := hi
  exact aL.stuck p
 ·refine DM I s1 q ru kit.lI kit.jS kit.jO kit.iB kit.lG kit.eW (fun k tk hk => ⟨.bl k, H, I.tok tk, rfl, ?_⟩) (fun C fs e => hi ⟨C, fs, e⟩)
  cases d <;> first | (have hk' : k = _ := hk; subst hk'; exact aL.bl (own := own) p s1) | exact absurd ⟨_, _, rfl⟩ hi
theorem ux (kit : Kit K) (hm : X.mg "isinstance" = none) (hmT : X.mg "int" = none) (ha : DE K W false X a fa) (hK : X.K = K := by rfl)
  (hg : Gl X "isinstance" := by rfl) (hgT : Gl X "int" := by rfl)
  (hst : starEach [a, .Name "int" p2] X.env = [(false, eval a X.env), (false, eval (.Name "int" p2) X.env)] := by rfl) (hst2 : starEach [.Name "int" p2] X.env = [(false, eval (.Name "int" p2) X.env)] := by rfl) (hpl : (backTo pos (starEach [.Name "int" p2] X.env)).any (·.1) = false := by rfl) :
  DE K W own X (.Call (.Name "isinstance" p) [a, .Name "int" p2] [] pos) (f1 oQ fa) := yO (Ez kit hK) hm hmT 'E' ha hg hgT (by decide) (by decide) hst hst2 hpl
theorem Ck (kit : Kit K) (hK : X.K = K := by rfl) : gL X (.builtin "isinstance") (fun xs H Q => ∃ v, xs = [v, .ty "bool"] /\ rD1 K W own m7 v H Q) := by
 subst hK
 intro pins s σ H xs us Q I r h
 obtain ⟨v, rfl, F, d, s1, q, p⟩ := h
 obtain ⟨u, w, rfl, ru, rw'⟩ := r.two
 cases (show w = Value.type "bool" from rw')
 by_cases hi : ∃ C fs, d = .ins C fs
 ·obtain ⟨C, fs, rfl⟩ := hi
  exact aL.stuck p
 ·refine DM I s1 q ru kit.jQ kit.iI kit.iF kit.gW kit.jM kit.dS (fun k tk hk => ⟨.bl k, H, I.tok tk, rfl, ?_⟩) (fun C fs e => hi ⟨C, fs, e⟩)
  cases d <;> first | (have hk' : k = _ := hk; subst hk'; exact aL.bl (own := own) p s1) | exact absurd ⟨_, _, rfl⟩ hi
theorem sA (kit : Kit K) (hm : X.mg "isinstance" = none) (hmT : X.mg "bool" = none) (ha : DE K W false X a fa) (hK : X.K = K := by rfl)
  (hg : Gl X "isinstance" := by rfl) (hgT : Gl X "bool" := by rfl)
  (hst : starEach [a, .Name "bool" p2] X.env = [(false, eval a X.env), (false, eval (.Name "bool" p2) X.env)] := by rfl) (hst2 : starEach [.Name "bool" p2] X.env = [(false, eval (.Name "bool" p2) X.env)] := by rfl) (hpl : (backTo pos (starEach [.Name "bool" p2] X.env)).any (·.1) = false := by rfl) :
  DE K W own X (.Call (.Name "isinstance" p) [a, .Name "bool" p2] [] pos) (f1 m7 fa) := yO (Ck kit hK) hm hmT 'E' ha hg hgT (by decide) (by decide) hst hst2 hpl
theorem Cj (kit : Kit K) (hK : X.K = K := by rfl) : gL X (.builtin "isinstance") (fun xs H Q => ∃ v, xs = [v, .ty "list"] /\ rD1 K W own jW v H Q) := by
 subst hK
 intro pins s σ H xs us Q I r h
 obtain ⟨v, rfl, F, d, s1, q, p⟩ := h
 obtain ⟨u, w, rfl, ru, rw'⟩ := r.two
 cases (show w = Value.type "list" from rw')
 by_cases hi : ∃ C fs, d = .ins C fs
 ·obtain ⟨C, fs, rfl⟩ := hi
  exact aL.stuck p
 ·refine DM I s1 q ru kit.jP kit.iH kit.iE kit.gU kit.jL kit.dR (fun k tk hk => ⟨.bl k, H, I.tok tk, rfl, ?_⟩) (fun C fs e => hi ⟨C, fs, e⟩)
  cases d <;> first | (have hk' : k = _ := hk; subst hk'; exact aL.bl (own := own) p s1) | exact absurd ⟨_, _, rfl⟩ hi
theorem sy (kit : Kit K) (hm : X.mg "isinstance" = none) (hmT : X.mg "list" = none) (ha : DE K W false X a fa) (hK : X.K = K := by rfl)
  (hg : Gl X "isinstance" := by rfl) (hgT : Gl X "list" := by rfl)
  (hst : starEach [a, .Name "list" p2] X.env = [(false, eval a X.env), (false, eval (.Name "list" p2) X.env)] := by rfl) (hst2 : starEach [.Name "list" p2] X.env = [(false, eval (.Name "list" p2) X.env)] := by rfl) (hpl : (backTo pos (starEach [.Name "list" p2] X.env)).any (·.1) = false := by rfl) :
  DE K W own X (.Call (.Name "isinstance" p) [a, .Name "list" p2] [] pos) (f1 jW fa) := yO (Cj kit hK) hm hmT 'E' ha hg hgT (by decide) (by decide) hst hst2 hpl
theorem Ax (kit : Kit K) (hK : X.K = K := by rfl) : gL X (.builtin "isinstance") (fun xs H Q => ∃ v, xs = [v, .ty "tuple"] /\ rD1 K W own eF v H Q) := by
 subst hK
 intro pins s σ H xs us Q I r h
 obtain ⟨v, rfl, F, d, s1, q, p⟩ := h
 obtain ⟨u, w, rfl, ru, rw'⟩ := r.two
 cases (show w = Value.type "tuple" from rw')
 by_cases hi : ∃ C fs, d = .ins C fs
 ·obtain ⟨C, fs, rfl⟩ := hi
  exact aL.stuck p
 ·refine DM I s1 q ru kit.iG kit.gY kit.gX kit.fY kit.iC kit.dw (fun k tk hk => ⟨.bl k, H, I.tok tk, rfl, ?_⟩) (fun C fs e => hi ⟨C, fs, e⟩)
  cases d <;> first | (have hk' : k = _ := hk; subst hk'; exact aL.bl (own := own) p s1) | exact absurd ⟨_, _, rfl⟩ hi
theorem qv (kit : Kit K) (hm : X.mg "isinstance" = none) (hmT : X.mg "tuple" = none) (ha : DE K W false X a fa) (hK : X.K = K := by rfl)
  (hg : Gl X "isinstance" := by rfl) (hgT : Gl X "tuple" := by rfl)
  (hst : starEach [a, .Name "tuple" p2] X.env = [(false, eval a X.env), (false, eval (.Name "tuple" p2) X.env)] := by rfl) (hst2 : starEach [.Name "tuple" p2] X.env = [(false, eval (.Name "tuple" p2) X.env)] := by rfl) (hpl : (backTo pos (starEach [.Name "tuple" p2] X.env)).any (·.1) = false := by rfl) :
  DE K W own X (.Call (.Name "isinstance" p) [a, .Name "tuple" p2] [] pos) (f1 eF fa) := yO (Ax kit hK) hm hmT 'E' ha hg hgT (by decide) (by decide) hst hst2 hpl
theorem Vals.of_get : ∀ {xs : List V} {us : List Value}, xs.length = us.length -> (∀ (i : Nat) v u, xs[i]? = some v -> us[i]? = some u -> RelV v u) -> Vals xs us
 | [], [], _, _ => .nil
 | [], _ :: _, h, _ => by simp at h
 | _ :: _, [], h, _ => by simp at h
 | x :: xs, u :: us, h, q => .cons (q 0 x u rfl rfl) (Vals.of_get (by simpa using h) fun i v w h1 h2 => q (i + 1) v w (by simpa using h1) (by simpa using h2))
end
section
variable {K : PySem.W.Frag} {W : gS} {ro : Bool} {F0 H0 FB F H : Hp} {OL O O' O2 : List Nat} {D : Ends} {σ : St} {ρ : ak} {g h : ak -> M Flo} {f fk : ak -> M Dat}
theorem popD_ok {ds : List Dat} {k : Dat} {d : Dat} {es : List Dat} (h : D7 ds k = .ok (d, es)) : ∃ i j, k = .int i /\ ds.length <= sizeLine /\ ixN ds.length i = some j /\ ds[j]? = some d /\ es = ds.eraseIdx j := by
 unfold D7 at h
 cases k with
 | int i =>
  simp only [asI, ax] at h
  split at h
  ·cases h
  ·rename_i hs
   cases hj : ixN ds.length i with
   | none => rw [hj] at h; cases h
   | some j =>
    rw [hj] at h
    simp only at h
    cases hd : ds[j]? with
    | none => rw [hd] at h; cases h
    | some d' =>
     rw [hd] at h
     cases h
     exact ⟨i, j, rfl, by omega, hj, hd, rfl⟩
 | _ => cases h
theorem popD_err {ds : List Dat} {k : Dat} {e : Err} (h : D7 ds k = .error e) : e = .stuck := by
 unfold D7 at h
 cases k with
 | int i =>
  simp only [asI, ax] at h
  split at h
  ·cases h; rfl
  ·cases hj : ixN ds.length i with
   | none => rw [hj] at h; cases h; rfl
   | some j =>
    rw [hj] at h
    simp only at h
    cases hd : ds[j]? with
    | none => rw [hd] at h; cases h; rfl
    | some d' => rw [hd] at h; cases h
 | _ => cases h; rfl
noncomputable def tPopE (K : PySem.W.Frag) (i : Nat) (tk : TE) : TE := tBM K "list" rPopAt (tVar i) (uQ tk tNil)
theorem pop_run {i : Nat} {R : VK} (r : Rep K F0 H0 FB O F H σ ρ) (hi : i ∈ O) {ds : List Dat} (hl : kr ρ i = .ok ds) (hE : ∀ e, fk ρ = .error e -> W.p e F0 H0)
  (hO : ∀ k, fk ρ = .ok k -> (∀ e, D7 ds k = .error e -> False) /\ ∀ d es, D7 ds k = .ok (d, es) -> ∀ v F1 H1, Rep K F0 H0 FB O F1 H1 σ (ρ.set i (some (.lst es))) -> cR K F1 d v -> R v H1) : tPopE K i (tD K W false fk) σ H R := by
 obtain ⟨a, xs, e2, ha, z⟩ := r.Dz hi (mY hl)
 refine ⟨.ref a, e2, B0 ha, ?_⟩
 refine cq r.qo r.km (fun e he => W.mono (hE e he) (r.freeze (O2 := []) (by simp)).st) fun k hk w F1 H1 s1 q => ?_
 obtain ⟨h1, h2⟩ := hO k hk
 cases hp : D7 ds k with
 | error e => exact (h1 e hp).elim
 | ok de =>
  obtain ⟨d, es⟩ := de
  obtain ⟨m, j, rfl, hz, hj, hd, rfl⟩ := popD_ok hp
  obtain ⟨x1, x2, x3, x4⟩ := Ag hj
  obtain ⟨y, e3, qy⟩ := z.get hd
  have hs := sizeLine_eq
  refine ⟨a, xs, m, j, y, rfl, by rw [show w = .int m from q], s1.hh _ _ ha, by omega, by omega, by rw [z.length]; exact x1, e3, ?_⟩
  exact h2 d _ hp y _ _ ((r.nr s1).write hi (mY hl) e2 (aD.eraseIdx j (z.mono (r.mV s1)))) (qy.mono (r.mV s1))
theorem rs_popU {i : Nat} {pt : Pat} (hi : i ∈ O) (n : ∀ i ∈ pt.names, i ∉ O) (t : tS K W ro F0 H0 OL O O (CS i pt fk) D σ H) : tAsg (tPopE K i (tD K W false fk)) (gP K pt) D σ H := by
 obtain ⟨FB, F, ρ, r, p⟩ := t
 unfold CS at p
 cases hl : kr ρ i with
 | error e => have := rX hl; subst this; exact p.stuck (by rw [hl]; rfl)
 | ok ds =>
  rw [hl, ax] at p
  refine pop_run r hi hl (fun e he => p.err (by rw [he]; rfl)) fun k hk => ?_
  rw [hk, ax] at p
  refine ⟨fun e he => by have := popD_err he; subst this; exact p.stuck (by rw [he]; rfl), fun d es2 hp v F1 H1 r1 q => ?_⟩
  rw [hp, ax] at p
  cases e : gw pt d (ρ.set i (some (.lst es2))) with
  | error x => have := p9 e; subst this; exact p.stuck (by simp only [e]; rfl)
  | ok ρ' =>
   simp only [e, ax] at p
   exact DZ r1 n q e fun σ' r' => p σ' F1 H1 r'
end
section
variable {X : Cx} {K : PySem.W.Frag} {W : gS} {own ro : Bool} {e a b c : Expr} {x y : Str} {pos p p2 p3 q r t u : Pos} {f fk : ak -> M Dat} {OL O : List Nat}
theorem pe_pop {j : Nat} {tk : TE} (hk : PE X e tk) (hN : X.N[j]? = some y) (hv : Vis X.env.scope y) (hd : (y == ("__debug__" : Str)) = false) (hcd : (y == ("__classdict__" : Str)) = false)
  (hst : starEach [e] X.env = ['k']) (hbase : attributeBase (.Name y p) "pop" X.env (eval (.Name y p) X.env) = eval (.Name y p) X.env) (hfew : 'r' = true) (hplain : (backTo q (starEach [] X.env)).any (·.1) = false) (hline : (t.endLine == q.line) = true) :
  PE X (.Call (.Attribute (.Name y p) "pop" t) [e] [] q) (tPopE X.K j tk) := pe_bm PySem.F.plainAttrs_list PySem.F.slot_list_pop PySem.F.type_list_pop mt_popAt (pv j hN hv hd hcd) (cL hk iJ hst) hbase hfew hline hst hplain
theorem ds_popU {i : Nat} {pt : Pat} {tg : Expr} (hg : DG K X tg pt) (hk : DE K W false X e fk) (ho : i ∈ O := by decide) (n : ∀ i ∈ pt.names, i ∉ O := by decide) (hN : X.N[i]? = some y := by rfl) (hv : Vis X.env.scope y := by first | exact Or.inl rfl | exact Or.inr (Or.inl rfl) | exact Or.inr (Or.inr rfl)) (hd : (y == ("__debug__" : Str)) = false := by decide) (hcd : (y == ("__classdict__" : Str)) = false := by decide) (hK : X.K = K := by rfl)
  (hst : starEach [e] X.env = ['k'] := by rfl) (hbase : attributeBase (.Name y p) "pop" X.env (eval (.Name y p) X.env) = eval (.Name y p) X.env := by rfl) (hfew : 'r' = true := by rfl) (hplain : (backTo q (starEach [] X.env)).any (·.1) = false := by rfl) (hline : (t.endLine == q.line) = true := by rfl) (hs : swapsWithSole [tg] (.Call (.Attribute (.Name y p) "pop" t) [e] [] q) pos.line X.env = pure false := by rfl) (hw : swappedStores [tg] (.Call (.Attribute (.Name y p) "pop" t) [e] [] q) X.env = pure none := by rfl)
  (h1 : (assignEach [tg] X.env).map (·.2) = [assign tg X.env] := by rfl) : DS K W ro X OL O O (.Assign [tg] (.Call (.Attribute (.Name y p) "pop" t) [e] [] q) pos) (CS i pt fk) := fun F0 H0 => by
 subst hK
 exact (D4 (pe_pop hk hN hv hd hcd hst hbase hfew hplain hline) hg hs hw h1).imp fun _ _ _ => rs_popU ho n
end
end L2
namespace L2
open PySem PySem.Spec PyProof.Rows
section
variable {X : Cx} {es : List Expr} {x : Str} {p : Pos}
theorem k7 {N' : List Str} {sc : Scope} {L : Addr} {cs : List (Str × Addr)} {s : Shared} {H : Hp} {fp : List Addr} {i : Nat} {is : List Nat} (hN : N'.Nodup) (h2 : PGs 'd' es (jc is)) (hi : N'[i]? = some x := by rfl) (hx : Loc 'd'.env.scope x := by first | exact Or.inl rfl | exact Or.inr rfl)
  (hf : 'd'.fn x = true \/ 'd'.env.scope.names.lookup x = some .local := by first | exact .inl rfl | exact .inr rfl | assumption)
  (hs : (assignEach (.Name x p :: es) 'd'.env).map (·.2) = assign (.Name x p) 'd'.env :: (assignEach es 'd'.env).map (·.2) := by rfl) : PGs 'd' (.Name x p :: es) (jc (i :: is)) := B9 (pg_c hN hi hx hf) h2 hs
end
end L2
namespace L2
open PySem PySem.Spec PyProof.Rows
open PySem.W in
noncomputable def fW {α : Type} (lt : Nat -> Nat -> Bool) : KasT α -> α
 | .ret a => a
 | .ask i j k => fW lt (k (lt i j))
section
open PySem.W
variable {α β : Type} {lt : Nat -> Nat -> Bool}
theorem jJ (f : α -> KasT β) : ∀ t : KasT α, fW lt (t.bind f) = fW lt (f (fW lt t))
 | .ret _ => rfl
 | .ask i j k => jJ f (k (lt i j))
variable {key : Nat -> Int} {p : Array Nat}
noncomputable def kAt (key : Nat -> Int) (p : Array Nat) (i : Nat) : Int := key (p.getD i 0)
noncomputable def Up (key : Nat -> Int) (p : Array Nat) (k : Nat) : Prop := ∀ i j, i <= j -> j < k -> kAt key p i <= kAt key p j
noncomputable def Down (key : Nat -> Int) (p : Array Nat) (k : Nat) : Prop := ∀ i j, i <= j -> j < k -> kAt key p j <= kAt key p i
theorem m5 {p q : Array Nat} {i j : Nat} (h : p[i]? = q[j]?) : kAt key p i = kAt key q j := by
 unfold kAt
 rw [Array.getD_eq_getD_getElem?, Array.getD_eq_getD_getElem?, h]
theorem sj {i j : Nat} (hj : j <= p.size) (k : Nat) : kAt key (kas_rev p i j) k = if i <= k /\ k < j then kAt key p (i + j - 1 - k) else kAt key p k := by
 have e := getElem?_mirror_all (i := i) hj k
 unfold kas_rev
 split
 ·rename_i h; rw [if_pos h] at e; exact m5 e
 ·rename_i h; rw [if_neg h] at e; exact m5 e
theorem kAt_bub {src d : Nat} (hs : src < p.size) (hd : d <= src) (k : Nat) : kAt key (bubble p src d) k = if k = src - d then kAt key p src else if src - d < k /\ k <= src then kAt key p (k - 1) else kAt key p k := by
 have e := getElem?_bubble hs d hd k
 split
 ·rename_i h; rw [if_pos h] at e; exact m5 e
 ·rename_i h
  rw [if_neg h] at e
  split
  ·rename_i h2; rw [if_pos h2] at e; exact m5 e
  ·rename_i h2; rw [if_neg h2] at e; exact m5 e
theorem kj {i j : Nat} : (kas_rev p i j).size = p.size := mirror_size _ _ _ _
theorem ik {i j : Nat} : (kas_rev p i j).Perm p := mirror_perm _ _ _ _
noncomputable def ltK (key : Nat -> Int) (i j : Nat) : Bool := decide (key i < key j)
theorem EK (p : Array Nat) : ∀ (f n : Nat), 1 <= n -> Up key p n -> n <= fW (ltK key) (kas_asc p f n) /\ fW (ltK key) (kas_asc p f n) <= n + f /\ Up key p (fW (ltK key) (kas_asc p f n)) /\
  (fW (ltK key) (kas_asc p f n) < n + f -> kAt key p (fW (ltK key) (kas_asc p f n)) < kAt key p (fW (ltK key) (kas_asc p f n) - 1))
 | 0, n, h1, h => ⟨Nat.le_refl _, Nat.le_refl _, h, fun z => absurd z (Nat.lt_irrefl _)⟩
 | f + 1, n, h1, h => by
  have e : fW (ltK key) (kas_asc p (f + 1) n) = if kAt key p n < kAt key p (n - 1) then n else fW (ltK key) (kas_asc p f (n + 1)) := by
   show fW (ltK key) (if ltK key (p.getD n 0) (p.getD (n - 1) 0) = true then KasT.ret n else kas_asc p f (n + 1)) = _
   by_cases hc : kAt key p n < kAt key p (n - 1)
   ·rw [if_pos (show ltK key (p.getD n 0) (p.getD (n - 1) 0) = true from decide_eq_true hc), if_pos hc]; rfl
   ·rw [if_neg (show ¬ ltK key (p.getD n 0) (p.getD (n - 1) 0) = true from fun z => hc (of_decide_eq_true z)), if_neg hc]
  rw [e]
  by_cases hc : kAt key p n < kAt key p (n - 1)
  ·rw [if_pos hc]
   exact ⟨Nat.le_refl _, by omega, h, fun _ => hc⟩
  ·rw [if_neg hc]
   obtain ⟨a1, a2, a3, a4⟩ := EK p f (n + 1) (by omega) (fun i j hij hj => by
    by_cases hjn : j < n
    ·exact h i j hij hjn
    ·have : j = n := by omega
     subst this
     by_cases hin : i = j
     ·rw [hin]; exact Int.le_refl _
     ·have := h i (j - 1) (by omega) (by omega)
      omega)
   exact ⟨by omega, by omega, a3, fun z => a4 (by omega)⟩
noncomputable def Alike (key : Nat -> Int) (p : Array Nat) (n q : Nat) : Prop := ∀ i, n - (q + 1) <= i -> i < n -> kAt key p i = kAt key p (n - 1)
theorem EM {n : Nat} : Alike key p (n + 1) 0 := fun i h1 h2 => by rw [show i = n + 1 - 1 by omega]
theorem xJ {n q : Nat} (hn : n <= p.size) (ha : Alike key p n q) (hq : q + 1 <= n) (k : Nat) : kAt key (kas_rev p (n - (q + 1)) n) k = kAt key p k := by
 rw [sj hn]
 split
 ·rename_i h
  rw [ha _ (by omega) (by omega), ha k h.1 h.2]
 ·rfl
theorem wq : ∀ (f : Nat) (p : Array Nat) (n q : Nat), 1 <= n -> q + 1 <= n -> n + f <= p.size -> Down key p n -> Alike key p n q -> ∀ p' n' q', fW (ltK key) (kas_desc f p n q) = (p', n', q') ->
  p'.Perm p /\ p'.size = p.size /\ n <= n' /\ n' <= n + f /\ q' + 1 <= n' /\ Down key p' n' /\ Alike key p' n' q'
 | 0, p, n, q, h1, hq, hz, hd, ha, p', n', q', e => by
  cases e
  exact ⟨Array.Perm.refl _, rfl, Nat.le_refl _, Nat.le_refl _, hq, hd, ha⟩
 | f + 1, p, n, q, h1, hq, hz, hd, ha, p', n', q', e => by
  have e0 : fW (ltK key) (kas_desc (f + 1) p n q) = if kAt key p n < kAt key p (n - 1) then (if q > 0 then fW (ltK key) (kas_desc f (kas_rev p (n - (q + 1)) n) (n + 1) 0) else fW (ltK key) (kas_desc f p (n + 1) 0))
    else if kAt key p (n - 1) < kAt key p n then (p, n, q) else fW (ltK key) (kas_desc f p (n + 1) (q + 1)) := by
   show fW (ltK key) (if ltK key (p.getD n 0) (p.getD (n - 1) 0) = true then (if q > 0 then kas_desc f (kas_rev p (n - (q + 1)) n) (n + 1) 0 else kas_desc f p (n + 1) 0)
    else KasT.ask (p.getD (n - 1) 0) (p.getD n 0) fun d => if d = true then .ret (p, n, q) else kas_desc f p (n + 1) (q + 1)) = _
   by_cases hc : kAt key p n < kAt key p (n - 1)
   ·rw [if_pos (show ltK key (p.getD n 0) (p.getD (n - 1) 0) = true from decide_eq_true hc), if_pos hc]
    by_cases hq0 : q > 0
    ·rw [if_pos hq0, if_pos hq0]
    ·rw [if_neg hq0, if_neg hq0]
   ·rw [if_neg (show ¬ ltK key (p.getD n 0) (p.getD (n - 1) 0) = true from fun z => hc (of_decide_eq_true z)), if_neg hc]
    show fW (ltK key) (if ltK key (p.getD (n - 1) 0) (p.getD n 0) = true then KasT.ret (p, n, q) else kas_desc f p (n + 1) (q + 1)) = _
    by_cases hc2 : kAt key p (n - 1) < kAt key p n
    ·rw [if_pos (show ltK key (p.getD (n - 1) 0) (p.getD n 0) = true from decide_eq_true hc2), if_pos hc2]; rfl
    ·rw [if_neg (show ¬ ltK key (p.getD (n - 1) 0) (p.getD n 0) = true from fun z => hc2 (of_decide_eq_true z)), if_neg hc2]
  rw [e0] at e
  have down1 : ∀ {r : Array Nat}, (∀ k, kAt key r k = kAt key p k) -> kAt key p n <= kAt key p (n - 1) -> Down key r (n + 1) := fun {r} hr hle i j hij hj => by
   rw [hr, hr]
   by_cases hjn : j < n
   ·exact hd i j hij hjn
   ·have : j = n := by omega
    subst this
    by_cases hin : i = j
    ·rw [hin]; exact Int.le_refl _
    ·have := hd i (j - 1) (by omega) (by omega)
     omega
  by_cases hc : kAt key p n < kAt key p (n - 1)
  ·rw [if_pos hc] at e
   by_cases hq0 : q > 0
   ·rw [if_pos hq0] at e
    have hr := xJ (key := key) (p := p) (n := n) (q := q) (by omega) ha hq
    obtain ⟨b1, b2, b3, b4, b5, b6, b7⟩ := wq f _ (n + 1) 0 (by omega) (by omega) (by rw [kj]; omega) (down1 hr (by omega)) EM p' n' q' e
    exact ⟨b1.trans ik, by rw [b2, kj], by omega, by omega, b5, b6, b7⟩
   ·rw [if_neg hq0] at e
    obtain ⟨b1, b2, b3, b4, b5, b6, b7⟩ := wq f _ (n + 1) 0 (by omega) (by omega) (by omega) (down1 (fun _ => rfl) (by omega)) EM p' n' q' e
    exact ⟨b1, b2, by omega, by omega, b5, b6, b7⟩
  ·rw [if_neg hc] at e
   by_cases hc2 : kAt key p (n - 1) < kAt key p n
   ·rw [if_pos hc2] at e
    cases e
    exact ⟨Array.Perm.refl _, rfl, Nat.le_refl _, by omega, hq, hd, ha⟩
   ·rw [if_neg hc2] at e
    obtain ⟨b1, b2, b3, b4, b5, b6, b7⟩ := wq f _ (n + 1) (q + 1) (by omega) (by omega) (by omega) (down1 (fun _ => rfl) (by omega)) (fun i h1 h2 => by
     show kAt key p i = kAt key p (n + 1 - 1)
     rw [Nat.add_sub_cancel]
     by_cases hin : i = n
     ·rw [hin]
     ·have := ha i (by omega) (by omega)
      omega) p' n' q' e
    exact ⟨b1, b2, by omega, by omega, b5, b6, b7⟩
theorem B2 {n nrem : Nat} (h1 : 1 <= n) (hn : n <= nrem) (hz : nrem <= p.size) (hd : Down key p n) : ∀ m p', fW (ltK key) (kas_tail3 n nrem p) = (m, p') -> p'.Perm p /\ p'.size = p.size /\ 1 <= m /\ m <= nrem /\ Up key p' m := by
 intro m p' e
 unfold kas_tail3 at e
 rw [jJ] at e
 cases e
 have hu : Up key (kas_rev p 0 n) n := fun i j hij hj => by
  rw [sj (by omega), sj (by omega), if_pos ⟨Nat.zero_le _, by omega⟩, if_pos ⟨Nat.zero_le _, by omega⟩]
  exact hd _ _ (by omega) (by omega)
 obtain ⟨a1, a2, a3, _⟩ := EK (key := key) (kas_rev p 0 n) (nrem - n) n h1 hu
 exact ⟨ik, kj, by omega, by omega, a3⟩
theorem sv {n nrem : Nat} (h1 : 1 <= n) (hn : n + 1 <= nrem) (hz : nrem <= p.size) (hall : ∀ i, i < n -> kAt key p i = kAt key p (n - 1)) (hlt : kAt key p n < kAt key p (n - 1)) : ∀ m p', fW (ltK key) (kas_descPart n nrem p) = (m, p') -> p'.Perm p /\ p'.size = p.size /\ 1 <= m /\ m <= nrem /\ Up key p' m := by
 intro m p' e
 unfold kas_descPart at e
 rw [jJ] at e
 obtain ⟨r, n2, q2⟩ : ∃ r n2 q2, fW (ltK key) (kas_desc (nrem - (n + 1)) p (n + 1) 0) = (r, n2, q2) := ⟨_, _, _, rfl⟩
 obtain ⟨q2, er⟩ := q2
 rw [er] at e
 obtain ⟨b1, b2, b3, b4, b5, b6, b7⟩ := wq (key := key) (nrem - (n + 1)) p (n + 1) 0 (by omega) (by omega) (by omega) (fun i j hij hj => by
  by_cases hjn : j < n
  ·rw [hall i (by omega), hall j hjn]; exact Int.le_refl _
  ·have : j = n := by omega
   subst this
   by_cases hin : i = j
   ·rw [hin]; exact Int.le_refl _
   ·rw [hall i (by omega)]; omega) EM r n2 q2 er
 by_cases hq : q2 > 0
 ·simp only [if_pos hq] at e
  have hr := xJ (key := key) (p := r) (n := n2) (q := q2) (by omega) b7 b5
  obtain ⟨c1, c2, c3, c4, c5⟩ := B2 (key := key) (p := kas_rev r (n2 - (q2 + 1)) n2) (n := n2) (nrem := nrem) (by omega) (by omega) (by rw [kj]; omega) (fun i j hij hj => by rw [hr, hr]; exact b6 i j hij hj) m p' e
  exact ⟨c1.trans (ik.trans b1), by rw [c2, kj, b2], c3, c4, c5⟩
 ·simp only [if_neg hq] at e
  obtain ⟨c1, c2, c3, c4, c5⟩ := B2 (key := key) (p := r) (n := n2) (nrem := nrem) (by omega) (by omega) (by omega) b6 m p' e
  exact ⟨c1.trans b1, by rw [c2, b2], c3, c4, c5⟩
theorem count_ok {nrem : Nat} (h1 : 1 <= nrem) (hz : nrem <= p.size) : ∀ m p', fW (ltK key) (kas_count nrem p) = (m, p') -> p'.Perm p /\ p'.size = p.size /\ 1 <= m /\ m <= nrem /\ Up key p' m := by
 intro m p' e
 unfold kas_count at e
 rw [jJ] at e
 obtain ⟨a1, a2, a3, a4⟩ := EK (key := key) p (nrem - 1) 1 'n' (fun i j hij hj => by rw [show i = j by omega]; exact Int.le_refl _)
 obtain ⟨n, en⟩ : ∃ n, fW (ltK key) (kas_asc p (nrem - 1) 1) = n := ⟨_, rfl⟩
 rw [en] at e a1 a2 a3 a4
 by_cases hn : (n == nrem) = true
 ·simp only [if_pos hn] at e
  cases e
  exact ⟨Array.Perm.refl _, rfl, a1, by omega, a3⟩
 ·simp only [if_neg hn] at e
  have hn' : n ≠ nrem := fun z => hn (by simp [z])
  have hlt := a4 (by omega)
  by_cases h2 : n > 1
  ·simp only [if_pos h2] at e
   have e' : fW (ltK key) (if ltK key (p.getD 0 0) (p.getD (n - 1) 0) = true then KasT.ret (n, p) else kas_descPart n nrem (kas_rev p 0 n)) = (m, p') := e
   by_cases hc : kAt key p 0 < kAt key p (n - 1)
   ·rw [if_pos (show ltK key (p.getD 0 0) (p.getD (n - 1) 0) = true from decide_eq_true hc)] at e'
    cases e'
    exact ⟨Array.Perm.refl _, rfl, a1, by omega, a3⟩
   ·rw [if_neg (show ¬ ltK key (p.getD 0 0) (p.getD (n - 1) 0) = true from fun z => hc (of_decide_eq_true z))] at e'
    have all : ∀ i, i < n -> kAt key p i = kAt key p (n - 1) := fun i hi => by
     have x1 := a3 0 i (by omega) hi
     have x2 := a3 i (n - 1) (by omega) (by omega)
     omega
    have hr : ∀ i, i < n -> kAt key (kas_rev p 0 n) i = kAt key p (n - 1) := fun i hi => by
     rw [sj (by omega), if_pos ⟨Nat.zero_le _, hi⟩]
     exact all _ (by omega)
    obtain ⟨c1, c2, c3, c4, c5⟩ := sv (key := key) (p := kas_rev p 0 n) (n := n) (nrem := nrem) a1 (by omega) (by rw [kj]; omega) (fun i hi => by rw [hr i hi, hr (n - 1) (by omega)]) (by
     rw [hr (n - 1) (by omega), sj (by omega), if_neg (by omega)]
     exact hlt) m p' e'
    exact ⟨c1.trans ik, by rw [c2, kj], c3, c4, c5⟩
  ·simp only [if_neg h2] at e
   have : n = 1 := by omega
   subst this
   exact sv (key := key) 'n' (by omega) hz (fun i hi => by rw [show i = 1 - 1 by omega]) hlt m p' e
theorem vi {k : Nat} (hu : Up key p k) : ∀ (f l r : Nat), r <= k -> r - l <= f -> l <= r -> (∀ i, i < l -> kAt key p i <= kAt key p k) -> (∀ i, r <= i -> i < k -> kAt key p k < kAt key p i) ->
  fW (ltK key) (kas_place p k f l r) <= k /\ (∀ i, i < fW (ltK key) (kas_place p k f l r) -> kAt key p i <= kAt key p k) /\ ∀ i, fW (ltK key) (kas_place p k f l r) <= i -> i < k -> kAt key p k < kAt key p i
 | 0, l, r, hr, hf, hlr, h1, h2 => by
  have : l = r := by omega
  subst this
  exact ⟨hr, h1, h2⟩
 | f + 1, l, r, hr, hf, hlr, h1, h2 => by
  by_cases hge : l >= r
  ·have : l = r := by omega
   subst this
   have e : fW (ltK key) (kas_place p k (f + 1) l l) = l := by
    show fW (ltK key) (if l >= l then KasT.ret l else _) = l
    rw [if_pos hge]; rfl
   rw [e]
   exact ⟨hr, h1, h2⟩
  ·have e : fW (ltK key) (kas_place p k (f + 1) l r) = if kAt key p k < kAt key p ((l + r) / 2) then fW (ltK key) (kas_place p k f l ((l + r) / 2)) else fW (ltK key) (kas_place p k f ((l + r) / 2 + 1) r) := by
    show fW (ltK key) (if l >= r then KasT.ret l else .ask (p.getD k 0) (p.getD ((l + r) / 2) 0) fun c => if c = true then kas_place p k f l ((l + r) / 2) else kas_place p k f ((l + r) / 2 + 1) r) = _
    rw [if_neg hge]
    show fW (ltK key) (if ltK key (p.getD k 0) (p.getD ((l + r) / 2) 0) = true then kas_place p k f l ((l + r) / 2) else kas_place p k f ((l + r) / 2 + 1) r) = _
    by_cases hc : kAt key p k < kAt key p ((l + r) / 2)
    ·rw [if_pos (show ltK key (p.getD k 0) (p.getD ((l + r) / 2) 0) = true from decide_eq_true hc), if_pos hc]
    ·rw [if_neg (show ¬ ltK key (p.getD k 0) (p.getD ((l + r) / 2) 0) = true from fun z => hc (of_decide_eq_true z)), if_neg hc]
   rw [e]
   by_cases hc : kAt key p k < kAt key p ((l + r) / 2)
   ·rw [if_pos hc]
    exact vi hu f l ((l + r) / 2) (by omega) (by omega) (by omega) h1 fun i hi hik => by
     have := hu ((l + r) / 2) i hi hik
     omega
   ·rw [if_neg hc]
    exact vi hu f ((l + r) / 2 + 1) r hr (by omega) (by omega) (fun i hi => by
     have := hu i ((l + r) / 2) (by omega) (by omega)
     omega) h2
theorem bin_ok : ∀ (f : Nat) (p : Array Nat) (k : Nat), k + f <= p.size -> Up key p k -> (fW (ltK key) (kas_bin f p k)).Perm p /\ Up key (fW (ltK key) (kas_bin f p k)) (k + f)
 | 0, p, k, hz, hu => ⟨Array.Perm.refl _, hu⟩
 | f + 1, p, k, hz, hu => by
  have e : fW (ltK key) (kas_bin (f + 1) p k) = fW (ltK key) (kas_bin f (bubble p k (k - fW (ltK key) (kas_place p k k 0 k))) (k + 1)) := by
   show fW (ltK key) ((kas_place p k k 0 k).bind fun l => kas_bin f (bubble p k (k - l)) (k + 1)) = _
   rw [jJ]
  rw [e]
  obtain ⟨a1, a2, a3⟩ := vi hu k 0 k 'n' (by omega) (Nat.zero_le _) (fun i hi => absurd hi (Nat.not_lt_zero _)) (fun i h1 h2 => by omega)
  obtain ⟨l, el⟩ : ∃ l, fW (ltK key) (kas_place p k k 0 k) = l := ⟨_, rfl⟩
  rw [el] at a1 a2 a3 ⊢
  have hb := kAt_bub (key := key) (p := p) (src := k) (d := k - l) (by omega) (by omega)
  obtain ⟨c1, c2⟩ := bin_ok f (bubble p k (k - l)) (k + 1) (by rw [bubble_size]; omega) (fun i j hij hj => by
   have e1 : k - (k - l) = l := by omega
   rw [hb, hb, e1]
   by_cases hi : i = l
   ·rw [if_pos hi]
    by_cases hj2 : j = l
    ·rw [if_pos hj2]; exact Int.le_refl _
    ·rw [if_neg hj2, if_pos (by omega)]
     have := a3 (j - 1) (by omega) (by omega)
     omega
   ·rw [if_neg hi]
    by_cases hj2 : j = l
    ·rw [if_pos hj2, if_neg (by omega)]
     exact a2 i (by omega)
    ·rw [if_neg hj2]
     by_cases hi2 : l < i /\ i <= k
     ·rw [if_pos hi2, if_pos (by omega)]
      exact hu _ _ (by omega) (by omega)
     ·rw [if_neg hi2]
      by_cases hj3 : l < j /\ j <= k
      ·rw [if_pos hj3]
       exact hu _ _ (by omega) (by omega)
      ·rw [if_neg hj3]
       exact hu _ _ (by omega) (by omega))
  exact ⟨c1.trans (bubble_perm _ _ _), by rw [show k + (f + 1) = k + 1 + f by omega]; exact c2⟩
theorem zK {n : Nat} (h1 : 1 <= n) : (fW (ltK key) (kas_sort n)).toList.Perm (List.range n) /\ Up key (fW (ltK key) (kas_sort n)) n := by
 unfold kas_sort
 rw [jJ]
 obtain ⟨m, p', er⟩ : ∃ m p', fW (ltK key) (kas_count n (List.toArray (List.range n))) = (m, p') := ⟨_, _, rfl⟩
 rw [er]
 obtain ⟨b1, b2, b3, b4, b5⟩ := count_ok (key := key) (p := List.toArray (List.range n)) h1 (by simp) m p' er
 have hsz : p'.size = n := by rw [b2]; simp
 by_cases hm : m < n
 ·simp only [if_pos hm]
  have em : max m 1 = m := by omega
  rw [em]
  obtain ⟨c1, c2⟩ := bin_ok (key := key) (n - m) p' m (by omega) b5
  refine ⟨?_, by rw [show m + (n - m) = n by omega] at c2; exact c2⟩
  have := Array.perm_iff_toList_perm.mp (c1.trans b1)
  simpa using this
 ·simp only [if_neg hm]
  have : m = n := by omega
  subst this
  refine ⟨?_, b5⟩
  have := Array.perm_iff_toList_perm.mp b1
  show p'.toList.Perm _
  simpa using this
end
end L2
namespace L2
open PySem PySem.Spec PyProof.Rows
section
open PySem.W
variable {α β : Type} {n : Nat}
noncomputable def BB (n : Nat) (R : α -> Prop) : KasT α -> Prop
 | .ret a => R a
 | .ask i j k => i < n /\ j < n /\ ∀ b, BB n R (k b)
theorem kb {R : α -> Prop} {S : β -> Prop} {f : α -> KasT β} (hf : ∀ a, R a -> BB n S (f a)) : ∀ t : KasT α, BB n R t -> BB n S (t.bind f)
 | .ret a, h => hf a h
 | .ask i j k, h => ⟨h.1, h.2.1, fun b => kb hf (k b) (h.2.2 b)⟩
theorem ui {lt : Nat -> Nat -> Bool} {R : α -> Prop} {cmp : Nat -> Nat -> (Bool -> Shared -> Prop) -> Shared -> Prop} {s : Shared} (ha : ∀ i j (C : Bool -> Shared -> Prop), i < n -> j < n -> C (lt i j) s -> cmp i j C s) {Q : α -> Shared -> Prop} : ∀ t : KasT α, BB n R t -> Q (fW lt t) s -> t.kasWp cmp Q s
 | .ret _, _, h => h
 | .ask i j k, r, h => ha i j _ r.1 r.2.1 (ui ha (k (lt i j)) (r.2.2 _) h)
noncomputable def InB (n : Nat) (p : Array Nat) : Prop := ∀ x, p.getD x 0 < n
theorem n0 {p q : Array Nat} (h0 : 0 < n) (hp : InB n p) (h : q.Perm p) : InB n q := fun x => by
 rw [Array.getD_eq_getD_getElem?]
 cases e : q[x]? with
 | none => exact h0
 | some v =>
  have hv : v ∈ q.toList := by
   rw [<- Array.getElem?_toList] at e
   exact List.mem_of_getElem? e
  have hv2 : v ∈ p.toList := (Array.perm_iff_toList_perm.mp h).mem_iff.mp hv
  obtain ⟨y, hy, ey⟩ := List.getElem_of_mem hv2
  have := hp y
  rw [Array.getD_eq_getD_getElem?, <- Array.getElem?_toList, List.getElem?_eq_getElem hy, ey] at this
  exact this
variable {p : Array Nat}
theorem wO (hp : InB n p) : ∀ f m, BB n (fun _ => True) (kas_asc p f m)
 | 0, _ => trivial
 | f + 1, m => ⟨hp _, hp _, fun b => by
  (try dsimp only)
  split
  ·trivial
  ·exact wO hp f (m + 1)⟩
theorem pe (h0 : 0 < n) : ∀ (f : Nat) (p : Array Nat) (m q : Nat), InB n p -> BB n (fun r => InB n r.1) (kas_desc f p m q)
 | 0, p, _, _, hp => hp
 | f + 1, p, m, q, hp => ⟨hp _, hp _, fun b => by
  (try dsimp only)
  split
  ·split
   ·exact pe h0 f _ _ _ (n0 h0 hp ik)
   ·exact pe h0 f _ _ _ hp
  ·refine ⟨hp _, hp _, fun c => ?_⟩
   (try dsimp only)
   split
   ·exact hp
   ·exact pe h0 f _ _ _ hp⟩
theorem uH (h0 : 0 < n) (hp : InB n p) (m r : Nat) : BB n (fun r => InB n r.2) (kas_tail3 m r p) := by
 unfold kas_tail3
 refine kb (n := n) (R := fun _ => True) (f := fun k => KasT.ret (k, kas_rev p 0 m)) (fun a _ => ?_) _ (wO (n0 h0 hp ik) _ _)
 exact n0 h0 hp ik
theorem pb (h0 : 0 < n) (hp : InB n p) (m r : Nat) : BB n (fun r => InB n r.2) (kas_descPart m r p) := by
 refine kb (R := fun r => InB n r.1) (fun a ha => ?_) _ (pe h0 _ _ _ _ hp)
 (try dsimp only)
 split
 ·exact uH h0 (n0 h0 ha ik) _ _
 ·exact uH h0 ha _ _
theorem Cn (h0 : 0 < n) (hp : InB n p) (r : Nat) : BB n (fun r => InB n r.2) (kas_count r p) := by
 refine kb (R := fun _ => True) (fun a _ => ?_) _ (wO hp _ _)
 (try dsimp only)
 split
 ·exact hp
 ·split
  ·refine ⟨hp _, hp _, fun b => ?_⟩
   (try dsimp only)
   split
   ·exact hp
   ·exact pb h0 (n0 h0 hp ik) _ _
  ·exact pb h0 hp _ _
theorem qf (hp : InB n p) (k : Nat) : ∀ f l r, BB n (fun _ => True) (kas_place p k f l r)
 | 0, _, _ => trivial
 | f + 1, l, r => by
  show BB n (fun _ => True) (if l >= r then KasT.ret l else _)
  split
  ·trivial
  ·refine ⟨hp _, hp _, fun b => ?_⟩
   (try dsimp only)
   split
   ·exact qf hp k f _ _
   ·exact qf hp k f _ _
theorem By (h0 : 0 < n) : ∀ (f : Nat) (p : Array Nat) (k : Nat), InB n p -> BB n (fun _ => True) (kas_bin f p k)
 | 0, _, _, _ => trivial
 | f + 1, p, k, hp => kb (R := fun _ => True) (fun l _ => By h0 f _ _ (n0 h0 hp (bubble_perm _ _ _))) _ (qf hp k _ _ _)
theorem EJ (h0 : 0 < n) : BB n (fun _ => True) (kas_sort n) := by
 refine kb (R := fun r => InB n r.2) (fun a ha => ?_) _ (Cn h0 (fun x => ?_) _)
 ·(try dsimp only)
  split
  ·exact By h0 _ _ _ ha
  ·trivial
 ·rw [Array.getD_eq_getD_getElem?]
  simp only [List.getElem?_toArray]
  cases e : (List.range n)[x]? with
  | none => exact h0
  | some v => exact List.mem_range.mp (List.mem_of_getElem? e)
end
section
open PySem.W
variable {prog : Program} {w : World} {A : Around} {E : Value -> Shared -> Prop} {s : Shared} {key : Nat -> Int}
noncomputable def pF (key : Nat -> Int) (vs : List Value) : List Value := if vs.length < 2 then vs else (fW (ltK key) (kas_sort vs.length)).toList.map fun i => vs.getD i Value.none
noncomputable def Asks (prog : Program) (w : World) (A : Around) (key : Nat -> Int) (vs : List Value) (s' : Shared) : Prop :=
 wpAny 'i' A (keyKind' vs.toArray) (fun κ s2 => s2 = s' /\ ∀ i j (C : Bool -> Shared -> Prop), i < vs.length -> j < vs.length -> C (ltK key i j) s' -> kas_ask prog w A κ vs i j C s') (fun _ _ => False) s'
theorem DB {a : Addr} {vs : List Value} {n : Nat} {P : PySem.Fin -> Shared -> Prop} (ho : s.heap.get? a = some (seqObj "list" vs.toArray n)) (h64 : vs.length < 64)
  (hk : 2 <= vs.length -> ∀ h1 : Heap, (∀ b o, b ≠ a -> s.heap.get? b = some o -> h1.get? b = some o) -> Asks prog w A key vs { s with heap := h1 })
  (h : ∀ (h' : Heap) (c : Nat), (∀ b o, b ≠ a -> s.heap.get? b = some o -> h'.get? b = some o) -> h'.get? a = some (seqObj "list" (pF key vs).toArray c) -> P (.done (.ret .none)) { s with heap := h' }) :
  wpAny 'i' A (Builtin.«list.sort» ⟨[.ref a], []⟩) P E s := by
 have hlt : a < s.heap.objs.size := Heap.lt_size ho
 have hline := sizeLine_eq
 obtain ⟨e1, ho1⟩ : ∃ e1, (s.heap.update a (Obj.mapSeq fun _ => (#[] : Array Value))).get? a = some (seqObj "list" #[] e1) := ⟨_, get?_update_seq ho fun _ => #[]⟩
 rw [list_sort_plain]
 refine wpAny_bind (listItems_at ho rfl (wpAny_bind (listUpdate_at ho rfl (wpAny_bind (seqEpoch_at ho1 rfl (wpAny_bind (wpAny_newTuple (wpAny_bind (wpAny_newList (wpAny_holding ?_) (Nat.zero_le _))) (by show vs.length <= _; omega))))) (by rw [List.size_toArray]; omega) (Nat.zero_le _))))
 have hkeep : ∀ b o, b ≠ a -> s.heap.get? b = some o -> ('l'.push (seqObj "list" #[] 0)).get? b = some o := fun b o hb q =>
  Heap.get?_push_of_some _ (Heap.get?_push_of_some _ ((Heap.get?_update_other _ _ (Ne.symm hb)).trans q))
 have ho6 : ('l'.push (seqObj "list" #[] 0)).get? a = some (seqObj "list" #[] e1) := Heap.get?_push_of_some _ (Heap.get?_push_of_some _ ho1)
 show wpAny 'i' A _ P E { s with heap := 'l'.push (seqObj "list" #[] 0) }
 dsimp only
 have fin : ∀ (out : List Value), out = pF key vs -> P (.done (.ret .none)) { s with heap := ('l'.push (seqObj "list" #[] 0)).update a (Obj.mapSeq fun _ => out.toArray) } := fun out eo => by
  subst eo
  exact h _ _ (fun b o hb q => (Heap.get?_update_other _ _ (Ne.symm hb)).trans (hkeep b o hb q)) (get?_update_seq ho6 fun _ => (pF key vs).toArray)
 by_cases h2 : vs.toArray.size < 2
 ·rw [if_pos h2, if_pos h2]
  refine wpAny_bind (wpAny_pure ?_)
  rw [StateT.run_pure]
  refine wpAny_bind (wpAny_pure ?_)
  dsimp only
  have h2' : vs.length < 2 := by simpa using h2
  have eo : (arrOf (SortSt.mk' general' (vs.toArray.zip vs.toArray) #[] 7 none)).map (·.2) = vs.toArray := by
   show (vs.toArray.zip vs.toArray).map (·.2) = vs.toArray
   apply Array.toList_inj.mp
   simp only [Array.toList_map, Array.toList_zip]
   exact List.map_snd_zip 'n'
  rw [eo]
  refine wpAny_bind (seqEpoch_at ho6 rfl (wpAny_bind (listUpdate_at ho6 rfl ?_ (Nat.zero_le _) (by show vs.length <= _; omega))))
  have e3 : failedOf (SortSt.mk' general' (vs.toArray.zip vs.toArray) #[] 7 none) = none := rfl
  simp only [e3, bne_self_eq_false, Bool.false_eq_true, if_false]
  exact wpAny_pure (fin vs (by unfold pF; rw [if_pos h2']))
 ·rw [if_neg h2, if_neg h2]
  have h2' : 2 <= vs.length := by rw [List.size_toArray] at h2; omega
  refine wpAny_bind (wpAny_mono (hk h2' _ hkeep) (fun κ s0 ⟨es, ask⟩ => ?_) fun _ _ x => x.elim)
  subst es
  refine wpAny_bind (wpAny_mono (kat_run (ks := vs) (vs := vs) (Q := fun st' s' => s' = { s with heap := 'l'.push (seqObj "list" #[] 0) } /\ (arrOf st').map (·.2) = (pF key vs).toArray /\ failedOf st' = none)
   (G := fun p s' => s' = { s with heap := 'l'.push (seqObj "list" #[] 0) } /\ p = fW (ltK key) (kas_sort vs.length)) rfl h2' h64 (fun p st' s' _ har hf hg => ⟨hg.1, ?_, hf⟩) (ui (n := vs.length) (R := fun _ => True) (fun i j C hi hj hc => ask i j C hi hj hc) _ (EJ (by omega)) ⟨rfl, rfl⟩)) (fun r s' hr => ?_) fun _ _ x => x)
  ·rw [kat_snds rfl har, hg.2]
   unfold pF
   rw [if_neg (by omega)]
  ·obtain ⟨⟨⟩, st'⟩ := r
   obtain ⟨es, eo, ef⟩ := hr
   have es : s' = _ := es
   subst es
   have eo : (arrOf st').map (·.2) = (pF key vs).toArray := eo
   have ef : failedOf st' = none := ef
   dsimp only
   rw [eo]
   have hol : (pF key vs).length = vs.length := by
    unfold pF
    split
    ·rfl
    ·rw [List.length_map, (zK (key := key) (n := vs.length) (by omega)).1.length_eq, List.length_range]
   refine wpAny_bind (seqEpoch_at ho6 rfl (wpAny_bind (listUpdate_at ho6 rfl ?_ (Nat.zero_le _) (by show (pF key vs).length <= _; omega))))
   simp only [ef, bne_self_eq_false, Bool.false_eq_true, if_false]
   exact wpAny_pure (fin _ rfl)
theorem BH {l : Addr} {vs : List Value} {Q : Value -> Shared -> Prop} (hl : s.heap.IsList l vs.toArray) (h64 : vs.length < 64)
  (hk : 2 <= vs.length -> ∀ h1 : Heap, (∀ b o, s.heap.get? b = some o -> h1.get? b = some o) -> Asks prog w A.in1.in1 key vs { s with heap := h1 })
  (h : ∀ (h' : Heap) (D : Addr) (c : Nat), s.heap.objs.size <= D -> (∀ b o, s.heap.get? b = some o -> h'.get? b = some o) -> h'.get? D = some (seqObj "list" (pF key vs).toArray c) -> Q (.ref D) { s with heap := h' }) :
  wpAny 'i' A (call (.builtin "sorted") [.ref l]) Q E s := by
 have hline := sizeLine_eq
 refine Calls.call_function_entry kind_sorted plain_sorted entry_sorted (args_sorted1 _) ?_
 unfold Builtin.«sorted»
 refine wpAny_bind (m := checkCount "sorted" 1 1 _) (wpAny_pure (wpAny_bind (collect_list hl (wpAny_bind (wpAny_newList ?_ (by omega))) (by omega))))
 have hz : ((s.heap.push (seqObj "list" #[] 0)).update s.heap.objs.size (Obj.mapSeq (· ++ vs.toArray))).objs.size = s.heap.objs.size + 1 := by rw [Heap.size_update, size_push']
 have hD : (((s.heap.push (seqObj "list" #[] 0)).update s.heap.objs.size (Obj.mapSeq (· ++ vs.toArray))).push (seqObj "list" vs.toArray 0)).get? 'w' = some (seqObj "list" vs.toArray 0) := by rw [<- hz]; exact Heap.get?_push_size _ rfl
 have hkeep : ∀ b o, s.heap.get? b = some o -> (((s.heap.push (seqObj "list" #[] 0)).update s.heap.objs.size (Obj.mapSeq (· ++ vs.toArray))).push (seqObj "list" vs.toArray 0)).get? b = some o := fun b o q =>
  Heap.get?_push_of_some _ ((Heap.get?_update_other _ _ (Nat.ne_of_gt (Heap.lt_size q))).trans (Heap.get?_push_of_some _ q))
 show wpAny _ _ _ _ _ { s with heap := ((s.heap.push (seqObj "list" #[] 0)).update s.heap.objs.size (Obj.mapSeq (· ++ vs.toArray))).push (seqObj "list" vs.toArray 0) }
 rw [hz]
 have hnD : ∀ b o, s.heap.get? b = some o -> b ≠ s.heap.objs.size + 1 := fun b o q => Nat.ne_of_lt (Nat.lt_succ_of_lt (Heap.lt_size q))
 refine wpAny_bind (wpAny_holding (wpAny_call_entry slot_list_sort ⟨_, hD, rfl⟩ entry_list_sort (DB hD h64 (fun h2 h1 hk1 => hk h2 h1 fun b o q => hk1 b o (hnD b o q) (hkeep b o q)) fun h' c k' e' => ⟨_, rfl, ?_⟩) (args_list_sort _)))
 exact wpAny_pure ⟨_, rfl, h h' _ c (Nat.le_succ _) (fun b o q => k' b o (hnD b o q) (hkeep b o q)) e'⟩
end
end L2
namespace L2
open PySem PySem.Spec PyProof.Rows
noncomputable def insL {α : Type} (lt : α -> α -> Bool) (x : α) : List α -> List α
 | [] => [x]
 | y :: ys => if lt y x = true then y :: insL lt x ys else x :: y :: ys
noncomputable def oP {α : Type} (lt : α -> α -> Bool) : List α -> List α
 | [] => []
 | x :: xs => insL lt x (oP lt xs)
noncomputable def ltZ (a b : Int) : Bool := decide (a < b)
noncomputable def rY : List Int -> List Int -> Bool
 | [], [] => false
 | [], _ :: _ => true
 | _ :: _, [] => false
 | a :: as, b :: bs => if a = b then rY as bs else decide (a < b)
noncomputable def tupZ (t : List Int) : Dat := .tup (t.map .int)
noncomputable def tupD : Dat -> M (List Int)
 | .tup ds => dG ds
 | _ => stk
noncomputable def n6 : List Dat -> M (List (List Int))
 | [] => .ok []
 | d :: ds => (tupD d).bind fun t => (n6 ds).bind fun r => .ok (t :: r)
noncomputable def xv (ds : List Dat) : M Dat := if ds.length < 64 then (match dG ds with
 | .ok is => .ok (.lst ((oP ltZ is).map .int))
 | .error _ => (n6 ds).bind fun ts => if (ts.all fun t => !t.isEmpty) = true then .ok (.lst ((oP rY ts).map tupZ)) else stk) else stk
noncomputable def nt : List Dat -> M Dat
 | [.lst ds] => xv ds
 | _ => stk
section
variable {α : Type} {lt : α -> α -> Bool}
structure Ord (lt : α -> α -> Bool) : Prop where
 irr : ∀ a, lt a a = false
 tr : ∀ a b c, lt a b = true -> lt b c = true -> lt a c = true
 tot : ∀ a b, lt a b = false -> lt b a = false -> a = b
theorem ordZ : Ord ltZ := ⟨fun a => by simp [ltZ], fun a b c h1 h2 => by simp [ltZ] at *; omega, fun a b h1 h2 => by simp [ltZ] at *; omega⟩
theorem Dj : Ord rY := by
 refine ⟨fun a => ?_, fun a b c => ?_, fun a b => ?_⟩
 ·induction a with
  | nil => rfl
  | cons x xs ih => simp [rY, ih]
 ·induction a generalizing b c with
  | nil =>
   cases b with
   | nil => intro h; simp [rY] at h
   | cons y ys =>
    intro _ h2
    cases c with
    | nil => simp [rY] at h2
    | cons z zs => rfl
  | cons x xs ih =>
   intro h1 h2
   cases b with
   | nil => simp [rY] at h1
   | cons y ys =>
    cases c with
    | nil => simp [rY] at h2
    | cons z zs =>
     simp only [rY] at h1 h2 ⊢
     by_cases e1 : x = y
     ·subst e1
      rw [if_pos rfl] at h1
      by_cases e2 : x = z
      ·rw [if_pos e2] at h2 ⊢; exact ih _ _ h1 h2
      ·rw [if_neg e2] at h2 ⊢; exact h2
     ·rw [if_neg e1] at h1
      have h1' : x < y := of_decide_eq_true h1
      by_cases e2 : y = z
      ·subst e2
       rw [if_neg e1]; exact h1
      ·rw [if_neg e2] at h2
       have h2' : y < z := of_decide_eq_true h2
       rw [if_neg (by omega)]
       exact decide_eq_true (by omega)
 ·induction a generalizing b with
  | nil =>
   cases b with
   | nil => intros; rfl
   | cons y ys => intro h; simp [rY] at h
  | cons x xs ih =>
   cases b with
   | nil => intro _ h; simp [rY] at h
   | cons y ys =>
    intro h1 h2
    simp only [rY] at h1 h2
    by_cases e1 : x = y
    ·subst e1
     rw [if_pos rfl] at h1 h2
     rw [ih _ h1 h2]
    ·rw [if_neg e1] at h1
     rw [if_neg (fun z => e1 z.symm)] at h2
     have h1' := of_decide_eq_false h1
     have h2' := of_decide_eq_false h2
     omega
theorem so (x : α) : ∀ l : List α, (insL lt x l).Perm (x :: l)
 | [] => List.Perm.refl _
 | y :: ys => by
  rw [insL]
  split
  ·exact ((so x ys).cons y).trans (List.Perm.swap x y ys)
  ·exact List.Perm.refl _
theorem pQ : ∀ l : List α, (oP lt l).Perm l
 | [] => List.Perm.refl _
 | x :: xs => (so x _).trans ((pQ xs).cons x)
theorem Ord.le_trans (o : Ord lt) {a b c : α} (h1 : lt b a = false) (h2 : lt c b = false) : lt c a = false := by
 cases h : lt c a with
 | false => rfl
 | true =>
  cases h3 : lt b c with
  | true => rw [o.tr b c a h3 h] at h1; cases h1
  | false =>
   have := o.tot c b h2 h3
   subst this
   rw [h] at h1; cases h1
theorem Ord.asym (o : Ord lt) {a b : α} (h : lt a b = true) : lt b a = false := by
 cases h2 : lt b a with
 | false => rfl
 | true => have := o.tr a b a h h2; rw [o.irr] at this; cases this
theorem sm (o : Ord lt) (x : α) : ∀ l : List α, l.Pairwise (fun a b => lt b a = false) -> (insL lt x l).Pairwise (fun a b => lt b a = false)
 | [], _ => by simp [insL]
 | y :: ys, h => by
  rw [insL]
  rw [List.pairwise_cons] at h
  split
  ·rename_i hc
   rw [List.pairwise_cons]
   refine ⟨fun b hb => ?_, sm o x ys h.2⟩
   rcases List.mem_cons.mp ((so x ys).mem_iff.mp hb) with e | e
   ·rw [e]; exact o.asym hc
   ·exact h.1 b e
  ·rename_i hc
   have hc' : lt y x = false := by simpa using hc
   rw [List.pairwise_cons, List.pairwise_cons]
   refine ⟨fun b hb => ?_, h⟩
   rcases List.mem_cons.mp hb with e | e
   ·rw [e]; exact hc'
   ·exact o.le_trans hc' (h.1 b e)
theorem m6 (o : Ord lt) : ∀ l : List α, (oP lt l).Pairwise (fun a b => lt b a = false)
 | [] => List.Pairwise.nil
 | x :: xs => sm o x _ (m6 o xs)
theorem rJ (o : Ord lt) : ∀ {l m : List α}, l.Perm m -> l.Pairwise (fun a b => lt b a = false) -> m.Pairwise (fun a b => lt b a = false) -> l = m
 | [], m, h, _, _ => (List.Perm.nil_eq h)
 | a :: l, m, h, h1, h2 => by
  cases m with
  | nil => exact absurd h.symm (by simp)
  | cons b m =>
   rw [List.pairwise_cons] at h1 h2
   have e : a = b := by
    rcases List.mem_cons.mp (h.mem_iff.mp List.mem_cons_self) with e | e
    ·exact e
    ·rcases List.mem_cons.mp (h.mem_iff.mpr List.mem_cons_self) with e2 | e2
     ·exact e2.symm
     ·exact o.tot a b (h2.1 a e) (h1.1 b e2)
   subst e
   rw [rJ o (List.Perm.cons_inv h) h1.2 h2.2]
end
section
open PySem.W
variable {α : Type} {lt : α -> α -> Bool}
theorem getD_get {l : List α} {i : Nat} {d : α} (h : i < l.length) : l.getD i d = l[i] := by simp [h]
noncomputable def rk (lt : α -> α -> Bool) (zs : List α) (d : α) (i : Nat) : Int := ((zs.filter fun z => lt z (zs.getD i d)).length : Int)
theorem filter_lt {p q : α -> Bool} (h : ∀ z, p z = true -> q z = true) : ∀ l : List α, (l.filter p).length <= (l.filter q).length /\ ((∃ z ∈ l, p z = false /\ q z = true) -> (l.filter p).length < (l.filter q).length)
 | [] => ⟨Nat.le_refl _, fun ⟨_, h, _⟩ => nomatch h⟩
 | x :: xs => by
  obtain ⟨i1, i2⟩ := filter_lt h xs
  cases hp : p x with
  | true =>
   have hq := h x hp
   rw [List.filter_cons_of_pos hp, List.filter_cons_of_pos hq]
   refine ⟨by simp; exact i1, fun ⟨z, hz, e1, e2⟩ => ?_⟩
   rcases List.mem_cons.mp hz with e | e
   ·rw [e, hp] at e1; cases e1
   ·have := i2 ⟨z, e, e1, e2⟩
    simp; exact this
  | false =>
   rw [List.filter_cons_of_neg (by simp [hp])]
   cases hq : q x with
   | true =>
    rw [List.filter_cons_of_pos hq]
    exact ⟨by simp; omega, fun _ => by simp; omega⟩
   | false =>
    rw [List.filter_cons_of_neg (by simp [hq])]
    refine ⟨i1, fun ⟨z, hz, e1, e2⟩ => ?_⟩
    rcases List.mem_cons.mp hz with e | e
    ·rw [e, hq] at e2; cases e2
    ·exact i2 ⟨z, e, e1, e2⟩
theorem rk_lt (o : Ord lt) {zs : List α} {d : α} {i j : Nat} (hi : i < zs.length) (hj : j < zs.length) : ltK (rk lt zs d) i j = lt (zs.getD i d) (zs.getD j d) := by
 unfold ltK rk
 have gi : zs.getD i d ∈ zs := by rw [getD_get hi]; exact List.getElem_mem hi
 have gj : zs.getD j d ∈ zs := by rw [getD_get hj]; exact List.getElem_mem hj
 cases h : lt (zs.getD i d) (zs.getD j d) with
 | true =>
  refine decide_eq_true ?_
  have := (filter_lt (p := fun z => lt z (zs.getD i d)) (q := fun z => lt z (zs.getD j d)) (fun z hz => o.tr _ _ _ hz h) zs).2 ⟨_, gi, o.irr _, h⟩
  omega
 | false =>
  refine decide_eq_false ?_
  have := (filter_lt (p := fun z => lt z (zs.getD j d)) (q := fun z => lt z (zs.getD i d)) (fun z hz => by
   cases h3 : lt z (zs.getD i d) with
   | true => rfl
   | false =>
    have e := o.le_trans h h3
    rw [hz] at e; cases e) zs).1
  omega
theorem Di (o : Ord lt) (zs : List α) (d : α) (h2 : 2 <= zs.length) : 'W'.toList.map (fun i => zs.getD i d) = oP lt zs := by
 obtain ⟨h1, hu⟩ := zK (key := rk lt zs d) (n := zs.length) (by omega)
 refine rJ o ?_ ?_ (m6 o zs)
 ·refine (h1.map _).trans ?_
  have : (List.range zs.length).map (fun i => zs.getD i d) = zs := by
   apply List.ext_getElem
   ·simp
   ·intro i h3 h4
    simp [h4]
  rw [this]
  exact (pQ zs).symm
 ·rw [List.pairwise_map, List.pairwise_iff_getElem]
  intro i j hi hj hij
  have hn : 'W'.toList.length = zs.length := by rw [h1.length_eq, List.length_range]
  have inr : ∀ k (hk : k < 'W'.toList.length), 'W'.toList[k] < zs.length := fun k hk => List.mem_range.mp (h1.mem_iff.mp (List.getElem_mem hk))
  have := hu i j (by omega) (by omega)
  unfold kAt at this
  have g : ∀ k (hk : k < 'W'.toList.length), 'W'.getD k 0 = 'W'.toList[k] := fun k hk => by
   rw [Array.getD_eq_getD_getElem?, <- Array.getElem?_toList, List.getElem?_eq_getElem hk]; rfl
  rw [g i hi, g j hj] at this
  rw [<- rk_lt o (inr j hj) (inr i hi)]
  exact decide_eq_false (by omega)
theorem Ah : ∀ {zs : List α}, zs.length < 2 -> oP lt zs = zs
 | [], _ => rfl
 | [x], _ => rfl
 | _ :: _ :: _, h => by simp at h; omega
variable {X : Cx} {K : PySem.W.Frag} {W : gS} {own : Bool}
theorem vals_map {xs : List V} {us : List Value} (r : Vals xs us) (ps : List Nat) (hp : ∀ i ∈ ps, i < xs.length) : Vals (ps.map fun i => xs.getD i .non) (ps.map fun i => us.getD i .none) := by
 refine Vals.of_get (by simp) fun k v u h1 h2 => ?_
 rw [List.getElem?_map] at h1 h2
 cases e : ps[k]? with
 | none => rw [e] at h1; cases h1
 | some i =>
  rw [e] at h1 h2
  simp only [Option.map_some, Option.some.injEq] at h1 h2
  have hi := hp i (List.mem_of_getElem? e)
  have hl := r.length
  obtain ⟨u', e1, q⟩ := r.get (i := i) (x := xs[i]) (by simp [hi])
  rw [getD_get hi] at h1
  rw [List.getD_eq_getElem?_getD, e1] at h2
  rw [<- h1, <- h2]
  exact q
theorem B5 (o : Ord lt) {pins : List 'a'} {σ : St} {F H : Hp} {s : Shared} {Q : VK} {a : Addr} {xs : List V} {zs : List α} {d0 : α} {enc : α -> Dat} (I : Inv X pins σ H s) (hF : bj F H) (t : SqL X.K F a xs) (r : aD X.K F (zs.map enc) xs) (h64 : zs.length < 64)
  (hk : ∀ its : List Value, Vals xs its -> 2 <= its.length -> ∀ h1 : Heap, (∀ b o, s.heap.get? b = some o -> h1.get? b = some o) -> Asks X.prog X.w X.A.in1.in1 (rk lt zs d0) its { s with heap := h1 })
  (p : aL X.K W true F H (.ok (.lst ((oP lt zs).map enc))) Q) : wpAny 'b' X.A (call (.builtin "sorted") [.ref a]) (EP X pins σ Q) X.xe s := by
 obtain ⟨its, rv, pl, hz⟩ := I.list (hF.lst t)
 have l1 := rv.length
 have l2 := r.length
 rw [List.length_map] at l2
 refine BH (key := rk lt zs d0) pl.isList (by omega) (fun h2 h1 kp => hk its rv h2 h1 kp) fun h' D c hD kp e => ?_
 have key : ∃ ys, ys.length <= sizeLine /\ Vals ys (pF (rk lt zs d0) its) /\ aD X.K F ((oP lt zs).map enc) ys := by
  unfold pF
  by_cases h2 : its.length < 2
  ·rw [if_pos h2, Ah (by omega)]
   exact ⟨xs, hz, rv, r⟩
  ·rw [if_neg h2, show its.length = zs.length by omega]
   obtain ⟨h1, _⟩ := zK (key := rk lt zs d0) (n := zs.length) (by omega)
   have inr : ∀ i ∈ (fW (ltK (rk lt zs d0)) (kas_sort zs.length)).toList, i < xs.length := fun i hi => by
    have := List.mem_range.mp (h1.mem_iff.mp hi); omega
   refine ⟨(fW (ltK (rk lt zs d0)) (kas_sort zs.length)).toList.map fun i => xs.getD i .non, ?_, vals_map rv _ inr, ?_⟩
   ·rw [List.length_map, h1.length_eq, List.length_range]; omega
   ·rw [<- Di o zs d0 (by omega), List.map_map]
    refine aD.of_get (by simp) fun k dd v g1 g2 => ?_
    rw [List.getElem?_map] at g1 g2
    cases ek : (fW (ltK (rk lt zs d0)) (kas_sort zs.length)).toList[k]? with
    | none => rw [ek] at g1; cases g1
    | some i =>
     rw [ek] at g1 g2
     simp only [Option.map_some, Option.some.injEq, Function.comp] at g1 g2
     have hi := inr i (List.mem_of_getElem? ek)
     obtain ⟨w, e1, q⟩ := r.get (i := i) (d := enc (zs[i]'(by omega))) (by simp [show i < zs.length by omega])
     rw [getD_get (show i < zs.length by omega)] at g1
     rw [List.getD_eq_getElem?_getD, e1] at g2
     rw [<- g1, <- g2]
     exact q
 obtain ⟨ys, hy1, hy2, hy3⟩ := key
 have I1 : Inv X pins σ (upd H D (.lst ys)) { s with heap := h' } := I.laid (t' := s.toks) kp hD (show gu X.prog X.w _ h' D (.lst ys) from ⟨hy1, _, c, hy2, e⟩)
 exact ⟨.ref D, _, I1, rfl, p.lst hF hy3 (I.hok.fresh hD)⟩
theorem rk_ints (is : List Int) (i j : Nat) (hi : i < is.length) (hj : j < is.length) : ltK (rk ltZ is 0) i j = decide (is.getD i 0 < is.getD j 0) := rk_lt ordZ hi hj
theorem EI {prog : Program} {w : World} {A : Around} {s' : Shared} {its : List Value} {is : List Int} (hi : IntsAre its is) (h2 : 2 <= its.length) : Asks prog w A (rk ltZ is 0) its s' := by
 have hl := hi.length
 obtain ⟨v1, v2, rest, rfl⟩ : ∃ v1 v2 rest, its = v1 :: v2 :: rest := by
  match its, h2 with
  | v1 :: v2 :: rest, _ => exact ⟨v1, v2, rest, rfl⟩
 unfold Asks
 rw [keyKind_ints hi]
 refine wpAny_pure ⟨rfl, fun i j C h1 h2 hc => ?_⟩
 unfold kas_ask
 obtain ⟨t1, e1⟩ := ints_at hi i h1
 obtain ⟨t2, e2⟩ := ints_at hi j h2
 rw [e1, e2]
 rw [rk_ints is i j (by omega) (by omega)] at hc
 exact kat_lt_int hc
where
 ints_at {vs : List Value} {ns : List Int} (h : IntsAre vs ns) (i : Nat) (hi : i < vs.length) : ∃ t, vs.getD i Value.none = .int (ns.getD i 0) t := by
  induction h generalizing i with
  | nil => simp at hi
  | cons n t r ih =>
   cases i with
   | zero => exact ⟨t, rfl⟩
   | succ i => obtain ⟨t', e⟩ := ih i (by simpa using hi); exact ⟨t', by simpa using e⟩
noncomputable def lexF (f : Bool) : List Int -> List Int -> Bool
 | a :: as, b :: bs => if a = b then lexF f as bs else decide (a < b)
 | _, _ => f
theorem Bd : ∀ as bs : List Int, lexF (decide (as.length < bs.length)) as bs = rY as bs
 | [], [] => rfl
 | [], _ :: _ => by simp [lexF, rY]
 | _ :: _, [] => by simp [lexF, rY]
 | a :: as, b :: bs => by
  have := Bd as bs
  simp only [lexF, rY, List.length_cons, Nat.add_lt_add_iff_right]
  rw [this]
theorem se {prog : Program} {w : World} {A : Around} {s' : Shared} {f : Bool} {Q : Bool -> Shared -> Prop} : ∀ {us vs : List Value} {as bs : List Int} (i : Nat), IntsAre us as -> IntsAre vs bs -> Q (lexF f as bs) s' -> KatLex prog w A true f Q (us.zip vs) i s'
 | _, _, _, bs, _, .nil, _, h => kat_nil (by cases bs <;> exact h)
 | _, _, _, _, _, .cons a t r, .nil, h => kat_nil h
 | _, _, _, _, i, .cons a t r, .cons b u r', h => by
  show KatLex prog w A true f Q ((.int a t, .int b u) :: (_ : List (Value × Value))) i s'
  refine kat_cons (SeqAt.EqAt.int_int a t b u _ _ _ _ ?_)
  by_cases e : a = b
  ·rw [show (a == b) = true by simpa using e]
   rw [lexF, if_pos e] at h
   exact kat_yes (se (i + 1) r r' h)
  ·rw [show (a == b) = false by simpa using e]
   rw [lexF, if_neg e] at h
   refine kat_no ?_
   cases hb : (true && i == 0) with
   | true => exact oneLt_int h
   | false => exact kat_one _ _ (lt_int h)
theorem EG {pins : List 'a'} {σ : St} {F H : Hp} {s : Shared} {A : Around} {xs : List V} {ts : List (List Int)} {its : List Value} {h1 : Heap} (I : Inv X pins σ H s) (hF : bj F H) (r : aD X.K F (ts.map tupZ) xs) (hne : (ts.all fun t => !t.isEmpty) = true) (rv : Vals xs its) (h2 : 2 <= its.length)
  (kp : ∀ b o, s.heap.get? b = some o -> h1.get? b = some o) : Asks X.prog X.w A (rk rY ts []) its { s with heap := h1 } := by
 have l1 := rv.length
 have l2 := r.length
 rw [List.length_map] at l2
 have at_ : ∀ i, i < its.length -> ∃ (l : Addr) (ob : Obj) (us : List Value) (n : Nat), its.getD i Value.none = .ref l /\ h1.get? l = some ob /\ ob.cls = .type "tuple" /\ ob.data = .seq us.toArray n /\ IntsAre us (ts.getD i []) := fun i hi => by
  obtain ⟨v, e1, l, ys, e2, tq, rr⟩ := r.get (i := i) (d := tupZ (ts[i]'(by omega))) (by simp [show i < ts.length by omega])
  subst e2
  obtain ⟨u, e3, ru⟩ := rv.get e1
  cases ru
  obtain ⟨us, ru, pl, _⟩ := I.tuple (hF.tup tq)
  obtain ⟨ob, h3, h4, n, h5⟩ := pl
  have e4 : ys = (ts[i]'(by omega)).map V.int := jX rr (jY _)
  rw [e4] at ru
  exact ⟨l, ob, us, n, by rw [List.getD_eq_getElem?_getD, e3]; rfl, kp _ _ h3, h4, h5, by rw [getD_get (show i < ts.length by omega)]; exact intsAre_of ru⟩
 have tups : ∀ (k : Nat), k <= its.length -> ∃ fs, KatTups h1 (its.drop (its.length - k)) fs /\ fs.length = k /\ ∀ v ∈ fs, ∃ i t, v = Value.int i t := by
  intro k
  induction k with
  | zero => intro _; exact ⟨[], by rw [Nat.sub_zero, List.drop_length]; exact KatTups.nil, rfl, fun _ h => nomatch h⟩
  | succ k ih =>
   intro hk
   obtain ⟨fs, q1, q2, q3⟩ := ih (by omega)
   have hi : its.length - (k + 1) < its.length := by omega
   obtain ⟨l, ob, us, n, e1, e2, e3, e4, e5⟩ := at_ _ hi
   have hn : (ts.getD (its.length - (k + 1)) []) ≠ [] := by
    rw [getD_get (show its.length - (k + 1) < ts.length by omega)]
    have := List.all_eq_true.mp hne _ (List.getElem_mem (show its.length - (k + 1) < ts.length by omega))
    simpa using this
   obtain ⟨z, ez⟩ : ∃ z, ts.getD (its.length - (k + 1)) [] = z := ⟨_, rfl⟩
   rw [ez] at e5 hn
   obtain ⟨f, fr, ef, hf⟩ : ∃ f fr, us = f :: fr /\ ∃ i t, f = Value.int i t := by
    cases e5 with
    | nil => exact absurd rfl hn
    | cons m t r => exact ⟨_, _, rfl, _, _, rfl⟩
   refine ⟨f :: fs, ?_, by simp [q2], fun v hv => ?_⟩
   ·rw [List.drop_eq_getElem_cons hi]
    rw [show its.length - (k + 1) + 1 = its.length - k by omega]
    rw [getD_get hi] at e1
    rw [e1]
    exact KatTups.cons e2 e3 e4 (by rw [ef]; rfl) q1
   ·rcases List.mem_cons.mp hv with e | e
    ·rw [e]; exact hf
    ·exact q3 v e
 obtain ⟨fs, q1, q2, q3⟩ := tups its.length 'n'
 rw [Nat.sub_self, List.drop_zero] at q1
 unfold Asks
 refine kat_kind (s := { s with heap := h1 }) (T := .type "int") q1 (by omega) (fun v hv => ?_) rfl ⟨rfl, fun i j C hi hj hc => ?_⟩
 ·obtain ⟨i, t, e⟩ := q3 v hv
  rw [e]
  exact Looks.of_pure rfl
 ·unfold kas_ask
  obtain ⟨x1, o1, us, n1, e1, g1, _, d1, a1⟩ := at_ i hi
  obtain ⟨x2, o2, vs, n2, e2, g2, _, d2, a2⟩ := at_ j hj
  rw [e1, e2]
  rw [rk_lt Dj (show i < ts.length by omega) (show j < ts.length by omega)] at hc
  refine kat_lt (s := { s with heap := h1 }) g1 d1 g2 d2 (se 0 a1 a2 ?_)
  rw [List.size_toArray, List.size_toArray, a1.length, a2.length, Bd]
  exact hc
theorem B1 {F : Hp} {d : Dat} {t : List Int} (h : tupD d = .ok t) : d = tupZ t := by
 cases d with
 | tup ds =>
  have : ∀ {ds : List Dat} {t : List Int}, dG ds = .ok t -> ds = t.map .int := by
   intro ds
   induction ds with
   | nil => intro t h; cases h; rfl
   | cons d ds ih =>
    intro t h
    cases d with
    | int i =>
     cases e : dG ds with
     | error x => simp only [dG, asI, ax, e, kU] at h; cases h
     | ok r =>
      simp only [dG, asI, ax, e] at h
      cases h
      rw [ih e]
      rfl
    | _ => cases h
  unfold tupZ
  rw [this h]
 | _ => cases h
theorem DQ : ∀ {ds : List Dat} {t : List Int}, dG ds = .ok t -> ds = t.map .int := fun {ds t} h => by
 have := B1 (F := fun _ => none) (d := .tup ds) (t := t) h
 unfold tupZ at this
 injection this
theorem xm : ∀ {ds : List Dat} {ts : List (List Int)}, n6 ds = .ok ts -> ds = ts.map tupZ
 | [], _, h => by cases h; rfl
 | d :: ds, ts, h => by
  cases e : tupD d with
  | error x => simp only [n6, e, kU] at h; cases h
  | ok t =>
   cases e2 : n6 ds with
   | error x => simp only [n6, e, ax, e2, kU] at h; cases h
   | ok r =>
    simp only [n6, e, ax, e2] at h
    cases h
    rw [B1 (F := fun _ => none) e, xm e2]
    rfl
theorem xo : ∀ {ds : List Dat} {e : Err}, n6 ds = .error e -> e = .stuck
 | [], _, h => by cases h
 | d :: ds, e, h => by
  cases e1 : tupD d with
  | error x =>
   simp only [n6, e1, kU] at h
   cases h
   cases d with
   | tup ds => exact m8 e1
   | _ => cases e1; rfl
  | ok t =>
   cases e2 : n6 ds with
   | error x => simp only [n6, e1, ax, e2, kU] at h; cases h; exact xo e2
   | ok r => simp only [n6, e1, ax, e2] at h; cases h
theorem Bu (hK : X.K = K := by rfl) : xa K W true X (.builtin "sorted") nt := by
 subst hK
 intro pins s σ H xs us Q I rr h
 obtain ⟨F, d, x, s1, e, q, p⟩ := vk (fun ds => by match ds with | [d] => exact .inl ⟨d, rfl⟩ | [] => exact .inr rfl | a :: b :: c => exact .inr (by cases a <;> rfl)) h
 subst e
 obtain ⟨u, rfl, ru⟩ := rr.one
 cases d with
 | lst ds =>
  obtain ⟨a, ys, e1, t, r⟩ := q
  subst e1
  cases ru
  have p' : aL X.K W true F H (xv ds) Q := p
  unfold xv at p'
  by_cases h64 : ds.length < 64
  ·rw [if_pos h64] at p'
   cases ei : dG ds with
   | ok is =>
    rw [ei] at p'
    have ed := DQ ei
    subst ed
    refine B5 ordZ (d0 := 0) I s1 t r (by simpa using h64) (fun its rv h2 h1 kp => ?_) p'
    have e2 : ys = is.map V.int := jX r ei
    subst e2
    exact EI (intsAre_of rv) h2
   | error z =>
    rw [ei] at p'
    have p2 : aL X.K W true F H ((n6 ds).bind fun ts => if (ts.all fun t => !t.isEmpty) = true then .ok (.lst ((oP rY ts).map tupZ)) else stk) Q := p'
    cases et : n6 ds with
    | error z2 => rw [et] at p2; have := xo et; subst this; exact aL.stuck p2
    | ok ts =>
     rw [et] at p2
     have ed := xm et
     subst ed
     have p3 : aL X.K W true F H (if (ts.all fun t => !t.isEmpty) = true then .ok (.lst ((oP rY ts).map tupZ)) else stk) Q := p2
     by_cases hne : (ts.all fun t => !t.isEmpty) = true
     ·rw [if_pos hne] at p3
      exact B5 Dj (d0 := []) I s1 t r (by simpa using h64) (fun its rv h2 h1 kp => EG I s1 r hne rv h2 kp) p3
     ·rw [if_neg hne] at p3
      exact aL.stuck p3
  ·rw [if_neg h64] at p'
   exact aL.stuck p'
 | _ => exact aL.stuck p
end
end L2
namespace L2
open PySem PySem.Spec PyProof.Rows
noncomputable def cX (n d : Nat) : Option Int -> Nat
 | none => d
 | some v => if v < 0 then (v + (n : Int)).toNat else min v.toNat n
noncomputable def cutL {α : Type} (xs : List α) (lo hi : Option Int) : List α := (xs.drop (cX xs.length 0 lo)).take (cX xs.length xs.length hi - cX xs.length 0 lo)
noncomputable def xx : Dat -> Option Int -> Option Int -> M Dat
 | .lst ds, lo, hi => .ok (.lst (cutL ds lo hi))
 | .tup ds, lo, hi => if (decide (cX ds.length 0 lo = 0) && decide (cX ds.length ds.length hi = ds.length)) = true then stk else .ok (.tup (cutL ds lo hi))
 | _, _, _ => stk
noncomputable def pNone : ak -> M (Option Int) := fun _ => .ok none
noncomputable def zY (f : ak -> M Dat) : ak -> M (Option Int) := fun ρ => (f ρ).bind fun d => (asI d).bind fun i => .ok (some i)
noncomputable def fSl (g : Dat -> Option Int -> Option Int -> M Dat) (fa : ak -> M Dat) (fl fu : ak -> M (Option Int)) : ak -> M Dat := fun ρ => (fa ρ).bind fun a => (fl ρ).bind fun l => (fu ρ).bind fun u => g a l u
section
variable {X : Cx} {K : PySem.W.Frag} {W : gS} {own ro : Bool} {e a b c d : Expr} {lo hi : Option Expr} {es : List Expr} {x y : Str} {pos p p2 p3 q r t u : Pos} {f fa fb fc fd' fk : ak -> M Dat} {fl fu : ak -> M (Option Int)} {OL O : List Nat}
noncomputable def tDO (K : PySem.W.Frag) (W : gS) (f : ak -> M (Option Int)) : TO := fun σ H Q => ∃ F ρ, qk K F σ ρ /\ bj F H /\ (match f ρ with
 | .ok o => ∀ F' H', Step F H F' H' -> Q o H'
 | .error e => W.p e F H)
theorem CJ {σ : St} {ρ : ak} {F H : Hp} {R : Option Int -> Hp -> Prop} (r : qk K F σ ρ) (s : bj F H) (hE : ∀ e, fl ρ = .error e -> W.p e F H) (hO : ∀ o, fl ρ = .ok o -> ∀ F1 H1, Step F H F1 H1 -> R o H1) : tDO K W fl σ H R := by
 refine ⟨F, ρ, r, s, ?_⟩
 cases e : fl ρ with
 | ok d => exact hO d e
 | error x => exact hE x e
noncomputable abbrev DP (K : PySem.W.Frag) (W : gS) (X : Cx) (e : Option Expr) (f : ak -> M (Option Int)) : Prop := PO X e (tDO K W f)
theorem PO.imp {t t' : TO} (h : PO X lo t) (q : ∀ σ H Q, t' σ H Q -> t σ H Q) : PO X lo t' := fun pins s σ H Q I z => h pins s σ H Q I (q σ H Q z)
theorem dp_none : DP K W X none pNone := po_none.imp fun σ H Q ⟨F, ρ, r, s, p⟩ => p F H (Step.refl s)
theorem dp_some (h : DE K W false X e f) : DP K W X (some e) (zY f) := (po_some h).imp fun σ H Q ⟨F, ρ, r, s, p⟩ => by
 refine cq r s (fun e he => ?_) fun d hd v F1 H1 s1 q1 => ?_
 ·have z : zY f ρ = .error e := by unfold zY; rw [he]; rfl
  rw [z] at p; exact p
 ·have z : zY f ρ = (asI d).bind fun i => .ok (some i) := by unfold zY; rw [hd]; rfl
  rw [z] at p
  cases d with
  | int i => exact ⟨i, q1, p F1 H1 s1⟩
  | _ => exact (W.ns p).elim
noncomputable def rDS (K : PySem.W.Frag) (W : gS) (own : Bool) (g : Dat -> Option Int -> Option Int -> M Dat) : V -> Option Int -> Option Int -> Hp -> VK -> Prop := fun x lo hi H Q => ∃ F a, bj F H /\ cR K F a x /\ aL K W own F H (g a lo hi) Q
theorem rd_sl {g : Dat -> Option Int -> Option Int -> M Dat} {σ : St} {H : Hp} {Q : VK} (h : tD K W own (fSl g fa fl fu) σ H Q) : tSl (rDS K W own g) (tD K W false fa) (tDO K W fl) (tDO K W fu) σ H Q := by
 obtain ⟨F, ρ, r, s, p⟩ := h
 refine cq r s (fun e he => p.err (by unfold fSl; rw [he]; rfl)) fun a ha x F1 H1 s1 q1 => ?_
 refine CJ (r.mono s1.ff) s1.fh (fun e he => (p.step s1).err (by unfold fSl; rw [ha]; show (fl ρ).bind _ = _; rw [he]; rfl)) fun l hl F2 H2 s2 => ?_
 refine CJ ((r.mono s1.ff).mono s2.ff) s2.fh (fun e he => (p.step (s1.trans s2)).err (by unfold fSl; rw [ha]; show (fl ρ).bind _ = _; rw [hl]; show (fu ρ).bind _ = _; rw [he]; rfl)) fun u hu F3 H3 s3 => ?_
 refine ⟨F3, a, s3.fh, cR.mono (s2.trans s3).ff q1, ?_⟩
 have e : fSl g fa fl fu ρ = g a l u := by unfold fSl; rw [ha]; show (fl ρ).bind _ = _; rw [hl]; show (fu ρ).bind _ = _; rw [hu]; rfl
 rw [e] at p
 exact p.step ((s1.trans s2).trans s3)
theorem de_sl {g : Dat -> Option Int -> Option Int -> M Dat} (hr : SlR X (rDS K W own g)) (ha : DE K W false X a fa) (hl : DP K W X lo fl) (hu : DP K W X hi fu) : DE K W own X (.Subscript a (.Slice lo hi none p2) pos) (fSl g fa fl fu) := (pe_slice hr ha hl hu).imp fun _ _ _ => rd_sl
theorem Bw (n d : Nat) (o : Option Int) : cX n d o = HT.sIx n d o := by cases o <;> rfl
theorem aD.cut {F : Hp} {ds : List Dat} {xs : List V} {l u : Option Int} (h : aD K F ds xs) : aD K F (cutL ds l u) (cutV xs l u) := by
 unfold cutL cutV
 rw [Bw, Bw, h.length]
 exact aD.take _ (aD.drop _ h)
theorem x_sl (hK : X.K = K := by rfl) : SlR X (rDS K W true xx) := by
 subst hK
 intro pins s σ H x v vl vu lo hi sl Q I rx hs pl pu h
 refine (SlR.or sl_list sl_tup) pins s σ H x v vl vu lo hi sl Q I rx hs pl pu ?_
 obtain ⟨F, a, s1, qa, p⟩ := h
 cases a with
 | lst ds =>
  obtain ⟨l, xs, e, t, z⟩ := qa
  exact .inl ⟨l, xs, e, s1.lst t, fun r hr => aL.lst p s1 z.cut hr⟩
 | tup ds =>
  obtain ⟨l, xs, e, t, z⟩ := qa
  have p' : aL X.K W true F H (if (decide (cX ds.length 0 lo = 0) && decide (cX ds.length ds.length hi = ds.length)) = true then stk else .ok (.tup (cutL ds lo hi))) Q := p
  by_cases hc : (decide (cX ds.length 0 lo = 0) && decide (cX ds.length ds.length hi = ds.length)) = true
  ·rw [if_pos hc] at p'; exact p'.stuck
  ·rw [if_neg hc] at p'
   refine .inr ⟨l, xs, e, s1.tup t, fun hw => hc ?_, fun r hr => aL.tup p' s1 z.cut hr⟩
   rw [Bw, Bw, <- z.length]
   simp only [Bool.and_eq_true, decide_eq_true_eq]
   exact hw
 | _ => exact aL.stuck p
end
section
variable {ρ : ak} {fa fb fc fd' : ak -> M Dat} {fl fu : ak -> M (Option Int)}
@[simp] theorem e_pNone : pNone ρ = .ok none := id rfl
@[simp] theorem e_pSome : zY fa ρ = (fa ρ).bind fun d => (asI d).bind fun i => .ok (some i) := id rfl
@[simp] theorem e_slF (k : Dat -> Option Int -> Option Int -> M Dat) : fSl k fa fl fu ρ = (fa ρ).bind fun a => (fl ρ).bind fun l => (fu ρ).bind fun u => k a l u := id rfl
@[simp] theorem e_pow {i j : Int} (h0 : 0 <= j) (h1 : j <= 1000000) (h2 : i.natAbs < 2 ^ 64) : D5 (.int i) (.int j) = .ok (.int (i ^ j.toNat)) := by
 show (if (decide (0 <= j) && decide (j <= 1000000) && decide (i.natAbs < 2 ^ 64)) = true then _ else _) = _
 rw [if_pos (by simp only [Bool.and_eq_true, decide_eq_true_eq]; exact ⟨⟨h0, h1⟩, h2⟩)]
@[simp] theorem e_eqII (i j : Int) : eqM (.int i) (.int j) = .ok (.bl (decide (i = j))) := by
 show Except.ok (Dat.bl (i == j)) = _
 rw [show (i == j) = decide (i = j) from rfl]
@[simp] theorem e_neII (i j : Int) : neM (.int i) (.int j) = .ok (.bl (!decide (i = j))) := by
 show Except.ok (Dat.bl (!(i == j))) = _
 rw [show (i == j) = decide (i = j) from rfl]
end
end L2
namespace L2
open PySem PySem.Spec PyProof.Rows
section
variable {X : Cx} {K : PySem.W.Frag} {W : gS} {own ro : Bool} {e a b c d : Expr} {st : Option Expr} {te : TE} {tp : TO} {es : List Expr} {x y : Str} {pos p p2 p3 p4 q r t u : Pos} {f fa fb fc fk : ak -> M Dat} {fp : ak -> M (Option Int)} {OL O : List Nat}
end
end L2
namespace L2
open PySem PySem.Spec PyProof.Rows
noncomputable def wN (Cs : List Addr) (x : Str) : Dat -> M Dat
 | .ins C fs => if Cs.contains C = true then (match fs.lookup x with
  | some d => .ok d
  | none => stk) else stk
 | _ => stk
noncomputable def isC (C : Addr) (m : Str) : Dat -> Bool
 | .ins D fs => (D == C) && (fs.lookup m).isNone
 | _ => false
noncomputable def pW (C : Addr) (m : Str) (g : List Dat -> M Dat) (fo : ak -> M Dat) (fr : ak -> M (List Dat)) : ak -> M Dat := fun ρ => (fo ρ).bind fun o => if isC C m o = true then (fr ρ).bind fun as => g (o :: as) else stk
noncomputable def mj (C C2 : Addr) (m : Str) (g g2 : List Dat -> M Dat) (fo : ak -> M Dat) (fr : ak -> M (List Dat)) : ak -> M Dat := fun ρ => (fo ρ).bind fun o => if isC C m o = true then (fr ρ).bind fun as => g (o :: as) else if isC C2 m o = true then (fr ρ).bind fun as => g2 (o :: as) else stk
noncomputable def newR (C : Addr) (g : List Dat -> M Dat) : List Dat -> M Dat
 | [d] => (g [d]).bind fun r => .ok (.ins C [("gaps", r)])
 | _ => stk
noncomputable def twoL : Dat -> Dat -> Bool
 | .lst xs, .lst ys => decide (xs.length = ys.length)
 | _, _ => false
noncomputable def newP (C : Addr) (g : List Dat -> M Dat) : List Dat -> M Dat
 | [d, e] => (g [d]).bind fun r => (g [e]).bind fun r2 => if twoL r r2 = true then .ok (.ins C [("gaps", r), ("beside", r2)]) else stk
 | _ => stk
noncomputable def sStk : ak -> M Flo := fun _ => stk
section
variable {X : Cx} {K : PySem.W.Frag} {W : gS} {own ro : Bool} {e o a b c d : Expr} {es : List Expr} {x y m : Str} {pos p p2 apos : Pos} {f fa fo : ak -> M Dat} {fr : ak -> M (List Dat)} {OL O O' : List Nat} {C C2 : Addr} {Cs : List Addr}
theorem ds_stk {st : Stmt} : DS K W ro X OL O O' st sStk := fun F0 H0 pins s σ H D I h => by
 obtain ⟨FB, F, ρ, r, p⟩ := h
 exact p.stuck rfl
theorem pj.at {F : Hp} {x : Str} : ∀ {gs : List (Str × Dat)} {fs : List (Str × V)}, pj K F gs fs -> (∀ d, gs.lookup x = some d -> ∃ v, fs.lookup x = some v /\ cR K F d v) /\ (gs.lookup x = none -> fs.lookup x = none)
 | [], fs, h => by cases (show fs = [] from h); exact ⟨fun d h => by simp at h, fun _ => rfl⟩
 | (g, d) :: gs, fs, h => by
  obtain ⟨v, r, rfl, h1, h2⟩ := h
  have ih := pj.at (x := x) h2
  rw [List.lookup_cons, List.lookup_cons]
  cases e : x == g with
  | true => exact ⟨fun d' h' => by cases h'; exact ⟨v, rfl, h1⟩, fun h' => by cases h'⟩
  | false => exact ih
theorem Ee (hC : ∀ C ∈ Cs, Cls K C /\ lr K C y) (he : DE K W false X e fa) (hb : attributeBase e y X.env (eval e X.env) = eval e X.env := by rfl) (hK : X.K = K := by rfl) : DE K W false X (.Attribute e y pos) (f1 (wN Cs y) fa) := by
 subst hK
 refine (Dg he hb).imp fun σ H Q h => ?_
 obtain ⟨F, ρ, r, s, p⟩ := h
 refine cq r s (fun e he => p.err (by unfold f1; rw [he]; rfl)) fun a ha x F1 H1 s1 q1 => ?_
 have ez : f1 (wN Cs y) fa ρ = wN Cs y a := by unfold f1; rw [ha]; rfl
 rw [ez] at p
 cases a with
 | ins C gs =>
  obtain ⟨l, dx, fs, e1, ea, df⟩ := q1
  have p' : aL X.K W false F H (if Cs.contains C = true then (match gs.lookup y with
   | some d => .ok d
   | none => stk) else stk) Q := p
  by_cases hc : Cs.contains C = true
  ·rw [if_pos hc] at p'
   obtain ⟨h1, h2⟩ := hC C (by simpa using hc)
   cases hl : gs.lookup y with
   | none => rw [hl] at p'; exact aL.stuck p'
   | some d =>
    rw [hl] at p'
    obtain ⟨v, hv, hd⟩ := df.at.1 d hl
    exact ⟨l, C, dx, fs, v, e1, s1.fh _ _ ea, h1, h2, hv, (p'.step s1) v F1 H1 (Step.refl s1.fh) hd⟩
  ·rw [if_neg hc] at p'; exact aL.stuck p'
 | _ => exact aL.stuck p
theorem PE.or {t1 t2 : TE} (h1 : PE X e t1) (h2 : PE X e t2) : PE X e (fun σ H Q => t1 σ H Q \/ t2 σ H Q) := fun pins s σ H Q I h => h.elim (h1 pins s σ H Q I) (h2 pins s σ H Q I)
theorem rd_meth {nN n : Nat} {g : ak -> M Flo} {σ : St} {H : Hp} {Q : VK} (h : tD K Wno ro (pW C m (cV nN n g) fo fr) σ H Q) : tMeth C m (spF K ro (cV nN n g) n) [] E0 (tD K Wno false fo) (tDA K Wno fr) σ H Q := by
 obtain ⟨F, ρ, r, s, p⟩ := h
 refine cq r s (fun e he => p.err (by unfold pW; rw [he]; rfl)) fun o ho x F1 H1 s1 q1 => ?_
 have ez : pW C m (cV nN n g) fo fr ρ = if isC C m o = true then (fr ρ).bind fun as => cV nN n g (o :: as) else stk := by unfold pW; rw [ho]; rfl
 rw [ez] at p
 by_cases hc : isC C m o = true
 ·rw [if_pos hc] at p
  cases o with
  | ins D gs =>
   obtain ⟨l, dx, fs, e1, ea, df⟩ := id q1
   have hc' : ((D == C) && (gs.lookup m).isNone) = true := hc
   rw [Bool.and_eq_true] at hc'
   obtain ⟨hD, hn⟩ := hc'
   have hD : D = C := by simpa using hD
   subst hD
   refine ⟨l, dx, fs, e1, s1.fh _ _ ea, df.at.2 (by simpa using hn), ?_⟩
   have p := p.step s1
   refine pB (r.mono s1.ff) s1.fh (fun e he => p.err (by rw [he]; rfl)) fun as has vs F2 H2 s2 qs => ?_
   rw [has] at p
   have p : aL K Wno ro F1 H1 (cV nN n g (.ins D gs :: as)) Q := p
   have p := p.step s2
   show spF K ro (cV nN n g) n (x :: (vs ++ [])) H2 Q E0
   rw [List.append_nil]
   by_cases hl : (Dat.ins D gs :: as).length = n
   ·exact ⟨F2, .ins D gs :: as, s2.fh, ⟨x, vs, rfl, cR.mono s2.ff q1, qs⟩, hl, p⟩
   ·rw [oN hl] at p
    exact aL.stuck p
  | _ => cases hc
 ·rw [if_neg hc] at p; exact aL.stuck p
theorem rd_meth2 {nN n nN2 n2 : Nat} {g g2 : ak -> M Flo} {σ : St} {H : Hp} {Q : VK} (h : tD K Wno ro (mj C C2 m (cV nN n g) (cV nN2 n2 g2) fo fr) σ H Q) :
  tD K Wno ro (pW C m (cV nN n g) fo fr) σ H Q \/ tD K Wno ro (pW C2 m (cV nN2 n2 g2) fo fr) σ H Q := by
 obtain ⟨F, ρ, r, s, p⟩ := h
 cases ho : fo ρ with
 | error e =>
  refine .inl ⟨F, ρ, r, s, ?_⟩
  have e1 : mj C C2 m (cV nN n g) (cV nN2 n2 g2) fo fr ρ = .error e := by unfold mj; rw [ho]; rfl
  have e2 : pW C m (cV nN n g) fo fr ρ = .error e := by unfold pW; rw [ho]; rfl
  rw [e1] at p; rw [e2]; exact p
 | ok o =>
  have e1 : mj C C2 m (cV nN n g) (cV nN2 n2 g2) fo fr ρ = if isC C m o = true then (fr ρ).bind fun as => cV nN n g (o :: as) else if isC C2 m o = true then (fr ρ).bind fun as => cV nN2 n2 g2 (o :: as) else stk := by unfold mj; rw [ho]; rfl
  have e2 : pW C m (cV nN n g) fo fr ρ = if isC C m o = true then (fr ρ).bind fun as => cV nN n g (o :: as) else stk := by unfold pW; rw [ho]; rfl
  have e3 : pW C2 m (cV nN2 n2 g2) fo fr ρ = if isC C2 m o = true then (fr ρ).bind fun as => cV nN2 n2 g2 (o :: as) else stk := by unfold pW; rw [ho]; rfl
  rw [e1] at p
  by_cases hc : isC C m o = true
  ·rw [if_pos hc] at p e2
   exact .inl ⟨F, ρ, r, s, by rw [e2]; exact p⟩
  ·rw [if_neg hc] at p
   exact .inr ⟨F, ρ, r, s, by rw [e3]; exact p⟩
noncomputable def MethEq (X : Cx) (o : Expr) (m : Str) (apos : Pos) (es : List Expr) (pos : Pos) (pl : Sem Bool) : Prop := eval (.Call (.Attribute o m apos) es [] pos) X.env = (do let ov <- eval o X.env; standAt apos.atName; let (f, first) <- holding [ov] (getMethod ov m pl); callWith pos f first 'm' (backToKw pos (keywordEach [] X.env)))
section
variable {k nN n nN2 n2 : Nat} {fad fad2 : Addr} {fd fd2 : FuncData} {ps : List Str} {g g2 : ak -> M Flo} {pl : Sem Bool}
theorem Ba (c : Cls X.K C) (M : Meth X.K C m fad) (F : bx X.prog X.w X.K X.mg X.base CX0 k fad fd ps (spF X.K ro (cV nN n g) n)) (hr : kg k X.A) (hb : Binds X.K fd ps []) (ho : DE X.K Wno false X o fo) (ha : DA X.K Wno X (e :: es) fr)
  (hst : starEach (e :: es) X.env = 'k' :: starEach es X.env) (hpl : 'm'.any (·.1) = false) (ht : MethEq X o m apos (e :: es) pos pl) : DE X.K Wno ro X (.Call (.Attribute o m apos) (e :: es) [] pos) (pW C m (cV nN n g) fo fr) :=
 (pe_meth (pl := pl) ho c M F hr hb .nil zX ha hst hpl ht).imp fun _ _ _ => rd_meth
theorem de_meth2 {k2 : Nat} {ps2 : List Str} (c : Cls K C) (M : Meth K C m fad) (F : bx X.prog X.w X.K X.mg X.base CX0 k fad fd ps (spF K ro (cV nN n g) n)) (hr : kg k X.A) (hb : Binds X.K fd ps [])
  (c2 : Cls K C2) (M2 : Meth K C2 m fad2) (F2 : bx X.prog X.w X.K X.mg X.base CX0 k2 fad2 fd2 ps2 (spF K ro (cV nN2 n2 g2) n2)) (hr2 : kg k2 X.A) (hb2 : Binds X.K fd2 ps2 []) (ho : DE K Wno false X o fo) (ha : DA K Wno X (e :: es) fr)
  (hK : X.K = K := by rfl) (hst : starEach (e :: es) X.env = 'k' :: starEach es X.env := by rfl) (hpl : 'm'.any (·.1) = false := by rfl) (ht : MethEq X o m apos (e :: es) pos pl := by rfl) :
  DE K Wno ro X (.Call (.Attribute o m apos) (e :: es) [] pos) (mj C C2 m (cV nN n g) (cV nN2 n2 g2) fo fr) := by
 subst hK
 exact (PE.or (Ba c M F hr hb ho ha hst hpl ht) (Ba c2 M2 F2 hr2 hb2 ho ha hst hpl ht)).imp fun _ _ _ => rd_meth2
end
noncomputable def spI1 (K : PySem.W.Frag) (C : Addr) (g : List Dat -> M Dat) : Sp := fun vs H Q _ => ∃ p dx v F d, vs = [.ref p, v] /\ H p = some (.ins C dx []) /\ F p = none /\ bj F H /\ cR K F d v /\ (match g [d] with
 | .ok r => ∀ w F' H', bj F F' -> bj F' H' -> F' p = none -> (∀ b o, F' b = some o -> F b = some o \/ H b = none) -> (∀ c o, H c = some o -> c ≠ p -> H' c = some o) -> H' p = some (.ins C dx [("gaps", w)]) -> cR K F' r w -> Q .non H'
 | .error e => Wno.p e F H)
noncomputable def spI2 (K : PySem.W.Frag) (C : Addr) (g : List Dat -> M Dat) : Sp := fun vs H Q _ => ∃ p dx v v2 F d d2, vs = [.ref p, v, v2] /\ H p = some (.ins C dx []) /\ F p = none /\ bj F H /\ cR K F d v /\ cR K F d2 v2 /\ (match (g [d]).bind fun r => (g [d2]).bind fun r2 => if twoL r r2 = true then .ok (r, r2) else stk with
 | .ok (r, r2) => ∀ w w2 F' H', bj F F' -> bj F' H' -> F' p = none -> (∀ b o, F' b = some o -> F b = some o \/ H b = none) -> (∀ c o, H c = some o -> c ≠ p -> H' c = some o) -> H' p = some (.ins C dx [("gaps", w), ("beside", w2)]) -> cR K F' r w -> cR K F' r2 w2 -> Q .non H'
 | .error e => Wno.p e F H)
theorem Step.born {F H F' H' : Hp} {x dx : Addr} {fs : List (Str × V)} (s : bj F H) (hx : H x = none) (hdx : H dx = none) (hne : dx ≠ x) (h1 : bj F F') (h2 : bj F' H') (h3 : F' x = none) (h4 : ∀ b o, F' b = some o -> F b = some o \/ upd (upd H dx (.own x)) x (.ins C dx []) b = none)
  (h5 : ∀ c o, upd (upd H dx (.own x)) x (.ins C dx []) c = some o -> c ≠ x -> H' c = some o) (h6 : H' x = some (.ins C dx fs)) : Step F H (upd F' x (.ins C dx fs)) H' where
 ff := h1.trans (bj.upd h3)
 hh := fun c o e => by
  have hc : c ≠ x := fun h => by rw [h, hx] at e; cases e
  have hd : c ≠ dx := fun h => by rw [h, hdx] at e; cases e
  exact h5 c o (by rw [ar hc, ar hd]; exact e) hc
 fh := fun c o e => by
  by_cases hc : c = x
  ·subst hc; rw [av] at e; rw [h6]; exact e
  ·rw [ar hc] at e; exact h2 _ _ e
 nw := fun c o e => by
  by_cases hc : c = x
  ·subst hc; exact .inr hx
  ·rw [ar hc] at e
   rcases h4 c o e with z | z
   ·exact .inl z
   ·refine .inr ?_
    by_cases hd : c = dx
    ·subst hd; exact hdx
    ·rw [ar hc, ar hd] at z; exact z
theorem de_newR {k : Nat} {fI : Addr} {fdI : FuncData} {g : List Dat -> M Dat} {ps : List Str} (Mk' : Mk X.K C fI) (FI : bx X.prog X.w X.K X.mg X.base CX0 k fI fdI ps (spI1 K C g)) (hr : kg (k + 1) X.A) (hm : X.mg x = some (.ref C)) (hb : Binds X.K fdI ps [])
  (ha : DA K Wno X [e] fr) (hg : Gl X x := by rfl) (hdb : 'c' = false := by decide) (hst : starEach [e] X.env = 'k' :: starEach [] X.env := by rfl) (hpl : (backTo pos (starEach [] X.env)).any (·.1) = false := by rfl) :
  DE K Wno false X (.Call (.Name x p) [e] [] pos) (fL (newR C g) fr) := by
 refine PE.imp (Df Mk' FI hr hg hm hb .nil zX ha hdb hst hpl) fun σ H Q h => ?_
 obtain ⟨F, ρ, r, s, p⟩ := rd_L h
 refine ⟨F, ρ, r, s, ?_⟩
 cases e1 : fr ρ with
 | error z => rw [e1] at p; exact p
 | ok ds =>
  rw [e1] at p
  intro vs F1 H1 st q
  obtain ⟨F2, es1, s1, q1, z⟩ := p vs F1 H1 st q
  rcases es1 with _ | ⟨d, _ | ⟨_, _⟩⟩
  ·exact aL.stuck z
  rotate_left
  ·exact aL.stuck z
  ·obtain ⟨v, vs', rfl, qd, hn⟩ := q1
   cases (show vs' = [] from hn)
   intro x dx hx hdx hne
   refine ⟨x, dx, v, F2, d, rfl, av, s1.free hx, fun c o e => ?_, qd, ?_⟩
   ·have hc : c ≠ x := fun h => by rw [h, s1.free hx] at e; cases e
    have hd : c ≠ dx := fun h => by rw [h, s1.free hdx] at e; cases e
    rw [ar hc, ar hd]; exact s1 _ _ e
   ·have z : aL K Wno false F2 H1 ((g [d]).bind fun r => .ok (.ins C [("gaps", r)])) Q := z
    cases hgd : g [d] with
    | error e => rw [hgd] at z; exact False.elim z
    | ok r =>
     rw [hgd] at z
     intro w F' H' h1 h2 h3 h4 h5 h6 h7
     refine ⟨rfl, z (.ref x) (upd F' x (.ins C dx [("gaps", w)])) H' (Step.born s1 hx hdx hne h1 h2 h3 h4 h5 h6) ?_⟩
     exact ⟨x, dx, _, rfl, av, w, [], rfl, cR.mono (bj.upd h3) h7, rfl⟩
theorem de_newP {k : Nat} {fI : Addr} {fdI : FuncData} {g : List Dat -> M Dat} {ps : List Str} (Mk' : Mk X.K C fI) (FI : bx X.prog X.w X.K X.mg X.base CX0 k fI fdI ps (spI2 K C g)) (hr : kg (k + 1) X.A) (hm : X.mg x = some (.ref C)) (hb : Binds X.K fdI ps [])
  (ha : DA K Wno X [e, a] fr) (hg : Gl X x := by rfl) (hdb : 'c' = false := by decide) (hst : starEach [e, a] X.env = 'k' :: starEach [a] X.env := by rfl) (hpl : (backTo pos (starEach [a] X.env)).any (·.1) = false := by rfl) :
  DE K Wno false X (.Call (.Name x p) [e, a] [] pos) (fL (newP C g) fr) := by
 refine PE.imp (Df Mk' FI hr hg hm hb .nil zX ha hdb hst hpl) fun σ H Q h => ?_
 obtain ⟨F, ρ, r, s, p⟩ := rd_L h
 refine ⟨F, ρ, r, s, ?_⟩
 cases e1 : fr ρ with
 | error z => rw [e1] at p; exact p
 | ok ds =>
  rw [e1] at p
  intro vs F1 H1 st q
  obtain ⟨F2, es1, s1, q1, z⟩ := p vs F1 H1 st q
  rcases es1 with _ | ⟨d, _ | ⟨d2, _ | ⟨_, _⟩⟩⟩
  ·exact aL.stuck z
  ·exact aL.stuck z
  rotate_left
  ·exact aL.stuck z
  ·obtain ⟨v, vs', rfl, qd, v2, vs2, rfl, qd2, hn⟩ := q1
   cases (show vs2 = [] from hn)
   intro x dx hx hdx hne
   refine ⟨x, dx, v, v2, F2, d, d2, rfl, av, s1.free hx, fun c o e => ?_, qd, qd2, ?_⟩
   ·have hc : c ≠ x := fun h => by rw [h, s1.free hx] at e; cases e
    have hd : c ≠ dx := fun h => by rw [h, s1.free hdx] at e; cases e
    rw [ar hc, ar hd]; exact s1 _ _ e
   ·have z : aL K Wno false F2 H1 ((g [d]).bind fun r => (g [d2]).bind fun r2 => if twoL r r2 = true then .ok (.ins C [("gaps", r), ("beside", r2)]) else stk) Q := z
    cases hgd : g [d] with
    | error e => rw [hgd] at z; exact False.elim z
    | ok r =>
     rw [hgd, ax] at z
     cases hgd2 : g [d2] with
     | error e => rw [hgd2] at z; exact False.elim z
     | ok r2 =>
      rw [hgd2, ax] at z
      by_cases ht : twoL r r2 = true
      ·rw [if_pos ht] at z
       rw [ax, ax, if_pos ht]
       intro w w2 F' H' h1 h2 h3 h4 h5 h6 h7 h8
       refine ⟨rfl, z (.ref x) (upd F' x (.ins C dx [("gaps", w), ("beside", w2)])) H' (Step.born s1 hx hdx hne h1 h2 h3 h4 h5 h6) ?_⟩
       exact ⟨x, dx, _, rfl, av, w, _, rfl, cR.mono (bj.upd h3) h7, w2, [], rfl, cR.mono (bj.upd h3) h8, rfl⟩
      ·rw [if_neg ht] at z; exact aL.stuck z
end
end L2
namespace L2
open PySem PySem.Spec PyProof.Rows
end L2
namespace L2
open PySem PySem.Spec PyProof.Rows
noncomputable def Itd (hi : Int) (n : Nat) : It := ⟨fun i _ => i < n, fun i H x H' => H' = H /\ x = .int (hi - i), fun i _ => n <= i⟩
theorem CF {P : Program} {w : World} {K : PySem.W.Frag} {tg : Expr} (it : Addr) (lo : Int) (n : Nat) : Turn P w K tg (Itd lo n) [it] it (fun i h => IsRangeIter h it (lo + (i : Nat) * (-1)) ((n : Int) - (i : Nat)) (-1)) where
 mem := by simp
 obj := fun i h st b hb => by
  have e : b = it := by simpa using hb
  subst e
  exact ⟨_, st, fun v z => by
   have z' : Data.fields _ = Data.cell v := z
   cases z'⟩
 keep := fun i h h' st k => k it (by simp) _ st
 item := by
  intro X hP hw hK hc i pins s σ H E I hf st hg
  subst hP hw hK
  obtain ⟨f0, f1, f2, f3, f4, f5⟩ := hf it (by simp)
  have W := Walks.range (prog := X.prog) (w := X.w) (I.ok.hd hc) it lo (-1) n
  refine W.item i s _ _ hg st fun v h' tk hv st' kk => ?_
  obtain ⟨t, rfl⟩ := hv
  have I1 : Inv X pins σ H { s with heap := h', toks := tk } := I.turned (fun b o hb e => kk b o (by simpa using hb) e) f0 f1 f3 f4 f5
  refine ⟨_, rfl, go_of (s := { s with heap := h', toks := tk }) (n := "range_iterator") st' rfl rfl (by decide) ⟨.int (lo - i), H, I1, ⟨t, ?_⟩, ⟨rfl, rfl⟩, st', fun b hb => (hf b hb).1⟩⟩
  rw [show lo + (i : Int) * (-1) = lo - i by omega]
 done := by
  intro X hP hw hK hc i pins s σ H E I hf st hg
  subst hP hw hK
  obtain ⟨f0, f1, f2, f3, f4, f5⟩ := hf it (by simp)
  exact wpAny_pyNext_range_end (I.ok.hd hc) st (by have : n <= i := hg; omega) fun h' eb => ⟨rfl, I.turned (t' := s.toks) (fun b o hb e => eb b o hb e) f0 f1 f3 f4 f5⟩
 self := fun _ _ _ _ _ st h => wpAny_pyIter_rangeiter st h
theorem rangeSize_down (a b : Int) : Builtin.Range.rangeSize a b (-1) = if b < a then a - b else 0 := by
 unfold Builtin.Range.rangeSize
 simp only [show ¬ (-1 : Int) > 0 by decide, if_false]
 by_cases h : b < a
 ·rw [if_pos h, if_pos h]
  simp
 ·rw [if_neg h, if_neg h]
theorem small_down {a b : Int} (ha : -(2 ^ 62) <= a) (ha' : a < 2 ^ 62) (hb : -(2 ^ 62) <= b) (hb' : b < 2 ^ 62) : Builtin.Range.small a b (-1) = true := by
 unfold Builtin.Range.small
 rw [rangeSize_down]
 simp only [Builtin.Range.rangeFitsLong, Bool.and_eq_true, Bool.or_eq_true, decide_eq_true_eq, beq_iff_eq, show ¬ (-1 : Int) > 0 by decide, if_false]
 split <;> omega
section
variable {X : Cx} {tg : Expr}
theorem down_it {pins : List 'a'} {σ : St} {H : Hp} {s : Shared} {R : It -> Hp -> Prop} {E : Value -> Shared -> Prop} {hi lo : Int} {t u v : Tok} {tk : Nat} (I : Inv X pins σ H s) (h1 : -(2 ^ 62) <= hi) (h2 : hi < 2 ^ 62) (h3 : -(2 ^ 62) <= lo) (h4 : lo < 2 ^ 62)
  (q : R (Itd hi (hi - lo).toNat) H) : wpAny 'b' X.A (pyIter (.ref s.heap.objs.size)) (PIE X pins σ tg R) E { s with heap := s.heap.push { cls := .type "range", data := .fields #[.int hi t, .int lo u, .int (-1) v] }, toks := tk } := by
 refine wpAny_pyIter_range (IsRange.new ..) (small_down h1 h2 h3 h4) ?_
 have I1 : Inv X pins σ H { s with heap := s.heap.push { cls := .type "range", data := .fields #[.int hi t, .int lo u, .int (-1) v] }, toks := tk } := I.kept fun b o e => Heap.get?_push_of_some _ e
 refine ⟨(s.heap.push { cls := .type "range", data := .fields #[.int hi t, .int lo u, .int (-1) v] }).objs.size, [(s.heap.push { cls := .type "range", data := .fields #[.int hi t, .int lo u, .int (-1) v] }).objs.size], _, _, H, rfl,
  I1.kept (t' := tk) fun b o e => Heap.get?_push_of_some _ e, CF _ hi (hi - lo).toNat, ?_, fun b hb => ?_, q⟩
 ·have e1 : hi + ((0 : Nat) : Int) * (-1) = hi := by simp
  have e2 : (((hi - lo).toNat : Nat) : Int) - ((0 : Nat) : Int) = Builtin.Range.rangeSize hi lo (-1) := by rw [rangeSize_down]; split <;> omega
  show IsRangeIter _ _ (hi + ((0 : Nat) : Int) * (-1)) ((((hi - lo).toNat : Nat) : Int) - ((0 : Nat) : Int)) (-1)
  rw [e1, e2]
  exact Heap.get?_push_size _ rfl
 ·have e : b = (s.heap.push { cls := .type "range", data := .fields #[.int hi t, .int lo u, .int (-1) v] }).objs.size := by simpa using hb
  subst e
  exact I1.fpOk 'n' (I1.hok.fresh 'n')
noncomputable def iRng3 (ta : TA) : TI := fun σ H R => ta σ H fun vs H1 => ∃ i j : Int, vs = [.int i, .int j, .int (-1)] /\ (-(2 ^ 62) <= i /\ i < 2 ^ 62 /\ -(2 ^ 62) <= j /\ j < 2 ^ 62) /\ R (Itd i (i - j).toNat) H1
theorem Dc {a b c : Expr} {ta : TA} {p pos : Pos} (hg : Gl X "range") (hm : X.mg "range" = none) (ha : PA X [a, b, c] ta) (hs : starEach [a, b, c] X.env = [(false, eval a X.env), (false, eval b X.env), (false, eval c X.env)] := by rfl) (hs2 : starEach [b, c] X.env = [(false, eval b X.env), (false, eval c X.env)] := by rfl) :
  PI X tg (.Call (.Name "range" p) [a, b, c] [] pos) (iRng3 ta) := by
 intro pins s σ H R I h
 refine Call_ (uh I hg hm boot_range (PyProof.Rows.callWith_type1 (thn (ha pos pins s σ H _ I h) fun us s1 ⟨vs, H1, I1, r1, q1⟩ => ?_) (by rw [hs, hs2]) (by rw [hs2]; rfl)))
 obtain ⟨i, j, e, ⟨q1, q2, q3, q4⟩, q⟩ := q1
 subst e
 cases r1 with
 | cons r rr =>
  cases rr with
  | cons r' rr =>
   cases rr with
   | cons r'' rr =>
    cases rr
    obtain ⟨t, rfl⟩ := r
    obtain ⟨t', rfl⟩ := r'
    obtain ⟨t'', rfl⟩ := r''
    exact call_range_3 (by decide) (down_it I1 q1 q2 q3 q4 q) (Or.inl (PyProof.noPylong_small (by decide)))
end
noncomputable def pX (hi : Int) (n : Nat) : List Dat := (List.range n).map fun k : Nat => Dat.int (hi - k)
theorem DK {K : PySem.W.Frag} {F : Hp} {hi : Int} {n : Nat} : zy K F (Itd hi n) (pX hi n) where
 go := fun i F' H' s1 s2 hi => by show i < n; simpa [pX] using hi
 yl := fun i F' H' x H2 d s1 s2 hd hy => by
  obtain ⟨e, hy⟩ := hy
  subst e hy
  unfold pX at hd
  rw [List.getElem?_map] at hd
  have hi : i < n := by
   have := (List.getElem?_eq_some_iff.mp (show ((List.range n).map fun k : Nat => Dat.int (hi - k))[i]? = some d by rw [List.getElem?_map]; exact hd)).1
   simpa using this
  rw [List.getElem?_range hi] at hd
  cases hd
  exact ⟨F', Step.refl s2, rfl⟩
 st := fun F' H' s1 s2 => by show n <= _; simp [pX]
noncomputable def rng3 : List Dat -> M (List Dat)
 | [.int i, .int j, .int c] => if (decide (c = -1) && dD i && dD j) = true then .ok (pX i (i - j).toNat) else .error .stuck
 | _ => .error .stuck
section
variable {K : PySem.W.Frag} {W : gS} {own : Bool} {σ : St} {H : Hp} {Q : VK} {fa fb fc : ak -> M Dat}
theorem ri_rng3 {fr : ak -> M (List Dat)} {R : It -> Hp -> Prop} (h : iD K W (rl rng3 fr) σ H R) : iRng3 (tDA K W fr) σ H R := by
 obtain ⟨F, ρ, r, s, p⟩ := h
 refine pB r s (fun e he => ?_) fun ds hd xs F1 H1 s1 q1 => ?_
 ·have z : rl rng3 fr ρ = .error e := by unfold rl; rw [he]; rfl
  rw [z] at p; exact p
 ·have z : rl rng3 fr ρ = rng3 ds := by unfold rl; rw [hd]; rfl
  rw [z] at p
  by_cases hds : ∃ i j c, ds = [.int i, .int j, .int c]
  ·obtain ⟨i, j, c, rfl⟩ := hds
   obtain ⟨v, vs, e, q, v2, vs2, e2, q2, v3, vs3, e3, q3, t⟩ := q1
   have p' : match (if (decide (c = -1) && dD i && dD j) = true then Except.ok (pX i (i - j).toNat) else Except.error Err.stuck : M (List Dat)) with
    | .ok ds => ∀ J F1 H1, Step F H F1 H1 -> zy K F1 J ds -> R J H1
    | .error e => W.p e F H := p
   by_cases hj : (decide (c = -1) && dD i && dD j) = true
   ·rw [if_pos hj] at p'
    unfold dD at hj
    simp only [Bool.and_eq_true, decide_eq_true_eq] at hj
    obtain ⟨⟨hc, hi⟩, hj⟩ := hj
    subst hc
    exact ⟨i, j, by rw [e, show v = .int i from q, e2, show v2 = .int j from q2, e3, show v3 = .int (-1) from q3, show vs3 = [] from t], ⟨hi.1, hi.2, hj.1, hj.2⟩, p' _ F1 H1 s1 DK⟩
   ·rw [if_neg hj] at p'
    exact (W.ns p').elim
  ·have : rng3 ds = .error .stuck := by
    unfold rng3
    split
    ·exact absurd ⟨_, _, _, rfl⟩ hds
    ·rfl
   rw [this] at p
   exact (W.ns p).elim
end
section
variable {X : Cx} {K : PySem.W.Frag} {W : gS} {own ro : Bool} {e a b c : Expr} {es : List Expr} {x : Str} {pos p : Pos} {f fa fb fc : ak -> M Dat} {fr : ak -> M (List Dat)}
theorem di_rng3 {tg : Expr} (hm : X.mg "range" = none) (ha : DA K W X [a, b, c] fr) (hg : Gl X "range" := by rfl) (hs : starEach [a, b, c] X.env = [(false, eval a X.env), (false, eval b X.env), (false, eval c X.env)] := by rfl) (hs2 : starEach [b, c] X.env = [(false, eval b X.env), (false, eval c X.env)] := by rfl) :
  DI K W X tg (.Call (.Name "range" p) [a, b, c] [] pos) (rl rng3 fr) := (Dc hg hm ha hs hs2).imp fun _ _ _ => ri_rng3
end
section
variable {ρ : ak}
@[simp] theorem e_rng3 {i j : Int} (h : dD i = true) (h2 : dD j = true) : rng3 [.int i, .int j, .int (-1)] = .ok (pX i (i - j).toNat) := by show (if (decide ((-1 : Int) = -1) && dD i && dD j) = true then _ else _) = _; rw [h, h2]; rfl
end
end L2
namespace L2
open PySem PySem.Spec PyProof.Rows
end L2
namespace L2
open PySem PySem.Spec PyProof.Rows
theorem Bb {n : Nat} : ∀ {ds : List Dat} {d : Dat}, gM ds n = true -> d ∈ ds -> okE d n = true
 | [], d, _, h => by simp at h
 | a :: ds, d, h, hd => by
  unfold gM at h
  simp only [Bool.and_eq_true] at h
  rcases List.mem_cons.mp hd with e | e
  ·rw [e]; exact h.1
  ·exact Bb h.2 e
section
variable {X : Cx} {K : PySem.W.Frag} {W : gS} {own ro : Bool}
open Classical in
theorem has_D {pins : List 'a'} {σ : St} {F H : Hp} {s : Shared} (I : Inv X pins σ H s) (hF : bj F H) {ds : List Dat} {xs : List V} {its : List Value} {a : Dat} {x : V} {u : Value} {A : Around} (od : gM ds 40 = true) (oa : okE a 40 = true) (qs : aD X.K F ds xs) (rv : Vals xs its) (qa : cR X.K F a x) (ra : RelV x u) (hu : A.units + 40 < cLine) :
  ∃ e : Value -> Bool, (∀ y, y ∈ its.toArray -> SeqAt.EqAt A s y u (e y)) /\ its.toArray.any e = ds.any fun d => eqD d a := by
 have each : ∀ (i : Nat) (y : Value), its[i]? = some y -> ∃ d, ds[i]? = some d /\ SeqAt.EqAt A s y u (eqD d a) := fun i y hy => by
  have hi : i < its.length := (List.getElem?_eq_some_iff.mp hy).1
  have h1 : i < xs.length := by rw [rv.length]; exact hi
  have h2 : i < ds.length := by rw [<- qs.length]; exact h1
  obtain ⟨v, e1, q1⟩ := qs.get (List.getElem?_eq_getElem h2)
  obtain ⟨w, e2, r2⟩ := rv.get e1
  rw [hy] at e2
  cases e2
  exact ⟨_, List.getElem?_eq_getElem h2, E5 I hF _ a (Bb od (List.getElem_mem h2)) oa q1 qa r2 ra hu⟩
 refine ⟨fun y => decide (∃ (i : Nat) (d : Dat), its[i]? = some y /\ ds[i]? = some d /\ eqD d a = true), fun y hy => ?_, ?_⟩
 ·by_cases h : ∃ (i : Nat) (d : Dat), its[i]? = some y /\ ds[i]? = some d /\ eqD d a = true
  ·obtain ⟨i, d, h1, h2, h3⟩ := h
   obtain ⟨d', h4, h5⟩ := each i y h1
   rw [h2] at h4
   cases h4
   rw [h3] at h5
   have : decide (∃ (i : Nat) (d : Dat), its[i]? = some y /\ ds[i]? = some d /\ eqD d a = true) = true := decide_eq_true ⟨i, d, h1, h2, h3⟩
   show SeqAt.EqAt A s y u (decide _)
   rw [this]
   exact h5
  ·have hm : y ∈ its := by simpa using hy
   obtain ⟨i, hi⟩ := List.getElem?_of_mem hm
   obtain ⟨d, h4, h5⟩ := each i y hi
   have h6 : eqD d a = false := by
    cases hq : eqD d a with
    | false => rfl
    | true => exact absurd ⟨i, d, hi, h4, hq⟩ h
   rw [h6] at h5
   show SeqAt.EqAt A s y u (decide _)
   rw [decide_eq_false h]
   exact h5
 ·rw [Bool.eq_iff_iff]
  simp only [List.any_toArray, List.any_eq_true, decide_eq_true_eq]
  constructor
  ·rintro ⟨y, hy, i, d, h1, h2, h3⟩
   exact ⟨d, List.mem_of_getElem? h2, h3⟩
  ·rintro ⟨d, hd, h3⟩
   obtain ⟨i, hi⟩ := List.getElem?_of_mem hd
   have h2 : i < ds.length := (List.getElem?_eq_some_iff.mp hi).1
   have h4 : i < its.length := by rw [<- rv.length, qs.length]; exact h2
   exact ⟨its[i], List.getElem_mem h4, i, d, List.getElem?_eq_getElem h4, hi, h3⟩
theorem o_in (hu : X.A.units + 64 < cLine) (hK : X.K = K := by rfl) : Op2 K W own X (compareOp .In) inM := by
 subst hK
 intro pins s σ H x y v u Q I rx ry h
 obtain ⟨F, a, b, s1, qa, qb, p⟩ := h
 have hu1 : X.A.in1.units + 40 < cLine := by show X.A.units + 1 + 40 < cLine; omega
 cases b with
 | lst ds =>
  obtain ⟨l, xs, e, t, z⟩ := qb
  subst e
  cases ry
  have p' : aL X.K W own F H (if (okE a 40 && gM ds 40) = true then .ok (.bl (ds.any fun d => eqD d a)) else stk) Q := p
  by_cases hc : (okE a 40 && gM ds 40) = true
  ·rw [if_pos hc] at p'
   simp only [Bool.and_eq_true] at hc
   obtain ⟨its, rv, pl, _⟩ := I.list (s1.lst t)
   obtain ⟨e, he, ha⟩ := has_D (A := X.A.in1) I s1 hc.2 hc.1 z rv qa rx hu1
   refine SeqAt.in_listAt e pl.isList he ?_
   rw [ha]
   exact p'.blS s1 I
  ·rw [if_neg hc] at p'; exact p'.stuck
 | tup ds =>
  obtain ⟨l, xs, e, t, z⟩ := qb
  subst e
  cases ry
  have p' : aL X.K W own F H (if (okE a 40 && gM ds 40) = true then .ok (.bl (ds.any fun d => eqD d a)) else stk) Q := p
  by_cases hc : (okE a 40 && gM ds 40) = true
  ·rw [if_pos hc] at p'
   simp only [Bool.and_eq_true] at hc
   obtain ⟨its, rv, pl, _⟩ := I.tuple (s1.tup t)
   obtain ⟨e, he, ha⟩ := has_D (A := X.A.in1) I s1 hc.2 hc.1 z rv qa rx hu1
   refine SeqAt.in_tupleAt e (show s.heap.IsTuple l its.toArray from pl) he ?_
   rw [ha]
   exact p'.blS s1 I
  ·rw [if_neg hc] at p'; exact p'.stuck
 | _ => exact aL.stuck p
end
end L2
namespace L2
open PySem PySem.Spec PyProof.Rows
noncomputable abbrev ZRec (h : Heap) (z p q : Addr) (m k : Value) : Prop := h.get? z = some { cls := .type "zip", dict := none, data := .fields #[m, k, .bool false, .ref p, .ref q], slots := #[] }
structure Zs (z p q u v l m : Addr) (r k a b : Value) (i j : Nat) (xs ys : Array Value) (h : Heap) : Prop where
 me : ZRec h z p q r k
 its : IsPair h p (.ref u) (.ref v)
 own : IsPair h q a b
 one : h.IsListIter u l i
 two : h.IsListIter v m j
 xl : h.IsList l xs
 yl : h.IsList m ys
noncomputable def Off (z q u v : Addr) (h h' : Heap) : Prop := ∀ c o, c ≠ z -> c ≠ q -> c ≠ u -> c ≠ v -> h.get? c = some o -> h'.get? c = some o
section
variable {z p q u v l m : Addr} {r k a b : Value} {i j n : Nat} {xs ys : Array Value} {h h' g : Heap}
theorem Off.refl : Off z q u v h h := fun _ _ _ _ _ _ e => e
theorem Off.then (A : Off z q u v h h') (B : Off z q u v h' g) : Off z q u v h g := fun c o a b d e x => B c o a b d e (A c o a b d e x)
end
inductive Mem : Value -> Prop
 | no : Mem .none
 | was (a : Int) (t : Tok) : Mem (.int a t)
end L2
namespace L2
open PySem PySem.Spec PyProof.Rows
inductive Laid2 : Hp -> List (V × V) -> List V -> Hp -> Prop
 | nil {G : Hp} : Laid2 G [] [] G
 | cons {G G' : Hp} {T : Addr} {x y : V} {ps : List (V × V)} {vs : List V} : G T = none -> Laid2 (upd G T (.tup [x, y])) ps vs G' -> Laid2 G ((x, y) :: ps) (.ref T :: vs) G'
end L2
namespace L2
open PySem PySem.Spec PyProof.Rows
end L2
namespace L2
open PySem PySem.Spec PyProof.Rows
structure Owns (K : PySem.W.Frag) (F G H : Hp) (ds : List Dat) (vs : List V) : Prop where
 len : vs.length = ds.length
 get : ∀ (k : Nat) (d : Dat), ds[k]? = some d -> ∃ a xs es, vs[k]? = some (.ref a) /\ d = .lst es /\ H a = some (.lst xs) /\ F a = none /\ G a = none /\ aD K F es xs
 ap : ∀ (j k : Nat) (a : Addr), vs[j]? = some (.ref a) -> vs[k]? = some (.ref a) -> j = k
section
variable {K : PySem.W.Frag} {F G H F' H' : Hp} {ds : List Dat} {vs : List V}
theorem Owns.back {G' : Hp} (o : Owns K F G H ds vs) (s : bj G' G) : Owns K F G' H ds vs where
 len := o.len
 get := fun k d e => by
  obtain ⟨a, xs, es, h1, h2, h3, h4, h5, h6⟩ := o.get k d e
  exact ⟨a, xs, es, h1, h2, h3, h4, s.free h5, h6⟩
 ap := o.ap
end
noncomputable def rowAt (rs : List Dat) (a : Int) : M (Nat × List Dat) := match ixN rs.length a with
 | some j => (match rs[j]? with
  | some (.lst es) => .ok (j, es)
  | _ => .error .stuck)
 | none => .error .stuck
noncomputable def setRow (rs : List Dat) (je : Nat × List Dat) (b : Int) (x : Dat) : M (List Dat) := match ixN je.2.length b with
 | some k => .ok (rs.set je.1 (.lst (je.2.set k x)))
 | none => .error .stuck
noncomputable def rows3 (i : Nat) (rs : List Dat) (x : Dat) (je : Nat × List Dat) (fB : ak -> M Dat) (ρ : ak) : M Flo := (fB (ρ.set i none)).bind fun b => (asI b).bind fun b => (setRow rs je b x).bind fun rs' => .ok (.nx (ρ.set i (some (.lst rs'))))
noncomputable def j5 (i : Nat) (rs : List Dat) (x : Dat) (fA fB : ak -> M Dat) (ρ : ak) : M Flo := (fA (ρ.set i none)).bind fun a => (asI a).bind fun a => (rowAt rs a).bind fun je => rows3 i rs x je fB ρ
end L2
namespace L2
open PySem PySem.Spec PyProof.Rows
end L2
namespace L2
open PySem PySem.Spec PyProof.Rows
structure Ys (z p q u v l m : Addr) (r k a b : Value) (i j : Nat) (xs ys : Array Value) (h : Heap) : Prop where
 me : ZRec h z p q r k
 its : IsPair h p (.ref u) (.ref v)
 own : IsPair h q a b
 one : h.IsTupleIter u l i
 two : h.IsTupleIter v m j
 xl : h.IsTuple l xs
 yl : h.IsTuple m ys
end L2
namespace L2
open PySem PySem.Spec PyProof.Rows
structure RepR (K : PySem.W.Frag) (F0 H0 FB : Hp) (i : Nat) (a : Addr) (ys : List V) (rs : List Dat) (F H : Hp) (σ : St) (ρ : ak) : Prop where
 r : Rep K F0 H0 FB [] F H σ ρ
 sl : σ[i]? = some 'X'
 hp : H a = some (.lst ys)
 fa : F a = none
 ha : H0 a = none
 nm : ∀ m : Nat, ys[m]? ≠ some (.ref a)
 ow : Owns K F H0 H rs ys
section
variable {K : PySem.W.Frag} {F0 H0 FB F H F1 H1 : Hp} {i : Nat} {a : Addr} {ys : List V} {rs : List Dat} {σ : St} {ρ : ak}
theorem RepR.base {FB' : Hp} (h : RepR K F0 H0 FB i a ys rs F H σ ρ) (s : bj FB' FB) : RepR K F0 H0 FB' i a ys rs F H σ ρ := ⟨h.r.base s, h.sl, h.hp, h.fa, h.ha, h.nm, h.ow⟩
end
end L2
namespace L2
open PySem PySem.Spec PyProof.Rows
section
variable {κ : Type} [DecidableEq κ]
noncomputable def dropK (kvs : List (κ × V)) (k : κ) : List (κ × V) := kvs.filter fun kv => decide (kv.1 ≠ k)
theorem xg.getD {o : Option V} {u : Option Value} {d : V} {d' : Value} (r : xg o u) (rd : RelV d d') : RelV (o.getD d) (u.getD d') := by
 cases o with
 | none => cases u with
  | none => exact rd
  | some _ => exact (show False from r).elim
 | some _ => cases u with
  | none => exact (show False from r).elim
  | some _ => exact r
theorem KV.drop {kvs : List (κ × V)} {vs : List (κ × Value)} (r : KV kvs vs) (k : κ) : KV (dropK kvs k) (without vs k) := by
 unfold KV at r ⊢
 unfold dropK without
 induction r with
 | nil => exact .nil
 | @cons p q ps qs h t ih =>
  obtain ⟨h1, h2⟩ := h
  rw [List.filter_cons, List.filter_cons]
  by_cases e : p.1 = k
  ·have a : ¬ decide (p.1 ≠ k) = true := by simp [e]
   have b : ¬ decide (q.1 ≠ k) = true := by simp [h1.symm.trans e]
   rw [if_neg a, if_neg b]; exact ih
  ·have e' : ¬ q.1 = k := fun z => e (h1.trans z)
   have a : decide (p.1 ≠ k) = true := by simp [e]
   have b : decide (q.1 ≠ k) = true := by simp [e']
   rw [if_pos a, if_pos b]; exact .cons ⟨h1, h2⟩ ih
theorem KV.length {kvs : List (κ × V)} {vs : List (κ × Value)} (r : KV kvs vs) : kvs.length = vs.length := Paired.length r
end
structure M1 (X : Cx) (o : Expr) (m : Str) (apos : Pos) (e : Expr) (cpos : Pos) : Prop where
 base : attributeBase o m X.env (eval o X.env) = eval o X.env
 few : ((backTo cpos (starEach [e] X.env)).all (fun x => !x.1) && (backToKw cpos (keywordEach [] X.env)).all (fun x => x.1.isSome)
  && decide (([e] : List Expr).length + ([] : List Keyword).length + (if ([] : List Keyword).isEmpty then 0 else 1) < 30)) = true
 line : (apos.endLine == cpos.line) = true
 trees : backTo cpos (starEach [e] X.env) = ['k']
structure M2 (X : Cx) (o : Expr) (m : Str) (apos : Pos) (e f : Expr) (cpos : Pos) : Prop where
 base : attributeBase o m X.env (eval o X.env) = eval o X.env
 few : ((backTo cpos (starEach [e, f] X.env)).all (fun x => !x.1) && (backToKw cpos (keywordEach [] X.env)).all (fun x => x.1.isSome)
  && decide (([e, f] : List Expr).length + ([] : List Keyword).length + (if ([] : List Keyword).isEmpty then 0 else 1) < 30)) = true
 line : (apos.endLine == cpos.line) = true
 trees : backTo cpos (starEach [e, f] X.env) = ['k', (false, eval f X.env)]
end L2
namespace L2
open PySem PySem.Spec PyProof.Rows
noncomputable def keysI (ks : List Int) : List (Key × V) := ks.map fun k => (Sum.inl k, .bl true)
structure RepK (K : PySem.W.Frag) (F0 H0 FB : Hp) (i : Nat) (a : Addr) (ks : List Int) (F H : Hp) (σ : St) (ρ : ak) : Prop where
 r : Rep K F0 H0 FB [] F H σ ρ
 sl : σ[i]? = some 'X'
 hp : H a = some (.dK (keysI ks))
 fa : F a = none
 ha : H0 a = none
end L2
namespace L2
open PySem PySem.Spec PyProof.Rows
structure ExA (h : Heap) (e : Addr) (C : Value) (dx hd : Option Addr) : Prop where
 ob : ∃ oe vs, h.get? e = some oe /\ oe.cls = C /\ oe.dict = dx /\ oe.data = .fields vs /\ vs[1]? = some (hd.elim Value.none Value.ref)
 tb : ∀ T, hd = some T -> T ≠ e /\ ∃ oT ts, h.get? T = some oT /\ oT.data = .fields ts /\ ts[3]? = some .none
theorem dictMapF (f : Array Value -> Array Value) (o : Obj) : (o.mapFields f).dict = o.dict := by
 obtain ⟨c, d, dt, sl⟩ := o
 cases dt <;> rfl
theorem size3 {l : List Value} (h : 3 < l.length) : 3 < l.toArray.size := by rw [List.size_toArray]; exact h
section
variable {M : Model} {A : Around} {E : Value -> Shared -> Prop} {s : Shared}
theorem mkEntry {hv fv lv : Value} {pl : List Value} {Q : Value -> Shared -> Prop} (hp : IsPlace pl) (h : ∀ (o : Obj) (ts : Array Value), o.data = .fields ts -> 3 < ts.size -> o.isFreed = false -> Q (.ref s.heap.objs.size) { s with heap := s.heap.push o }) :
  wpAny M A (EntryCells.newEntry hv fv .none lv .none pl) Q E s := by
 unfold EntryCells.newEntry newFields
 refine wpAny_newObj_type (h _ _ rfl (size3 ?_) ?_) (hp.sizeOk5 _ _ _ _ _)
 ·simp
 ·exact Obj.isFreed_of_fields rfl
structure Left (fs : List Addr) (e : Addr) (hd : Option Addr) (h h' : Heap) : Prop where
 keep : ∀ b o, h.get? b = some o -> b ∉ fs -> b ≠ e -> (∀ T, hd = some T -> b ≠ T) -> h'.get? b = some o
 slot : ∀ b o, h.get? b = some o -> b ∈ fs -> ∃ sl, h'.get? b = some { o with slots := sl }
 size : h.objs.size <= h'.objs.size
theorem entry_at {base : Heap} {env : Env} {outer : List Env} {L e : Addr} {C : Value} {dx : Option Addr} {oe : Obj} {vs : Array Value} {hv : Value} {bn : Bool} {Q : Unit -> Shared -> Prop}
  (hfr : A.frames = some (env :: outer)) (hl : s.heap.FunFrames base (env :: outer)) (hf : env.frame = some L) (he : s.heap.get? e = some oe) (hc : oe.cls = C) (hdx : oe.dict = dx) (hd : oe.data = .fields vs) (hs : 1 < vs.size)
  (h : ∀ h' T, ExA h' e C dx (some T) -> s.heap.objs.size <= T -> Left (frs (env :: outer)) e none s.heap h' -> Q () { s with heap := h' }) :
  wpAny M A (frameOf env >>= fun a => entryPlaceOf L bn >>= fun pl => EntryCells.newEntry hv a .none (rawInt L) .none pl >>= fun b => setField (.ref e) 1 b) (fun _ s' => wpAny M A (setFlight (.ref e) none) Q E s') E s := by
 have nfr : ∀ b o, b ∈ frs (env :: outer) -> s.heap.get? b = some o -> ∀ vs, o.data ≠ .fields vs := fun b o hm q => by
  obtain ⟨_, o', ho', n⟩ := hl.mem hm
  rw [q] at ho'
  cases ho'
  exact n
 have hne : e ∉ frs (env :: outer) := fun hm => nfr e oe hm he vs hd
 refine wpAny_bind (wpAny_frameOf_fun hfr hl hf fun h1 x1 => ?_)
 obtain ⟨z1, z2, z3⟩ := x1
 refine wpAny_bind (wpAny_entryPlaceOf fun pl hp => ?_)
 refine wpAny_bind (mkEntry hp fun o ts ho h3 hfo => ?_)
 have e1 : h1.get? e = some oe := by rw [z2 e hne]; exact he
 have n1 : h1.objs.size ≠ e := fun z => absurd (Heap.lt_size e1) (by rw [z]; exact Nat.lt_irrefl _)
 have e2 : (h1.push o).get? e = some oe := Heap.get?_push_of_some o e1
 have t2 : (h1.push o).get? h1.objs.size = some o := Heap.get?_push_size h1 hfo
 refine wpAny_setField e2 hd hs ?_
 have d3 := Obj.data_mapFields hd (·.setIfInBounds 1 (Value.ref h1.objs.size))
 have e3 := Heap.get?_update_self (h := h1.push o) (Obj.mapFields (·.setIfInBounds 1 (Value.ref h1.objs.size))) e2 (Obj.isFreed_of_fields d3)
 have t3 : ((h1.push o).update e (Obj.mapFields (·.setIfInBounds 1 (Value.ref h1.objs.size)))).get? h1.objs.size = some o := by
  rw [Heap.get?_update_other _ _ (Ne.symm n1)]
  exact t2
 unfold setFlight
 refine wpAny_bind (wpAny_field e3 d3 (x := .ref h1.objs.size) (by simp [hs]) ?_)
 rw [if_pos (by simp)]
 refine wpAny_setField t3 ho h3 ?_
 have dT := Obj.data_mapFields ho (·.setIfInBounds 3 ((none : Option Addr).elim Value.none fun f => rawInt f))
 refine h _ h1.objs.size ⟨⟨_, _, by rw [Heap.get?_update_other _ _ n1]; exact e3, by rw [Obj.cls_mapFields]; exact hc, by rw [dictMapF]; exact hdx, d3, by simp [hs]⟩, fun T hT => ?_⟩ (by rw [z1]; exact Nat.le_refl _) ⟨fun b o' q hb hbe _ => ?_, fun b o' q hb => ?_, ?_⟩
 ·cases hT
  exact ⟨n1, _, _, Heap.get?_update_self _ t3 (Obj.isFreed_of_fields dT), dT, by simp [h3]⟩
 ·have q1 : h1.get? b = some o' := by rw [z2 b hb]; exact q
  have nb : h1.objs.size ≠ b := fun z => absurd (Heap.lt_size q1) (by rw [z]; exact Nat.lt_irrefl _)
  rw [Heap.get?_update_other _ _ nb, Heap.get?_update_other _ _ (Ne.symm hbe)]
  exact Heap.get?_push_of_some o q1
 ·obtain ⟨sl, q1⟩ := z3 b o' q
  have nb : h1.objs.size ≠ b := fun z => absurd (Heap.lt_size q1) (by rw [z]; exact Nat.lt_irrefl _)
  have nbe : e ≠ b := fun z => hne (z ▸ hb)
  refine ⟨sl, ?_⟩
  rw [Heap.get?_update_other _ _ nb, Heap.get?_update_other _ _ nbe]
  exact Heap.get?_push_of_some o q1
 ·rw [Heap.size_update, Heap.size_update, Heap.size_push, z1]
  exact Nat.le_succ _
theorem leave2 {base : Heap} {env : Env} {outer : List Env} {L e : Addr} {C : Value} {dx hd : Option Addr} {Q : Unit -> Shared -> Prop}
  (hfr : A.frames = some (env :: outer)) (hl : s.heap.FunFrames base (env :: outer)) (hf : env.frame = some L) (x : ExA s.heap e C dx hd)
  (h : ∀ h' T, ExA h' e C dx (some T) -> s.heap.objs.size <= T -> Left (frs (env :: outer)) e hd s.heap h' -> Q () { s with heap := h' }) : wpAny M A (noteFrame (.ref e) env) (fun _ s' => wpAny M A (setFlight (.ref e) none) Q E s') E s := by
 obtain ⟨oe, vs, he, hc, hdx, hdt, h1⟩ := x.ob
 have hs : 1 < vs.size := (Array.getElem?_eq_some_iff.mp h1).1
 unfold noteFrame
 simp only [hf]
 cases hd with
 | none =>
  refine wpAny_bind (wpAny_field he hdt h1 ?_)
  rw [if_neg (by decide)]
  exact entry_at hfr hl hf he hc hdx hdt hs fun h' T a b c => h h' T a b c
 | some T =>
  obtain ⟨nTe, oT, ts, hT, hdT, h3⟩ := x.tb T rfl
  have hs3 : 3 < ts.size := (Array.getElem?_eq_some_iff.mp h3).1
  refine wpAny_bind (wpAny_field he hdt h1 ?_)
  rw [if_pos (by simp)]
  refine wpAny_bind (wpAny_field (x := .none) hT hdT h3 ?_)
  rw [if_neg (by simp [rawInt])]
  refine wpAny_bind (wpAny_setField hT hdT hs3 ?_)
  have oth : ∀ b, b ≠ T -> (s.heap.update T (Obj.mapFields (·.setIfInBounds 3 Value.none))).get? b = s.heap.get? b := fun b hb => Heap.get?_update_other _ _ (Ne.symm hb)
  have nT : ∀ b o, s.heap.get? b = some o -> (∀ vs, o.data ≠ .fields vs) -> b ≠ T := fun b o q n z => by
   subst z
   rw [hT] at q
   cases q
   exact n ts hdT
  refine entry_at hfr (hl.of_keeps fun b o q n => ⟨o, by rw [oth b (nT b o q n)]; exact q, rfl⟩) hf (by rw [oth e (Ne.symm nTe)]; exact he) hc hdx hdt hs fun h' T' a b c => ?_
  refine h h' T' a (by rw [Heap.size_update] at b; exact b) ⟨fun b' o q hb hbe hbT => c.keep b' o (by rw [oth b' (hbT T rfl)]; exact q) hb hbe (fun _ z => nomatch z), fun b' o q hb => ?_, ?_⟩
  ·obtain ⟨_, o', ho', n⟩ := hl.mem hb
   rw [q] at ho'
   cases ho'
   exact c.slot b' o (by rw [oth b' (nT b' o q n)]; exact q) hb
  ·have := c.size
   rw [Heap.size_update] at this
   exact this
theorem leave_at {base : Heap} {env : Env} {outer : List Env} {L e : Addr} {C : Value} {dx hd : Option Addr} {Q : Unit -> Shared -> Prop}
  (hfr : A.frames = some (env :: outer)) (hl : s.heap.FunFrames base (env :: outer)) (hf : env.frame = some L) (x : ExA s.heap e C dx hd)
  (h : ∀ h' T, ExA h' e C dx (some T) -> s.heap.objs.size <= T -> Left (frs (env :: outer)) e hd s.heap h' -> Q () { s with heap := h' }) : wpAny M A (leaving env (.ref e)) Q E s := by
 unfold leaving
 exact wpAny_bind (leave2 hfr hl hf x h)
end
end L2
namespace L2
open PySem PySem.Spec PyProof.Rows
structure CXs (P : Program) (w : World) (outer : List Env) (H : Hp) (s : Shared) (E : XK) (a T : Addr) (C : Value) (dx : Option Addr) (H' : Hp) (s' : Shared) : Prop where
 ex : ExA s'.heap a C dx (some T)
 na : s.heap.get? a = none
 nT : s.heap.get? T = none
 fa : H' a = none
 fT : H' T = none
 os : s'.os = s.os
 bare : AllBare s'.gens
 un : Un (frs outer) [] H H' s.heap s'.heap
 hok : HOk P w H' s'.heap
 want : E C dx H'
noncomputable def CXd (P : Program) (w : World) : CXT := fun outer H s E e s' => ∃ (a T : Addr) (C : Value) (dx : Option Addr) (H' : Hp), e = .ref a /\ CXs P w outer H s E a T C dx H' s'
theorem get_none {h : Heap} {a : Addr} (z : h.objs.size <= a) : h.get? a = none := by
 cases e : h.get? a with
 | none => rfl
 | some o => exact absurd (Heap.lt_size e) (Nat.not_lt.mpr z)
theorem Inv.r9 {X : Cx} {pins : List 'a'} {σ : St} {H : Hp} {s : Shared} {a : Addr} (I : Inv X pins σ H s) (hx : X.ex = []) (e : s.heap.get? a = none) : X.s₀.heap.get? a = none := by
 cases q : X.s₀.heap.get? a with
 | none => rfl
 | some o =>
  obtain ⟨o', z⟩ := I.base.there a o q (by rw [hx]; exact fun z => nomatch z)
  rw [e] at z
  cases z
theorem gu.is {P : Program} {w : World} {H : Hp} {h : Heap} {a : Addr} {o : HO} (x : gu P w H h a o) : ∃ u, h.get? a = some u := by
 cases o with
 | lst xs => obtain ⟨_, _, _, _, e⟩ := x; exact ⟨_, e⟩
 | tup xs => obtain ⟨_, _, _, ob, e, _⟩ := x; exact ⟨_, e⟩
 | dK kvs => obtain ⟨_, _, _, _, o, _, _, e, _⟩ := x; exact ⟨_, e⟩
 | dT kvs => obtain ⟨_, _, _, _, o, _, _, e, _⟩ := x; exact ⟨_, e⟩
 | set S n => obtain ⟨o, _, _, _, e, _⟩ := x; exact ⟨_, e⟩
 | ins C dx fs => obtain ⟨_, _, _, e, _⟩ := x; exact ⟨_, e⟩
 | own y => exact x
 | xd fs => obtain ⟨_, ⟨_, _, _, e, _⟩, _⟩ := x; exact ⟨_, e⟩
 | rng lo hi => obtain ⟨_, _, _, e⟩ := x; exact ⟨_, e⟩
 | frz ob u => obtain ⟨e, _⟩ := x; exact ⟨_, e⟩
 | tbl ps => exact ⟨_, show h.get? a = some _ from x⟩
 | met f y => exact ⟨_, show h.get? a = some _ from x⟩
 | ext φ => obtain ⟨_, e, _⟩ := x; exact e
section
variable {P : Program} {w : World} {K : PySem.W.Frag} {mg : Str -> Option Value} {base : Heap} {N : List Str} {qual : Str} {scope : Scope} {f : Addr} {cd : Value} {A : Around} {outer : List Env} {s : Shared} {H : Hp} {E : XK}
theorem xe_of {pins : List 'a'} {σ : St} {H' : Hp} {s' : Shared} {a : Addr} {C : Value} {dx hd : Option Addr} (J : Inv (Cr (CXd P w) P w K mg base N qual scope f cd A outer s H E) pins σ H' s') (x : ExA s'.heap a C dx hd)
  (na : s.heap.get? a = none) (nT : ∀ T, hd = some T -> s.heap.get? T = none /\ H' T = none) (fa : H' a = none) (q : E C dx H') : (Cr (CXd P w) P w K mg base N qual scope f cd A outer s H E).xe (.ref a) s' := by
 have e0 := J.env0
 have hfs : ∀ b ∈ frs (envOfC qual scope s.heap.objs.size f cd :: outer), H' b = none := e0.frf
 have old : ∀ b o, s.heap.get? b = some o -> b ≠ a /\ (∀ T, hd = some T -> b ≠ T) /\ b < s.heap.objs.size := fun b o e => by
  have hb := Heap.lt_size e
  exact ⟨fun z => (by subst z; rw [e] at na; cases na), fun T hT z => (by subst z; have := (nT _ hT).1; rw [e] at this; cases this), hb⟩
 have infs : ∀ b, b < s.heap.objs.size -> b ∈ frs (envOfC qual scope s.heap.objs.size f cd :: outer) -> b ∈ frs outer := fun b hb hm => by
  rcases List.mem_filterMap.mp hm with ⟨v, hv, e⟩
  rcases List.mem_cons.mp hv with z | z
  ·subst z
   have : s.heap.objs.size = b := by simpa [envOfC] using e
   omega
  ·exact List.mem_filterMap.mpr ⟨v, z, e⟩
 have outfs : ∀ b, b ∈ frs outer -> b ∈ frs (envOfC qual scope s.heap.objs.size f cd :: outer) := fun b hm => by
  rcases List.mem_filterMap.mp hm with ⟨v, hv, e⟩
  exact List.mem_filterMap.mpr ⟨v, List.mem_cons_of_mem _ hv, e⟩
 have base' : Un (frs outer) [] H H' s.heap s'.heap := J.base
 show wpAny (model P w) (A.deeper '2') (leaving '2' (.ref a)) (fun _ s'' => CXd P w outer H s E (.ref a) s'') (fun e' s'' => CXd P w outer H s E e' s'') s'
 refine leave_at (base := base) e0.frames e0.yH rfl x fun h' T x' hT lf => ⟨a, T, C, dx, H', rfl, x', na, get_none (Nat.le_trans (show s.heap.objs.size <= s'.heap.objs.size from J.sz) hT), fa, ?_, J.os, J.bare, ?_, ?_, q⟩
 ·exact J.hok.fresh hT
 ·have zJ : ∀ b o, s.heap.get? b = some o -> ∀ o', s'.heap.get? b = some o' -> b ∉ frs outer -> h'.get? b = some o' := fun b o e o' e' hb => by
   obtain ⟨z1, z2, z3⟩ := old b o e
   exact lf.keep b o' e' (fun z => hb (infs b z3 z)) z1 z2
  refine ⟨fun b o e n hb hx => zJ b o e o (base'.keep b o e n hb hx) hb, fun b o e n hb hx => ?_, base'.free, fun b o e hx => ?_, base'.tups, base'.frzs, base'.tbls⟩
  ·obtain ⟨sl, e1⟩ := base'.slot b o e n hb hx
   obtain ⟨sl2, e2⟩ := lf.slot b _ e1 (outfs b hb)
   exact ⟨sl2, e2⟩
  ·obtain ⟨o', e1⟩ := base'.there b o e hx
   by_cases hb : b ∈ frs outer
   ·obtain ⟨sl, e2⟩ := lf.slot b o' e1 (outfs b hb)
    exact ⟨_, e2⟩
   ·exact ⟨o', zJ b o e o' e1 hb⟩
 ·intro b o e
  refine (J.hok b o e).zJ (fun c u hc e1 => ?_) (fun _ z => z) fun _ _ z => z
  have hcn : H' c ≠ none := by
   rcases hc with z | z
   ·rw [z, e]; exact fun z => nomatch z
   ·rw [z]; exact fun z => nomatch z
  exact lf.keep c u e1 (fun z => hcn (hfs c z)) (fun z => hcn (by rw [z]; exact fa)) fun T hT z => hcn (by rw [z]; exact (nT T hT).2)
theorem passD : Passes (CXd P w) (Cr (CXd P w) P w K mg base N qual scope f cd A outer s H E) E := by
 rintro pins σ H1 s1 e s' I ⟨a, T, C, dx, H', rfl, z⟩
 have J := I.call' z.os z.un z.hok z.bare (fun _ h => nomatch h)
 exact xe_of J z.ex (I.r9 rfl z.na) (fun T' hT => by cases hT; exact ⟨I.r9 rfl z.nT, z.fT⟩) z.fa z.want
end
end L2
namespace L2
open PySem PySem.Spec PyProof.Rows
end L2
namespace L2
open PySem PySem.Spec PyProof.Rows
noncomputable def WE (K : PySem.W.Frag) (E : XK) : gS where
 p := fun e F H => match e with
  | .stuck => False
  | .exc C fs => ∀ F' H', Step F H F' H' -> match fs with
   | [] => E (.ref C) none H'
   | fs => ∀ d gs, F' d = some (.xd gs) -> pj K F' fs gs -> E (.ref C) (some d) H'
 mono := fun {e F H F' H'} h s => by
  cases e with
  | stuck => exact h
  | exc C fs => exact fun F2 H2 s2 => h F2 H2 (s.trans s2)
 ns := fun h => h
noncomputable def noX {α : Type} : M α -> M α
 | .ok d => .ok d
 | .error _ => .error .stuck
@[simp] theorem noX_ok {α : Type} (d : α) : noX (.ok d : M α) = .ok d := id rfl
noncomputable def fNoX {α : Type} (f : ak -> M α) : ak -> M α := fun ρ => noX (f ρ)
@[simp] theorem e_fNoX {α : Type} (f : ak -> M α) (ρ : ak) : fNoX f ρ = noX (f ρ) := id rfl
section
variable {K : PySem.W.Frag} {W : gS} {X : Cx} {own ro : Bool} {OL O O' : List Nat}
theorem wk {st : List Stmt} {g : ak -> M Flo} (h : DSs K Wno ro X.nox OL O O' st g) : DSs K W ro X OL O O' st (fNoX g) := fun F0 H0 => PSs.imp (PSs.nox (h F0 H0)) fun D σ H ⟨FB, F, ρ, r, p⟩ => by
 refine ⟨FB, F, ρ, r, ?_⟩
 have p : kc K W ro F0 H0 FB OL O' D (noX (g ρ)) := p
 unfold kc at p ⊢
 cases e : g ρ with
 | ok fl =>
  rw [e] at p
  cases fl <;> exact p
 | error x => rw [e] at p; exact (W.ns p).elim
end
noncomputable def spX (K : PySem.W.Frag) (ro : Bool) (g : List Dat -> M Dat) (n : Nat) : Sp := fun vs H Q E => ∃ F ds, bj F H /\ aD K F ds vs /\ ds.length = n /\ aL K (WE K E) ro F H (g ds) Q
section
variable {X : Cx} {K : PySem.W.Frag} {ro : Bool} {x : Str} {e : Expr} {es : List Expr} {fr : ak -> M (List Dat)} {p pos : Pos} {E : XK} {CX : CXT}
theorem de_callX {k nN n : Nat} {fad : Addr} {fd : FuncData} {ps : List Str} {g : ak -> M Flo} (F : bx X.prog X.w X.K X.mg X.base CX k fad fd ps (spX K ro (cV nN n g) n)) (hx : Passes CX X E) (hr : kg k X.A) (hm : X.mg x = some (.ref fad)) (hk : PySem.W.keepIn X.K (.ref fad) = true) (hb : Binds X.K fd ps [])
  (ha : DA K (WE K E) X (e :: es) fr) (hg : Gl X x := by rfl) (hdb : 'c' = false := by decide) (hst : starEach (e :: es) X.env = 'k' :: starEach es X.env := by rfl) (hpl : 'm'.any (·.1) = false := by rfl) :
  DE K (WE K E) ro X 'G' (fL (cV nN n g) fr) := by
 refine PE.imp (rK F hr hg hm hk hb .nil hx ha hdb hst hpl) fun σ H Q h => ?_
 obtain ⟨F, ρ, r, s, p⟩ := rd_L h
 refine ⟨F, ρ, r, s, ?_⟩
 cases e1 : fr ρ with
 | error z => rw [e1] at p; exact p
 | ok ds =>
  rw [e1] at p
  intro vs F' H' st q
  obtain ⟨F1, es1, s1, q1, z⟩ := p vs F' H' st q
  show spX K ro (cV nN n g) n (vs ++ []) H' Q E
  rw [List.append_nil]
  by_cases hl : es1.length = n
  ·exact ⟨F1, es1, s1, q1, hl, z⟩
  ·rw [oN hl] at z
   exact aL.stuck z
end
section
variable {P : Program} {w : World} {K : PySem.W.Frag} {mg : Str -> Option Value} {base : Heap}
theorem fn_X {x qual : Str} {st : Stmt} {f : Addr} {fd : FuncData} {N ps : List Str} {k : Nat} {O' : List Nat} (F : Fun K x qual st f fd) (S : aM N ps (af st)) (ro : Bool) (g : ak -> M Flo)
  (hb : ∀ (cdv : Value) (A : Around) (outer : List Env) (s : Shared) (H : Hp) (E : XK), kg k (A.deeper (envOfC qual (af st) s.heap.objs.size f cdv)) ->
   DSs K (WE K E) ro (Cr (CXd P w) P w K mg base N qual (af st) f cdv A outer s H E) [] [] O' (aE st) g) : bx P w K mg base (CXd P w) (k + 1) f fd ps (spX K ro (cV N.length ps.length g) ps.length) := by
 obtain ⟨oc, od, kV, doc, pm, an, cdv, ct, osl, rfl, lk, hcd⟩ := F.ex
 refine fn_of lk hcd S (fun vs H Q E ⟨F, ds, s, q, l, p⟩ => by rw [q.length, l]) fun A outer s H vs Q E hr ⟨F1, ds, s1, q, l, p⟩ => ⟨_, hb cdv A outer s H E hr F1 H, F1, F1, ds.map some ++ List.replicate (N.length - ds.length) none, ?_, ?_⟩
 ·refine ⟨Step.refl s1, bj.refl _, ?_, fun i d e _ => xt q e, (fun i d e h => nomatch h), (fun i j ds es a h => nomatch h)⟩
  unfold start
  rw [List.length_append, List.length_append, List.length_map, List.length_map, List.length_replicate, List.length_replicate, q.length]
 ·have e1 : cV N.length ps.length g ds = (g (ds.map some ++ List.replicate (N.length - ds.length) none)).bind fun fl => match fl with
   | .nx _ => .ok .non
   | .rt d => .ok d
   | _ => stk := by
    unfold cV
    exact if_pos l
  rw [e1] at p
  cases e2 : g (ds.map some ++ List.replicate (N.length - ds.length) none) with
  | error z => rw [e2] at p; exact p
  | ok fl =>
   rw [e2] at p
   cases fl with
   | nx ρ => exact fun σ F H r => p .non F H r.st (by cases ro <;> rfl)
   | rt d => exact fun v F H st q => p v F H st q
   | bk ρ => exact aL.stuck p
   | ct ρ => exact aL.stuck p
end
end L2
namespace L2
open PySem PySem.Spec PyProof.Rows
section
variable {X : Cx} {pins : List 'a'} {σ : St} {H : Hp} {s : Shared} {a : Addr} {C : Value} {dx hd : Option Addr}
structure Apart (X : Cx) (pins : List 'a') (H : Hp) (s : Shared) (a : Addr) (hd : Option Addr) : Prop where
 na : X.s₀.heap.get? a = none
 fa : H a = none
 pa : ∀ p ∈ X.pn ++ pins, p.1 ≠ a
 nT : ∀ T, hd = some T -> X.s₀.heap.get? T = none /\ H T = none /\ ∀ p ∈ X.pn ++ pins, p.1 ≠ T
theorem Inv.left {h' : Heap} (I : Inv X pins σ H s) (hx : X.ex = []) (x : ExA s.heap a C dx hd) (ap : Apart X pins H s a hd) (lf : Left (frs X.stack) a hd s.heap h') : Inv X pins σ H { s with heap := h' } := by
 have e0 := I.env0
 obtain ⟨oe, vs, he, _, _, hdt, _⟩ := x.ob
 have nof : ∀ b o, s.heap.get? b = some o -> (∀ vs, o.data ≠ .fields vs) -> b ≠ a /\ ∀ T, hd = some T -> b ≠ T := fun b o e n => by
  refine ⟨fun z => ?_, fun T hT z => ?_⟩
  ·subst z
   rw [he] at e
   cases e
   exact n vs hdt
  ·subst z
   obtain ⟨_, oT, ts, h1, h2, _⟩ := x.tb _ hT
   rw [h1] at e
   cases e
   exact n ts h2
 have stk : ∀ b ∈ frs X.stack, H b = none := e0.frf
 have any : ∀ b o, s.heap.get? b = some o -> (∀ vs, o.data ≠ .fields vs) -> ∃ sl, h'.get? b = some { o with slots := sl } := fun b o e n => by
  obtain ⟨z1, z2⟩ := nof b o e n
  by_cases hb : b ∈ frs X.stack
  ·exact lf.slot b o e hb
  ·exact ⟨o.slots, lf.keep b o e hb z1 z2⟩
 have old : ∀ b o, X.s₀.heap.get? b = some o -> b ≠ a /\ ∀ T, hd = some T -> b ≠ T := fun b o e =>
  ⟨fun z => (by subst z; rw [ap.na] at e; cases e), fun T hT z => (by subst z; rw [(ap.nT _ hT).1] at e; cases e)⟩
 have up : s.heap.UpToSlots h' := any
 have loc0 : X.s₀.heap.get? X.env.locals = none := get_none I.ok.above
 have out : ∀ b, b ≠ X.env.locals -> b ∉ X.fs -> b ∉ frs X.stack := fun b h1 h2 h3 => by
  rcases List.mem_cons.mp (I.u7 b h3) with z | z
  ·exact h1 z
  ·exact h2 z
 have cel : ∀ c v, s.heap.IsCell c v -> h'.IsCell c v := fun c v ⟨o, h1, h2⟩ => by
  obtain ⟨sl, z⟩ := any c o h1 (fun vs q => by rw [h2] at q; cases q)
  exact ⟨_, z, h2⟩
 refine ⟨I.ok, I.os, I.bare, ?_, ?_, fun x c e => ?_, I.free, I.freeC, fun p hp => ?_, ?_, I.len⟩
 ·have go : ∀ b o, X.s₀.heap.get? b = some o -> ∀ o', s.heap.get? b = some o' -> ∃ sl, h'.get? b = some { o' with slots := sl } := fun b o e o' e' => by
   obtain ⟨z1, z2⟩ := old b o e
   by_cases hb : b ∈ frs X.stack
   ·exact lf.slot b o' e' hb
   ·exact ⟨o'.slots, lf.keep b o' e' hb z1 z2⟩
  refine ⟨fun b o e n hb hx' => ?_, fun b o e n hb hx' => ?_, I.base.free, fun b o e hx' => ?_, I.base.tups, I.base.frzs, I.base.tbls⟩
  ·obtain ⟨z1, z2⟩ := old b o e
   exact lf.keep b o (I.base.keep b o e n hb hx') (out b (fun z => by rw [z, loc0] at e; cases e) hb) z1 z2
  ·obtain ⟨sl, e1⟩ := I.base.slot b o e n hb hx'
   obtain ⟨sl2, e2⟩ := go b o e _ e1
   exact ⟨sl2, e2⟩
  ·obtain ⟨o', e1⟩ := I.base.there b o e hx'
   obtain ⟨sl2, e2⟩ := go b o e _ e1
   exact ⟨_, e2⟩
 ·obtain ⟨m, hn, hl⟩ := I.loc
  refine ⟨m, up.ns hn, fun i x v e1 e2 e3 => ?_⟩
  obtain ⟨u, r, lk⟩ := hl i x v e1 e2 e3
  refine ⟨u, r, ?_⟩
  rcases lk with z | ⟨z, c, c1, c2⟩
  ·exact .inl z
  ·exact .inr ⟨z, c, c1, cel c _ c2⟩
 ·obtain ⟨v, z⟩ := I.cell x c e
  exact ⟨v, cel c v z⟩
 ·obtain ⟨p1, p2, p3, p4, p5⟩ := I.pin p hp
  exact ⟨lf.keep p.1 p.2 p1 (out p.1 p3 p4) (ap.pa p hp) fun T hT => (ap.nT T hT).2.2 p hp, p2, p3, p4, p5⟩
 ·intro b o e
  refine (I.hok b o e).zJ (fun c u hc e1 => ?_) (fun _ z => z) fun _ _ z => z
  have hcn : H c ≠ none := by
   rcases hc with z | z
   ·rw [z, e]; exact fun z => nomatch z
   ·rw [z]; exact fun z => nomatch z
  exact lf.keep c u e1 (fun z => hcn (stk c z)) (fun z => hcn (by rw [z]; exact ap.fa)) fun T hT z => hcn (by rw [z]; exact (ap.nT T hT).2.1)
end
noncomputable def PEat (X : Cx) (pins : List 'a') (σ : St) (e : Expr) (t : TE) : Prop := ∀ (s : Shared) (H : Hp) (Q : VK), Inv X pins σ H s -> t σ H Q -> wpAny 'b' X.A (eval e X.env) (EP X pins σ Q) X.xe s
noncomputable def PSat (X : Cx) (pins : List 'a') (σ : St) (st : Stmt) (t : TS) : Prop := ∀ (s : Shared) (H : Hp) (D : Ends), Inv X pins σ H s -> t D σ H -> wpAny 'b' X.A (exec st X.env) (SP X pins D) X.xe s
noncomputable def PSsAt (X : Cx) (pins : List 'a') (σ : St) (st : List Stmt) (t : TS) : Prop := ∀ (s : Shared) (H : Hp) (D : Ends), Inv X pins σ H s -> t D σ H -> wpAny 'b' X.A (execs st X.env) (SP X pins D) X.xe s
noncomputable def n5 (CX : CXT) (X : Cx) (pins : List 'a') (σ : St) (E : XK) : Prop := ∀ (H : Hp) (s : Shared) (e : Value) (s' : Shared), Inv X pins σ H s -> CX X.stack H s E e s' -> X.xe e s'
section
variable {X : Cx} {pins : List 'a'} {σ : St} {st : Stmt} {t u : TS} {pos : Pos}
theorem at_one (h : PSat X pins σ st t) : PSsAt X pins σ [st] t := fun s H D I q => by
 refine wpAny_execs_cons (thn (h s H D I q) fun f s1 z => ?_)
 cases f with
 | next => exact wpAny_execs_nil z
 | _ => exact z
theorem at_expr {e : Expr} {te : TE} (he : PEat X pins σ e te) (hs : swapsWith e none pos.line X.env = pure false := by rfl) : PSat X pins σ (.Expr e pos) (tDrop te) := fun s H D I q =>
 wpAny_Expr_any (thn (he s H _ I q) fun v s1 ⟨x, H1, I1, r1, q1⟩ => ⟨σ, H1, I1, q1⟩) I.quiet hs
end
section
variable {X : Cx} {pins : List 'a'} {σ : St} {CX : CXT} {k : Nat} {f C : Addr} {fd : FuncData} {ps : List Str} {sp : Sp} {dvs : List V} {ds : List Value} {E : XK} {x m : Str} {p pos apos : Pos} {e o : Expr} {es : List Expr} {ta : TE} {t : TA}
theorem at_run {H : Hp} {s : Shared} {Q : VK} {us : List Value} {vs : List V} (F : bx X.prog X.w X.K X.mg X.base CX k f fd ps sp) (hr : kg k X.A) (hb : Binds X.K fd ps ds) (hd : Vals dvs ds) (hx : n5 CX X pins σ E)
  (I : Inv X pins σ H s) (r : Vals vs us) (h : sp (vs ++ dvs) H Q E) : wpAny 'b' X.A (call (.ref f) us) (EP X pins σ Q) X.xe s := by
 have v2 := r.append hd
 refine wpAny_call (codeAny_mono (F.run _ _ s H ⟨us, []⟩ _ _ Q E hr I.env0 (hb s us I.kIn (v2.length.symm.trans (F.len _ _ _ _ h))) v2 h) fun z s' hq => ?_)
 cases z with
 | error e => exact hx H s e s' I hq
 | ok fl =>
  cases fl with
  | ret u => exact I.after hq
  | _ => exact False.elim hq
theorem at_call (F : bx X.prog X.w X.K X.mg X.base CX k f fd ps sp) (hx : n5 CX X pins σ E) (hr : kg k X.A) (hm : X.mg x = some (.ref f)) (hk : PySem.W.keepIn X.K (.ref f) = true) (hb : Binds X.K fd ps ds) (hd : Vals dvs ds) (ha : PA X (e :: es) t) (hg : Gl X x := by rfl)
  (hdb : 'c' = false := by decide) (he : starEach (e :: es) X.env = 'k' :: starEach es X.env := by rfl) (hpl : 'm'.any (·.1) = false := by rfl) :
  PEat X pins σ 'G' (tCall sp dvs E t) := fun s H Q I q =>
 wpAny_Call_Name_kw (lL I hg hm (PySem.W.callWith_K (h₀ := X.base) I.ok.mod.kin hk (thn (ha pos pins s σ H _ I q) fun us s1 ⟨vs, H1, I1, r, q1⟩ => ⟨I1.kIn, at_run F hr hb hd hx I1 r q1⟩) he hpl) hdb)
end
end L2
namespace L2
open PySem PySem.Spec PyProof.Rows
section
variable {X : Cx} {pins : List 'a'} {σ : St} {H : Hp} {s : Shared}
theorem Inv.names {h' : Heap} {m : Str -> Option Value} {σ' : St} (I : Inv X pins σ H s) (hn : h'.Ns X.env.locals m) (hs : Heap.SameBut X.env.locals s.heap h') (hl : σ'.length = X.N.length)
  (hv : ∀ (i : Nat) (x : Str) (v : V), X.N[i]? = some x -> σ'[i]? = some (some v) -> Vis X.env.scope x -> ∃ u, RelV v u /\ Look X.env s.heap m x u) : Inv X pins σ' H { s with heap := h' } := by
 have far : ∀ b o, X.s₀.heap.get? b = some o -> b ≠ X.env.locals := fun b o e z => by
  subst z
  exact absurd (Heap.lt_size e) (Nat.not_lt.mpr I.ok.above)
 have cel : ∀ x c v, X.env.cells.lookup x = some c -> s.heap.IsCell c v -> h'.IsCell c v := fun x c v e z => z.sameBut hs (I.cne x c e)
 refine ⟨I.ok, I.os, I.bare, ⟨fun b o e n hb hx => ?_, fun b o e n hb hx => ?_, I.base.free, fun b o e hx => ?_, I.base.tups, I.base.frzs, I.base.tbls⟩, ⟨m, hn, fun i x v e1 e2 e3 => ?_⟩, fun x c e => ?_, I.free, I.freeC, fun p hp => ?_, fun b o e => ?_, hl⟩
 ·show h'.get? b = _
  rw [hs.2 b (far b o e)]; exact I.base.keep b o e n hb hx
 ·obtain ⟨sl, z⟩ := I.base.slot b o e n hb hx
  refine ⟨sl, ?_⟩
  show h'.get? b = _
  rw [hs.2 b (far b o e)]; exact z
 ·obtain ⟨o', z⟩ := I.base.there b o e hx
  refine ⟨o', ?_⟩
  show h'.get? b = _
  rw [hs.2 b (far b o e)]; exact z
 ·obtain ⟨u, r, lk⟩ := hv i x v e1 e2 e3
  refine ⟨u, r, ?_⟩
  rcases lk with z | ⟨z, c, c1, c2⟩
  ·exact .inl z
  ·exact .inr ⟨z, c, c1, cel x c _ c1 c2⟩
 ·obtain ⟨v, z⟩ := I.cell x c e
  exact ⟨v, cel x c v e z⟩
 ·obtain ⟨p1, p2, p3, p4, p5⟩ := I.pin p hp
  refine ⟨?_, p2, p3, p4, p5⟩
  show h'.get? p.1 = _
  rw [hs.2 p.1 p3]; exact p1
 ·refine (I.hok b o e).zJ (fun c u hc e1 => ?_) (fun _ z => z) fun _ _ z => z
  show h'.get? c = _
  rw [hs.2 c fun z => ?_]
  ·exact e1
  ·rcases hc with y | y
   ·rw [<- y, z, I.free] at e; cases e
   ·rw [z, I.free] at y; cases y
theorem vZ {M : Model} {A : Around} {E : Value -> Shared -> Prop} {i : Nat} {x : Str} {pos : Pos} {Q : Unit -> Shared -> Prop} (I : Inv X pins σ H s) (hN : X.N.Nodup) (hi : X.N[i]? = some x) (hk : X.env.scope.names.lookup x = some .local)
  (h : ∀ s', Inv X pins (σ.set i none) H s' -> Q () s') : wpAny M A (do bindName X.env x .none; unbindBehindTheSuite X.env x pos) Q E s := by
 have hcls : (X.env.scope.kind == .class || (X.env.scope.kind == .module && X.env.locals != X.env.globals)) = false := by rw [I.ok.kind]; rfl
 have hil : i < σ.length := by rw [I.len]; exact (List.getElem?_eq_some_iff.mp hi).1
 refine wpAny_bind (wpAny_bindName (rg I hN hi (.inl hk) (v := .non) rfl (fun s1 I1 => ?_) (.inr hk)))
 unfold unbindBehindTheSuite
 refine wpAny_onRaise ?_
 obtain ⟨m, hn, hl⟩ := id I1.loc
 obtain ⟨u, _, lk⟩ := hl i x .non hi (by rw [List.getElem?_set_self hil]) (.inl hk)
 have hmx : m x = some u := by
  rcases lk with z | ⟨z, _⟩
  ·exact z.2
  ·have hkk : X.env.kindOf x = some .local := hk
   rw [hkk] at z
   rcases z with z | z <;> cases z
 refine wpAny_unbindName_local hk hn hmx hcls fun h' u' hn' hs => h _ (I1.names hn' hs (by rw [List.length_set]; exact I.len) fun j y v e1 e2 e3 => ?_)
 have hij : i ≠ j := fun z => by
  subst z
  rw [List.getElem?_set_self hil] at e2
  cases e2
 rw [List.getElem?_set_ne hij] at e2
 obtain ⟨w, r, lk⟩ := hl j y v e1 (by rw [List.getElem?_set_ne hij]; exact e2) e3
 refine ⟨w, r, ?_⟩
 rcases lk with ⟨z1, z2⟩ | z
 ·have hyx : y ≠ x := fun z => hij (vL hN hi (z ▸ e1))
  exact .inl ⟨z1, by simp [hyx, z2]⟩
 ·exact .inr z
end
end L2
namespace L2
open PySem PySem.Spec PyProof.Rows
noncomputable def zx (K : PySem.W.Frag) (C : Addr) (bmB : List Value) : Prop := ∀ h : Heap, K.In h -> ∃ tl N nm qn bs hdct sn sub ab col dd k0 k1 k2 k3 k5 newId, h.get? C = some (excClassObj nm qn C N bs tl hdct sn sub ab col dd k0 k1 k2 k3 k5 newId) /\ OwnTail h bmB tl
noncomputable abbrev Cx.hand (X : Cx) (a : Addr) (oe : Obj) : Cx := { X with A := X.A.mark 'X', calm := false, xe := fun _ _ => False, pn := (a, oe) :: X.pn }
section
variable {X : Cx} {pins : List 'a'} {σ : St} {H : Hp} {s : Shared} {a T : Addr} {C : Value} {dx : Option Addr} {oe : Obj}
theorem Inv.hand {vs : Array Value} (I : Inv X pins σ H s) (he : s.heap.get? a = some oe) (hd : oe.data = .fields vs) (na : X.s₀.heap.get? a = none) (fa : H a = none) : Inv (X.hand a oe) pins σ H s := by
 have ok := I.ok
 refine ⟨⟨ok.mod, ok.kind, ok.glob, ok.blt, ok.above, ok.inj, ok.has, ok.cab, 'C', ok.frames, ok.stk, ok.exf, ok.bs, ok.bsz, ok.noex, ok.exfs, ok.yH, ok.frf⟩, I.os, I.bare, I.base, I.loc, I.cell, I.free, I.freeC, fun p hp => ?_, I.hok, I.len⟩
 rcases List.mem_cons.mp (show p ∈ (a, oe) :: (X.pn ++ pins) from hp) with z | z
 ·subst z
  refine ⟨he, fa, fun z => ?_, fun hm => ?_, fun v z => ?_⟩
  ·obtain ⟨m, ⟨o, es, ep, h1, h2, _⟩, _⟩ := I.loc
   have z : a = X.env.locals := z
   rw [<- z, he] at h1
   cases h1
   rw [hd] at h2
   cases h2
  ·obtain ⟨_, o, h1, _⟩ := ok.yH.mem hm
   have h1 : X.s₀.heap.get? a = some o := h1
   rw [na] at h1
   cases h1
  ·have z : oe.data = .cell v := z
   rw [hd] at z
   cases z
 ·exact I.pin p z
theorem Inv.AZ (J : Inv (X.hand a oe) pins σ H s) (ok : X.Ok) : Inv X pins σ H s :=
 ⟨ok, J.os, J.bare, J.base, J.loc, J.cell, J.free, J.freeC, fun p hp => J.pin p (List.mem_cons_of_mem _ hp), J.hok, J.len⟩
theorem E1 {M : Model} {A : Around} {E : Value -> Shared -> Prop} {base : Heap} {l : List Env} {Q : Unit -> Shared -> Prop} (hl : s.heap.FunFrames base l) (x : ExA s.heap a C dx (some T))
  (h : ∀ h', ExA h' a C dx (some T) -> Left (frs l) a (some T) s.heap h' -> h'.get? a = s.heap.get? a -> Q () { s with heap := h' }) : wpAny M A (setFlight (.ref a) none) Q E s := by
 obtain ⟨o, vs, he, hc, hdx, hdt, h1⟩ := x.ob
 obtain ⟨nT, oT, ts, hT, hdT, h3⟩ := x.tb T rfl
 have hs3 : 3 < ts.size := (Array.getElem?_eq_some_iff.mp h3).1
 unfold setFlight
 refine wpAny_bind (wpAny_field he hdt (x := .ref T) h1 ?_)
 rw [if_pos (by simp)]
 refine wpAny_setField hT hdT hs3 ?_
 have oth : ∀ b, b ≠ T -> (s.heap.update T (Obj.mapFields (·.setIfInBounds 3 ((none : Option Addr).elim Value.none fun f => rawInt f)))).get? b = s.heap.get? b := fun b hb => Heap.get?_update_other _ _ (Ne.symm hb)
 have dT := Obj.data_mapFields hdT (·.setIfInBounds 3 ((none : Option Addr).elim Value.none fun f => rawInt f))
 refine h _ ⟨⟨o, vs, by rw [oth a (Ne.symm nT)]; exact he, hc, hdx, hdt, h1⟩, fun T' hT' => ?_⟩ ⟨fun b o' q _ _ hb => by rw [oth b (hb T rfl)]; exact q, fun b o' q hb => ?_, ?_⟩ (oth a (Ne.symm nT))
 ·cases hT'
  exact ⟨nT, _, _, Heap.get?_update_self _ hT (Obj.isFreed_of_fields dT), dT, by simp [hs3]⟩
 ·obtain ⟨_, o2, ho2, n⟩ := hl.mem hb
  have hbT : b ≠ T := fun z => by
   subst z
   rw [hT] at ho2
   cases ho2
   exact n ts hdT
  exact ⟨o'.slots, by rw [oth b hbT]; exact q⟩
 ·rw [Heap.size_update]
  exact Nat.le_refl _
end
noncomputable def Ends.less (D : Ends) (i : Nat) : Ends := { nx := fun σ H => D.nx (σ.set i none) H, rt := D.rt, bk := fun σ H => D.bk (σ.set i none) H, ct := fun σ H => D.ct (σ.set i none) H }
section
variable {X : Cx} {pins : List 'a'} {σ : St} {H : Hp} {s : Shared} {a T C : Addr} {dx : Option Addr} {c n : Str} {i : Nat} {np pos : Pos} {b₀ : Stmt} {suite : List Stmt} {ts : TS} {D : Ends} {bmB : List Value}
theorem EF (I : Inv X pins σ H s) (x : ExA s.heap a (.ref C) dx (some T)) (ap : Apart X pins H s a (some T)) (hex : X.ex = []) (hC : zx X.K C bmB) (hB : bmB.contains (.type "BaseException") = true)
  (hg : Gl X c) (hm : X.mg c = some (.ref C)) (hN : X.N.Nodup) (hi : X.N[i]? = some n) (hk : X.env.scope.names.lookup n = some .local)
  (hs : ∀ oe : Obj, oe.cls = .ref C -> oe.dict = dx -> (∃ vs, oe.data = .fields vs) -> PSs (X.hand a oe) (b₀ :: suite) ts) (q : ts (D.less i) (σ.set i 'X') H) (hdb : (c == ("__debug__" : Str)) = false := by decide) :
  wpAny 'b' X.A (handleBy (.ref a) X.env [.ExceptHandler (some (.Name c np)) (some n) (b₀ :: suite) pos]) (SP X pins D) X.xe s := by
 obtain ⟨oe, vs, he, hcl, hdx, hdt, h1⟩ := x.ob
 have J := I.hand he hdt ap.na ap.fa
 refine wpAny_handleBy_cons (codeAny_handlers_test (lL (X := X.hand a oe) J hg hm ?_ hdb)) (by intro z; cases z)
 obtain ⟨tl, N, nm, qn, bs, hdct, sn, sub, ab, col, dd, k0, k1, k2, k3, k5, newId, o1, o4⟩ := hC _ I.kIn
 have e0 := I.env0
 obtain ⟨hh, gg, d, tk, os⟩ := s
 refine wpAny_excMatches_sub_self o1 he hcl (o4.hasType hB) (codeAny_handlers_suite_as ?_)
 refine E1 (base := X.base) (l := X.stack) e0.yH x fun h' x' lf ea => ?_
 have I2 := I.left hex x ap lf
 have he2 : h'.get? a = some oe := by rw [ea]; exact he
 have J2 := I2.hand he2 hdt ap.na ap.fa
 refine rg (X := X.hand a oe) J2 hN hi (.inl hk) (v := .ref a) rfl (fun s3 J3 => ?_) (.inr hk)
 refine wpAny_mono (hs oe hcl hdx ⟨vs, hdt⟩ pins s3 _ H (D.less i) J3 q) (fun f s4 z => ?_) fun _ _ z => z.elim
 cases f with
 | next =>
  obtain ⟨σ', H', J4, q4⟩ := z
  exact vZ (J4.AZ I.ok) hN hi hk fun s5 I5 => ⟨_, H', I5, q4⟩
 | brk =>
  obtain ⟨σ', H', J4, q4⟩ := z
  exact vZ (J4.AZ I.ok) hN hi hk fun s5 I5 => ⟨_, H', I5, q4⟩
 | cont =>
  obtain ⟨σ', H', J4, q4⟩ := z
  exact vZ (J4.AZ I.ok) hN hi hk fun s5 I5 => ⟨_, H', I5, q4⟩
 | ret u =>
  obtain ⟨v, σ', H', J4, r, q4⟩ := z
  exact vZ (J4.AZ I.ok) hN hi hk fun s5 I5 => ⟨v, _, H', I5, r, q4⟩
end
end L2
namespace L2
open PySem PySem.Spec PyProof.Rows
noncomputable def EH (i : Nat) (C : Addr) (ts : Addr -> Option Addr -> TS) (D : Ends) (σ : St) : XK := fun Cv dx H' => Cv = .ref C /\ ∀ a, H' a = none -> ts a dx (D.less i) (σ.set i 'X') H'
noncomputable def tTry (tb : XK -> TS) (i : Nat) (C : Addr) (ts : Addr -> Option Addr -> TS) : TS := fun D σ H => tb (EH i C ts D σ) D σ H
section
variable {X : Cx} {C : Addr} {c n : Str} {i : Nat} {np hpos pos : Pos} {b₀ : Stmt} {body suite : List Stmt} {ts : Addr -> Option Addr -> TS} {tb : XK -> TS} {bmB : List Value}
theorem ps_try (hb : ∀ (pins : List 'a') (σ : St) (E : XK) (xe : Value -> Shared -> Prop), n5 (CXd X.prog X.w) (X.xb xe) pins σ E -> PSsAt (X.xb xe) pins σ body (tb E))
  (hs : ∀ (a : Addr) (oe : Obj), oe.cls = .ref C -> (∃ vs, oe.data = .fields vs) -> PSs (X.hand a oe) (b₀ :: suite) (ts a oe.dict))
  (hC : zx X.K C bmB) (hB : bmB.contains (.type "BaseException") = true) (hm : X.mg c = some (.ref C)) (hN : X.N.Nodup) (hi : X.N[i]? = some n := by rfl) (hk : X.env.scope.names.lookup n = some .local := by rfl)
  (hg : Gl X c := by rfl) (hex : X.ex = [] := by rfl) (hstk : X.stack = X.env :: X.outer := by rfl) (hfr : X.env.frame = some X.env.locals := by rfl) (hdb : (c == ("__debug__" : Str)) = false := by decide) :
  PS X (.Try body [.ExceptHandler (some (.Name c np)) (some n) (b₀ :: suite) hpos] [] [] pos) (tTry tb i C ts) := by
 intro pins s σ H D I h
 refine wpAny_Try_except (thn (hb pins σ (EH i C ts D σ) (fun e s₁ => wpAny 'b' X.A (noteFrame e X.env) (fun _ s₂ => wpAny 'b' X.A (setFlight e none) (fun _ s₃ => wpAny 'b' X.A (handleBy e X.env [.ExceptHandler (some (.Name c np)) (some n) (b₀ :: suite) hpos]) (SP X pins D) X.xe s₃) X.xe s₂) X.xe s₁) ?_ s H D (I.xb _) h) fun f s1 z => ?_)
 ·rintro H1 s1 e s' I1' ⟨a, T, Cv, dx, H', rfl, z⟩
  have I1 := I1'.lB
  obtain ⟨rfl, q⟩ := z.want
  have J : Inv X pins σ H' s' := I1.call' z.os z.un z.hok z.bare (fun _ h => nomatch h)
  have off : ∀ b, s1.heap.get? b = none -> ∀ p ∈ X.pn ++ pins, p.1 ≠ b := fun b e p hp w => by
   have := (I1.pin p hp).1
   rw [w, e] at this
   cases this
  have ap : Apart X pins H' s' a (some T) := ⟨I1.r9 hex z.na, z.fa, off a z.na, fun T' hT => by cases hT; exact ⟨I1.r9 hex z.nT, z.fT, off T z.nT⟩⟩
  have e0 := J.env0
  have f1 := e0.frames
  have f2 := e0.yH
  rw [hstk] at f1 f2
  refine leave2 (base := X.base) f1 f2 hfr z.ex fun h' T2 x' hT lf => ?_
  rw [<- hstk] at lf
  have I2 := J.left hex z.ex ap lf
  have ap2 : Apart X pins H' { s' with heap := h' } a (some T2) := ⟨ap.na, ap.fa, ap.pa, fun T' hT' => by
   cases hT'
   refine ⟨get_none (Nat.le_trans J.sz hT), J.hok.fresh hT, fun p hp w => ?_⟩
   have := Heap.lt_size (J.pin p hp).1
   rw [w] at this
   exact absurd this (Nat.not_lt.mpr hT)⟩
  exact EF I2 x' ap2 hex hC hB hg hm hN hi hk (fun oe h1 h2 h3 => by rw [<- h2]; exact hs a oe h1 h3) (q a z.fa) hdb
 ·have z := SP.lB z
  cases f with
  | next => exact wpAny_execs_nil z
  | _ => exact z
end
end L2
namespace L2
open PySem PySem.Spec PyProof.Rows
end L2
namespace L2
open PySem PySem.Spec PyProof.Rows
section
open PySem.W
variable {prog : Program} {w : World} {A : Around} {E : Value -> Shared -> Prop} {h : Heap} {g : Array GenState} {d : Drawn} {t : Nat} {os : OsState} {a C : Addr} {oe : Obj} {od : Option Obj} {K : Frag} {bmB : List Value} {B : String}
theorem xcls_by {tk : Tok} {Q : Value -> Shared -> Prop} (FB : ExcAttrBase B bmB) (kX : K.In h) (I : W.InstAt h a oe C od) (e1 : findIn K (.ref C) "__getattribute__" = some (some (.builtin "BaseException.__getattribute__")))
  (e3 : findIn K (.ref C) "__getattr__" = some none)
  (hq : ∀ R : Result -> Shared -> Prop, R (.ok (.ret (.ref C))) ⟨h, g, d, t, os⟩ -> codeAny 'i' A (.call (.builtin "BaseException.__getattribute__") ⟨[.ref a, .str "__class__" tk], []⟩) R ⟨h, g, d, t, os⟩) (q : Q (.ref C) ⟨h, g, d, t, os⟩) :
  wpAny 'i' A (getAttrBy (.ref a) (.str "__class__" tk) false) Q E ⟨h, g, d, t, os⟩ := by
 have m0 := I.type (M := model prog w)
 have m1 := looks_findIn (M := model prog w) kX e1
 have L2 := looks_findIn (M := model prog w) kX e3
 have b3 := FB.ga.bind (.ref a)
 have nx : (Value.builtin "BaseException.__getattribute__" == Value.builtin "object.__getattribute__") = false := by decide +kernel
 unfold getAttrBy
 repeat (any_goals (first | assumption | with_reducible refine m0.at ?_ | with_reducible refine m1.at ?_ | with_reducible refine L2.at ?_ | wp_step))
 all_goals (refine hq _ ?_)
 repeat (any_goals (first | wp_step | assumption))
theorem u5 {M : Model} {nameV : Value} {Q : Unit -> Shared -> Prop} (kX : K.In h) (I : W.InstAt h a oe C od) (hb : mroIn K C (.type "BaseException") = some true) (hq : Q () ⟨h, g, d, t, os⟩) :
  wpAny M A (checkBuiltinCall "BaseException.__getattribute__" ⟨[.ref a, nameV], []⟩) Q E ⟨h, g, d, t, os⟩ := by
 have kd : builtinKind "BaseException.__getattribute__" = some .slot := by decide +kernel
 have hs : splitId "BaseException.__getattribute__" = some ("BaseException", "__getattribute__") := by decide +kernel
 have m0 := I.type (M := M)
 have m1 := looks_mroIn (M := M) kX hb
 have ag := F.args_bexc_ga (.ref a) nameV
 simp only [checkBuiltinCall, hs, kd]
 refine wpAny_bind ?_
 unfold isInstance
 repeat (first | with_reducible refine m0.at ?_ | with_reducible refine m1.at ?_ | wp_step)
 exact hq
theorem BD {tk : Tok} {Q : Fin -> Shared -> Prop} (kX : K.In h) (I : W.InstAt h a oe C od) (e2 : findIn K (.ref C) "__class__" = some (some 'q')) (hm : mroIn K C (.type "object") = some true) (hq : Q (.done (.ret (.ref C))) ⟨h, g, d, t, os⟩) :
  wpAny 'i' A (Builtin.«object.__getattribute__» ⟨[.ref a, .str "__class__" tk], []⟩) Q E ⟨h, g, d, t, os⟩ := by
 have tc : Shared.TypeIs ⟨h, g, d, t, os⟩ 'q' "getset_descriptor" := F.typeOf_object_class
 have m0 := I.type (M := model prog w)
 have m1 := looks_findIn (M := model prog w) kX e2
 have p5 := F.typeOf_object_class
 have p6 := F.slot_gs_get.lookup
 have p7 := F.slot_gs_set.lookup
 repeat (any_goals (first | assumption | with_reducible refine m0.at ?_ | with_reducible refine m1.at ?_ | wp_step))
 refine W.class_get (s := ⟨h, g, d, t, os⟩) kX I hm ?_
 repeat (any_goals (first | wp_step | assumption))
theorem Cy {Q : Option Value -> Shared -> Prop} (FB : ExcAttrBase B bmB) (kX : K.In h) (I : W.InstAt h a oe C od) (e1 : findIn K (.ref C) "__getattribute__" = some (some (.builtin "BaseException.__getattribute__"))) (e2 : findIn K (.ref C) "__class__" = some (some 'q')) (e3 : findIn K (.ref C) "__getattr__" = some none)
  (hb : mroIn K C (.type "BaseException") = some true) (hm : mroIn K C (.type "object") = some true) (hq : Q (some (.ref C)) ⟨h, g, d, t + 1, os⟩) : wpAny 'i' A (getAttr? (.ref a) "__class__") Q E ⟨h, g, d, t, os⟩ := by
 unfold getAttr? getAttrBy?
 refine wpAny_bind (wpAny_mkText (wpAny_bind (wpAny_attempt (xcls_by FB kX I e1 e3 (fun R hR => codeAny_call_builtin FB.ga.plain F.entry_bexc_ga (u5 kX I hb (BD kX I e2 hm hR))) ?_))))
 exact wpAny_pure hq
structure XIsi (K : Frag) (C : Addr) : Prop where
 ga : findIn K (.ref C) "__getattribute__" = some (some (.builtin "BaseException.__getattribute__"))
 cl : findIn K (.ref C) "__class__" = some (some 'q')
 gt : findIn K (.ref C) "__getattr__" = some none
 bs : mroIn K C (.type "BaseException") = some true
 ob : mroIn K C (.type "object") = some true
 is : ∃ cd, clsIn K C = some cd
theorem Bf (FB : ExcAttrBase B bmB) (Z : XIsi K C) : KitX K (.ref a) (.ref C) (fun h => W.InstAt h a oe C od) where
 ty := fun _ _ _ I => I.type
 it := fun _ _ X _ => by
  obtain ⟨cd, hc⟩ := Z.is
  unfold clsIn at hc
  split at hc
  ·next ho =>
   intro A' Q' E' s' k q
   unfold isType loadHead
   refine wpAny_bind (wpAny_loadPart (k C _ (X C _ ho)) ?_)
   exact wpAny_pure q
  ·cases hc
 ne := fun hh tq d1 is n1 s1 X htp => by
  obtain ⟨cd, hc⟩ := Z.is
  refine Bool.eq_false_iff.mpr (fun q => ?_)
  have e : C = tq := Value.ref.inj (beq_iff_eq.mp q)
  subst e
  unfold clsIn at hc
  split at hc
  ·next ho =>
   cases (X C _ ho).symm.trans htp
  ·cases hc
 ca := fun {_ _ _ _ _ s} X I k => by
  obtain ⟨h, g, d, t, os⟩ := s
  exact Cy FB X I Z.ga Z.cl Z.gt Z.bs Z.ob k
end
theorem B7 : ∀ {ys : List Addr} {its : List Value}, Vals (ys.map V.ref) its -> its = ys.map Value.ref
 | [], _, .nil => rfl
 | y :: ys, _, .cons r rs => by rw [B7 rs, show _ = Value.ref y from r]; rfl
section
variable {X : Cx} {C a : Addr} {oe : Obj} {B : String} {bmB : List Value}
theorem EA (FB : ExcAttrBase B bmB) (Z : XIsi X.K C) (hc : oe.cls = .ref C) (hd : ∃ vs, oe.data = .fields vs) (hn : oe.dict = none) : gL (X.hand a oe) (.builtin "isinstance") (fun xs H Q => ∃ v b, xs = [.ref a, v] /\
  ((∃ c, RelV v c /\ (∀ u, RelV v u -> u = c) /\ PySem.W.kitOne X.K (.ref C) c = some b) \/ ∃ (tp : Addr) (ys : List Addr), v = .ref tp /\ H tp = some (.tup (ys.map V.ref)) /\ PySem.W.kitAny X.K (.ref C) (ys.map Value.ref) = some b) /\ Q (.bl b) H) := by
 intro pins s σ H xs us Q I r h
 obtain ⟨v, b, rfl, h1, q⟩ := h
 obtain ⟨u, w, rfl, ru, rw'⟩ := r.two
 cases (show u = Value.ref a from ru)
 have pa := (I.pin (a, oe) (List.mem_cons_self ..)).1
 obtain ⟨vs, hdt⟩ := hd
 have J : PySem.W.InstAt s.heap a oe C none := ⟨pa, hc, by unfold PySem.W.notCls; rw [hdt], by rw [hn]; trivial⟩
 rcases h1 with ⟨c, rc, uniq, e⟩ | ⟨tp, ys, rfl, ht, e⟩
 ·cases uniq w rw'
  exact PySem.W.kia_one (Bf FB Z) I.kIn J e 'C' fun tk => ⟨.bl b, H, I.tok tk, rfl, q⟩
 ·cases (show w = Value.ref tp from rw')
  obtain ⟨_, its, rv, ob, z1, z2⟩ := (show gu X.prog X.w H s.heap tp (.tup (ys.map V.ref)) from I.hok tp _ ht)
  obtain ⟨z3, n, z4⟩ := z2
  have ei : its = ys.map Value.ref := B7 rv
  subst ei
  obtain ⟨oc, odd, odt, osl⟩ := ob
  have z5 : oc = Value.type "tuple" := z3
  have z6 : odt = .seq (ys.map Value.ref).toArray n := z4
  subst z5 z6
  exact PySem.W.kia_tup (Bf FB Z) I.kIn J z1 e 'C' fun tk => ⟨.bl b, H, I.tok tk, rfl, q⟩
end
end L2
namespace L2
open PySem PySem.Spec PyProof.Rows
noncomputable def tIsiX (i : Nat) (a : Addr) (b : Bool) : TE := fun σ H Q => σ[i]? = some 'X' /\ Q (.bl b) H
noncomputable def tIsiT (i : Nat) (a : Addr) (ys : List Addr) (b : Bool) : TE := fun σ H Q => σ[i]? = some 'X' /\ ∀ p, H p = none -> Q (.bl b) (upd H p (.tup (ys.map V.ref)))
section
variable {X : Cx} {C a D : Addr} {oe : Obj} {B : String} {bmB : List Value} {i : Nat} {n x y T : Str} {p p1 p2 pos : Pos} {b : Bool}
theorem pe_isiO (FB : ExcAttrBase B bmB) (Z : XIsi X.K C) (hc : oe.cls = .ref C) (hd : ∃ vs, oe.data = .fields vs) (hn : oe.dict = none) (hm : X.mg "isinstance" = none) (hD : X.mg y = some (.ref D)) (hb : PySem.W.kitOne X.K (.ref C) (.ref D) = some b)
  (hN : X.N[i]? = some n := by rfl) (hv : Vis X.env.scope n := by first | exact Or.inl rfl | exact Or.inr (Or.inl rfl) | exact Or.inr (Or.inr rfl)) (hd1 : (n == ("__debug__" : Str)) = false := by decide) (hd2 : (n == ("__classdict__" : Str)) = false := by decide)
  (hg : Gl (X.hand a oe) "isinstance" := by rfl) (hgD : Gl (X.hand a oe) y := by rfl) (hd3 : (y == ("__debug__" : Str)) = false := by decide)
  (hst : starEach [.Name n p1, .Name y p2] X.env = [(false, eval (.Name n p1) X.env), (false, eval (.Name y p2) X.env)] := by rfl) (hst2 : starEach [.Name y p2] X.env = [(false, eval (.Name y p2) X.env)] := by rfl) (hpl : (backTo pos (starEach [.Name y p2] X.env)).any (·.1) = false := by rfl) :
  PE (X.hand a oe) (.Call (.Name "isinstance" p) [.Name n p1, .Name y p2] [] pos) (tIsiX i a b) := by
 have vD : PE (X.hand a oe) (.Name y p2) (tC (.ref D)) := fun pins s σ H Q I h => lL I hgD hD ⟨.ref D, H, I, rfl, h⟩ hd3
 refine PE.imp (kn (X := X.hand a oe) (EA FB Z hc hd hn) hg hm boot_isinstance (cL (pv i hN hv hd1 hd2) (cL vD iJ hst2) (by rw [hst, hst2])) (by decide) (by decide) (by rw [hst, hst2]) hpl) fun σ H Q h => ?_
 obtain ⟨e1, q⟩ := h
 exact ⟨.ref a, e1, .ref D, b, rfl, .inl ⟨.ref D, rfl, fun u hu => hu, hb⟩, q⟩
end
noncomputable def tRefs (ys : List Addr) : TA := fun _ H Q => Q (ys.map V.ref) H
section
variable {X : Cx} {C a D : Addr} {oe : Obj} {B : String} {bmB : List Value} {i : Nat} {n x y : Str} {T : String} {p p1 p2 pos : Pos} {b : Bool} {ys : List Addr} {es : List Expr}
theorem pe_isiB (FB : ExcAttrBase B bmB) (Z : XIsi X.K C) (hc : oe.cls = .ref C) (hd : ∃ vs, oe.data = .fields vs) (hn : oe.dict = none) (hm : X.mg "isinstance" = none) (hmT : X.mg y = none) (hvT : bootBuiltins y = some (.type T)) (hb : PySem.W.kitOne X.K (.ref C) (.type T) = some b)
  (hN : X.N[i]? = some n := by rfl) (hv : Vis X.env.scope n := by first | exact Or.inl rfl | exact Or.inr (Or.inl rfl) | exact Or.inr (Or.inr rfl)) (hd1 : (n == ("__debug__" : Str)) = false := by decide) (hd2 : (n == ("__classdict__" : Str)) = false := by decide)
  (hg : Gl (X.hand a oe) "isinstance" := by rfl) (hgT : Gl (X.hand a oe) y := by rfl) (hy : y ≠ "__name__" := by decide) (hd3 : (y == ("__debug__" : Str)) = false := by decide)
  (hst : starEach [.Name n p1, .Name y p2] X.env = [(false, eval (.Name n p1) X.env), (false, eval (.Name y p2) X.env)] := by rfl) (hst2 : starEach [.Name y p2] X.env = [(false, eval (.Name y p2) X.env)] := by rfl) (hpl : (backTo pos (starEach [.Name y p2] X.env)).any (·.1) = false := by rfl) :
  PE (X.hand a oe) (.Call (.Name "isinstance" p) [.Name n p1, .Name y p2] [] pos) (tIsiX i a b) := by
 refine PE.imp (kn (X := X.hand a oe) (EA FB Z hc hd hn) hg hm boot_isinstance (cL (pv i hN hv hd1 hd2) (cL (pe_tyN (X := X.hand a oe) (pos := p2) hgT hmT hvT hy hd3) iJ hst2) (by rw [hst, hst2])) (by decide) (by decide) (by rw [hst, hst2]) hpl) fun σ H Q h => ?_
 obtain ⟨e1, q⟩ := h
 exact ⟨.ref a, e1, .ty T, b, rfl, .inl ⟨.type T, rfl, fun u hu => hu, hb⟩, q⟩
theorem pe_isiT {j} (FB : ExcAttrBase B bmB) (Z : XIsi X.K C) (hc : oe.cls = .ref C) (hd : ∃ vs, oe.data = .fields vs) (hn : oe.dict = none) (hm : X.mg "isinstance" = none) (hT : PA (X.hand a oe) es (tRefs ys)) (hl : ys.length <= sizeLine) (hb : PySem.W.kitAny X.K (.ref C) (ys.map Value.ref) = some b)
  (hN : X.N[i]? = some n := by rfl) (hv : Vis X.env.scope n := by first | exact Or.inl rfl | exact Or.inr (Or.inl rfl) | exact Or.inr (Or.inr rfl)) (hd1 : (n == ("__debug__" : Str)) = false := by decide) (hd2 : (n == ("__classdict__" : Str)) = false := by decide)
  (hg : Gl (X.hand a oe) "isinstance" := by rfl)
  (hst : starEach [.Name n p1, .Tuple es j p2] X.env = [(false, eval (.Name n p1) X.env), (false, eval (.Tuple es j p2) X.env)] := by rfl) (hst2 : starEach [.Tuple es j p2] X.env = [(false, eval (.Tuple es j p2) X.env)] := by rfl) (hpl : (backTo pos (starEach [.Tuple es j p2] X.env)).any (·.1) = false := by rfl) :
  PE (X.hand a oe) (.Call (.Name "isinstance" p) [.Name n p1, .Tuple es j p2] [] pos) (tIsiT i a ys b) := by
 refine PE.imp (kn (X := X.hand a oe) (EA FB Z hc hd hn) hg hm boot_isinstance (cL (pv i hN hv hd1 hd2) (cL (pe_tup hT) iJ hst2) (by rw [hst, hst2])) (by decide) (by decide) (by rw [hst, hst2]) hpl) fun σ H Q h => ?_
 obtain ⟨e1, q⟩ := h
 exact ⟨.ref a, e1, by rw [List.length_map]; exact hl, fun tp htp => ⟨.ref tp, b, rfl, .inr ⟨tp, ys, rfl, av, hb⟩, q tp htp⟩⟩
end
end L2
namespace L2
open PySem PySem.Spec PyProof.Rows
noncomputable def DEat (K : PySem.W.Frag) (E : XK) (own : Bool) (X : Cx) (pins : List 'a') (σ : St) (e : Expr) (f : ak -> M Dat) : Prop := PEat X pins σ e (tD K (WE K E) own f)
noncomputable def DSat (K : PySem.W.Frag) (E : XK) (ro : Bool) (X : Cx) (OL O O' : List Nat) (pins : List 'a') (σ : St) (st : List Stmt) (g : ak -> M Flo) : Prop := ∀ F0 H0, PSsAt X pins σ st (tS K (WE K E) ro F0 H0 OL O O' g)
theorem PEat.imp {X : Cx} {pins : List 'a'} {σ : St} {e : Expr} {t u : TE} (h : PEat X pins σ e t) (k : ∀ H Q, u σ H Q -> t σ H Q) : PEat X pins σ e u := fun s H Q I q => h s H Q I (k H Q q)
theorem PSat.imp {X : Cx} {pins : List 'a'} {σ : St} {st : Stmt} {t u : TS} (h : PSat X pins σ st t) (k : ∀ D H, u D σ H -> t D σ H) : PSat X pins σ st u := fun s H D I q => h s H D I (k D H q)
section
variable {X : Cx} {pins : List 'a'} {σ : St} {K : PySem.W.Frag} {ro : Bool} {x : Str} {e : Expr} {es : List Expr} {fr : ak -> M (List Dat)} {p pos : Pos} {E : XK} {CX : CXT}
theorem dea_call {k nN n : Nat} {fad : Addr} {fd : FuncData} {ps : List Str} {g : ak -> M Flo} (F : bx X.prog X.w X.K X.mg X.base CX k fad fd ps (spX K ro (cV nN n g) n)) (hx : n5 CX X pins σ E) (hr : kg k X.A) (hm : X.mg x = some (.ref fad)) (hk : PySem.W.keepIn X.K (.ref fad) = true) (hb : Binds X.K fd ps [])
  (ha : DA K (WE K E) X (e :: es) fr) (hg : Gl X x := by rfl) (hdb : 'c' = false := by decide) (hst : starEach (e :: es) X.env = 'k' :: starEach es X.env := by rfl) (hpl : 'm'.any (·.1) = false := by rfl) :
  DEat K E ro X pins σ 'G' (fL (cV nN n g) fr) := by
 refine PEat.imp (at_call F hx hr hm hk hb .nil ha hg hdb hst hpl) fun H Q h => ?_
 obtain ⟨F, ρ, r, s, p⟩ := rd_L h
 refine ⟨F, ρ, r, s, ?_⟩
 cases e1 : fr ρ with
 | error z => rw [e1] at p; exact p
 | ok ds =>
  rw [e1] at p
  intro vs F' H' st q
  obtain ⟨F1, es1, s1, q1, z⟩ := p vs F' H' st q
  show spX K ro (cV nN n g) n (vs ++ []) H' Q E
  rw [List.append_nil]
  by_cases hl : es1.length = n
  ·exact ⟨F1, es1, s1, q1, hl, z⟩
  ·rw [oN hl] at z
   exact aL.stuck z
end
noncomputable def uc (O : List Nat) (f : ak -> M Dat) : ak -> M Flo := fun ρ => (f (erase O ρ)).bind fun _ => .ok (.nx ρ)
@[simp] theorem e_dropB (O : List Nat) (f : ak -> M Dat) (ρ : ak) : uc O f ρ = (f (erase O ρ)).bind fun _ => .ok (.nx ρ) := id rfl
section
variable {X : Cx} {pins : List 'a'} {σ : St} {K : PySem.W.Frag} {ro own : Bool} {OL O : List Nat} {E : XK} {e : Expr} {f : ak -> M Dat} {pos : Pos}
theorem dsa_expr (h : DEat K E own X pins σ e f) (hs : swapsWith e none pos.line X.env = pure false := by rfl) : DSat K E ro X OL O O pins σ [.Expr e pos] (uc O f) := fun F0 H0 => at_one (PSat.imp (at_expr h hs) fun D H ⟨FB, F, ρ, r, p⟩ => by
 refine cq r.mW r.st.fh (fun e he => p.qS r.st (by unfold uc; rw [he]; rfl)) fun d hd v F1 H1 s1 q => ?_
 have z : uc O f ρ = .ok (.nx ρ) := by unfold uc; rw [hd]; rfl
 rw [z] at p
 exact p σ F1 H1 (r.step s1))
end
end L2
namespace L2
open PySem PySem.Spec PyProof.Rows
end L2
namespace L2
open PySem PySem.Spec PyProof.Rows
theorem Rep.back {K : PySem.W.Frag} {F0 H0 F1 H1 FB F H : Hp} {O : List Nat} {σ : St} {ρ : ak} (r : Rep K F1 H1 FB O F H σ ρ) (s : Step F0 H0 F1 H1) : Rep K F0 H0 FB O F H σ ρ :=
 ⟨s.trans r.st, r.fb, r.len, r.fz, fun i d e h => let ⟨v, z, q⟩ := r.ow i d e h; ⟨v, z, q.back s.hh⟩, r.ap⟩
end L2
namespace L2
open PySem PySem.Spec PyProof.Rows
noncomputable abbrev xArgs (vs : List Value) : Obj := { cls := .type "tuple", data := .seq vs.toArray }
noncomputable abbrev Cz (C t : Addr) : Obj := { cls := .ref C, data := .fields #[.ref t, .none, .none, .none, .bool false, .none] }
noncomputable abbrev uO (h : Heap) (C : Addr) (vs : List Value) : Heap := (h.push (xArgs vs)).push (Cz C h.objs.size)
section
variable {prog : Program} {w : World} {A : Around} {E : Value -> Shared -> Prop} {h : Heap} {g : Array GenState} {d : Drawn} {t : Nat} {os : OsState}
variable {nm q : Str} {C N fI : Addr} {bs tl bmB us : List Value} {hdct ab : Bool} {sn : List Str} {sub : List Value} {col : Option Bool} {dd : Option Addr} {k0 k1 k2 k3 k5 : Option Value} {B newId initId : String} {mN : Str -> Option Value} {oI : Obj}
theorem rn {b : Addr} {o : Obj} (e : h.get? b = some o) : (uO h C us).get? b = some o := Heap.get?_push_of_some _ (Heap.get?_push_of_some _ e)
theorem xj : (uO h C us).get? (h.objs.size + 1) = some (Cz C h.objs.size) := by
 have z := Heap.get?_push_size (h.push (xArgs us)) (o := Cz C h.objs.size) rfl
 rwa [Heap.size_push] at z
theorem x_type (F : ExcBaseFacts B newId initId bmB) (T : OwnTail h bmB tl) (hC : h.get? C = some (excClassObj nm q C N bs tl hdct sn sub ab col dd k0 k1 k2 k3 k5 newId)) (on : h.Ns N mN) (hi : mN "__init__" = some (.ref fI))
  (ho : h.get? fI = some oI) (hcl : oI.cls = .type "function") (hl : us.length <= sizeLine) {Q : Fin -> Shared -> Prop}
  (z : wpAny 'i' A (call (.ref fI) (.ref (h.objs.size + 1) :: us)) (fun r s' => r = .none /\ Q (.done (.ret (.ref (h.objs.size + 1)))) s') E ⟨uO h C us, g, d, t, os⟩) :
  wpAny 'i' A (Builtin.«type.__call__» ⟨.ref C :: us, []⟩) Q E ⟨h, g, d, t, os⟩ := by
 have k : ∀ b o, h.get? b = some o -> (uO h C us).get? b = some o := fun b o e => rn e
 have oC := k _ _ hC
 have me : (Value.ref C :: tl).contains (.ref C) = true := by simp
 have nw : (uO h C us).get? (h.objs.size + 1) = some (Cz C h.objs.size) := xj
 repeat (first | with_reducible refine wpAny_madeBy_exc hC ?_ | with_reducible refine wpAny_loadPart_at hC ?_ | wp_step)
 refine codeAny_call_builtin_code (Code.quiet_builtin _ F.quiet) (wpAny_check_new_subT F T hC (codeAny_exc_new_subT F T hC ?_ hl))
 show wpAny _ _ _ _ _ (⟨uO h C us, g, d, t, os⟩ : Shared)
 unfold isInstance
 repeat (first | (with_reducible refine wpAny_isSubtype_exc oC ?_; rw [me]) | with_reducible refine wpAny_loadPart_at nw ?_ | wp_step)
 refine wpAny_typeLookup_tail oC (on.keeps k) (T.keeps k) F.mroIs F.init.lookup ?_
 rw [hi]
 unfold bindSpecial
 refine wpAny_holding (wpAny_bind (wpAny_bind (wpAny_typeOf (T := "function") ⟨_, k _ _ ho, hcl⟩ ?_)))
 rw [if_pos (by decide)]
 refine wpAny_pure (wpAny_bind (thn z fun r s' y => ?_))
 obtain ⟨e, y⟩ := y
 subst e
 wp_walk
 exact y
theorem x_call (F : ExcBaseFacts B newId initId bmB) (T : OwnTail h bmB tl) (hC : h.get? C = some (excClassObj nm q C N bs tl hdct sn sub ab col dd k0 k1 k2 k3 k5 newId)) (on : h.Ns N mN) (hi : mN "__init__" = some (.ref fI))
  (ho : h.get? fI = some oI) (hcl : oI.cls = .type "function") (hl : us.length <= sizeLine) {Q : Value -> Shared -> Prop}
  (z : wpAny 'i' (A.under (.builtin "type.__call__" ⟨.ref C :: us, []⟩)) (call (.ref fI) (.ref (h.objs.size + 1) :: us)) (fun r s' => r = .none /\ Q (.ref (h.objs.size + 1)) s') E ⟨uO h C us, g, d, t, os⟩) :
  wpAny 'i' A (call (.ref C) us) Q E ⟨h, g, d, t, os⟩ := by
 have l1 := tc_lookup
 have l2 := tc_bind (.ref C)
 have ty : (⟨h, g, d, t, os⟩ : Shared).TypeIs (.ref C) "type" := ⟨_, hC, rfl⟩
 refine wpAny_call (codeAny_of_tree ?_)
 show wpAny _ _ (callAny (.ref C) _) _ _ _
 repeat (any_goals (first | assumption | with_reducible refine wpAny_loadPart_at hC ?_ | wp_step))
 exact ⟨rfl, codeAny_call_builtin_at (Code.quiet_builtin _ 'E') entry_typeCall (wpAny_check_type_call_sub hC (x_type F T hC on hi ho hcl hl z))⟩
end
theorem ns_some {K : PySem.W.Frag} {h : Heap} {N : Addr} {m : Str -> Option Value} {n : Str} {v : Value} (X : K.In h) (G : h.Ns N m) (e : PySem.W.nsIn K N n = some (some v)) : m n = some v := by
 obtain ⟨o, es, ep, g1, g2, _, g3⟩ := G
 unfold PySem.W.nsIn at e
 cases q : K.lookup N with
 | none => rw [q] at e; cases e
 | some ob =>
  have z := X _ _ q
  rw [g1] at z
  cases z
  obtain ⟨c, d, dt, sl⟩ := o
  cases (show dt = .dict es ep from g2)
  rw [q] at e
  dsimp only at e
  cases f : es.toList.find? (·.key.isStr n) with
  | none => rw [f] at e; dsimp only at e; split at e <;> cases e
  | some en =>
   rw [f] at e
   cases e
   rw [<- g3]
   unfold nsFind findBy
   rw [<- Array.find?_toList, f]
   rfl
noncomputable def qr (K : PySem.W.Frag) (C : Addr) (bmB : List Value) (newId : String) (f : Addr) : Bool := match K.lookup C with
 | some ⟨.type "type", _, .cls cd, sl⟩ => (match cd.mro, sl.toList with
  | .ref C' :: tl, [_, _, _, _, some (.builtin n), _] => (n == newId && C' == C && !cd.hasDel) && (PySem.W.nsOkIn K cd.ns && PySem.W.tailIn K bmB tl) && (PySem.W.nsIn K cd.ns "__init__" == some (some (.ref f)))
  | _, _ => false)
 | _ => false
theorem wa {K : PySem.W.Frag} {h : Heap} {C f : Addr} {bmB : List Value} {newId : String} (X : K.In h) (q : qr K C bmB newId f = true) :
  ∃ tl N nm qn bs hdct sn sub ab col dd k0 k1 k2 k3 k5 mN, h.get? C = some (excClassObj nm qn C N bs tl hdct sn sub ab col dd k0 k1 k2 k3 k5 newId) /\ h.Ns N mN /\ mN "__init__" = some (.ref f) /\ OwnTail h bmB tl := by
 unfold qr at q
 split at q
 next dd cd sl ho =>
  split at q
  next C' tl k0 k1 k2 k3 n k5 hm hs =>
   obtain ⟨c1, c2, mro, c4, c5, c6, c7, c8, c9, c10, del⟩ := cd
   obtain ⟨l⟩ := sl
   simp only [Bool.and_eq_true] at q
   obtain ⟨⟨⟨⟨a2, a1⟩, a3⟩, a5, a4⟩, a6⟩ := q
   have b1 : C' = C := beq_iff_eq.mp a1
   have b2 : n = newId := beq_iff_eq.mp a2
   have b3 : del = false := by cases del <;> first | rfl | cases a3
   have b4 : mro = Value.ref C' :: tl := hm
   have b5 : l = [k0, k1, k2, k3, some (.builtin n), k5] := hs
   subst b1 b2 b3 b4 b5
   exact ⟨tl, c4, c1, c5, c2, c6, c7, c8, c9, c10, dd, k0, k1, k2, k3, k5, _, X _ _ ho, .of_isNs (PySem.W.isNs_of_in X a5), ns_some X (.of_isNs (PySem.W.isNs_of_in X a5)) (beq_iff_eq.mp a6), PySem.W.tail_of_in X a4⟩
  next => cases q
 next => cases q
theorem xnamed2 {K : PySem.W.Frag} {C f : Addr} {bmB : List Value} {newId : String} (q : qr K C bmB newId f = true) : zx K C bmB := fun _ X => by
 obtain ⟨tl, N, nm, qn, bs, hdct, sn, sub, ab, col, dd, k0, k1, k2, k3, k5, mN, o1, o2, o3, o4⟩ := wa X q
 exact ⟨tl, N, nm, qn, bs, hdct, sn, sub, ab, col, dd, k0, k1, k2, k3, k5, newId, o1, o4⟩
end L2
namespace L2
open PySem PySem.Spec PyProof.Rows
noncomputable def rp : List Value -> Bool
 | .ref _ :: r => rp r
 | [.type a, .type b, .type c, .type d] => a == "ValueError" && b == "Exception" && c == "BaseException" && d == "object"
 | _ => false
theorem CA (me : Value) : ∀ {l : List Value}, rp l = true -> refuseLoop me "__setattr__" l = pure ()
 | .ref _ :: _, e => by rw [refuseLoop_ref]; exact CA me e
 | [.type a, .type b, .type c, .type d], e => by
  simp only [rp, Bool.and_eq_true, beq_iff_eq] at e
  obtain ⟨⟨⟨rfl, rfl⟩, rfl⟩, rfl⟩ := e
  exact PySem.F.store_ValueError.passes me
theorem ve_obj : ∀ {l : List Value}, rp l = true -> l.contains (.type "object") = true
 | .ref _ :: r, e => by rw [List.contains_cons, ve_obj (l := r) e, Bool.or_true]
 | [.type a, .type b, .type c, .type d], e => by
  simp only [rp, Bool.and_eq_true, beq_iff_eq] at e
  obtain ⟨⟨⟨rfl, rfl⟩, rfl⟩, rfl⟩ := e
  decide +kernel
structure xf (K : PySem.W.Frag) (C : Addr) (f : Str) : Prop where
 sa : PySem.W.findIn K (.ref C) "__setattr__" = some (some (.builtin "object.__setattr__"))
 no : PySem.W.findIn K (.ref C) f = some none
 cd : ((PySem.W.clsIn K C).any fun cd => rp cd.mro && cd.hasDict) = true
section
open PySem.W
variable {prog : Program} {w : World} {A : Around} {E : Value -> Shared -> Prop} {s : Shared} {a C : Addr} {oe : Obj} {od : Option Obj} {K : Frag} {f : Str} {v : Value}
theorem x_open {tk : Tok} {R : Result -> Shared -> Prop} (X : K.In s.heap) (I : W.InstAt s.heap a oe C od) (Z : xf K C f)
  (z : ∀ b, wpAny 'i' A.in1 (Builtin.ObjectAttr.storeInOwnDict (.ref a) (.ref C) (.str f tk) f v b)
   (fun fin s' => match fin with | .done y => R (.ok y) s' | .again c' => c'.quiet = true /\ codeAny 'i' A c' R s') (fun e s' => R (.error e) s') s) :
  codeAny 'i' A (.call (.builtin "object.__setattr__") ⟨[.ref a, .str f tk, v], []⟩) R s := by
 have SF := PySem.F.store_object
 obtain ⟨cd, hc, ho⟩ := any_some Z.cd
 rw [Bool.and_eq_true] at ho
 have ne : cd.mro.isEmpty = false := by cases q : cd.mro with | nil => rw [q] at ho; cases ho.1 | cons _ _ => rfl
 have up : Looks 'i' s.heap (isInstance (.ref a) (.type "object")) true := I.type.andThen (looks_mroIn X (by unfold mroIn; rw [hc, Option.bind_some, if_neg (by rw [ne]; decide), ve_obj ho.1]))
 refine codeAny_call_builtin SF.slot.plain SF.entry (@check_slot 'i' _ _ s "object.__setattr__" "object" "__setattr__" (.ref a) [.str f tk, v] [] _ SF.kind SF.split up (SF.args (.ref a) (.str f tk) v) ?_)
 rw [osa_eq, refuse_eq]
 have hm : Looks 'i' s.heap (mroOf (.ref C)) cd.mro := (looks_clsIn X hc).andThen .now
 refine wpAny_bind (wpAny_bind (I.type.here (wpAny_bind (hm.here ?_))))
 rw [CA _ ho.1]
 exact wpAny_pure (wpAny_bind (I.type.here (wpAny_bind ((looks_findIn X Z.no).here (wpAny_bind (wpAny_pure (z _)))))))
theorem x_set1 {vs : Array Value} {Q : Unit -> Shared -> Prop} (X : K.In s.heap) (Z : xf K C f) (he : s.heap.get? a = some ⟨.ref C, none, .fields vs, #[]⟩)
  (z : ∀ h', h'.get? a = some ⟨.ref C, some s.heap.objs.size, .fields vs, #[]⟩ -> h'.Ns1 s.heap.objs.size (fun y => if y = f then some v else none) -> (∀ b o, b ≠ a -> s.heap.get? b = some o -> h'.get? b = some o) -> Q () { s with heap := h', toks := s.toks + 2 }) :
  wpAny 'i' A (setAttr (.ref a) f v) Q E s := by
 have I : W.InstAt s.heap a ⟨.ref C, none, .fields vs, #[]⟩ C none := ⟨he, rfl, rfl, trivial⟩
 refine set_plain X I Z.sa (x_open (s := { s with toks := s.toks + 1 }) X I Z fun b => ?_)
 obtain ⟨cd, hc, ho⟩ := any_some Z.cd
 rw [Bool.and_eq_true] at ho
 refine wpAny_bind (wpAny_pure (wpAny_bind (wpAny_bind (wpAny_loadPart he (wpAny_bind (Looks.here (s := { s with toks := s.toks + 1 }) (looks_clsIn X hc) ?_))))))
 rw [ho.2]
 have ne : a ≠ s.heap.objs.size := Nat.ne_of_lt (Heap.lt_size he)
 have h1 : (s.heap.push emptyDict).get? a = some ⟨.ref C, none, .fields vs, #[]⟩ := Heap.get?_push_of_some _ he
 refine wpAny_bind (wpAny_alloc' (wpAny_bind (wpAny_update' h1 (wpAny_pure ?_))))
 have h2 : ((s.heap.push emptyDict).update a fun o => { o with dict := some s.heap.objs.size }).get? s.heap.objs.size = some emptyDict := by
  rw [Heap.get?_update_other _ _ ne]; exact Heap.get?_push_size s.heap rfl
 have h3 : ((s.heap.push emptyDict).update a fun o => { o with dict := some s.heap.objs.size }).get? a = some ⟨.ref C, some s.heap.objs.size, .fields vs, #[]⟩ := Heap.get?_update_self _ h1 rfl
 refine wpAny_bind (wpAny_pure (wpAny_bind (wpAny_nsSet1 (m := fun _ => none) (Heap.Ns1.of_empty ⟨emptyDict, #[], _, h2, rfl, (fun e he => absurd he (by simp)), fun _ => rfl⟩) fun h' n1 sb => ?_)))
 obtain ⟨oD, esD, epD, c1, c2, c3⟩ := n1.count (Within.cons f v Within.nil)
 refine wpAny_bind (wpAny_lookBehind c1 (by rw [c2]; exact pastItsLine_dict (Nat.le_trans c3 (by rw [List.length_cons, List.length_nil, sizeLine_eq]; omega))) (wpAny_pure ?_))
 exact z h' ((sb.2 a ne).trans h3) n1 fun b o hb q => (sb.2 b (Nat.ne_of_lt (Heap.lt_size q))).trans (by rw [Heap.get?_update_other _ _ (Ne.symm hb)]; exact Heap.get?_push_of_some _ q)
theorem x_set2 {vs : Array Value} {dx : Addr} {mA : Str -> Option Value} {ns : List Str} {Q : Unit -> Shared -> Prop} (X : K.In s.heap) (Z : xf K C f) (he : s.heap.get? a = some ⟨.ref C, some dx, .fields vs, #[]⟩) (hd : s.heap.Ns1 dx mA) (hw : Within mA ns) (hl : ns.length <= 1000)
  (z : ∀ h', h'.Ns1 dx (fun y => if y = f then some v else mA y) -> Heap.SameBut dx s.heap h' -> Q () { s with heap := h', toks := s.toks + 2 }) :
  wpAny 'i' A (setAttr (.ref a) f v) Q E s := by
 obtain ⟨ob, es, ep, d1, d2⟩ := id hd
 have I : W.InstAt s.heap a ⟨.ref C, some dx, .fields vs, #[]⟩ C (some ob) := ⟨he, rfl, rfl, d1⟩
 refine set_plain X I Z.sa (x_open (s := { s with toks := s.toks + 1 }) X I Z fun b => ?_)
 obtain ⟨cd, hc, ho⟩ := any_some Z.cd
 rw [Bool.and_eq_true] at ho
 refine wpAny_bind (wpAny_pure (wpAny_bind (wpAny_bind (wpAny_loadPart he (wpAny_bind (Looks.here (s := { s with toks := s.toks + 1 }) (looks_clsIn X hc) ?_))))))
 rw [ho.2]
 refine wpAny_pure (a := some dx) (wpAny_bind (wpAny_pure (wpAny_bind (wpAny_nsSet1 (s := { s with toks := s.toks + 1 }) hd fun h' n1 sb => ?_))))
 obtain ⟨oD, esD, epD, c1, c2, c3⟩ := n1.count (Within.cons f v hw)
 refine wpAny_bind (wpAny_lookBehind c1 (by rw [c2]; exact pastItsLine_dict (Nat.le_trans c3 (by rw [List.length_cons, sizeLine_eq]; omega))) (wpAny_pure ?_))
 exact z h' n1 sb
end
end L2
namespace L2
open PySem PySem.Spec PyProof.Rows
section
open PySem.W
variable {prog : Program} {w : World} {A : Around} {E : Value -> Shared -> Prop} {s : Shared} {a C : Addr} {oe od : Obj} {K : Frag} {f : Str} {v : Value} {B : String} {bmB : List Value}
theorem xf.hd (Z : xf K C f) : hasDictIn K C = true := by
 obtain ⟨cd, hc, ho⟩ := any_some Z.cd
 rw [Bool.and_eq_true] at ho
 unfold hasDictIn
 rw [hc]
 exact ho.2
theorem x_ga {tk : Tok} {Q : Fin -> Shared -> Prop} (X : K.In s.heap) (I : W.InstAt s.heap a oe C (some od)) (Y : xf K C f) (hl : lookIn f od = some (some v)) (q : Q (.done (.ret v)) s) :
  wpAny 'i' A (Builtin.«object.__getattribute__» ⟨[.ref a, .str f tk], []⟩) Q E s := by
 have m0 := I.type (M := model prog w)
 have m1 := looks_find (M := model prog w) X I (findObj_own Y.hd Y.no rfl hl)
 unfold Builtin.«object.__getattribute__»
 exact wpAny_bind (wpAny_pure (wpAny_bind (wpAny_pure (wpAny_bind (m0.here (wpAny_bind (m1.here (wpAny_pure q))))))))
theorem x_get {ex : Bool} {Q : Value -> Shared -> Prop} (FB : ExcAttrBase B bmB) (X : K.In s.heap) (I : W.InstAt s.heap a oe C (some od)) (Z : XIsi K C) (Y : xf K C f) (hl : lookIn f od = some (some v)) (hh : handedIn v = true) (q : Q v { s with toks := s.toks + 1 }) :
  wpAny 'i' A (getAttr (.ref a) f ex) Q E s := by
 obtain ⟨h, g, d, t, os⟩ := s
 have m0 := I.type (M := model prog w)
 have m1 := looks_findIn (M := model prog w) X Z.ga
 have m2 := looks_findIn (M := model prog w) X Z.gt
 have b3 := FB.ga.bind (.ref a)
 have nx : (Value.builtin "BaseException.__getattribute__" == Value.builtin "object.__getattribute__") = false := by decide +kernel
 have run : ∀ {A' : Around} (R : Result -> Shared -> Prop), R (.ok (.ret v)) ⟨h, g, d, t + 1, os⟩ -> codeAny 'i' A' (.call (.builtin "BaseException.__getattribute__") ⟨[.ref a, .str f t], []⟩) R ⟨h, g, d, t + 1, os⟩ := fun {A'} R hR =>
  codeAny_call_builtin FB.ga.plain F.entry_bexc_ga (u5 X I Z.bs (x_ga (s := ⟨h, g, d, t + 1, os⟩) X I Y hl hR))
 have ho := handedOut_of hh
 unfold getAttr getAttrBy
 refine wpAny_bind (wpAny_mkText ?_)
 repeat (any_goals (first | assumption | with_reducible refine m0.at ?_ | with_reducible refine m1.at ?_ | with_reducible refine m2.at ?_ | wp_step))
 rw [show (ex && onTheHeap (Value.builtin "BaseException.__getattribute__")) = false by rw [show onTheHeap (Value.builtin "BaseException.__getattribute__") = false from rfl, Bool.and_false], if_neg Bool.false_ne_true]
 repeat (any_goals (first | assumption | wp_step))
 all_goals (refine run _ ?_)
 repeat (any_goals (first | wp_step | assumption))
 all_goals (first | (rw [ho]; exact wpAny_pure q) | exact q)
end
noncomputable def XO (a C : Addr) (dx : Option Addr) : HO := .ext fun h => ∃ vs : Array Value, vs[1]? = some .none /\ h.get? a = some ⟨.ref C, dx, .fields vs, #[]⟩
noncomputable def XD (d : Addr) (fs : List (Str × V)) : HO := .ext fun h => ∃ mA, h.Ns1 d mA /\ (∀ f, xg (fs.lookup f) (mA f)) /\ PySem.Within mA (fs.map (·.1))
section
variable {P : Program} {w : World} {H : Hp} {h : Heap} {a C d : Addr} {dx : Option Addr} {fs : List (Str × V)}
theorem xo_ok {vs : Array Value} (h1 : vs[1]? = some .none) (e : h.get? a = some ⟨.ref C, dx, .fields vs, #[]⟩) : gu P w H h a (XO a C dx) := ⟨⟨vs, h1, e⟩, ⟨_, e⟩, fun _ _ ⟨vs, q, e⟩ k => ⟨vs, q, k _ e⟩⟩
theorem xd_ok {mA : Str -> Option Value} (n : h.Ns1 d mA) (r : ∀ f, xg (fs.lookup f) (mA f)) (wi : PySem.Within mA (fs.map (·.1))) : gu P w H h d (XD d fs) :=
 ⟨⟨mA, n, r, wi⟩, (let ⟨o, _, _, e, _⟩ := n; ⟨o, e⟩), fun _ _ ⟨m, q, z⟩ k => ⟨m, q.at k, z⟩⟩
theorem Cw (x : gu P w H h a (XO a C dx)) : ∃ vs : Array Value, vs[1]? = some .none /\ h.get? a = some ⟨.ref C, dx, .fields vs, #[]⟩ := x.1
theorem xd_get (x : gu P w H h d (XD d fs)) : ∃ mA, h.Ns1 d mA /\ (∀ f, xg (fs.lookup f) (mA f)) /\ PySem.Within mA (fs.map (·.1)) := x.1
end
section
variable {X : Cx} {pins : List 'a'} {σ : St} {H H' : Hp} {s : Shared} {h' : Heap}
theorem Inv.turn {t' : Nat} (I : Inv X pins σ H s) (S : Addr -> Prop) (k : ∀ b o, ¬ S b -> s.heap.get? b = some o -> h'.get? b = some o) (same : ∀ b, ¬ S b -> H' b = H b)
  (mine : ∀ b, S b -> (∃ φ, H b = some (.ext φ)) \/ s.heap.get? b = none) (there : ∀ b o, S b -> s.heap.get? b = some o -> ∃ o', h'.get? b = some o') (new : ∀ b o, S b -> H' b = some o -> gu X.prog X.w H' h' b o) :
  Inv X pins σ H' { s with heap := h', toks := t' } := by
 have out : ∀ b u, H b = some u -> (∀ φ, u ≠ .ext φ) -> ¬ S b := fun b u e n z => by
  rcases mine b z with ⟨φ, q⟩ | q
  ·rw [e] at q; cases q; exact n φ rfl
  ·obtain ⟨o, r⟩ := (I.hok b u e).is
   rw [r] at q; cases q
 have off : ∀ b o, s.heap.get? b = some o -> H b = none -> ¬ S b := fun b o e n z => by
  rcases mine b z with ⟨φ, q⟩ | q
  ·rw [n] at q; cases q
  ·rw [e] at q; cases q
 refine I.un ⟨fun b o e n _ _ => k b o (off b o e n) e, fun b o e n _ _ => ⟨o.slots, k b o (off b o e n) e⟩, fun b o e n _ => by rw [same b (off b o e n)]; exact n, fun b o e _ => ?_, fun b xs e => ?_, fun b o u e => ?_, fun b ps e => ?_⟩ fun b u e => ?_
 ·by_cases z : S b
  ·exact there b o z e
  ·exact ⟨o, k b o z e⟩
 ·rw [same b (out b _ e fun _ z => nomatch z)]; exact e
 ·rw [same b (out b _ e fun _ z => nomatch z)]; exact e
 ·exact ⟨#[], by rw [same b (out b _ e fun _ z => nomatch z), Array.append_empty]; exact e⟩
 ·by_cases z : S b
  ·exact new b u z e
  ·rw [same b z] at e
   refine (I.hok b u e).zJ (fun c v hc q => k c v ?_ q) (fun c q => ?_) fun c xs q => ?_
   ·rcases hc with rfl | hc
    ·exact z
    ·exact out c _ hc fun _ z => nomatch z
   ·rw [same c (out c _ q fun _ z => nomatch z)]; exact q
   ·rw [same c (out c _ q fun _ z => nomatch z)]; exact q
end
section
variable {X : Cx} {pins : List 'a'} {σ : St} {H : Hp} {s : Shared} {A : Around} {E : Value -> Shared -> Prop} {a C d : Addr} {f : Str} {y : V} {u : Value}
theorem xset1_ok {Q : Unit -> Shared -> Prop} (I : Inv X pins σ H s) (e : H a = some (XO a C none)) (Z : xf X.K C f) (ry : RelV y u)
  (z : ∀ d s', H d = none -> d ≠ a -> Inv X pins σ (upd (upd H d (XD d [(f, y)])) a (XO a C (some d))) s' -> Q () s') : wpAny 'b' A (setAttr (.ref a) f u) Q E s := by
 obtain ⟨vs, v1, he⟩ := Cw (I.hok a _ e)
 have fr := I.hok.fresh (Nat.le_refl s.heap.objs.size)
 have ne : s.heap.objs.size ≠ a := fun q => by rw [q, e] at fr; cases fr
 refine x_set1 I.kIn Z he fun h' e1 n1 k => z s.heap.objs.size _ fr ne ?_
 refine I.turn (fun b => b = a \/ b = s.heap.objs.size) (fun b o nb q => k b o (fun r => nb (.inl r)) q) (fun b nb => by rw [ar fun r => nb (.inl r), ar fun r => nb (.inr r)]) (fun b hb => ?_) (fun b o hb q => ?_) fun b o hb q => ?_
 ·rcases hb with rfl | rfl
  ·exact .inl ⟨_, e⟩
  ·exact .inr (get_none 'n')
 ·rcases hb with rfl | rfl
  ·exact ⟨_, e1⟩
  ·rw [get_none 'n'] at q; cases q
 ·rcases hb with rfl | rfl
  ·rw [av] at q; cases q
   exact xo_ok v1 e1
  ·rw [ar ne, av] at q; cases q
   refine xd_ok n1 (fun g => ?_) fun g hg => ?_
   ·show xg (List.lookup g [(f, y)]) (if g = f then some u else none)
    rw [List.lookup_cons]
    by_cases hf : g = f
    ·rw [if_pos hf, show (g == f) = true from beq_iff_eq.mpr hf]; exact ry
    ·rw [if_neg hf, show (g == f) = false from beq_eq_false_iff_ne.mpr hf]; trivial
   ·by_cases hf : g = f
    ·exact List.mem_cons.mpr (.inl hf)
    ·exact absurd (show (if g = f then some u else none) = none from if_neg hf) hg
theorem xset2_ok {fs : List (Str × V)} {Q : Unit -> Shared -> Prop} (I : Inv X pins σ H s) (e : H a = some (XO a C (some d))) (e2 : H d = some (XD d fs)) (ne : d ≠ a) (hl : fs.length <= 900) (Z : xf X.K C f) (ry : RelV y u)
  (z : ∀ s', Inv X pins σ (upd H d (XD d (tu f y fs))) s' -> Q () s') : wpAny 'b' A (setAttr (.ref a) f u) Q E s := by
 obtain ⟨vs, v1, he⟩ := Cw (I.hok a _ e)
 obtain ⟨mA, n, r, wi⟩ := xd_get (I.hok d _ e2)
 refine x_set2 I.kIn Z he n wi (by rw [List.length_map]; omega) fun h' n1 sb => z _ ?_
 refine I.turn (fun b => b = d) (fun b o nb q => (sb.2 b nb).trans q) (fun b nb => ar nb) (fun b hb => by subst hb; exact .inl ⟨_, e2⟩) (fun b o hb q => by subst hb; obtain ⟨o', _, _, e', _⟩ := n1; exact ⟨o', e'⟩) fun b o hb q => ?_
 subst hb
 rw [av] at q; cases q
 refine xd_ok n1 (fun g => ?_) fun g hg => ?_
 ·show xg ((tu f y fs).lookup g) (if g = f then some u else mA g)
  rw [nC]
  by_cases q : g = f
  ·rw [if_pos q, if_pos q]; exact ry
  ·rw [if_neg q, if_neg q]; exact r g
 ·by_cases q : g = f
  ·rw [q]; exact (lT f y fs).1
  ·exact (lT f y fs).2 g (wi g fun y' => hg ((if_neg q).trans y'))
end
end L2
namespace L2
open PySem PySem.Spec PyProof.Rows
noncomputable def sX1 (C : Addr) (ta tv : TE) (f : Str) : TS := fun D σ H => tv σ H fun y H1 => ta σ H1 fun x H2 => ∃ a, x = .ref a /\ H2 a = some (XO a C none) /\ ∀ d, H2 d = none -> d ≠ a -> D.nx σ (upd (upd H2 d (XD d [(f, y)])) a (XO a C (some d)))
noncomputable def sX2 (C : Addr) (ta tv : TE) (f : Str) : TS := fun D σ H => tv σ H fun y H1 => ta σ H1 fun x H2 => ∃ a d fs, x = .ref a /\ H2 a = some (XO a C (some d)) /\ H2 d = some (XD d fs) /\ d ≠ a /\ fs.length <= 900 /\ D.nx σ (upd H2 d (XD d (tu f y fs)))
section
variable {X : Cx} {C : Addr} {o value : Expr} {f : Str} {ta tv : TE} {pos pos' : Pos}
theorem ps_x1 (ha : PE X o ta) (hv : PE X value tv) (Z : xf X.K C f) (hs : swapsWith value (some (.Attribute o f pos')) pos.line X.env = pure false := by rfl) : PS X (.Assign [.Attribute o f pos'] value pos) (sX1 C ta tv f) := by
 intro pins s σ H D I h
 refine plainObj_wpAny_Assign_Attribute (thn (hv pins s σ H _ I h) fun u s1 ⟨y, H1, I1, ry, q⟩ => thn (ha pins s1 σ H1 _ I1 q) fun ov s2 ⟨x, H2, I2, rx, a, ex, ea, q2⟩ => ?_) hs
 subst ex
 cases (show ov = Value.ref a from rx)
 exact xset1_ok I2 ea Z ry fun d s3 h1 h2 I3 => ⟨σ, _, I3, q2 d h1 h2⟩
theorem ps_x2 (ha : PE X o ta) (hv : PE X value tv) (Z : xf X.K C f) (hs : swapsWith value (some (.Attribute o f pos')) pos.line X.env = pure false := by rfl) : PS X (.Assign [.Attribute o f pos'] value pos) (sX2 C ta tv f) := by
 intro pins s σ H D I h
 refine plainObj_wpAny_Assign_Attribute (thn (hv pins s σ H _ I h) fun u s1 ⟨y, H1, I1, ry, q⟩ => thn (ha pins s1 σ H1 _ I1 q) fun ov s2 ⟨x, H2, I2, rx, a, d, fs, ex, ea, ed, ne, hl, q2⟩ => ?_) hs
 subst ex
 cases (show ov = Value.ref a from rx)
 exact xset2_ok I2 ea ed ne hl Z ry fun s3 I3 => ⟨σ, _, I3, q2⟩
end
noncomputable def spX2 (C : Addr) (f1 f2 : Str) : Sp := fun vs H Q _ => ∃ a v1 v2, vs = [.ref a, v1, v2] /\ H a = some (XO a C none) /\ ∀ d, H d = none -> d ≠ a -> Q .non (upd (upd H d (XD d [(f1, v1), (f2, v2)])) a (XO a C (some d)))
theorem upd_mid {H : Hp} {a d : Addr} {x y z : HO} (h : d ≠ a) : upd (upd (upd H d x) a y) d z = upd (upd H d z) a y := by
 funext b
 by_cases hd : b = d
 ·subst hd; rw [av, ar h, av]
 ·rw [ar hd]
  by_cases ha : b = a
  ·subst ha; rw [av, av]
  ·rw [ar ha, ar ha, ar hd, ar hd]
theorem upd_low {H : Hp} {a d : Addr} {x y z : HO} : upd (upd (upd H a x) d y) a z = upd (upd H d y) a z := by
 funext b
 by_cases ha : b = a
 ·subst ha; rw [av, av]
 ·rw [ar ha, ar ha]
  by_cases hd : b = d
  ·subst hd; rw [av, av]
  ·rw [ar hd, ar hd, ar ha]
theorem fn_at {K : PySem.W.Frag} {h : Heap} {f : Addr} (X : K.In h) (e : PySem.W.typeIn K (.ref f) = some (.type "function")) : ∃ o, h.get? f = some o /\ o.cls = .type "function" := by
 unfold PySem.W.typeIn at e
 cases q : K.lookup f with
 | none => simp only [q] at e; cases e
 | some o =>
  simp only [q] at e
  exact ⟨o, X _ _ q, by simpa using e⟩
section
variable {X : Cx} {pins : List 'a'} {σ : St} {H : Hp} {s : Shared} {k : Nat} {f C : Addr} {fd : FuncData} {ps : List Str} {f1 f2 : Str} {us : List Value} {v1 v2 : V} {B newId initId : String} {bmB : List Value}
theorem new_x (FB : ExcBaseFacts B newId initId bmB) (hC : qr X.K C bmB newId f = true) (hf : PySem.W.typeIn X.K (.ref f) = some (.type "function")) (F : bx X.prog X.w X.K X.mg X.base CX0 k f fd ps (spX2 C f1 f2)) (hr : kg (k + 1) X.A) (hb : Binds X.K fd ps [])
  (I : Inv X pins σ H s) (r : Vals [v1, v2] us) : wpAny 'b' X.A (call (.ref C) us) (fun v s' => ∃ a d, v = .ref a /\ s.heap.objs.size <= a /\ H a = none /\ H d = none /\ d ≠ a /\ Inv X pins σ (upd (upd H d (XD d [(f1, v1), (f2, v2)])) a (XO a C (some d))) s') X.xe s := by
 obtain ⟨tl, N, nm, qn, bs, hdct, sn, sub, ab, col, dd, k0, k1, k2, k3, k5, mN, o1, o2, o3, o4⟩ := wa I.kIn hC
 obtain ⟨oI, i1, i2⟩ := fn_at I.kIn hf
 obtain ⟨hh, gg, dr, tk, os⟩ := s
 have hz := sizeLine_eq
 have hl : us.length <= sizeLine := by rw [<- r.length]; show 2 <= sizeLine; omega
 refine x_call FB o4 o1 o2 o3 i1 i2 hl ?_
 have nw : (uO hh C us).get? (hh.objs.size + 1) = some (Cz C hh.objs.size) := xj
 have J : Inv X pins σ (upd H (hh.objs.size + 1) (XO (hh.objs.size + 1) C none)) { (⟨hh, gg, dr, tk, os⟩ : Shared) with heap := uO hh C us, toks := tk } :=
  I.laid (fun b u q => rn q) (Nat.le_succ _) (xo_ok (vs := #[.ref hh.objs.size, .none, .none, .none, .bool false, .none]) rfl nw)
 have fa : H (hh.objs.size + 1) = none := I.hok.fresh (Nat.le_succ _)
 have w : Vals [V.ref (hh.objs.size + 1), v1, v2] (Value.ref (hh.objs.size + 1) :: us ++ []) := by rw [List.append_nil]; exact .cons rfl r
 have q : spX2 C f1 f2 [V.ref (hh.objs.size + 1), v1, v2] (upd H (hh.objs.size + 1) (XO (hh.objs.size + 1) C none)) (fun v H2 => v = .non /\ ∃ d, H d = none /\ d ≠ hh.objs.size + 1 /\ H2 = upd (upd H d (XD d [(f1, v1), (f2, v2)])) (hh.objs.size + 1) (XO (hh.objs.size + 1) C (some d))) (fun _ _ _ => False) :=
  ⟨_, v1, v2, rfl, av, fun d hd ne => ⟨rfl, d, by rw [ar ne] at hd; exact hd, ne, upd_low⟩⟩
 have n : (Value.ref (hh.objs.size + 1) :: us ++ []).length = ps.length := w.length.symm.trans (F.len _ _ _ _ q)
 refine wpAny_call (codeAny_mono (F.run _ X.stack _ _ ⟨.ref (hh.objs.size + 1) :: us, []⟩ _ _ _ (fun _ _ _ => False) (hr.make C us []) (J.env0.make C us []) (hb _ (.ref (hh.objs.size + 1) :: us) J.kIn n) w q) fun z s' hq => ?_)
 cases z with
 | error e => exact (show False from hq).elim
 | ok fl =>
  cases fl with
  | ret u =>
   obtain ⟨v, H', J3, rv, ev, d, h1, h2, h3⟩ := J.after hq
   subst ev h3
   exact ⟨rv, _, d, rfl, Nat.le_succ _, fa, h1, h2, J3⟩
  | _ => exact False.elim hq
end
theorem zA {M : Model} {A : Around} {E : Value -> Shared -> Prop} {env : Env} {nm q : Str} {C N : Addr} {bs tl : List Value} {hdct : Bool} {sn : List Str} {sub : List Value} {ab : Bool} {col : Option Bool} {dd : Option Addr} {k0 k1 k2 k3 k5 : Option Value} {newId : String}
  {s : Shared} {x : Sem Value} {Q : Flow -> Shared -> Prop} (hB : tl.contains (.type "BaseException") = true) (hh : A.handled = none)
  (z : wpAny M A x (fun v s₁ => ∃ e oe, v = .ref e /\ s₁.heap.get? C = some (excClassObj nm q C N bs tl hdct sn sub ab col dd k0 k1 k2 k3 k5 newId) /\ s₁.heap.get? e = some oe /\ oe.cls = .ref C /\ (∃ vs, oe.data = .fields vs /\ vs[1]? = some .none) /\ E (.ref e) s₁) E s) :
  wpAny M A (raiseStmt env (some x) none) Q E s := by
 have cB : (Value.ref C :: tl).contains (.type "BaseException") = true := by rw [List.contains_cons, hB, Bool.or_true]
 unfold raiseStmt
 refine wpAny_bind (thn z fun v s₁ h₁ => ?_)
 obtain ⟨e, oe, rfl, hC, he, hc, ⟨vs, hd, hv1⟩, hE⟩ := h₁
 obtain ⟨oc, odi, oda, osl⟩ := oe
 dsimp only at hc hd
 subst hc hd
 obtain ⟨hp, g, d, tk, os⟩ := s₁
 repeat (first | (with_reducible refine wpAny_isSubtype_exc hC ?_; rw [cB]) | with_reducible refine wpAny_loadPart_at he ?_ | with_reducible refine wpAny_loadPart_at hC ?_ | wp_step)
 rw [hv1]
 refine wpAny_pure ?_
 rw [if_neg (by decide)]
 exact wpAny_pure (wpAny_raiseNew_none hh hE)
noncomputable def XEq2 (X : Cx) (E : XK) (C : Addr) : Prop := ∀ (pins : List 'a') (σ : St) (H : Hp) (s' : Shared) (a d : Addr), Inv X pins σ H s' -> ExA s'.heap a (.ref C) (some d) none -> X.s₀.heap.get? a = none -> H a = none -> E (.ref C) (some d) H -> X.xe (.ref a) s'
noncomputable def tRaise2 (t : TA) (C : Addr) (f1 f2 : Str) (E : XK) : TS := fun _ σ H => t σ H fun vs H1 => ∃ v1 v2, vs = [v1, v2] /\ ∀ d, H1 d = none -> E (.ref C) (some d) (upd H1 d (.xd [(f1, v1), (f2, v2)]))
section
variable {X : Cx} {E : XK} {C f : Addr} {x : Str} {e1 e2 : Expr} {t : TA} {np cpos pos : Pos} {k : Nat} {fd : FuncData} {ps : List Str} {f1 f2 : Str} {B newId initId : String} {bmB : List Value}
theorem D2 (FB : ExcBaseFacts B newId initId bmB) (hx : XEq2 X E C) (hC : qr X.K C bmB newId f = true) (hf : PySem.W.typeIn X.K (.ref f) = some (.type "function")) (hk : PySem.W.keepIn X.K (.ref C) = true) (F : bx X.prog X.w X.K X.mg X.base CX0 k f fd ps (spX2 C f1 f2)) (hr : kg (k + 1) X.A) (hb : Binds X.K fd ps [])
  (hm : X.mg x = some (.ref C)) (ha : PA X [e1, e2] t) (hg : Gl X x := by rfl) (hdb : 'c' = false := by decide) (hst : starEach [e1, e2] X.env = (false, eval e1 X.env) :: starEach [e2] X.env := by rfl) (hpl : (backTo cpos (starEach [e2] X.env)).any (·.1) = false := by rfl) :
  PS X (.Raise (some (.Call (.Name x np) [e1, e2] [] cpos)) none pos) (tRaise2 t C f1 f2 E) := by
 intro pins s σ H D I h
 obtain ⟨tl, N, nm, qn, bs, hdct, sn, sub, ab, col, dd, k0, k1, k2, k3, k5, mN, o1, o2, o3, o4⟩ := wa I.mod.kin hC
 rw [arm_exec_Raise]
 refine wpAny_bind (wpAny_standAt (zA (C := C) (nm := nm) (q := qn) (N := N) (bs := bs) (tl := tl) (hdct := hdct) (sn := sn) (sub := sub) (ab := ab) (col := col) (dd := dd) (k0 := k0) (k1 := k1) (k2 := k2) (k3 := k3) (k5 := k5) (newId := newId) (o4.hasType FB.hasBase) hr.hd (wpAny_bind (thn ?_ fun v s₃ h₃ => wpAny_bind (wpAny_standAt (wpAny_pure h₃))))))
 refine wpAny_Call_Name_kw (lL I hg hm (PySem.W.callWith_K (h₀ := X.base) I.ok.mod.kin hk (thn (ha cpos pins s σ H _ I h) fun us s1 ⟨vs, H1, I1, r, q1⟩ => ⟨I1.kIn, ?_⟩) hst hpl) hdb)
 obtain ⟨v1, v2, rfl, q1⟩ := q1
 refine thn (new_x FB hC hf F hr hb I1 r) fun v s2 ⟨a, d, ev, hn, fa, fd', ne, J⟩ => ?_
 subst ev
 obtain ⟨vs, w1, he⟩ := Cw (J.hok a _ av)
 have dd' : upd (upd H1 d (XD d [(f1, v1), (f2, v2)])) a (XO a C (some d)) d = some (XD d [(f1, v1), (f2, v2)]) := by rw [ar ne]; exact av
 have J2 : Inv X pins σ (upd H1 d (.xd [(f1, v1), (f2, v2)])) { s2 with heap := s2.heap, toks := s2.toks } := by
  refine J.turn (fun b => b = a \/ b = d) (fun b o _ q => q) (fun b nb => ?_) (fun b hb => ?_) (fun b o _ q => ⟨o, q⟩) fun b o hb q => ?_
  ·rw [ar fun z => nb (.inr z), ar fun z => nb (.inl z), ar fun z => nb (.inr z)]
  ·rcases hb with rfl | rfl
   ·exact .inl ⟨_, av⟩
   ·exact .inl ⟨_, dd'⟩
  ·rcases hb with rfl | rfl
   ·rw [ar (Ne.symm ne), fa] at q; cases q
   ·rw [av] at q; cases q
    obtain ⟨mA, n1, n2, _⟩ := xd_get (J.hok _ _ dd')
    exact ⟨mA, n1, n2⟩
 refine ⟨a, _, rfl, J.bk _ _ o1, he, rfl, ⟨vs, rfl, w1⟩, hx pins σ _ s2 a d J2 ⟨⟨_, vs, he, rfl, rfl, rfl, w1⟩, fun T hT => nomatch hT⟩ (get_none (Nat.le_trans I1.sz hn)) (by rw [ar (Ne.symm ne)]; exact fa) (q1 d fd')⟩
end
section
variable {P : Program} {w : World} {K : PySem.W.Frag} {mg : Str -> Option Value} {base : Heap} {N : List Str} {qual : Str} {scope : Scope} {f : Addr} {cd : Value} {A : Around} {outer : List Env} {s : Shared} {H : Hp} {E : XK} {C : Addr}
theorem xeqD2 : XEq2 (Cr (CXd P w) P w K mg base N qual scope f cd A outer s H E) E C := fun _ _ _ _ _ _ J x na fa q => xe_of J x na (fun T hT => nomatch hT) fa q
end
noncomputable def xRes (C : Addr) (f1 f2 : Str) : List Dat -> M Flo
 | [a, b] => .error (.exc C [(f1, a), (f2, b)])
 | _ => .error .stuck
noncomputable def BM (C : Addr) (f1 f2 : Str) (fr : ak -> M (List Dat)) : ak -> M Flo := fun ρ => (fr ρ).bind (xRes C f1 f2)
@[simp] theorem e_sExc2 (C : Addr) (f1 f2 : Str) (fr : ak -> M (List Dat)) (ρ : ak) : BM C f1 f2 fr ρ = (fr ρ).bind (xRes C f1 f2) := id rfl
@[simp] theorem e_xRes (C : Addr) (f1 f2 : Str) (a b : Dat) : xRes C f1 f2 [a, b] = .error (.exc C [(f1, a), (f2, b)]) := id rfl
section
variable {K : PySem.W.Frag} {X : Cx} {ro : Bool} {OL O O' : List Nat} {E : XK} {C f : Addr} {x : Str} {e1 e2 : Expr} {fr : ak -> M (List Dat)} {np cpos pos : Pos} {k : Nat} {fd : FuncData} {ps : List Str} {f1 f2 : Str} {B newId initId : String} {bmB : List Value}
theorem Ea (FB : ExcBaseFacts B newId initId bmB) (hx : XEq2 X E C) (hC : qr X.K C bmB newId f = true) (hf : PySem.W.typeIn X.K (.ref f) = some (.type "function")) (hk : PySem.W.keepIn X.K (.ref C) = true) (F : bx X.prog X.w X.K X.mg X.base CX0 k f fd ps (spX2 C f1 f2)) (hr : kg (k + 1) X.A) (hb : Binds X.K fd ps [])
  (hm : X.mg x = some (.ref C)) (ha : DA K (WE K E) X [e1, e2] fr) (hg : Gl X x := by rfl) (hdb : 'c' = false := by decide) (hst : starEach [e1, e2] X.env = (false, eval e1 X.env) :: starEach [e2] X.env := by rfl) (hpl : (backTo cpos (starEach [e2] X.env)).any (·.1) = false := by rfl) :
  DS K (WE K E) ro X OL O O' (.Raise (some (.Call (.Name x np) [e1, e2] [] cpos)) none pos) (BM C f1 f2 fr) := fun F0 H0 => PS.imp (D2 FB hx hC hf hk F hr hb hm ha hg hdb hst hpl) fun D σ H ⟨FB', F, ρ, r, p⟩ => by
 have rf := r.freeze (O2 := []) (by simp)
 refine pB r.qo r.km (fun e he => p.qS rf.st (by unfold BM; rw [he]; rfl)) fun ds hd vs F1 H1 s1 q => ?_
 have ez : BM C f1 f2 fr ρ = xRes C f1 f2 ds := by unfold BM; rw [hd]; rfl
 rw [ez] at p
 rcases ds with _ | ⟨a, _ | ⟨b, _ | ⟨_, _⟩⟩⟩
 ·exact ((WE K E).ns p).elim
 ·exact ((WE K E).ns p).elim
 rotate_left
 ·exact ((WE K E).ns p).elim
 ·obtain ⟨w1, vs1, rfl, q1, w2, vs2, rfl, q2, hn⟩ := q
  cases (show vs2 = [] from hn)
  refine ⟨w1, w2, rfl, fun d hd' => ?_⟩
  have st := rf.st.trans s1
  have nf : F1 d = none := s1.fh.free hd'
  have ff : bj F1 (upd F1 d (.xd [(f1, w1), (f2, w2)])) := bj.upd nf
  have st2 : Step F1 H1 (upd F1 d (.xd [(f1, w1), (f2, w2)])) (upd H1 d (.xd [(f1, w1), (f2, w2)])) := by
   refine ⟨ff, fun c o e => by rw [ar (aQ e hd')]; exact e, fun c o e => ?_, fun c o e => ?_⟩
   ·by_cases hc : c = d
    ·subst hc; rw [av] at e ⊢; exact e
    ·rw [ar hc] at e ⊢; exact s1.fh c o e
   ·by_cases hc : c = d
    ·subst hc; exact .inr hd'
    ·rw [ar hc] at e; exact .inl e
  exact p _ _ (st.trans st2) d _ av ⟨w1, _, rfl, cR.mono ff q1, w2, [], rfl, cR.mono ff q2, rfl⟩
end
end L2
namespace L2
open PySem PySem.Spec PyProof.Rows
noncomputable def CI (i : Nat) (a d : Addr) (f : Str) : TE := fun σ H Q => σ[i]? = some 'X' /\ ∃ gs v, H d = some (.xd gs) /\ gs.lookup f = some v /\ Q v H
section
variable {X : Cx} {C a d : Addr} {oe : Obj} {B : String} {bmB : List Value} {i : Nat} {n f : Str} {p1 pos : Pos}
theorem De (FB : ExcAttrBase B bmB) (Z : XIsi X.K C) (Y : xf X.K C f) (hc : oe.cls = .ref C) (hd : ∃ vs, oe.data = .fields vs) (hx : oe.dict = some d)
  (hN : X.N[i]? = some n := by rfl) (hv : Vis X.env.scope n := by first | exact Or.inl rfl | exact Or.inr (Or.inl rfl) | exact Or.inr (Or.inr rfl)) (hd1 : (n == ("__debug__" : Str)) = false := by decide) (hd2 : (n == ("__classdict__" : Str)) = false := by decide)
  (hb : attributeBase (.Name n p1) f X.env (eval (.Name n p1) X.env) = eval (.Name n p1) X.env := by rfl) : PE (X.hand a oe) (.Attribute (.Name n p1) f pos) (CI i a d f) := by
 intro pins s σ H Q I h
 obtain ⟨e1, gs, v, hg, hl, q⟩ := h
 refine EE (env := (X.hand a oe).env) hb (thn (pv (X := X.hand a oe) i hN hv hd1 hd2 pins s σ H (fun x H1 => x = .ref a /\ H1 = H) I ⟨.ref a, e1, rfl, rfl⟩) fun u s1 ⟨x, H1, I1, rx, ex, eH⟩ => ?_)
 subst ex eH
 cases (show u = Value.ref a from rx)
 have pa := (I1.pin (a, oe) (List.mem_cons_self ..)).1
 obtain ⟨mA, n1, r⟩ := (show gu X.prog X.w H1 s1.heap d (.xd gs) from I1.hok d _ hg)
 obtain ⟨od, ho, hlk⟩ := yw n1
 obtain ⟨u', hu, ru⟩ := xg.some_of (v := v) (o := mA f) (by rw [<- hl]; exact r f)
 obtain ⟨vs, hdt⟩ := hd
 have J : PySem.W.InstAt s1.heap a oe C (some od) := ⟨pa, hc, by unfold PySem.W.notCls; rw [hdt], by rw [hx]; exact ho⟩
 exact x_get FB I1.kIn J Z Y (by rw [hlk, hu]) (yG ru) ⟨v, H1, I1.tok _, ru, q⟩
end
noncomputable def rB (O : List Nat) (C : Addr) (fb : ak -> M Flo) (fx : List (Str × Dat) -> ak -> M ak) : ak -> M Flo := fun ρ => match fb (erase O ρ) with
 | .ok fl => .ok fl
 | .error (.exc C' (f :: fs)) => if C' = C then (fx (f :: fs) ρ).bind fun ρ' => .ok (.nx ρ') else .error .stuck
 | .error _ => .error .stuck
theorem E6 {O : List Nat} {C : Addr} {fb : ak -> M Flo} {fx : List (Str × Dat) -> ak -> M ak} {ρ : ak} {fl : Flo} (h : fb (erase O ρ) = .ok fl) : rB O C fb fx ρ = .ok fl := by unfold rB; rw [h]
theorem uv {O : List Nat} {C : Addr} {fb : ak -> M Flo} {fx : List (Str × Dat) -> ak -> M ak} {ρ : ak} {f : Str × Dat} {fs : List (Str × Dat)} (h : fb (erase O ρ) = .error (.exc C (f :: fs))) : rB O C fb fx ρ = (fx (f :: fs) ρ).bind fun ρ' => .ok (.nx ρ') := by unfold rB; rw [h]; exact if_pos rfl
section
variable {K : PySem.W.Frag} {ro : Bool} {F0 H0 : Hp} {OL O : List Nat} {D : Ends} {σ : St} {H : Hp} {C : Addr} {i : Nat} {fb : ak -> M Flo} {fx : List (Str × Dat) -> ak -> M ak} {ts : Addr -> Option Addr -> TS}
theorem rs_tryF (hS : ∀ (a d : Addr) (gs : List (Str × V)) (fs : List (Str × Dat)) (FB F H : Hp) (ρ : ak), Rep K F0 H0 FB O F H σ ρ -> F d = some (.xd gs) -> pj K F fs gs -> kc K Wno ro F0 H0 FB OL O D ((fx fs ρ).bind fun ρ' => .ok (.nx ρ')) -> ts a (some d) (D.less i) (σ.set i 'X') H)
  (t : tS K Wno ro F0 H0 OL O O (rB O C fb fx) D σ H) : tTry (fun E D σ H => ∃ F1 H1, tS K (WE K E) ro F1 H1 OL [] O fb D σ H) i C ts D σ H := by
 obtain ⟨FB, F, ρ, r, p⟩ := t
 have re := r.mW
 refine ⟨F, H, FB, F, erase O ρ, ⟨Step.refl r.st.fh, r.fb, re.len, fun m d e _ => re.sl m d e, (fun m d e h => nomatch h), (fun m n d1 d2 c h => nomatch h)⟩, ?_⟩
 cases e : fb (erase O ρ) with
 | ok fl =>
  rw [E6 e] at p
  cases fl with
  | nx ρ' => exact fun σ' F' H' r' => p σ' F' H' (r'.back r.st)
  | rt d => exact fun v F' H' s' q => p v F' H' (r.st.trans s') (q.back r.st.hh)
  | bk ρ' => exact fun σ' F' H' r' => p σ' F' H' (r'.back r.st)
  | ct ρ' => exact fun σ' F' H' r' => p σ' F' H' (r'.back r.st)
 | error x =>
  cases x with
  | stuck => exact p.stuck (by unfold rB; rw [e])
  | exc C' fs =>
   cases fs with
   | nil => exact p.stuck (by unfold rB; rw [e])
   | cons f fs =>
    by_cases hc : C' = C
    ·subst hc
     rw [uv e] at p
     exact fun F' H' s' d gs hd df => ⟨rfl, fun a _ => hS a d gs _ FB F' H' ρ (r.step s') hd df p⟩
    ·exact p.stuck (by unfold rB; rw [e]; exact if_neg hc)
end
section
variable {X : Cx} {K : PySem.W.Frag} {ro : Bool} {OL O : List Nat} {C : Addr} {c n : Str} {i : Nat} {np hpos pos : Pos} {b₀ : Stmt} {body suite : List Stmt} {ts : Addr -> Option Addr -> TS} {bmB : List Value} {fb : ak -> M Flo} {fx : List (Str × Dat) -> ak -> M ak}
theorem ds_tryF (hb : ∀ (pins : List 'a') (σ : St) (E : XK) (xe : Value -> Shared -> Prop), n5 (CXd X.prog X.w) (X.xb xe) pins σ E -> DSat K E ro (X.xb xe) OL [] O pins σ body fb)
  (hs : ∀ (a : Addr) (oe : Obj), oe.cls = .ref C -> (∃ vs, oe.data = .fields vs) -> PSs (X.hand a oe) (b₀ :: suite) (ts a oe.dict))
  (hS : ∀ (F0 H0 : Hp) (D : Ends) (σ : St) (a d : Addr) (gs : List (Str × V)) (fs : List (Str × Dat)) (FB F H : Hp) (ρ : ak), σ.length = X.N.length -> Rep K F0 H0 FB O F H σ ρ -> F d = some (.xd gs) -> pj K F fs gs -> kc K Wno ro F0 H0 FB OL O D ((fx fs ρ).bind fun ρ' => .ok (.nx ρ')) -> ts a (some d) (D.less i) (σ.set i 'X') H)
  (hC : zx X.K C bmB) (hB : bmB.contains (.type "BaseException") = true) (hm : X.mg c = some (.ref C)) (hN : X.N.Nodup) (hi : X.N[i]? = some n := by rfl) (hk : X.env.scope.names.lookup n = some .local := by rfl)
  (hg : Gl X c := by rfl) (hex : X.ex = [] := by rfl) (hstk : X.stack = X.env :: X.outer := by rfl) (hfr : X.env.frame = some X.env.locals := by rfl) (hdb : (c == ("__debug__" : Str)) = false := by decide) :
  DS K Wno ro X OL O O (.Try body [.ExceptHandler (some (.Name c np)) (some n) (b₀ :: suite) hpos] [] [] pos) (rB O C fb fx) := fun F0 H0 pins s σ H D I z =>
 ps_try (tb := fun E D σ H => ∃ F1 H1, tS K (WE K E) ro F1 H1 OL [] O fb D σ H) (fun pins σ E xe hp s H D I ⟨F1, H1, q⟩ => hb pins σ E xe hp F1 H1 s H D I q) hs hC hB hm hN hi hk hg hex hstk hfr hdb pins s σ H D I (rs_tryF (fun a d gs fs FB F H ρ r h1 h2 p => hS F0 H0 D σ a d gs fs FB F H ρ I.len r h1 h2 p) z)
end
noncomputable def AX (i j : Nat) (f1 f2 : Str) : List (Str × Dat) -> ak -> M ak := fun fs ρ => match fs.lookup f1, fs.lookup f2 with
 | some a, some b => .ok ((ρ.set j (some (.lst [a, b]))).set i none)
 | _, _ => .error .stuck
section
variable {K : PySem.W.Frag} {ro : Bool} {F0 H0 FB F H : Hp} {OL O : List Nat} {D : Ends} {σ : St} {ρ : ak} {i j : Nat} {a d : Addr} {gs : List (Str × V)} {fs : List (Str × Dat)} {f1 f2 : Str}
theorem Rep.told {ds : List Dat} {vs : List V} {l : Addr} (r : Rep K F0 H0 FB O F H σ ρ) (hij : i ≠ j) (hi : i < σ.length) (hj : j < σ.length) (hiO : i ∉ O) (hjO : j ∉ O) (hl : H l = none) (df : aD K F ds vs) :
  Rep K F0 H0 FB O (upd F l (.lst vs)) (upd H l (.lst vs)) (((σ.set i 'X').set j (some (.ref l))).set i none) ((ρ.set j (some (.lst ds))).set i none) := by
 have hlF : F l = none := r.st.fh.free hl
 have ff : bj F (upd F l (.lst vs)) := bj.upd hlF
 have st : Step F H (upd F l (.lst vs)) (upd H l (.lst vs)) := by
  refine ⟨ff, fun c o e => by rw [ar (aQ e hl)]; exact e, fun c o e => ?_, fun c o e => ?_⟩
  ·by_cases hc : c = l
   ·subst hc; rw [av] at e ⊢; exact e
   ·rw [ar hc] at e ⊢; exact r.st.fh c o e
  ·by_cases hc : c = l
   ·subst hc; exact .inr hl
   ·rw [ar hc] at e; exact .inl e
 have r2 := r.step st
 have out : ∀ m, m ≠ i -> m ≠ j -> (((σ.set i 'X').set j (some (.ref l))).set i none)[m]? = σ[m]? := fun m h1 h2 => by
  rw [List.getElem?_set_ne (Ne.symm h1), List.getElem?_set_ne (Ne.symm h2), List.getElem?_set_ne (Ne.symm h1)]
 have outR : ∀ m, m ≠ i -> m ≠ j -> ((ρ.set j (some (.lst ds))).set i none)[m]? = ρ[m]? := fun m h1 h2 => by
  rw [List.getElem?_set_ne (Ne.symm h1), List.getElem?_set_ne (Ne.symm h2)]
 have noi : ∀ dd, ((ρ.set j (some (.lst ds))).set i none)[i]? ≠ some (some dd) := fun dd e => by
  rw [List.getElem?_set_self (by rw [List.length_set, r.len]; exact hi)] at e
  cases e
 refine ⟨r2.st, r2.fb, by simp only [List.length_set]; exact r.len, fun m dd e hm => ?_, fun m dd e hm => ?_, fun m n d1 d2 c hm hn e1 e2 e3 e4 => ?_⟩
 ·by_cases h1 : m = i
  ·subst h1; exact (noi _ e).elim
  ·by_cases h2 : m = j
   ·subst h2
    rw [List.getElem?_set_ne (Ne.symm h1), List.getElem?_set_self (by rw [r.len]; exact hj)] at e
    cases e
    refine ⟨.ref l, by rw [List.getElem?_set_ne (Ne.symm h1), List.getElem?_set_self (by rw [List.length_set]; exact hj)], l, vs, rfl, SqL.of av, aD.mono ff df⟩
   ·rw [outR m h1 h2] at e
    rw [out m h1 h2]
    exact r2.fz m dd e hm
 ·have h1 : m ≠ i := fun z => hiO (z ▸ hm)
  have h2 : m ≠ j := fun z => hjO (z ▸ hm)
  rw [outR m h1 h2] at e
  rw [out m h1 h2]
  exact r2.ow m dd e hm
 ·have h1 : m ≠ i := fun z => hiO (z ▸ hm)
  have h2 : m ≠ j := fun z => hjO (z ▸ hm)
  have h3 : n ≠ i := fun z => hiO (z ▸ hn)
  have h4 : n ≠ j := fun z => hjO (z ▸ hn)
  rw [outR m h1 h2] at e1
  rw [outR n h3 h4] at e2
  rw [out m h1 h2] at e3
  rw [out n h3 h4] at e4
  exact r2.ap m n d1 d2 c hm hn e1 e2 e3 e4
theorem rs_told2 (r : Rep K F0 H0 FB O F H σ ρ) (hd : F d = some (.xd gs)) (df : pj K F fs gs) (hij : i ≠ j) (hi : i < σ.length) (hj : j < σ.length) (hiO : i ∉ O) (hjO : j ∉ O) (q : kc K Wno ro F0 H0 FB OL O D ((AX i j f1 f2 fs ρ).bind fun ρ' => .ok (.nx ρ'))) :
  tAsg (tLst (uQ (CI i a d f1) (uQ (CI i a d f2) tNil))) (tQ j) (D.less i) (σ.set i 'X') H := by
 have hz := sizeLine_eq
 have hH : H d = some (.xd gs) := r.st.fh d _ hd
 have e1 : (σ.set i 'X')[i]? = some 'X' := by rw [List.getElem?_set_self hi]
 unfold AX at q
 cases h1 : fs.lookup f1 with
 | none => rw [h1] at q; exact (Wno.ns q).elim
 | some x1 =>
  cases h2 : fs.lookup f2 with
  | none => rw [h1, h2] at q; exact (Wno.ns q).elim
  | some x2 =>
   rw [h1, h2] at q
   obtain ⟨v1, g1, q1⟩ := df.at.1 x1 h1
   obtain ⟨v2, g2, q2⟩ := df.at.1 x2 h2
   refine ⟨e1, gs, v1, hH, g1, e1, gs, v2, hH, g2, by show 2 <= sizeLine; omega, fun l hl => ?_⟩
   exact q _ _ _ (r.told hij hi hj hiO hjO hl ⟨v1, _, rfl, q1, v2, _, rfl, q2, rfl⟩)
end
section
variable {X : Cx} {K : PySem.W.Frag} {ro : Bool} {x : Str} {e : Expr} {es : List Expr} {fr : ak -> M (List Dat)} {p pos : Pos} {W : gS}
noncomputable def noM (g : List Dat -> M Dat) : List Dat -> M Dat := fun ds => noX (g ds)
@[simp] theorem e_noM (g : List Dat -> M Dat) (ds : List Dat) : noM g ds = noX (g ds) := id rfl
theorem passN : Passes (CXd X.prog X.w) X (fun _ _ _ => False) := by
 rintro pins σ H1 s1 e s' I ⟨a, T, C, dx, H', rfl, z⟩
 exact z.want.elim
theorem Br {k nN n : Nat} {fad : Addr} {fd : FuncData} {ps : List Str} {g : ak -> M Flo} (F : bx X.prog X.w X.K X.mg X.base (CXd X.prog X.w) k fad fd ps (spX K ro (cV nN n g) n)) (hr : kg k X.A) (hm : X.mg x = some (.ref fad)) (hk : PySem.W.keepIn X.K (.ref fad) = true) (hb : Binds X.K fd ps [])
  (ha : DA K W X (e :: es) fr) (hg : Gl X x := by rfl) (hdb : 'c' = false := by decide) (hst : starEach (e :: es) X.env = 'k' :: starEach es X.env := by rfl) (hpl : 'm'.any (·.1) = false := by rfl) :
  DE K W ro X 'G' (fL (noM (cV nN n g)) fr) := by
 refine PE.imp (rK F hr hg hm hk hb .nil passN ha hdb hst hpl) fun σ H Q h => ?_
 obtain ⟨F, ρ, r, s, p⟩ := rd_L h
 refine ⟨F, ρ, r, s, ?_⟩
 cases e1 : fr ρ with
 | error z => rw [e1] at p; exact p
 | ok ds =>
  rw [e1] at p
  intro vs F' H' st q
  obtain ⟨F1, es1, s1, q1, z⟩ := p vs F' H' st q
  show spX K ro (cV nN n g) n (vs ++ []) H' Q (fun _ _ _ => False)
  rw [List.append_nil]
  have z : aL K W ro F1 H' (noX (cV nN n g es1)) Q := z
  by_cases hl : es1.length = n
  ·refine ⟨F1, es1, s1, q1, hl, ?_⟩
   cases hr' : cV nN n g es1 with
   | ok d => rw [hr'] at z; exact z
   | error x => rw [hr'] at z; exact (W.ns z).elim
  ·rw [oN hl] at z
   exact (W.ns z).elim
end
end L2
namespace L2
open PySem PySem.Spec PyProof.Rows
section
variable {K : PySem.W.Frag} {W : gS} {X : Cx} {ro : Bool} {OL O O' : List Nat}
theorem ps_nox {st : Stmt} {t : TS} (h : PS X.nox st t) : PS X st t := fun pins s σ H D I z => wpAny_mono (h pins s σ H D (I.xb _) z) (fun _ _ q => q.lB) fun _ _ y => (show False from y).elim
theorem rm {st : Stmt} {g : ak -> M Flo} (h : DS K Wno ro X.nox OL O O' st g) : DS K W ro X OL O O' st (fNoX g) := fun F0 H0 => PS.imp (ps_nox (h F0 H0)) fun D σ H ⟨FB, F, ρ, r, p⟩ => by
 refine ⟨FB, F, ρ, r, ?_⟩
 have p : kc K W ro F0 H0 FB OL O' D (noX (g ρ)) := p
 unfold kc at p ⊢
 cases e : g ρ with
 | ok fl =>
  rw [e] at p
  cases fl <;> exact p
 | error x => rw [e] at p; exact (W.ns p).elim
end
structure XMk (K : PySem.W.Frag) (mg : Str -> Option Value) (x : Str) (C f : Addr) : Prop where
 mg : mg x = some (.ref C)
 ex : qr K C [.type "ValueError", .type "Exception", .type "BaseException", .type "object"] "ValueError.__new__" f = true
 fn : PySem.W.typeIn K (.ref f) = some (.type "function")
 kp : PySem.W.keepIn K (.ref C) = true
structure XTry (K : PySem.W.Frag) (mg : Str -> Option Value) (x : Str) (C : Addr) : Prop where
 mg : mg x = some (.ref C)
 nm : zx K C [.type "ValueError", .type "Exception", .type "BaseException", .type "object"]
 isi : XIsi K C
noncomputable def tsTold2 (i j : Nat) (f1 f2 : Str) (a : Addr) : Option Addr -> TS
 | none => tNever
 | some d => tAsg (tLst (uQ (CI i a d f1) (uQ (CI i a d f2) tNil))) (tQ j)
section
variable {X : Cx} {K : PySem.W.Frag} {ro : Bool} {OL O : List Nat} {C : Addr} {c n to f1 f2 : Str} {i j : Nat} {np hpos pos p1 p2 p3 p4 p5 p6 p7 : Pos} {body : List Stmt} {fb : ak -> M Flo}
theorem ds_told2 (hb : ∀ (pins : List 'a') (σ : St) (E : XK) (xe : Value -> Shared -> Prop), n5 (CXd X.prog X.w) (X.xb xe) pins σ E -> DSat K E ro (X.xb xe) OL [] O pins σ body fb)
  (Z : XTry X.K X.mg c C) (a1 : xf X.K C f1) (a2 : xf X.K C f2) (hN : X.N.Nodup) (hij : i ≠ j := by decide) (hiO : i ∉ O := by decide) (hjO : j ∉ O := by decide) (hi : X.N[i]? = some n := by rfl) (hj : X.N[j]? = some to := by rfl) (hk : X.env.scope.names.lookup n = some .local := by rfl) (hkj : X.env.scope.names.lookup to = some .local := by rfl)
  (hg : Gl X c := by rfl) (hex : X.ex = [] := by rfl) (hstk : X.stack = X.env :: X.outer := by rfl) (hfr : X.env.frame = some X.env.locals := by rfl) (hdb : (c == ("__debug__" : Str)) = false := by decide) (hd1 : (n == ("__debug__" : Str)) = false := by decide) (hd2 : (n == ("__classdict__" : Str)) = false := by decide)
  (hb1 : attributeBase (.Name n p3) f1 X.env (eval (.Name n p3) X.env) = eval (.Name n p3) X.env := by rfl) (hb2 : attributeBase (.Name n p5) f2 X.env (eval (.Name n p5) X.env) = eval (.Name n p5) X.env := by rfl)
  (hs1 : starEach [.Attribute (.Name n p3) f1 p4, .Attribute (.Name n p5) f2 p6] X.env = (false, eval (.Attribute (.Name n p3) f1 p4) X.env) :: starEach [.Attribute (.Name n p5) f2 p6] X.env := by rfl) (hs2 : starEach [.Attribute (.Name n p5) f2 p6] X.env = [(false, eval (.Attribute (.Name n p5) f2 p6) X.env)] := by rfl)
  (hsw : swapsWith (.List [.Attribute (.Name n p3) f1 p4, .Attribute (.Name n p5) f2 p6] p2) (some (.Name to p1)) p7.line X.env = pure false := by rfl) :
  DS K Wno ro X OL O O (.Try body [.ExceptHandler (some (.Name c np)) (some n) [.Assign [.Name to p1] (.List [.Attribute (.Name n p3) f1 p4, .Attribute (.Name n p5) f2 p6] p2) p7] hpos] [] [] pos) (rB O C fb (AX i j f1 f2)) := by
 refine ds_tryF (ts := fun a dx => tsTold2 i j f1 f2 a dx) hb (fun a oe hc hd => ?_) (fun F0 H0 D σ a d gs fs FB F H ρ hl r h1 h2 p => rs_told2 r h1 h2 hij ?_ ?_ hiO hjO p) Z.nm 'E' Z.mg hN hi hk hg hex hstk hfr hdb
 ·cases hx : oe.dict with
  | none => exact xK
  | some d =>
   exact rE (D1 (X := X.hand a oe) hN hj (.inl hkj) (pe_lst (cL (De F.attrBase_ValueError Z.isi a1 hc hd hx hi (.inl hk) hd1 hd2 hb1) (cL (De F.attrBase_ValueError Z.isi a2 hc hd hx hi (.inl hk) hd1 hd2 hb2) iJ hs2) hs1)) hsw (.inr hkj))
 ·rw [hl]; exact (List.getElem?_eq_some_iff.mp hi).1
 ·rw [hl]; exact (List.getElem?_eq_some_iff.mp hj).1
end
end L2
namespace L2
open PySem PySem.Spec PyProof.Rows
noncomputable def oH (xs : List Int) (k : Int) : Option Nat := xs.findIdx? (· == k)
noncomputable def uk : Dat -> Dat -> M Dat
 | .lst ds, .int k => (dG ds).bind fun xs => match oH xs k with
  | some j => .ok (.int j)
  | none => stk
 | _, _ => stk
@[simp] theorem e_index (ds : List Dat) (k : Int) : uk (.lst ds) (.int k) = (dG ds).bind fun xs => match oH xs k with
  | some j => .ok (.int j)
  | none => stk := id rfl
noncomputable def sr (fo fe : ak -> M Dat) : ak -> M Dat := fun ρ => (fo ρ).bind fun a => if isL a = true then (fe ρ).bind fun b => uk a b else stk
@[simp] theorem e_fIndex (fo fe : ak -> M Dat) (ρ : ak) : sr fo fe ρ = (fo ρ).bind fun a => if isL a = true then (fe ρ).bind fun b => uk a b else stk := id rfl
noncomputable def rIndex (K : PySem.W.Frag) : V -> List V -> Hp -> VK -> Prop := fun x vs H Q => ∃ l is k j, x = .ref l /\ vs = [.int k] /\ SqL K H l (is.map V.int) /\ oH is k = some j /\ Q (.int j) H
noncomputable def isK (k : Int) : Value -> Bool
 | .int i _ => i == k
 | _ => false
section
variable {X : Cx} {K : PySem.W.Frag} {W : gS}
theorem u6 : ∀ {is : List Int} {us : List Value}, Vals (is.map V.int) us -> ∀ (m : Nat) (i : Int), is[m]? = some i -> ∃ t, us[m]? = some (.int i t)
 | [], _, _, m, i, h => by simp at h
 | a :: is, _, .cons r rs, 0, i, h => by
  obtain ⟨t, e⟩ := (show ∃ t, _ = Value.int a t from r)
  simp at h
  subst h e
  exact ⟨t, rfl⟩
 | a :: is, _, .cons r rs, m + 1, i, h => by simpa using u6 rs m i (by simpa using h)
theorem mt_index (hu : X.A.units + 64 < cLine) : MtR X "list.index" (rIndex X.K) := by
 intro pins s σ H x vs v us Q I rx rv h
 obtain ⟨l, is, k, j, rfl, rfl, hS, hj, q⟩ := h
 cases rx
 obtain ⟨u, rfl, ru⟩ := rv.one
 obtain ⟨its, r, pl, hz⟩ := I.list hS
 obtain ⟨o, n, e, hcls, hdict, hdata⟩ := id pl
 obtain ⟨t, rfl⟩ := (show ∃ t, u = Value.int k t from ru)
 obtain ⟨hjl, hit, hno⟩ := List.findIdx?_eq_some_iff_getElem.mp hj
 have hlen : is.length = its.length := by rw [<- r.length, List.length_map]
 have at' : ∀ m (hm : m < its.length), ∃ t, its[m] = .int (is[m]'(by omega)) t := fun m hm => by
  obtain ⟨t, ht⟩ := u6 r m (is[m]'(by omega)) (List.getElem?_eq_getElem _)
  rw [List.getElem?_eq_getElem hm] at ht
  exact ⟨t, Option.some.inj ht⟩
 obtain ⟨oc, odd, odt, osl⟩ := o
 have hsz := sizeLine_eq
 refine call_meets PySem.F.slot_list_index ⟨_, e, hcls⟩ PySem.F.entry_list_index (PySem.F.args_list_index_2 _ _) (SeqAt.list_indexAt l its.toArray n odd osl (.int k t) (isK k) j (by rw [List.size_toArray]; omega) (by have := hz; rw [List.length_map] at this; omega) ?_ ?_) ⟨?_, fun y hy => ?_, ?_⟩
 ·obtain ⟨t', e'⟩ := at' j (by omega)
  rw [List.getElem_toArray, e']
  exact hit
 ·intro m hm hmj
  rw [List.size_toArray] at hm
  obtain ⟨t', e'⟩ := at' m hm
  rw [List.getElem_toArray, e']
  have := hno m hmj
  simpa [isK] using this
 ·rw [e]
  cases (show oc = .type "list" from hcls)
  cases (show odt = .seq its.toArray n from hdata)
  rfl
 ·have hm : y ∈ its := by simpa using hy
  obtain ⟨m, hml, rfl⟩ := List.getElem_of_mem hm
  obtain ⟨t', e'⟩ := at' m hml
  rw [e']
  have z := E5 (F := H) (x := .int (is[m]'(by omega))) (y := .int k) (A := X.A.in1) I (bj.refl H) (.int (is[m]'(by omega))) (.int k) (by simp [okE]) (by simp [okE]) rfl rfl ⟨t', rfl⟩ ⟨t, rfl⟩ (by show X.A.units + 1 + 40 < cLine; omega)
  have e2 : eqD (.int (is[m]'(by omega))) (.int k) = isK k (.int (is[m]'(by omega)) t') := by
   simp [eqD, isK]
  rw [e2] at z
  exact z
 ·exact ⟨.int j, H, I.tok _, ⟨_, rfl⟩, q⟩
variable {o e : Expr} {fo fe : ak -> M Dat} {apos cpos : Pos}
theorem Bq (hu : X.A.units + 64 < cLine) (ho : DE K W false X o fo) (he : DE K W false X e fe) (hK : X.K = K := by rfl) (hbase : attributeBase o "index" X.env (eval o X.env) = eval o X.env := by rfl)
  (hfew : ((backTo cpos (starEach [e] X.env)).all (fun x => !x.1) && (backToKw cpos (keywordEach [] X.env)).all (fun x => x.1.isSome)
   && decide ([e].length + ([] : List Keyword).length + (if ([] : List Keyword).isEmpty then 0 else 1) < 30)) = true := by rfl)
  (hline : (apos.endLine == cpos.line) = true := by rfl) (hs : starEach [e] X.env = 'k' :: starEach [] X.env := by rfl) (hplain : (backTo cpos (starEach [] X.env)).any (·.1) = false := by rfl) :
  DE K W false X (.Call (.Attribute o "index" apos) [e] [] cpos) (sr fo fe) := by
 subst hK
 refine PE.imp (pe_bm PySem.F.plainAttrs_list PySem.F.slot_list_index PySem.F.type_list_index (mt_index hu) ho (cL he iJ (by rw [hs])) hbase hfew hline hs hplain) fun σ H Q h => ?_
 obtain ⟨F, ρ, r, s, p⟩ := h
 refine cq r s (fun e he => p.err (by unfold sr; rw [he]; rfl)) fun a ha x F1 H1 s1 q1 => ?_
 have ez : sr fo fe ρ = if isL a = true then (fe ρ).bind fun b => uk a b else stk := by unfold sr; rw [ha]; rfl
 rw [ez] at p
 have p := p.step s1
 cases a with
 | lst ds =>
  have p : aL X.K W false F1 H1 ((fe ρ).bind fun b => uk (.lst ds) b) Q := p
  obtain ⟨l, xs, ex, t, z⟩ := id q1
  subst ex
  refine ⟨.inl ⟨rfl, _, s1.fh.lst t⟩, ?_⟩
  refine cq (r.mono s1.ff) s1.fh (fun e he => p.err (by rw [he]; rfl)) fun b hb y F2 H2 s2 q2 => ?_
  rw [hb] at p
  have p : aL X.K W false F1 H1 (uk (.lst ds) b) Q := p
  have p := p.step s2
  cases b with
  | int k =>
   have p : aL X.K W false F2 H2 ((dG ds).bind fun xs => match oH xs k with
    | some j => .ok (.int j)
    | none => stk) Q := p
   cases hi : dG ds with
   | error e => rw [hi] at p; rw [m8 hi] at p; exact aL.stuck p
   | ok is =>
    rw [hi] at p
    have p : aL X.K W false F2 H2 (match oH is k with
     | some j => .ok (.int j)
     | none => stk) Q := p
    have hx := jX z hi
    subst hx
    cases hj : oH is k with
    | none => rw [hj] at p; exact aL.stuck p
    | some j =>
     rw [hj] at p
     cases (show y = V.int k from q2)
     exact ⟨l, is, k, j, rfl, rfl, s2.fh.lst (s2.ff.lst t), hj, p (.int j) F2 H2 (Step.refl s2.fh) rfl⟩
  | _ => exact aL.stuck p
 | _ => exact aL.stuck p
end
end L2
namespace L2
open PySem PySem.Spec PyProof.Rows
noncomputable def mZ : Dat -> M Dat
 | .str _ => .ok (.bl true)
 | .ins _ _ => stk
 | _ => .ok (.bl false)
section
variable {X : Cx} {K : PySem.W.Frag} {W : gS} {own : Bool} {a : Expr} {fa : ak -> M Dat} {pos p p2 : Pos}
theorem Ey (kit : Kit K) (hK : X.K = K := by rfl) : gL X (.builtin "isinstance") (fun xs H Q => ∃ v, xs = [v, .ty "str"] /\ rD1 K W own mZ v H Q) := by
 subst hK
 intro pins s σ H xs us Q I r h
 obtain ⟨v, rfl, F, d, s1, q, p⟩ := h
 obtain ⟨u, w, rfl, ru, rw'⟩ := r.two
 cases (show w = Value.type "str" from rw')
 by_cases hi : ∃ C fs, d = .ins C fs
 ·obtain ⟨C, fs, rfl⟩ := hi
  exact aL.stuck p
 ·refine DM I s1 q ru kit.lH kit.jR kit.jN kit.iA kit.lF kit.eV (fun k tk hk => ⟨.bl k, H, I.tok tk, rfl, ?_⟩) (fun C fs e => hi ⟨C, fs, e⟩)
  cases d <;> first | (have hk' : k = _ := hk; subst hk'; exact aL.bl (own := own) p s1) | exact absurd ⟨_, _, rfl⟩ hi
theorem Cf (kit : Kit K) (hm : X.mg "isinstance" = none) (hmT : X.mg "str" = none) (ha : DE K W false X a fa) (hK : X.K = K := by rfl)
  (hg : Gl X "isinstance" := by rfl) (hgT : Gl X "str" := by rfl)
  (hst : starEach [a, .Name "str" p2] X.env = [(false, eval a X.env), (false, eval (.Name "str" p2) X.env)] := by rfl) (hst2 : starEach [.Name "str" p2] X.env = [(false, eval (.Name "str" p2) X.env)] := by rfl) (hpl : (backTo pos (starEach [.Name "str" p2] X.env)).any (·.1) = false := by rfl) :
  DE K W own X (.Call (.Name "isinstance" p) [a, .Name "str" p2] [] pos) (f1 mZ fa) := yO (Ey kit hK) hm hmT 'E' ha hg hgT (by decide) (by decide) hst hst2 hpl
end
end L2
namespace Ru
open PySem L2 PyProof.Rows
noncomputable def kT (CR CP CN : Addr) (n : Nat) : ak -> M Flo :=
 sIf (fB (f2 gtD (fL Be (a9 (ah 0) aN)) 'J'))
   (aO [] 2 (f2 ixD (ah 0) (f2 pk (ah 1) (fL Be (a9 (ah 0) aN)))))
   gT
noncomputable def kH (CR CP CN : Addr) (n : Nat) : ak -> M Flo :=
 (bC (aO [] 2 (ah 1))
  (bC (kT CR CP CN n)
  (bC (aO [] 3 (f2 pk (f2 t5 (f2 lq (f2 lq (ah 2) (f2 t5 (f2 t5 (fC (.int 7919)) (ah 1)) (ah 1))) (ah 1)) (fC (.int 982451653))) (fC (.int 2305843009213693951))))
  (i3 (f2 n9 (f2 pk (f2 t5 (ah 3) (fC (.int 1000003))) (fC (.int 1152921504606846883))) (fC (.int 8)))))))
noncomputable def aB (CR CP CN : Addr) (n : Nat) : List Dat -> M Dat := cV 4 2 (kH CR CP CN n)
noncomputable def fO (CR CP CN : Addr) (n : Nat) : ak -> M Flo :=
 (i3 (f2 ixD (fL gA (a9 'v' (a9 'v' (a9 (fC (.int 100)) (a9 (f2 D5 (fC (.int 10)) (fC (.int 5))) aN))))) (f2 pk (fL (aB CR CP CN n) (a9 (ah 0) (a9 (fC (.int 99)) aN))) (fC (.int 4)))))
noncomputable def bS (CR CP CN : Addr) (n : Nat) : List Dat -> M Dat := cV 1 1 (fO CR CP CN n)
noncomputable def iu (CR CP CN : Addr) (n : Nat) : ak -> M Flo :=
 (bC (aO [4, 6] 8 (fL (aB CR CP CN n) (a9 (ah 0) (a9 (f2 lq (f2 lq (ah 1) (f2 t5 (ah 5) (ah 2))) (ah 7)) aN))))
  (jK [4, 6] 6 (f2 lq (f2 t5 (f2 pk (ah 8) (fC (.int 6))) (ah 3)) (f2 pk (f2 n9 (ah 8) (fC (.int 6))) (ah 3)))))
noncomputable def kZ (CR CP CN : Addr) (n : Nat) : ak -> M Flo :=
 (bC (aO [4] 6 (fL gA aN))
  (bC (t4 [4, 6] (rl zz (a9 (ah 2) aN)) (.nm 7) (iu CR CP CN n))
  (jK [4] 4 (ah 6))))
noncomputable def nY (CR CP CN : Addr) (n : Nat) : ak -> M Flo :=
 (bC (aO [] 4 (fL gA aN))
  (bC (t4 [4] (rl zz (a9 (ah 2) aN)) (.nm 5) (kZ CR CP CN n))
  (i3 (ah 4))))
noncomputable def gF (CR CP CN : Addr) (n : Nat) : List Dat -> M Dat := cV 9 4 (nY CR CP CN n)
noncomputable def gI (CR CP CN : Addr) (n : Nat) : ak -> M Flo :=
 sIf (fB (f2 eqM (f2 pk (fL (aB CR CP CN n) (a9 (ah 0) (a9 'v' aN))) (fC (.int 2))) 'v'))
   (aO [] 3 (fL (gF CR CP CN n) (a9 (ah 0) (a9 (fC (.int 50)) (a9 (ah 2) (a9 (ah 1) aN))))))
   gT
noncomputable def g8 (CR CP CN : Addr) (n : Nat) : ak -> M Flo :=
 (bC (aO [] 2 (f2 lq 'v' (f2 pk (fL (aB CR CP CN n) (a9 (ah 0) (a9 'J' aN))) (fC (.int 6)))))
  (bC (aO [] 3 (fC .non))
  (bC (gI CR CP CN n)
  (i3 (fL fZ (a9 (fL (gF CR CP CN n) (a9 (ah 0) (a9 (fC (.int 4)) (a9 (ah 2) (a9 (ah 1) aN))))) (a9 (ah 3) aN)))))))
noncomputable def cP (CR CP CN : Addr) (n : Nat) : List Dat -> M Dat := cV 4 2 (g8 CR CP CN n)
noncomputable def kF (CR CP CN : Addr) (n : Nat) : ak -> M Flo :=
 (i3 (lx (fIt (ah 0)) [none] (.nm 0) ur (fL yx (a9 (ah 0) aN))))
noncomputable def g0 (CR CP CN : Addr) (n : Nat) : List Dat -> M Dat := cV 1 1 (kF CR CP CN n)
noncomputable def uE (CR CP CN : Addr) (n : Nat) : ak -> M Flo :=
 sIf (fOr (Ak (xc (f1 oQ (ah 0)))) (xc (f1 m7 (ah 0))))
   (i3 (fC (.bl false)))
   gT
noncomputable def w5 (CR CP CN : Addr) (n : Nat) : ak -> M Flo :=
 (bC (uE CR CP CN n)
  (i3 (lg leD leD 'J' (ah 0) (fC (.int 1000000)))))
noncomputable def kq (CR CP CN : Addr) (n : Nat) : List Dat -> M Dat := cV 1 1 (w5 CR CP CN n)
noncomputable def md (CR CP CN : Addr) (n : Nat) : ak -> M Flo :=
 (i3 (w9 (f1 jW (ah 0)) (w9 (f2 eqM (fL Be (a9 (ah 0) aN)) (ah 1)) (fL allD (a9 (lx (fIt (ah 0)) [none] (.nm 0) ur (fL (kq CR CP CN n) (a9 (ah 0) aN))) aN)))))
noncomputable def dU (CR CP CN : Addr) (n : Nat) : List Dat -> M Dat := cV 2 2 (md CR CP CN n)
noncomputable def lp (CR CP CN : Addr) (n : Nat) : ak -> M Flo :=
 sIf (Ak (fB (lg leD leD 'v' (ah 1) (fC (.int 6)))))
   sStk
   gT
noncomputable def ll (CR CP CN : Addr) (n : Nat) : ak -> M Flo :=
 sIf (Ak (xc (fL allD (a9 (lx (fIt (ah 0)) [none, some 1] (.nm 0) ur (fL (dU CR CP CN n) (a9 (ah 0) (a9 (ah 1) aN)))) aN))))
   sStk
   gT
noncomputable def jr (CR CP CN : Addr) (n : Nat) : ak -> M Flo :=
 (bC (aO [] 1 (fL Be (a9 (ah 0) aN)))
  (bC (lp CR CP CN n)
  (bC (ll CR CP CN n)
  (i3 (fL (g0 CR CP CN n) (a9 (ah 0) aN))))))
noncomputable def aF (CR CP CN : Addr) (n : Nat) : List Dat -> M Dat := cV 2 1 (jr CR CP CN n)
noncomputable def kS (CR CP CN : Addr) (n : Nat) : ak -> M Flo :=
 sIf (fB (f2 isND (f2 ixD (ah 0) 'v') (fC .non)))
   (i3 (fL (newR CR (aF CR CP CN n)) (a9 (f2 ixD (ah 0) 'J') aN)))
   gT
noncomputable def kG (CR CP CN : Addr) (n : Nat) : ak -> M Flo :=
 (bC (kS CR CP CN n)
  (i3 (fL (newP CP (aF CR CP CN n)) (a9 (f2 ixD (ah 0) 'J') (a9 (f2 ixD (ah 0) 'v') aN)))))
noncomputable def gE (CR CP CN : Addr) (n : Nat) : List Dat -> M Dat := cV 1 1 (kG CR CP CN n)
noncomputable def fj (CR CP CN : Addr) (n : Nat) : ak -> M Flo :=
 sIf (fB (f2 eqM (f2 pk (fL (aB CR CP CN n) (a9 (ah 0) (a9 (fC (.int 3)) aN))) (fC (.int 8))) (fC (.int 5))))
   (aO [] 4 (ah 2))
   gT
noncomputable def fm (CR CP CN : Addr) (n : Nat) : ak -> M Flo :=
 (bC (aO [5] 7 (fL (aB CR CP CN n) (a9 (ah 0) (a9 (f2 lq (fC (.int 100)) (ah 6)) aN))))
  (bC (aO [5] 8 (f2 pk (f2 n9 (ah 7) (fC (.int 16))) (f2 t5 (f2 t5 (fC (.int 25)) (ah 3)) (f2 lq (ah 6) 'v'))))
  (bC (aO [5] 9 (f2 ixD (fL gA (a9 '0' (a9 (f2 t5 (f2 t5 (fC (.int 100)) (ah 3)) (ah 4)) (a9 (f2 t5 (f2 t5 (fC (.int 12)) (ah 3)) (ah 4)) (a9 (f2 t5 (fC (.int 3)) (ah 3)) aN))))) (f2 n9 (f2 pk (ah 7) (fC (.int 16))) (fC (.int 5)))))
  (bC (aO [5] 10 (fL minD (a9 '0' (a9 (f2 lq (ah 8) (ah 9)) aN))))
  (bC (aO [5] 11 (fL minD (a9 '0' (a9 (f2 lq (ah 8) (f2 pk (f2 n9 (ah 7) (fC (.int 1000))) (f2 t5 (fC (.int 20)) (ah 3)))) aN))))
  (bC (aO [5] 12 (f2 ixD (fL gA (a9 (f2 pk (f2 n9 (ah 7) (fC (.int 7))) (fC (.int 10))) (a9 (f2 pk (f2 n9 (ah 7) (fC (.int 7))) (f2 lq '0' 'v')) aN))) (f2 pk (f2 n9 (ah 7) (fC (.int 3))) (fC (.int 2)))))
  (jK [5] 5 (fL fZ (a9 (f2 pk (f2 n9 (ah 7) (fC (.int 11))) (fL Be (a9 (f2 ixD (ah 1) 'J') aN))) (a9 (ah 8) (a9 (ah 10) (a9 (ah 11) (a9 (ah 12) aN)))))))))))))
noncomputable def ju (CR CP CN : Addr) (n : Nat) : ak -> M Flo :=
 (bC (aO [] 4 (f2 pk (fL (aB CR CP CN n) (a9 (ah 0) (a9 (fC (.int 2)) aN))) (f2 lq (f2 n9 (ah 2) (fC (.int 4))) 'v')))
  (bC (fj CR CP CN n)
  (bC (aO [] 5 (fL gA aN))
  (bC (t4 [5] (rl zz (a9 (ah 4) aN)) (.nm 6) (fm CR CP CN n))
  (i3 (ah 5))))))
noncomputable def eY (CR CP CN : Addr) (n : Nat) : List Dat -> M Dat := cV 13 4 (ju CR CP CN n)
noncomputable def eK (CR CP CN : Addr) (n : Nat) : ak -> M Flo :=
 sIf (fOr (fB (f2 neM (f2 pk (fL (aB CR CP CN n) (a9 (ah 0) (a9 (fC (.int 98)) aN))) (fC (.int 8))) (fC (.int 3)))) (fB (f2 eqM (ah 1) (fL gA aN))))
   (i3 (fL fZ (a9 (ah 1) (a9 (ah 2) aN))))
   gT
noncomputable def eO (CR CP CN : Addr) (n : Nat) : ak -> M Flo :=
 (jK [4] 4 (fL fZ (a9 (ah 5) (a9 (ah 6) (a9 (fL minD (a9 (ah 7) (a9 (f2 lq (ah 6) (ah 3)) aN))) (a9 (ah 8) (a9 (ah 9) aN)))))))
noncomputable def eN (CR CP CN : Addr) (n : Nat) : ak -> M Flo :=
 (jK [11] 11 (fL fZ (a9 (ah 5) (a9 (f2 lq (ah 6) (ah 10)) (a9 (f2 lq (ah 7) (ah 10)) (a9 (fL minD (a9 '0' (a9 (f2 lq (ah 8) (ah 10)) aN))) (a9 (ah 9) aN)))))))
noncomputable def dY (CR CP CN : Addr) (n : Nat) : ak -> M Flo :=
 (bC (eK CR CP CN n)
  (bC (aO [] 3 (f2 t5 (fC (.int 300)) (fL (bS CR CP CN n) (a9 (ah 0) aN))))
  (bC (aO [] 4 (fL gA aN))
  (bC (t4 [4] (fIt (ah 1)) (.tp [5, 6, 7, 8, 9]) (eO CR CP CN n))
  (bC (aO [] 10 (f2 subD '0' (fL maxD (a9 (lx (fIt (ah 4)) [none] (.nm 0) ur (f2 ixD (ah 0) (fC (.int 2)))) aN))))
  (bC (aO [] 11 (fL gA aN))
  (bC (t4 [11] (fIt (ah 4)) (.tp [5, 6, 7, 8, 9]) (eN CR CP CN n))
  (i3 (fL fZ (a9 (ah 11) (a9 (lx (fIt (ah 2)) [none, none, some 10] (.tp [0, 1]) (fB (f2 leD (f2 lq (ah 1) (ah 2)) '0')) (fL fZ (a9 (f2 lq (ah 0) (ah 2)) (a9 (f2 lq (ah 1) (ah 2)) aN)))) aN)))))))))))
noncomputable def bD (CR CP CN : Addr) (n : Nat) : List Dat -> M Dat := cV 12 3 (dY CR CP CN n)
noncomputable def fV (CR CP CN : Addr) (n : Nat) : ak -> M Bool :=
 (fB (f2 gtD (fL Be (a9 (ah 3) aN)) 'J'))
noncomputable def ir (CR CP CN : Addr) (n : Nat) : ak -> M Flo :=
 (bC (tm false 6 (fL (aB CR CP CN n) (a9 (ah 0) (a9 (f2 lq (fC (.int 180)) (fL Be (a9 (ah 3) aN))) aN))))
  (bC (tm false 7 (f2 t5 (f2 pk (f2 n9 (ah 6) (fC (.int 64))) (fL minD (a9 (fL Be (a9 (ah 3) aN)) (a9 (fC (.int 3)) aN)))) (fL intD (a9 (f2 eqM (f2 pk (ah 6) (fC (.int 4))) 'J') aN))))
  (bC (CS 3 (.tp [8, 9]) (ah 7))
  (jK [3, 4] 4 (fL fZ (a9 (ah 9) (a9 (f2 pk (f2 n9 (ah 6) (fC (.int 4096))) (ah 5)) aN)))))))
noncomputable def nX (CR CP CN : Addr) (n : Nat) : ak -> M Flo :=
 (bC (aO [] 3 (fL nt (a9 (lx (rl zz (a9 (fL Be (a9 (ah 2) aN)) aN)) [none, some 2] (.nm 0) ur (fL fZ (a9 (f2 ixD (f2 ixD (ah 1) (ah 0)) 'v') (a9 (ah 0) aN)))) aN)))
  (bC (aO [3] 4 (fL gA aN))
  (bC (aO [3, 4] 5 (f2 subD (fC (.int 2)) (fL intD (a9 (f2 isND (f2 ixD (ah 1) 'v') (fC .non)) aN))))
  (bC (eR (fV CR CP CN n) (ir CR CP CN n) n)
  (i3 (ah 4))))))
noncomputable def iL (CR CP CN : Addr) (n : Nat) : List Dat -> M Dat := cV 10 3 (nX CR CP CN n)
noncomputable def dE (CR CP CN : Addr) (n : Nat) : ak -> M Flo :=
 sIf (fB (lg leD ltD (ah 3) (ah 1) (ah 4)))
   (bC (aO [] 1 (ah 4))
  (aO [] 2 (fC (.bl true))))
   gT
noncomputable def bh (CR CP CN : Addr) (n : Nat) : ak -> M Flo :=
 (dE CR CP CN n)
noncomputable def bJ (CR CP CN : Addr) (n : Nat) : ak -> M Bool :=
 (xc (ah 2))
noncomputable def dF (CR CP CN : Addr) (n : Nat) : ak -> M Flo :=
 (bC (aO [] 2 (fC (.bl false)))
  (t4 [] (fIt (ah 0)) (.tp [3, 4]) (bh CR CP CN n)))
noncomputable def i7 (CR CP CN : Addr) (n : Nat) : ak -> M Flo :=
 (bC (aO [] 2 (fC (.bl true)))
  (bC (eR (bJ CR CP CN n) (dF CR CP CN n) n)
  (i3 (ah 1))))
noncomputable def dz (CR CP CN : Addr) (n : Nat) : List Dat -> M Dat := cV 5 2 (i7 CR CP CN n)
noncomputable def jB (CR CP CN : Addr) (n : Nat) : ak -> M Flo :=
 sIf (fB (f2 eqM (f2 ixD (ah 2) 'v') (f2 ixD (ah 3) 'v')))
   (i3 (f2 ixD (f2 ixD (f2 ixD (ah 0) 'J') (ah 4)) (ah 5)))
   gT
noncomputable def ja (CR CP CN : Addr) (n : Nat) : ak -> M Flo :=
 (bC (aO [] 4 (f2 ixD (f2 ixD (ah 1) (f2 ixD (ah 2) 'J')) 'J'))
  (bC (aO [] 5 (f2 ixD (f2 ixD (ah 1) (f2 ixD (ah 3) 'J')) 'J'))
  (bC (jB CR CP CN n)
  (i3 (f2 ixD (f2 ixD (f2 ixD (ah 0) 'v') (ah 4)) (ah 5))))))
noncomputable def cW (CR CP CN : Addr) (n : Nat) : List Dat -> M Dat := cV 6 4 (ja CR CP CN n)
noncomputable def gR (CR CP CN : Addr) (n : Nat) : ak -> M Flo :=
 (tm false 7 (fL maxD (a9 (ah 7) (a9 (f2 lq (f2 ixD (ah 4) (ah 8)) (fL (cW CR CP CN n) (a9 (ah 0) (a9 (ah 1) (a9 (f2 ixD (ah 3) (ah 8)) (a9 (f2 ixD (ah 3) (ah 5)) aN)))))) aN))))
noncomputable def jA (CR CP CN : Addr) (n : Nat) : ak -> M Flo :=
 sIf (fB (f2 gtD (ah 7) (f2 ixD (ah 6) (fC (.int 2)))))
   (i3 (fL fZ (a9 (f2 ixD (f2 ixD (ah 3) (ah 5)) 'J') (a9 (ah 7) aN))))
   gT
noncomputable def gQ (CR CP CN : Addr) (n : Nat) : ak -> M Flo :=
 (bC (aO [4] 6 (f2 ixD (ah 1) (f2 ixD (f2 ixD (ah 3) (ah 5)) 'J')))
  (bC (aO [4] 7 (f2 ixD (ah 6) 'v'))
  (bC (t4 [4] (rl zz (a9 (ah 5) aN)) (.nm 8) (gR CR CP CN n))
  (bC (aO [4] 7 (fL (dz CR CP CN n) (a9 (ah 2) (a9 (ah 7) aN))))
  (bC (jA CR CP CN n)
  (jK [4] 4 (ah 7)))))))
noncomputable def j9 (CR CP CN : Addr) (n : Nat) : ak -> M Flo :=
 (bC (aO [] 4 (fL gA aN))
  (bC (t4 [4] (rl zz (a9 (fL Be (a9 (ah 3) aN)) aN)) (.nm 5) (gQ CR CP CN n))
  (i3 (ah 4))))
noncomputable def dW (CR CP CN : Addr) (n : Nat) : List Dat -> M Dat := cV 9 4 (j9 CR CP CN n)
noncomputable def mH (CR CP CN : Addr) (n : Nat) : ak -> M Flo :=
 sIf (fB (f2 eqM (f2 lq (f2 ixD (ah 2) (ah 11)) (fL (cW CR CP CN n) (a9 (ah 0) (a9 (ah 3) (a9 (f2 ixD (ah 5) (ah 11)) (a9 (f2 ixD (ah 5) (ah 7)) aN)))))) (ah 8)))
   (aO [6] 9 (fL fZ (a9 (fC (.str "gap")) (a9 (ah 11) aN))))
   gT
noncomputable def hZ (CR CP CN : Addr) (n : Nat) : ak -> M Flo :=
 (mH CR CP CN n)
noncomputable def mG (CR CP CN : Addr) (n : Nat) : ak -> M Flo :=
 sIf (fB (f2 neM (ah 8) (f2 ixD (f2 ixD (ah 3) (f2 ixD (f2 ixD (ah 5) (ah 7)) 'J')) 'v')))
   (bC (aO [6] 10 (lx (rl zz (a9 (fL Be (a9 (ah 4) aN)) aN)) [none, some 4, some 8] (.nm 0) (fB (f2 eqM (f2 ixD (f2 ixD (ah 1) (ah 0)) 'v') (ah 2))) (ah 0)))
  (bC (aO [6] 9 (fL fZ (a9 (fC (.str "closed")) (a9 (f2 ixD (f2 lq (ah 10) (fL gA (a9 (f1 negD 'v') aN))) 'J') aN))))
  (t4 [6] (rl rng3 (a9 (f2 subD (ah 7) 'v') (a9 (f1 negD 'v') (a9 (f1 negD 'v') aN)))) (.nm 11) (hZ CR CP CN n))))
   gT
noncomputable def jf (CR CP CN : Addr) (n : Nat) : ak -> M Flo :=
 (bC (aO [6] 8 (f2 ixD (ah 2) (ah 7)))
  (bC (aO [6] 9 (fL fZ (a9 (fC (.str "first")) aN)))
  (bC (mG CR CP CN n)
  (jK [6] 6 (ah 9)))))
noncomputable def pT (CR CP CN : Addr) (n : Nat) : ak -> M Flo :=
 (bC (xI [] (.tp [3, 4, 5]) (ah 1))
  (bC (aO [] 6 (fL gA aN))
  (bC (t4 [6] (rl zz (a9 (fL Be (a9 (ah 5) aN)) aN)) (.nm 7) (jf CR CP CN n))
  (i3 (ah 6)))))
noncomputable def jV (CR CP CN : Addr) (n : Nat) : List Dat -> M Dat := cV 12 3 (pT CR CP CN n)
noncomputable def pS (CR CP CN : Addr) (n : Nat) : ak -> M Flo :=
 (i3 (lx (fIt (ah 1)) [none, none, some 0] (.tp [0, 1]) ur (fL fZ (a9 (f2 ixD (f2 ixD (ah 2) (ah 0)) 'J') (a9 (ah 1) aN)))))
noncomputable def gC (CR CP CN : Addr) (n : Nat) : List Dat -> M Dat := cV 2 2 (pS CR CP CN n)
noncomputable def cN (CR CP CN : Addr) (n : Nat) : ak -> M Flo :=
 sIf (fAnd (xc (ah 1)) (fB (f2 leD (ah 2) (f2 ixD (f2 ixD (ah 1) (f1 negD 'v')) 'v'))))
   (zQ 1 (f1 negD 'v') (fL fZ (a9 (f2 ixD (f2 ixD (ah 1) (f1 negD 'v')) 'J') (a9 (fL maxD (a9 (ah 3) (a9 (f2 ixD (f2 ixD (ah 1) (f1 negD 'v')) 'v') aN))) aN))))
   (jK [1] 1 (fL fZ (a9 (ah 2) (a9 (ah 3) aN))))
noncomputable def bO (CR CP CN : Addr) (n : Nat) : ak -> M Flo :=
 (cN CR CP CN n)
noncomputable def g7 (CR CP CN : Addr) (n : Nat) : ak -> M Flo :=
 (bC (aO [] 1 (fL gA aN))
  (bC (t4 [1] (fIt (fL nt (a9 (ah 0) aN))) (.tp [2, 3]) (bO CR CP CN n))
  (i3 (ah 1))))
noncomputable def cw (CR CP CN : Addr) (n : Nat) : List Dat -> M Dat := cV 4 1 (g7 CR CP CN n)
noncomputable def p8 (CR CP CN : Addr) (n : Nat) : ak -> M Flo :=
 sIf (fB (lg leD ltD (ah 2) (ah 1) (ah 3)))
   (i3 (ah 3))
   gT
noncomputable def kY (CR CP CN : Addr) (n : Nat) : ak -> M Flo :=
 (p8 CR CP CN n)
noncomputable def kE (CR CP CN : Addr) (n : Nat) : ak -> M Flo :=
 (bC (t4 [] (fIt (fL (cw CR CP CN n) (a9 (ah 0) aN))) (.tp [2, 3]) (kY CR CP CN n))
  (i3 (ah 1)))
noncomputable def gD (CR CP CN : Addr) (n : Nat) : List Dat -> M Dat := cV 4 2 (kE CR CP CN n)
noncomputable def kJ (CR CP CN : Addr) (n : Nat) : ak -> M Flo :=
 (i3 (f2 ixD (f2 ixD (f1 (wN [CR, CP] "gaps") (ah 0)) (f2 ixD (ah 1) 'J')) (f2 ixD (ah 2) 'J')))
noncomputable def dj (CR CP CN : Addr) (n : Nat) : List Dat -> M Dat := cV 3 3 (kJ CR CP CN n)
noncomputable def jb (CR CP CN : Addr) (n : Nat) : ak -> M Flo :=
 (bC (aO [] 3 (fIte (fB (f2 eqM (f2 ixD (ah 1) 'v') (f2 ixD (ah 2) 'v'))) (f1 (wN [CR, CP] "gaps") (ah 0)) (f1 (wN [CP] "beside") (ah 0))))
  (i3 (f2 ixD (f2 ixD (ah 3) (f2 ixD (ah 1) 'J')) (f2 ixD (ah 2) 'J'))))
noncomputable def cY (CR CP CN : Addr) (n : Nat) : List Dat -> M Dat := cV 4 3 (jb CR CP CN n)
noncomputable def nW (CR CP CN : Addr) (n : Nat) : ak -> M Flo :=
 (i3 (lx (rl zz (a9 (ah 3) aN)) [none, some 0, some 1, some 2, some 3] (.nm 0) ur (f2 lq (f2 ixD (ah 3) (ah 0)) (mj CR CP "apart" (dj CR CP CN n) (cY CR CP CN n) (ah 1) (a9 (f2 ixD (ah 2) (ah 0)) (a9 (f2 ixD (ah 2) (ah 4)) aN))))))
noncomputable def fH (CR CP CN : Addr) (n : Nat) : List Dat -> M Dat := cV 4 4 (nW CR CP CN n)
noncomputable def mF (CR CP CN : Addr) (n : Nat) : ak -> M Flo :=
 sIf (fB (f2 gtD (ah 9) (f2 ixD (ah 8) (fC (.int 2)))))
   (BM CN "flight" "time" (a9 (f2 ixD (ah 7) 'J') (a9 (ah 9) aN)))
   gT
noncomputable def fP (CR CP CN : Addr) (n : Nat) : ak -> M Flo :=
 (bC (fNoX (aO [5] 8 (f2 ixD (ah 1) (f2 ixD (ah 7) 'J'))))
  (bC (fNoX (tm false 9 (fL (gD CR CP CN n) (a9 (ah 2) (a9 (fL maxD (a9 (f2 lq (fL gA (a9 (f2 ixD (ah 8) 'v') aN)) (fL (fH CR CP CN n) (a9 (ah 0) (a9 (ah 4) (a9 (ah 5) (a9 (ah 6) aN)))))) aN)) aN)))))
  (bC (mF CR CP CN n)
  (fNoX (jK [5] 5 (ah 9))))))
noncomputable def n4 (CR CP CN : Addr) (n : Nat) : ak -> M Flo :=
 (bC (fNoX (aO [] 4 (fL (gC CR CP CN n) (a9 (ah 1) (a9 (ah 3) aN)))))
  (bC (fNoX (aO [] 5 (fL gA aN)))
  (bC (t4 [5] (w6 (ah 3)) (.tp [6, 7]) (fP CR CP CN n))
  (fNoX (i3 (ah 5))))))
noncomputable def gB (CR CP CN : Addr) (n : Nat) : List Dat -> M Dat := cV 10 4 (n4 CR CP CN n)
noncomputable def kQ (CR CP CN : Addr) (n : Nat) : ak -> M Flo :=
 sIf (fB (f2 eqM (ah 3) (f2 ixD (ah 0) 'v')))
   (i3 (fL fZ (a9 (fC (.str "first")) aN)))
   gT
noncomputable def oo (CR CP CN : Addr) (n : Nat) : ak -> M Flo :=
 sIf (fB (f2 inM (ah 3) (ah 2)))
   (i3 (fL fZ (a9 (fC (.str "gap")) (a9 (sr (ah 2) (ah 3)) aN))))
   gT
noncomputable def ma (CR CP CN : Addr) (n : Nat) : ak -> M Flo :=
 (bC (kQ CR CP CN n)
  (bC (oo CR CP CN n)
  (bC (aO [] 4 (lx (fIt (ah 1)) [none, none] (.tp [0, 1]) ur (ah 1)))
  (i3 (fL fZ (a9 (fC (.str "closed")) (a9 (sr (ah 4) (ah 3)) aN)))))))
noncomputable def iK (CR CP CN : Addr) (n : Nat) : List Dat -> M Dat := cV 5 4 (ma CR CP CN n)
noncomputable def kW (CR CP CN : Addr) (n : Nat) : ak -> M Flo :=
 (bC (aO [6] 9 (fL (fH CR CP CN n) (a9 (ah 0) (a9 (ah 5) (a9 (ah 4) (a9 (ah 7) aN))))))
  (jK [6] 6 (fL (iK CR CP CN n) (a9 (f2 ixD (ah 1) (f2 ixD (f2 ixD (ah 3) (ah 7)) 'J')) (a9 (ah 2) (a9 (ah 9) (a9 (ah 8) aN)))))))
noncomputable def kD (CR CP CN : Addr) (n : Nat) : ak -> M Flo :=
 (bC (aO [] 4 (fL (gB CR CP CN n) (a9 (ah 0) (a9 (ah 1) (a9 (ah 2) (a9 (ah 3) aN))))))
  (fNoX (bC (aO [] 5 (fL (gC CR CP CN n) (a9 (ah 1) (a9 (ah 3) aN))))
  (bC (aO [] 6 (fL gA aN))
  (bC (t4 [6] (w6 (ah 4)) (.tp [7, 8]) (kW CR CP CN n))
  (i3 (ah 6)))))))
noncomputable def bZ (CR CP CN : Addr) (n : Nat) : List Dat -> M Dat := cV 10 4 (kD CR CP CN n)
noncomputable def gp (CR CP CN : Addr) (n : Nat) : ak -> M Flo :=
 sIf (fB (f2 eqM (f2 pk (fL (aB CR CP CN n) (a9 (ah 0) (a9 (fC (.int 151)) aN))) (fC (.int 8))) (fC (.int 5))))
   (aO [] 2 (fC (.int 20)))
   gT
noncomputable def iX (CR CP CN : Addr) (n : Nat) : ak -> M Flo :=
 (bC (aO [3] 5 (fL (aB CR CP CN n) (a9 (ah 0) (a9 (f2 lq (fC (.int 152)) (ah 4)) aN))))
  (bC (aO [3] 6 (f2 pk (f2 n9 (ah 5) (fC (.int 9))) (f2 t5 (fC (.int 150)) (ah 1))))
  (jK [3] 3 (fL fZ (a9 (ah 6) (a9 (f2 lq (f2 lq (ah 6) 'v') (f2 t5 (f2 pk (ah 5) (fC (.int 9))) (ah 1))) aN))))))
noncomputable def kI (CR CP CN : Addr) (n : Nat) : ak -> M Flo :=
 (bC (aO [] 2 (f2 pk (fL (aB CR CP CN n) (a9 (ah 0) (a9 (fC (.int 150)) aN))) (fC (.int 5))))
  (bC (gp CR CP CN n)
  (bC (aO [] 3 (fL gA aN))
  (bC (t4 [3] (rl zz (a9 (ah 2) aN)) (.nm 4) (iX CR CP CN n))
  (i3 (ah 3))))))
noncomputable def g4 (CR CP CN : Addr) (n : Nat) : List Dat -> M Dat := cV 7 2 (kI CR CP CN n)
noncomputable def ia (CR CP CN : Addr) (n : Nat) : ak -> M Flo :=
 rB [] CN (uc [] (fL (bZ CR CP CN n) (a9 (ah 0) (a9 (ah 1) (a9 (ah 2) (a9 (ah 3) aN)))))) (AX 6 5 "flight" "time")
noncomputable def jt (CR CP CN : Addr) (n : Nat) : ak -> M Flo :=
 (bC (aO [] 5 (fL gA aN))
  (bC (ia CR CP CN n)
  (i3 (f2 eqM (ah 5) (fL gA (a9 (f2 ixD (ah 4) 'J') (a9 (f2 ixD (ah 4) 'v') aN)))))))
noncomputable def eX (CR CP CN : Addr) (n : Nat) : List Dat -> M Dat := cV 7 5 (jt CR CP CN n)
noncomputable def mf (CR CP CN : Addr) (n : Nat) : ak -> M Flo :=
 (i3 (w9 (f1 oQ (ah 0)) (f1 notD (f1 m7 (ah 0)))))
noncomputable def gZ (CR CP CN : Addr) (n : Nat) : List Dat -> M Dat := cV 1 1 (mf CR CP CN n)
noncomputable def nk (CR CP CN : Addr) (n : Nat) : ak -> M Flo :=
 sIf (fOr (Ak (xc (f1 jW (ah 0)))) (fB (f2 neM (ah 0) (ah 1))))
   (i3 (fC (.bl false)))
   gT
noncomputable def gO (CR CP CN : Addr) (n : Nat) : ak -> M Flo :=
 sIf (fOr (Ak (xc (f1 eF (ah 2)))) (Ak (xc (f1 mZ (f2 ixD (ah 2) 'J')))))
   (i3 (fC (.bl false)))
   gT
noncomputable def gN (CR CP CN : Addr) (n : Nat) : ak -> M Flo :=
 sIf (fB (f2 neM (lx (fIt (fSl xx (ah 2) (zY 'v') pNone)) [none] (.nm 0) (Ak (xc (fL (gZ CR CP CN n) (a9 (ah 0) aN)))) (ah 0)) (fL gA aN)))
   (i3 (fC (.bl false)))
   gT
noncomputable def dC (CR CP CN : Addr) (n : Nat) : ak -> M Flo :=
 (bC (gO CR CP CN n)
  (gN CR CP CN n))
noncomputable def mh (CR CP CN : Addr) (n : Nat) : ak -> M Flo :=
 (bC (nk CR CP CN n)
  (bC (t4 [] (fIt (ah 0)) (.nm 2) (dC CR CP CN n))
  (i3 (fC (.bl true)))))
noncomputable def hG (CR CP CN : Addr) (n : Nat) : List Dat -> M Dat := cV 3 2 (mh CR CP CN n)
noncomputable def Aw (CR CP CN : Addr) (n : Nat) : ak -> M Flo :=
 sIf (xc (f1 eF (ah 7)))
   (i3 (fL (eX CR CP CN n) (a9 (ah 3) (a9 (ah 4) (a9 (ah 5) (a9 (ah 6) (a9 (ah 7) aN)))))))
   gT
noncomputable def Ex (CR CP CN : Addr) (n : Nat) : ak -> M Flo :=
 sIf (fOr (Ak (xc (fL (hG CR CP CN n) (a9 (ah 10) (a9 (ah 8) aN))))) (fB (f2 neM (ah 9) (fL gA (a9 (ah 4) (a9 (ah 5) (a9 (ah 6) aN)))))))
   (i3 (fC (.bl false)))
   gT
noncomputable def g_law (CR CP CN : Addr) (n : Nat) : ak -> M Flo :=
 (bC (aO [] 1 (fL (bS CR CP CN n) (a9 (ah 0) aN)))
  (bC (aO [] 2 (fL (cP CR CP CN n) (a9 (ah 0) (a9 (ah 1) aN))))
  (bC (aO [] 3 (fL (gE CR CP CN n) (a9 (ah 2) aN)))
  (bC (aO [] 4 (fL (eY CR CP CN n) (a9 (ah 0) (a9 (ah 2) (a9 (fC (.int 40)) (a9 (ah 1) aN))))))
  (bC (xI [] (.tp [4, 5]) (fL (bD CR CP CN n) (a9 (ah 0) (a9 (ah 4) (a9 (fL (g4 CR CP CN n) (a9 (ah 0) (a9 (ah 1) aN))) aN)))))
  (bC (aO [] 6 (fL (iL CR CP CN n) (a9 (ah 0) (a9 (ah 2) (a9 (ah 4) aN)))))
  (bC (aO [] 7 (fL (dW CR CP CN n) (a9 (ah 2) (a9 (ah 4) (a9 (ah 5) (a9 (ah 6) aN))))))
  (bC (Aw CR CP CN n)
  (bC (aO [] 8 (fL (jV CR CP CN n) (a9 (ah 2) (a9 (fL fZ (a9 (ah 4) (a9 (ah 5) (a9 (ah 6) aN)))) (a9 (ah 7) aN)))))
  (bC (aO [] 9 (fL gA (a9 (fL yx (a9 (ah 4) aN)) (a9 (fL yx (a9 (ah 5) aN)) (a9 (fL yx (a9 (ah 6) aN)) aN)))))
  (bC (aO [] 10 (fL (noM (bZ CR CP CN n)) (a9 (ah 3) (a9 (f2 ixD (ah 9) 'J') (a9 (f2 ixD (ah 9) 'v') (a9 (f2 ixD (ah 9) (fC (.int 2))) aN))))))
  (bC (Ex CR CP CN n)
  (bC (jK [10] 10 (fL fZ (a9 (fC (.str "first")) aN)))
  (i3 (f2 eqM (fL (noM (bZ CR CP CN n)) (a9 (ah 3) (a9 (f2 ixD (ah 9) 'J') (a9 (f2 ixD (ah 9) 'v') (a9 (f2 ixD (ah 9) (fC (.int 2))) aN))))) (ah 8))))))))))))))))
noncomputable def Dy (CR CP CN : Addr) (n : Nat) : List Dat -> M Dat := cV 11 1 (g_law CR CP CN n)
noncomputable def top (i : Nat) : Stmt := PySem.Challenge.pw_wakeorder_k24_what_pushes.main.body.getD i (.Pass ⟨0, 0, 0, 0⟩)
noncomputable abbrev bu : Stmt := top 24
noncomputable abbrev cT : Stmt := top 33
noncomputable abbrev fG : Stmt := top 26
noncomputable abbrev bX : Stmt := top 27
noncomputable abbrev dg : Stmt := top 19
noncomputable abbrev ki : Stmt := top 17
noncomputable abbrev dJ : Stmt := top 18
noncomputable abbrev bR : Stmt := top 20
noncomputable abbrev fF : Stmt := top 28
noncomputable abbrev cK : Stmt := top 30
noncomputable abbrev bY : Stmt := top 35
noncomputable abbrev fE : Stmt := top 32
noncomputable abbrev bL : Stmt := top 34
noncomputable abbrev cU : Stmt := top 29
noncomputable abbrev dO : Stmt := top 36
noncomputable abbrev gz : Stmt := top 37
noncomputable abbrev fM : Stmt := top 9
noncomputable abbrev bc : Stmt := top 6
noncomputable abbrev fD : Stmt := top 7
noncomputable abbrev di : Stmt := inClass (top 21) 3
noncomputable abbrev dQ : Stmt := inClass (top 22) 2
noncomputable abbrev dM : Stmt := top 10
noncomputable abbrev gy : Stmt := top 11
noncomputable abbrev iz : Stmt := top 12
noncomputable abbrev dI : Stmt := top 13
noncomputable abbrev dh : Stmt := top 31
noncomputable abbrev cJ : Stmt := top 38
noncomputable abbrev dN : Stmt := top 25
noncomputable abbrev dP : Stmt := top 39
noncomputable abbrev BL : Stmt := top 40
noncomputable abbrev s_nR : Stmt := inClass (top 21) 0
noncomputable abbrev s_nP : Stmt := inClass (top 22) 0
noncomputable abbrev zP : Stmt := inClass (top 4) 0
structure Zs (K : PySem.W.Frag) (mg : Str -> Option Value) (CR CP CN : Addr) : Prop where
 xCN : XTry K mg "NoTime" CN
 aCN_flight : xf K CN "flight"
 aCN_time : xf K CN "time"
 kR : Kls K mg "Rules" CR
 kP : Kls K mg "Pair" CP
 Bn : ∀ C ∈ [CR, CP], Cls K C /\ lr K C "gaps"
 Ca : ∀ C ∈ [CP], Cls K C /\ lr K C "beside"
 BC : mg "all" = none
 u4 : mg "bool" = none
 gx : mg "enumerate" = none
 xi : mg "int" = none
 b8 : mg "isinstance" = none
 lz : mg "len" = none
 nc : mg "list" = none
 xh : mg "max" = none
 uK : mg "min" = none
 fw : mg "range" = none
 mU : mg "sorted" = none
 Cu : mg "str" = none
 px : mg "tuple" = none
 eZ : ∃ t, mg "GREATEST_GAP" = some (.int 1000000 t)
 hI : ∃ t, mg "MOST_KINDS" = some (.int 6 t)
 kit : Kit K
theorem sc_nCN : aM ["self", "flight", "time"] ["self", "flight", "time"] (af zP) := ⟨rfl, rfl, rfl, by decide +kernel, rfl, by decide +kernel, by decide +kernel⟩
theorem okn_CN {P : Program} {w : World} {K : PySem.W.Frag} {mg : Str -> Option Value} {base : Heap} {C f : Addr} {fd : FuncData} (N : Fun K "__init__" "NoTime.__init__" zP f fd) (z1 : xf K C "flight") (z2 : xf K C "time") : bx P w K mg base CX0 1 f fd ["self", "flight", "time"] (spX2 C "flight" "time") := by
 refine N.okX sc_nCN (fun vs H Q E h => ?_) (fun cdv A outer s H vs Q E hr h => ?_)
 ·obtain ⟨a, v1, v2, rfl, _⟩ := h
  rfl
 ·obtain ⟨a, v1, v2, rfl, ha, q⟩ := h
  refine ⟨_, rh (ps_x1 (pv 0) (pv 1) z1) (rE (ps_x2 (pv 0) (pv 2) z2)), ?_⟩
  refine ⟨v1, rfl, _, rfl, a, rfl, ha, fun d hd hne => ⟨v2, rfl, _, rfl, a, d, [("flight", v1)], rfl, av, by rw [ar hne]; exact av, hne, (by show 1 <= 900; decide), ?_⟩⟩
  rw [upd_mid hne]
  exact q d hd hne
theorem j7 : aM ["_law_script", "_law_k", "_law_cell", "_law_number"] 'x' (af bu) := ⟨rfl, rfl, rfl, by decide +kernel, rfl, by decide +kernel, by decide +kernel⟩
theorem ya {n : Nat} {P : Program} {w : World} {K : PySem.W.Frag} {mg : Str -> Option Value} {base : Heap} {CR CP CN : Addr} (Z : Zs K mg CR CP CN) {aw : Addr} {az : FuncData} (ae : Def K mg "_law_draw" bu 'x' aw az) : bx P w K mg base CX0 1 aw az 'x' (spF K false (aB CR CP CN n) 2) :=
 pq (O' := []) ae.fn j7 false (kH CR CP CN n) fun cdv A outer s H E hr =>
  (ai (aq (i := 2) (own := false) j7.nd (ao 1))
  (ai (iq (eS o_gt (aY qY Z.lz PySem.boot_len (a8 (ao 0) aj)) aa)
   (ay (aq (i := 2) (own := false) j7.nd (aH cH (ao 0) (aC i4 (ao 1) (aY qY Z.lz PySem.boot_len (a8 (ao 0) aj))))))
   e9)
  (ai (aq (i := 3) (own := false) j7.nd (aC i4 (aC lu (aI (aC gv (aI (aC gv (ao 2) (aC lu (aC lu aa (ao 1)) (ao 1)))) (ao 1))) aa) aa))
  (ay (aZ (aC jT (aC i4 (aC lu (ao 3) aa) aa) aa))))))
theorem v8 : aM ["_law_script"] ["_law_script"] (af cT) := ⟨rfl, rfl, rfl, by decide +kernel, rfl, by decide +kernel, by decide +kernel⟩
theorem vo {n : Nat} {P : Program} {w : World} {K : PySem.W.Frag} {mg : Str -> Option Value} {base : Heap} {CR CP CN : Addr} (Z : Zs K mg CR CP CN) {aw : Addr} {az : FuncData} (ae : Def K mg "_law_draw" bu 'x' aw az) (au : bx P w K mg base CX0 1 aw az 'x' (spF K false (aB CR CP CN n) 2)) {bo : Addr} {cx : FuncData} (b9 : Def K mg "_law_scale" cT ["_law_script"] bo cx) : bx P w K mg base CX0 2 bo cx ["_law_script"] (spF K false (bS CR CP CN n) 1) :=
 pq (O' := []) b9.fn v8 false (fO CR CP CN n) fun cdv A outer s H E hr =>
  (ay (aZ (aH cH (aI (ee (a8 aa (a8 aa (a8 aa (a8 (aC yt aa aa) aj)))))) (aC i4 (aK au hr ae.mg ae.fn.kp ae.bd (a8 (ao 0) (a8 aa aj))) aa))))
theorem fK : aM ["_law_script", "_law_by", "_law_kinds", "_law_scale_here", "_law_rows", "_law_one", "_law_row", "_law_other", "_law_number"] 'M' (af fG) := ⟨rfl, rfl, rfl, by decide +kernel, rfl, by decide +kernel, by decide +kernel⟩
theorem y0 {n : Nat} {P : Program} {w : World} {K : PySem.W.Frag} {mg : Str -> Option Value} {base : Heap} {CR CP CN : Addr} (Z : Zs K mg CR CP CN) {aw : Addr} {az : FuncData} (ae : Def K mg "_law_draw" bu 'x' aw az) (au : bx P w K mg base CX0 1 aw az 'x' (spF K false (aB CR CP CN n) 2)) {dv : Addr} {hX : FuncData} (cg : Def K mg "_law_gaps" fG 'M' dv hX) : bx P w K mg base CX0 2 dv hX 'M' (spF K false (gF CR CP CN n) 4) :=
 pq (O' := []) cg.fn fK false (nY CR CP CN n) fun cdv A outer s H E hr =>
  (ai (aq (i := 4) (own := true) fK.nd (ee aj))
  (ai (ij (pt := .nm 5) (jw Z.fw (a8 (ao 2) aj)) (wo fK.nd)
   (ai (aq (i := 6) (own := true) fK.nd (ee aj))
  (cE (O2 := [4, 6]) (ai (ij (pt := .nm 7) (jw Z.fw (a8 (ao 2) aj)) (wo fK.nd)
   (ai (aq (i := 8) (own := false) fK.nd (aK au hr ae.mg ae.fn.kp ae.bd (a8 (ao 0) (a8 (aI (aC gv (aI (aC gv (ao 1) (aC lu (ao 5) (ao 2)))) (ao 7))) aj))))
  (ay (gG (i := 6) (aI (aC gv (aC lu (aC i4 (ao 8) aa) (ao 3)) (aC i4 (aC jT (ao 8) aa) (ao 3))))))))
  (cE (O2 := [4]) (ay (gG (i := 4) (ao 6))))))))
  (cE (O2 := []) (ay (aZ (ao 4))))))
theorem fg : aM ["_law_script", "_law_scale_here", "_law_kinds", "_law_beside"] 'B' (af bX) := ⟨rfl, rfl, rfl, by decide +kernel, rfl, by decide +kernel, by decide +kernel⟩
theorem qK {n : Nat} {P : Program} {w : World} {K : PySem.W.Frag} {mg : Str -> Option Value} {base : Heap} {CR CP CN : Addr} (Z : Zs K mg CR CP CN) {dv : Addr} {hX : FuncData} (cg : Def K mg "_law_gaps" fG 'M' dv hX) (jg : bx P w K mg base CX0 2 dv hX 'M' (spF K false (gF CR CP CN n) 4)) {aw : Addr} {az : FuncData} (ae : Def K mg "_law_draw" bu 'x' aw az) (au : bx P w K mg base CX0 1 aw az 'x' (spF K false (aB CR CP CN n) 2)) {bf : Addr} {dA : FuncData} (bG : Def K mg "_law_rules_of" bX 'B' bf dA) : bx P w K mg base CX0 3 bf dA 'B' (spF K false (cP CR CP CN n) 2) :=
 pq (O' := []) bG.fn fg false (g8 CR CP CN n) fun cdv A outer s H E hr =>
  (ai (aq (i := 2) (own := false) fg.nd (aI (aC gv aa (aC i4 (aK au 'u' ae.mg ae.fn.kp ae.bd (a8 (ao 0) (a8 aa aj))) aa))))
  (ai (aq (i := 3) (own := false) fg.nd Ec)
  (ai (iq (eS (BY hr.units) (aC i4 (aK au 'u' ae.mg ae.fn.kp ae.bd (a8 (ao 0) (a8 aa aj))) aa) aa)
   (ay (aq (i := 3) (own := false) fg.nd (aK jg hr cg.mg cg.fn.kp cg.bd (a8 (ao 0) (a8 aa (a8 (ao 2) (a8 (ao 1) aj)))))))
   e9)
  (ay (aZ (eT (a8 (aK jg hr cg.mg cg.fn.kp cg.bd (a8 (ao 0) (a8 aa (a8 (ao 2) (a8 (ao 1) aj))))) (a8 (ao 3) aj))))))))
theorem tf : aM ["rows"] ["rows"] (af dg) := ⟨rfl, rfl, rfl, by decide +kernel, rfl, by decide +kernel, by decide +kernel⟩
theorem tE {n : Nat} {P : Program} {w : World} {K : PySem.W.Frag} {mg : Str -> Option Value} {base : Heap} {CR CP CN : Addr} (Z : Zs K mg CR CP CN) {bP : Addr} {f6 : FuncData} (cF : Def K mg "copied_rows" dg ["rows"] bP f6) : bx P w K mg base CX0 1 bP f6 ["rows"] (spF K false (g0 CR CP CN n) 1) :=
 pq (O' := []) cF.fn tf false (kF CR CP CN n) fun cdv A outer s H E hr =>
  (ay (aZ (aI (kL ["row"] [none] (jd (ao 0)) (fun _ _ _ _ _ => qu 'E') (dX rfl) (fun _ _ _ _ _ => ml) (fun _ _ _ _ _ => (aI (k8 Bv Z.nc PyProof.Rows.boot_list (a8 (ao 0) aj))))))))
theorem CQ : aM ["number"] ["number"] (af ki) := ⟨rfl, rfl, rfl, by decide +kernel, rfl, by decide +kernel, by decide +kernel⟩
theorem Dl {n : Nat} {P : Program} {w : World} {K : PySem.W.Frag} {mg : Str -> Option Value} {base : Heap} {CR CP CN : Addr} (Z : Zs K mg CR CP CN) {il : Addr} {mi : FuncData} (ji : Def K mg "is_gap" ki ["number"] il mi) : bx P w K mg base CX0 1 il mi ["number"] (spF K false (kq CR CP CN n) 1) :=
 pq (O' := []) ji.fn CQ false (w5 CR CP CN n) fun cdv A outer s H E hr =>
  (ai (iq (PW.pt (E8 (qt (mm (ux Z.kit Z.b8 Z.xi (ao 0)))) (yN (mm (sA Z.kit Z.b8 Z.u4 (ao 0))))))
   (ay (aZ wt))
   e9)
  (ay (aZ (de_chain o_le o_le aa (ao 0) (Ed Z.eZ)))))
theorem v5 : aM ["row", "kinds"] ["row", "kinds"] (af dJ) := ⟨rfl, rfl, rfl, by decide +kernel, rfl, by decide +kernel, by decide +kernel⟩
theorem vm {n : Nat} {P : Program} {w : World} {K : PySem.W.Frag} {mg : Str -> Option Value} {base : Heap} {CR CP CN : Addr} (Z : Zs K mg CR CP CN) {il : Addr} {mi : FuncData} (ji : Def K mg "is_gap" ki ["number"] il mi) (sX : bx P w K mg base CX0 1 il mi ["number"] (spF K false (kq CR CP CN n) 1)) {cz : Addr} {g9 : FuncData} (d7 : Def K mg "is_gap_row" dJ ["row", "kinds"] cz g9) : bx P w K mg base CX0 2 cz g9 ["row", "kinds"] (spF K false (dU CR CP CN n) 2) :=
 pq (O' := []) d7.fn v5 false (md CR CP CN n) fun cdv A outer s H E hr =>
  (ay (aZ (Ef (sy Z.kit Z.b8 Z.nc (ao 0)) (Ef (yP (BY hr.units) (aY qY Z.lz PySem.boot_len (a8 (ao 0) aj)) (ao 1)) (de_one (aY (c_all rfl) Z.BC boot_all (a8 (aI (kL ["number"] [none] (jd (ao 0)) (fun _ _ _ _ _ => qu 'E') (dX rfl) (fun _ _ _ _ _ => ml) (fun _ _ _ _ _ => (aK sX hr ji.mg ji.fn.kp ji.bd (a8 (ao 0) aj))))) aj)))))))
theorem lE : aM ["rows", "kinds"] ["rows"] (af bR) := ⟨rfl, rfl, rfl, by decide +kernel, rfl, by decide +kernel, by decide +kernel⟩
theorem rL {n : Nat} {P : Program} {w : World} {K : PySem.W.Frag} {mg : Str -> Option Value} {base : Heap} {CR CP CN : Addr} (Z : Zs K mg CR CP CN) {bP : Addr} {f6 : FuncData} (cF : Def K mg "copied_rows" dg ["rows"] bP f6) (jF : bx P w K mg base CX0 1 bP f6 ["rows"] (spF K false (g0 CR CP CN n) 1)) {cz : Addr} {g9 : FuncData} (d7 : Def K mg "is_gap_row" dJ ["row", "kinds"] cz g9) (l5 : bx P w K mg base CX0 2 cz g9 ["row", "kinds"] (spF K false (dU CR CP CN n) 2)) {aS : Addr} {bE : FuncData} (aJ : Def K mg "checked_rows" bR ["rows"] aS bE) : bx P w K mg base CX0 3 aS bE ["rows"] (spF K false (aF CR CP CN n) 1) :=
 pq (O' := []) aJ.fn lE false (jr CR CP CN n) fun cdv A outer s H E hr =>
  (ai (aq (i := 1) (own := false) lE.nd (aY qY Z.lz PySem.boot_len (a8 (ao 0) aj)))
  (ai (iq (qt (wj o_le o_le aa (ao 1) (Ed Z.hI)))
   (ay ds_stk)
   e9)
  (ai (iq (qt (mm (aY (c_all rfl) Z.BC boot_all (a8 (aI (kL ["row", "kinds"] [none, some 1] (jd (ao 0)) (fun _ _ _ _ _ => qu 'E') (dX rfl) (fun _ _ _ _ _ => ml) (fun _ _ _ _ _ => (aK l5 hr d7.mg d7.fn.kp d7.bd (a8 (ao 0) (a8 (ao 1) aj)))))) aj))))
   (ay ds_stk)
   e9)
  (ay (aZ (aK jF 'u' cF.mg cF.fn.kp cF.bd (a8 (ao 0) aj)))))))
theorem sc_nR : aM ["self", "gaps"] ["self", "gaps"] (af s_nR) := ⟨rfl, rfl, rfl, by decide +kernel, rfl, by decide +kernel, by decide +kernel⟩
theorem okn_R {n : Nat} {P : Program} {w : World} {K : PySem.W.Frag} {mg : Str -> Option Value} {base : Heap} {CR CP CN : Addr} {C aS f : Addr} {bE fd : FuncData} (aJ : Def K mg "checked_rows" bR ["rows"] aS bE) (OK : bx P w K mg base CX0 3 aS bE ["rows"] (spF K false (aF CR CP CN n) 1))
  (N : Fun K "__init__" "Rules.__init__" s_nR f fd) (cl : Cls K C) (na : lr K C "gaps") : bx P w K mg base CX0 4 f fd ["self", "gaps"] (spI1 K C (aF CR CP CN n)) := by
 refine N.okX sc_nR (fun vs H Q E h => ?_) (fun cdv A outer s H vs Q E hr h => ?_)
 ·obtain ⟨p, dx, v, F, d, rfl, _⟩ := h
  rfl
 ·obtain ⟨p, dx, v, F, d, rfl, hp, hF, s1, qd, q⟩ := h
  refine ⟨_, rE (ps_fld (pv 0) (rK OK hr (by rfl) aJ.mg aJ.fn.kp aJ.bd .nil zX (cL (pv 1) iJ)) rfl), ?_⟩
  refine ⟨v, rfl, F, [d], s1, ⟨v, [], rfl, qd, rfl⟩, rfl, ?_⟩
  skip
  cases hg : aF CR CP CN n [d] with
  | error e => rw [hg] at q; exact q
  | ok r =>
   rw [hg] at q
   intro u F' H' st qw
   have hF1 : F' p = none := by
    cases hz : F' p with
    | none => rfl
    | some o =>
     rcases st.nw p o hz with z | z
     ·rw [hF] at z; cases z
     ·rw [hp] at z; cases z
   refine ⟨_, rfl, p, C, dx, [], rfl, st.hh _ _ hp, cl, na, (by show 0 < 1000; decide), ?_⟩
   refine q u F' _ st.ff (fun c o e => ?_) hF1 st.nw (fun c o e hc => by rw [ar hc]; exact st.hh _ _ e) av qw
   have hc : c ≠ p := fun z => by rw [z, hF1] at e; cases e
   rw [ar hc]
   exact st.fh _ _ e
theorem putGB (a b : V) : tu ("beside" : Str) b [(("gaps" : Str), a)] = [(("gaps" : Str), a), (("beside" : Str), b)] := by
 show (if ("gaps" : Str) = "beside" then _ else (("gaps" : Str), a) :: tu "beside" b []) = _
 rw [if_neg 'E']
 rfl
theorem sc_nP : aM ["self", "gaps", "beside"] ["self", "gaps", "beside"] (af s_nP) := ⟨rfl, rfl, rfl, by decide +kernel, rfl, by decide +kernel, by decide +kernel⟩
theorem okn_P {n : Nat} {P : Program} {w : World} {K : PySem.W.Frag} {mg : Str -> Option Value} {base : Heap} {CR CP CN : Addr} {aS f fR : Addr} {bE fd fdR : FuncData} {mc : Value} (aJ : Def K mg "checked_rows" bR ["rows"] aS bE) (OK : bx P w K mg base CX0 3 aS bE ["rows"] (spF K false (aF CR CP CN n) 1))
  (S : Stat K CR mc "__init__" fR) (bI : Binds K fdR ["self", "gaps"] []) (FI : bx P w K mg base CX0 4 fR fdR ["self", "gaps"] (spI1 K CP (aF CR CP CN n))) (mR : mg "Rules" = some (.ref CR)) (zl : mg "len" = none)
  (N : Fun K "__init__" "Pair.__init__" s_nP f fd) (cl : Cls K CP) (na : lr K CP "gaps") (nb : lr K CP "beside") : bx P w K mg base CX0 5 f fd ["self", "gaps", "beside"] (spI2 K CP (aF CR CP CN n)) := by
 refine N.okX sc_nP (fun vs H Q E h => ?_) (fun cdv A outer s H vs Q E hr h => ?_)
 ·obtain ⟨p, dx, v, v2, F, d, d2, rfl, _⟩ := h
  rfl
 ·obtain ⟨p, dx, v, v2, F, d, d2, rfl, hp, hF, s1, qd, qd2, q⟩ := h
  refine ⟨_, rh (D3 (pe_cmeth S (by rfl) mR FI hr bI .nil zX (cL (pv 0) (cL (pv 1) iJ))))
   (rh (ps_fld (pv 0) (rK OK 'u' (by rfl) aJ.mg aJ.fn.kp aJ.bd .nil zX (cL (pv 2) iJ)) rfl)
   (rE (ps_if (CZ op_ne (kn mE (by rfl) zl PySem.boot_len (cL (Dg (pv 0) rfl) iJ)) (kn mE (by rfl) zl PySem.boot_len (cL (Dg (pv 0) rfl) iJ)) (Dt _)) xK D0))), ?_⟩
  refine ⟨_, rfl, _, rfl, p, dx, v, F, d, rfl, hp, hF, s1, qd, ?_⟩
  cases hg : aF CR CP CN n [d] with
  | error e => rw [hg] at q; exact q
  | ok r =>
   rw [hg, ax] at q
   intro u F1 H1 a1 a2 a3 a4 a5 a6 a7
   refine ⟨v2, rfl, F1, [d2], a2, ⟨v2, [], rfl, cR.mono a1 qd2, rfl⟩, rfl, ?_⟩
   skip
   cases hg2 : aF CR CP CN n [d2] with
   | error e => rw [hg2] at q; exact False.elim q
   | ok r2 =>
    rw [hg2, ax] at q
    intro u2 F2 H2 st qw
    by_cases ht : twoL r r2 = true
    ·rw [if_pos ht] at q
     have hF2 : F2 p = none := by
      cases hz : F2 p with
      | none => rfl
      | some o =>
       rcases st.nw p o hz with z | z
       ·rw [a3] at z; cases z
       ·rw [a6] at z; cases z
     refine ⟨_, rfl, p, CP, dx, _, rfl, st.hh _ _ a6, cl, nb, (by show 1 < 1000; decide), ?_⟩
     rw [putGB]
     have s3 : bj F2 (upd H2 p (.ins CP dx [("gaps", u), ("beside", u2)])) := fun c o e => by
      have hc : c ≠ p := fun z => by rw [z, hF2] at e; cases e
      rw [ar hc]
      exact st.fh _ _ e
     cases r with
     | lst xs =>
      cases r2 with
      | lst ys =>
       have hl : xs.length = ys.length := of_decide_eq_true ht
       obtain ⟨g1, xs1, e1, t1, z1⟩ := cR.mono st.ff a7
       obtain ⟨g2, xs2, e2, t2, z2⟩ := id qw
       refine ⟨_, rfl, p, CP, dx, _, _, rfl, av, cl, nb, rfl, g2, _, by rw [e2], .inl (s3.lst t2), _, rfl, p, CP, dx, _, _, rfl, av, cl, na, rfl, g1, _, by rw [e1], .inl (s3.lst t1), rfl, _, rfl, ?_⟩
       refine iteNS (by rw [z1.length, z2.length, hl]) ?_
       refine q u u2 F2 _ (a1.trans st.ff) s3 hF2 (fun b o e => ?_) (fun c o e hc => by rw [ar hc]; exact st.hh _ _ (a5 c o e hc)) av (cR.mono st.ff a7) qw
       rcases st.nw b o e with z | z
       ·exact a4 b o z
       ·refine .inr ?_
        cases hz : H b with
        | none => rfl
        | some o' =>
         by_cases hb : b = p
         ·subst hb; rw [hF2] at e; cases e
         ·rw [a5 b o' hz hb] at z; cases z
      | _ => cases ht
     | _ => cases ht
    ·rw [if_neg ht] at q; exact False.elim q
theorem xH : aM ["_law_rules"] ["_law_rules"] (af fF) := ⟨rfl, rfl, rfl, by decide +kernel, rfl, by decide +kernel, by decide +kernel⟩
theorem xZ {n : Nat} {P : Program} {w : World} {K : PySem.W.Frag} {mg : Str -> Option Value} {base : Heap} {CR CP CN : Addr} (Z : Zs K mg CR CP CN) {f_nP : Addr} {fd_nP : FuncData} (N_P : Mth K CP "__init__" "Pair.__init__" s_nP ["self", "gaps", "beside"] f_nP fd_nP) (OKN_P : bx P w K mg base CX0 5 f_nP fd_nP ["self", "gaps", "beside"] (spI2 K CP (aF CR CP CN n))) {f_nR : Addr} {fd_nR : FuncData} (N_R : Mth K CR "__init__" "Rules.__init__" s_nR ["self", "gaps"] f_nR fd_nR) (OKN_R : bx P w K mg base CX0 4 f_nR fd_nR ["self", "gaps"] (spI1 K CR (aF CR CP CN n))) {du : Addr} {hW : FuncData} (eC : Def K mg "_law_made" fF ["_law_rules"] du hW) : bx P w K mg base CX0 7 du hW ["_law_rules"] (spF K false (gE CR CP CN n) 1) :=
 pq (O' := []) eC.fn xH false (kG CR CP CN n) fun cdv A outer s H E hr =>
  (ai (iq (eS o_isN (aH cH (ao 0) aa) Ec)
   (ay (aZ (de_newR ⟨Z.kR.mks, N_R.mt.at_, N_R.mt.fn, Z.kR.kp⟩ OKN_R 'u' Z.kR.mg N_R.bd (a8 (aH cH (ao 0) aa) aj))))
   e9)
  (ay (aZ (de_newP ⟨Z.kP.mks, N_P.mt.at_, N_P.mt.fn, Z.kP.kp⟩ OKN_P hr Z.kP.mg N_P.bd (a8 (aH cH (ao 0) aa) (a8 (aH cH (ao 0) aa) aj))))))
theorem aR : aM ["_law_script", "_law_rules", "_law_most", "_law_scale_here", "_law_many", "_law_flights_here", "_law_k", "_law_number", "_law_first", "_law_wide", "_law_last", "_law_due_here", "_law_price"] 'K' (af cK) := ⟨rfl, rfl, rfl, by decide +kernel, rfl, by decide +kernel, by decide +kernel⟩
theorem rN {n : Nat} {P : Program} {w : World} {K : PySem.W.Frag} {mg : Str -> Option Value} {base : Heap} {CR CP CN : Addr} (Z : Zs K mg CR CP CN) {aw : Addr} {az : FuncData} (ae : Def K mg "_law_draw" bu 'x' aw az) (au : bx P w K mg base CX0 1 aw az 'x' (spF K false (aB CR CP CN n) 2)) {bA : Addr} {e8 : FuncData} (bV : Def K mg "_law_flights" cK 'K' bA e8) : bx P w K mg base CX0 2 bA e8 'K' (spF K false (eY CR CP CN n) 4) :=
 pq (O' := []) bV.fn aR false (ju CR CP CN n) fun cdv A outer s H E hr =>
  (ai (aq (i := 4) (own := false) aR.nd (aC i4 (aK au hr ae.mg ae.fn.kp ae.bd (a8 (ao 0) (a8 aa aj))) (aI (aC gv (aC jT (ao 2) aa) aa))))
  (ai (iq (eS (BY hr.units) (aC i4 (aK au hr ae.mg ae.fn.kp ae.bd (a8 (ao 0) (a8 aa aj))) aa) aa)
   (ay (aq (i := 4) (own := false) aR.nd (ao 2)))
   e9)
  (ai (aq (i := 5) (own := true) aR.nd (ee aj))
  (ai (ij (pt := .nm 6) (jw Z.fw (a8 (ao 4) aj)) (wo aR.nd)
   (ai (aq (i := 7) (own := false) aR.nd (aK au hr ae.mg ae.fn.kp ae.bd (a8 (ao 0) (a8 (aI (aC gv aa (ao 6))) aj))))
  (ai (aq (i := 8) (own := false) aR.nd (aC i4 (aC jT (ao 7) aa) (aC lu (aC lu aa (ao 3)) (aI (aC gv (ao 6) aa)))))
  (ai (aq (i := 9) (own := false) aR.nd (aH cH (aI (ee (a8 (aC yt aa aa) (a8 (aC lu (aC lu aa (ao 3)) (ao 4)) (a8 (aC lu (aC lu aa (ao 3)) (ao 4)) (a8 (aC lu aa (ao 3)) aj)))))) (aC jT (aC i4 (ao 7) aa) aa)))
  (ai (aq (i := 10) (own := false) aR.nd (aY (Ew rfl) Z.uK boot_min (a8 (aC yt aa aa) (a8 (aI (aC gv (ao 8) (ao 9))) aj))))
  (ai (aq (i := 11) (own := false) aR.nd (aY (Ew rfl) Z.uK boot_min (a8 (aC yt aa aa) (a8 (aI (aC gv (ao 8) (aC i4 (aC jT (ao 7) aa) (aC lu aa (ao 3))))) aj))))
  (ai (aq (i := 12) (own := false) aR.nd (aH cH (aI (ee (a8 (aC i4 (aC jT (ao 7) aa) aa) (a8 (aC i4 (aC jT (ao 7) aa) (aI (aC gv (aC yt aa aa) aa))) aj)))) (aC i4 (aC jT (ao 7) aa) aa)))
  (ay (gG (i := 5) (eT (a8 (aC i4 (aC jT (ao 7) aa) (aY qY Z.lz PySem.boot_len (a8 (aH cH (ao 1) aa) aj))) (a8 (ao 8) (a8 (ao 10) (a8 (ao 11) (a8 (ao 12) aj)))))))))))))))
  (cE (O2 := []) (ay (aZ (ao 5))))))))
theorem aA : aM ["_law_script", "_law_flights_here", "_law_closed_here", "_law_wide", "_law_some", "_law_kind", "_law_first", "_law_last", "_law_due_here", "_law_price", "_law_by", "_law_moved"] 'P' (af bY) := ⟨rfl, rfl, rfl, by decide +kernel, rfl, by decide +kernel, by decide +kernel⟩
theorem qL {n : Nat} {P : Program} {w : World} {K : PySem.W.Frag} {mg : Str -> Option Value} {base : Heap} {CR CP CN : Addr} (Z : Zs K mg CR CP CN) {bo : Addr} {cx : FuncData} (b9 : Def K mg "_law_scale" cT ["_law_script"] bo cx) (eP : bx P w K mg base CX0 2 bo cx ["_law_script"] (spF K false (bS CR CP CN n) 1)) {aw : Addr} {az : FuncData} (ae : Def K mg "_law_draw" bu 'x' aw az) (au : bx P w K mg base CX0 1 aw az 'x' (spF K false (aB CR CP CN n) 2)) {bg : Addr} {dB : FuncData} (bH : Def K mg "_law_moved_up" bY 'P' bg dB) : bx P w K mg base CX0 3 bg dB 'P' (spF K false (bD CR CP CN n) 3) :=
 pq (O' := []) bH.fn aA false (dY CR CP CN n) fun cdv A outer s H E hr =>
  (ai (iq (PW.pt (E8 (eS (o_ne hr.units) (aC i4 (aK au 'u' ae.mg ae.fn.kp ae.bd (a8 (ao 0) (a8 aa aj))) aa) aa) (yN (eS (BY hr.units) (ao 1) (aI (ee aj))))))
   (ay (aZ (eT (a8 (ao 1) (a8 (ao 2) aj)))))
   e9)
  (ai (aq (i := 3) (own := false) aA.nd (aC lu aa (aK eP hr b9.mg b9.fn.kp b9.bd (a8 (ao 0) aj))))
  (ai (aq (i := 4) (own := true) aA.nd (ee aj))
  (ai (ij (pt := .tp [5, 6, 7, 8, 9]) (jd (ao 1)) (pY rfl (aT (i := 5) aA.nd (aT (i := 6) aA.nd (aT (i := 7) aA.nd (aT (i := 8) aA.nd (aT (i := 9) aA.nd gH))))))
   (ay (gG (i := 4) (eT (a8 (ao 5) (a8 (ao 6) (a8 (aY (Ew rfl) Z.uK boot_min (a8 (ao 7) (a8 (aI (aC gv (ao 6) (ao 3))) aj))) (a8 (ao 8) (a8 (ao 9) aj)))))))))
  (cE (O2 := []) (ai (aq (i := 10) (own := false) aA.nd (aC o_sub (aC yt aa aa) (aY (c_max rfl) Z.xh boot_max (a8 (aI (kL ["_law_flight"] [none] (jd (ao 4)) (fun _ _ _ _ _ => qu 'E') (dX rfl) (fun _ _ _ _ _ => ml) (fun _ _ _ _ _ => (aH cH (ao 0) aa)))) aj))))
  (ai (aq (i := 11) (own := true) aA.nd (ee aj))
  (ai (ij (pt := .tp [5, 6, 7, 8, 9]) (jd (ao 4)) (pY rfl (aT (i := 5) aA.nd (aT (i := 6) aA.nd (aT (i := 7) aA.nd (aT (i := 8) aA.nd (aT (i := 9) aA.nd gH))))))
   (ay (gG (i := 11) (eT (a8 (ao 5) (a8 (aI (aC gv (ao 6) (ao 10))) (a8 (aI (aC gv (ao 7) (ao 10))) (a8 (aY (Ew rfl) Z.uK boot_min (a8 (aC yt aa aa) (a8 (aI (aC gv (ao 8) (ao 10))) aj))) (a8 (ao 9) aj)))))))))
  (cE (O2 := []) (ay (aZ (eT (a8 (ao 11) (a8 (aI (kL ["_law_start", "_law_stop", "_law_by"] [none, none, some 10] (jd (ao 2)) (fun _ _ _ _ _ => pY rfl (k7 (i := 0) 'E' (k7 (i := 1) 'E' gH))) (s9 (by decide)) (fun _ _ _ _ _ => zR (eS o_le (aI (aC gv (ao 1) (ao 2))) (aC yt aa aa))) (fun _ _ _ _ _ => (eT (a8 (aI (aC gv (ao 0) (ao 2))) (a8 (aI (aC gv (ao 1) (ao 2))) aj)))))) aj))))))))))))))
theorem cS : aM ["_law_script", "_law_rules", "_law_flights_here", "_law_left", "_law_pairs", "_law_strips", "_law_number", "_law_at", "_law_first", "_law_k"] 'Z' (af fE) := ⟨rfl, rfl, rfl, by decide +kernel, rfl, by decide +kernel, by decide +kernel⟩
theorem xY {n : Nat} {P : Program} {w : World} {K : PySem.W.Frag} {mg : Str -> Option Value} {base : Heap} {CR CP CN : Addr} (Z : Zs K mg CR CP CN) {aw : Addr} {az : FuncData} (ae : Def K mg "_law_draw" bu 'x' aw az) (au : bx P w K mg base CX0 1 aw az 'x' (spF K false (aB CR CP CN n) 2)) {dq : Addr} {hV : FuncData} (eB : Def K mg "_law_plan" fE 'Z' dq hV) : bx P w K mg base CX0 2 dq hV 'Z' (spF K false (iL CR CP CN n) 3) :=
 pq (O' := []) eB.fn cS false (nX CR CP CN n) fun cdv A outer s H E hr =>
  (ai (aq (i := 3) (own := true) cS.nd (aY Bu Z.mU boot_sorted (a8 (aI (kL ["_law_k", "_law_flights_here"] [none, some 2] (jw Z.fw (a8 (aY qY Z.lz PySem.boot_len (a8 (ao 2) aj)) aj)) (fun _ _ _ _ _ => qu 'E') (dX rfl) (fun _ _ _ _ _ => ml) (fun _ _ _ _ _ => (eT (a8 (aH cH (aH cH (ao 1) (ao 0)) aa) (a8 (ao 0) aj)))))) aj)))
  (ai (aq (i := 4) (own := true) cS.nd (ee aj))
  (cE (O2 := [3, 4]) (ai (aq (i := 5) (own := false) cS.nd (aC o_sub aa (k8 c_int Z.xi PyProof.Rows.boot_int (a8 (yP o_isN (aH cH (ao 1) aa) Ec) aj))))
  (ai (Bo (m := n) (eS o_gt (aY qY Z.lz PySem.boot_len (a8 (ao 3) aj)) aa)
   (ai (wm (i := 6) (own := false) cS.nd (aK au hr ae.mg ae.fn.kp ae.bd (a8 (ao 0) (a8 (aI (aC gv aa (aY qY Z.lz PySem.boot_len (a8 (ao 3) aj)))) aj))))
  (ai (wm (i := 7) (own := false) cS.nd (aC lu (aC i4 (aC jT (ao 6) aa) (aY (Ew rfl) Z.uK boot_min (a8 (aY qY Z.lz PySem.boot_len (a8 (ao 3) aj)) (a8 aa aj)))) (k8 c_int Z.xi PyProof.Rows.boot_int (a8 (yP (BY hr.units) (aC i4 (ao 6) aa) aa) aj))))
  (ai (ds_popU (i := 3) (pY rfl (aT (i := 8) cS.nd (aT (i := 9) cS.nd gH))) (ao 7))
  (ay (gG (i := 4) (eT (a8 (ao 9) (a8 (aC i4 (aC jT (ao 6) aa) (ao 5)) aj)))))))))
  (cE (O2 := []) (ay (aZ (ao 4)))))))))
theorem br : aM ["_law_closed_here", "_law_time", "_law_moved", "_law_start", "_law_stop"] ["_law_closed_here", "_law_time"] (af bL) := ⟨rfl, rfl, rfl, by decide +kernel, rfl, by decide +kernel, by decide +kernel⟩
theorem pG {n : Nat} {P : Program} {w : World} {K : PySem.W.Frag} {mg : Str -> Option Value} {base : Heap} {CR CP CN : Addr} (Z : Zs K mg CR CP CN) {aX : Addr} {cQ : FuncData} (bq : Def K mg "_law_open_from" bL ["_law_closed_here", "_law_time"] aX cQ) : bx P w K mg base CX0 1 aX cQ ["_law_closed_here", "_law_time"] (spF K false (dz CR CP CN n) 2) :=
 pq (O' := []) bq.fn br false (i7 CR CP CN n) fun cdv A outer s H E hr =>
  (ai (aq (i := 2) (own := false) br.nd wt)
  (ai (Bo (m := n) (mm (ao 2))
   (ai (aq (i := 2) (own := false) br.nd wt)
  (ay (ij (pt := .tp [3, 4]) (jd (ao 0)) (pY rfl (aT (i := 3) br.nd (aT (i := 4) br.nd gH)))
   (ay (iq (wj o_le o_lt (ao 3) (ao 1) (ao 4))
   (ai (aq (i := 1) (own := false) br.nd (ao 4))
  (ay (aq (i := 2) (own := false) br.nd wt)))
   e9))))))
  (ay (aZ (ao 1)))))
theorem kh : aM ["_law_rules", "_law_flights_here", "_law_one", "_law_other", "_law_here", "_law_there"] 't' (af cU) := ⟨rfl, rfl, rfl, by decide +kernel, rfl, by decide +kernel, by decide +kernel⟩
theorem vq {n : Nat} {P : Program} {w : World} {K : PySem.W.Frag} {mg : Str -> Option Value} {base : Heap} {CR CP CN : Addr} (Z : Zs K mg CR CP CN) {bp : Addr} {cy : FuncData} (ba : Def K mg "_law_apart" cU 't' bp cy) : bx P w K mg base CX0 1 bp cy 't' (spF K false (cW CR CP CN n) 4) :=
 pq (O' := []) ba.fn kh false (ja CR CP CN n) fun cdv A outer s H E hr =>
  (ai (aq (i := 4) (own := false) kh.nd (aH cH (aH cH (ao 1) (aH cH (ao 2) aa)) aa))
  (ai (aq (i := 5) (own := false) kh.nd (aH cH (aH cH (ao 1) (aH cH (ao 3) aa)) aa))
  (ai (iq (eS (BY hr.units) (aH cH (ao 2) aa) (aH cH (ao 3) aa))
   (ay (aZ (aH cH (aH cH (aH cH (ao 0) aa) (ao 4)) (ao 5))))
   e9)
  (ay (aZ (aH cH (aH cH (aH cH (ao 0) aa) (ao 4)) (ao 5)))))))
theorem cu : aM ["_law_rules", "_law_flights_here", "_law_closed_here", "_law_plan_here", "_law_times", "_law_place", "_law_flight", "_law_time", "_law_ahead"] 'A' (af dO) := ⟨rfl, rfl, rfl, by decide +kernel, rfl, by decide +kernel, by decide +kernel⟩
theorem vp {n : Nat} {P : Program} {w : World} {K : PySem.W.Frag} {mg : Str -> Option Value} {base : Heap} {CR CP CN : Addr} (Z : Zs K mg CR CP CN) {aX : Addr} {cQ : FuncData} (bq : Def K mg "_law_open_from" bL ["_law_closed_here", "_law_time"] aX cQ) (gK : bx P w K mg base CX0 1 aX cQ ["_law_closed_here", "_law_time"] (spF K false (dz CR CP CN n) 2)) {bp : Addr} {cy : FuncData} (ba : Def K mg "_law_apart" cU 't' bp cy) (eQ : bx P w K mg base CX0 1 bp cy 't' (spF K false (cW CR CP CN n) 4)) {cC : Addr} {gc : FuncData} (d9 : Def K mg "_law_least" dO 'A' cC gc) : bx P w K mg base CX0 2 cC gc 'A' (spF K false (dW CR CP CN n) 4) :=
 pq (O' := []) d9.fn cu false (j9 CR CP CN n) fun cdv A outer s H E hr =>
  (ai (aq (i := 4) (own := true) cu.nd (ee aj))
  (ai (ij (pt := .nm 5) (jw Z.fw (a8 (aY qY Z.lz PySem.boot_len (a8 (ao 3) aj)) aj)) (wo cu.nd)
   (ai (aq (i := 6) (own := false) cu.nd (aH cH (ao 1) (aH cH (aH cH (ao 3) (ao 5)) aa)))
  (ai (aq (i := 7) (own := false) cu.nd (aH cH (ao 6) aa))
  (ai (ij (pt := .nm 8) (jw Z.fw (a8 (ao 5) aj)) (wo cu.nd)
   (ay (wm (i := 7) (own := false) cu.nd (aY (c_max rfl) Z.xh boot_max (a8 (ao 7) (a8 (aI (aC gv (aH cH (ao 4) (ao 8)) (aK eQ hr ba.mg ba.fn.kp ba.bd (a8 (ao 0) (a8 (ao 1) (a8 (aH cH (ao 3) (ao 8)) (a8 (aH cH (ao 3) (ao 5)) aj))))))) aj))))))
  (ai (aq (i := 7) (own := false) cu.nd (aK gK hr bq.mg bq.fn.kp bq.bd (a8 (ao 2) (a8 (ao 7) aj))))
  (ai (iq (eS o_gt (ao 7) (aH cH (ao 6) aa))
   (cE (O2 := []) (ay (aZ (eT (a8 (aH cH (aH cH (ao 3) (ao 5)) aa) (a8 (ao 7) aj))))))
   e9)
  (ay (gG (i := 4) (ao 7)))))))))
  (cE (O2 := []) (ay (aZ (ao 4))))))
theorem bK : aM ["_law_rules", "_law_lists", "_law_times", "_law_flights_here", "_law_closed_here", "_law_plan_here", "_law_pushes", "_law_place", "_law_time", "_law_push", "_law_some", "_law_ahead"] ["_law_rules", "_law_lists", "_law_times"] (af gz) := ⟨rfl, rfl, rfl, by decide +kernel, rfl, by decide +kernel, by decide +kernel⟩
theorem A2 {n : Nat} {P : Program} {w : World} {K : PySem.W.Frag} {mg : Str -> Option Value} {base : Heap} {CR CP CN : Addr} (Z : Zs K mg CR CP CN) {bp : Addr} {cy : FuncData} (ba : Def K mg "_law_apart" cU 't' bp cy) (eQ : bx P w K mg base CX0 1 bp cy 't' (spF K false (cW CR CP CN n) 4)) {eJ : Addr} {iR : FuncData} (fU : Def K mg "_law_due" gz ["_law_rules", "_law_lists", "_law_times"] eJ iR) : bx P w K mg base CX0 2 eJ iR ["_law_rules", "_law_lists", "_law_times"] (spF K false (jV CR CP CN n) 3) :=
 pq (O' := []) fU.fn bK false (pT CR CP CN n) fun cdv A outer s H E hr =>
  (ai (E9 (ao 1) (pY rfl (aT (i := 3) bK.nd (aT (i := 4) bK.nd (aT (i := 5) bK.nd gH)))))
  (ai (aq (i := 6) (own := true) bK.nd (ee aj))
  (ai (ij (pt := .nm 7) (jw Z.fw (a8 (aY qY Z.lz PySem.boot_len (a8 (ao 5) aj)) aj)) (wo bK.nd)
   (ai (aq (i := 8) (own := false) bK.nd (aH cH (ao 2) (ao 7)))
  (ai (aq (i := 9) (own := false) bK.nd (eT (a8 sx aj)))
  (ai (iq (eS (o_ne hr.units) (ao 8) (aH cH (aH cH (ao 3) (aH cH (aH cH (ao 5) (ao 7)) aa)) aa))
   (ai (Bp (i := 10) false ["_law_k", "_law_closed_here", "_law_time"] [none, some 4, some 8] bK.nd (jw Z.fw (a8 (aY qY Z.lz PySem.boot_len (a8 (ao 4) aj)) aj)) (fun _ _ _ _ _ => qu 'E') (dX rfl) (fun _ _ _ _ _ => zR (eS (BY hr.units) (aH cH (aH cH (ao 1) (ao 0)) aa) (ao 2))) (fun _ _ _ _ _ => (ao 0)))
  (ai (aq (i := 9) (own := false) bK.nd (eT (a8 sx (a8 (aH cH (aI (aC gv (ao 10) (aI (ee (a8 (Am Aa aa) aj))))) aa) aj))))
  (ay (ij (pt := .nm 11) (di_rng3 Z.fw (a8 (aC o_sub (ao 7) aa) (a8 (Am Aa aa) (a8 (Am Aa aa) aj)))) (wo bK.nd)
   (ay (iq (eS (BY hr.units) (aI (aC gv (aH cH (ao 2) (ao 11)) (aK eQ hr ba.mg ba.fn.kp ba.bd (a8 (ao 0) (a8 (ao 3) (a8 (aH cH (ao 5) (ao 11)) (a8 (aH cH (ao 5) (ao 7)) aj))))))) (ao 8))
   (ay (aq (i := 9) (own := false) bK.nd (eT (a8 sx (a8 (ao 11) aj)))))
   e9))))))
   e9)
  (ay (gG (i := 6) (ao 9)))))))
  (cE (O2 := []) (ay (aZ (ao 6)))))))
theorem zO : aM ["flights", "plan"] ["flights", "plan"] (af fM) := ⟨rfl, rfl, rfl, by decide +kernel, rfl, by decide +kernel, by decide +kernel⟩
theorem A1 {n : Nat} {P : Program} {w : World} {K : PySem.W.Frag} {mg : Str -> Option Value} {base : Heap} {CR CP CN : Addr} (Z : Zs K mg CR CP CN) {cn : Addr} {dZ : FuncData} (bW : Def K mg "spots_of" fM ["flights", "plan"] cn dZ) : bx P w K mg base CX0 1 cn dZ ["flights", "plan"] (spF K false (gC CR CP CN n) 2) :=
 pq (O' := []) bW.fn zO false (pS CR CP CN n) fun cdv A outer s H E hr =>
  (ay (aZ (aI (kL ["flight", "strip", "flights"] [none, none, some 0] (jd (ao 1)) (fun _ _ _ _ _ => pY rfl (k7 (i := 0) 'E' (k7 (i := 1) 'E' gH))) (s9 (by decide)) (fun _ _ _ _ _ => ml) (fun _ _ _ _ _ => (eT (a8 (aH cH (aH cH (ao 2) (ao 0)) aa) (a8 (ao 1) aj))))))))
theorem dc : aM ["closed", "joined", "start", "stop"] ["closed"] (af bc) := ⟨rfl, rfl, rfl, by decide +kernel, rfl, by decide +kernel, by decide +kernel⟩
theorem nz {n : Nat} {P : Program} {w : World} {K : PySem.W.Frag} {mg : Str -> Option Value} {base : Heap} {CR CP CN : Addr} (Z : Zs K mg CR CP CN) {aP : Addr} {cb : FuncData} (aV : Def K mg "joined_stretches" bc ["closed"] aP cb) : bx P w K mg base CX0 1 aP cb ["closed"] (spF K false (cw CR CP CN n) 1) :=
 pq (O' := []) aV.fn dc false (g7 CR CP CN n) fun cdv A outer s H E hr =>
  (ai (aq (i := 1) (own := true) dc.nd (ee aj))
  (ai (ij (pt := .tp [2, 3]) (jd (aI (aY Bu Z.mU boot_sorted (a8 (ao 0) aj)))) (pY rfl (aT (i := 2) dc.nd (aT (i := 3) dc.nd gH)))
   (ay (iq (PW.pt (dw_and (mm (ao 1)) (dw_and1 (eS o_le (ao 2) (aH cH (aH cH (ao 1) (Am Aa aa)) aa)))))
   (ay (ds_setI (i := 1) (eT (a8 (aH cH (aH cH (ao 1) (Am Aa aa)) aa) (a8 (aY (c_max rfl) Z.xh boot_max (a8 (ao 3) (a8 (aH cH (aH cH (ao 1) (Am Aa aa)) aa) aj))) aj))) (Am Aa aa)))
   (ay (gG (i := 1) (eT (a8 (ao 2) (a8 (ao 3) aj))))))))
  (cE (O2 := []) (ay (aZ (ao 1))))))
theorem lD : aM ["closed", "time", "start", "stop"] ["closed", "time"] (af fD) := ⟨rfl, rfl, rfl, by decide +kernel, rfl, by decide +kernel, by decide +kernel⟩
theorem xW {n : Nat} {P : Program} {w : World} {K : PySem.W.Frag} {mg : Str -> Option Value} {base : Heap} {CR CP CN : Addr} (Z : Zs K mg CR CP CN) {aP : Addr} {cb : FuncData} (aV : Def K mg "joined_stretches" bc ["closed"] aP cb) (fJ : bx P w K mg base CX0 1 aP cb ["closed"] (spF K false (cw CR CP CN n) 1)) {dn : Addr} {hU : FuncData} (eA : Def K mg "next_open" fD ["closed", "time"] dn hU) : bx P w K mg base CX0 2 dn hU ["closed", "time"] (spF K false (gD CR CP CN n) 2) :=
 pq (O' := []) eA.fn lD false (kE CR CP CN n) fun cdv A outer s H E hr =>
  (ai (ij (pt := .tp [2, 3]) (jd (aK fJ hr aV.mg aV.fn.kp aV.bd (a8 (ao 0) aj))) (pY rfl (aT (i := 2) lD.nd (aT (i := 3) lD.nd gH)))
   (ay (iq (wj o_le o_lt (ao 2) (ao 1) (ao 3))
   (ay (aZ (ao 3)))
   e9)))
  (ay (aZ (ao 1))))
theorem tj : aM 'U' 'U' (af di) := ⟨rfl, rfl, rfl, by decide +kernel, rfl, by decide +kernel, by decide +kernel⟩
theorem tG {n : Nat} {P : Program} {w : World} {K : PySem.W.Frag} {mg : Str -> Option Value} {base : Heap} {CR CP CN : Addr} (Z : Zs K mg CR CP CN) {bB : Addr} {f9 : FuncData} (iw : Mth K CR "apart" "Rules.apart" di 'U' bB f9) : bx P w K mg base CX0 1 bB f9 'U' (spF K false (dj CR CP CN n) 3) :=
 pq (O' := []) iw.fn tj false (kJ CR CP CN n) fun cdv A outer s H E hr =>
  (ay (aZ (aH cH (aH cH (Ee (Cs := [CR, CP]) Z.Bn (ao 0)) (aH cH (ao 1) aa)) (aH cH (ao 2) aa))))
theorem oM : aM ["self", "one", "other", "rows"] 'U' (af dQ) := ⟨rfl, rfl, rfl, by decide +kernel, rfl, by decide +kernel, by decide +kernel⟩
theorem vv {n : Nat} {P : Program} {w : World} {K : PySem.W.Frag} {mg : Str -> Option Value} {base : Heap} {CR CP CN : Addr} (Z : Zs K mg CR CP CN) {bT : Addr} {gh : FuncData} (jj : Mth K CP "apart" "Pair.apart" dQ 'U' bT gh) : bx P w K mg base CX0 1 bT gh 'U' (spF K false (cY CR CP CN n) 3) :=
 pq (O' := []) jj.fn oM false (jb CR CP CN n) fun cdv A outer s H E hr =>
  (ai (aq (i := 3) (own := false) oM.nd (de_ite (eS (BY hr.units) (aH cH (ao 1) aa) (aH cH (ao 2) aa)) (Ee (Cs := [CR, CP]) Z.Bn (ao 0)) (Ee (Cs := [CP]) Z.Ca (ao 0))))
  (ay (aZ (aH cH (aH cH (ao 3) (aH cH (ao 1) aa)) (aH cH (ao 2) aa)))))
theorem xG : aM 'Q' 'Q' (af dM) := ⟨rfl, rfl, rfl, by decide +kernel, rfl, by decide +kernel, by decide +kernel⟩
theorem xX {n : Nat} {P : Program} {w : World} {K : PySem.W.Frag} {mg : Str -> Option Value} {base : Heap} {CR CP CN : Addr} (Z : Zs K mg CR CP CN) {bB : Addr} {f9 : FuncData} (pf : Mth K CR "apart" "Rules.apart" di 'U' bB f9) (jH : bx P w K mg base CX0 1 bB f9 'U' (spF K false (dj CR CP CN n) 3)) {bT : Addr} {gh : FuncData} (ph : Mth K CP "apart" "Pair.apart" dQ 'U' bT gh) (l9 : bx P w K mg base CX0 1 bT gh 'U' (spF K false (cY CR CP CN n) 3)) {bN : Addr} {d6 : FuncData} (bw : Def K mg "gap_times" dM 'Q' bN d6) : bx P w K mg base CX0 2 bN d6 'Q' (spF K false (fH CR CP CN n) 4) :=
 pq (O' := []) bw.fn xG false (nW CR CP CN n) fun cdv A outer s H E hr =>
  (ay (aZ (aI (kL ["ahead", "rules", "spots", "times", "place"] [none, some 0, some 1, some 2, some 3] (jw Z.fw (a8 (ao 3) aj)) (fun _ _ _ _ _ => qu 'E') (dX rfl) (fun _ _ _ _ _ => ml) (fun _ _ _ _ _ => (aI (aC gv (aH cH (ao 3) (ao 0)) (de_meth2 Z.kR.cl pf.mt jH hr pf.bd Z.kP.cl ph.mt l9 hr ph.bd (ao 1) (a8 (aH cH (ao 2) (ao 0)) (a8 (aH cH (ao 2) (ao 4)) aj))))))))))
theorem fy : aM ["rules", "flights", "closed", "plan", "spots", "times", "place", "entry", "flight", "time"] 'o' (af gy) := ⟨rfl, rfl, rfl, by decide +kernel, rfl, by decide +kernel, by decide +kernel⟩
theorem A0 {n : Nat} {P : Program} {w : World} {K : PySem.W.Frag} {mg : Str -> Option Value} {base : Heap} {CR CP CN : Addr} (Z : Zs K mg CR CP CN) {cn : Addr} {dZ : FuncData} (bW : Def K mg "spots_of" fM ["flights", "plan"] cn dZ) (gJ : bx P w K mg base CX0 1 cn dZ ["flights", "plan"] (spF K false (gC CR CP CN n) 2)) {dn : Addr} {hU : FuncData} (eA : Def K mg "next_open" fD ["closed", "time"] dn hU) (mQ : bx P w K mg base CX0 2 dn hU ["closed", "time"] (spF K false (gD CR CP CN n) 2)) {bN : Addr} {d6 : FuncData} (bw : Def K mg "gap_times" dM 'Q' bN d6) (fQ : bx P w K mg base CX0 2 bN d6 'Q' (spF K false (fH CR CP CN n) 4)) {tR : Addr} {fd_nCN : FuncData} (N_CN : Mth K CN "__init__" "NoTime.__init__" zP ["self", "flight", "time"] tR fd_nCN) (XCN : XMk K mg "NoTime" CN tR) (ER : bx P w K mg base CX0 1 tR fd_nCN ["self", "flight", "time"] (spX2 CN "flight" "time")) {eI : Addr} {iQ : FuncData} (fS : Def K mg "times_of" gy 'o' eI iQ) : bx P w K mg base (CXd P w) 3 eI iQ 'o' (spX K false (gB CR CP CN n) 4) :=
 fn_X (O' := []) fS.fn fy false (n4 CR CP CN n) fun cdv A outer s H E hr =>
  (ai (rm (aq (i := 4) (own := false) fy.nd (aK gJ 'u' bW.mg bW.fn.kp bW.bd (a8 (ao 1) (a8 (ao 3) aj)))))
  (ai (rm (aq (i := 5) (own := true) fy.nd (ee aj)))
  (ai (ij (pt := .tp [6, 7]) (Eb Z.gx (ao 3)) (pY rfl (aT (i := 6) fy.nd (aT (i := 7) fy.nd gH)))
   (ai (rm (aq (i := 8) (own := false) fy.nd (aH cH (ao 1) (aH cH (ao 7) aa))))
  (ai (rm (wm (i := 9) (own := false) fy.nd (aK mQ hr eA.mg eA.fn.kp eA.bd (a8 (ao 2) (a8 (aY (c_max rfl) Z.xh boot_max (a8 (aI (aC gv (aI (ee (a8 (aH cH (ao 8) aa) aj))) (aK fQ hr bw.mg bw.fn.kp bw.bd (a8 (ao 0) (a8 (ao 4) (a8 (ao 5) (a8 (ao 6) aj))))))) aj)) aj)))))
  (ai (iq (eS o_gt (ao 9) (aH cH (ao 8) aa))
   (cE (O2 := []) (ay (Ea PySem.F.excBase_ValueError xeqD2 XCN.ex XCN.fn XCN.kp ER 'u' N_CN.bd XCN.mg (a8 (aH cH (ao 7) aa) (a8 (ao 9) aj)))))
   e9)
  (wk (ay (gG (i := 5) (ao 9))))))) (hp := PassesOwn.leaving))
  (cE (O2 := []) (wk (ay (aZ (ao 5))))))))
theorem ua : aM ["flight", "closed", "gaps", "time", "stops"] ["flight", "closed", "gaps", "time"] (af iz) := ⟨rfl, rfl, rfl, by decide +kernel, rfl, by decide +kernel, by decide +kernel⟩
theorem BV {n : Nat} {P : Program} {w : World} {K : PySem.W.Frag} {mg : Str -> Option Value} {base : Heap} {CR CP CN : Addr} (Z : Zs K mg CR CP CN) {gk : Addr} {jZ : FuncData} (i0 : Def K mg "push_of" iz ["flight", "closed", "gaps", "time"] gk jZ) : bx P w K mg base CX0 1 gk jZ ["flight", "closed", "gaps", "time"] (spF K false (iK CR CP CN n) 4) :=
 pq (O' := []) i0.fn ua false (ma CR CP CN n) fun cdv A outer s H E hr =>
  (ai (iq (eS (BY hr.units) (ao 3) (aH cH (ao 0) aa))
   (ay (aZ (eT (a8 sx aj))))
   e9)
  (ai (iq (eS (o_in hr.units) (ao 3) (ao 2))
   (ay (aZ (eT (a8 sx (a8 (Bq hr.units (ao 2) (ao 3)) aj)))))
   e9)
  (ai (Bp (i := 4) false ["start", "stop"] [none, none] ua.nd (jd (ao 1)) (fun _ _ _ _ _ => pY rfl (k7 (i := 0) 'E' (k7 (i := 1) 'E' gH))) (s9 (by decide)) (fun _ _ _ _ _ => ml) (fun _ _ _ _ _ => (ao 1)))
  (ay (aZ (eT (a8 sx (a8 (Bq hr.units (ao 4) (ao 3)) aj))))))))
theorem dH : aM ["rules", "flights", "closed", "plan", "times", "spots", "pushes", "place", "time", "gaps"] 'o' (af dI) := ⟨rfl, rfl, rfl, by decide +kernel, rfl, by decide +kernel, by decide +kernel⟩
theorem xV {n : Nat} {P : Program} {w : World} {K : PySem.W.Frag} {mg : Str -> Option Value} {base : Heap} {CR CP CN : Addr} (Z : Zs K mg CR CP CN) {eI : Addr} {iQ : FuncData} (fS : Def K mg "times_of" gy 'o' eI iQ) (oF : bx P w K mg base (CXd P w) 3 eI iQ 'o' (spX K false (gB CR CP CN n) 4)) {cn : Addr} {dZ : FuncData} (bW : Def K mg "spots_of" fM ["flights", "plan"] cn dZ) (gJ : bx P w K mg base CX0 1 cn dZ ["flights", "plan"] (spF K false (gC CR CP CN n) 2)) {bN : Addr} {d6 : FuncData} (bw : Def K mg "gap_times" dM 'Q' bN d6) (fQ : bx P w K mg base CX0 2 bN d6 'Q' (spF K false (fH CR CP CN n) 4)) {gk : Addr} {jZ : FuncData} (i0 : Def K mg "push_of" iz ["flight", "closed", "gaps", "time"] gk jZ) (ql : bx P w K mg base CX0 1 gk jZ ["flight", "closed", "gaps", "time"] (spF K false (iK CR CP CN n) 4)) {bM : Addr} {cZ : FuncData} (aU : Def K mg "pushes_of" dI 'o' bM cZ) : bx P w K mg base (CXd P w) 4 bM cZ 'o' (spX K true (bZ CR CP CN n) 4) :=
 fn_X (O' := []) aU.fn dH true (kD CR CP CN n) fun cdv A outer s H E hr =>
  (ai (aq (i := 4) (own := false) dH.nd (de_callX oF passD hr fS.mg fS.fn.kp fS.bd (a8 (ao 0) (a8 (ao 1) (a8 (ao 2) (a8 (ao 3) aj))))))
  (wk (ai (aq (i := 5) (own := false) dH.nd (aK gJ 'u' bW.mg bW.fn.kp bW.bd (a8 (ao 1) (a8 (ao 3) aj))))
  (ai (aq (i := 6) (own := true) dH.nd (ee aj))
  (ai (ij (pt := .tp [7, 8]) (Eb Z.gx (ao 4)) (pY rfl (aT (i := 7) dH.nd (aT (i := 8) dH.nd gH)))
   (ai (aq (i := 9) (own := false) dH.nd (aK fQ 'u' bw.mg bw.fn.kp bw.bd (a8 (ao 0) (a8 (ao 5) (a8 (ao 4) (a8 (ao 7) aj))))))
  (ay (gG (i := 6) (aK ql 'u' i0.mg i0.fn.kp i0.bd (a8 (aH cH (ao 1) (aH cH (aH cH (ao 3) (ao 7)) aa)) (a8 (ao 2) (a8 (ao 9) (a8 (ao 8) aj)))))))))
  (ay (ds_retV (i := 6))))))))
theorem cI : aM ["_law_script", "_law_scale_here", "_law_many", "_law_closed_here", "_law_k", "_law_number", "_law_start"] 'B' (af dh) := ⟨rfl, rfl, rfl, by decide +kernel, rfl, by decide +kernel, by decide +kernel⟩
theorem tF {n : Nat} {P : Program} {w : World} {K : PySem.W.Frag} {mg : Str -> Option Value} {base : Heap} {CR CP CN : Addr} (Z : Zs K mg CR CP CN) {aw : Addr} {az : FuncData} (ae : Def K mg "_law_draw" bu 'x' aw az) (au : bx P w K mg base CX0 1 aw az 'x' (spF K false (aB CR CP CN n) 2)) {bQ : Addr} {f7 : FuncData} (cG : Def K mg "_law_closed" dh 'B' bQ f7) : bx P w K mg base CX0 2 bQ f7 'B' (spF K false (g4 CR CP CN n) 2) :=
 pq (O' := []) cG.fn cI false (kI CR CP CN n) fun cdv A outer s H E hr =>
  (ai (aq (i := 2) (own := false) cI.nd (aC i4 (aK au hr ae.mg ae.fn.kp ae.bd (a8 (ao 0) (a8 aa aj))) aa))
  (ai (iq (eS (BY hr.units) (aC i4 (aK au hr ae.mg ae.fn.kp ae.bd (a8 (ao 0) (a8 aa aj))) aa) aa)
   (ay (aq (i := 2) (own := false) cI.nd aa))
   e9)
  (ai (aq (i := 3) (own := true) cI.nd (ee aj))
  (ai (ij (pt := .nm 4) (jw Z.fw (a8 (ao 2) aj)) (wo cI.nd)
   (ai (aq (i := 5) (own := false) cI.nd (aK au hr ae.mg ae.fn.kp ae.bd (a8 (ao 0) (a8 (aI (aC gv aa (ao 4))) aj))))
  (ai (aq (i := 6) (own := false) cI.nd (aC i4 (aC jT (ao 5) aa) (aC lu aa (ao 1))))
  (ay (gG (i := 3) (eT (a8 (ao 6) (a8 (aI (aC gv (aI (aC gv (ao 6) aa)) (aC lu (aC i4 (ao 5) aa) (ao 1)))) aj))))))))
  (cE (O2 := []) (ay (aZ (ao 3))))))))
theorem iy : aM ["_law_made_here", "_law_flights_here", "_law_closed_here", "_law_plan_here", "_law_due_here", "_law_told", "e"] 'p' (af cJ) := ⟨rfl, rfl, rfl, by decide +kernel, rfl, by decide +kernel, by decide +kernel⟩
theorem rM {n : Nat} {P : Program} {w : World} {K : PySem.W.Frag} {mg : Str -> Option Value} {base : Heap} {CR CP CN : Addr} (Z : Zs K mg CR CP CN) {bM : Addr} {cZ : FuncData} (aU : Def K mg "pushes_of" dI 'o' bM cZ) (eh : bx P w K mg base (CXd P w) 4 bM cZ 'o' (spX K true (bZ CR CP CN n) 4)) {bz : Addr} {e6 : FuncData} (bU : Def K mg "_law_refused" cJ 'p' bz e6) : bx P w K mg base CX0 5 bz e6 'p' (spF K false (eX CR CP CN n) 5) :=
 pq (O' := []) bU.fn iy false (jt CR CP CN n) fun cdv A outer s H E hr =>
  (ai (aq (i := 5) (own := false) iy.nd (aI (ee aj)))
  (ai (ds_told2 (i := 6) (j := 5) (fun pins σ E xe hp => (dsa_expr (own := true) (dea_call eh hp hr aU.mg aU.fn.kp aU.bd (a8 (ao 0) (a8 (ao 1) (a8 (ao 2) (a8 (ao 3) aj))))))) Z.xCN Z.aCN_flight Z.aCN_time iy.nd)
  (ay (aZ (yP (BY hr.units) (ao 5) (aI (ee (a8 (aH cH (ao 4) aa) (a8 (aH cH (ao 4) aa) aj)))))))))
theorem v7 : aM ["_law_found"] ["_law_found"] (af dN) := ⟨rfl, rfl, rfl, by decide +kernel, rfl, by decide +kernel, by decide +kernel⟩
theorem vn {n : Nat} {P : Program} {w : World} {K : PySem.W.Frag} {mg : Str -> Option Value} {base : Heap} {CR CP CN : Addr} (Z : Zs K mg CR CP CN) {cA : Addr} {gb : FuncData} (d8 : Def K mg "_law_whole" dN ["_law_found"] cA gb) : bx P w K mg base CX0 1 cA gb ["_law_found"] (spF K false (gZ CR CP CN n) 1) :=
 pq (O' := []) d8.fn v7 false (mf CR CP CN n) fun cdv A outer s H E hr =>
  (ay (aZ (Ef (ux Z.kit Z.b8 Z.xi (ao 0)) (de_one (de_not (sA Z.kit Z.b8 Z.u4 (ao 0)))))))
theorem oK : aM ["_law_found", "_law_due_here", "_law_push"] ["_law_found", "_law_due_here"] (af dP) := ⟨rfl, rfl, rfl, by decide +kernel, rfl, by decide +kernel, by decide +kernel⟩
theorem vt {n : Nat} {P : Program} {w : World} {K : PySem.W.Frag} {mg : Str -> Option Value} {base : Heap} {CR CP CN : Addr} (Z : Zs K mg CR CP CN) {cA : Addr} {gb : FuncData} (d8 : Def K mg "_law_whole" dN ["_law_found"] cA gb) (l6 : bx P w K mg base CX0 1 cA gb ["_law_found"] (spF K false (gZ CR CP CN n) 1)) {cD : Addr} {gd : FuncData} (da : Def K mg "_law_alike" dP ["_law_found", "_law_due_here"] cD gd) : bx P w K mg base CX0 2 cD gd ["_law_found", "_law_due_here"] (spF K false (hG CR CP CN n) 2) :=
 pq (O' := []) da.fn oK false (mh CR CP CN n) fun cdv A outer s H E hr =>
  (ai (iq (PW.pt (E8 (qt (mm (sy Z.kit Z.b8 Z.nc (ao 0)))) (yN (eS (o_ne hr.units) (ao 0) (ao 1)))))
   (ay (aZ wt))
   e9)
  (ai (ij (pt := .nm 2) (jd (ao 0)) (wo oK.nd)
   (ai (iq (PW.pt (E8 (qt (mm (qv Z.kit Z.b8 Z.px (ao 2)))) (yN (qt (mm (Cf Z.kit Z.b8 Z.Cu (aH cH (ao 2) aa)))))))
   (ay (aZ wt))
   e9)
  (ay (iq (eS (o_ne hr.units) (aI (kL ["_law_number"] [none] (jd (aI (de_sl x_sl (ao 2) (dp_some aa) dp_none))) (fun _ _ _ _ _ => qu 'E') (dX rfl) (fun _ _ _ _ _ => zR (qt (mm (aK l6 hr d8.mg d8.fn.kp d8.bd (a8 (ao 0) aj))))) (fun _ _ _ _ _ => (ao 0)))) (aI (ee aj)))
   (ay (aZ wt))
   e9))))
  (ay (aZ wt))))
theorem lb : aM ["_law_script", "_law_scale_here", "_law_rules", "_law_made_here", "_law_flights_here", "_law_closed_here", "_law_plan_here", "_law_times", "_law_due_here", "_law_handed", "_law_found"] ["_law_script"] (af BL) := ⟨rfl, rfl, rfl, by decide +kernel, rfl, by decide +kernel, by decide +kernel⟩
theorem ok_law {n : Nat} {P : Program} {w : World} {K : PySem.W.Frag} {mg : Str -> Option Value} {base : Heap} {CR CP CN : Addr} (Z : Zs K mg CR CP CN) {bo : Addr} {cx : FuncData} (b9 : Def K mg "_law_scale" cT ["_law_script"] bo cx) (eP : bx P w K mg base CX0 2 bo cx ["_law_script"] (spF K false (bS CR CP CN n) 1)) {bf : Addr} {dA : FuncData} (bG : Def K mg "_law_rules_of" bX 'B' bf dA) (ic : bx P w K mg base CX0 3 bf dA 'B' (spF K false (cP CR CP CN n) 2)) {du : Addr} {hW : FuncData} (eC : Def K mg "_law_made" fF ["_law_rules"] du hW) (mT : bx P w K mg base CX0 7 du hW ["_law_rules"] (spF K false (gE CR CP CN n) 1)) {bA : Addr} {e8 : FuncData} (bV : Def K mg "_law_flights" cK 'K' bA e8) (j4 : bx P w K mg base CX0 2 bA e8 'K' (spF K false (eY CR CP CN n) 4)) {bg : Addr} {dB : FuncData} (bH : Def K mg "_law_moved_up" bY 'P' bg dB) (ie : bx P w K mg base CX0 3 bg dB 'P' (spF K false (bD CR CP CN n) 3)) {dq : Addr} {hV : FuncData} (eB : Def K mg "_law_plan" fE 'Z' dq hV) (mS : bx P w K mg base CX0 2 dq hV 'Z' (spF K false (iL CR CP CN n) 3)) {cC : Addr} {gc : FuncData} (d9 : Def K mg "_law_least" dO 'A' cC gc) (l7 : bx P w K mg base CX0 2 cC gc 'A' (spF K false (dW CR CP CN n) 4)) {eJ : Addr} {iR : FuncData} (fU : Def K mg "_law_due" gz ["_law_rules", "_law_lists", "_law_times"] eJ iR) (oG : bx P w K mg base CX0 2 eJ iR ["_law_rules", "_law_lists", "_law_times"] (spF K false (jV CR CP CN n) 3)) {bM : Addr} {cZ : FuncData} (aU : Def K mg "pushes_of" dI 'o' bM cZ) (eh : bx P w K mg base (CXd P w) 4 bM cZ 'o' (spX K true (bZ CR CP CN n) 4)) {bQ : Addr} {f7 : FuncData} (cG : Def K mg "_law_closed" dh 'B' bQ f7) (jG : bx P w K mg base CX0 2 bQ f7 'B' (spF K false (g4 CR CP CN n) 2)) {bz : Addr} {e6 : FuncData} (bU : Def K mg "_law_refused" cJ 'p' bz e6) (j3 : bx P w K mg base CX0 5 bz e6 'p' (spF K false (eX CR CP CN n) 5)) {cD : Addr} {gd : FuncData} (da : Def K mg "_law_alike" dP ["_law_found", "_law_due_here"] cD gd) (l8 : bx P w K mg base CX0 2 cD gd ["_law_found", "_law_due_here"] (spF K false (hG CR CP CN n) 2)) {Cd : Addr} {fd_law : FuncData} (D_law : Def K mg "law" BL ["_law_script"] Cd fd_law) : bx P w K mg base CX0 8 Cd fd_law ["_law_script"] (spF K false (Dy CR CP CN n) 1) :=
 pq (O' := []) D_law.fn lb false (g_law CR CP CN n) fun cdv A outer s H E hr =>
  (ai (aq (i := 1) (own := false) lb.nd (aK eP 'u' b9.mg b9.fn.kp b9.bd (a8 (ao 0) aj)))
  (ai (aq (i := 2) (own := false) lb.nd (aK ic 'u' bG.mg bG.fn.kp bG.bd (a8 (ao 0) (a8 (ao 1) aj))))
  (ai (aq (i := 3) (own := false) lb.nd (aK mT hr eC.mg eC.fn.kp eC.bd (a8 (ao 2) aj)))
  (ai (aq (i := 4) (own := false) lb.nd (aK j4 'u' bV.mg bV.fn.kp bV.bd (a8 (ao 0) (a8 (ao 2) (a8 aa (a8 (ao 1) aj))))))
  (ai (E9 (aK ie 'u' bH.mg bH.fn.kp bH.bd (a8 (ao 0) (a8 (ao 4) (a8 (aK jG 'u' cG.mg cG.fn.kp cG.bd (a8 (ao 0) (a8 (ao 1) aj))) aj)))) (pY rfl (aT (i := 4) lb.nd (aT (i := 5) lb.nd gH))))
  (ai (aq (i := 6) (own := false) lb.nd (aK mS 'u' eB.mg eB.fn.kp eB.bd (a8 (ao 0) (a8 (ao 2) (a8 (ao 4) aj)))))
  (ai (aq (i := 7) (own := false) lb.nd (aK l7 'u' d9.mg d9.fn.kp d9.bd (a8 (ao 2) (a8 (ao 4) (a8 (ao 5) (a8 (ao 6) aj))))))
  (ai (iq (mm (qv Z.kit Z.b8 Z.px (ao 7)))
   (ay (aZ (aK j3 'u' bU.mg bU.fn.kp bU.bd (a8 (ao 3) (a8 (ao 4) (a8 (ao 5) (a8 (ao 6) (a8 (ao 7) aj))))))))
   e9)
  (ai (aq (i := 8) (own := false) lb.nd (aK oG 'u' fU.mg fU.fn.kp fU.bd (a8 (ao 2) (a8 (eT (a8 (ao 4) (a8 (ao 5) (a8 (ao 6) aj)))) (a8 (ao 7) aj)))))
  (ai (aq (i := 9) (own := false) lb.nd (aI (ee (a8 (aI (k8 Bv Z.nc PyProof.Rows.boot_list (a8 (ao 4) aj))) (a8 (aI (k8 Bv Z.nc PyProof.Rows.boot_list (a8 (ao 5) aj))) (a8 (aI (k8 Bv Z.nc PyProof.Rows.boot_list (a8 (ao 6) aj))) aj))))))
  (ai (aq (i := 10) (own := true) lb.nd (Br eh 'u' aU.mg aU.fn.kp aU.bd (a8 (ao 3) (a8 (aH cH (ao 9) aa) (a8 (aH cH (ao 9) aa) (a8 (aH cH (ao 9) aa) aj))))))
  (ai (iq (PW.pt (E8 (qt (mm (aK l8 'u' da.mg da.fn.kp da.bd (a8 (ao 10) (a8 (ao 8) aj))))) (yN (eS (o_ne hr.units) (ao 9) (aI (ee (a8 (ao 4) (a8 (ao 5) (a8 (ao 6) aj)))))))))
   (cE (O2 := []) (ay (aZ wt)))
   e9)
  (ai (gG (i := 10) (eT (a8 sx aj)))
  (cE (O2 := []) (ay (aZ (yP (BY hr.units) (aI (Br eh 'u' aU.mg aU.fn.kp aU.bd (a8 (ao 3) (a8 (aH cH (ao 9) aa) (a8 (aH cH (ao 9) aa) (a8 (aH cH (ao 9) aa) aj)))))) (ao 8))))))))))))))))))
noncomputable abbrev eU := Int × Int
noncomputable def stD (p : eU) : Dat := .tup [.int p.1, .int p.2]
theorem xn : ∀ cs : List eU, n6 'R' = .ok (cs.map fun p => [p.1, p.2])
 | [] => rfl
 | p :: cs => by simp [n6, tupD, stD, dG, xn cs]
theorem xu (cs : List eU) (hl : cs.length < 64) : ∃ ss : List eU, nt [.lst 'R'] = .ok (.lst (ss.map stD)) /\ ss.Perm cs /\ ss.Pairwise (fun p q => p.1 <= q.1) := by
 cases hc : cs with
 | nil => exact ⟨[], by simp [nt, xv, dG, oP], List.Perm.refl _, List.Pairwise.nil⟩
 | cons p ps =>
  rw [<- hc]
  have hi : ∃ e, dG 'R' = .error e := ⟨.stuck, by rw [hc]; simp [dG, stD, asI]⟩
  obtain ⟨e, he⟩ := hi
  have hne : ((cs.map fun p => [p.1, p.2]).all fun t => !t.isEmpty) = true := by simp
  have es : nt [.lst 'R'] = .ok (.lst ((oP rY (cs.map fun p => [p.1, p.2])).map tupZ)) := by
   simp only [nt, xv, List.length_map, hl, if_true, he, xn, ax, hne]
  have hp := pQ (lt := rY) (cs.map fun p => [p.1, p.2])
  have hs := m6 Dj (cs.map fun p => [p.1, p.2])
  generalize oP rY (cs.map fun p => [p.1, p.2]) = L at *
  let back : List Int -> eU := fun l => (l.getD 0 0, l.getD 1 0)
  have hL : ∀ l ∈ L, ∃ p : eU, l = [p.1, p.2] := fun l h => by
   have := hp.mem_iff.mp h
   simp only [List.mem_map] at this
   obtain ⟨p, _, e⟩ := this
   exact ⟨p, e.symm⟩
  refine ⟨L.map back, ?_, ?_, ?_⟩
  ·rw [es, List.map_map]
   congr 2
   refine List.map_congr_left fun l h => ?_
   obtain ⟨p, rfl⟩ := hL l h
   rfl
  ·have := hp.map back
   rw [List.map_map] at this
   have e2 : List.map (back ∘ fun p => [p.1, p.2]) cs = cs := by
    rw [List.map_congr_left (g := id)]
    ·simp
    ·intro p _; rfl
   rwa [e2] at this
  ·rw [List.pairwise_map]
   refine hs.imp_of_mem fun {a b} ha hb h => ?_
   obtain ⟨p, rfl⟩ := hL a ha
   obtain ⟨q, rfl⟩ := hL b hb
   show p.1 <= q.1
   simp only [rY] at h
   by_cases e1 : q.1 = p.1
   ·omega
   ·rw [if_neg e1] at h
    have := of_decide_eq_false h
    omega
@[simp] theorem getI_c0 (a : Dat) (l : List Dat) : ng (a :: l) 0 = .ok a := by
 unfold ng atI ixN
 rw [if_pos (by omega), if_pos (by simp <;> omega)]
 rfl
@[simp] theorem getI_c1 (a b : Dat) (l : List Dat) : ng (a :: b :: l) 1 = .ok b := by
 unfold ng atI ixN
 rw [if_pos (by omega), if_pos (by simp <;> omega)]
 rfl
@[simp] theorem getI_c2 (a b c : Dat) (l : List Dat) : ng (a :: b :: c :: l) 2 = .ok c := by
 unfold ng atI ixN
 rw [if_pos (by omega), if_pos (by simp <;> omega)]
 rfl
@[simp] theorem getI_c3 (a b c d : Dat) (l : List Dat) : ng (a :: b :: c :: d :: l) 3 = .ok d := by
 unfold ng atI ixN
 rw [if_pos (by omega), if_pos (by simp <;> omega)]
 rfl
section
variable (CR CP CN : Addr)
theorem i8 (n : Nat) (ns : List Int) (k : Int) (h0 : 0 <= k) (h1 : k < 1000000) : ∃ x, aB CR CP CN n [.lst (ns.map .int), .int k] = .ok (.int x) /\ 0 <= x := by
 have hk1 : -18446744073709551616 < 7919 * k := by omega
 have hk2 : 7919 * k < 18446744073709551616 := by omega
 have hk3 : -18446744073709551616 < k := by omega
 have hk4 : k < 18446744073709551616 := by omega
 by_cases hl : 0 < ns.length
 ·have hm0 : 0 <= k % (ns.length : Int) := Int.emod_nonneg _ (by omega)
  have hm1 : k % (ns.length : Int) < (ns.length : Int) := Int.emod_lt_of_pos _ (by omega)
  have hl' : (0 : Int) < ns.length := by omega
  have hne : ns ≠ [] := fun e => by rw [e] at hl; simp at hl
  refine ⟨(ns[(k % (ns.length : Int)).toNat]'(by omega) + 7919 * k * k + k) * 982451653 % 2305843009213693951 * 1000003 % 1152921504606846883 / 8, ?_, ?_⟩
  ·simp [aB, kH, kT, hl, hne, getI_int hm0 hm1, wg hl', hk1, hk2, hk3, hk4]
  ·exact Int.ediv_nonneg (Int.emod_nonneg _ (by decide)) (by decide)
 ·have hne : ns = [] := by cases ns with | nil => rfl | cons a b => simp at hl
  subst hne
  refine ⟨(k + 7919 * k * k + k) * 982451653 % 2305843009213693951 * 1000003 % 1152921504606846883 / 8, ?_, ?_⟩
  ·simp [aB, kH, kT, hk1, hk2, hk3, hk4]
  ·exact Int.ediv_nonneg (Int.emod_nonneg _ (by decide)) (by decide)
theorem B6 (n : Nat) (ns : List Int) : ∃ s : Int, bS CR CP CN n [.lst (ns.map .int)] = .ok (.int s) /\ 1 <= s /\ s <= 100000 := by
 obtain ⟨x, e, hx⟩ := i8 CR CP CN n ns 99 (by omega) (by omega)
 have h4 : x % 4 = 0 \/ x % 4 = 1 \/ x % 4 = 2 \/ x % 4 = 3 := by omega
 rcases h4 with h | h | h | h
 ·exact ⟨1, by simp [bS, fO, e, h], by omega, by omega⟩
 ·exact ⟨1, by simp [bS, fO, e, h], by omega, by omega⟩
 ·exact ⟨100, by simp [bS, fO, e, h], by omega, by omega⟩
 ·exact ⟨100000, by simp [bS, fO, e, h], by omega, by omega⟩
noncomputable def qm (r : List Int) : Dat := .lst (r.map .int)
noncomputable def aW (rows : List (List Int)) : Dat := .lst (rows.map qm)
noncomputable def sY (k : Nat) (r : List Int) : Prop := r.length = k /\ ∀ x ∈ r, 0 <= x /\ x <= 1000000
noncomputable def fq (k : Nat) (rows : List (List Int)) : Prop := rows.length = k /\ ∀ r ∈ rows, sY k r
theorem BO {lo : Int} {m i : Nat} {d : Dat} (h : (cj lo m)[i]? = some d) : i < m /\ d = .int (lo + i) := by
 unfold cj at h
 rw [List.getElem?_map] at h
 obtain ⟨a, h1, h2⟩ := Option.map_eq_some_iff.mp h
 have hi := (List.getElem?_eq_some_iff.mp h1).1
 rw [List.length_range] at hi
 rw [List.getElem?_range hi] at h1
 cases h1
 exact ⟨hi, h2.symm⟩
theorem fN {m i : Nat} {d : Dat} (h : (cj 0 m)[i]? = some d) : i < m /\ d = .int i := by
 obtain ⟨h1, h2⟩ := BO h
 exact ⟨h1, by rw [h2, Int.zero_add]⟩
theorem eD (lo : Int) (m : Nat) : (cj lo m).length = m := by unfold cj; simp
theorem gap_row (n : Nat) (ns : List Int) (b : Int) (k : Nat) (s : Int) (one : Nat) (rows : List Dat) (z7 z8 : Option Dat) (hb0 : 0 <= b) (hb1 : b <= 100) (hk : k <= 6) (hs0 : 1 <= s) (hs1 : s <= 100000) (ho : one < k) :
  ∃ (r : List Int) (z7' z8' : Option Dat), sY k r /\ kf (.nm 7) (iu CR CP CN n) (cj 0 k) [some 'y', some (.int b), some (.int k), some (.int s), some (.lst rows), some (.int one), some (.lst []), z7, z8] = .ok (.nx [some 'y', some (.int b), some (.int k), some (.int s), some (.lst rows), some (.int one), some (qm r), z7', z8']) := by
 obtain ⟨ρ', e, r, z7', z8', rfl, h1, h2⟩ := eG (p := .nm 7) (g := iu CR CP CN n)
  (fun i ρ => ∃ (r : List Int) (z7 z8 : Option Dat), ρ = [some 'y', some (.int b), some (.int k), some (.int s), some (.lst rows), some (.int one), some (qm r), z7, z8] /\ r.length = i /\ ∀ x ∈ r, 0 <= x /\ x <= 1000000) (cj 0 k) 0 _ ⟨[], z7, z8, rfl, rfl, by simp⟩ (by
  rintro i d ρ hd ⟨r, z7, z8, rfl, hr1, hr2⟩
  obtain ⟨hi, rfl⟩ := fN hd
  have hm : (one : Int) * k <= 36 := by
   have : one * k <= 6 * 6 := Nat.mul_le_mul (by omega) hk
   exact_mod_cast this
  have hm0 : 0 <= (one : Int) * k := Int.mul_nonneg (by omega) (by omega)
  obtain ⟨x, e, hx⟩ := i8 CR CP CN n ns (b + (one : Int) * k + (i : Int)) (by omega) (by omega)
  have hs' : 0 < s := by omega
  have ho1 : -18446744073709551616 < (one : Int) := by omega
  have ho2 : (one : Int) < 18446744073709551616 := by omega
  have q1 : -18446744073709551616 < x % 6 := by omega
  have q2 : x % 6 < 18446744073709551616 := by omega
  have hl : r.length < 16777216 := by omega
  refine ⟨_, by simp; rfl, ?_⟩
  refine ⟨_, .inl (by simp [iu, e, wg hs', ho1, ho2, q1, q2, hl, qm]; rfl), r ++ [x % 6 * s + x / 6 % s], some (.int (i : Int)), some (.int x), by simp [qm], by simp; omega, fun y hy => ?_⟩
  rcases List.mem_append.mp hy with z | z
  ·exact hr2 y z
  ·simp at z
   subst z
   have a1 : 0 <= x / 6 % s := Int.emod_nonneg _ (by omega)
   have a2 : x / 6 % s < s := Int.emod_lt_of_pos _ hs'
   have a3 : 0 <= x % 6 * s := Int.mul_nonneg (by omega) (by omega)
   have a4 : x % 6 * s <= 5 * 100000 := Int.le_trans (Int.mul_le_mul_of_nonneg_right (by omega) (by omega)) (Int.mul_le_mul_of_nonneg_left hs1 (by omega))
   omega)
 rw [Nat.zero_add, eD] at h1
 exact ⟨r, z7', z8', ⟨h1, h2⟩, e⟩
theorem DV (n : Nat) (ns : List Int) (b : Int) (k : Nat) (s : Int) (hb0 : 0 <= b) (hb1 : b <= 100) (hk : k <= 6) (hs0 : 1 <= s) (hs1 : s <= 100000) : ∃ rows, fq k rows /\ gF CR CP CN n [.lst (ns.map .int), .int b, .int k, .int s] = .ok (aW rows) := by
 have k1 : -4611686018427387904 <= (k : Int) := by omega
 have k2 : (k : Int) < 4611686018427387904 := by omega
 obtain ⟨ρ', e, rows, y5, y6, y7, y8, rfl, h1, h2⟩ := eG (p := .nm 5) (g := kZ CR CP CN n)
  (fun i ρ => ∃ (rows : List (List Int)) (z5 z6 z7 z8 : Option Dat), ρ = [some 'y', some (.int b), some (.int k), some (.int s), some (aW rows), z5, z6, z7, z8] /\ rows.length = i /\ ∀ r ∈ rows, sY k r) (cj 0 k) 0 [some 'y', some (.int b), some (.int k), some (.int s), some (.lst []), none, none, none, none] ⟨[], none, none, none, none, rfl, rfl, by simp⟩ (by
  rintro i d ρ hd ⟨rows, z5, z6, z7, z8, rfl, hr1, hr2⟩
  obtain ⟨hi, rfl⟩ := fN hd
  obtain ⟨r, z7', z8', hg, e⟩ := gap_row CR CP CN n ns b k s i (rows.map qm) z7 z8 hb0 hb1 hk hs0 hs1 hi
  have hl : rows.length < 16777216 := by omega
  refine ⟨_, by simp; rfl, ?_⟩
  refine ⟨_, .inl (by simp [kZ, aW, k1, k2, e, hl]; rfl), rows ++ [r], some (.int i), some (qm r), z7', z8', by simp [aW], by simp; omega, fun y hy => ?_⟩
  rcases List.mem_append.mp hy with z | z
  ·exact hr2 y z
  ·simp at z; subst z; exact hg)
 rw [Nat.zero_add, eD] at h1
 exact ⟨rows, ⟨h1, h2⟩, by simp [gF, nY, k1, k2, e]⟩
theorem rules_ok (n : Nat) (ns : List Int) (s : Int) (hs0 : 1 <= s) (hs1 : s <= 100000) : ∃ (k : Nat) (rows : List (List Int)) (o : Dat), 1 <= k /\ k <= 6 /\ fq k rows /\ (o = .non \/ ∃ j5, fq k j5 /\ o = aW j5) /\ cP CR CP CN n [.lst (ns.map .int), .int s] = .ok (.tup [aW rows, o]) := by
 obtain ⟨x, e1, hx⟩ := i8 CR CP CN n ns 0 (by omega) (by omega)
 obtain ⟨y, e2, hy⟩ := i8 CR CP CN n ns 1 (by omega) (by omega)
 have hk0 : 0 <= x % 6 := by omega
 have hk : 1 + x % 6 = ((1 + (x % 6).toNat : Nat) : Int) := by omega
 obtain ⟨rows, g1, e3⟩ := DV CR CP CN n ns 4 (1 + (x % 6).toNat) s (by omega) (by omega) (by omega) hs0 hs1
 obtain ⟨j5, g2, e4⟩ := DV CR CP CN n ns 50 (1 + (x % 6).toNat) s (by omega) (by omega) (by omega) hs0 hs1
 rw [<- hk] at e3 e4
 by_cases h : y % 2 = 1
 ·exact ⟨1 + (x % 6).toNat, rows, aW j5, by omega, by omega, g1, .inr ⟨j5, g2, rfl⟩, by simp [cP, g8, gI, e1, e2, e3, e4, h]⟩
 ·exact ⟨1 + (x % 6).toNat, rows, .non, by omega, by omega, g1, .inl rfl, by simp [cP, g8, gI, e1, e2, e3, h]⟩
end
section
variable (CR CP CN : Addr)
theorem DN (n : Nat) (x : Int) (h0 : 0 <= x) (h1 : x <= 1000000) : kq CR CP CN n [.int x] = .ok (.bl true) := by simp [kq, w5, uE, h0, h1]
theorem vW (n : Nat) (k : Nat) (r : List Int) (hk : k <= 6) (h : sY k r) : dU CR CP CN n [qm r, .int k] = .ok (.bl true) := by
 have hl : r.length <= 16777216 := by have := h.1; omega
 have hk' : k <= 16777216 := by omega
 have e : ck (.nm 0) ur (fL (kq CR CP CN n) (a9 (ah 0) aN)) [none] (r.map .int) = .ok ((r.map fun _ => true).map Dat.bl) := by
  have := iU (p := .nm 0) (fe := fL (kq CR CP CN n) (a9 (ah 0) aN)) (ρ0 := [none]) (fun _ => .bl true) (r.map .int) (fun d hd => by
   obtain ⟨x, hx, rfl⟩ := List.mem_map.mp hd
   exact ⟨[some (.int x)], by simp, by simp [DN CR CP CN n x (h.2 x hx).1 (h.2 x hx).2]⟩)
  rw [this, List.map_map, List.map_map]
  rfl
 simp [dU, md, qm, e, hl, hk', h.1, -List.map_map]
theorem Ei (n : Nat) (rows : List (List Int)) (hl : rows.length <= 1000) : g0 CR CP CN n [aW rows] = .ok (aW rows) := by
 have hl2 : rows.length <= 16777216 := by omega
 have e : ck (.nm 0) ur (fL yx (a9 (ah 0) aN)) [none] (rows.map qm) = .ok (rows.map qm) := by
  have := iU (p := .nm 0) (fe := fL yx (a9 (ah 0) aN)) (ρ0 := [none]) id (rows.map qm) (fun d hd => by
   obtain ⟨x, hx, rfl⟩ := List.mem_map.mp hd
   exact ⟨[some (qm x)], by simp, by simp [qm]⟩)
  rw [this, List.map_id]
 simp [g0, kF, aW, e, hl2]
theorem uC (n : Nat) (k : Nat) (rows : List (List Int)) (h1 : 1 <= k) (h6 : k <= 6) (h : fq k rows) : aF CR CP CN n [aW rows] = .ok (aW rows) := by
 have hl2 : rows.length <= 16777216 := by have := h.1; omega
 have e : ck (.nm 0) ur (fL (dU CR CP CN n) (a9 (ah 0) (a9 (ah 1) aN))) [none, some (.int rows.length)] (rows.map qm) = .ok ((rows.map fun _ => true).map Dat.bl) := by
  have := iU (p := .nm 0) (fe := fL (dU CR CP CN n) (a9 (ah 0) (a9 (ah 1) aN))) (ρ0 := [none, some (.int rows.length)]) (fun _ => .bl true) (rows.map qm) (fun d hd => by
   obtain ⟨x, hx, rfl⟩ := List.mem_map.mp hd
   exact ⟨[some (qm x), some (.int rows.length)], by simp, by simp [h.1, vW CR CP CN n k x h6 (h.2 x hx)]⟩)
  rw [this, List.map_map, List.map_map]
  rfl
 have a1 : (1 : Int) <= rows.length := by have := h.1; omega
 have a2 : (rows.length : Int) <= 6 := by have := h.1; omega
 have e3 := Ei CR CP CN n rows (by have := h.1; omega)
 simp only [aW] at e3
 simp [aF, jr, lp, ll, aW, e, e3, hl2, a1, a2, -List.map_map]
noncomputable def cv (rows : List (List Int)) : Dat -> Dat
 | .non => .ins CR [("gaps", aW rows)]
 | o => .ins CP [("gaps", aW rows), ("beside", o)]
theorem made_ok (n : Nat) (k : Nat) (rows : List (List Int)) (o : Dat) (h1 : 1 <= k) (h6 : k <= 6) (h : fq k rows) (ho : o = .non \/ ∃ j5, fq k j5 /\ o = aW j5) : gE CR CP CN n [.tup [aW rows, o]] = .ok (cv CR CP rows o) := by
 have e1 := uC CR CP CN n k rows h1 h6 h
 rcases ho with rfl | ⟨j5, g2, rfl⟩
 ·simp [gE, kG, kS, newR, e1, cv]
 ·have e2 := uC CR CP CN n k j5 h1 h6 g2
  have ht : twoL (aW rows) (aW j5) = true := by simp [twoL, aW, h.1, g2.1]
  have e3 : cv CR CP rows (aW j5) = .ins CP [("gaps", aW rows), ("beside", aW j5)] := rfl
  rw [e3]
  have hr : aW j5 = .lst (j5.map qm) := rfl
  simp [gE, kG, kS, newP, e1, e2, ht]
  rw [hr]
  have en : newP CP (aF CR CP CN n) [aW rows, aW j5] = .ok (.ins CP [("gaps", aW rows), ("beside", aW j5)]) := by simp [newP, e1, e2, ht]
  simp [<- hr, en]
theorem DX (rows : List (List Int)) (o : Dat) (ho : o = .non \/ ∃ j5, o = aW j5) : wN [CR, CP] "gaps" (cv CR CP rows o) = .ok (aW rows) := by
 have h1 : ((("gaps" : Str) == ("gaps" : Str)) = true) := by decide +kernel
 rcases ho with rfl | ⟨j5, rfl⟩
 ·show (if ([CR, CP].contains CR) = true then (match List.lookup ("gaps" : Str) [(("gaps" : Str), aW rows)] with | some d => Except.ok d | none => stk) else stk) = _
  rw [if_pos (by simp), List.lookup_cons, h1]
 ·show (if ([CR, CP].contains CP) = true then (match List.lookup ("gaps" : Str) [(("gaps" : Str), aW rows), (("beside" : Str), aW j5)] with | some d => Except.ok d | none => stk) else stk) = _
  rw [if_pos (by simp), List.lookup_cons, h1]
end
structure Fli where
 kind : Int
 first : Int
 last : Int
 due : Int
 price : Int
noncomputable def flD (f : Fli) : Dat := .tup [.int f.kind, .int f.first, .int f.last, .int f.due, .int f.price]
structure sZ (k : Nat) (f : Fli) : Prop where
 k0 : 0 <= f.kind
 k1 : f.kind < k
 f0 : 0 <= f.first
 f1 : f.first <= f.last
 l1 : f.last <= 1000000000
 d0 : 0 <= f.due
 d1 : f.due <= 1000000000
 p0 : 0 <= f.price
 p1 : f.price <= 1000000000
@[simp] theorem flatTop_f (d : Dat) : pV false d = kK d := by cases d <;> rfl
@[simp] theorem flatD_int (i : Int) : kK (.int i) = true := by rw [kK] <;> simp
theorem rW (a b : Int) : ke a b <= a /\ ke a b <= b /\ (ke a b = a \/ ke a b = b) := by unfold ke; split <;> omega
section
variable (CR CP CN : Addr)
theorem C9 (n : Nat) (ns : List Int) (k : Nat) (rows : List (List Int)) (o : Dat) (most s : Int) (many i : Nat) (fl : List Fli) (z6 z7 z8 z9 z10 z11 z12 : Option Dat) (hk : rows.length = k) (hk1 : 1 <= k) (hm : many <= 40) (hi : i < many) (hs0 : 1 <= s) (hs1 : s <= 100000) (hfl : fl.length <= 40) :
  ∃ (f : Fli) (y7 y8 y9 y10 y11 y12 : Option Dat), sZ k f /\ fm CR CP CN n [some 'y', some (.tup [aW rows, o]), some (.int most), some (.int s), some (.int many), some (.lst (fl.map flD)), some (.int i), z7, z8, z9, z10, z11, z12] = .ok (.nx [some 'y', some (.tup [aW rows, o]), some (.int most), some (.int s), some (.int many), some (.lst ((fl ++ [f]).map flD)), some (.int i), y7, y8, y9, y10, y11, y12]) := by
 obtain ⟨x, e, hx⟩ := i8 CR CP CN n ns (100 + (i : Int)) (by omega) (by omega)
 have p1 : 0 < 25 * s * ((i : Int) + 1) := Int.mul_pos (by omega) (by omega)
 have p2 : 25 * s * ((i : Int) + 1) <= 2500000 * 40 := Int.le_trans (Int.mul_le_mul_of_nonneg_right (by omega) (by omega)) (Int.mul_le_mul_of_nonneg_left (by omega) (by omega))
 have p3 : 0 < 20 * s := by omega
 have f0 : 0 <= x / 16 % (25 * s * ((i : Int) + 1)) := Int.emod_nonneg _ (by omega)
 have f1 : x / 16 % (25 * s * ((i : Int) + 1)) < 25 * s * ((i : Int) + 1) := Int.emod_lt_of_pos _ p1
 have d0 : 0 <= x / 1000 % (20 * s) := Int.emod_nonneg _ (by omega)
 have c1 : -18446744073709551616 < 25 * s := by omega
 have c2 : 25 * s < 18446744073709551616 := by omega
 have c3 : -18446744073709551616 < 100 * s := by omega
 have c4 : 100 * s < 18446744073709551616 := by omega
 have c5 : -18446744073709551616 < 12 * s := by omega
 have c6 : 12 * s < 18446744073709551616 := by omega
 have hk2 : (0 : Int) < rows.length := by omega
 have hfl2 : fl.length < 16777216 := by omega
 have hmp : (0 : Int) <= many := by omega
 generalize hF : x / 16 % (25 * s * ((i : Int) + 1)) = F at f0 f1
 generalize hDd : x / 1000 % (20 * s) = dd at d0
 have q4 : x % 16 / 5 = 0 \/ x % 16 / 5 = 1 \/ x % 16 / 5 = 2 \/ x % 16 / 5 = 3 := by omega
 have q2 : x / 3 % 2 = 0 \/ x / 3 % 2 = 1 := by omega
 obtain ⟨w, hw0, ew⟩ : ∃ w, 0 <= w /\ ng [.int 1000000000, .int (100 * s * many), .int (12 * s * many), .int (3 * s)] (x % 16 / 5) = .ok (.int w) := by
  rcases q4 with h | h | h | h
  ·exact ⟨1000000000, by omega, by rw [h]; simp⟩
  ·exact ⟨100 * s * many, Int.mul_nonneg (by omega) (by omega), by rw [h]; simp⟩
  ·exact ⟨12 * s * many, Int.mul_nonneg (by omega) (by omega), by rw [h]; simp⟩
  ·exact ⟨3 * s, by omega, by rw [h]; simp⟩
 obtain ⟨pr, hp0, hp1, ep⟩ : ∃ w, 0 <= w /\ w <= 1000000000 /\ ng [.int (x / 7 % 10), .int (x / 7 % 1000000001)] (x / 3 % 2) = .ok (.int w) := by
  rcases q2 with h | h
  ·exact ⟨x / 7 % 10, by omega, by omega, by rw [h]; simp⟩
  ·exact ⟨x / 7 % 1000000001, by omega, by omega, by rw [h]; simp⟩
 have kk0 : 0 <= x / 11 % (rows.length : Int) := Int.emod_nonneg _ (by omega)
 have kk1 : x / 11 % (rows.length : Int) < rows.length := Int.emod_lt_of_pos _ hk2
 have m1 := rW 1000000000 (F + w)
 have m2 := rW 1000000000 (F + dd)
 have g1 : x / 11 % (rows.length : Int) < (k : Int) := by omega
 have g2 : F <= ke 1000000000 (F + w) := by omega
 have g3 : 0 <= ke 1000000000 (F + dd) := by omega
 refine ⟨⟨x / 11 % (rows.length : Int), F, ke 1000000000 (F + w), ke 1000000000 (F + dd), pr⟩, some (.int x), some (.int F), some (.int w), some (.int (ke 1000000000 (F + w))), some (.int (ke 1000000000 (F + dd))), some (.int pr), ⟨kk0, g1, f0, g2, m1.1, g3, m2.1, hp0, hp1⟩, ?_⟩
 simp [fm, e, c1, c2, c3, c4, c5, c6, wg p1, wg p3, hF, hDd, ew, ep, wg hk2, hfl2, aW, flD]
theorem C8 (n : Nat) (ns : List Int) (k : Nat) (rows : List (List Int)) (o : Dat) (most : Nat) (s : Int) (hk : rows.length = k) (hk1 : 1 <= k) (hm : most <= 40) (hs0 : 1 <= s) (hs1 : s <= 100000) :
  ∃ fl : List Fli, fl.length <= most /\ (∀ f ∈ fl, sZ k f) /\ eY CR CP CN n [.lst (ns.map .int), .tup [aW rows, o], .int most, .int s] = .ok (.lst (fl.map flD)) := by
 obtain ⟨x, e1, hx⟩ := i8 CR CP CN n ns 2 (by omega) (by omega)
 obtain ⟨y, e2, hy⟩ := i8 CR CP CN n ns 3 (by omega) (by omega)
 have hmp : 0 < (most : Int) / 4 + 1 := by omega
 have a0 : 0 <= x % ((most : Int) / 4 + 1) := Int.emod_nonneg _ (by omega)
 have a1 : x % ((most : Int) / 4 + 1) < (most : Int) / 4 + 1 := Int.emod_lt_of_pos _ hmp
 obtain ⟨many, hmany, em⟩ : ∃ many : Nat, many <= most /\ fj CR CP CN n [some 'y', some (.tup [aW rows, o]), some (.int most), some (.int s), some (.int (x % ((most : Int) / 4 + 1))), none, none, none, none, none, none, none, none] = .ok (.nx [some 'y', some (.tup [aW rows, o]), some (.int most), some (.int s), some (.int many), none, none, none, none, none, none, none, none]) := by
  by_cases h : y % 8 = 5
  ·exact ⟨most, by omega, by simp [fj, e2, h]⟩
  ·exact ⟨(x % ((most : Int) / 4 + 1)).toNat, by omega, by simp [fj, e2, h] <;> omega⟩
 have k1 : -4611686018427387904 <= (many : Int) := by omega
 have k2 : (many : Int) < 4611686018427387904 := by omega
 obtain ⟨ρ', e, fl, y6, y7, y8, y9, y10, y11, y12, rfl, h1, h2⟩ := eG (p := .nm 6) (g := fm CR CP CN n)
  (fun i ρ => ∃ (fl : List Fli) (z6 z7 z8 z9 z10 z11 z12 : Option Dat), ρ = [some 'y', some (.tup [aW rows, o]), some (.int most), some (.int s), some (.int many), some (.lst (fl.map flD)), z6, z7, z8, z9, z10, z11, z12] /\ fl.length = i /\ ∀ f ∈ fl, sZ k f) (cj 0 many) 0 [some 'y', some (.tup [aW rows, o]), some (.int most), some (.int s), some (.int many), some (.lst []), none, none, none, none, none, none, none] ⟨[], none, none, none, none, none, none, none, rfl, rfl, by simp⟩ (by
  rintro i d ρ hd ⟨fl, z6, z7, z8, z9, z10, z11, z12, rfl, hr1, hr2⟩
  obtain ⟨hi, rfl⟩ := fN hd
  obtain ⟨f, y7, y8, y9, y10, y11, y12, hg, e⟩ := C9 CR CP CN n ns k rows o most s many i fl z6 z7 z8 z9 z10 z11 z12 hk hk1 (by omega) hi hs0 hs1 (by omega)
  refine ⟨_, by simp <;> rfl, _, .inl e, fl ++ [f], some (.int i), y7, y8, y9, y10, y11, y12, rfl, by simp; omega, fun y hy => ?_⟩
  rcases List.mem_append.mp hy with z | z
  ·exact hr2 y z
  ·simp at z; subst z; exact hg)
 rw [Nat.zero_add, eD] at h1
 exact ⟨fl, by omega, h2, by simp [eY, ju, e1, wg hmp, em, k1, k2, e]⟩
end
theorem Ce {α : Type} {l : List α} {i : Nat} (h : i < l.length) : (l[i] :: l.eraseIdx i).Perm l := by
 rw [List.eraseIdx_eq_take_drop_succ]
 have e : l.take i ++ l[i] :: l.drop (i + 1) = l := by rw [List.getElem_cons_drop, List.take_append_drop]
 have := (List.perm_middle (a := l[i]) (l₁ := l.take i) (l₂ := l.drop (i + 1))).symm
 rw [e] at this
 exact this
theorem wb (l : List eU) (j : Nat) : (l.map stD).eraseIdx j = (l.eraseIdx j).map stD := by
 rw [List.eraseIdx_eq_take_drop_succ, List.eraseIdx_eq_take_drop_succ]
 simp
theorem popD_st {ls : List eU} {k : Int} (h0 : 0 <= k) (h1 : k < ls.length) (hl : ls.length <= 16777216) : D7 (ls.map stD) (.int k) = .ok (stD (ls[k.toNat]'(by omega)), (ls.eraseIdx k.toNat).map stD) := by
 have hj : k.toNat < ls.length := by omega
 have hn : ¬ 16777216 < ls.length := by omega
 simp [D7, ixN, h0, h1, hj, hn, wb]
section
variable (CR CP CN : Addr)
theorem uy (fl : List Fli) : ∀ ks : List Nat, (∀ k ∈ ks, k < fl.length) -> ∃ cs : List eU, cs.map (·.2) = ks.map (fun k : Nat => (k : Int)) /\ ck (.nm 0) ur (fL fZ (a9 (f2 ixD (f2 ixD (ah 1) (ah 0)) 'v') (a9 (ah 0) aN))) [none, some (.lst (fl.map flD))] (ks.map fun k : Nat => Dat.int (k : Int)) = .ok 'R'
 | [], _ => ⟨[], rfl, rfl⟩
 | k :: ks, h => by
  obtain ⟨cs, h1, h2⟩ := uy fl ks fun x hx => h x (by simp [hx])
  have hk := h k (by simp)
  have e : ng (fl.map flD) (k : Int) = .ok (flD fl[k]) := by
   rw [j8 (by simpa using hk)]; simp
  refine ⟨((fl[k]).first, (k : Int)) :: cs, by simp [h1], ?_⟩
  rw [List.map_cons, ck]
  simp [e, flD, h2, stD]
theorem xT (n : Nat) (ns : List Int) (a1 a2 : Option Dat) (st : Int) (hs0 : 1 <= st) : ∀ (m : Nat) (left pairs : List eU) (z6 z7 z8 z9 : Option Dat), left.length < m -> left.length + pairs.length <= 1000 -> (∀ p ∈ pairs, 0 <= p.2 /\ p.2 < st) ->
  ∃ (qs : List eU) (y6 y7 y8 y9 : Option Dat), (qs.map (·.1)).Perm (pairs.map (·.1) ++ left.map (·.2)) /\ (∀ p ∈ qs, 0 <= p.2 /\ p.2 < st) /\
   eR (fV CR CP CN n) (ir CR CP CN n) m [some 'y', a1, a2, some (.lst (left.map stD)), some (.lst (pairs.map stD)), some (.int st), z6, z7, z8, z9] = .ok (.nx [some 'y', a1, a2, some (.lst []), some (.lst (qs.map stD)), some (.int st), y6, y7, y8, y9])
 | 0, left, pairs, z6, z7, z8, z9, h, _, _ => by omega
 | m + 1, left, pairs, z6, z7, z8, z9, h, hl, hp => by
  by_cases h0 : left.length = 0
  ·have : left = [] := List.length_eq_zero_iff.mp h0
   subst this
   exact ⟨pairs, z6, z7, z8, z9, by simp, hp, by rw [eR]; simp [fV]⟩
  ·obtain ⟨x, e, hx⟩ := i8 CR CP CN n ns (180 + (left.length : Int)) (by omega) (by omega)
   have hpos : 0 < left.length := by omega
   have m1 := rW (left.length : Int) 3
   have hmz : 0 < ke (left.length : Int) 3 := by omega
   have b0 : 0 <= x / 64 % ke (left.length : Int) 3 := Int.emod_nonneg _ (by omega)
   have b1 : x / 64 % ke (left.length : Int) 3 < ke (left.length : Int) 3 := Int.emod_lt_of_pos _ hmz
   obtain ⟨at_, c0, c1, ec⟩ : ∃ at_ : Int, 0 <= at_ /\ at_ < left.length /\ t5 (.int (x / 64 % ke (left.length : Int) 3)) (.int (b2z (decide (x % 4 = 0)))) = .ok (.int at_) := by
    by_cases hq : x % 4 = 0
    ·exact ⟨x / 64 % ke (left.length : Int) 3, b0, by omega, by simp [hq, b2z]⟩
    ·exact ⟨0, by omega, by omega, by simp [hq, b2z]⟩
   have ep := popD_st c0 c1 (by omega)
   have hst : 0 < st := by omega
   have r0 : 0 <= x / 4096 % st := Int.emod_nonneg _ (by omega)
   have r1 : x / 4096 % st < st := Int.emod_lt_of_pos _ hst
   have hpl : pairs.length < 16777216 := by omega
   have hat : at_.toNat < left.length := by omega
   generalize hpd : left[at_.toNat]'hat = pd at ep
   have hle := List.length_eraseIdx_of_lt hat
   obtain ⟨qs, y6, y7, y8, y9, hq1, hq2, hq3⟩ := xT n ns a1 a2 st hs0 m (left.eraseIdx at_.toNat) (pairs ++ [(pd.2, x / 4096 % st)]) (some (.int x)) (some (.int at_)) (some (.int pd.1)) (some (.int pd.2)) (by omega) (by simp; omega) (fun p hp' => by
    rcases List.mem_append.mp hp' with z | z
    ·exact hp p z
    ·simp at z; subst z; exact ⟨r0, r1⟩)
   refine ⟨qs, y6, y7, y8, y9, ?_, hq2, ?_⟩
   ·refine hq1.trans ?_
    rw [List.map_append, List.append_assoc]
    refine List.Perm.append_left _ ?_
    have := (Ce hat).map (·.2)
    rw [hpd] at this
    simpa using this
   ·rw [eR]
    rw [List.map_append, List.map_cons, List.map_nil] at hq3
    simp only [stD] at hq3 ep
    have ht : fV CR CP CN n [some 'y', a1, a2, some (.lst (left.map stD)), some (.lst (pairs.map stD)), some (.int st), z6, z7, z8, z9] = .ok true := by simp [fV, hpos]
    have hb : ir CR CP CN n [some 'y', a1, a2, some (.lst (left.map stD)), some (.lst (pairs.map stD)), some (.int st), z6, z7, z8, z9] = .ok (.nx [some 'y', a1, a2, some (.lst ((left.eraseIdx at_.toNat).map stD)), some (.lst (pairs.map stD ++ [.tup [.int pd.2, .int (x / 4096 % st)]])), some (.int st), some (.int x), some (.int at_), some (.int pd.1), some (.int pd.2)]) := by
     simp [ir, e, wg hmz, ec, ep, wg hst, hpl]
    rw [ht, ax, if_pos rfl, hb, ax]
    exact hq3
end
section
variable (CR CP CN : Addr)
theorem D9 (n : Nat) (ns : List Int) (rows : List (List Int)) (o : Dat) (fl : List Fli) (hf : fl.length <= 60) (hn : 64 <= n) : ∃ qs : List eU, (qs.map (·.1)).Perm ((List.range fl.length).map fun k : Nat => (k : Int)) /\ (∀ p ∈ qs, 0 <= p.2 /\ p.2 < 2) /\ (o = .non -> ∀ p ∈ qs, p.2 = 0) /\ iL CR CP CN n [.lst (ns.map .int), .tup [aW rows, o], .lst (fl.map flD)] = .ok (.lst (qs.map stD)) := by
 obtain ⟨cs, h1, h2⟩ := uy fl (List.range fl.length) (fun k hk => List.mem_range.mp hk)
 have hcl : cs.length = fl.length := by have := congrArg List.length h1; simpa using this
 obtain ⟨ss, e, hp, _⟩ := xu cs (by omega)
 obtain ⟨b, hb⟩ : ∃ b, isND o .non = .ok (.bl b) := by cases o <;> exact ⟨_, rfl⟩
 have hs0 : 1 <= (2 : Int) - b2z b := by cases b <;> decide
 have hs1 : (2 : Int) - b2z b <= 2 := by cases b <;> decide
 obtain ⟨qs, y6, y7, y8, y9, q1, q2, q3⟩ := xT CR CP CN n ns (some (.tup [aW rows, o])) (some (.lst (fl.map flD))) (2 - b2z b) hs0 n ss [] none none none none (by rw [hp.length_eq]; omega) (by rw [hp.length_eq]; simp; omega) (by simp)
 refine ⟨qs, ?_, fun p hp => ⟨(q2 p hp).1, by have := (q2 p hp).2; omega⟩, fun hon p hp => by subst hon; cases hb; have := q2 p hp; simp [b2z] at this; omega, ?_⟩
 ·refine q1.trans ?_
  rw [List.map_nil, List.nil_append, <- h1]
  exact hp.map _
 ·have k1 : -4611686018427387904 <= (fl.length : Int) := by omega
  have k2 : (fl.length : Int) < 4611686018427387904 := by omega
  have hl2 : fl.length <= 16777216 := by omega
  have er : cj 0 fl.length = (List.range fl.length).map fun k : Nat => Dat.int (k : Int) := by
   unfold cj
   exact List.map_congr_left fun k _ => by rw [Int.zero_add]
  rw [List.map_nil] at q3
  simp [iL, nX, k1, k2, er, h2, e, hb, hl2, q3, -e_isN]
end
noncomputable def flAt (fl : List Fli) (i : Int) : Fli := match fl[i.toNat]? with
 | some f => f
 | none => ⟨0, 0, 0, 0, 0⟩
theorem getFl {fl : List Fli} {i : Int} (h0 : 0 <= i) (h1 : i < fl.length) : ng (fl.map flD) i = .ok (flD (flAt fl i)) /\ flAt fl i ∈ fl := by
 have hj : i.toNat < fl.length := by omega
 have e : flAt fl i = fl[i.toNat] := by unfold flAt; rw [List.getElem?_eq_getElem hj]
 refine ⟨?_, by rw [e]; exact List.getElem_mem hj⟩
 have := j8 (ds := fl.map flD) (k := i.toNat) (by simpa using hj)
 rw [show ((i.toNat : Nat) : Int) = i by omega] at this
 rw [this, e]
 simp
noncomputable def Cov (cs : List eU) (t : Int) : Prop := ∃ p ∈ cs, p.1 <= t /\ t < p.2
noncomputable def jh (cs : List eU) (t u : Int) : Prop := t <= u /\ ¬ Cov cs u /\ ∀ v, t <= v -> v < u -> Cov cs v
noncomputable def ES (cs : List eU) (t u : Int) : Prop := u <= t /\ ¬ Cov cs u /\ ∀ v, u < v -> v <= t -> Cov cs v
theorem jh.uniq {cs : List eU} {t u v : Int} (h : jh cs t u) (k : jh cs t v) : u = v := by
 rcases Int.lt_trichotomy u v with e | e | e
 ·exact absurd (k.2.2 u h.1 e) h.2.1
 ·exact e
 ·exact absurd (h.2.2 v k.1 e) k.2.1
theorem ES.uniq {cs : List eU} {t u v : Int} (h : ES cs t u) (k : ES cs t v) : u = v := by
 rcases Int.lt_trichotomy u v with e | e | e
 ·exact absurd (h.2.2 v e k.1) k.2.1
 ·exact e
 ·exact absurd (k.2.2 u e h.1) h.2.1
theorem Av (t : Int) : ¬ Cov [] t := fun ⟨_, h, _⟩ => by simp at h
theorem wM {p : eU} {cs : List eU} {t : Int} : Cov (p :: cs) t ↔ (p.1 <= t /\ t < p.2) \/ Cov cs t := by
 constructor
 ·rintro ⟨q, h, h2⟩
  rcases List.mem_cons.mp h with e | e
  ·subst e; exact .inl h2
  ·exact .inr ⟨q, e, h2⟩
 ·rintro (h | ⟨q, h, h2⟩)
  ·exact ⟨p, by simp, h⟩
  ·exact ⟨q, by simp [h], h2⟩
theorem k9 {as bs : List eU} {t : Int} : Cov (as ++ bs) t ↔ Cov as t \/ Cov bs t := by
 constructor
 ·rintro ⟨q, h, h2⟩
  rcases List.mem_append.mp h with e | e
  ·exact .inl ⟨q, e, h2⟩
  ·exact .inr ⟨q, e, h2⟩
 ·rintro (⟨q, h, h2⟩ | ⟨q, h, h2⟩)
  ·exact ⟨q, by simp [h], h2⟩
  ·exact ⟨q, by simp [h], h2⟩
theorem cov_perm {as bs : List eU} (h : as.Perm bs) {t : Int} : Cov as t ↔ Cov bs t := ⟨fun ⟨p, m, q⟩ => ⟨p, h.mem_iff.mp m, q⟩, fun ⟨p, m, q⟩ => ⟨p, h.mem_iff.mpr m, q⟩⟩
theorem Au {p : eU} {t : Int} : Cov [p] t ↔ p.1 <= t /\ t < p.2 := by rw [wM]; simp [Av]
theorem k4 : ∀ (ds : List Dat) (k i : Nat) (d : Dat), (jv k ds)[i]? = some d -> ∃ e, ds[i]? = some e /\ d = .tup [.int ((k + i : Nat) : Int), e]
 | [], k, i, d, h => by simp [jv] at h
 | a :: ds, k, 0, d, h => by simp [jv] at h; exact ⟨a, by simp, by simp [<- h]⟩
 | a :: ds, k, i + 1, d, h => by
  simp [jv] at h
  obtain ⟨e, h1, h2⟩ := k4 ds (k + 1) i d h
  exact ⟨e, by simpa using h1, by rw [h2, show k + 1 + i = k + (i + 1) by omega]⟩
theorem gm : ∀ (ds : List Dat) (k : Nat), (jv k ds).length = ds.length
 | [], k => rfl
 | a :: ds, k => by simp [jv, gm ds (k + 1)]
noncomputable def tAt (ts : List Int) (i : Nat) : Int := ts.getD i 0
noncomputable def qAt (qs : List eU) (i : Nat) : eU := qs.getD i (0, 0)
noncomputable def rwAt (rows : List (List Int)) (i : Int) : List Int := rows.getD i.toNat []
noncomputable def at2 (rows : List (List Int)) (i j : Int) : Int := (rwAt rows i).getD j.toNat 0
noncomputable def apS (rows r2 : List (List Int)) (a b : eU) : Int := if a.2 = b.2 then at2 rows a.1 b.1 else at2 r2 a.1 b.1
noncomputable def oJ (fl : List Fli) (p : eU) : eU := ((flAt fl p.1).kind, p.2)
structure Wo where
 k : Nat
 rows : List (List Int)
 r2 : List (List Int)
 o : Dat
 fl : List Fli
 cs : List eU
 qs : List eU
structure Wo.Good (w : Wo) : Prop where
 k1 : 1 <= w.k
 k6 : w.k <= 6
 rows : fq w.k w.rows
 o : (w.o = .non /\ ∀ p ∈ w.qs, p.2 = 0) \/ (w.o = aW w.r2 /\ fq w.k w.r2)
 fl : ∀ f ∈ w.fl, sZ w.k f
 fll : w.fl.length <= 60
 cs : ∀ p ∈ w.cs, p.1 < p.2
 csl : w.cs.length <= 20
 qs : ∀ p ∈ w.qs, 0 <= p.1 /\ p.1 < w.fl.length
 qsl : w.qs.length = w.fl.length
noncomputable def Wo.f (w : Wo) (i : Nat) : Fli := flAt w.fl (qAt w.qs i).1
noncomputable def Wo.ap (w : Wo) (j i : Nat) : Int := apS w.rows w.r2 (oJ w.fl (qAt w.qs j)) (oJ w.fl (qAt w.qs i))
noncomputable def Wo.ruD (w : Wo) : Dat := .tup [aW w.rows, w.o]
theorem getQ {qs : List eU} {i : Nat} (h : i < qs.length) : ng (qs.map stD) (i : Int) = .ok (stD (qAt qs i)) := by
 rw [j8 (by simpa using h)]
 simp [qAt, h]
theorem rC {qs : List eU} {i : Nat} (h : i < qs.length) : qAt qs i ∈ qs := by
 have : qAt qs i = qs[i] := by simp [qAt, h]
 rw [this]
 exact List.getElem_mem h
theorem getT {ts : List Int} {i : Nat} (h : i < ts.length) : ng (ts.map .int) (i : Int) = .ok (.int (tAt ts i)) := by
 rw [j8 (by simpa using h)]
 simp [tAt, h]
theorem getR {k : Nat} {rows : List (List Int)} (g : fq k rows) {i : Int} (h0 : 0 <= i) (h1 : i < k) : ng (rows.map qm) i = .ok (qm (rwAt rows i)) /\ sY k (rwAt rows i) := by
 have hl := g.1
 have hj : i.toNat < rows.length := by omega
 have e : rwAt rows i = rows[i.toNat] := by simp [rwAt, hj]
 refine ⟨?_, by rw [e]; exact g.2 _ (List.getElem_mem hj)⟩
 have := j8 (ds := rows.map qm) (k := i.toNat) (by simpa using hj)
 rw [show ((i.toNat : Nat) : Int) = i by omega] at this
 rw [this, e]
 simp
theorem getA {k : Nat} {rows : List (List Int)} (g : fq k rows) {i j : Int} (h0 : 0 <= i) (h1 : i < k) (h2 : 0 <= j) (h3 : j < k) : ng ((rwAt rows i).map .int) j = .ok (.int (at2 rows i j)) /\ 0 <= at2 rows i j := by
 have gr := (getR g h0 h1).2
 have hl := gr.1
 have hj : j.toNat < (rwAt rows i).length := by omega
 have e : at2 rows i j = (rwAt rows i)[j.toNat] := by simp [at2, hj]
 refine ⟨?_, by rw [e]; exact (gr.2 _ (List.getElem_mem hj)).1⟩
 rw [getI_int h2 (by omega), e]
theorem Wo.Good.fAt {w : Wo} (hw : w.Good) {i : Nat} (h : i < w.qs.length) : ng (w.fl.map flD) (qAt w.qs i).1 = .ok (flD (w.f i)) /\ sZ w.k (w.f i) := by
 obtain ⟨h0, h1⟩ := hw.qs _ (rC h)
 obtain ⟨e, m⟩ := getFl h0 h1
 exact ⟨e, hw.fl _ m⟩
section
variable (CR CP CN : Addr)
theorem Bz (n : Nat) {w : Wo} (hw : w.Good) {j i : Nat} (hj : j < w.qs.length) (hi : i < w.qs.length) : cW CR CP CN n [w.ruD, .lst (w.fl.map flD), stD (qAt w.qs j), stD (qAt w.qs i)] = .ok (.int (w.ap j i)) := by
 obtain ⟨ej, gj⟩ := hw.fAt hj
 obtain ⟨ei, gi⟩ := hw.fAt hi
 obtain ⟨r1, _⟩ := getR hw.rows gj.k0 gj.k1
 obtain ⟨r2, _⟩ := getA hw.rows gj.k0 gj.k1 gi.k0 gi.k1
 unfold Wo.f at *
 by_cases hs : (qAt w.qs j).2 = (qAt w.qs i).2
 ·simp [cW, ja, jB, Wo.ruD, stD, ej, ei, flD, hs, aW, r1, qm, r2, Wo.ap, apS, oJ]
 ·rcases hw.o with ⟨_, h⟩ | ⟨ho, h⟩
  ·exact absurd ((h _ (rC hj)).trans (h _ (rC hi)).symm) hs
  ·obtain ⟨r3, _⟩ := getR h gj.k0 gj.k1
   obtain ⟨r4, _⟩ := getA h gj.k0 gj.k1 gi.k0 gi.k1
   simp [cW, ja, jB, Wo.ruD, stD, ej, ei, flD, hs, ho, aW, r3, qm, r4, Wo.ap, apS, oJ]
end
section
variable (CR CP CN : Addr)
theorem En (n : Nat) (ns : List Int) (s : Int) (hs0 : 1 <= s) (hs1 : s <= 100000) : ∃ cs : List eU, cs.length <= 20 /\ (∀ p ∈ cs, 0 <= p.1 /\ p.1 < p.2) /\ g4 CR CP CN n [.lst (ns.map .int), .int s] = .ok (.lst 'R') := by
 obtain ⟨x, e1, hx⟩ := i8 CR CP CN n ns 150 (by omega) (by omega)
 obtain ⟨y, e2, hy⟩ := i8 CR CP CN n ns 151 (by omega) (by omega)
 obtain ⟨many, hmany, em⟩ : ∃ many : Nat, many <= 20 /\ gp CR CP CN n [some 'y', some (.int s), some (.int (x % 5)), none, none, none, none] = .ok (.nx [some 'y', some (.int s), some (.int many), none, none, none, none]) := by
  by_cases h : y % 8 = 5
  ·exact ⟨20, by omega, by simp [gp, e2, h]⟩
  ·exact ⟨(x % 5).toNat, by omega, by simp [gp, e2, h] <;> omega⟩
 have k1 : -4611686018427387904 <= (many : Int) := by omega
 have k2 : (many : Int) < 4611686018427387904 := by omega
 obtain ⟨ρ', e, cs, y4, y5, y6, rfl, h1, h2⟩ := eG (p := .nm 4) (g := iX CR CP CN n)
  (fun i ρ => ∃ (cs : List eU) (z4 z5 z6 : Option Dat), ρ = [some 'y', some (.int s), some (.int many), some (.lst 'R'), z4, z5, z6] /\ cs.length = i /\ ∀ p ∈ cs, 0 <= p.1 /\ p.1 < p.2) (cj 0 many) 0 [some 'y', some (.int s), some (.int many), some (.lst []), none, none, none] ⟨[], none, none, none, rfl, rfl, by simp⟩ (by
  rintro i d ρ hd ⟨cs, z4, z5, z6, rfl, hr1, hr2⟩
  obtain ⟨hi, rfl⟩ := fN hd
  obtain ⟨x, ex, hx⟩ := i8 CR CP CN n ns (152 + (i : Int)) (by omega) (by omega)
  have p1 : 0 < 150 * s := by omega
  have f0 : 0 <= x / 9 % (150 * s) := Int.emod_nonneg _ (by omega)
  have m0 : 0 <= x % 9 * s := Int.mul_nonneg (by omega) (by omega)
  have q1 : -18446744073709551616 < x % 9 := by omega
  have q2 : x % 9 < 18446744073709551616 := by omega
  have hl : cs.length < 16777216 := by omega
  refine ⟨_, by simp <;> rfl, [some 'y', some (.int s), some (.int many), some (.lst ((cs ++ [(x / 9 % (150 * s), x / 9 % (150 * s) + 1 + x % 9 * s)]).map stD)), some (.int i), some (.int x), some (.int (x / 9 % (150 * s)))], .inl ?_, _, _, _, _, rfl, by simp; omega, fun y hy => ?_⟩
  ·simp [iX, ex, wg p1, q1, q2, hl, stD]
  ·rcases List.mem_append.mp hy with z | z
   ·exact hr2 y z
   ·simp at z; subst z; exact ⟨f0, by show x / 9 % (150 * s) < x / 9 % (150 * s) + 1 + x % 9 * s; omega⟩)
 rw [Nat.zero_add, eD] at h1
 exact ⟨cs, by omega, h2, by simp [g4, kI, e1, em, k1, k2, e]⟩
end
noncomputable def cnt (cs : List eU) (t : Int) : Nat := cs.countP fun p => decide (t < p.2)
theorem Bs {cs : List eU} {t u : Int} (h : t <= u) : cnt cs u <= cnt cs t := by
 unfold cnt
 exact List.countP_mono_left fun p _ hp => by simp at hp ⊢; omega
theorem cnt_lt : ∀ {cs : List eU} {p : eU} {t : Int}, p ∈ cs -> t < p.2 -> cnt cs p.2 < cnt cs t
 | [], p, t, hp, _ => by simp at hp
 | a :: cs, p, t, hp, ht => by
  have hm := Bs (cs := cs) (t := t) (u := p.2) (by omega)
  unfold cnt at *
  rw [List.countP_cons, List.countP_cons]
  rcases List.mem_cons.mp hp with e | e
  ·subst e
   simp [ht]
   omega
  ·have ih := cnt_lt (cs := cs) e ht
   unfold cnt at ih
   by_cases h1 : p.2 < a.2
   ·have : t < a.2 := by omega
    simp [h1, this]; omega
   ·by_cases h2 : t < a.2 <;> simp [h1, h2] <;> omega
section
variable (CR CP CN : Addr)
theorem zZ (n : Nat) (all : List eU) (c : Option Dat) : ∀ (ds : List eU) (t : Int) (m : Bool) (z3 z4 : Option Dat), (∀ p ∈ ds, p ∈ all) -> ∃ (t' : Int) (m' : Bool) (y3 y4 : Option Dat), kf (.tp [3, 4]) (bh CR CP CN n) (ds.map stD) [c, some (.int t), some (.bl m), z3, z4] = .ok (.nx [c, some (.int t'), some (.bl m'), y3, y4]) /\ t <= t' /\ (∀ v, t <= v -> v < t' -> Cov all v) /\ (m' = false -> m = false /\ t' = t /\ ¬ Cov ds t) /\ (m' = true -> m = true \/ cnt all t' < cnt all t)
 | [], t, m, z3, z4, _ => ⟨t, m, z3, z4, rfl, Int.le_refl _, fun v h1 h2 => by omega, fun h => ⟨h, rfl, Av t⟩, fun h => .inl h⟩
 | p :: ds, t, m, z3, z4, hin => by
  have hb : gw (.tp [3, 4]) (stD p) [c, some (.int t), some (.bl m), z3, z4] = .ok [c, some (.int t), some (.bl m), some (.int p.1), some (.int p.2)] := by simp [stD]
  by_cases h : p.1 <= t /\ t < p.2
  ·have hg : bh CR CP CN n [c, some (.int t), some (.bl m), some (.int p.1), some (.int p.2)] = .ok (.nx [c, some (.int p.2), some (.bl true), some (.int p.1), some (.int p.2)]) := by simp [bh, dE, h.1, h.2]
   obtain ⟨t', m', y3, y4, e, h1, h2, h3, h4⟩ := zZ n all c ds p.2 true (some (.int p.1)) (some (.int p.2)) fun q hq => hin q (by simp [hq])
   refine ⟨t', m', y3, y4, ?_, by omega, fun v a b => ?_, fun hm => absurd (h3 hm).1 (by simp), fun _ => .inr ?_⟩
   ·rw [List.map_cons, kf, hb, ax, hg]; exact e
   ·by_cases hv : v < p.2
    ·exact ⟨p, hin p (by simp), by omega, hv⟩
    ·exact h2 v (by omega) b
   ·exact Nat.lt_of_le_of_lt (Bs h1) (cnt_lt (hin p (by simp)) h.2)
  ·have hg : bh CR CP CN n [c, some (.int t), some (.bl m), some (.int p.1), some (.int p.2)] = .ok (.nx [c, some (.int t), some (.bl m), some (.int p.1), some (.int p.2)]) := by
    by_cases h1 : p.1 <= t
    ·have h2 : ¬ t < p.2 := fun z => h ⟨h1, z⟩
     simp [bh, dE, h1, h2]
    ·simp [bh, dE, h1]
   obtain ⟨t', m', y3, y4, e, h1, h2, h3, h4⟩ := zZ n all c ds t m (some (.int p.1)) (some (.int p.2)) fun q hq => hin q (by simp [hq])
   refine ⟨t', m', y3, y4, ?_, h1, h2, fun hm => ?_, h4⟩
   ·rw [List.map_cons, kf, hb, ax, hg]; exact e
   ·obtain ⟨a, b, d⟩ := h3 hm
    exact ⟨a, b, fun z => (wM.mp z).elim h d⟩
theorem uf (n : Nat) (cs : List eU) : ∀ (m : Nat) (t : Int) (z3 z4 : Option Dat), cnt cs t + 1 < m -> ∃ (u : Int) (y3 y4 : Option Dat), jh cs t u /\ eR (bJ CR CP CN n) (dF CR CP CN n) m [some (.lst 'R'), some (.int t), some (.bl true), z3, z4] = .ok (.nx [some (.lst 'R'), some (.int u), some (.bl false), y3, y4])
 | 0, t, z3, z4, h => by omega
 | m + 1, t, z3, z4, h => by
  obtain ⟨t', m', y3, y4, e, h1, h2, h3, h4⟩ := zZ CR CP CN n cs (some (.lst 'R')) cs t false z3 z4 fun q hq => hq
  have ht : bJ CR CP CN n [some (.lst 'R'), some (.int t), some (.bl true), z3, z4] = .ok true := by simp [bJ]
  have hb : dF CR CP CN n [some (.lst 'R'), some (.int t), some (.bl true), z3, z4] = .ok (.nx [some (.lst 'R'), some (.int t'), some (.bl m'), y3, y4]) := by simp [dF, e]
  cases m' with
  | false =>
   obtain ⟨_, e2, hn⟩ := h3 rfl
   subst e2
   refine ⟨t', y3, y4, ⟨Int.le_refl _, hn, fun v a b => by omega⟩, ?_⟩
   rw [eR, ht, ax, if_pos rfl, hb, ax]
   have ht2 : bJ CR CP CN n [some (.lst 'R'), some (.int t'), some (.bl false), y3, y4] = .ok false := by simp [bJ]
   cases m with
   | zero => omega
   | succ m =>
    show eR _ _ (m + 1) _ = _
    rw [eR, ht2, ax, if_neg (by simp)]
  | true =>
   rcases h4 rfl with z | z
   ·cases z
   ·obtain ⟨u, w3, w4, hu, e2⟩ := uf n cs m t' y3 y4 (by omega)
    refine ⟨u, w3, w4, ⟨Int.le_trans h1 hu.1, hu.2.1, fun v a b => ?_⟩, ?_⟩
    ·by_cases hv : v < t'
     ·exact h2 v a hv
     ·exact hu.2.2 v (by omega) b
    ·rw [eR, ht, ax, if_pos rfl, hb, ax]
     exact e2
theorem from_ok (n : Nat) (cs : List eU) (t : Int) (hl : cs.length <= 20) (hn : 64 <= n) : ∃ u, jh cs t u /\ dz CR CP CN n [.lst 'R', .int t] = .ok (.int u) := by
 have hc : cnt cs t <= cs.length := List.countP_le_length
 obtain ⟨u, y3, y4, hu, e⟩ := uf CR CP CN n cs n t none none (by omega)
 exact ⟨u, hu, by simp [dz, i7, e]⟩
end
theorem lookA1 (d : Dat) : List.lookup ("apart" : Str) [(("gaps" : Str), d)] = none := by
 rw [List.lookup_cons, show ((("apart" : Str) == ("gaps" : Str)) = false) from by decide +kernel]
 rfl
theorem lookA2 (d e : Dat) : List.lookup ("apart" : Str) [(("gaps" : Str), d), (("beside" : Str), e)] = none := by
 rw [List.lookup_cons, show ((("apart" : Str) == ("gaps" : Str)) = false) from by decide +kernel]
 show List.lookup ("apart" : Str) [(("beside" : Str), e)] = none
 rw [List.lookup_cons, show ((("apart" : Str) == ("beside" : Str)) = false) from by decide +kernel]
 rfl
section
variable (CR CP CN : Addr)
theorem ED (rows r2 : List (List Int)) : wN [CP] "beside" (cv CR CP rows (aW r2)) = .ok (aW r2) := by
 have h1 : ((("beside" : Str) == ("gaps" : Str)) = false) := by decide +kernel
 have h2 : ((("beside" : Str) == ("beside" : Str)) = true) := by decide +kernel
 show (if ([CP].contains CP) = true then (match List.lookup ("beside" : Str) [(("gaps" : Str), aW rows), (("beside" : Str), aW r2)] with | some d => Except.ok d | none => stk) else stk) = _
 rw [if_pos (by simp), List.lookup_cons, h1]
 show (match List.lookup ("beside" : Str) [(("beside" : Str), aW r2)] with | some d => Except.ok d | none => stk) = _
 rw [List.lookup_cons, h2]
theorem meth_ok (n : Nat) (hne : CR ≠ CP) {w : Wo} (hw : w.Good) {j i : Nat} (hj : j < w.qs.length) (hi : i < w.qs.length) (fo f1 f2 : ak -> M Dat) (ρ : ak) (h0 : fo ρ = .ok 'H') (h1 : f1 ρ = .ok (stD (oJ w.fl (qAt w.qs j)))) (h2 : f2 ρ = .ok (stD (oJ w.fl (qAt w.qs i)))) :
  mj CR CP "apart" (dj CR CP CN n) (cY CR CP CN n) fo (a9 f1 (a9 f2 aN)) ρ = .ok (.int (w.ap j i)) := by
 obtain ⟨ej, gj⟩ := hw.fAt hj
 obtain ⟨ei, gi⟩ := hw.fAt hi
 obtain ⟨r1, _⟩ := getR hw.rows gj.k0 gj.k1
 obtain ⟨r2, _⟩ := getA hw.rows gj.k0 gj.k1 gi.k0 gi.k1
 unfold Wo.f at *
 unfold mj
 rw [h0, ax]
 rcases hw.o with ⟨ho, h⟩ | ⟨ho, h⟩
 ·have hs : (qAt w.qs j).2 = (qAt w.qs i).2 := (h _ (rC hj)).trans (h _ (rC hi)).symm
  have hc : isC CR "apart" 'H' = true := by
   rw [ho]
   show ((CR == CR) && (List.lookup ("apart" : Str) [(("gaps" : Str), aW w.rows)]).isNone) = true
   rw [lookA1]; simp
  have hg := DX CR CP w.rows w.o (.inl ho)
  rw [if_pos hc]
  simp [h1, h2, dj, kJ, hg, stD, oJ, aW, r1, qm, r2, Wo.ap, apS, hs]
 ·have hc : isC CR "apart" 'H' = false := by
   rw [ho]
   show ((CP == CR) && (List.lookup ("apart" : Str) [(("gaps" : Str), aW w.rows), (("beside" : Str), aW w.r2)]).isNone) = false
   have : (CP == CR) = false := by simp; exact fun z => hne z.symm
   rw [this]; rfl
  have hc2 : isC CP "apart" 'H' = true := by
   rw [ho]
   show ((CP == CP) && (List.lookup ("apart" : Str) [(("gaps" : Str), aW w.rows), (("beside" : Str), aW w.r2)]).isNone) = true
   rw [lookA2]; simp
  have hg := DX CR CP w.rows w.o (.inr ⟨_, ho⟩)
  have hb : wN [CP] "beside" 'H' = .ok (aW w.r2) := by rw [ho]; exact ED CR CP w.rows w.r2
  obtain ⟨r3, _⟩ := getR h gj.k0 gj.k1
  obtain ⟨r4, _⟩ := getA h gj.k0 gj.k1 gi.k0 gi.k1
  rw [if_neg (by rw [hc]; simp), if_pos hc2]
  by_cases hs : (qAt w.qs j).2 = (qAt w.qs i).2
  ·simp [h1, h2, cY, jb, hg, hb, stD, oJ, aW, r1, qm, r2, Wo.ap, apS, hs]
  ·simp [h1, h2, cY, jb, hg, hb, stD, oJ, aW, r3, qm, r4, Wo.ap, apS, hs]
theorem uR (n : Nat) {w : Wo} (hw : w.Good) : gC CR CP CN n [.lst (w.fl.map flD), .lst (w.qs.map stD)] = .ok 'j' := by
 have hl : w.qs.length <= 16777216 := by have := hw.qsl; have := hw.fll; omega
 have e : ∀ qs : List eU, (∀ p ∈ qs, 0 <= p.1 /\ p.1 < w.fl.length) -> ck (.tp [0, 1]) ur (fL fZ (a9 (f2 ixD (f2 ixD (ah 2) (ah 0)) 'J') (a9 (ah 1) aN))) [none, none, some 'e'] (qs.map stD) = .ok ((qs.map (oJ w.fl)).map stD) := by
  intro qs
  induction qs with
  | nil => intro _; rfl
  | cons p qs ih =>
   intro h
   obtain ⟨h0, h1⟩ := h p (by simp)
   obtain ⟨e, _⟩ := getFl h0 h1
   have ih := ih fun q hq => h q (by simp [hq])
   rw [List.map_cons, ck]
   simp [e, flD, ih, oJ, stD, -List.map_map]
 simp [gC, pS, hl, e w.qs hw.qs, -List.map_map]
theorem getS {w : Wo} {i : Nat} (h : i < w.qs.length) : ng ((w.qs.map (oJ w.fl)).map stD) (i : Int) = .ok (stD (oJ w.fl (qAt w.qs i))) := by
 rw [j8 (by simpa using h)]
 simp [qAt, h]
noncomputable def Wo.nV (w : Wo) (ts : List Int) (i : Nat) : List Int := (List.range i).map fun j => tAt ts j + w.ap j i
theorem gap_ok (n : Nat) (hne : CR ≠ CP) {w : Wo} (hw : w.Good) (ts : List Int) {i : Nat} (hi : i < w.qs.length) (ht : i <= ts.length) : fH CR CP CN n [cv CR CP w.rows w.o, .lst ((w.qs.map (oJ w.fl)).map stD), .lst (ts.map .int), .int i] = .ok (.lst ((w.nV ts i).map .int)) := by
 have hq := hw.qsl
 have hf := hw.fll
 have k1 : -4611686018427387904 <= (i : Int) := by omega
 have k2 : (i : Int) < 4611686018427387904 := by omega
 have hl : (cj 0 i).length <= 16777216 := by rw [eD]; omega
 have e : ck (.nm 0) ur (f2 lq (f2 ixD (ah 3) (ah 0)) (mj CR CP "apart" (dj CR CP CN n) (cY CR CP CN n) (ah 1) (a9 (f2 ixD (ah 2) (ah 0)) (a9 (f2 ixD (ah 2) (ah 4)) aN)))) [none, some 'H', some 'j', some 'h', some (.int i)] (cj 0 i) = .ok ((w.nV ts i).map .int) := by
  have := iU (p := .nm 0) (fe := f2 lq (f2 ixD (ah 3) (ah 0)) (mj CR CP "apart" (dj CR CP CN n) (cY CR CP CN n) (ah 1) (a9 (f2 ixD (ah 2) (ah 0)) (a9 (f2 ixD (ah 2) (ah 4)) aN)))) (ρ0 := [none, some 'H', some 'j', some 'h', some (.int i)]) (fun d => match d with | .int j => .int (tAt ts j.toNat + w.ap j.toNat i) | d => d) (cj 0 i) (fun d hd => by
   obtain ⟨j, hj⟩ := List.getElem?_of_mem hd
   obtain ⟨hj, rfl⟩ := fN hj
   refine ⟨[some (.int j), some 'H', some 'j', some 'h', some (.int i)], by simp, ?_⟩
   have em := meth_ok CR CP CN n hne hw (j := j) (i := i) (by omega) hi (ah 1) (f2 ixD (ah 2) (ah 0)) (f2 ixD (ah 2) (ah 4)) [some (.int j), some 'H', some 'j', some 'h', some (.int i)] (by simp) (by simp [getS (w := w) (i := j) (by omega), -List.map_map]) (by simp [getS (w := w) hi, -List.map_map])
   have et := getT (ts := ts) (i := j) (by omega)
   rw [e_2, em]
   simp [et])
  rw [this, Wo.nV]
  congr 1
  unfold cj
  rw [List.map_map, List.map_map]
  exact List.map_congr_left fun j _ => by simp
 simp [fH, nW, k1, k2, e, hl, -List.map_map]
end
theorem Bl {p : Pat} {g : ak -> M Flo} (P : Nat -> ak -> Prop) (R : Dat -> Prop) : ∀ (ds : List Dat) (k : Nat) (ρ : ak), P k ρ ->
  (∀ (i : Nat) (d : Dat) (ρ : ak), ds[i]? = some d -> P (k + i) ρ -> ∃ ρ1, gw p d ρ = .ok ρ1 /\ ((∃ ρ2, g ρ1 = .ok (.nx ρ2) /\ P (k + i + 1) ρ2) \/ (∃ r, g ρ1 = .ok (.rt r) /\ R r))) ->
  (∃ ρ', kf p g ds ρ = .ok (.nx ρ') /\ P (k + ds.length) ρ') \/ (∃ r, kf p g ds ρ = .ok (.rt r) /\ R r)
 | [], k, ρ, h, _ => .inl ⟨ρ, rfl, h⟩
 | d :: ds, k, ρ, h, st => by
  obtain ⟨ρ1, e1, h1⟩ := st 0 d ρ rfl h
  rcases h1 with ⟨ρ2, e2, h2⟩ | ⟨r, e2, hr⟩
  ·have ih := Bl P R ds (k + 1) ρ2 h2 fun i d' ρ he hp => by
    have := st (i + 1) d' ρ (by simpa using he) (by rw [show k + (i + 1) = k + 1 + i by omega]; exact hp)
    rw [show k + (i + 1) = k + 1 + i by omega] at this
    exact this
   have e : kf p g (d :: ds) ρ = kf p g ds ρ2 := by rw [kf, e1]; simp only [ax, e2]
   rcases ih with ⟨ρ', e3, h3⟩ | ⟨r, e3, hr⟩
   ·exact .inl ⟨ρ', by rw [e]; exact e3, by rw [show k + (d :: ds).length = k + 1 + ds.length by simp; omega]; exact h3⟩
   ·exact .inr ⟨r, by rw [e]; exact e3, hr⟩
  ·exact .inr ⟨r, by rw [kf, e1]; simp only [ax, e2], hr⟩
theorem Em {p : Pat} {ft : ak -> M Bool} {fe : ak -> M Dat} {ρ0 : ak} (b : Nat -> Bool) (f : Nat -> Dat) (m : Nat) (h : ∀ j, j < m -> ∃ ρ, gw p (.int j) ρ0 = .ok ρ /\ ft ρ = .ok (b j) /\ (b j = true -> fe ρ = .ok (f j))) : ck p ft fe ρ0 (cj 0 m) = .ok (((List.range m).filter b).map f) := by
 have key : ∀ ks : List Nat, (∀ j ∈ ks, j < m) -> ck p ft fe ρ0 (ks.map fun j : Nat => Dat.int (j : Int)) = .ok ((ks.filter b).map f) := by
  intro ks
  induction ks with
  | nil => intro _; rfl
  | cons j ks ih =>
   intro hk
   obtain ⟨ρ, e1, e2, e3⟩ := h j (hk j (by simp))
   have ih := ih fun x hx => hk x (by simp [hx])
   rw [List.map_cons, ck, e1, ax, e2, ax]
   by_cases hb : b j = true
   ·rw [if_pos hb, e3 hb, ax, ih, ax, List.filter_cons_of_pos hb]
    rfl
   ·rw [if_neg hb, ih, List.filter_cons_of_neg hb]
 have := key (List.range m) fun j hj => List.mem_range.mp hj
 rw [<- this]
 unfold cj
 congr 1
 exact List.map_congr_left fun j _ => by simp
section
variable (CR CP CN : Addr)
theorem getC {cs : List eU} {i : Nat} (h : i < cs.length) : ng 'R' (i : Int) = .ok (.tup [.int (qAt cs i).1, .int (qAt cs i).2]) := getQ h
end
noncomputable def Wo.low (w : Wo) (ts : List Int) (i j : Nat) : Int := (List.range j).foldl (fun t l => jI t (tAt ts l + w.ap l i)) (w.f i).first
theorem Dw (a b : Int) : a <= jI a b /\ b <= jI a b /\ (jI a b = a \/ jI a b = b) := by unfold jI; split <;> omega
theorem Wo.rj (w : Wo) (ts : List Int) (i j : Nat) : w.low ts i (j + 1) = jI (w.low ts i j) (tAt ts j + w.ap j i) := by
 unfold Wo.low
 rw [List.range_succ, List.foldl_append]
 rfl
theorem Wo.lK (w : Wo) {ts us : List Int} (i : Nat) : ∀ j, (∀ l, l < j -> tAt ts l = tAt us l) -> w.low ts i j = w.low us i j
 | 0, _ => rfl
 | j + 1, h => by rw [w.rj, w.rj, w.lK i j fun l hl => h l (by omega), h j (by omega)]
noncomputable def Wo.cm (w : Wo) (ts : List Int) (i : Nat) : Prop := jh w.cs (w.low ts i i) (tAt ts i) /\ tAt ts i <= (w.f i).last
noncomputable def Wo.Least (w : Wo) (ts : List Int) : Prop := ts.length = w.qs.length /\ ∀ i, i < w.qs.length -> w.cm ts i
theorem zI {ts us : List Int} {i : Nat} (h : i < ts.length) : tAt (ts ++ us) i = tAt ts i := by
 unfold tAt
 rw [List.getD_eq_getElem?_getD, List.getD_eq_getElem?_getD, List.getElem?_append_left h]
theorem tAt_new (ts us : List Int) (t : Int) : tAt (ts ++ t :: us) ts.length = t := by
 unfold tAt
 rw [List.getD_eq_getElem?_getD, List.getElem?_append_right 'n']
 simp
theorem Wo.cm.app {w : Wo} {ts us : List Int} {i : Nat} (h : w.cm ts i) (hi : i < ts.length) : w.cm (ts ++ us) i := by
 unfold Wo.cm at *
 rw [zI hi, w.lK (us := ts) i i fun l hl => zI (by omega)]
 exact h
section
variable (CR CP CN : Addr)
theorem low_loop (n : Nat) {w : Wo} (hw : w.Good) (ts : List Int) (i : Nat) (hi : i < w.qs.length) (ht : ts.length = i) (z8 : Option Dat) : ∃ y8, kf (.nm 8) (gR CR CP CN n) (cj 0 i) [some w.ruD, some 'e', some (.lst 'g'), some 'f', some 'h', some (.int i), some (flD (w.f i)), some (.int (w.f i).first), z8] = .ok (.nx [some w.ruD, some 'e', some (.lst 'g'), some 'f', some 'h', some (.int i), some (flD (w.f i)), some (.int (w.low ts i i)), y8]) := by
 obtain ⟨ρ', e, y8, rfl⟩ := eG (p := .nm 8) (g := gR CR CP CN n)
  (fun j ρ => ∃ (z8 : Option Dat), ρ = [some w.ruD, some 'e', some (.lst 'g'), some 'f', some 'h', some (.int i), some (flD (w.f i)), some (.int (w.low ts i j)), z8]) (cj 0 i) 0 _ ⟨z8, rfl⟩ (by
  rintro j d ρ hd ⟨z8, rfl⟩
  obtain ⟨hj, rfl⟩ := fN hd
  have ea := Bz CR CP CN n hw (j := j) (i := i) (by omega) hi
  have etj := getT (ts := ts) (i := j) (by omega)
  have eqj := getQ (qs := w.qs) (i := j) (by omega)
  have eqi := getQ (qs := w.qs) (i := i) (by omega)
  refine ⟨_, by simp <;> rfl, [some w.ruD, some 'e', some (.lst 'g'), some 'f', some 'h', some (.int i), some (flD (w.f i)), some (.int (w.low ts i (0 + j + 1))), some (.int j)], .inl ?_, _, rfl⟩
  rw [w.rj, Nat.zero_add]
  simp [gR, ea, etj, eqj, eqi])
 rw [Nat.zero_add, eD] at e
 exact ⟨y8, e⟩
theorem least_ok (n : Nat) (hn : 64 <= n) {w : Wo} (hw : w.Good) : (∃ ts, w.Least ts /\ dW CR CP CN n [w.ruD, .lst (w.fl.map flD), .lst 'g', .lst (w.qs.map stD)] = .ok 'h') \/ (∃ (i : Nat) (ts : List Int) (t : Int), i < w.qs.length /\ ts.length = i /\ (∀ j, j < i -> w.cm ts j) /\ jh w.cs (w.low ts i i) t /\ (w.f i).last < t /\ dW CR CP CN n [w.ruD, .lst (w.fl.map flD), .lst 'g', .lst (w.qs.map stD)] = .ok (.tup [.int (qAt w.qs i).1, .int t])) := by
 have hq := hw.qsl
 have hf := hw.fll
 have hc := hw.csl
 have k1 : -4611686018427387904 <= (w.qs.length : Int) := by omega
 have k2 : (w.qs.length : Int) < 4611686018427387904 := by omega
 rcases Bl (p := .nm 5) (g := gQ CR CP CN n)
  (fun i ρ => ∃ (ts : List Int) (z5 z6 z7 z8 : Option Dat), ρ = [some w.ruD, some 'e', some (.lst 'g'), some 'f', some 'h', z5, z6, z7, z8] /\ ts.length = i /\ ∀ j, j < i -> w.cm ts j) (fun r => ∃ (i : Nat) (ts : List Int) (t : Int), i < w.qs.length /\ ts.length = i /\ (∀ j, j < i -> w.cm ts j) /\ jh w.cs (w.low ts i i) t /\ (w.f i).last < t /\ r = .tup [.int (qAt w.qs i).1, .int t]) (cj 0 w.qs.length) 0 [some w.ruD, some 'e', some (.lst 'g'), some 'f', some (.lst []), none, none, none, none] ⟨[], none, none, none, none, rfl, rfl, by simp⟩ (by
  rintro i d ρ hd ⟨ts, z5, z6, z7, z8, rfl, ht, hle⟩
  obtain ⟨hi, rfl⟩ := fN hd
  rw [Nat.zero_add] at ht hle
  refine ⟨[some w.ruD, some 'e', some (.lst 'g'), some 'f', some 'h', some (.int i), z6, z7, z8], by simp, ?_⟩
  have eq := getC hi
  obtain ⟨ef, gf⟩ := hw.fAt hi
  obtain ⟨y8, el⟩ := low_loop CR CP CN n hw ts i hi ht z8
  obtain ⟨u, hu, eo⟩ := from_ok CR CP CN n w.cs (w.low ts i i) (by omega) hn
  have j1 : -4611686018427387904 <= (i : Int) := by omega
  have j2 : (i : Int) < 4611686018427387904 := by omega
  have hl : ts.length < 16777216 := by omega
  by_cases hlt : (w.f i).last < u
  ·refine .inr ⟨.tup [.int (qAt w.qs i).1, .int u], ?_, i, ts, u, hi, ht, hle, hu, hlt, rfl⟩
   simp only [flD] at ef el
   simp [gQ, jA, eq, ef, j1, j2, el, eo, hlt]
  ·refine .inl ⟨[some w.ruD, some 'e', some (.lst 'g'), some 'f', some (.lst ((ts ++ [u]).map .int)), some (.int i), some (flD (w.f i)), some (.int u), y8], ?_, ts ++ [u], _, _, _, _, rfl, by simp; omega, fun j hj => ?_⟩
   ·simp only [flD] at ef el ⊢
    simp [gQ, jA, eq, ef, j1, j2, el, eo, hlt, hl]
   ·by_cases hji : j = i
    ·subst hji
     unfold Wo.cm
     rw [w.lK (us := ts) j j fun l hl => zI (by omega)]
     have := tAt_new ts [] u
     rw [ht] at this
     rw [this]
     exact ⟨hu, by omega⟩
    ·exact (hle j (by omega)).app (by omega)) with ⟨ρ', e, ts, z5, z6, z7, z8, rfl, h1, h2⟩ | ⟨r, e, i, ts, t, h1, h2, h3, h4, h5, rfl⟩
 ·rw [Nat.zero_add, eD] at h1 h2
  exact .inl ⟨ts, ⟨h1, h2⟩, by simp [dW, j9, k1, k2, e]⟩
 ·exact .inr ⟨i, ts, t, h1, h2, h3, h4, h5, by simp [dW, j9, k1, k2, e]⟩
end
noncomputable def uJ (js : List eU) : Prop := js.Pairwise (fun p q => p.2 < q.1) /\ ∀ p ∈ js, p.1 < p.2
theorem Bg (n : Nat) : ixN (n + 1) (-1) = some n := by unfold ixN; simp <;> omega
@[simp] theorem getI_last (ds : List Dat) (d : Dat) : ng (ds ++ [d]) (-1) = .ok d := by
 unfold ng atI
 rw [List.length_append, List.length_singleton, Bg]
 simp
noncomputable def la (js done : List eU) : Prop := uJ js /\ (∀ t, Cov js t ↔ Cov done t) /\ js.length <= done.length /\ ∀ j ∈ js, ∃ d ∈ done, d.1 = j.1
theorem la.new {js done : List eU} {p : eU} (h : la js done) (hp : p.1 < p.2) (hlt : ∀ x ∈ js, x.2 < p.1) : la (js ++ [p]) (done ++ [p]) := by
 obtain ⟨⟨h1, h2⟩, h3, h4, h5⟩ := h
 refine ⟨⟨?_, ?_⟩, ?_, by simp; exact h4, ?_⟩
 ·rw [List.pairwise_append]
  exact ⟨h1, by simp, fun a ha b hb => by simp at hb; subst hb; exact hlt a ha⟩
 ·intro x hx
  rcases List.mem_append.mp hx with e | e
  ·exact h2 x e
  ·simp at e; subst e; exact hp
 ·intro t; rw [k9, k9, h3]
 ·intro j hj
  rcases List.mem_append.mp hj with e | e
  ·obtain ⟨d, m, z⟩ := h5 j e; exact ⟨d, by simp [m], z⟩
  ·simp at e; subst e; exact ⟨j, by simp, rfl⟩
theorem la.more {js0 done : List eU} {q p : eU} (h : la (js0 ++ [q]) done) (hp : p.1 < p.2) (h1 : q.1 <= p.1) (h2 : p.1 <= q.2) : la (js0 ++ [(q.1, jI p.2 q.2)]) (done ++ [p]) := by
 obtain ⟨⟨a1, a2⟩, a3, a4, a5⟩ := h
 have hq : q.1 < q.2 := a2 q (by simp)
 have hm1 : p.2 <= jI p.2 q.2 := by unfold jI; split <;> omega
 have hm2 : q.2 <= jI p.2 q.2 := by unfold jI; split <;> omega
 have hm3 : jI p.2 q.2 = p.2 \/ jI p.2 q.2 = q.2 := by unfold jI; split <;> omega
 rw [List.pairwise_append] at a1
 refine ⟨⟨?_, ?_⟩, ?_, by simp at a4 ⊢; omega, ?_⟩
 ·rw [List.pairwise_append]
  exact ⟨a1.1, by simp, fun a ha b hb => by simp at hb; subst hb; exact a1.2.2 a ha q (by simp)⟩
 ·intro x hx
  rcases List.mem_append.mp hx with e | e
  ·exact a2 x (by simp [e])
  ·simp at e; subst e; show q.1 < jI p.2 q.2; omega
 ·intro t
  have := a3 t
  rw [k9, Au] at this
  rw [k9, k9, <- this, Au, Au]
  show Cov js0 t \/ q.1 <= t /\ t < jI p.2 q.2 ↔ _
  constructor
  ·rintro (z | z)
   ·exact .inl (.inl z)
   ·by_cases e : t < q.2
    ·exact .inl (.inr ⟨z.1, e⟩)
    ·exact .inr (by omega)
  ·rintro ((z | z) | z)
   ·exact .inl z
   ·exact .inr (by omega)
   ·exact .inr (by omega)
 ·intro j hj
  rcases List.mem_append.mp hj with e | e
  ·obtain ⟨d, m, z⟩ := a5 j (by simp [e]); exact ⟨d, by simp [m], z⟩
  ·simp at e; subst e
   obtain ⟨d, m, z⟩ := a5 q (by simp)
   exact ⟨d, by simp [m], z⟩
theorem yJ {g : ak -> M Flo} {c : Option Dat} {t : Int} (r : eU -> Dat) (hg : ∀ p : eU, g [c, some (.int t), some (.int p.1), some (.int p.2)] = if p.1 <= t /\ t < p.2 then .ok (.rt (r p)) else .ok (.nx [c, some (.int t), some (.int p.1), some (.int p.2)])) :
  ∀ (js : List eU) (z1 z2 : Option Dat), (∃ p ∈ js, (p.1 <= t /\ t < p.2) /\ kf (.tp [2, 3]) g (js.map stD) [c, some (.int t), z1, z2] = .ok (.rt (r p))) \/ (¬ Cov js t /\ ∃ z1' z2', kf (.tp [2, 3]) g (js.map stD) [c, some (.int t), z1, z2] = .ok (.nx [c, some (.int t), z1', z2']))
 | [], z1, z2 => .inr ⟨Av t, z1, z2, rfl⟩
 | p :: js, z1, z2 => by
  have hb : gw (.tp [2, 3]) (stD p) [c, some (.int t), z1, z2] = .ok [c, some (.int t), some (.int p.1), some (.int p.2)] := by simp [stD]
  by_cases h : p.1 <= t /\ t < p.2
  ·refine .inl ⟨p, by simp, h, ?_⟩
   rw [List.map_cons, kf, hb, ax, hg, if_pos h]
   rfl
  ·have e : kf (.tp [2, 3]) g ((p :: js).map stD) [c, some (.int t), z1, z2] = kf (.tp [2, 3]) g (js.map stD) [c, some (.int t), some (.int p.1), some (.int p.2)] := by
    rw [List.map_cons, kf, hb, ax, hg, if_neg h]
    rfl
   rcases yJ r hg js (some (.int p.1)) (some (.int p.2)) with ⟨q, hq, h2, h3⟩ | ⟨h2, h3⟩
   ·exact .inl ⟨q, by simp [hq], h2, by rw [e]; exact h3⟩
   ·refine .inr ⟨fun z => ?_, by rw [e]; exact h3⟩
    rcases wM.mp z with z | z
    ·exact h z
    ·exact h2 z
theorem uJ.tri : ∀ {js : List eU}, uJ js -> ∀ p ∈ js, ∀ q ∈ js, p = q \/ p.2 < q.1 \/ q.2 < p.1
 | [], _, p, hp, _, _ => by simp at hp
 | a :: js, ⟨h1, h2⟩, p, hp, q, hq => by
  rw [List.pairwise_cons] at h1
  rcases List.mem_cons.mp hp with e | e <;> rcases List.mem_cons.mp hq with e2 | e2
  ·exact .inl (e.trans e2.symm)
  ·subst e; exact .inr (.inl (h1.1 q e2))
  ·subst e2; exact .inr (.inr (h1.1 p e))
  ·exact uJ.tri (js := js) ⟨h1.2, fun x hx => h2 x (by simp [hx])⟩ p e q e2
section
variable (CR CP CN : Addr)
theorem DF (n : Nat) (cs : List eU) (hl : cs.length < 64) (hs : ∀ p ∈ cs, p.1 < p.2) : ∃ js : List eU, cw CR CP CN n [.lst 'R'] = .ok (.lst (js.map stD)) /\ uJ js /\ (∀ t, Cov js t ↔ Cov cs t) /\ js.length <= cs.length := by
 obtain ⟨ss, e, hp, hw⟩ := xu cs hl
 have hlen : ss.length = cs.length := hp.length_eq
 have key := eG (p := .tp [2, 3]) (g := bO CR CP CN n)
  (fun k ρ => ∃ js z1 z2, ρ = [some (.lst 'R'), some (.lst (js.map stD)), z1, z2] /\ la js (ss.take k)) (ss.map stD) 0 [some (.lst 'R'), some (.lst []), none, none] ⟨[], none, none, rfl, ⟨by simp [uJ], fun t => Iff.rfl, by simp, by simp⟩⟩ (by
  rintro i d ρ hd ⟨js, z1, z2, rfl, hj⟩
  rw [List.getElem?_map] at hd
  obtain ⟨p, hpi, rfl⟩ := Option.map_eq_some_iff.mp hd
  obtain ⟨hi, hpe⟩ := List.getElem?_eq_some_iff.mp hpi
  have htk : ss.take (0 + i + 1) = ss.take (0 + i) ++ [p] := by rw [Nat.zero_add, List.take_succ, hpi]; rfl
  have hpp : p.1 < p.2 := hs p (hp.mem_iff.mp (List.mem_of_getElem? hpi))
  have hstart : ∀ j ∈ js, j.1 <= p.1 := fun j hjm => by
   obtain ⟨d, dm, de⟩ := hj.2.2.2 j hjm
   rw [Nat.zero_add] at dm
   obtain ⟨m, hm, hme⟩ := List.mem_take_iff_getElem.mp dm
   have := List.pairwise_iff_getElem.mp hw m i (by omega) hi (by omega)
   rw [hme, hpe] at this
   omega
  have hjl : js.length < 64 := by
   have := hj.2.2.1
   rw [List.length_take] at this
   omega
  refine ⟨_, by simp [stD]; rfl, ?_⟩
  rw [htk]
  rcases List.eq_nil_or_concat js with e0 | ⟨js0, q, e0⟩
  ·subst e0
   refine ⟨_, .inl (by simp [bO, cN]; rfl), [p], some (.int p.1), some (.int p.2), by simp [stD], by simpa using hj.new hpp (by simp)⟩
  ·rw [List.concat_eq_append] at e0
   subst e0
   by_cases hc : p.1 <= q.2
   ·refine ⟨_, .inl (by simp [bO, cN, stD, hc, kK, sq, Bg]; rfl), js0 ++ [(q.1, jI p.2 q.2)], some (.int p.1), some (.int p.2), ?_, hj.more hpp (hstart q (by simp)) hc⟩
    simp [stD]
   ·have hlt : ∀ x ∈ js0 ++ [q], x.2 < p.1 := fun x hx => by
     rcases List.mem_append.mp hx with e | e
     ·have h1 := (List.pairwise_append.mp hj.1.1).2.2 x e q (by simp)
      have h2 := hj.1.2 q (by simp)
      omega
     ·simp at e; subst e; omega
    simp at hjl
    have hjl2 : js0.length + 1 < 16777216 := by omega
    refine ⟨_, .inl (by simp [bO, cN, stD, hc, hjl2]; rfl), js0 ++ [q] ++ [p], some (.int p.1), some (.int p.2), by simp [stD], hj.new hpp hlt⟩)
 obtain ⟨ρ', e2, js, z1, z2, rfl, hj⟩ := key
 refine ⟨js, ?_, hj.1, fun t => ?_, ?_⟩
 ·simp [cw, g7, e, e2]
 ·rw [hj.2.1 t, Nat.zero_add, List.length_map, List.take_length]
  exact cov_perm hp
 ·have := hj.2.2.1
  rw [List.length_take, List.length_map] at this
  omega
theorem next_ok (n : Nat) (cs : List eU) (t : Int) (hl : cs.length < 64) (hs : ∀ p ∈ cs, p.1 < p.2) : ∃ u, gD CR CP CN n [.lst 'R', .int t] = .ok (.int u) /\ jh cs t u := by
 obtain ⟨js, e, hj, hc, _⟩ := DF CR CP CN n cs hl hs
 rcases yJ (g := kY CR CP CN n) (c := some (.lst 'R')) (t := t) (fun p => .int p.2) (fun p => by by_cases h1 : p.1 <= t <;> by_cases h2 : t < p.2 <;> simp [kY, p8, h1, h2]) js none none with ⟨p, hp, h, e2⟩ | ⟨h, z1, z2, e2⟩
 ·refine ⟨p.2, by simp [gD, kE, e, e2], by omega, fun z => ?_, fun v h1 h2 => (hc v).mp ⟨p, hp, by omega, h2⟩⟩
  obtain ⟨q, hq, h3⟩ := (hc _).mpr z
  rcases hj.tri p hp q hq with e | e | e
  ·subst e; omega
  ·omega
  ·have := hj.2 p hp; omega
 ·exact ⟨t, by simp [gD, kE, e, e2], Int.le_refl _, fun z => h ((hc t).mpr z), fun v h1 h2 => by omega⟩
end
theorem Wo.low_gapL (w : Wo) (ts : List Int) (i : Nat) : (w.nV ts i).foldl jI (w.f i).first = w.low ts i i := by
 unfold Wo.nV Wo.low
 rw [List.foldl_map]
theorem B4 {ts : List Int} {m i : Nat} (h : i < m) : tAt (ts.take m) i = tAt ts i := by
 unfold tAt
 rw [List.getD_eq_getElem?_getD, List.getD_eq_getElem?_getD, List.getElem?_take_of_lt h]
theorem xp {ts : List Int} {i : Nat} (h : i < ts.length) : ts.take (i + 1) = ts.take i ++ [tAt ts i] := by
 rw [List.take_add_one, List.getElem?_eq_getElem h]
 simp [tAt, h]
theorem Bm {p : Pat} {g : ak -> M Flo} (x : Err) (P : Nat -> ak -> Prop) : ∀ (ds : List Dat) (k m : Nat) (ρ : ak), P k ρ -> m < ds.length ->
  (∀ (i : Nat) (d : Dat) (ρ : ak), i < m -> ds[i]? = some d -> P (k + i) ρ -> ∃ ρ1, gw p d ρ = .ok ρ1 /\ ∃ ρ2, g ρ1 = .ok (.nx ρ2) /\ P (k + i + 1) ρ2) ->
  (∀ (d : Dat) (ρ : ak), ds[m]? = some d -> P (k + m) ρ -> ∃ ρ1, gw p d ρ = .ok ρ1 /\ g ρ1 = .error x) -> kf p g ds ρ = .error x
 | [], _, _, _, _, h, _, _ => by simp at h
 | d :: ds, k, 0, ρ, h, _, _, er => by
  obtain ⟨ρ1, e1, e2⟩ := er d ρ rfl h
  rw [kf, e1, ax, e2]
  rfl
 | d :: ds, k, m + 1, ρ, h, hm, st, er => by
  obtain ⟨ρ1, e1, ρ2, e2, h2⟩ := st 0 d ρ (by omega) rfl h
  have ih := Bm (p := p) (g := g) x P ds (k + 1) m ρ2 h2 (by simpa using hm) (fun i d' ρ hi he hp => by
   have := st (i + 1) d' ρ (by omega) (by simpa using he) (by rw [show k + (i + 1) = k + 1 + i by omega]; exact hp)
   rw [show k + (i + 1) + 1 = k + 1 + i + 1 by omega] at this
   exact this) (fun d' ρ he hp => er d' ρ (by simpa using he) (by rw [show k + (m + 1) = k + 1 + m by omega]; exact hp))
  rw [kf, e1, ax, e2]
  exact ih
section
variable (CR CP CN : Addr)
theorem pA (n : Nat) (hne : CR ≠ CP) {w : Wo} (hw : w.Good) (tk : List Int) {i : Nat} (hi : i < w.qs.length) (htk : tk.length = i) {u : Int} (hu : jh w.cs (w.low tk i i) u) (z8 z9 : Option Dat) :
  fP CR CP CN n [some 'H', some 'e', some (.lst 'g'), some 'f', some 'j', some (.lst (tk.map .int)), some (.int i), some (.tup [.int (qAt w.qs i).1, .int (qAt w.qs i).2]), z8, z9] =
   if (w.f i).last < u then .error (.exc CN [("flight", .int (qAt w.qs i).1), ("time", .int u)]) else .ok (.nx [some 'H', some 'e', some (.lst 'g'), some 'f', some 'j', some (.lst ((tk ++ [u]).map .int)), some (.int i), some (.tup [.int (qAt w.qs i).1, .int (qAt w.qs i).2]), some (flD (w.f i)), some (.int u)]) := by
 have hq := hw.qsl
 have hf := hw.fll
 have hc := hw.csl
 obtain ⟨ef, gf⟩ := hw.fAt hi
 have eg := gap_ok CR CP CN n hne hw tk hi (by omega)
 have hgl : (w.nV tk i).length = i := by simp [Wo.nV]
 have eM : maxD [.lst (.int (w.f i).first :: (w.nV tk i).map .int)] = .ok (.int (w.low tk i i)) := by
  show (dG (((w.f i).first :: w.nV tk i).map .int)).bind maxL = _
  rw [jY, ax, maxL, w.low_gapL]
 obtain ⟨u', eu, hu'⟩ := next_ok CR CP CN n w.cs (w.low tk i i) (by omega) hw.cs
 have hut := hu'.uniq hu
 subst hut
 have c1 : 1 + i <= 16777216 := by omega
 have c2 : i < 16777216 := by omega
 by_cases hlt : (w.f i).last < u'
 ·rw [if_pos hlt]
  simp only [flD] at ef ⊢
  simp [fP, mF, ef, eg, hgl, lq, c1, eM, eu, hlt, htk, c2, -E7, -List.map_map]
 ·rw [if_neg hlt]
  simp only [flD] at ef ⊢
  simp [fP, mF, ef, eg, hgl, lq, c1, eM, eu, hlt, htk, c2, -E7, -List.map_map]
theorem Al {qs : List eU} {i : Nat} {d : Dat} (hd : (jv 0 (qs.map stD))[i]? = some d) : i < qs.length /\ d = .tup [.int i, .tup [.int (qAt qs i).1, .int (qAt qs i).2]] := by
 obtain ⟨e, h1, rfl⟩ := k4 _ _ _ _ hd
 have hi : i < qs.length := by simpa using (List.getElem?_eq_some_iff.mp h1).1
 refine ⟨hi, ?_⟩
 rw [List.getElem?_map, List.getElem?_eq_getElem hi] at h1
 simp at h1
 rw [<- h1]; simp [qAt, hi, stD]
theorem times_ok (n : Nat) (hne : CR ≠ CP) {w : Wo} (hw : w.Good) {ts : List Int} (hl : w.Least ts) : gB CR CP CN n [cv CR CP w.rows w.o, .lst (w.fl.map flD), .lst 'g', .lst (w.qs.map stD)] = .ok 'h' := by
 have hq := hw.qsl
 have hf := hw.fll
 have es := uR CR CP CN n hw
 have htl := hl.1
 obtain ⟨ρ', e, z6, z7, z8, z9, rfl⟩ := eG (p := .tp [6, 7]) (g := fP CR CP CN n)
  (fun i ρ => ∃ (z6 z7 z8 z9 : Option Dat), ρ = [some 'H', some 'e', some (.lst 'g'), some 'f', some 'j', some (.lst ((ts.take i).map .int)), z6, z7, z8, z9]) (jv 0 (w.qs.map stD)) 0 [some 'H', some 'e', some (.lst 'g'), some 'f', some 'j', some (.lst []), none, none, none, none] ⟨none, none, none, none, rfl⟩ (by
  rintro i d ρ hd ⟨z6, z7, z8, z9, rfl⟩
  obtain ⟨hi, rfl⟩ := Al hd
  obtain ⟨hn, hlast⟩ := hl.2 i hi
  have e := pA CR CP CN n hne hw (ts.take i) hi (by rw [List.length_take]; omega) (u := tAt ts i) (by rw [w.lK (us := ts) i i fun l hl => B4 hl]; exact hn) z8 z9
  rw [if_neg (by omega)] at e
  rw [Nat.zero_add, xp (by omega)]
  exact ⟨_, by simp <;> rfl, _, .inl e, _, _, _, _, rfl⟩)
 rw [Nat.zero_add, gm, List.length_map, <- htl, List.take_length] at e
 simp [gB, n4, es, e, -List.map_map]
theorem CH (n : Nat) (hne : CR ≠ CP) {w : Wo} (hw : w.Good) {ts : List Int} {i : Nat} {t : Int} (hi : i < w.qs.length) (ht : ts.length = i) (hle : ∀ j, j < i -> w.cm ts j) (hn : jh w.cs (w.low ts i i) t) (hlt : (w.f i).last < t) :
  gB CR CP CN n [cv CR CP w.rows w.o, .lst (w.fl.map flD), .lst 'g', .lst (w.qs.map stD)] = .error (.exc CN [("flight", .int (qAt w.qs i).1), ("time", .int t)]) := by
 have hq := hw.qsl
 have hf := hw.fll
 have es := uR CR CP CN n hw
 have e := Bm (p := .tp [6, 7]) (g := fP CR CP CN n) (.exc CN [("flight", .int (qAt w.qs i).1), ("time", .int t)])
  (fun i ρ => ∃ (z6 z7 z8 z9 : Option Dat), ρ = [some 'H', some 'e', some (.lst 'g'), some 'f', some 'j', some (.lst ((ts.take i).map .int)), z6, z7, z8, z9]) (jv 0 (w.qs.map stD)) 0 i [some 'H', some 'e', some (.lst 'g'), some 'f', some 'j', some (.lst []), none, none, none, none] ⟨none, none, none, none, rfl⟩ (by rw [gm, List.length_map]; exact hi) (by
  rintro j d ρ hj hd ⟨z6, z7, z8, z9, rfl⟩
  obtain ⟨hjq, rfl⟩ := Al hd
  obtain ⟨hn, hlast⟩ := hle j hj
  have e := pA CR CP CN n hne hw (ts.take j) hjq (by rw [List.length_take]; omega) (u := tAt ts j) (by rw [w.lK (us := ts) j j fun l hl => B4 hl]; exact hn) z8 z9
  rw [if_neg (by omega)] at e
  rw [Nat.zero_add, xp (by omega)]
  exact ⟨_, by simp <;> rfl, _, e, _, _, _, _, rfl⟩) (by
  rintro d ρ hd ⟨z6, z7, z8, z9, rfl⟩
  obtain ⟨_, rfl⟩ := Al hd
  have e := pA CR CP CN n hne hw ts hi ht hn z8 z9
  rw [if_pos hlt] at e
  rw [Nat.zero_add, <- ht, List.take_length]
  rw [ht]
  exact ⟨_, by simp <;> rfl, e⟩)
 simp [gB, n4, es, e, -List.map_map]
end
theorem Dm (n : Nat) : ∀ cs : List eU, gM 'R' (n + 1) = true
 | [] => by simp [gM]
 | p :: cs => by simp [gM, okE, stD, Dm n cs]
theorem A3 (n : Nat) : ∀ cs : List Fli, gM (cs.map flD) (n + 1) = true
 | [] => by simp [gM]
 | p :: cs => by simp [gM, okE, flD, A3 n cs]
theorem E3 : ∀ cs : List eU, qT 'R' 'R' = true
 | [] => by simp [qT]
 | p :: cs => by simp [qT, eqD, stD, E3 cs]
theorem E4 : ∀ cs : List Fli, qT (cs.map flD) (cs.map flD) = true
 | [] => by simp [qT]
 | p :: cs => by simp [qT, eqD, flD, E4 cs]
theorem Dp (n : Nat) : ∀ ts : List Int, gM (ts.map .int) (n + 1) = true
 | [] => by simp [gM]
 | p :: cs => by simp [gM, okE, Dp n cs]
theorem ne_three (fl : List Fli) (cs qs : List eU) : neM (.lst [.lst (fl.map flD), .lst 'R', .lst (qs.map stD)]) (.lst [.lst (fl.map flD), .lst 'R', .lst (qs.map stD)]) = .ok (.bl false) := by
 have h : okE (.lst [.lst (fl.map flD), .lst 'R', .lst (qs.map stD)]) 40 = true := by simp [okE, gM, A3, Dm]
 unfold neM
 rw [h]
 simp [eqD, qT, E4, E3]
noncomputable def Fli.cut (f : Fli) (wd : Int) : Fli := { f with last := ke f.last (f.first + wd) }
noncomputable def Fli.up (f : Fli) (b : Int) : Fli := { f with first := f.first + b, last := f.last + b, due := ke 1000000000 (f.due + b) }
noncomputable def stUp (b : Int) (p : eU) : eU := (p.1 + b, p.2 + b)
section
variable (CR CP CN : Addr)
theorem cut_loop (n : Nat) (a0 a2 : Option Dat) (all : Option Dat) (wd : Int) (fl : List Fli) (hf : fl.length <= 60) (z5 z6 z7 z8 z9 z10 z11 : Option Dat) : ∃ y5 y6 y7 y8 y9, kf (.tp [5, 6, 7, 8, 9]) (eO CR CP CN n) (fl.map flD) [a0, all, a2, some (.int wd), some (.lst []), z5, z6, z7, z8, z9, z10, z11] = .ok (.nx [a0, all, a2, some (.int wd), some (.lst ((fl.map fun f => f.cut wd).map flD)), y5, y6, y7, y8, y9, z10, z11]) := by
 obtain ⟨ρ', e, y5, y6, y7, y8, y9, rfl⟩ := eG (p := .tp [5, 6, 7, 8, 9]) (g := eO CR CP CN n)
  (fun i ρ => ∃ (z5 z6 z7 z8 z9 : Option Dat), ρ = [a0, all, a2, some (.int wd), some (.lst (((fl.take i).map fun f => f.cut wd).map flD)), z5, z6, z7, z8, z9, z10, z11]) (fl.map flD) 0 [a0, all, a2, some (.int wd), some (.lst []), z5, z6, z7, z8, z9, z10, z11] ⟨z5, z6, z7, z8, z9, rfl⟩ (by
  rintro i d ρ hd ⟨z5, z6, z7, z8, z9, rfl⟩
  rw [Nat.zero_add]
  have hi : i < fl.length := by simpa using (List.getElem?_eq_some_iff.mp hd).1
  rw [List.getElem?_map, List.getElem?_eq_getElem hi] at hd
  simp at hd
  subst hd
  have hl : (((fl.take i).map fun f => f.cut wd).map flD).length < 16777216 := by simp; omega
  have hn : ((fl.take (i + 1)).map fun f => f.cut wd).map flD = ((fl.take i).map fun f => f.cut wd).map flD ++ [flD (fl[i].cut wd)] := by
   rw [List.take_add_one, List.getElem?_eq_getElem hi, List.map_append, List.map_append]; rfl
  rw [hn]
  generalize ((fl.take i).map fun f => f.cut wd).map flD = acc at hl ⊢
  refine ⟨_, by simp [flD] <;> rfl, [a0, all, a2, some (.int wd), some (.lst (acc ++ [flD (fl[i].cut wd)])), some (.int fl[i].kind), some (.int fl[i].first), some (.int fl[i].last), some (.int fl[i].due), some (.int fl[i].price), z10, z11], .inl ?_, _, _, _, _, _, rfl⟩
  simp [eO, hl, flD, Fli.cut])
 rw [Nat.zero_add, List.length_map, List.take_length] at e
 exact ⟨y5, y6, y7, y8, y9, e⟩
theorem up_loop (n : Nat) (a0 a2 a3 a4 : Option Dat) (all : Option Dat) (b : Int) (fl : List Fli) (hf : fl.length <= 60) (z5 z6 z7 z8 z9 : Option Dat) : ∃ y5 y6 y7 y8 y9, kf (.tp [5, 6, 7, 8, 9]) (eN CR CP CN n) (fl.map flD) [a0, all, a2, a3, a4, z5, z6, z7, z8, z9, some (.int b), some (.lst [])] = .ok (.nx [a0, all, a2, a3, a4, y5, y6, y7, y8, y9, some (.int b), some (.lst ((fl.map fun f => f.up b).map flD))]) := by
 obtain ⟨ρ', e, y5, y6, y7, y8, y9, rfl⟩ := eG (p := .tp [5, 6, 7, 8, 9]) (g := eN CR CP CN n)
  (fun i ρ => ∃ (z5 z6 z7 z8 z9 : Option Dat), ρ = [a0, all, a2, a3, a4, z5, z6, z7, z8, z9, some (.int b), some (.lst (((fl.take i).map fun f => f.up b).map flD))]) (fl.map flD) 0 [a0, all, a2, a3, a4, z5, z6, z7, z8, z9, some (.int b), some (.lst [])] ⟨z5, z6, z7, z8, z9, rfl⟩ (by
  rintro i d ρ hd ⟨z5, z6, z7, z8, z9, rfl⟩
  rw [Nat.zero_add]
  have hi : i < fl.length := by simpa using (List.getElem?_eq_some_iff.mp hd).1
  rw [List.getElem?_map, List.getElem?_eq_getElem hi] at hd
  simp at hd
  subst hd
  have hl : (((fl.take i).map fun f => f.up b).map flD).length < 16777216 := by simp; omega
  have hn : ((fl.take (i + 1)).map fun f => f.up b).map flD = ((fl.take i).map fun f => f.up b).map flD ++ [flD (fl[i].up b)] := by
   rw [List.take_add_one, List.getElem?_eq_getElem hi, List.map_append, List.map_append]; rfl
  rw [hn]
  generalize ((fl.take i).map fun f => f.up b).map flD = acc at hl ⊢
  refine ⟨_, by simp [flD] <;> rfl, [a0, all, a2, a3, a4, some (.int fl[i].kind), some (.int fl[i].first), some (.int fl[i].last), some (.int fl[i].due), some (.int fl[i].price), some (.int b), some (.lst (acc ++ [flD (fl[i].up b)]))], .inl ?_, _, _, _, _, _, rfl⟩
  simp [eN, hl, flD, Fli.up])
 rw [Nat.zero_add, List.length_map, List.take_length] at e
 exact ⟨y5, y6, y7, y8, y9, e⟩
theorem Dx : ∀ (xs : List Int) (x : Int), x <= xs.foldl jI x /\ (∀ y ∈ xs, y <= xs.foldl jI x) /\ (xs.foldl jI x = x \/ xs.foldl jI x ∈ xs)
 | [], x => by simp
 | y :: ys, x => by
  obtain ⟨h1, h2, h3⟩ := Dx ys (jI x y)
  obtain ⟨a, b, c⟩ := Dw x y
  rw [List.foldl_cons]
  refine ⟨Int.le_trans a h1, fun z hz => ?_, ?_⟩
  ·rcases List.mem_cons.mp hz with rfl | hz
   ·exact Int.le_trans b h1
   ·exact h2 z hz
  ·rcases h3 with h | h
   ·rw [h]
    rcases c with c | c
    ·exact .inl c
    ·exact .inr (by rw [c]; simp)
   ·exact .inr (List.mem_cons_of_mem _ h)
theorem Ek : ∀ fl : List Fli, ck (.nm 0) ur (f2 ixD (ah 0) (fC (.int 2))) [none] (fl.map flD) = .ok ((fl.map fun f => f.last).map .int) := fun fl => by
 have := iU (p := .nm 0) (fe := f2 ixD (ah 0) (fC (.int 2))) (ρ0 := [none]) (fun d => match d with | .tup (_ :: _ :: x :: _) => x | _ => .non) (fl.map flD) (fun d hd => by
  obtain ⟨f, _, rfl⟩ := List.mem_map.mp hd
  exact ⟨[some (flD f)], by simp, by simp [flD]⟩)
 rw [this]
 congr 1
 rw [List.map_map, List.map_map]
 exact List.map_congr_left fun f _ => rfl
theorem Ej (b : Int) : ∀ cs : List eU, ck (.tp [0, 1]) (fB (f2 leD (f2 lq (ah 1) (ah 2)) '0')) (fL fZ (a9 (f2 lq (ah 0) (ah 2)) (a9 (f2 lq (ah 1) (ah 2)) aN))) [none, none, some (.int b)] 'R' = .ok (((cs.filter fun p => decide (p.2 + b <= 1000000000)).map (stUp b)).map stD)
 | [] => rfl
 | p :: cs => by
  have ih := Ej b cs
  rw [List.map_cons, ck]
  have hb : gw (.tp [0, 1]) (stD p) [none, none, some (.int b)] = .ok [some (.int p.1), some (.int p.2), some (.int b)] := by simp [stD]
  rw [hb, ax]
  by_cases h : p.2 + b <= 1000000000
  ·rw [List.filter_cons_of_pos (by simpa using h)]
   simp [h, ih, stD, stUp]
  ·rw [List.filter_cons_of_neg (by simpa using h)]
   simp [h, ih]
theorem moved_ok (n : Nat) (ns : List Int) {w : Wo} (hw : w.Good) (h0 : ∀ p ∈ w.cs, 0 <= p.1) : ∃ (fl : List Fli) (cs : List eU), ({ w with fl := fl, cs := cs } : Wo).Good /\ bD CR CP CN n [.lst (ns.map .int), .lst (w.fl.map flD), .lst 'g'] = .ok (.tup [.lst (fl.map flD), .lst 'R']) := by
 obtain ⟨x, ex, hx⟩ := i8 CR CP CN n ns 98 (by omega) (by omega)
 obtain ⟨s, es, hs0, hs1⟩ := B6 CR CP CN n ns
 have hf := hw.fll
 have hc := hw.csl
 have henil : eqM 'e' (.lst []) = .ok (.bl (decide (w.fl = []))) := by
  cases h : w.fl with
  | nil => simp [eqM, okE, gM, eqD, qT]
  | cons f fs =>
   have hk : okE (.lst ((f :: fs).map flD)) 40 = true := by simp [okE, gM, flD, A3]
   unfold eqM
   rw [hk]
   simp [okE, gM, eqD, qT]
 by_cases hm : x % 8 = 3
 ·cases hfl : w.fl with
  | nil =>
   refine ⟨w.fl, w.cs, hw, ?_⟩
   rw [hfl] at henil ⊢
   simp at henil
   simp [bD, dY, eK, ex, hm, henil]
  | cons f0 fs =>
   rw [<- hfl]
   obtain ⟨wd, hwd⟩ : ∃ wd, wd = 300 * s := ⟨_, rfl⟩
   obtain ⟨some', hso⟩ : ∃ some' : List Fli, some' = w.fl.map fun f => f.cut wd := ⟨_, rfl⟩
   have hsl : some'.length = w.fl.length := by rw [hso]; simp
   obtain ⟨M, hM⟩ : ∃ M : Int, M = (fs.map fun f => (f.cut wd).last).foldl jI (f0.cut wd).last := ⟨_, rfl⟩
   have hmx := Dx (fs.map fun f => (f.cut wd).last) (f0.cut wd).last
   rw [<- hM] at hmx
   have hle : ∀ f ∈ some', f.last <= M := by
    intro f hf
    rw [hso, hfl] at hf
    obtain ⟨g, hg, rfl⟩ := List.mem_map.mp hf
    rcases List.mem_cons.mp hg with rfl | hg
    ·exact hmx.1
    ·exact hmx.2.1 _ (List.mem_map_of_mem (f := fun f => (f.cut wd).last) hg)
   have good : ∀ f ∈ some', sZ w.k f := by
    intro f hf
    rw [hso] at hf
    obtain ⟨g, hg, rfl⟩ := List.mem_map.mp hf
    have gg := hw.fl g hg
    obtain ⟨m1, m2, m3⟩ := rW g.last (g.first + wd)
    exact ⟨gg.k0, gg.k1, gg.f0, by show g.first <= ke g.last (g.first + wd); have := gg.f1; rcases m3 with m3 | m3 <;> rw [m3] <;> omega, by show ke g.last (g.first + wd) <= _; have := gg.l1; omega, gg.d0, gg.d1, gg.p0, gg.p1⟩
   have hMb : M <= 1000000000 := by
    have : ∃ f ∈ some', f.last = M := by
     rw [hso, hfl]
     rcases hmx.2.2 with h | h
     ·exact ⟨f0.cut wd, by simp, h.symm⟩
     ·obtain ⟨g, hg, e⟩ := List.mem_map.mp h
      exact ⟨g.cut wd, by simp; exact .inr ⟨g, hg, rfl⟩, e⟩
    obtain ⟨f, hf, e⟩ := this
    rw [<- e]
    exact (good f hf).l1
   refine ⟨some'.map fun f => f.up (1000000000 - M), (w.cs.filter fun p => decide (p.2 + (1000000000 - M) <= 1000000000)).map (stUp (1000000000 - M)), ⟨hw.k1, hw.k6, hw.rows, hw.o, fun f hf => ?_, by simp [hsl]; omega, fun p hp => ?_, ?_, fun p hp => by simpa [hsl] using hw.qs p hp, by simp [hsl]; exact hw.qsl⟩, ?_⟩
   ·obtain ⟨g, hg, rfl⟩ := List.mem_map.mp hf
    have gg := good g hg
    have hl := hle g hg
    obtain ⟨m1, m2, m3⟩ := rW 1000000000 (g.due + (1000000000 - M))
    refine ⟨gg.k0, gg.k1, ?_, ?_, ?_, ?_, ?_, gg.p0, gg.p1⟩
    ·show 0 <= g.first + (1000000000 - M); have := gg.f0; omega
    ·show g.first + (1000000000 - M) <= g.last + (1000000000 - M); have := gg.f1; omega
    ·show g.last + (1000000000 - M) <= 1000000000; omega
    ·show 0 <= ke 1000000000 (g.due + (1000000000 - M)); have := gg.d0; rcases m3 with m3 | m3 <;> rw [m3] <;> omega
    ·show ke 1000000000 (g.due + (1000000000 - M)) <= _; exact m1
   ·obtain ⟨q, hq, rfl⟩ := List.mem_map.mp hp
    have := hw.cs q (List.mem_filter.mp hq).1
    show q.1 + _ < q.2 + _
    omega
   ·rw [List.length_map]
    exact Nat.le_trans (List.length_filter_le _ _) hc
   ·obtain ⟨y5, y6, y7, y8, y9, e1⟩ := cut_loop CR CP CN n (some 'y') (some (.lst 'g')) (some 'e') wd w.fl hf none none none none none none none
    rw [<- hso] at e1
    have el := Ek some'
    have eM : maxD [.lst ((some'.map fun f => f.last).map .int)] = .ok (.int M) := by
     rw [hso, hfl, hM]
     show (dG (((f0.cut wd).last :: _).map .int)).bind maxL = _
     rw [List.map_map, jY, ax, maxL]
     rfl
    obtain ⟨x5, x6, x7, x8, x9, e2⟩ := up_loop CR CP CN n (some 'y') (some (.lst 'g')) (some (.int wd)) (some (.lst (some'.map flD))) (some 'e') (1000000000 - M) some' (by omega) y5 y6 y7 y8 y9
    have e3 := Ej (1000000000 - M) w.cs
    have hd : ¬ w.fl = [] := by rw [hfl]; simp
    simp [hd] at henil
    have s1 : w.fl.length <= 16777216 := by omega
    have s2 : w.cs.length <= 16777216 := by omega
    have s3 : some'.length <= 16777216 := by omega
    rw [hwd] at e1 e2
    simp [bD, dY, eK, ex, hm, henil, es, e1, el, eM, e2, e3, s1, s2, s3, -E7, -List.map_map]
 ·exact ⟨w.fl, w.cs, hw, by simp [bD, dY, eK, ex, hm]⟩
end
theorem Wo.low_in (w : Wo) (ts : List Int) (i : Nat) : ∀ j, w.low ts i j = (w.f i).first \/ ∃ l, l < j /\ w.low ts i j = tAt ts l + w.ap l i
 | 0 => .inl rfl
 | j + 1 => by
  rw [w.rj]
  obtain ⟨_, _, h⟩ := Dw (w.low ts i j) (tAt ts j + w.ap j i)
  rcases h with h | h
  ·rw [h]
   rcases w.low_in ts i j with z | ⟨l, h1, h2⟩
   ·exact .inl z
   ·exact .inr ⟨l, by omega, h2⟩
  ·exact .inr ⟨j, by omega, h⟩
theorem jh.stop {cs : List eU} {t u : Int} (h : jh cs t u) (hne : t ≠ u) : ∃ p ∈ cs, p.2 = u := by
 obtain ⟨p, hp, h1, h2⟩ := h.2.2 (u - 1) (by have := h.1; omega) (by omega)
 refine ⟨p, hp, ?_⟩
 have : ¬ (p.1 <= u /\ u < p.2) := fun z => h.2.1 ⟨p, hp, z⟩
 omega
theorem vY {xs : List Int} {k : Int} (h : oH xs k = none) : k ∉ xs := fun hm => by
 have := List.findIdx?_eq_none_iff.mp h k hm
 simp at this
theorem Bi {xs : List Int} {k : Int} {j : Nat} (h : oH xs k = some j) : j < xs.length /\ tAt xs j = k /\ ∀ m, m < j -> tAt xs m ≠ k := by
 obtain ⟨h1, h2, h3⟩ := List.findIdx?_eq_some_iff_getElem.mp h
 refine ⟨h1, by simpa [tAt, h1] using h2, fun m hm e => ?_⟩
 have := h3 m hm
 simp [tAt, show m < xs.length by omega] at e this
 exact this e
theorem idx_of {xs : List Int} {k : Int} {j : Nat} (h1 : j < xs.length) (h2 : tAt xs j = k) (h3 : ∀ m, m < j -> tAt xs m ≠ k) : oH xs k = some j := by
 refine List.findIdx?_eq_some_iff_getElem.mpr ⟨h1, by simpa [tAt, h1] using h2, fun m hm => ?_⟩
 have := h3 m hm
 simpa [tAt, show m < xs.length by omega] using this
theorem Bj (w : Wo) (ts : List Int) (i : Nat) : (w.nV ts i).length = i := by simp [Wo.nV]
theorem DY (w : Wo) (ts : List Int) {i l : Nat} (h : l < i) : tAt (w.nV ts i) l = tAt ts l + w.ap l i := by
 unfold tAt
 rw [List.getD_eq_getElem?_getD]
 simp [Wo.nV, h, tAt]
noncomputable def cO (w : Wo) (ts : List Int) (i : Nat) : Dat := if tAt ts i = (w.f i).first then .tup [.str "first"] else match oH (w.nV ts i) (tAt ts i) with
 | some j => .tup [.str "gap", .int j]
 | none => match oH (w.cs.map (·.2)) (tAt ts i) with
  | some j => .tup [.str "closed", .int j]
  | none => .non
theorem rD {w : Wo} {ts : List Int} {i : Nat} (hl : w.cm ts i) (h1 : tAt ts i ≠ (w.f i).first) (h2 : oH (w.nV ts i) (tAt ts i) = none) : ∃ j, oH (w.cs.map (·.2)) (tAt ts i) = some j := by
 cases h : oH (w.cs.map (·.2)) (tAt ts i) with
 | some j => exact ⟨j, rfl⟩
 | none =>
  exfalso
  by_cases e : w.low ts i i = tAt ts i
  ·rcases w.low_in ts i i with z | ⟨l, h3, h4⟩
   ·exact h1 (by omega)
   ·refine vY h2 ?_
    have hg := DY w ts h3
    have hlen := Bj w ts i
    have : tAt (w.nV ts i) l ∈ w.nV ts i := by
     unfold tAt
     rw [List.getD_eq_getElem?_getD, List.getElem?_eq_getElem (by omega)]
     exact List.getElem_mem _
    rw [hg] at this
    rw [<- e, h4]
    exact this
  ·obtain ⟨p, hp, hp2⟩ := hl.1.stop e
   exact vY h (by rw [<- hp2]; exact List.mem_map_of_mem hp)
theorem v9 {w : Wo} {ts : List Int} {i : Nat} (hl : w.cm ts i) : cO w ts i = .tup [.str "first"] \/ (∃ j : Nat, cO w ts i = .tup [.str "gap", .int j]) \/ ∃ j : Nat, cO w ts i = .tup [.str "closed", .int j] := by
 unfold cO
 by_cases h : tAt ts i = (w.f i).first
 ·rw [if_pos h]; exact .inl rfl
 ·rw [if_neg h]
  cases h2 : oH (w.nV ts i) (tAt ts i) with
  | some j => exact .inr (.inl ⟨j, rfl⟩)
  | none =>
   obtain ⟨j, e⟩ := rD hl h h2
   rw [e]
   exact .inr (.inr ⟨j, rfl⟩)
theorem in_ints (xs : List Int) (k : Int) : inM (.int k) (.lst (xs.map .int)) = .ok (.bl (oH xs k).isSome) := by
 have h : (okE (.int k) 40 && gM (xs.map .int) 40) = true := by simp [okE, Dp]
 show (if (okE (.int k) 40 && gM (xs.map .int) 40) = true then _ else _) = _
 rw [if_pos h]
 congr 2
 unfold oH
 rw [List.findIdx?_isSome, List.any_map]
 congr 1
section
variable (CR CP CN : Addr)
theorem push_ok (n : Nat) {w : Wo} (hw : w.Good) {ts : List Int} {i : Nat} (hi : i < w.qs.length) (hl : w.cm ts i) : iK CR CP CN n [flD (w.f i), .lst 'g', .lst ((w.nV ts i).map .int), .int (tAt ts i)] = .ok (cO w ts i) := by
 have hc := hw.csl
 have ei := in_ints (w.nV ts i) (tAt ts i)
 unfold cO
 by_cases h : tAt ts i = (w.f i).first
 ·rw [if_pos h]
  simp [iK, ma, kQ, flD, h]
 ·rw [if_neg h]
  cases h2 : oH (w.nV ts i) (tAt ts i) with
  | some j =>
   rw [h2] at ei
   simp [iK, ma, kQ, oo, flD, h, ei, isL, jY, h2]
  | none =>
   rw [h2] at ei
   obtain ⟨j, e⟩ := rD hl h h2
   have ec : ck (.tp [0, 1]) ur (ah 1) [none, none] 'g' = .ok ((w.cs.map (·.2)).map .int) := by
    have := iU (p := .tp [0, 1]) (fe := ah 1) (ρ0 := [none, none]) (fun d => match d with | .tup [_, x] => x | _ => .non) 'g' (fun d hd => by
     obtain ⟨p, _, rfl⟩ := List.mem_map.mp hd
     exact ⟨[some (.int p.1), some (.int p.2)], by simp [stD], by simp [stD]⟩)
    rw [this, List.map_map, List.map_map]
    rfl
   have s2 : w.cs.length <= 16777216 := by omega
   rw [e]
   simp [iK, ma, kQ, oo, flD, h, ei, isL, ec, jY, e, s2, -List.map_map]
theorem yI {w : Wo} {ts : List Int} {i : Nat} (hl : w.cm ts i) : kK (cO w ts i) = true := by
 rcases v9 hl with h | ⟨j, h⟩ | ⟨j, h⟩ <;> rw [h] <;> simp [kK, sq]
theorem CY (n : Nat) (hne : CR ≠ CP) {w : Wo} (hw : w.Good) {ts : List Int} (hl : w.Least ts) : bZ CR CP CN n [cv CR CP w.rows w.o, .lst (w.fl.map flD), .lst 'g', .lst (w.qs.map stD)] = .ok (.lst ((List.range w.qs.length).map (cO w ts))) := by
 have hq := hw.qsl
 have hf := hw.fll
 have es := uR CR CP CN n hw
 have et := times_ok CR CP CN n hne hw hl
 have htl := hl.1
 obtain ⟨ρ', e, z7, z8, z9, rfl⟩ := eG (p := .tp [7, 8]) (g := kW CR CP CN n)
  (fun i ρ => ∃ (z7 z8 z9 : Option Dat), ρ = [some 'H', some 'e', some (.lst 'g'), some 'f', some 'h', some 'j', some (.lst ((List.range i).map (cO w ts))), z7, z8, z9]) (jv 0 (ts.map .int)) 0 [some 'H', some 'e', some (.lst 'g'), some 'f', some 'h', some 'j', some (.lst []), none, none, none] ⟨none, none, none, rfl⟩ (by
  rintro i d ρ hd ⟨z7, z8, z9, rfl⟩
  obtain ⟨e, h1, rfl⟩ := k4 _ _ _ _ hd
  have hi : i < ts.length := by simpa using (List.getElem?_eq_some_iff.mp h1).1
  have he : e = .int (tAt ts i) := by
   rw [List.getElem?_map, List.getElem?_eq_getElem hi] at h1
   simp at h1
   rw [<- h1]; simp [tAt, hi]
  subst he
  rw [Nat.zero_add]
  have hiq : i < w.qs.length := by omega
  obtain ⟨ef, gf⟩ := hw.fAt hiq
  have eq := getC hiq
  have eg := gap_ok CR CP CN n hne hw ts hiq (by omega)
  have ep := push_ok CR CP CN n hw hiq (hl.2 i hiq)
  have hfl := yI (hl.2 i hiq)
  have hsz : ((List.range i).map (cO w ts)).length < 16777216 := by simp; omega
  rw [List.range_succ, List.map_append]
  generalize (List.range i).map (cO w ts) = acc at hsz ⊢
  refine ⟨[some 'H', some 'e', some (.lst 'g'), some 'f', some 'h', some 'j', some (.lst acc), some (.int i), some (.int (tAt ts i)), z9], by simp, [some 'H', some 'e', some (.lst 'g'), some 'f', some 'h', some 'j', some (.lst (acc ++ [cO w ts i])), some (.int i), some (.int (tAt ts i)), some (.lst ((w.nV ts i).map .int))], .inl ?_, _, _, _, rfl⟩
  simp [kW, eg, eq, ef, ep, hsz, hfl, -List.map_map])
 rw [Nat.zero_add, gm, List.length_map, htl] at e
 simp [bZ, kD, et, es, e, -List.map_map]
theorem BP (n : Nat) (hne : CR ≠ CP) {w : Wo} (hw : w.Good) {ts : List Int} {i : Nat} {t : Int} (hi : i < w.qs.length) (ht : ts.length = i) (hle : ∀ j, j < i -> w.cm ts j) (hn : jh w.cs (w.low ts i i) t) (hlt : (w.f i).last < t) :
  bZ CR CP CN n [cv CR CP w.rows w.o, .lst (w.fl.map flD), .lst 'g', .lst (w.qs.map stD)] = .error (.exc CN [("flight", .int (qAt w.qs i).1), ("time", .int t)]) := by
 have et := CH CR CP CN n hne hw hi ht hle hn hlt
 simp [bZ, kD, et]
end
theorem Cb (xs : List Int) (k : Int) : ((List.range xs.length).filter fun j => decide (tAt xs j = k)).head? = oH xs k := by
 rw [List.head?_filter]
 cases h : oH xs k with
 | none =>
  refine List.find?_eq_none.mpr fun j hj => ?_
  have hj := List.mem_range.mp hj
  have := vY h
  simp
  intro e
  apply this
  rw [<- e]
  simp [tAt, hj]
 | some j =>
  obtain ⟨h1, h2, h3⟩ := Bi h
  refine List.find?_range_eq_some.mpr ⟨by simpa using h2, List.mem_range.mpr h1, fun m hm => ?_⟩
  have := h3 m hm
  simpa using this
section
variable (CR CP CN : Addr)
theorem due_loop (n : Nat) {w : Wo} (hw : w.Good) {ts : List Int} (hts : ts.length = w.qs.length) {i : Nat} (hi : i < w.qs.length) (a1 a4 a6 a10 z11 : Option Dat) (z : Dat) :
  ∃ y11, kf (.nm 11) (hZ CR CP CN n) (pX ((i : Int) - 1) i) [some w.ruD, a1, some 'h', some 'e', a4, some 'f', a6, some (.int i), some (.int (tAt ts i)), some z, a10, z11] = .ok (.nx [some w.ruD, a1, some 'h', some 'e', a4, some 'f', a6, some (.int i), some (.int (tAt ts i)), some (match oH (w.nV ts i) (tAt ts i) with | some j => .tup [.str "gap", .int j] | none => z), a10, y11]) := by
 have hdl : (pX ((i : Int) - 1) i).length = i := by simp [pX]
 have hgl := Bj w ts i
 obtain ⟨ρ', e, y, y11, rfl, hy⟩ := eG (p := .nm 11) (g := hZ CR CP CN n)
  (fun k ρ => ∃ (y : Dat) (z11 : Option Dat), ρ = [some w.ruD, a1, some 'h', some 'e', a4, some 'f', a6, some (.int i), some (.int (tAt ts i)), some y, a10, z11] /\ ((y = z /\ ∀ l, l < i -> i <= l + k -> tAt (w.nV ts i) l ≠ tAt ts i) \/ ∃ j, j < i /\ i <= j + k /\ y = .tup [.str "gap", .int (j : Nat)] /\ tAt (w.nV ts i) j = tAt ts i /\ ∀ l, l < j -> i <= l + k -> tAt (w.nV ts i) l ≠ tAt ts i)) (pX ((i : Int) - 1) i) 0 [some w.ruD, a1, some 'h', some 'e', a4, some 'f', a6, some (.int i), some (.int (tAt ts i)), some z, a10, z11] ⟨z, z11, rfl, .inl ⟨rfl, fun l h1 h2 => by omega⟩⟩ (by
  rintro k d ρ hd ⟨y, z11, rfl, hy⟩
  have hkm : k < i := by rw [<- hdl]; exact (List.getElem?_eq_some_iff.mp hd).1
  obtain ⟨p, hp⟩ : ∃ p : Nat, p + k + 1 = i := ⟨i - 1 - k, by omega⟩
  have hde : d = .int (p : Int) := by
   unfold pX at hd
   rw [List.getElem?_map, List.getElem?_range hkm] at hd
   simp at hd
   rw [<- hd]
   congr 1
   omega
  subst hde
  rw [Nat.zero_add] at hy ⊢
  have ea := Bz CR CP CN n hw (j := p) (i := i) (by omega) hi
  have etj := getT (ts := ts) (i := p) (by omega)
  have eqj := getQ (qs := w.qs) (i := p) (by omega)
  have eqi := getQ (qs := w.qs) (i := i) (by omega)
  have hg := DY w ts (i := i) (l := p) (by omega)
  by_cases h : tAt ts p + w.ap p i = tAt ts i
  ·refine ⟨'Y', by simp, [some w.ruD, a1, some 'h', some 'e', a4, some 'f', a6, some (.int i), some (.int (tAt ts i)), some (.tup [.str "gap", .int p]), a10, some (.int p)], .inl ?_, _, _, rfl, .inr ⟨p, by omega, by omega, rfl, by omega, fun l h1 h2 => by omega⟩⟩
   simp [hZ, mH, ea, etj, eqj, eqi, h]
  ·refine ⟨'Y', by simp, 'Y', .inl ?_, _, _, rfl, ?_⟩
   ·simp [hZ, mH, ea, etj, eqj, eqi, h]
   ·rcases hy with ⟨h1, h2⟩ | ⟨j, h1, h2, h3, h4, h5⟩
    ·refine .inl ⟨h1, fun l hl1 hl2 => ?_⟩
     by_cases hlp : l = p
     ·subst hlp; omega
     ·exact h2 l hl1 (by omega)
    ·refine .inr ⟨j, h1, by omega, h3, h4, fun l hl1 hl2 => ?_⟩
     by_cases hlp : l = p
     ·subst hlp; omega
     ·exact h5 l hl1 (by omega))
 rw [Nat.zero_add, hdl] at hy
 refine ⟨y11, ?_⟩
 rw [e]
 rcases hy with ⟨rfl, h2⟩ | ⟨j, h1, _, rfl, h4, h5⟩
 ·have : oH (w.nV ts i) (tAt ts i) = none := by
   cases h : oH (w.nV ts i) (tAt ts i) with
   | none => rfl
   | some j =>
    obtain ⟨a, b, _⟩ := Bi h
    exact absurd b (h2 j (by omega) (by omega))
  rw [this]
 ·rw [idx_of (by omega) h4 fun m hm => h5 m hm (by omega)]
theorem due_ok (n : Nat) {w : Wo} (hw : w.Good) {ts : List Int} (hl : w.Least ts) : jV CR CP CN n [w.ruD, .tup [.lst (w.fl.map flD), .lst 'g', .lst (w.qs.map stD)], .lst (ts.map .int)] = .ok (.lst ((List.range w.qs.length).map (cO w ts))) := by
 have hq := hw.qsl
 have hf := hw.fll
 have hc := hw.csl
 have htl := hl.1
 obtain ⟨ρ', e, z7, z8, z9, z10, z11, rfl⟩ := eG (p := .nm 7) (g := jf CR CP CN n)
  (fun i ρ => ∃ (z7 z8 z9 z10 z11 : Option Dat), ρ = [some w.ruD, some 'F', some 'h', some 'e', some (.lst 'g'), some 'f', some (.lst ((List.range i).map (cO w ts))), z7, z8, z9, z10, z11]) (cj 0 w.qs.length) 0 [some w.ruD, some 'F', some 'h', some 'e', some (.lst 'g'), some 'f', some (.lst []), none, none, none, none, none] ⟨none, none, none, none, none, rfl⟩ (by
  rintro i d ρ hd ⟨z7, z8, z9, z10, z11, rfl⟩
  obtain ⟨hi, rfl⟩ := fN hd
  rw [Nat.zero_add]
  obtain ⟨ef, gf⟩ := hw.fAt hi
  have eq := getC hi
  have et := getT (ts := ts) (i := i) (by omega)
  have hfl := yI (hl.2 i hi)
  have hsz : ((List.range i).map (cO w ts)).length < 16777216 := by simp; omega
  rw [List.range_succ, List.map_append]
  generalize (List.range i).map (cO w ts) = acc at hsz ⊢
  have hpd : cO w ts i = if tAt ts i = (w.f i).first then .tup [.str "first"] else match oH (w.nV ts i) (tAt ts i) with
   | some j => .tup [.str "gap", .int j]
   | none => match oH (w.cs.map (·.2)) (tAt ts i) with
    | some j => .tup [.str "closed", .int j]
    | none => .non := rfl
  by_cases h : tAt ts i = (w.f i).first
  ·rw [if_pos h] at hpd
   refine ⟨[some w.ruD, some 'F', some 'h', some 'e', some (.lst 'g'), some 'f', some (.lst acc), some (.int i), z8, z9, z10, z11], by simp, [some w.ruD, some 'F', some 'h', some 'e', some (.lst 'g'), some 'f', some (.lst (acc ++ [cO w ts i])), some (.int i), some (.int (tAt ts i)), some (.tup [.str "first"]), z10, z11], .inl ?_, _, _, _, _, _, rfl⟩
   simp only [flD] at ef
   rw [hpd] at hfl ⊢
   rw [h] at et ⊢
   simp [jf, mG, et, eq, ef, hsz, hfl, -List.map_map]
  ·rw [if_neg h] at hpd
   obtain ⟨some', hso⟩ : ∃ some' : List Nat, some' = (List.range w.cs.length).filter fun j => decide (tAt (w.cs.map (·.2)) j = tAt ts i) := ⟨_, rfl⟩
   have ecomp := Em (p := .nm 0) (ft := fB (f2 eqM (f2 ixD (f2 ixD (ah 1) (ah 0)) 'v') (ah 2))) (fe := ah 0) (ρ0 := [none, some (.lst 'g'), some (.int (tAt ts i))]) (fun j => decide (tAt (w.cs.map (·.2)) j = tAt ts i)) (fun j => .int j) w.cs.length (fun j hj => by
    refine ⟨[some (.int j), some (.lst 'g'), some (.int (tAt ts i))], by simp, ?_, by simp⟩
    have e1 := getQ (qs := w.cs) (i := j) hj
    have e2 : (qAt w.cs j).2 = tAt (w.cs.map (·.2)) j := by simp [qAt, tAt, hj]
    simp only [stD] at e1
    simp [e1, e2, stD])
   rw [<- hso] at ecomp
   have hhd : some'.head? = oH (w.cs.map (·.2)) (tAt ts i) := by
    have := Cb (w.cs.map (·.2)) (tAt ts i)
    rw [List.length_map] at this
    rw [hso]; exact this
   obtain ⟨v, hv⟩ : ∃ v : Dat, v = match oH (w.cs.map (·.2)) (tAt ts i) with | some j => .int (j : Nat) | none => .int (-1) := ⟨_, rfl⟩
   have hsl : some'.length <= 20 := by rw [hso]; exact Nat.le_trans (List.length_filter_le _ _) (by rw [List.length_range]; exact hc)
   have hget : ng ((some'.map fun j : Nat => Dat.int (j : Int)) ++ [.int (-1)]) 0 = .ok v := by
    cases hs : some' with
    | nil => rw [hs] at hhd; rw [hv, <- hhd]; rfl
    | cons a as =>
     rw [hs] at hhd
     rw [hv, <- hhd]
     show ng _ ((0 : Nat) : Int) = _
     rw [j8 (by simp)]
     rfl
   obtain ⟨y11, el⟩ := due_loop CR CP CN n hw htl hi (some 'F') (some (.lst 'g')) (some (.lst acc)) (some (.lst (some'.map fun j : Nat => Dat.int (j : Int)))) z11 (.tup [.str "closed", v])
   have hfin : (match oH (w.nV ts i) (tAt ts i) with | some j => Dat.tup [.str "gap", .int j] | none => .tup [.str "closed", v]) = cO w ts i := by
    rw [hpd]
    cases h2 : oH (w.nV ts i) (tAt ts i) with
    | some j => rfl
    | none =>
     obtain ⟨j, e⟩ := rD (hl.2 i hi) h h2
     rw [e] at hv
     rw [e, hv]
   rw [hfin] at el
   have r1 : -4611686018427387904 <= (i : Int) - 1 := by omega
   have k3 : ((i : Int) - 1 - -1).toNat = i := by omega
   have e3 : rng3 [.int ((i : Int) - 1), .int (-1), .int (-1)] = .ok (pX ((i : Int) - 1) i) := by
    rw [e_rng3 (by simp only [BI, Bool.and_eq_true, decide_eq_true_eq]; exact ⟨by omega, by omega⟩) (by decide), k3]
   have u1 : -4611686018427387904 <= (w.cs.length : Int) := by omega
   have u2 : (w.cs.length : Int) < 4611686018427387904 := by omega
   have hrl : (cj 0 w.cs.length).length <= 16777216 := by rw [eD]; omega
   have c1 : some'.length + 1 <= 16777216 := by omega
   have hvf : kK v = true := by rw [hv]; cases oH (w.cs.map (·.2)) (tAt ts i) <;> simp
   refine ⟨[some w.ruD, some 'F', some 'h', some 'e', some (.lst 'g'), some 'f', some (.lst acc), some (.int i), z8, z9, z10, z11], by simp, [some w.ruD, some 'F', some 'h', some 'e', some (.lst 'g'), some 'f', some (.lst (acc ++ [cO w ts i])), some (.int i), some (.int (tAt ts i)), some (cO w ts i), some (.lst (some'.map fun j : Nat => Dat.int (j : Int))), y11], .inl ?_, _, _, _, _, _, rfl⟩
   simp only [flD] at ef
   simp [jf, mG, et, eq, ef, h, u1, u2, hrl, ecomp, lq, c1, hget, e3, el, hsz, hfl, hvf, -e_rng3, -List.map_map])
 rw [Nat.zero_add, eD] at e
 have u1 : -4611686018427387904 <= (w.qs.length : Int) := by omega
 have u2 : (w.qs.length : Int) < 4611686018427387904 := by omega
 simp [jV, pT, u1, u2, e, -List.map_map]
end
section
variable (CR CP CN : Addr)
theorem yb {w : Wo} {ts : List Int} (n : Nat) : ∀ is : List Nat, (∀ i ∈ is, w.cm ts i) -> gM (is.map (cO w ts)) (n + 1) = true
 | [], _ => by simp [gM]
 | i :: is, h => by
  have ih := yb n is fun j hj => h j (by simp [hj])
  rcases v9 (h i (by simp)) with e | ⟨j, e⟩ | ⟨j, e⟩ <;> simp [gM, okE, e, ih]
theorem yM {w : Wo} {ts : List Int} : ∀ is : List Nat, (∀ i ∈ is, w.cm ts i) -> qT (is.map (cO w ts)) (is.map (cO w ts)) = true
 | [], _ => by simp [qT]
 | i :: is, h => by
  have ih := yM is fun j hj => h j (by simp [hj])
  rcases v9 (h i (by simp)) with e | ⟨j, e⟩ | ⟨j, e⟩ <;> simp [qT, eqD, e, ih]
theorem E2 {w : Wo} {ts : List Int} (is : List Nat) (h : ∀ i ∈ is, w.cm ts i) : eqM (.lst (is.map (cO w ts))) (.lst (is.map (cO w ts))) = .ok (.bl true) /\ neM (.lst (is.map (cO w ts))) (.lst (is.map (cO w ts))) = .ok (.bl false) := by
 have hk : okE (.lst (is.map (cO w ts))) 40 = true := by simp [okE, yb _ is h]
 unfold eqM neM
 rw [hk]
 simp [eqD, yM is h]
theorem AY (n : Nat) (x : Int) : gZ CR CP CN n [.int x] = .ok (.bl true) := by simp [gZ, mf]
theorem Cp (n : Nat) {w : Wo} {ts : List Int} {i : Nat} (h : w.cm ts i) (a b : Option Dat) : dC CR CP CN n [a, b, some (cO w ts i)] = .ok (.nx [a, b, some (cO w ts i)]) := by
 have enil : neM (.lst []) (.lst []) = .ok (.bl false) := by simp [neM, okE, gM, eqD, qT]
 rcases v9 h with e | ⟨j, e⟩ | ⟨j, e⟩ <;> rw [e]
 ·simp [dC, gO, gN, eF, mZ, xx, cX, cutL, qq, ck, enil]
 ·simp [dC, gO, gN, eF, mZ, xx, cX, cutL, qq, ck, AY, enil]
 ·simp [dC, gO, gN, eF, mZ, xx, cX, cutL, qq, ck, AY, enil]
theorem alike_ok (n : Nat) {w : Wo} {ts : List Int} (is : List Nat) (h : ∀ i ∈ is, w.cm ts i) : hG CR CP CN n [.lst (is.map (cO w ts)), .lst (is.map (cO w ts))] = .ok (.bl true) := by
 have key : ∀ (is : List Nat), (∀ i ∈ is, w.cm ts i) -> ∀ (a b z : Option Dat), ∃ y, kf (.nm 2) (dC CR CP CN n) (is.map (cO w ts)) [a, b, z] = .ok (.nx [a, b, y]) := by
  intro is
  induction is with
  | nil => intro _ a b z; exact ⟨z, rfl⟩
  | cons i is ih =>
   intro h a b z
   obtain ⟨y, e⟩ := ih (fun j hj => h j (by simp [hj])) a b (some (cO w ts i))
   refine ⟨y, ?_⟩
   rw [List.map_cons, kf, show gw (.nm 2) (cO w ts i) [a, b, z] = .ok [a, b, some (cO w ts i)] by simp, ax, Cp CR CP CN n (h i (by simp)) a b, ax]
   exact e
 obtain ⟨y, e⟩ := key is h (some (.lst (is.map (cO w ts)))) (some (.lst (is.map (cO w ts)))) none
 have := (E2 is h).2
 simp [hG, mh, nk, jW, this, e]
theorem BN (n : Nat) {a b c d : Dat} {f t : Int} (e : bZ CR CP CN n [a, b, c, d] = .error (.exc CN [("flight", .int f), ("time", .int t)])) : eX CR CP CN n [a, b, c, d, .tup [.int f, .int t]] = .ok (.bl true) := by
 have e1 : ia CR CP CN n [some a, some b, some c, some d, some (.tup [.int f, .int t]), some (.lst []), none] = .ok (.nx [some a, some b, some c, some d, some (.tup [.int f, .int t]), some (.lst [.int f, .int t]), none]) := by
  unfold ia
  rw [uv (f := ("flight", .int f)) (fs := [("time", .int t)]) (by simp [e])]
  rfl
 have e2 : eqM (.lst [.int f, .int t]) (.lst [.int f, .int t]) = .ok (.bl true) := by
  unfold eqM
  simp [okE, gM, eqD, qT]
 simp [eX, jt, e1, e2]
theorem law_true (hne : CR ≠ CP) : ∀ ns : List Int, ns.length <= 63 -> ∃ n, Dy CR CP CN n [.lst (ns.map .int)] = .ok (.bl true) := by
 intro ns hns
 refine ⟨64, ?_⟩
 obtain ⟨s, es, hs0, hs1⟩ := B6 CR CP CN 64 ns
 obtain ⟨k, rows, o, hk1, hk6, hr, ho, er⟩ := rules_ok CR CP CN 64 ns s hs0 hs1
 have em := made_ok CR CP CN 64 k rows o hk1 hk6 hr ho
 obtain ⟨fl0, hfl1, hfl2, ef⟩ := C8 CR CP CN 64 ns k rows o 40 s hr.1 hk1 (by omega) hs0 hs1
 simp only [Int.cast_ofNat_Int] at ef
 obtain ⟨cs0, hc1, hc2, ec⟩ := En CR CP CN 64 ns s hs0 hs1
 obtain ⟨fl, cs, hgf, hlen, hcs, hcl, emv⟩ : ∃ (fl : List Fli) (cs : List eU), (∀ f ∈ fl, sZ k f) /\ fl.length = fl0.length /\ (∀ p ∈ cs, p.1 < p.2) /\ cs.length <= 20 /\ bD CR CP CN 64 [.lst (ns.map .int), .lst (fl0.map flD), .lst (cs0.map stD)] = .ok (.tup [.lst (fl.map flD), .lst 'R']) := by
  obtain ⟨qs, hq1, hq2, hq3, eq⟩ := D9 CR CP CN 64 ns rows o fl0 (by omega) (by omega)
  have hql : qs.length = fl0.length := by have := hq1.length_eq; simpa using this
  have hqb : ∀ p ∈ qs, 0 <= p.1 /\ p.1 < fl0.length := fun p hp => by
   have : p.1 ∈ qs.map (·.1) := List.mem_map_of_mem hp
   have := hq1.mem_iff.mp this
   obtain ⟨j, hj, e⟩ := List.mem_map.mp this
   have := List.mem_range.mp hj
   omega
  obtain ⟨r2, hor⟩ : ∃ r2, (o = .non /\ ∀ p ∈ qs, p.2 = 0) \/ (o = aW r2 /\ fq k r2) := by
   rcases ho with h | ⟨r2, h1, h2⟩
   ·exact ⟨[], .inl ⟨h, hq3 h⟩⟩
   ·exact ⟨r2, .inr ⟨h2, h1⟩⟩
  have hw0 : (⟨k, rows, r2, o, fl0, cs0, qs⟩ : Wo).Good := ⟨hk1, hk6, hr, hor, hfl2, by show fl0.length <= 60; omega, fun p hp => (hc2 p hp).2, hc1, hqb, hql⟩
  obtain ⟨fl, cs, hw, emv⟩ := moved_ok CR CP CN 64 ns hw0 fun p hp => (hc2 p hp).1
  have hwl : qs.length = fl.length := hw.qsl
  exact ⟨fl, cs, hw.fl, by omega, hw.cs, hw.csl, emv⟩
 obtain ⟨qs, hq1, hq2, hq3, eq⟩ := D9 CR CP CN 64 ns rows o fl (by omega) (by omega)
 have hql : qs.length = fl.length := by have := hq1.length_eq; simpa using this
 have hqb : ∀ p ∈ qs, 0 <= p.1 /\ p.1 < fl.length := fun p hp => by
  have : p.1 ∈ qs.map (·.1) := List.mem_map_of_mem hp
  have := hq1.mem_iff.mp this
  obtain ⟨j, hj, e⟩ := List.mem_map.mp this
  have := List.mem_range.mp hj
  omega
 obtain ⟨r2, hor⟩ : ∃ r2, (o = .non /\ ∀ p ∈ qs, p.2 = 0) \/ (o = aW r2 /\ fq k r2) := by
  rcases ho with h | ⟨r2, h1, h2⟩
  ·exact ⟨[], .inl ⟨h, hq3 h⟩⟩
  ·exact ⟨r2, .inr ⟨h2, h1⟩⟩
 obtain ⟨w, hwe⟩ : ∃ w : Wo, w = ⟨k, rows, r2, o, fl, cs, qs⟩ := ⟨_, rfl⟩
 have hw : w.Good := by rw [hwe]; exact ⟨hk1, hk6, hr, hor, hgf, by show fl.length <= 60; omega, hcs, hcl, hqb, hql⟩
 have e0 : (.tup [aW rows, o] : Dat) = w.ruD := by rw [hwe]; rfl
 have e1 : rows = w.rows := by rw [hwe]
 have e2 : o = w.o := by rw [hwe]
 have e3 : qs = w.qs := by rw [hwe]
 have e4 : fl = w.fl := by rw [hwe]
 have e5 : cs = w.cs := by rw [hwe]
 rw [e0] at er em ef eq
 rw [e1, e2] at em
 rw [e4, e5] at emv
 rw [e4, e3] at eq
 have hq := hw.qsl
 have hf := hw.fll
 have hc := hw.csl
 have s1 : w.fl.length <= 16777216 := by omega
 have s2 : w.cs.length <= 16777216 := by omega
 have s3 : w.qs.length <= 16777216 := by omega
 have en3 := ne_three w.fl w.cs w.qs
 rcases least_ok CR CP CN 64 (by omega) hw with ⟨ts, hl, el⟩ | ⟨i, ts, t, h1, h2, h3, h4, h5, el⟩
 ·have ep := CY CR CP CN 64 hne hw hl
  have ed := due_ok CR CP CN 64 hw hl
  have hall : ∀ i ∈ List.range w.qs.length, w.cm ts i := fun i hi => hl.2 i (List.mem_range.mp hi)
  have eal := alike_ok CR CP CN 64 (List.range w.qs.length) hall
  have eeq := (E2 (List.range w.qs.length) hall).1
  have hsz : ((List.range w.qs.length).map (cO w ts)).length < 16777216 := by simp; omega
  generalize (List.range w.qs.length).map (cO w ts) = ps at ep ed eal eeq hsz
  simp [Dy, g_law, es, er, em, ef, ec, emv, eq, el, Aw, eF, ed, s1, s2, s3, ep, Ex, eal, en3, hsz, eeq, -List.map_map]
 ·have ep := BP CR CP CN 64 hne hw h1 h2 h3 h4 h5
  have erf := BN CR CP CN 64 ep
  simp [Dy, g_law, es, er, em, ef, ec, emv, eq, el, Aw, eF, erf, -List.map_map]
end
theorem fin_mk {P : Program} {w : World} {K : PySem.W.Frag} {mg : Str -> Option Value} {st : Stmt} {ps : List Str} {f : Addr} {fd : FuncData} {k : Nat} (_ : Def K mg "law" st ps f fd) (hb : ∀ (s : Shared) (v : Value), BindsTo s fd ⟨[v], []⟩ [("_law_script", v)]) (h : ∀ base : Heap, bx P w K mg base CX0 k f fd ["_law_script"] (BG K)) : ∃ fd : FuncData, (∀ (s : Shared) (v : Value), BindsTo s fd ⟨[v], []⟩ [("_law_script", v)]) /\ ∀ base : Heap, K.In base -> base.Ns mainGlobals mg -> bx P w K mg base CX0 k f fd ["_law_script"] (BG K) := ⟨fd, hb, fun base _ _ => h base⟩
theorem all_mk {l : PySem.W.OpenLaw} {w : World} {K : PySem.W.Frag} {h : Heap} {mg : Str -> Option Value} {fa CR CP aw bo dv bf bP il cz aS du bA bg dq aX bp cC eJ cn aP dn bB bT bN eI gk bM bQ bz cA cD Cd f_nR f_nP CN tR : Addr} {yj zw vy wU yi zv qM qZ tH tZ Dr EL vw wQ rO sT yh zu rQ sV qN r6 yg zt pH qg vA wW vz wV A6 AV A5 AU nA oq ye zq tJ u3 vC wY yf zr A4 AS BW Co yc zp tI u0 rP sU vx wR vB wX od_law an_law od_nR an_nR od_nP an_nP od_nCN an_nCN : Option Addr} {xF uV xE qG t7 CM uT rq xD rA qH xC pC uX uW zN zM nu xA t9 uZ xB zL BJ xy t8 rz uU uY sl_law sl_nR sl_nP sl_nCN : Array (Option Value)} {yr yF yW xS qE zc vG vR wy vd oV wH yq yE yV xR qD zb qO qQ qU qI lh qW tK tN tT tw nh tW Ds DD Eg D8 zf Eh vE vP wu vb oS wF rR sg sC rF mB sH yp yD yU xQ qC za rT si sE rH mD sJ qP qR qV qJ lj qX yo yC yT xP qB z0 pI pP pZ pE ka qe vI vT wA vf oX wJ vH vS wz ve oW wI A9 Af Ap zU sS As A8 Ae Ao zT sR Ar nB nU o5 nv iV oj ym yA yR xN qz yY tM tP tV tB nj tY vK vV wC vh oZ wL yn yB yS xO qA yZ A7 Ad An zS sQ Aq BX C4 Cg BR uD Ci yk yz yQ xM qx yX tL tO tU tx ni tX rS sh sD rG mC sI vF vQ wx vc oU wG vJ vU wB vg oY wK oc_law kV_law dc_law pm_law cd_law ct_law oc_nR kV_nR dc_nR pm_nR cd_nR ct_nR oc_nP kV_nP dc_nP pm_nP cd_nP ct_nP oc_nCN kV_nCN dc_nCN pm_nCN cd_nCN ct_nCN : Value} {t6 xq : Tok} (KX : K.In h) (G : h.Ns mainGlobals mg) (hfa : mg "law" = some (.ref fa))
  (EB : PySem.W.nsIn K mainGlobals "Rules" = some (some (.ref CR)))
  (AA : PySem.W.plainGet K CR Str.empty = true)
  (AE : PySem.W.hasDictIn K CR = true)
  (Az : PySem.W.plainOver K CR = true)
  (Ay : PySem.W.findIn K (.ref CR) "__setattr__" = some (some (.builtin "object.__setattr__")))
  (AB : PySem.W.makesIn K CR = true)
  (AD : PySem.W.keepIn K (.ref CR) = true)
  (AG : PySem.W.findIn K (.ref CR) "__class__" = some (some 'q'))
  (AF : PySem.W.mroIn K CR (.type "object") = some true)
  (oO : PySem.W.findIn K (.ref CR) "gaps" = some none)
  (rV : PySem.W.findIn K (.ref CR) "beside" = some none)
  (EC : PySem.W.nsIn K mainGlobals "Pair" = some (some (.ref CP)))
  (AJ : PySem.W.plainGet K CP Str.empty = true)
  (AM : PySem.W.hasDictIn K CP = true)
  (AI : PySem.W.plainOver K CP = true)
  (AH : PySem.W.findIn K (.ref CP) "__setattr__" = some (some (.builtin "object.__setattr__")))
  (AK : PySem.W.makesIn K CP = true)
  (AL : PySem.W.keepIn K (.ref CP) = true)
  (AO : PySem.W.findIn K (.ref CP) "__class__" = some (some 'q'))
  (AN : PySem.W.mroIn K CP (.type "object") = some true)
  (lJ : PySem.W.findIn K (.ref CP) "gaps" = some none)
  (ko : PySem.W.findIn K (.ref CP) "beside" = some none)
  (o2 : PySem.W.specialIn K 'q' "__get__" = some (some (.builtin "getset_descriptor.__get__")))
  (o3 : PySem.W.takesIn K 'q' = some true)
  (x_ne : CR ≠ CP)
  (oE : PySem.W.nsIn K mainGlobals "_law_draw" = some (some (.ref aw)))
  (nK : K.lookup aw = some ⟨yr, yj, .func (PySem.W.fnOf "_law_draw" "_law_draw" (aG bu) (aE bu) (af bu) .none yF yW xS zw qE zc), xF⟩)
  (oi : PySem.W.codeIn K qE "_law_draw" = true)
  (nS : PySem.W.keepIn K (.ref aw) = true)
  (mK : PySem.W.nsIn K mainGlobals "_law_scale" = some (some (.ref bo)))
  (lO : K.lookup bo = some ⟨vG, vy, .func (PySem.W.fnOf "_law_scale" "_law_scale" (aG cT) (aE cT) (af cT) .none vR wy vd wU oV wH), uV⟩)
  (mv : PySem.W.codeIn K oV "_law_scale" = true)
  (lW : PySem.W.keepIn K (.ref bo) = true)
  (oB : PySem.W.nsIn K mainGlobals "_law_gaps" = some (some (.ref dv)))
  (nJ : K.lookup dv = some ⟨yq, yi, .func (PySem.W.fnOf "_law_gaps" "_law_gaps" (aG fG) (aE fG) (af fG) .none yE yV xR zv qD zb), xE⟩)
  (oh : PySem.W.codeIn K qD "_law_gaps" = true)
  (nR : PySem.W.keepIn K (.ref dv) = true)
  (iY : PySem.W.nsIn K mainGlobals "_law_rules_of" = some (some (.ref bf)))
  (iM : K.lookup bf = some ⟨qO, qM, .func (PySem.W.fnOf "_law_rules_of" "_law_rules_of" (aG bX) (aE bX) (af bX) .none qQ qU qI qZ lh qW), qG⟩)
  (iS : PySem.W.codeIn K lh "_law_rules_of" = true)
  (iO : PySem.W.keepIn K (.ref bf) = true)
  (l0 : PySem.W.nsIn K mainGlobals "copied_rows" = some (some (.ref bP)))
  (ku : K.lookup bP = some ⟨tK, tH, .func (PySem.W.fnOf "copied_rows" "copied_rows" (aG dg) (aE dg) (af dg) .none tN tT tw tZ nh tW), t7⟩)
  (kM : PySem.W.codeIn K nh "copied_rows" = true)
  (kz : PySem.W.keepIn K (.ref bP) = true)
  (wZ : PySem.W.nsIn K mainGlobals "is_gap" = some (some (.ref il)))
  (vN : K.lookup il = some ⟨Ds, Dr, .func (PySem.W.fnOf "is_gap" "is_gap" (aG ki) (aE ki) (af ki) .none DD Eg D8 EL zf Eh), CM⟩)
  (wD : PySem.W.codeIn K zf "is_gap" = true)
  (vO : PySem.W.keepIn K (.ref il) = true)
  (mI : PySem.W.nsIn K mainGlobals "is_gap_row" = some (some (.ref cz)))
  (lM : K.lookup cz = some ⟨vE, vw, .func (PySem.W.fnOf "is_gap_row" "is_gap_row" (aG dJ) (aE dJ) (af dJ) .none vP wu vb wQ oS wF), uT⟩)
  (mq : PySem.W.codeIn K oS "is_gap_row" = true)
  (lU : PySem.W.keepIn K (.ref cz) = true)
  (jC : PySem.W.nsIn K mainGlobals "checked_rows" = some (some (.ref aS)))
  (jk : K.lookup aS = some ⟨rR, rO, .func (PySem.W.fnOf "checked_rows" "checked_rows" (aG bR) (aE bR) (af bR) .none sg sC rF sT mB sH), rq⟩)
  (jx : PySem.W.codeIn K mB "checked_rows" = true)
  (jn : PySem.W.keepIn K (.ref aS) = true)
  (oA : PySem.W.nsIn K mainGlobals "_law_made" = some (some (.ref du)))
  (nI : K.lookup du = some ⟨yp, yh, .func (PySem.W.fnOf "_law_made" "_law_made" (aG fF) (aE fF) (af fF) .none yD yU xQ zu qC za), xD⟩)
  (og : PySem.W.codeIn K qC "_law_made" = true)
  (nQ : PySem.W.keepIn K (.ref du) = true)
  (jE : PySem.W.nsIn K mainGlobals "_law_flights" = some (some (.ref bA)))
  (jm : K.lookup bA = some ⟨rT, rQ, .func (PySem.W.fnOf "_law_flights" "_law_flights" (aG cK) (aE cK) (af cK) .none si sE rH sV mD sJ), rA⟩)
  (jz : PySem.W.codeIn K mD "_law_flights" = true)
  (jq : PySem.W.keepIn K (.ref bA) = true)
  (iZ : PySem.W.nsIn K mainGlobals "_law_moved_up" = some (some (.ref bg)))
  (iN : K.lookup bg = some ⟨qP, qN, .func (PySem.W.fnOf "_law_moved_up" "_law_moved_up" (aG bY) (aE bY) (af bY) .none qR qV qJ r6 lj qX), qH⟩)
  (iT : PySem.W.codeIn K lj "_law_moved_up" = true)
  (iP : PySem.W.keepIn K (.ref bg) = true)
  (oz : PySem.W.nsIn K mainGlobals "_law_plan" = some (some (.ref dq)))
  (nH : K.lookup dq = some ⟨yo, yg, .func (PySem.W.fnOf "_law_plan" "_law_plan" (aG fE) (aE fE) (af fE) .none yC yT xP zt qB z0), xC⟩)
  (o9 : PySem.W.codeIn K qB "_law_plan" = true)
  (nP : PySem.W.keepIn K (.ref dq) = true)
  (ib : PySem.W.nsIn K mainGlobals "_law_open_from" = some (some (.ref aX)))
  (i5 : K.lookup aX = some ⟨pI, pH, .func (PySem.W.fnOf "_law_open_from" "_law_open_from" (aG bL) (aE bL) (af bL) .none pP pZ pE qg ka qe), pC⟩)
  (i9 : PySem.W.codeIn K ka "_law_open_from" = true)
  (i6 : PySem.W.keepIn K (.ref aX) = true)
  (mM : PySem.W.nsIn K mainGlobals "_law_apart" = some (some (.ref bp)))
  (lQ : K.lookup bp = some ⟨vI, vA, .func (PySem.W.fnOf "_law_apart" "_law_apart" (aG cU) (aE cU) (af cU) .none vT wA vf wW oX wJ), uX⟩)
  (mx : PySem.W.codeIn K oX "_law_apart" = true)
  (lY : PySem.W.keepIn K (.ref bp) = true)
  (mL : PySem.W.nsIn K mainGlobals "_law_least" = some (some (.ref cC)))
  (lP : K.lookup cC = some ⟨vH, vz, .func (PySem.W.fnOf "_law_least" "_law_least" (aG dO) (aE dO) (af dO) .none vS wz ve wV oW wI), uW⟩)
  (mw : PySem.W.codeIn K oW "_law_least" = true)
  (lX : PySem.W.keepIn K (.ref cC) = true)
  (qj : PySem.W.nsIn K mainGlobals "_law_due" = some (some (.ref eJ)))
  (pL : K.lookup eJ = some ⟨A9, A6, .func (PySem.W.fnOf "_law_due" "_law_due" (aG gz) (aE gz) (af gz) .none Af Ap zU AV sS As), zN⟩)
  (qc : PySem.W.codeIn K sS "_law_due" = true)
  (pO : PySem.W.keepIn K (.ref eJ) = true)
  (qi : PySem.W.nsIn K mainGlobals "spots_of" = some (some (.ref cn)))
  (pK : K.lookup cn = some ⟨A8, A5, .func (PySem.W.fnOf "spots_of" "spots_of" (aG fM) (aE fM) (af fM) .none Ae Ao zT AU sR Ar), zM⟩)
  (q9 : PySem.W.codeIn K sR "spots_of" = true)
  (pN : PySem.W.keepIn K (.ref cn) = true)
  (gq : PySem.W.nsIn K mainGlobals "joined_stretches" = some (some (.ref aP)))
  (g5 : K.lookup aP = some ⟨nB, nA, .func (PySem.W.fnOf "joined_stretches" "joined_stretches" (aG bc) (aE bc) (af bc) .none nU o5 nv oq iV oj), nu⟩)
  (gn : PySem.W.codeIn K iV "joined_stretches" = true)
  (g6 : PySem.W.keepIn K (.ref aP) = true)
  (ou : PySem.W.nsIn K mainGlobals "next_open" = some (some (.ref dn)))
  (nF : K.lookup dn = some ⟨ym, ye, .func (PySem.W.fnOf "next_open" "next_open" (aG fD) (aE fD) (af fD) .none yA yR xN zq qz yY), xA⟩)
  (o7 : PySem.W.codeIn K qz "next_open" = true)
  (nM : PySem.W.keepIn K (.ref dn) = true)
  (l4 : PySem.W.findIn K (.ref CR) "apart" = some (some (.ref bB)))
  (kC : PySem.W.isFn K (.ref bB) = true)
  (ky : K.lookup bB = some ⟨tM, tJ, .func (PySem.W.fnOf "apart" "Rules.apart" (aG di) (aE di) (af di) .none tP tV tB u3 nj tY), t9⟩)
  (kO : PySem.W.codeIn K nj "Rules.apart" = true)
  (kB : PySem.W.keepIn K (.ref bB) = true)
  (mP : PySem.W.findIn K (.ref CP) "apart" = some (some (.ref bT)))
  (m9 : PySem.W.isFn K (.ref bT) = true)
  (lS : K.lookup bT = some ⟨vK, vC, .func (PySem.W.fnOf "apart" "Pair.apart" (aG dQ) (aE dQ) (af dQ) .none vV wC vh wY oZ wL), uZ⟩)
  (mz : PySem.W.codeIn K oZ "Pair.apart" = true)
  (m4 : PySem.W.keepIn K (.ref bT) = true)
  (oy : PySem.W.nsIn K mainGlobals "gap_times" = some (some (.ref bN)))
  (nG : K.lookup bN = some ⟨yn, yf, .func (PySem.W.fnOf "gap_times" "gap_times" (aG dM) (aE dM) (af dM) .none yB yS xO zr qA yZ), xB⟩)
  (o8 : PySem.W.codeIn K qA "gap_times" = true)
  (nO : PySem.W.keepIn K (.ref bN) = true)
  (qh : PySem.W.nsIn K mainGlobals "times_of" = some (some (.ref eI)))
  (pJ : K.lookup eI = some ⟨A7, A4, .func (PySem.W.fnOf "times_of" "times_of" (aG gy) (aE gy) (af gy) .none Ad An zS AS sQ Aq), zL⟩)
  (q0 : PySem.W.codeIn K sQ "times_of" = true)
  (pM : PySem.W.keepIn K (.ref eI) = true)
  (sW : PySem.W.nsIn K mainGlobals "push_of" = some (some (.ref gk)))
  (sd : K.lookup gk = some ⟨BX, BW, .func (PySem.W.fnOf "push_of" "push_of" (aG iz) (aE iz) (af iz) .none C4 Cg BR Co uD Ci), BJ⟩)
  (sF : PySem.W.codeIn K uD "push_of" = true)
  (sf : PySem.W.keepIn K (.ref gk) = true)
  (ot : PySem.W.nsIn K mainGlobals "pushes_of" = some (some (.ref bM)))
  (nE : K.lookup bM = some ⟨yk, yc, .func (PySem.W.fnOf "pushes_of" "pushes_of" (aG dI) (aE dI) (af dI) .none yz yQ xM zp qx yX), xy⟩)
  (o6 : PySem.W.codeIn K qx "pushes_of" = true)
  (nL : PySem.W.keepIn K (.ref bM) = true)
  (l3 : PySem.W.nsIn K mainGlobals "_law_closed" = some (some (.ref bQ)))
  (kx : K.lookup bQ = some ⟨tL, tI, .func (PySem.W.fnOf "_law_closed" "_law_closed" (aG dh) (aE dh) (af dh) .none tO tU tx u0 ni tX), t8⟩)
  (kN : PySem.W.codeIn K ni "_law_closed" = true)
  (kA : PySem.W.keepIn K (.ref bQ) = true)
  (jD : PySem.W.nsIn K mainGlobals "_law_refused" = some (some (.ref bz)))
  (jl : K.lookup bz = some ⟨rS, rP, .func (PySem.W.fnOf "_law_refused" "_law_refused" (aG cJ) (aE cJ) (af cJ) .none sh sD rG sU mC sI), rz⟩)
  (jy : PySem.W.codeIn K mC "_law_refused" = true)
  (jo : PySem.W.keepIn K (.ref bz) = true)
  (mJ : PySem.W.nsIn K mainGlobals "_law_whole" = some (some (.ref cA)))
  (lN : K.lookup cA = some ⟨vF, vx, .func (PySem.W.fnOf "_law_whole" "_law_whole" (aG dN) (aE dN) (af dN) .none vQ wx vc wR oU wG), uU⟩)
  (mr : PySem.W.codeIn K oU "_law_whole" = true)
  (lV : PySem.W.keepIn K (.ref cA) = true)
  (mO : PySem.W.nsIn K mainGlobals "_law_alike" = some (some (.ref cD)))
  (lR : K.lookup cD = some ⟨vJ, vB, .func (PySem.W.fnOf "_law_alike" "_law_alike" (aG dP) (aE dP) (af dP) .none vU wB vg wX oY wK), uY⟩)
  (my : PySem.W.codeIn K oY "_law_alike" = true)
  (lZ : PySem.W.keepIn K (.ref cD) = true)
  (a_law : PySem.W.nsIn K mainGlobals "law" = some (some (.ref Cd)))
  (l_law : K.lookup Cd = some ⟨oc_law, od_law, .func (PySem.W.fnOf "law" "law" (aG BL) (aE BL) (af BL) .none kV_law dc_law pm_law an_law cd_law ct_law), sl_law⟩)
  (d_law : PySem.W.codeIn K cd_law "law" = true)
  (k_law : PySem.W.keepIn K (.ref Cd) = true)
  (a_nR : PySem.W.findIn K (.ref CR) "__init__" = some (some (.ref f_nR)))
  (i_nR : PySem.W.isFn K (.ref f_nR) = true)
  (l_nR : K.lookup f_nR = some ⟨oc_nR, od_nR, .func (PySem.W.fnOf "__init__" "Rules.__init__" (aG s_nR) (aE s_nR) (af s_nR) .none kV_nR dc_nR pm_nR an_nR cd_nR ct_nR), sl_nR⟩)
  (d_nR : PySem.W.codeIn K cd_nR "Rules.__init__" = true)
  (k_nR : PySem.W.keepIn K (.ref f_nR) = true)
  (a_nP : PySem.W.findIn K (.ref CP) "__init__" = some (some (.ref f_nP)))
  (i_nP : PySem.W.isFn K (.ref f_nP) = true)
  (l_nP : K.lookup f_nP = some ⟨oc_nP, od_nP, .func (PySem.W.fnOf "__init__" "Pair.__init__" (aG s_nP) (aE s_nP) (af s_nP) .none kV_nP dc_nP pm_nP an_nP cd_nP ct_nP), sl_nP⟩)
  (d_nP : PySem.W.codeIn K cd_nP "Pair.__init__" = true)
  (k_nP : PySem.W.keepIn K (.ref f_nP) = true)
  (x_s1 : PySem.W.specialIn K (.ref CR) "__getattribute__" = some (some (.builtin "type.__getattribute__")))
  (x_s2 : PySem.W.readsIn K CR (.type "type") = true)
  (x_s3 : PySem.W.findCls K (.ref CR) (.type "type") "__init__" = some (.val (.ref f_nR)))
  (AW : PySem.W.nsIn K mainGlobals "NoTime" = some (some (.ref CN)))
  (a_nCN : PySem.W.findIn K (.ref CN) "__init__" = some (some (.ref tR)))
  (i_nCN : PySem.W.isFn K (.ref tR) = true)
  (l_nCN : K.lookup tR = some ⟨oc_nCN, od_nCN, .func (PySem.W.fnOf "__init__" "NoTime.__init__" (aG zP) (aE zP) (af zP) .none kV_nCN dc_nCN pm_nCN an_nCN cd_nCN ct_nCN), sl_nCN⟩)
  (d_nCN : PySem.W.codeIn K cd_nCN "NoTime.__init__" = true)
  (k_nCN : PySem.W.keepIn K (.ref tR) = true)
  (uM : qr K CN [.type "ValueError", .type "Exception", .type "BaseException", .type "object"] "ValueError.__new__" tR = true)
  (zC : PySem.W.keepIn K (.ref CN) = true)
  (zF : PySem.W.findIn K (.ref CN) "__getattribute__" = some (some (.builtin "BaseException.__getattribute__")))
  (zG : PySem.W.findIn K (.ref CN) "__class__" = some (some 'q'))
  (zE : PySem.W.findIn K (.ref CN) "__getattr__" = some none)
  (zH : PySem.W.mroIn K CN (.type "BaseException") = some true)
  (zB : PySem.W.mroIn K CN (.type "object") = some true)
  (zD : (PySem.W.clsIn K CN).isSome = true)
  (uL : PySem.W.findIn K (.ref CN) "__setattr__" = some (some (.builtin "object.__setattr__")))
  (uN : ((PySem.W.clsIn K CN).any fun cd => rp cd.mro && cd.hasDict) = true)
  (lA : PySem.W.findIn K (.ref CN) "flight" = some none)
  (pz : PySem.W.findIn K (.ref CN) "time" = some none)
  (BC : PySem.W.nsIn K mainGlobals "all" = some none)
  (u4 : PySem.W.nsIn K mainGlobals "bool" = some none)
  (gx : PySem.W.nsIn K mainGlobals "enumerate" = some none)
  (xi : PySem.W.nsIn K mainGlobals "int" = some none)
  (b8 : PySem.W.nsIn K mainGlobals "isinstance" = some none)
  (lz : PySem.W.nsIn K mainGlobals "len" = some none)
  (nc : PySem.W.nsIn K mainGlobals "list" = some none)
  (xh : PySem.W.nsIn K mainGlobals "max" = some none)
  (uK : PySem.W.nsIn K mainGlobals "min" = some none)
  (fw : PySem.W.nsIn K mainGlobals "range" = some none)
  (mU : PySem.W.nsIn K mainGlobals "sorted" = some none)
  (Cu : PySem.W.nsIn K mainGlobals "str" = some none)
  (px : PySem.W.nsIn K mainGlobals "tuple" = some none)
  (eZ : PySem.W.nsIn K mainGlobals "GREATEST_GAP" = some (some (.int 1000000 t6)))
  (hI : PySem.W.nsIn K mainGlobals "MOST_KINDS" = some (some (.int 6 xq)))
  (lI : PySem.W.kitOne K 'V' 'V' = some true)
  (jS : PySem.W.kitOne K 'T' 'V' = some true)
  (jO : PySem.W.kitOne K 'L' 'V' = some false)
  (iB : PySem.W.kitOne K 'N' 'V' = some false)
  (lG : PySem.W.kitOne K '1' 'V' = some false)
  (eW : PySem.W.kitOne K (.type "NoneType") 'V' = some false)
  (jQ : PySem.W.kitOne K 'V' 'T' = some false)
  (iI : PySem.W.kitOne K 'T' 'T' = some true)
  (iF : PySem.W.kitOne K 'L' 'T' = some false)
  (gW : PySem.W.kitOne K 'N' 'T' = some false)
  (jM : PySem.W.kitOne K '1' 'T' = some false)
  (dS : PySem.W.kitOne K (.type "NoneType") 'T' = some false)
  (jP : PySem.W.kitOne K 'V' 'L' = some false)
  (iH : PySem.W.kitOne K 'T' 'L' = some false)
  (iE : PySem.W.kitOne K 'L' 'L' = some true)
  (gU : PySem.W.kitOne K 'N' 'L' = some false)
  (jL : PySem.W.kitOne K '1' 'L' = some false)
  (dR : PySem.W.kitOne K (.type "NoneType") 'L' = some false)
  (iG : PySem.W.kitOne K 'V' 'N' = some false)
  (gY : PySem.W.kitOne K 'T' 'N' = some false)
  (gX : PySem.W.kitOne K 'L' 'N' = some false)
  (fY : PySem.W.kitOne K 'N' 'N' = some true)
  (iC : PySem.W.kitOne K '1' 'N' = some false)
  (dw : PySem.W.kitOne K (.type "NoneType") 'N' = some false)
  (lH : PySem.W.kitOne K 'V' '1' = some false)
  (jR : PySem.W.kitOne K 'T' '1' = some false)
  (jN : PySem.W.kitOne K 'L' '1' = some false)
  (iA : PySem.W.kitOne K 'N' '1' = some false)
  (lF : PySem.W.kitOne K '1' '1' = some true)
  (eV : PySem.W.kitOne K (.type "NoneType") '1' = some false) :
  ∃ fd : FuncData, (∀ (s : Shared) (v : Value), BindsTo s fd ⟨[v], []⟩ [("_law_script", v)]) /\ ∀ base : Heap, K.In base -> base.Ns mainGlobals mg -> bx l.prog w K mg base CX0 8 fa fd ["_law_script"] (BG K) := by
 have e := hfa.symm.trans (PySem.W.mg_of KX G a_law)
 cases e
 have K_CR := kls_of (mg := mg) KX G EB AA AE Az Ay AB AD AG o2 o3 AF
 have K_CP := kls_of (mg := mg) KX G EC AJ AM AI AH AK AL AO o2 o3 AN
 have ae := cM (mg := mg) (st := bu) (ps := 'x') KX G oE nK oi nS fun _ _ _ _ _ _ us hl => match us, hl with | [_, _], _ => rfl
 have b9 := cM (mg := mg) (st := cT) (ps := ["_law_script"]) KX G mK lO mv lW fun _ _ _ _ _ _ us hl => match us, hl with | [_], _ => rfl
 have cg := cM (mg := mg) (st := fG) (ps := 'M') KX G oB nJ oh nR fun _ _ _ _ _ _ us hl => match us, hl with | [_, _, _, _], _ => rfl
 have bG := cM (mg := mg) (st := bX) (ps := 'B') KX G iY iM iS iO fun _ _ _ _ _ _ us hl => match us, hl with | [_, _], _ => rfl
 have cF := cM (mg := mg) (st := dg) (ps := ["rows"]) KX G l0 ku kM kz fun _ _ _ _ _ _ us hl => match us, hl with | [_], _ => rfl
 have ji := cM (mg := mg) (st := ki) (ps := ["number"]) KX G wZ vN wD vO fun _ _ _ _ _ _ us hl => match us, hl with | [_], _ => rfl
 have d7 := cM (mg := mg) (st := dJ) (ps := ["row", "kinds"]) KX G mI lM mq lU fun _ _ _ _ _ _ us hl => match us, hl with | [_, _], _ => rfl
 have aJ := cM (mg := mg) (st := bR) (ps := ["rows"]) KX G jC jk jx jn fun _ _ _ _ _ _ us hl => match us, hl with | [_], _ => rfl
 have eC := cM (mg := mg) (st := fF) (ps := ["_law_rules"]) KX G oA nI og nQ fun _ _ _ _ _ _ us hl => match us, hl with | [_], _ => rfl
 have bV := cM (mg := mg) (st := cK) (ps := 'K') KX G jE jm jz jq fun _ _ _ _ _ _ us hl => match us, hl with | [_, _, _, _], _ => rfl
 have bH := cM (mg := mg) (st := bY) (ps := 'P') KX G iZ iN iT iP fun _ _ _ _ _ _ us hl => match us, hl with | [_, _, _], _ => rfl
 have eB := cM (mg := mg) (st := fE) (ps := 'Z') KX G oz nH o9 nP fun _ _ _ _ _ _ us hl => match us, hl with | [_, _, _], _ => rfl
 have bq := cM (mg := mg) (st := bL) (ps := ["_law_closed_here", "_law_time"]) KX G ib i5 i9 i6 fun _ _ _ _ _ _ us hl => match us, hl with | [_, _], _ => rfl
 have ba := cM (mg := mg) (st := cU) (ps := 't') KX G mM lQ mx lY fun _ _ _ _ _ _ us hl => match us, hl with | [_, _, _, _], _ => rfl
 have d9 := cM (mg := mg) (st := dO) (ps := 'A') KX G mL lP mw lX fun _ _ _ _ _ _ us hl => match us, hl with | [_, _, _, _], _ => rfl
 have fU := cM (mg := mg) (st := gz) (ps := ["_law_rules", "_law_lists", "_law_times"]) KX G qj pL qc pO fun _ _ _ _ _ _ us hl => match us, hl with | [_, _, _], _ => rfl
 have bW := cM (mg := mg) (st := fM) (ps := ["flights", "plan"]) KX G qi pK q9 pN fun _ _ _ _ _ _ us hl => match us, hl with | [_, _], _ => rfl
 have aV := cM (mg := mg) (st := bc) (ps := ["closed"]) KX G gq g5 gn g6 fun _ _ _ _ _ _ us hl => match us, hl with | [_], _ => rfl
 have eA := cM (mg := mg) (st := fD) (ps := ["closed", "time"]) KX G ou nF o7 nM fun _ _ _ _ _ _ us hl => match us, hl with | [_, _], _ => rfl
 have iw := yu (C := CR) (st := di) (ps := 'U') l4 kC ky kO kB fun _ _ _ _ _ _ us hl => match us, hl with | [_, _, _], _ => rfl
 have jj := yu (C := CP) (st := dQ) (ps := 'U') mP m9 lS mz m4 fun _ _ _ _ _ _ us hl => match us, hl with | [_, _, _], _ => rfl
 have bw := cM (mg := mg) (st := dM) (ps := 'Q') KX G oy nG o8 nO fun _ _ _ _ _ _ us hl => match us, hl with | [_, _, _, _], _ => rfl
 have fS := cM (mg := mg) (st := gy) (ps := 'o') KX G qh pJ q0 pM fun _ _ _ _ _ _ us hl => match us, hl with | [_, _, _, _], _ => rfl
 have i0 := cM (mg := mg) (st := iz) (ps := ["flight", "closed", "gaps", "time"]) KX G sW sd sF sf fun _ _ _ _ _ _ us hl => match us, hl with | [_, _, _, _], _ => rfl
 have aU := cM (mg := mg) (st := dI) (ps := 'o') KX G ot nE o6 nL fun _ _ _ _ _ _ us hl => match us, hl with | [_, _, _, _], _ => rfl
 have cG := cM (mg := mg) (st := dh) (ps := 'B') KX G l3 kx kN kA fun _ _ _ _ _ _ us hl => match us, hl with | [_, _], _ => rfl
 have bU := cM (mg := mg) (st := cJ) (ps := 'p') KX G jD jl jy jo fun _ _ _ _ _ _ us hl => match us, hl with | [_, _, _, _, _], _ => rfl
 have d8 := cM (mg := mg) (st := dN) (ps := ["_law_found"]) KX G mJ lN mr lV fun _ _ _ _ _ _ us hl => match us, hl with | [_], _ => rfl
 have da := cM (mg := mg) (st := dP) (ps := ["_law_found", "_law_due_here"]) KX G mO lR my lZ fun _ _ _ _ _ _ us hl => match us, hl with | [_, _], _ => rfl
 have D_law := cM (mg := mg) (st := BL) (ps := ["_law_script"]) KX G a_law l_law d_law k_law fun _ _ _ _ _ _ us hl => match us, hl with | [_], _ => rfl
 have pf := iw
 have ph := jj
 have N_R := yu (C := CR) (st := s_nR) (ps := ["self", "gaps"]) a_nR i_nR l_nR d_nR k_nR fun _ _ _ _ _ _ us hl => match us, hl with | [_, _], _ => rfl
 have N_P := yu (C := CP) (st := s_nP) (ps := ["self", "gaps", "beside"]) a_nP i_nP l_nP d_nP k_nP fun _ _ _ _ _ _ us hl => match us, hl with | [_, _, _], _ => rfl
 have N_CN := yu (C := CN) (st := zP) (ps := ["self", "flight", "time"]) a_nCN i_nCN l_nCN d_nCN k_nCN fun _ _ _ _ _ _ us hl => match us, hl with | [_, _, _], _ => rfl
 have XCN : XMk K mg "NoTime" CN tR := ⟨PySem.W.mg_of KX G AW, uM, beq_iff_eq.mp i_nCN, zC⟩
 have Z : Zs K mg CR CP CN := ⟨⟨PySem.W.mg_of KX G AW, xnamed2 uM, ⟨zF, zG, zE, zH, zB, Option.isSome_iff_exists.mp zD⟩⟩, ⟨uL, lA, uN⟩, ⟨uL, pz, uN⟩, K_CR, K_CP, (by intro C h; simp only [List.mem_cons, List.not_mem_nil, or_false] at h; exact h.elim (fun e => by subst e; exact ⟨K_CR.cl, oO⟩) (fun e => by subst e; exact ⟨K_CP.cl, lJ⟩)), (by intro C h; simp only [List.mem_cons, List.not_mem_nil, or_false] at h; subst h; exact ⟨K_CP.cl, ko⟩), PySem.W.mg_none_of KX G BC, PySem.W.mg_none_of KX G u4, PySem.W.mg_none_of KX G gx, PySem.W.mg_none_of KX G xi, PySem.W.mg_none_of KX G b8, PySem.W.mg_none_of KX G lz, PySem.W.mg_none_of KX G nc, PySem.W.mg_none_of KX G xh, PySem.W.mg_none_of KX G uK, PySem.W.mg_none_of KX G fw, PySem.W.mg_none_of KX G mU, PySem.W.mg_none_of KX G Cu, PySem.W.mg_none_of KX G px, ⟨_, PySem.W.mg_of KX G eZ⟩, ⟨_, PySem.W.mg_of KX G hI⟩, ⟨lI, jS, jO, iB, lG, eW, jQ, iI, iF, gW, jM, dS, jP, iH, iE, gU, jL, dR, iG, gY, gX, fY, iC, dw, lH, jR, jN, iA, lF, eV⟩⟩
 refine fin_mk D_law (fun s v => .of_eq rfl) fun base => law_ok (ro := false) (mlaw := Dy CR CP CN) (fun n => ?_) (law_true CR CP CN x_ne)
 have ER := okn_CN (P := l.prog) (w := w) (base := base) (mg := mg) N_CN.fn Z.aCN_flight Z.aCN_time
 have au := ya (n := n) (P := l.prog) (w := w) (base := base) Z  ae
 have eP := vo (n := n) (P := l.prog) (w := w) (base := base) Z ae au b9
 have jg := y0 (n := n) (P := l.prog) (w := w) (base := base) Z ae au cg
 have ic := qK (n := n) (P := l.prog) (w := w) (base := base) Z cg jg ae au bG
 have jF := tE (n := n) (P := l.prog) (w := w) (base := base) Z  cF
 have sX := Dl (n := n) (P := l.prog) (w := w) (base := base) Z  ji
 have l5 := vm (n := n) (P := l.prog) (w := w) (base := base) Z ji sX d7
 have j0 := rL (n := n) (P := l.prog) (w := w) (base := base) Z cF jF d7 l5 aJ
 have OKN_R := okn_R (n := n) (P := l.prog) (w := w) (base := base) (CR := CR) (CP := CP) (CN := CN) (C := CR) aJ j0 N_R.fn K_CR.cl oO
 have OKN_RP := okn_R (n := n) (P := l.prog) (w := w) (base := base) (CR := CR) (CP := CP) (CN := CN) (C := CP) aJ j0 N_R.fn K_CP.cl lJ
 have OKN_P := okn_P (n := n) (P := l.prog) (w := w) (base := base) (CR := CR) (CP := CP) (CN := CN) aJ j0 ⟨x_s1, x_s2, x_s3, k_nR⟩ N_R.bd OKN_RP K_CR.mg (PySem.W.mg_none_of KX G lz) N_P.fn K_CP.cl lJ ko
 have mT := xZ (n := n) (P := l.prog) (w := w) (base := base) Z N_P OKN_P N_R OKN_R eC
 have j4 := rN (n := n) (P := l.prog) (w := w) (base := base) Z ae au bV
 have ie := qL (n := n) (P := l.prog) (w := w) (base := base) Z b9 eP ae au bH
 have mS := xY (n := n) (P := l.prog) (w := w) (base := base) Z ae au eB
 have gK := pG (n := n) (P := l.prog) (w := w) (base := base) Z  bq
 have eQ := vq (n := n) (P := l.prog) (w := w) (base := base) Z  ba
 have l7 := vp (n := n) (P := l.prog) (w := w) (base := base) Z bq gK ba eQ d9
 have oG := A2 (n := n) (P := l.prog) (w := w) (base := base) Z ba eQ fU
 have gJ := A1 (n := n) (P := l.prog) (w := w) (base := base) Z  bW
 have fJ := nz (n := n) (P := l.prog) (w := w) (base := base) Z  aV
 have mQ := xW (n := n) (P := l.prog) (w := w) (base := base) Z aV fJ eA
 have jH := tG (n := n) (P := l.prog) (w := w) (base := base) Z  iw
 have l9 := vv (n := n) (P := l.prog) (w := w) (base := base) Z  jj
 have fQ := xX (n := n) (P := l.prog) (w := w) (base := base) Z pf jH ph l9 bw
 have oF := A0 (n := n) (P := l.prog) (w := w) (base := base) Z bW gJ eA mQ bw fQ N_CN XCN ER fS
 have ql := BV (n := n) (P := l.prog) (w := w) (base := base) Z  i0
 have eh := xV (n := n) (P := l.prog) (w := w) (base := base) Z fS oF bW gJ bw fQ i0 ql aU
 have jG := tF (n := n) (P := l.prog) (w := w) (base := base) Z ae au cG
 have j3 := rM (n := n) (P := l.prog) (w := w) (base := base) Z aU eh bU
 have l6 := vn (n := n) (P := l.prog) (w := w) (base := base) Z  d8
 have l8 := vt (n := n) (P := l.prog) (w := w) (base := base) Z d8 l6 da
 have OK_law := ok_law (n := n) (P := l.prog) (w := w) (base := base) Z b9 eP bG ic eC mT bV j4 bH ie eB mS d9 l7 fU oG aU eh cG jG bU j3 da l8 D_law
 exact OK_law
theorem walk {l : PySem.W.OpenLaw} {q : Program} {loose : List Str} {XP : (Str -> Option Value) -> Heap -> Prop} {YP : World -> Heap -> Prop} {d : DefRec} {K : Params -> PySem.W.Frag} (hn : l.most = some 63) (hdf : d.params.defaults = [])
  (hY : ∀ (w : World) (h : Heap), YP w h -> (K w.params).In h)
  (F : ∀ (w : World) (mg : Str -> Option Value) (fa : Addr) (h : Heap), (K w.params).In h -> h.Ns mainGlobals mg -> mg d.name = some (.ref fa) ->
   ∃ fd : FuncData, (∀ (s : Shared) (u : Value), BindsTo s fd ⟨[u], []⟩ [("_law_script", u)]) /\ ∀ base : Heap, (K w.params).In base -> base.Ns mainGlobals mg -> bx l.prog w (K w.params) mg base CX0 8 fa fd ["_law_script"] (BG (K w.params))) :
  PySem.W.WalkO q loose XP YP l.row.toRowW d [] (fun f vs => PySem.call f vs) :=
 L2.walk_of (n := 63) (k := 8) (x := "_law_script") (CX := fun _ => CX0) (sp := fun w => BG (K w.params)) hn (by decide) hdf ⟨rfl, by decide, by decide⟩ hY F (fun _ _ a ns hl _ hS => ⟨a, ns, rfl, hS, hl, fun _ => rfl⟩) fun _ _ _ _ _ z => z
end Ru
open PySem PySem.W PyProof.Rows
noncomputable def _root_.PySem.W.Fast.tw10449943810045492650 : Nat := 0
noncomputable def _root_.PySem.W.Fast.tw10736414613846858168 : Nat := 0
noncomputable def _root_.PySem.W.Fast.tw5098708949555159735 : Nat := 0
noncomputable def _root_.PySem.W.Fast.tw11220723495619441765 : Nat := 0
noncomputable def _root_.PySem.W.Fast.tw8442201710118285124 : Nat := 0
noncomputable def _root_.PySem.W.Fast.tw13654220372174104323 : Nat := 0
noncomputable def _root_.PySem.W.Fast.tw2042261388418342273 : Nat := 0
noncomputable def _root_.PySem.W.Fast.tw10044892644745184741 : Nat := 0
noncomputable def _root_.PySem.W.Fast.tw11519435778656274282 : Nat := 0
noncomputable def _root_.PySem.W.Fast.tw11331639446943980704 : Nat := 0
noncomputable def _root_.PySem.W.Fast.tw14158467496884068089 : Nat := 0
noncomputable def _root_.PySem.W.Fast.tw17975959723856920807 : Nat := 0
noncomputable def _root_.PySem.W.Fast.tw18032176416499327896 : Nat := 0
noncomputable def _root_.PySem.W.Fast.tw2073864097635920809 : Nat := 0
noncomputable def _root_.PySem.W.Fast.tw15074894125801940706 : Nat := 0
noncomputable def _root_.PySem.W.Fast.tw11291307509957806316 : Nat := 0
noncomputable def _root_.PySem.W.Fast.tw16560666464527683841 : Nat := 0
noncomputable def _root_.PySem.W.Fast.tw2393512588084718032 : Nat := 0
noncomputable def _root_.PySem.W.Fast.tw16782224710355462469 : Nat := 0
noncomputable def _root_.PySem.W.Fast.tw2742690210044102164 : Nat := 0
noncomputable def _root_.PySem.W.Fast.tw1760786925474270972 : Nat := 0
noncomputable def _root_.PySem.W.Fast.tw17051475877245809228 : Nat := 0
noncomputable def _root_.PySem.W.Fast.tw3013360328872664831 : Nat := 0
noncomputable def _root_.PySem.W.Fast.tw7853696323529315261 : Nat := 0
noncomputable def _root_.PySem.W.Fast.tw11097089247349369380 : Nat := 0
noncomputable def _root_.PySem.W.Fast.tw11386465614755324496 : Nat := 0
noncomputable def _root_.PySem.W.Fast.tw12300884372056079800 : Nat := 0
noncomputable def _root_.PySem.W.Fast.tw7343392775713136591 : Nat := 0
noncomputable def _root_.PySem.W.Fast.tw17586603850431160886 : Nat := 0
noncomputable def _root_.PySem.W.Fast.tw13133382984586929279 : Nat := 0
noncomputable def _root_.PySem.W.Fast.tw17795953458417088233 : Nat := 0
noncomputable def _root_.PySem.W.Fast.tw17572023140600109966 : Nat := 0
noncomputable def _root_.PySem.W.Fast.tw6894366950739553798 : Nat := 0
noncomputable def _root_.PySem.W.Fast.tw6705383751072968265 : Nat := 0
noncomputable def _root_.PySem.W.Fast.tw13452906733703203557 : Nat := 0
noncomputable def _root_.PySem.W.Fast.tw13866180913537275059 : Nat := 0
noncomputable def _root_.PySem.W.Fast.tw6507779155644283744 : Nat := 0
noncomputable def _root_.PySem.W.Fast.tw6129227723721599408 : Nat := 0
noncomputable def _root_.PySem.W.Fast.tw8357404602540507730 : Nat := 0
noncomputable def _root_.PySem.W.Fast.tw12153124819170611557 : Nat := 0
noncomputable def _root_.PySem.W.Fast.tw10641238702504044528 : Nat := 0
noncomputable def _root_.PySem.W.Fast.tw15443287272188112498 : Nat := 0
noncomputable def _root_.PySem.W.Fast.tw14022982663264274265 : Nat := 0
noncomputable def _root_.PySem.W.Fast.tw414405893889265480 : Nat := 0
noncomputable def _root_.PySem.W.Fast.tw11004523606458064170 : Nat := 0
noncomputable def _root_.PySem.W.Fast.tw5956690287229092638 : Nat := 0
noncomputable def _root_.PySem.W.Fast.tw2719714343937378612 : Nat := 0
noncomputable def _root_.PySem.W.Fast.tw16726650968350964069 : Nat := 0
noncomputable def _root_.PySem.W.Fast.tw12292548233543942432 : Nat := 0
noncomputable def _root_.PySem.W.Fast.tw3065102491176769067 : Nat := 0
noncomputable def _root_.PySem.W.Fast.tw12210124187833327933 : Nat := 0
noncomputable def _root_.PySem.W.Fast.tw3631282318021536585 : Nat := 0
noncomputable def _root_.PySem.W.Fast.tw14497238336156228474 : Nat := 0
noncomputable def _root_.PySem.W.Fast.tw12121756328329324486 : Nat := 0
noncomputable def _root_.PySem.W.Fast.tw4907963176743223801 : Nat := 0
noncomputable def _root_.PySem.W.Fast.tw13654326823807972964 : Nat := 0
noncomputable def _root_.PySem.W.Fast.tw16735642229305555085 : Nat := 0
noncomputable def _root_.PySem.W.Fast.tw16233590363812273502 : Nat := 0
noncomputable def _root_.PySem.W.Fast.tw5387142053541272139 : Nat := 0
noncomputable def _root_.PySem.W.Fast.tw17483482180960268127 : Nat := 0
noncomputable def _root_.PySem.W.Fast.tw17586312755366273767 : Nat := 0
noncomputable def _root_.PySem.W.Fast.tw8702489020859060499 : Nat := 0
noncomputable def _root_.PySem.W.Fast.tw2443813422697933439 : Nat := 0
noncomputable def _root_.PySem.W.Fast.tw17271986489785385235 : Nat := 0
noncomputable def _root_.PySem.W.Fast.tw14851566767619684715 : Nat := 0
noncomputable def _root_.PySem.W.Fast.tw2324626601574411375 : Nat := 0
noncomputable def _root_.PySem.W.Fast.tw17566124797009803199 : Nat := 0
set_option maxRecDepth 100000 in
set_option maxHeartbeats 0 in
theorem PySem.Challenge.cw_wakeorder_k24_what_pushes_holds : PySem.Challenge.rw_wakeorder_k24_what_pushes.Holds := by
 w_on; o_law; k_head; (case hw => w_witness2)
 k_fill
 refine Ru.walk (l := PySem.Challenge.rw_wakeorder_k24_what_pushes) rfl rfl (fun w h Y => PySem.W.kIn_of Y) ?F
 case F =>
  intro w mg fa h KX G hmg
  refine' Ru.all_mk KX G hmg ?EB ?AA ?AE ?Az ?Ay ?AB ?AD ?AG ?AF ?oO ?rV ?EC ?AJ ?AM ?AI ?AH ?AK ?AL ?AO ?AN ?lJ ?ko ?o2 ?o3 ?x_ne ?oE ?nK ?oi ?nS ?mK ?lO ?mv ?lW ?oB ?nJ ?oh ?nR ?iY ?iM ?iS ?iO ?l0 ?ku ?kM ?kz ?wZ ?vN ?wD ?vO ?mI ?lM ?mq ?lU ?jC ?jk ?jx ?jn ?oA ?nI ?og ?nQ ?jE ?jm ?jz ?jq ?iZ ?iN ?iT ?iP ?oz ?nH ?o9 ?nP ?ib ?i5 ?i9 ?i6 ?mM ?lQ ?mx ?lY ?mL ?lP ?mw ?lX ?qj ?pL ?qc ?pO ?qi ?pK ?q9 ?pN ?gq ?g5 ?gn ?g6 ?ou ?nF ?o7 ?nM ?l4 ?kC ?ky ?kO ?kB ?mP ?m9 ?lS ?mz ?m4 ?oy ?nG ?o8 ?nO ?qh ?pJ ?q0 ?pM ?sW ?sd ?sF ?sf ?ot ?nE ?o6 ?nL ?l3 ?kx ?kN ?kA ?jD ?jl ?jy ?jo ?mJ ?lN ?mr ?lV ?mO ?lR ?my ?lZ ?a_law ?l_law ?d_law ?k_law ?a_nR ?i_nR ?l_nR ?d_nR ?k_nR ?a_nP ?i_nP ?l_nP ?d_nP ?k_nP ?x_s1 ?x_s2 ?x_s3 ?AW ?a_nCN ?i_nCN ?l_nCN ?d_nCN ?k_nCN ?uM ?zC ?zF ?zG ?zE ?zH ?zB ?zD ?uL ?uN ?lA ?pz ?BC ?u4 ?gx ?xi ?b8 ?lz ?nc ?xh ?uK ?fw ?mU ?Cu ?px ?eZ ?hI ?lI ?jS ?jO ?iB ?lG ?eW ?jQ ?iI ?iF ?gW ?jM ?dS ?jP ?iH ?iE ?gU ?jL ?dR ?iG ?gY ?gX ?fY ?iC ?dw ?lH ?jR ?jN ?iA ?lF ?eV
  (case EB => k_is)
  (case AA => k_is)
  (case AE => k_is)
  (case Az => k_is)
  (case Ay => k_is)
  (case AB => k_is)
  (case AD => k_is)
  (case AG => k_is)
  (case AF => k_is)
  (case oO => k_is)
  (case rV => k_is)
  (case EC => k_is)
  (case AJ => k_is)
  (case AM => k_is)
  (case AI => k_is)
  (case AH => k_is)
  (case AK => k_is)
  (case AL => k_is)
  (case AO => k_is)
  (case AN => k_is)
  (case lJ => k_is)
  (case ko => k_is)
  (case o2 => k_is)
  (case o3 => k_is)
  (case x_ne => first | k_is | kernel_rfl | rfl | decide +kernel)
  (case oE => k_is)
  (case nK => k_is)
  (case oi => k_is)
  (case nS => k_is)
  (case mK => k_is)
  (case lO => k_is)
  (case mv => k_is)
  (case lW => k_is)
  (case oB => k_is)
  (case nJ => k_is)
  (case oh => k_is)
  (case nR => k_is)
  (case iY => k_is)
  (case iM => k_is)
  (case iS => k_is)
  (case iO => k_is)
  (case l0 => k_is)
  (case ku => k_is)
  (case kM => k_is)
  (case kz => k_is)
  (case wZ => k_is)
  (case vN => k_is)
  (case wD => k_is)
  (case vO => k_is)
  (case mI => k_is)
  (case lM => k_is)
  (case mq => k_is)
  (case lU => k_is)
  (case jC => k_is)
  (case jk => k_is)
  (case jx => k_is)
  (case jn => k_is)
  (case oA => k_is)
  (case nI => k_is)
  (case og => k_is)
  (case nQ => k_is)
  (case jE => k_is)
  (case jm => k_is)
  (case jz => k_is)
  (case jq => k_is)
  (case iZ => k_is)
  (case iN => k_is)
  (case iT => k_is)
  (case iP => k_is)
  (case oz => k_is)
  (case nH => k_is)
  (case o9 => k_is)
  (case nP => k_is)
  (case ib => k_is)
  (case i5 => k_is)
  (case i9 => k_is)
  (case i6 => k_is)
  (case mM => k_is)
  (case lQ => k_is)
  (case mx => k_is)
  (case lY => k_is)
  (case mL => k_is)
  (case lP => k_is)
  (case mw => k_is)
  (case lX => k_is)
  (case qj => k_is)
  (case pL => k_is)
  (case qc => k_is)
  (case pO => k_is)
  (case qi => k_is)
  (case pK => k_is)
  (case q9 => k_is)
  (case pN => k_is)
  (case gq => k_is)
  (case g5 => k_is)
  (case gn => k_is)
  (case g6 => k_is)
  (case ou => k_is)
  (case nF => k_is)
  (case o7 => k_is)
  (case nM => k_is)
  (case l4 => k_is)
  (case kC => k_is)
  (case ky => k_is)
  (case kO => k_is)
  (case kB => k_is)
  (case mP => k_is)
  (case m9 => k_is)
  (case lS => k_is)
  (case mz => k_is)
  (case m4 => k_is)
  (case oy => k_is)
  (case nG => k_is)
  (case o8 => k_is)
  (case nO => k_is)
  (case qh => k_is)
  (case pJ => k_is)
  (case q0 => k_is)
  (case pM => k_is)
  (case sW => k_is)
  (case sd => k_is)
  (case sF => k_is)
  (case sf => k_is)
  (case ot => k_is)
  (case nE => k_is)
  (case o6 => k_is)
  (case nL => k_is)
  (case l3 => k_is)
  (case kx => k_is)
  (case kN => k_is)
  (case kA => k_is)
  (case jD => k_is)
  (case jl => k_is)
  (case jy => k_is)
  (case jo => k_is)
  (case mJ => k_is)
  (case lN => k_is)
  (case mr => k_is)
  (case lV => k_is)
  (case mO => k_is)
  (case lR => k_is)
  (case my => k_is)
  (case lZ => k_is)
  (case a_law => k_is)
  (case l_law => k_is)
  (case d_law => k_is)
  (case k_law => k_is)
  (case a_nR => k_is)
  (case i_nR => k_is)
  (case l_nR => k_is)
  (case d_nR => k_is)
  (case k_nR => k_is)
  (case a_nP => k_is)
  (case i_nP => k_is)
  (case l_nP => k_is)
  (case d_nP => k_is)
  (case k_nP => k_is)
  (case x_s1 => first | k_is | kernel_rfl | rfl | decide +kernel)
  (case x_s2 => first | k_is | kernel_rfl | rfl | decide +kernel)
  (case x_s3 => first | k_is | kernel_rfl | rfl | decide +kernel)
  (case AW => first | k_is | kernel_rfl | rfl | decide +kernel)
  (case a_nCN => k_is)
  (case i_nCN => k_is)
  (case l_nCN => k_is)
  (case d_nCN => k_is)
  (case k_nCN => k_is)
  (case uM => first | k_is | kernel_rfl | rfl | decide +kernel)
  (case zC => first | k_is | kernel_rfl | rfl | decide +kernel)
  (case zF => first | k_is | kernel_rfl | rfl | decide +kernel)
  (case zG => first | k_is | kernel_rfl | rfl | decide +kernel)
  (case zE => first | k_is | kernel_rfl | rfl | decide +kernel)
  (case zH => first | k_is | kernel_rfl | rfl | decide +kernel)
  (case zB => first | k_is | kernel_rfl | rfl | decide +kernel)
  (case zD => first | k_is | kernel_rfl | rfl | decide +kernel)
  (case uL => first | k_is | kernel_rfl | rfl | decide +kernel)
  (case uN => first | k_is | kernel_rfl | rfl | decide +kernel)
  (case lA => first | k_is | kernel_rfl | rfl | decide +kernel)
  (case pz => first | k_is | kernel_rfl | rfl | decide +kernel)
  (case BC => k_is)
  (case u4 => k_is)
  (case gx => k_is)
  (case xi => k_is)
  (case b8 => k_is)
  (case lz => k_is)
  (case nc => k_is)
  (case xh => k_is)
  (case uK => k_is)
  (case fw => k_is)
  (case mU => k_is)
  (case Cu => k_is)
  (case px => k_is)
  (case eZ => k_is)
  (case hI => k_is)
  (case lI => first | k_is | kernel_rfl | rfl | decide +kernel)
  (case jS => first | k_is | kernel_rfl | rfl | decide +kernel)
  (case jO => first | k_is | kernel_rfl | rfl | decide +kernel)
  (case iB => first | k_is | kernel_rfl | rfl | decide +kernel)
  (case lG => first | k_is | kernel_rfl | rfl | decide +kernel)
  (case eW => first | k_is | kernel_rfl | rfl | decide +kernel)
  (case jQ => first | k_is | kernel_rfl | rfl | decide +kernel)
  (case iI => first | k_is | kernel_rfl | rfl | decide +kernel)
  (case iF => first | k_is | kernel_rfl | rfl | decide +kernel)
  (case gW => first | k_is | kernel_rfl | rfl | decide +kernel)
  (case jM => first | k_is | kernel_rfl | rfl | decide +kernel)
  (case dS => first | k_is | kernel_rfl | rfl | decide +kernel)
  (case jP => first | k_is | kernel_rfl | rfl | decide +kernel)
  (case iH => first | k_is | kernel_rfl | rfl | decide +kernel)
  (case iE => first | k_is | kernel_rfl | rfl | decide +kernel)
  (case gU => first | k_is | kernel_rfl | rfl | decide +kernel)
  (case jL => first | k_is | kernel_rfl | rfl | decide +kernel)
  (case dR => first | k_is | kernel_rfl | rfl | decide +kernel)
  (case iG => first | k_is | kernel_rfl | rfl | decide +kernel)
  (case gY => first | k_is | kernel_rfl | rfl | decide +kernel)
  (case gX => first | k_is | kernel_rfl | rfl | decide +kernel)
  (case fY => first | k_is | kernel_rfl | rfl | decide +kernel)
  (case iC => first | k_is | kernel_rfl | rfl | decide +kernel)
  (case dw => first | k_is | kernel_rfl | rfl | decide +kernel)
  (case lH => first | k_is | kernel_rfl | rfl | decide +kernel)
  (case jR => first | k_is | kernel_rfl | rfl | decide +kernel)
  (case jN => first | k_is | kernel_rfl | rfl | decide +kernel)
  (case iA => first | k_is | kernel_rfl | rfl | decide +kernel)
  (case lF => first | k_is | kernel_rfl | rfl | decide +kernel)
  (case eV => first | k_is | kernel_rfl | rfl | decide +kernel)
