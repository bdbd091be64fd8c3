import PyProof.Rows.All
import PyProof.InstStoreFacts
import PyProof.ExcInit
import PyProof.IsiBase
import PyProof.ExcAttrAll.ValueError
import OpenK.KDescr
import KE.KIsAll
import PyProof.Rows.CatchOwn
import PyProof.RulesTry
import PyProof.RulesAs
import PyProof.RulesDel
import OpenK.KOwn
import PyProof.ExcBaseAll.ValueError
import PyProof.StationsW
import Wide.All
import OpenK.AllK
import Wide.FinOn
import Lean
import PyProof.EqAt
import PyProof.EqKinds
import PyProof.NeKinds
import PyProof.TupleCall
import PySem.Challenge.RW_wakeorder_k22_earliest_times
set_option Elab.async false
set_option linter.all false
set_option maxRecDepth 100000
set_option hygiene false
set_option hygiene true
namespace L2
open PySem PySem.Spec PyProof.Rows
noncomputable abbrev Key := Sum Int Str
noncomputable def keyIs : Key -> Value -> Bool
 | .inl k, v => Value.isInt k v
 | .inr x, v => Value.isStrOf x v
noncomputable def keyH (w : World) : Key -> Int
 | .inl k => hashInt k
 | .inr x => hashStr w x
theorem cP : ∀ {k : Key} {v : Value}, keyIs k v = true -> (∃ i t, k = Sum.inl i /\ v = Value.int i t) \/ (∃ x t, k = Sum.inr x /\ v = Value.str x t)
 | .inl i, v, h => by
  obtain ⟨t, e⟩ := Value.isInt_shape (k := i) (v := v) h
  exact .inl ⟨i, t, rfl, e⟩
 | .inr x, v, h => by
  obtain ⟨t, e⟩ := Value.isStrOf_shape (x := x) (v := v) h
  exact .inr ⟨x, t, rfl, e⟩
theorem key_ll (a b : Int) : decide ((Sum.inl a : Key) = Sum.inl b) = (a == b) := by
 by_cases e : a = b
 ·subst e; simp
 ·have h : ¬ (Sum.inl a : Key) = Sum.inl b := fun q => e (Sum.inl.inj q)
  rw [decide_eq_false h]
  exact (beq_eq_false_iff_ne.mpr e).symm
theorem key_rr (a b : Str) : decide ((Sum.inr a : Key) = Sum.inr b) = decide (a = b) := by
 by_cases e : a = b
 ·subst e; simp
 ·have h : ¬ (Sum.inr a : Key) = Sum.inr b := fun q => e (Sum.inr.inj q)
  rw [decide_eq_false h, decide_eq_false e]
theorem key_lr (a : Int) (b : Str) : decide ((Sum.inl a : Key) = Sum.inr b) = false := decide_eq_false (fun q => nomatch q)
theorem key_rl (a : Str) (b : Int) : decide ((Sum.inr a : Key) = Sum.inl b) = false := decide_eq_false (fun q => nomatch q)
noncomputable def yx (prog : Program) (w : World) : PySem.KeyKind prog w Key where
 is := keyIs
 hash := keyH w
 inj := fun v a b ha hb => by
  rcases cP ha with ⟨i, t, rfl, rfl⟩ | ⟨x, t, rfl, rfl⟩
  ·rcases cP hb with ⟨j, u, rfl, e⟩ | ⟨y, u, rfl, e⟩
   ·injection e with e1 _; rw [e1]
   ·exact nomatch e
  ·rcases cP hb with ⟨j, u, rfl, e⟩ | ⟨y, u, rfl, e⟩
   ·exact nomatch e
   ·injection e with e1 _; rw [e1]
 byValue := fun k v h => by
  rcases cP h with ⟨i, t, rfl, rfl⟩ | ⟨x, t, rfl, rfl⟩ <;> rfl
 pyHash := fun hv h => by
  rcases cP hv with ⟨i, t, rfl, rfl⟩ | ⟨x, t, rfl, rfl⟩
  ·exact wpAny_pyHash_int h
  ·exact wpAny_pyHash_str h
 eqBool := fun hu hv h => by
  rcases cP hu with ⟨i, t, rfl, rfl⟩ | ⟨x, t, rfl, rfl⟩
  ·rcases cP hv with ⟨j, u, rfl, rfl⟩ | ⟨y, u, rfl, rfl⟩
   ·rw [key_ll] at h; exact wpAny_eqBool_int h
   ·rw [key_lr] at h; exact SeqAt.EqAt.int_str i t y u _ _ _ _ h
  ·rcases cP hv with ⟨j, u, rfl, rfl⟩ | ⟨y, u, rfl, rfl⟩
   ·rw [key_rl] at h; exact SeqAt.EqAt.str_int x t j u _ _ _ _ h
   ·rw [key_rr] at h; exact wpAny_eqBool_str h
 «strs» := fun k x t v h => by
  rcases cP h with ⟨i, u, rfl, e⟩ | ⟨y, u, rfl, e⟩
  ·exact nomatch e
  ·injection e with e1 _
   subst e1
   cases v <;> rfl
end L2
namespace L2
open PySem PySem.Spec PyProof.Rows
inductive V where
 | non | bl (b : Bool) | int (i : Int) | str (x : Str) | byt (b : Array UInt8) | flt (b : UInt64) | ref (a : Addr) | ty (n : String)
 deriving DecidableEq
noncomputable def RelV : V -> Value -> Prop
 | .non, u => u = Value.none
 | .bl b, u => u = Value.bool b
 | .int i, u => ∃ t, u = Value.int i t
 | .str x, u => ∃ t, u = Value.str x t
 | .byt b, u => ∃ t, u = Value.bytes b t
 | .flt b, u => ∃ t, u = Value.float b t
 | .ref a, u => u = Value.ref a
 | .ty n, u => u = Value.type n
noncomputable abbrev Vals : List V -> List Value -> Prop := Paired RelV
theorem Vals.length {xs : List V} {us : List Value} (r : Vals xs us) : xs.length = us.length := Paired.length r
theorem Vals.get : ∀ {xs : List V} {us : List Value} {i : Nat} {x : V}, Vals xs us -> xs[i]? = some x -> ∃ u, us[i]? = some u /\ RelV x u
 | _, _, _, _, .nil, e => by simp at e
 | _, _, 0, _, .cons r _, e => by simp at e; subst e; exact ⟨_, rfl, r⟩
 | _, _, i + 1, x, .cons _ t, e => by
  obtain ⟨u, h1, h2⟩ := Vals.get (i := i) (x := x) t (by simpa using e)
  exact ⟨u, by simpa using h1, h2⟩
theorem Vals.set {x : V} {u : Value} (r : RelV x u) : ∀ {xs : List V} {us : List Value} (i : Nat), Vals xs us -> Vals (xs.set i x) (us.set i u)
 | _, _, _, .nil => .nil
 | _, _, 0, .cons _ t => .cons r t
 | _, _, i + 1, .cons q t => .cons q (Vals.set r i t)
theorem Vals.append : ∀ {xs ys : List V} {us ws : List Value}, Vals xs us -> Vals ys ws -> Vals (xs ++ ys) (us ++ ws)
 | _, _, _, _, .nil, s => s
 | _, _, _, _, .cons r t, s => .cons r (Vals.append t s)
theorem Vals.take : ∀ {xs : List V} {us : List Value} (n : Nat), Vals xs us -> Vals (xs.take n) (us.take n)
 | _, _, 0, _ => .nil
 | _, _, _ + 1, .nil => .nil
 | _, _, n + 1, .cons r t => .cons r (Vals.take n t)
theorem Vals.drop : ∀ {xs : List V} {us : List Value} (n : Nat), Vals xs us -> Vals (xs.drop n) (us.drop n)
 | _, _, 0, r => r
 | _, _, _ + 1, .nil => .nil
 | _, _, n + 1, .cons _ t => Vals.drop n t
noncomputable def v7 : Option V -> Option Value -> Prop
 | some v, some u => RelV v u
 | none, none => True
 | _, _ => False
noncomputable def KV {κ : Type} : List (κ × V) -> List (κ × Value) -> Prop := Paired fun (p : κ × V) (q : κ × Value) => p.1 = q.1 /\ RelV p.2 q.2
noncomputable def kV : Key -> V
 | .inl i => .int i
 | .inr x => .str x
inductive HO where
  | lst (xs : List V)
  | tup (xs : List V)
  | dK (kvs : List (Key × V)) | dT (kvs : List (List Key × V))
  | set (S : Int -> Bool) (n : Nat)
  | ins (C dx : Addr) (fs : List (Str × V))
  | own (x : Addr)
  | xd (fs : List (Str × V))
  | met (f x : Addr)
  | rng (lo hi : Int)
  | frz (o : Obj) (u : HO)
  | tbl (ps : Array Value)
  | ext (φ : Heap -> Prop)
noncomputable abbrev Hp := Addr -> Option HO
noncomputable def upd (H : Hp) (a : Addr) (o : HO) : Hp := fun b => if b = a then some o else H b
theorem ar {H : Hp} {a : Addr} {o : HO} : upd H a o a = some o := by unfold upd; rw [if_pos rfl]
theorem aq {H : Hp} {a b : Addr} {o : HO} (h : b ≠ a) : upd H a o b = H b := by unfold upd; rw [if_neg h]
theorem aC {H : Hp} {a b : Addr} {o : HO} (h : H a = some o) (h' : H b = none) : a ≠ b := by
 intro e; subst e; rw [h] at h'; cases h'
section
variable (P : Program) (w : World)
noncomputable def eP (H : Hp) (h : Heap) (a : Addr) : HO -> Prop
 | .lst xs => xs.length <= sizeLine /\ ∃ (its : List Value) (n : Nat), Vals xs its /\ h.get? a = some { cls := .type "list", data := .seq its.toArray n }
 | .tup xs => xs.length <= sizeLine /\ ∃ its : List Value, Vals xs its /\ IsTup h a its.toArray
 | .dK kvs => kvs.length <= sizeLine /\ (a == sysModules) = false /\ ∃ vs, KV kvs vs /\ h.DictOf (yx P w) a vs
 | .dT kvs => kvs.length <= sizeLine /\ (a == sysModules) = false /\ ∃ xs : List (List Key × Addr × Value),
   Paired (fun (p : List Key × V) (q : List Key × Addr × Value) => p.1 = q.1 /\ H q.2.1 = some (.tup (p.1.map kV)) /\ RelV p.2 q.2.2) kvs xs /\
   ∃ o es ep, h.get? a = some o /\ o.ExactDict /\ o.data = .dict es ep /\ es.toList = xs.map (entryOfKey (tupleKind (yx P w))) /\ (xs.map (·.1)).Nodup
 | .set S n => h.SetOf (intKind P w) a S n
 | .ins C dx fs => H dx = some (.own a) /\ fs.length <= 1000 /\ dx ≠ a /\ h.get? a = some (PySem.W.instObj C dx) /\
   ∃ mA, h.Ns1 dx mA /\ (∀ f, v7 (fs.lookup f) (mA f)) /\ PySem.Within mA (fs.map (·.1))
 | .own _ => ∃ o, h.get? a = some o
 | .xd fs => ∃ mA, h.Ns1 a mA /\ ∀ f, v7 (fs.lookup f) (mA f)
 | .rng lo hi => ∃ t u v, h.get? a = some { cls := .type "range", data := .fields #[.int lo t, .int hi u, .int 1 v] }
 | .frz o u => h.get? a = some o /\ eP H h a u
 | .tbl ps => h.get? a = some { cls := .none, data := .fields ps }
 | .met f x => h.get? a = some (PySem.W.methodObj (.ref f) (.ref x))
 | .ext φ => φ h /\ (∃ o, h.get? a = some o) /\ ∀ h1 h2 : Heap, φ h1 -> (∀ o, h1.get? a = some o -> h2.get? a = some o) -> φ h2
noncomputable def HOk (H : Hp) (h : Heap) : Prop := ∀ a o, H a = some o -> eP P w H h a o
end
section
variable {P : Program} {w : World} {H H' : Hp} {h h' : Heap} {a : Addr} {o : HO}
theorem eP.lt (x : eP P w H h a o) : a < h.objs.size := by
 cases o with
 | lst xs => obtain ⟨_, _, _, _, e⟩ := x; exact Heap.lt_size e
 | tup xs => obtain ⟨_, _, _, p⟩ := x; exact p.lt
 | dK kvs => obtain ⟨_, _, _, _, o, _, _, e, _⟩ := x; exact Heap.lt_size e
 | dT kvs => obtain ⟨_, _, _, _, o, _, _, e, _⟩ := x; exact Heap.lt_size e
 | set S n => obtain ⟨o, _, _, _, e, _⟩ := x; exact Heap.lt_size e
 | ins C dx fs => obtain ⟨_, _, _, e, _⟩ := x; exact Heap.lt_size e
 | own y => obtain ⟨_, e⟩ := x; exact Heap.lt_size e
 | xd fs => obtain ⟨_, ⟨_, _, _, e, _⟩, _⟩ := x; exact Heap.lt_size e
 | rng lo hi => obtain ⟨_, _, _, e⟩ := x; exact Heap.lt_size e
 | frz ob u => obtain ⟨e, _⟩ := x; exact Heap.lt_size e
 | tbl ps => exact Heap.lt_size (show h.get? a = some _ from x)
 | met f y => exact Heap.lt_size (show h.get? a = some _ from x)
 | ext φ => obtain ⟨_, ⟨_, e⟩, _⟩ := x; exact Heap.lt_size e
theorem Paired.mapP {α β : Type} {F G : α -> β -> Prop} : ∀ {l₁ : List α} {l₂ : List β}, Paired F l₁ l₂ -> (∀ a b, F a b -> G a b) -> Paired G l₁ l₂
 | _, _, .nil, _ => .nil
 | _, _, .cons r t, f => .cons (f _ _ r) (Paired.mapP t f)
theorem eP.xV (x : eP P w H h a o) (k : ∀ b u, (b = a \/ H b = some (.own a)) -> h.get? b = some u -> h'.get? b = some u)
  (ho : ∀ b, H b = some (.own a) -> H' b = some (.own a)) (ht : ∀ b xs, H b = some (.tup xs) -> H' b = some (.tup xs)) : eP P w H' h' a o := by
 induction o with
 | lst xs => obtain ⟨z, its, n, r, e⟩ := x; exact ⟨z, its, n, r, k _ _ (.inl rfl) e⟩
 | tup xs => obtain ⟨z, its, r, ob, e, c⟩ := x; exact ⟨z, its, r, ob, k _ _ (.inl rfl) e, c⟩
 | dK kvs => obtain ⟨z, y, vs, r, ob, es, ep, e, c⟩ := x; exact ⟨z, y, vs, r, ob, es, ep, k _ _ (.inl rfl) e, c⟩
 | dT kvs =>
  obtain ⟨z, y, xs, r, ob, es, ep, e, c⟩ := x
  exact ⟨z, y, xs, Paired.mapP r fun p q z => ⟨z.1, ht _ _ z.2.1, z.2.2⟩, ob, es, ep, k _ _ (.inl rfl) e, c⟩
 | set S n => obtain ⟨ob, es, ep, t, e, c⟩ := x; exact ⟨ob, es, ep, t, k _ _ (.inl rfl) e, c⟩
 | ins C dx fs =>
  obtain ⟨d, z, ne, e, mA, ⟨od, es, ep, e2, c⟩, r⟩ := x
  exact ⟨ho _ d, z, ne, k _ _ (.inl rfl) e, mA, ⟨od, es, ep, k _ _ (.inr d) e2, c⟩, r⟩
 | own y => obtain ⟨ob, e⟩ := x; exact ⟨ob, k _ _ (.inl rfl) e⟩
 | xd fs => obtain ⟨mA, ⟨od, es, ep, e, c⟩, r⟩ := x; exact ⟨mA, ⟨od, es, ep, k _ _ (.inl rfl) e, c⟩, r⟩
 | rng lo hi => obtain ⟨t, u, v, e⟩ := x; exact ⟨t, u, v, k _ _ (.inl rfl) e⟩
 | frz ob u ih => obtain ⟨e, q⟩ := x; exact ⟨k _ _ (.inl rfl) e, ih q⟩
 | tbl ps =>
  have e : h.get? a = some { cls := .none, data := .fields ps } := x
  show h'.get? a = some { cls := .none, data := .fields ps }
  exact k a _ (.inl rfl) e
 | met f y =>
  have e : h.get? a = some (PySem.W.methodObj (.ref f) (.ref y)) := x
  show h'.get? a = some (PySem.W.methodObj (.ref f) (.ref y))
  exact k a _ (.inl rfl) e
 | ext φ => obtain ⟨p, ⟨o, e⟩, st⟩ := x; exact ⟨st _ _ p fun o q => k _ _ (.inl rfl) q, ⟨o, k _ _ (.inl rfl) e⟩, st⟩
theorem HOk.lt (x : HOk P w H h) (e : H a = some o) : a < h.objs.size := (x a o e).lt
theorem HOk.fresh (x : HOk P w H h) (e : h.objs.size <= a) : H a = none := by
 cases q : H a with
 | none => rfl
 | some u => exact absurd (Nat.lt_of_lt_of_le (x.lt q) e) (Nat.lt_irrefl _)
theorem HOk.kept (x : HOk P w H h) (k : ∀ b u, h.get? b = some u -> h'.get? b = some u) : HOk P w H h' := fun a o e =>
 (x a o e).xV (fun b u _ q => k b u q) (fun _ q => q) fun _ _ q => q
theorem HOk.laid (x : HOk P w H h) (k : ∀ b u, h.get? b = some u -> h'.get? b = some u) (hp : h.objs.size <= a) (new : eP P w (upd H a o) h' a o) : HOk P w (upd H a o) h' := fun b u e => by
 have hn := x.fresh hp
 by_cases hb : b = a
 ·subst hb; rw [ar] at e; cases e; exact new
 ·rw [aq hb] at e
  exact (x b u e).xV (fun c v _ q => k c v q) (fun c q => by rw [aq (aC q hn)]; exact q) fun c xs q => by rw [aq (aC q hn)]; exact q
end
noncomputable def Rd (H : Hp) (a : Addr) (u : HO) : Prop := H a = some u \/ ∃ o, H a = some (.frz o u)
theorem Rd.ok {P : Program} {w : World} {H : Hp} {h : Heap} {a : Addr} {u : HO} (r : Rd H a u) (x : HOk P w H h) : eP P w H h a u := by
 rcases r with r | ⟨o, r⟩
 ·exact x a u r
 ·obtain ⟨_, q⟩ := x a _ r
  exact q
noncomputable def Mut : Option HO -> Prop
 | some (.lst _) => True
 | some (.dK _) => True
 | some (.dT _) => True
 | some (.set _ _) => True
 | some (.ins _ _ _) => True
 | some (.ext _) => True
 | _ => False
section
variable {P : Program} {w : World} {H : Hp} {h h' : Heap} {x e : Addr} {o' : HO}
theorem HOk.write (ok : HOk P w H h) (mu : Mut (H x)) (he : e = x \/ H e = some (.own x)) (k : ∀ b u, b ≠ e -> h.get? b = some u -> h'.get? b = some u) (heo : ∃ u, h'.get? e = some u)
  (new : eP P w (upd H x o') h' x o') : HOk P w (upd H x o') h' := fun b u q => by
 have nown : ∀ c y, H c = some (.own y) -> c ≠ x := fun c y r z => by subst z; rw [r] at mu; exact mu
 have ntup : ∀ c xs, H c = some (.tup xs) -> c ≠ x := fun c xs r z => by subst z; rw [r] at mu; exact mu
 by_cases hb : b = x
 ·subst hb; rw [ar] at q; cases q; exact new
 ·rw [aq hb] at q
  by_cases hbe : b = e
  ·have q' : H b = some (.own x) := by
    rcases he with z | z
    ·exact absurd (hbe.trans z) hb
    ·rw [hbe]; exact z
   rw [q] at q'; cases q'
   obtain ⟨v, hv⟩ := heo
   exact ⟨v, by rw [hbe]; exact hv⟩
  ·refine (ok b u q).xV (fun c v hc r => k c v ?_ r) (fun c r => by rw [aq (nown c b r)]; exact r) fun c xs r => by rw [aq (ntup c xs r)]; exact r
   rcases hc with rfl | hc
   ·exact hbe
   ·rintro rfl
    rcases he with z | z
    ·exact nown c b hc z
    ·rw [hc] at z; cases z; exact hb rfl
end
structure Un (fs ex : List Addr) (H H' : Hp) (h h' : Heap) : Prop where
 keep : ∀ b o, h.get? b = some o -> H b = none -> b ∉ fs -> b ∉ ex -> h'.get? b = some o
 slot : ∀ b o, h.get? b = some o -> H b = none -> b ∈ fs -> b ∉ ex -> ∃ sl, h'.get? b = some { o with slots := sl }
 free : ∀ b o, h.get? b = some o -> H b = none -> b ∉ ex -> H' b = none
 there : ∀ b o, h.get? b = some o -> b ∉ ex -> ∃ o', h'.get? b = some o'
 tups : ∀ b xs, H b = some (.tup xs) -> H' b = some (.tup xs)
 frzs : ∀ b o u, H b = some (.frz o u) -> H' b = some (.frz o u)
 tbls : ∀ b ps, H b = some (.tbl ps) -> ∃ more, H' b = some (.tbl (ps ++ more))
section
variable {fs fs' ex ex' : List Addr} {H H1 H2 : Hp} {h h1 h2 h' : Heap} {a x e : Addr} {o : HO}
theorem Un.any (u : Un fs ex H H1 h h1) {b : Addr} {ob : Obj} (q : h.get? b = some ob) (n : H b = none) (hx : b ∉ ex) : ∃ sl, h1.get? b = some { ob with slots := sl } := by
 by_cases hb : b ∈ fs
 ·exact u.slot b ob q n hb hx
 ·exact ⟨ob.slots, u.keep b ob q n hb hx⟩
theorem Un.trans (a : Un fs ex H H1 h h1) (b : Un fs ex H1 H2 h1 h2) : Un fs ex H H2 h h2 where
 keep := fun c ob q n hc hx => b.keep c ob (a.keep c ob q n hc hx) (a.free c ob q n hx) hc hx
 slot := fun c ob q n hc hx => by
  obtain ⟨sl, e1⟩ := a.slot c ob q n hc hx
  obtain ⟨sl', e2⟩ := b.slot c _ e1 (a.free c ob q n hx) hc hx
  exact ⟨sl', e2⟩
 free := fun c ob q n hx => by
  obtain ⟨o', e1⟩ := a.there c ob q hx
  exact b.free c o' e1 (a.free c ob q n hx) hx
 there := fun c ob q hx => by
  obtain ⟨o', e1⟩ := a.there c ob q hx
  exact b.there c o' e1 hx
 tups := fun c xs q => b.tups c xs (a.tups c xs q)
 frzs := fun c ob xs q => b.frzs c ob xs (a.frzs c ob xs q)
 tbls := fun c ps q => by
  obtain ⟨m1, e1⟩ := a.tbls c ps q
  obtain ⟨m2, e2⟩ := b.tbls c _ e1
  exact ⟨m1 ++ m2, by rw [e2, Array.append_assoc]⟩
theorem Un.kept (k : ∀ b u, h.get? b = some u -> h'.get? b = some u) : Un fs ex H H h h' :=
 ⟨fun b ob q _ _ _ => k b ob q, fun b ob q _ _ _ => ⟨ob.slots, k b ob q⟩, fun _ _ _ n _ => n, fun b ob q _ => ⟨ob, k b ob q⟩, fun _ _ q => q, fun _ _ _ q => q, fun _ ps q => ⟨#[], by rw [q]; simp⟩⟩
theorem Un.refl : Un fs ex H H h h := Un.kept fun _ _ q => q
theorem Un.laid (k : ∀ b u, h.get? b = some u -> h'.get? b = some u) (hp : h.objs.size <= a) (hn : H a = none) : Un fs ex H (upd H a o) h h' where
 keep := fun b u q _ _ _ => k b u q
 slot := fun b u q _ _ _ => ⟨u.slots, k b u q⟩
 free := fun b u q n _ => by rw [aq (Nat.ne_of_lt (Nat.lt_of_lt_of_le (Heap.lt_size q) hp))]; exact n
 there := fun b u q _ => ⟨u, k b u q⟩
 tups := fun b xs q => by rw [aq (aC q hn)]; exact q
 frzs := fun b u xs q => by rw [aq (aC q hn)]; exact q
 tbls := fun b ps q => ⟨#[], by rw [aq (aC q hn), q]; simp⟩
theorem Un.write (mu : Mut (H x)) (he : e = x \/ H e = some (.own x)) (k : ∀ b u, b ≠ e -> h.get? b = some u -> h'.get? b = some u) (heo : ∃ u, h'.get? e = some u) : Un fs ex H (upd H x o) h h' := by
 have hx : ∀ b, H b = none -> b ≠ x := fun b n z => by subst z; rw [n] at mu; exact mu
 have hb : ∀ b, H b = none -> b ≠ e := fun b n z => by
  subst z
  rcases he with r | r
  ·exact hx b n r
  ·rw [n] at r; cases r
 have hm : ∀ b u, H b = some u -> ¬ Mut (some u) -> b ≠ x := fun b u q nm z => by subst z; rw [q] at mu; exact nm mu
 refine ⟨fun b u q n _ _ => k b u (hb b n) q, fun b u q n _ _ => ⟨u.slots, k b u (hb b n) q⟩, fun b u q n _ => by rw [aq (hx b n)]; exact n, fun b u q _ => ?_,
  fun b xs q => by rw [aq (hm b _ q fun z => z)]; exact q, fun b u xs q => by rw [aq (hm b _ q fun z => z)]; exact q, fun b ps q => ⟨#[], by rw [aq (hm b _ q fun z => z), q]; simp⟩⟩
 by_cases hbe : b = e
 ·subst hbe; exact heo
 ·exact ⟨u, k b u hbe q⟩
end
noncomputable def trk (h : Heap) (H : Hp) : List Addr := (List.range h.objs.size).filter fun a => (H a).isSome
noncomputable def hidT (h : Heap) (H : Hp) : Heap := PySem.W.hideAll h (trk h H)
theorem BU (h : Heap) (H : Hp) : (hidT h H).objs.size = h.objs.size := PySem.W.hideAll_size _ _
theorem hidT_get {h : Heap} {H : Hp} {b : Addr} {o : Obj} (e : h.get? b = some o) (n : H b = none) : (hidT h H).get? b = some o :=
 PySem.W.hideAll_get _ e fun hm => by
  have q : (H b).isSome = true := (List.mem_filter.mp hm).2
  rw [n] at q; simp at q
theorem of_hidT {h : Heap} {H : Hp} {b : Addr} {o : Obj} (e : (hidT h H).get? b = some o) : h.get? b = some o /\ H b = none := by
 have e' : h.get? b = some o := PySem.W.of_hideAll (trk h H) e
 refine ⟨e', ?_⟩
 cases q : H b with
 | none => rfl
 | some x =>
  have hm : b ∈ trk h H := List.mem_filter.mpr ⟨List.mem_range.mpr (Heap.lt_size e'), by simp [q]⟩
  have z : (hidT h H).get? b = none := PySem.W.hideAll_none (trk h H) hm
  rw [z] at e; cases e
end L2
namespace L2
open PySem PySem.Spec PyProof.Rows
structure Mod (K : PySem.W.Frag) (mg : Str -> Option Value) (base : Heap) : Prop where
 kin : K.In base
 glob : base.Ns mainGlobals mg
 blt : ∃ mb, base.Ns builtinsNs mb /\ ∀ x : Str, x ≠ "__name__" -> mb x = bootBuiltins x
 nolimit : base.NoLimit
structure Cx where
 prog : Program
 w : World
 K : PySem.W.Frag
 mg : Str -> Option Value
 base : Heap
 A : Around
 N : List Str
 s₀ : Shared
 H₀ : Hp
 env : Env
 outer : List Env
 stack : List Env
 ex : List Addr
 fn : Str -> Bool
 calm : Bool
 pn : List (Addr × Obj)
 xe : Value -> Shared -> Prop
noncomputable def frs (l : List Env) : List Addr := l.filterMap (·.frame)
noncomputable abbrev Cx.fs (X : Cx) : List Addr := frs X.outer
noncomputable def Vis (sc : Scope) (x : Str) : Prop := sc.names.lookup x = some .local \/ sc.names.lookup x = some .cell \/ sc.names.lookup x = some .free
noncomputable def Loc (sc : Scope) (x : Str) : Prop := sc.names.lookup x = some .local \/ sc.names.lookup x = some .cell
noncomputable def Look (env : Env) (h : Heap) (m : Str -> Option Value) (x : Str) (u : Value) : Prop :=
 (env.kindOf x = some .local /\ m x = some u) \/ ((env.kindOf x = some .cell \/ env.kindOf x = some .free) /\ ∃ c, env.cells.lookup x = some c /\ h.IsCell c (some u))
structure Cx.Ok (X : Cx) : Prop where
 mod : Mod X.K X.mg X.base
 kind : X.env.scope.kind = .function
 glob : X.env.globals = mainGlobals
 blt : X.env.builtins = builtinsNs
 above : X.s₀.heap.objs.size <= X.env.locals
 inj : ∀ x y c, X.env.cells.lookup x = some c -> X.env.cells.lookup y = some c -> x = y
 has : ∀ x, (X.env.kindOf x = some .cell \/ X.env.kindOf x = some .free) -> ∃ c, X.env.cells.lookup x = some c
 cab : ∀ x c, X.fn x = true -> X.env.cells.lookup x = some c -> X.s₀.heap.objs.size <= c
 hd : X.calm = true -> X.A.handled = none
 frames : X.A.frames = some X.stack
 stk : X.stack = X.outer \/ (X.stack = X.env :: X.outer /\ X.env.frame = some X.env.locals)
 exf : ∀ b ∈ X.ex, b ≠ X.env.locals /\ ∀ x c, X.env.cells.lookup x = some c -> c ≠ b
 bs : ∀ b o, X.base.get? b = some o -> X.s₀.heap.get? b = some o /\ X.H₀ b = none
 bsz : X.base.objs.size <= X.s₀.heap.objs.size
 noex : ∀ b o, X.base.get? b = some o -> b ∉ X.ex
 exfs : ∀ b ∈ X.ex, b ∉ X.fs
 wM : X.s₀.heap.FunFrames X.base X.outer
 frf : ∀ b ∈ X.fs, X.H₀ b = none
structure Inv (X : Cx) (pins : List (Addr × Obj)) (σ : List (Option V)) (H : Hp) (s : Shared) : Prop where
 ok : X.Ok
 os : s.os = X.s₀.os
 bare : AllBare s.gens
 base : Un X.fs X.ex X.H₀ H X.s₀.heap s.heap
 loc : ∃ m, s.heap.Ns X.env.locals m /\ ∀ (i : Nat) (x : Str) (v : V), X.N[i]? = some x -> σ[i]? = some (some v) -> Vis X.env.scope x -> ∃ u, RelV v u /\ Look X.env s.heap m x u
 cell : ∀ x c, X.env.cells.lookup x = some c -> ∃ v, s.heap.IsCell c v
 free : H X.env.locals = none
 freeC : ∀ x c, X.env.cells.lookup x = some c -> H c = none
 pin : ∀ p ∈ X.pn ++ pins, s.heap.get? p.1 = some p.2 /\ H p.1 = none /\ p.1 ≠ X.env.locals /\ p.1 ∉ X.fs /\ ∀ v, p.2.data ≠ .cell v
 hok : HOk X.prog X.w H s.heap
 len : σ.length = X.N.length
section
variable {X : Cx} {pins : List (Addr × Obj)} {σ : List (Option V)} {H H' : Hp} {s : Shared} {h' : Heap}
theorem Cx.Ok.nofr (ok : X.Ok) {b : Addr} {o : Obj} (e : X.base.get? b = some o) : b ∉ X.fs := fun hb => by
 have := (ok.wM.mem hb).1
 rw [e] at this; cases this
theorem Inv.bs (I : Inv X pins σ H s) : ∀ b o, X.base.get? b = some o -> s.heap.get? b = some o /\ H b = none := fun b o e =>
 ⟨I.base.keep b o (I.ok.bs b o e).1 (I.ok.bs b o e).2 (I.ok.nofr e) (I.ok.noex b o e), I.base.free b o (I.ok.bs b o e).1 (I.ok.bs b o e).2 (I.ok.noex b o e)⟩
theorem Inv.bk (I : Inv X pins σ H s) : ∀ b o, X.base.get? b = some o -> s.heap.get? b = some o := fun b o e => (I.bs b o e).1
theorem Inv.mod (I : Inv X pins σ H s) : Mod X.K X.mg X.base := I.ok.mod
theorem Inv.kIn (I : Inv X pins σ H s) : X.K.In s.heap := I.ok.mod.kin.keeps I.bk
theorem Inv.lt (I : Inv X pins σ H s) : X.env.locals < s.heap.objs.size := let ⟨_, hn, _⟩ := I.loc; hn.lt
theorem Inv.sz (I : Inv X pins σ H s) : X.s₀.heap.objs.size <= s.heap.objs.size := Nat.le_trans I.ok.above (Nat.le_of_lt I.lt)
theorem Inv.nofs (I : Inv X pins σ H s) {a : Addr} (h : s.heap.objs.size <= a) : a ∉ X.fs := fun hb => by
 obtain ⟨_, o, ho, _⟩ := I.ok.wM.mem hb
 exact absurd (Nat.lt_of_lt_of_le (Heap.lt_size ho) (Nat.le_trans I.sz h)) (Nat.lt_irrefl _)
theorem Inv.cne (I : Inv X pins σ H s) : ∀ x c, X.env.cells.lookup x = some c -> c ≠ X.env.locals := fun x c e z => by
 obtain ⟨v, o, ho, hd⟩ := I.cell x c e
 obtain ⟨m, ⟨o', es, ep, ho', hd', _⟩, _⟩ := I.loc
 rw [z, ho'] at ho; cases ho; rw [hd'] at hd; cases hd
theorem Inv.wM (I : Inv X pins σ H s) : s.heap.FunFrames X.base X.outer := by
 have all : ∀ (l : List Env), (∀ b ∈ frs l, b ∈ X.fs) -> X.s₀.heap.FunFrames X.base l -> s.heap.FunFrames X.base l := by
  intro l
  induction l with
  | nil => intro _ _; trivial
  | cons env r ih =>
   intro hs hl
   obtain ⟨hk, ⟨L, o, hf, hn, ho, hd⟩, hr⟩ := hl
   have hL : L ∈ X.fs := hs L (by unfold frs; rw [List.filterMap_cons, hf]; exact List.mem_cons_self)
   obtain ⟨sl, e⟩ := I.base.slot L o ho (I.ok.frf L hL) hL fun z => I.ok.exfs L z hL
   exact ⟨hk, ⟨L, _, hf, hn, e, hd⟩, ih (fun b hb => hs b (by unfold frs; rw [List.filterMap_cons, hf]; exact List.mem_cons_of_mem _ hb)) hr⟩
 exact all X.outer (fun _ hb => hb) I.ok.wM
theorem Inv.stack (I : Inv X pins σ H s) : s.heap.FunFrames X.base X.stack := by
 rcases I.ok.stk with e | ⟨e, hf⟩
 ·rw [e]; exact I.wM
 ·rw [e]
  obtain ⟨m, hn, _⟩ := I.loc
  refine .cons (by rw [I.ok.kind]; decide) hf hn ?_ I.wM
  exact Heap.get?_none_of_le (Nat.le_trans I.ok.bsz I.ok.above)
theorem Inv.sg (I : Inv X pins σ H s) : ∀ b ∈ frs X.stack, b ∈ X.env.locals :: X.fs := fun b hb => by
 rcases I.ok.stk with e | ⟨e, hf⟩
 ·rw [e] at hb; exact List.mem_cons_of_mem _ hb
 ·rw [e] at hb
  unfold frs at hb
  rw [List.filterMap_cons, hf] at hb
  exact hb
theorem Inv.B7 (I : Inv X pins σ H s) : ∀ b ∈ frs X.stack, H b = none := fun b hb => by
 rcases List.mem_cons.mp (I.sg b hb) with e | hb
 ·rw [e]; exact I.free
 ·obtain ⟨_, o, ho, _⟩ := I.ok.wM.mem hb
  exact I.base.free b o ho (I.ok.frf b hb) fun z => I.ok.exfs b z hb
theorem Inv.step {g' : Array GenState} {t' : Nat} {d' : Drawn} {ch : List Addr} (I : Inv X pins σ H s)
  (hch : ∀ b ∈ ch, (b ∈ X.ex \/ X.s₀.heap.objs.size <= b) /\ b ≠ X.env.locals /\ (∀ x c, X.env.cells.lookup x = some c -> c ≠ b) /\ ∀ p ∈ X.pn ++ pins, p.1 ≠ b)
  (keep : ∀ b o, b ≠ X.env.locals -> b ∉ X.fs -> b ∉ ch -> s.heap.get? b = some o -> H b = none -> h'.get? b = some o)
  (slot : ∀ b o, b ≠ X.env.locals -> b ∈ X.fs -> b ∉ ch -> s.heap.get? b = some o -> H b = none -> ∃ sl, h'.get? b = some { o with slots := sl }) (free : ∀ b o, b ∉ ch -> s.heap.get? b = some o -> H b = none -> H' b = none)
  (there : ∀ b o, b ∉ ch -> s.heap.get? b = some o -> ∃ o', h'.get? b = some o')
  (tups : ∀ b xs, H b = some (.tup xs) -> H' b = some (.tup xs)) (frzs : ∀ b o u, H b = some (.frz o u) -> H' b = some (.frz o u)) (tbls : ∀ b ps, H b = some (.tbl ps) -> ∃ more, H' b = some (.tbl (ps ++ more)))
  (ns : ∀ m, s.heap.Ns X.env.locals m -> h'.Ns X.env.locals m) (hok : HOk X.prog X.w H' h') (hg : AllBare g') :
  Inv X pins σ H' { s with heap := h', gens := g', drawn := d', toks := t' } := by
 have neL : ∀ b o, X.s₀.heap.get? b = some o -> b ≠ X.env.locals := fun b o e => Nat.ne_of_lt (Nat.lt_of_lt_of_le (Heap.lt_size e) I.ok.above)
 have neC : ∀ b o, X.s₀.heap.get? b = some o -> b ∉ X.ex -> b ∉ ch := fun b o e hx hb => by
  rcases (hch b hb).1 with z | z
  ·exact hx z
  ·exact absurd (Nat.lt_of_lt_of_le (Heap.lt_size e) z) (Nat.lt_irrefl _)
 have cellK : ∀ x c, X.env.cells.lookup x = some c -> ∀ v, s.heap.IsCell c v -> h'.IsCell c v := fun x c e v ⟨o, ho, hd⟩ => by
  have nch : c ∉ ch := fun z => (hch c z).2.2.1 x c e rfl
  by_cases hc : c ∈ X.fs
  ·obtain ⟨sl, q⟩ := slot c o (I.cne x c e) hc nch ho (I.freeC x c e)
   exact ⟨_, q, hd⟩
  ·exact ⟨o, keep c o (I.cne x c e) hc nch ho (I.freeC x c e), hd⟩
 refine ⟨I.ok, I.os, hg, ⟨fun b o e n hb hx => ?_, fun b o e n hb hx => ?_, fun b o e n hx => ?_, fun b o e hx => ?_, fun b xs e => tups b xs (I.base.tups b xs e), fun b o xs e => frzs b o xs (I.base.frzs b o xs e), fun b ps e => ?_⟩, ?_, fun x c e => ?_, ?_, fun x c e => ?_, fun p hp => ?_, hok, I.len⟩
 ·exact keep b o (neL b o e) hb (neC b o e hx) (I.base.keep b o e n hb hx) (I.base.free b o e n hx)
 ·obtain ⟨sl, e1⟩ := I.base.slot b o e n hb hx
  obtain ⟨sl', e2⟩ := slot b _ (neL b o e) hb (neC b o e hx) e1 (I.base.free b o e n hx)
  exact ⟨sl', e2⟩
 ·obtain ⟨o', e1⟩ := I.base.there b o e hx
  exact free b o' (neC b o e hx) e1 (I.base.free b o e n hx)
 ·obtain ⟨o', e1⟩ := I.base.there b o e hx
  exact there b o' (neC b o e hx) e1
 ·obtain ⟨m1, e1⟩ := I.base.tbls b ps e
  obtain ⟨m2, e2⟩ := tbls b _ e1
  exact ⟨m1 ++ m2, by rw [e2, Array.append_assoc]⟩
 ·obtain ⟨m, hn, hl⟩ := I.loc
  refine ⟨m, ns m hn, fun i x v e1 e2 e3 => ?_⟩
  obtain ⟨u, r, l⟩ := hl i x v e1 e2 e3
  refine ⟨u, r, ?_⟩
  rcases l with l | ⟨k, c, e, z⟩
  ·exact .inl l
  ·exact .inr ⟨k, c, e, cellK x c e _ z⟩
 ·obtain ⟨v, z⟩ := I.cell x c e
  exact ⟨v, cellK x c e v z⟩
 ·obtain ⟨m, ⟨o, _, _, ho, _⟩, _⟩ := I.loc
  exact free _ o (fun z => (hch _ z).2.1 rfl) ho I.free
 ·obtain ⟨v, o, ho, hd⟩ := I.cell x c e
  exact free c o (fun z => (hch c z).2.2.1 x c e rfl) ho (I.freeC x c e)
 ·obtain ⟨e, n, ne, nf, d⟩ := I.pin p hp
  have nch : p.1 ∉ ch := fun z => (hch p.1 z).2.2.2 p hp rfl
  exact ⟨keep p.1 p.2 ne nf nch e n, free p.1 p.2 nch e n, ne, nf, d⟩
theorem Inv.un {t' : Nat} (I : Inv X pins σ H s) (u : Un X.fs [] H H' s.heap h') (hok : HOk X.prog X.w H' h') : Inv X pins σ H' { s with heap := h', toks := t' } := by
 obtain ⟨m, ⟨o, es, ep, ho, r⟩, _⟩ := id I.loc
 obtain ⟨sl, hL⟩ := u.any ho I.free (by simp)
 exact I.step (g' := s.gens) (d' := s.drawn) (ch := []) (fun _ z => nomatch z) (fun b o _ hb _ e n => u.keep b o e n hb (by simp)) (fun b o _ hb _ e n => u.slot b o e n hb (by simp)) (fun b o _ e n => u.free b o e n (by simp)) (fun b o _ e => u.there b o e (by simp)) u.tups u.frzs u.tbls (fun m' hm => by
  obtain ⟨o', es', ep', ho', r'⟩ := hm
  rw [ho] at ho'; cases ho'
  exact ⟨_, es', ep', hL, r'⟩) hok I.bare
theorem Inv.call {g' : Array GenState} {t' : Nat} {d' : Drawn} {ch : List Addr} (I : Inv X pins σ H s) (u : Un (frs X.stack) ch H H' s.heap h') (hok : HOk X.prog X.w H' h') (hg : AllBare g')
  (hch : ∀ b ∈ ch, (b ∈ X.ex \/ X.s₀.heap.objs.size <= b) /\ b ≠ X.env.locals /\ (∀ x c, X.env.cells.lookup x = some c -> c ≠ b) /\ ∀ p ∈ X.pn ++ pins, p.1 ≠ b) :
  Inv X pins σ H' { s with heap := h', gens := g', drawn := d', toks := t' } := by
 obtain ⟨m, ⟨o, es, ep, ho, r⟩, _⟩ := id I.loc
 obtain ⟨sl, hL⟩ := u.any ho I.free fun z => (hch _ z).2.1 rfl
 exact I.step (ch := ch) hch (fun b o hL hb hc e n => u.keep b o e n (fun z => (List.mem_cons.mp (I.sg b z)).elim hL hb) hc) (fun b o _ _ hc e n => u.any e n hc) (fun b o hc e n => u.free b o e n hc) (fun b o hc e => u.there b o e hc) u.tups u.frzs u.tbls (fun m' hm => by
  obtain ⟨o', es', ep', ho', r'⟩ := hm
  rw [ho] at ho'; cases ho'
  exact ⟨_, es', ep', hL, r'⟩) hok hg
theorem Inv.turned {t' : Nat} {it : Addr} (I : Inv X pins σ H s) (k : ∀ b o, b ≠ it -> s.heap.get? b = some o -> h'.get? b = some o) (hn : H it = none) (hL : it ≠ X.env.locals)
  (h1 : it ∈ X.ex \/ X.s₀.heap.objs.size <= it) (h2 : ∀ x c, X.env.cells.lookup x = some c -> c ≠ it) (h3 : ∀ p ∈ X.pn ++ pins, p.1 ≠ it) : Inv X pins σ H { s with heap := h', toks := t' } := by
 have nit : ∀ b u, H b = some u -> b ≠ it := fun b u e z => by rw [z, hn] at e; cases e
 refine I.step (g' := s.gens) (d' := s.drawn) (ch := [it]) (fun b hb => ?_) (fun b o _ _ hc e _ => k b o (fun z => hc (by simp [z])) e) (fun b o _ _ hc e _ => ⟨o.slots, k b o (fun z => hc (by simp [z])) e⟩) (fun _ _ _ _ n => n)
  (fun b o hc e => ⟨o, k b o (fun z => hc (by simp [z])) e⟩) (fun _ _ e => e) (fun _ _ _ e => e) (fun b ps e => ⟨#[], by rw [e]; simp⟩) (fun m hm => ?_) (fun b u e => ?_) I.bare
 ·have e : b = it := by simpa using hb
  subst e
  exact ⟨h1, hL, h2, h3⟩
 ·obtain ⟨o, es, ep, ho, r⟩ := hm
  exact ⟨o, es, ep, k _ o (Ne.symm hL) ho, r⟩
 ·refine (I.hok b u e).xV (fun c v hc q => k c v ?_ q) (fun _ q => q) fun _ _ q => q
  rcases hc with z | z
  ·rw [z]; exact nit b u e
  ·exact nit c _ z
theorem Inv.tok (I : Inv X pins σ H s) (t : Nat) : Inv X pins σ H { s with toks := t } := I.un (h' := s.heap) (t' := t) Un.refl I.hok
theorem Inv.kept {t' : Nat} (I : Inv X pins σ H s) (k : ∀ b u, s.heap.get? b = some u -> h'.get? b = some u) : Inv X pins σ H { s with heap := h', toks := t' } := I.un (Un.kept k) (I.hok.kept k)
theorem Inv.laid {a : Addr} {o : HO} {t' : Nat} (I : Inv X pins σ H s) (k : ∀ b u, s.heap.get? b = some u -> h'.get? b = some u) (hp : s.heap.objs.size <= a) (new : eP X.prog X.w (upd H a o) h' a o) :
  Inv X pins σ (upd H a o) { s with heap := h', toks := t' } := I.un (Un.laid k hp (I.hok.fresh hp)) (I.hok.laid k hp new)
theorem Inv.write {x e : Addr} {o : HO} {t' : Nat} (I : Inv X pins σ H s) (mu : Mut (H x)) (he : e = x \/ H e = some (.own x)) (k : ∀ b u, b ≠ e -> s.heap.get? b = some u -> h'.get? b = some u) (heo : ∃ u, h'.get? e = some u)
  (new : eP X.prog X.w (upd H x o) h' x o) : Inv X pins σ (upd H x o) { s with heap := h', toks := t' } := I.un (Un.write mu he k heo) (I.hok.write mu he k heo new)
theorem Inv.weak {σ' : List (Option V)} (I : Inv X pins σ H s) (hl : σ'.length = σ.length) (w : ∀ (i : Nat) v, σ'[i]? = some (some v) -> σ[i]? = some (some v)) : Inv X pins σ' H s :=
 ⟨I.ok, I.os, I.bare, I.base, let ⟨m, hn, hl'⟩ := I.loc; ⟨m, hn, fun i x v e1 e2 e3 => hl' i x v e1 (w i v e2) e3⟩, I.cell, I.free, I.freeC, I.pin, I.hok, hl.trans I.len⟩
theorem Inv.tL {pins' : List (Addr × Obj)} (I : Inv X pins σ H s) (h : ∀ p ∈ pins', s.heap.get? p.1 = some p.2 /\ H p.1 = none /\ p.1 ≠ X.env.locals /\ p.1 ∉ X.fs /\ ∀ v, p.2.data ≠ .cell v) : Inv X pins' σ H s :=
 ⟨I.ok, I.os, I.bare, I.base, I.loc, I.cell, I.free, I.freeC, fun p hp => (List.mem_append.mp hp).elim (fun z => I.pin p (List.mem_append_left _ z)) (h p), I.hok, I.len⟩
theorem u7 {N : List Str} (hN : N.Nodup) {i j : Nat} {x : Str} (a : N[i]? = some x) (b : N[j]? = some x) : i = j := by
 obtain ⟨h1, e1⟩ := List.getElem?_eq_some_iff.mp a
 obtain ⟨h2, e2⟩ := List.getElem?_eq_some_iff.mp b
 exact (List.getElem_inj hN).mp (e1.trans e2.symm)
theorem B6 {M : Model} {A : Around} {E : Value -> Shared -> Prop} {i : Nat} {x : Str} {v : V} {u : Value} {Q : Unit -> Shared -> Prop} (I : Inv X pins σ H s) (hN : X.N.Nodup) (hi : X.N[i]? = some x) (hx : Loc X.env.scope x) (r : RelV v u)
  (h : ∀ s', Inv X pins (σ.set i (some v)) H s' -> (∃ a, Heap.SameBut a s.heap s'.heap /\ (a = X.env.locals \/ X.env.cells.lookup x = some a)) -> Q () s') (hf : X.fn x = true \/ X.env.scope.names.lookup x = some .local := by first | exact .inl rfl | exact .inr rfl | assumption) : wpAny M A (storeName X.env x u) Q E s := by
 obtain ⟨m, hn, hl⟩ := id I.loc
 have hcls : (X.env.scope.kind == .class || (X.env.scope.kind == .module && X.env.locals != X.env.globals)) = false := by rw [I.ok.kind]; rfl
 have hiσ : i < σ.length := by rw [I.len]; exact (List.getElem?_eq_some_iff.mp hi).1
 have cne := I.cne
 have tracked : ∀ {a : Addr} {h' : Heap}, (∃ o, s.heap.get? a = some o /\ H a = none) -> Heap.SameBut a s.heap h' -> HOk X.prog X.w H h' := fun {a h'} ha hs b ob e => by
  obtain ⟨_, _, hfree⟩ := ha
  refine (I.hok b ob e).xV (fun c w' hc q => (hs.2 c ?_).trans q) (fun _ q => q) fun _ _ q => q
  rintro rfl
  rcases hc with rfl | hc
  ·rw [hfree] at e; cases e
  ·rw [hfree] at hc; cases hc
 rcases hx with hk | hk
 ·refine wpAny_storeName_local hk hn (fun h' hn' hs => ?_) hcls
  obtain ⟨oL, _, _, hoL, _⟩ := id hn
  refine h _ ⟨I.ok, I.os, I.bare, ⟨fun b o e n hb hx => ?_, fun b o e n hb hx => ?_, I.base.free, fun b o e hx => ?_, I.base.tups, I.base.frzs, I.base.tbls⟩, ⟨_, hn', fun j y v' e1 e2 e3 => ?_⟩, fun y c e => ?_, I.free, I.freeC, fun p hp => ?_, tracked ⟨oL, hoL, I.free⟩ hs, by simpa using I.len⟩ ⟨_, hs, .inl rfl⟩
  ·exact (hs.2 b (Nat.ne_of_lt (Nat.lt_of_lt_of_le (Heap.lt_size e) I.ok.above))).trans (I.base.keep b o e n hb hx)
  ·obtain ⟨sl, e1⟩ := I.base.slot b o e n hb hx
   exact ⟨sl, (hs.2 b (Nat.ne_of_lt (Nat.lt_of_lt_of_le (Heap.lt_size e) I.ok.above))).trans e1⟩
  ·obtain ⟨o', e1⟩ := I.base.there b o e hx
   exact ⟨o', (hs.2 b (Nat.ne_of_lt (Nat.lt_of_lt_of_le (Heap.lt_size e) I.ok.above))).trans e1⟩
  ·by_cases hj : j = i
   ·subst hj
    rw [hi] at e1; cases e1
    rw [List.getElem?_set_self hiσ] at e2
    cases e2
    exact ⟨u, r, .inl ⟨hk, by simp⟩⟩
   ·rw [List.getElem?_set_ne (Ne.symm hj)] at e2
    obtain ⟨u', r', q⟩ := hl j y v' e1 e2 e3
    refine ⟨u', r', ?_⟩
    rcases q with ⟨k, e⟩ | ⟨k, c, e, z⟩
    ·refine .inl ⟨k, ?_⟩
     have : y ≠ x := fun e => hj (u7 hN e1 (e ▸ hi))
     simp [this, e]
    ·exact .inr ⟨k, c, e, z.sameBut hs (cne y c e)⟩
  ·obtain ⟨w', z⟩ := I.cell y c e
   exact ⟨w', z.sameBut hs (cne y c e)⟩
  ·obtain ⟨e, n, ne, nf, d⟩ := I.pin p hp
   exact ⟨(hs.2 p.1 ne).trans e, n, ne, nf, d⟩
 ·have hfn : X.fn x = true := by
   rcases hf with z | z
   ·exact z
   ·rw [z] at hk; cases hk
  obtain ⟨c, hc⟩ := I.ok.has x (.inl hk)
  obtain ⟨w', z⟩ := I.cell x c hc
  refine wpAny_storeName_cell I.ok.kind hk hc z (fun h' hc' hs => ?_)
  obtain ⟨oc, hoc, hocd⟩ := id z
  refine h { s with heap := h' } ⟨I.ok, I.os, I.bare, ⟨fun b o e n hb hx => ?_, fun b o e n hb hx => ?_, I.base.free, fun b o e hx => ?_, I.base.tups, I.base.frzs, I.base.tbls⟩, ⟨m, hn.sameBut hs (Ne.symm (cne x c hc)), fun j y v' e1 e2 e3 => ?_⟩, fun y c' e => ?_, I.free, I.freeC, fun p hp => ?_, tracked ⟨oc, hoc, I.freeC x c hc⟩ hs, by simpa using I.len⟩ ⟨c, hs, .inr hc⟩
  ·exact (hs.2 b (Nat.ne_of_lt (Nat.lt_of_lt_of_le (Heap.lt_size e) (I.ok.cab x c hfn hc)))).trans (I.base.keep b o e n hb hx)
  ·obtain ⟨sl, e1⟩ := I.base.slot b o e n hb hx
   exact ⟨sl, (hs.2 b (Nat.ne_of_lt (Nat.lt_of_lt_of_le (Heap.lt_size e) (I.ok.cab x c hfn hc)))).trans e1⟩
  ·obtain ⟨o', e1⟩ := I.base.there b o e hx
   exact ⟨o', (hs.2 b (Nat.ne_of_lt (Nat.lt_of_lt_of_le (Heap.lt_size e) (I.ok.cab x c hfn hc)))).trans e1⟩
  ·by_cases hj : j = i
   ·subst hj
    rw [hi] at e1; cases e1
    rw [List.getElem?_set_self hiσ] at e2
    cases e2
    exact ⟨u, r, .inr ⟨.inl hk, c, hc, hc'⟩⟩
   ·rw [List.getElem?_set_ne (Ne.symm hj)] at e2
    obtain ⟨u', r', q⟩ := hl j y v' e1 e2 e3
    refine ⟨u', r', ?_⟩
    rcases q with q | ⟨k, c', e, z'⟩
    ·exact .inl q
    ·refine .inr ⟨k, c', e, z'.sameBut hs ?_⟩
     rintro rfl
     exact hj (u7 hN e1 (I.ok.inj _ _ _ e hc ▸ hi))
  ·by_cases hcc : c' = c
   ·subst hcc; exact ⟨_, hc'⟩
   ·obtain ⟨w2, z2⟩ := I.cell y c' e
    exact ⟨w2, z2.sameBut hs hcc⟩
  ·obtain ⟨e, n, ne, nf, d⟩ := I.pin p hp
   refine ⟨(hs.2 p.1 ?_).trans e, n, ne, nf, d⟩
   intro q
   rw [q, hoc] at e
   have q' : oc = p.2 := Option.some.inj e
   exact d w' (by rw [<- q']; exact hocd)
theorem ny {M : Model} {A : Around} {E : Value -> Shared -> Prop} {i : Nat} {x : Str} {v : V} {u : Value} {Q : Unit -> Shared -> Prop} (I : Inv X pins σ H s) (hN : X.N.Nodup) (hi : X.N[i]? = some x) (hx : Loc X.env.scope x) (r : RelV v u)
  (h : ∀ s', Inv X pins (σ.set i (some v)) H s' -> Q () s') (hf : X.fn x = true \/ X.env.scope.names.lookup x = some .local := by first | exact .inl rfl | exact .inr rfl | assumption) : wpAny M A (storeName X.env x u) Q E s :=
 B6 I hN hi hx r (fun s' I' _ => h s' I') hf
theorem Inv.call' {s' : Shared} {ch : List Addr} (I : Inv X pins σ H s) (ho : s'.os = s.os) (u : Un (frs X.stack) ch H H' s.heap s'.heap) (hok : HOk X.prog X.w H' s'.heap) (hg : AllBare s'.gens)
  (hch : ∀ b ∈ ch, (b ∈ X.ex \/ X.s₀.heap.objs.size <= b) /\ b ≠ X.env.locals /\ (∀ x c, X.env.cells.lookup x = some c -> c ≠ b) /\ ∀ p ∈ X.pn ++ pins, p.1 ≠ b) : Inv X pins σ H' s' := by
 obtain ⟨h', g', d', t', o'⟩ := s'
 have e : o' = s.os := ho
 subst e
 exact I.call (g' := g') (t' := t') (d' := d') u hok hg hch
end
noncomputable abbrev XK := Value -> Option Addr -> Hp -> Prop
noncomputable abbrev St := List (Option V)
noncomputable abbrev VK := V -> Hp -> Prop
noncomputable abbrev TE := St -> Hp -> VK -> Prop
noncomputable abbrev TT := St -> Hp -> (Bool -> Hp -> Prop) -> Prop
noncomputable abbrev TA := St -> Hp -> (List V -> Hp -> Prop) -> Prop
structure Ends where
 nx : St -> Hp -> Prop
 rt : VK
 bk : St -> Hp -> Prop := fun _ _ => False
 ct : St -> Hp -> Prop := fun _ _ => False
noncomputable abbrev TS := Ends -> St -> Hp -> Prop
noncomputable def EP (X : Cx) (pins : List (Addr × Obj)) (σ : St) (Q : VK) (u : Value) (s' : Shared) : Prop := ∃ v H', Inv X pins σ H' s' /\ RelV v u /\ Q v H'
noncomputable def TP (X : Cx) (pins : List (Addr × Obj)) (σ : St) (Q : Bool -> Hp -> Prop) (b : Bool) (s' : Shared) : Prop := ∃ H', Inv X pins σ H' s' /\ Q b H'
noncomputable def AP (X : Cx) (pins : List (Addr × Obj)) (σ : St) (Q : List V -> Hp -> Prop) (us : List Value) (s' : Shared) : Prop := ∃ vs H', Inv X pins σ H' s' /\ Vals vs us /\ Q vs H'
noncomputable def SP (X : Cx) (pins : List (Addr × Obj)) (D : Ends) (f : Flow) (s' : Shared) : Prop :=
 match f with
 | .next => ∃ σ' H', Inv X pins σ' H' s' /\ D.nx σ' H'
 | .brk => ∃ σ' H', Inv X pins σ' H' s' /\ D.bk σ' H'
 | .cont => ∃ σ' H', Inv X pins σ' H' s' /\ D.ct σ' H'
 | .ret u => ∃ v σ' H', Inv X pins σ' H' s' /\ RelV v u /\ D.rt v H'
noncomputable def PE (X : Cx) (e : Expr) (t : TE) : Prop :=
 ∀ (pins : List (Addr × Obj)) (s : Shared) (σ : St) (H : Hp) (Q : VK), Inv X pins σ H s -> t σ H Q -> wpAny (model X.prog X.w) X.A (eval e X.env) (EP X pins σ Q) X.xe s
noncomputable def PT (X : Cx) (e : Expr) (t : TT) : Prop :=
 ∀ (pins : List (Addr × Obj)) (s : Shared) (σ : St) (H : Hp) (Q : Bool -> Hp -> Prop), Inv X pins σ H s -> t σ H Q -> wpAny (model X.prog X.w) X.A (isTrue e X.env (eval e X.env)) (TP X pins σ Q) X.xe s
noncomputable def PW (X : Cx) (e : Expr) (t : TT) : Prop :=
 ∀ (whole : Sem Value) (pins : List (Addr × Obj)) (s : Shared) (σ : St) (H : Hp) (Q : Bool -> Hp -> Prop), Inv X pins σ H s -> t σ H Q -> wpAny (model X.prog X.w) X.A (isTrue e X.env whole) (TP X pins σ Q) X.xe s
theorem PW.pt {X : Cx} {e : Expr} {t : TT} (h : PW X e t) : PT X e t := h _
noncomputable def PA (X : Cx) (es : List Expr) (t : TA) : Prop :=
 ∀ (pos : Pos) (pins : List (Addr × Obj)) (s : Shared) (σ : St) (H : Hp) (Q : List V -> Hp -> Prop), Inv X pins σ H s -> t σ H Q -> wpAny (model X.prog X.w) X.A (spliced (backTo pos (starEach es X.env))) (AP X pins σ Q) X.xe s
noncomputable def PS (X : Cx) (st : Stmt) (t : TS) : Prop :=
 ∀ (pins : List (Addr × Obj)) (s : Shared) (σ : St) (H : Hp) (D : Ends), Inv X pins σ H s -> t D σ H -> wpAny (model X.prog X.w) X.A (exec st X.env) (SP X pins D) X.xe s
noncomputable def PSs (X : Cx) (st : List Stmt) (t : TS) : Prop :=
 ∀ (pins : List (Addr × Obj)) (s : Shared) (σ : St) (H : Hp) (D : Ends), Inv X pins σ H s -> t D σ H -> wpAny (model X.prog X.w) X.A (execs st X.env) (SP X pins D) X.xe s
theorem thn {α : Type} {t : Sem α} {Q Q' : α -> Shared -> Prop} {M : Model} {A : Around} {E : Value -> Shared -> Prop} {s : Shared} (h : wpAny M A t Q E s) (hQ : ∀ a s, Q a s -> Q' a s) : wpAny M A t Q' E s := wpAny_mono h hQ fun _ _ x => x
end L2
namespace L2
open PySem PySem.Spec PyProof.Rows
section
variable {X : Cx}
noncomputable def tVar (i : Nat) : TE := fun σ H Q => ∃ v, σ[i]? = some (some v) /\ Q v H
noncomputable def tC (v : V) : TE := fun _ H Q => Q v H
theorem pe_var {i : Nat} {x : Str} {pos : Pos} (hN : X.N[i]? = some x) (hv : Vis X.env.scope x) (hd : (x == ("__debug__" : Str)) = false := by decide) (hcd : (x == ("__classdict__" : Str)) = false := by decide) : PE X (.Name x pos) (tVar i) := by
 intro pins s σ H Q I h
 obtain ⟨v, e, h⟩ := h
 obtain ⟨m, hn, hl⟩ := I.loc
 obtain ⟨u, r, l⟩ := hl i x v hN e hv
 have fin : EP X pins σ Q u s := ⟨v, H, I, r, h⟩
 rcases l with ⟨hk, hm⟩ | ⟨hk, c, hc, hcell⟩
 ·exact wpAny_Name (wpAny_loadName_local I.ok.kind hk hn hm fin) hd
 ·rcases hk with hk | hk
  ·exact wpAny_Name (wpAny_loadName_cell I.ok.kind hk hc hcell fin) hd
  ·exact wpAny_Name (wpAny_loadName_free I.ok.kind hk hc hcell fin hcd) hd
theorem vR {i j pos} : PE X (.Constant (.int i) j pos) (tC (.int i)) := fun _ _ _ H _ I h => wpAny_Constant_int ⟨.int i, H, I.tok _, ⟨_, rfl⟩, h⟩
theorem pe_bl {b j pos} : PE X (.Constant (.bool b) j pos) (tC (.bl b)) := fun _ _ _ H _ I h => Constant_bool ⟨.bl b, H, I, rfl, h⟩
theorem pe_non {j pos} : PE X (.Constant .none j pos) (tC .non) := fun _ _ _ H _ I h => Constant_none ⟨.non, H, I, rfl, h⟩
noncomputable def Gl (X : Cx) (x : Str) : Prop := X.env.kindOf x = some .globalImplicit
theorem iK {E : Value -> Shared -> Prop} {pins : List (Addr × Obj)} {s : Shared} {σ : St} {H : Hp} {x : Str} {u : Value} {pos : Pos} {Q : Value -> Shared -> Prop} (I : Inv X pins σ H s) (hg : Gl X x) (hm : X.mg x = some u) (h : Q u s)
  (hd : (x == ("__debug__" : Str)) = false := by decide) : wpAny (model X.prog X.w) X.A (eval (.Name x pos) X.env) Q E s :=
 Calls.Name_function_global I.ok.kind hg (Calls.loadGlobal_global (by rw [I.ok.glob]; exact I.mod.glob.keeps I.bk) hm h) hd
theorem wD {E : Value -> Shared -> Prop} {pins : List (Addr × Obj)} {s : Shared} {σ : St} {H : Hp} {x : Str} {u : Value} {pos : Pos} {Q : Value -> Shared -> Prop} (I : Inv X pins σ H s) (hg : Gl X x) (hm : X.mg x = none) (hv : bootBuiltins x = some u) (h : Q u s)
  (hn : x ≠ "__name__" := by decide) (hd : (x == ("__debug__" : Str)) = false := by decide) : wpAny (model X.prog X.w) X.A (eval (.Name x pos) X.env) Q E s := by
 obtain ⟨mb, h1, h2⟩ := I.mod.blt
 exact Calls.Name_function_global I.ok.kind hg (Calls.loadGlobal_builtin (by rw [I.ok.glob]; exact I.mod.glob.keeps I.bk) hm (by rw [I.ok.blt]; exact h1.keeps I.bk) ((h2 x hn).trans hv) h) hd
theorem Bs {x : Str} {v : V} {u : Value} {pos : Pos} (hg : Gl X x) (hm : X.mg x = some u) (r : RelV v u) (hd : (x == ("__debug__" : Str)) = false := by decide) : PE X (.Name x pos) (tC v) :=
 fun _ _ _ H _ I h => iK I hg hm ⟨v, H, I, r, h⟩ hd
theorem pe_bltn {x : Str} {v : V} {u : Value} {pos : Pos} (hg : Gl X x) (hm : X.mg x = none) (hv : bootBuiltins x = some u) (r : RelV v u) (hn : x ≠ "__name__" := by decide) (hd : (x == ("__debug__" : Str)) = false := by decide) : PE X (.Name x pos) (tC v) :=
 fun _ _ _ H _ I h => wD I hg hm hv ⟨v, H, I, r, h⟩ hn hd
variable {a b : Expr} {ta tb : TE} {pos : Pos}
variable {tA tB' : TT} {rest : List Expr}
noncomputable def tAnd (t u : TT) : TT := fun σ H Q => t σ H fun c H1 => if c = true then u σ H1 Q else Q false H1
noncomputable def tOr (t u : TT) : TT := fun σ H Q => t σ H fun c H1 => if c = true then Q true H1 else u σ H1 Q
noncomputable def tNot (t : TT) : TT := fun σ H Q => t σ H fun c H1 => Q (!c) H1
theorem pw_and1 (ha : PT X a tA) : PW X (.BoolOp .And [a] pos) tA := by
 intro wh pins s σ H Q I h
 refine isTrue_and (thn (ha pins s σ H Q I h) fun c s1 e => ?_)
 cases c with
 | true => exact isTrue_and_nil e
 | false => exact e
theorem pw_or1 (ha : PT X a tA) : PW X (.BoolOp .Or [a] pos) tA := by
 intro wh pins s σ H Q I h
 refine isTrue_or (thn (ha pins s σ H Q I h) fun c s1 e => ?_)
 cases c with
 | false => exact isTrue_or_nil e
 | true => exact e
theorem pw_and (ha : PT X a tA) (hb : PW X (.BoolOp .And (b :: rest) pos) tB') : PW X (.BoolOp .And (a :: b :: rest) pos) (tAnd tA tB') := by
 intro wh pins s σ H Q I h
 refine isTrue_and (thn (ha pins s σ H _ I h) fun c s1 ⟨H1, I1, q1⟩ => ?_)
 cases c with
 | true => exact hb wh pins s1 σ H1 Q I1 q1
 | false => exact ⟨H1, I1, q1⟩
theorem pw_or (ha : PT X a tA) (hb : PW X (.BoolOp .Or (b :: rest) pos) tB') : PW X (.BoolOp .Or (a :: b :: rest) pos) (tOr tA tB') := by
 intro wh pins s σ H Q I h
 refine isTrue_or (thn (ha pins s σ H _ I h) fun c s1 ⟨H1, I1, q1⟩ => ?_)
 cases c with
 | true => exact ⟨H1, I1, q1⟩
 | false => exact hb wh pins s1 σ H1 Q I1 q1
theorem pt_not (ha : PT X a tA) : PT X (.UnaryOp .Not a pos) (tNot tA) := by
 intro pins s σ H Q I h
 exact isTrue_not (ha pins s σ H (fun c H1 => Q (!c) H1) I h)
noncomputable def tAndV (ta tb : TE) : TE := fun σ H Q => ta σ H fun x H1 => ∃ c, x = .bl c /\ if c = true then tb σ H1 Q else Q (.bl false) H1
noncomputable def tNotV (ta : TE) : TE := fun σ H Q => ta σ H fun x H1 => ∃ c, x = .bl c /\ Q (.bl (!c)) H1
theorem pe_one {op} {t : TE} (h : PE X a t) : PE X (.BoolOp op [a] pos) t := fun pins s σ H Q I hw => BoolOp_one (h pins s σ H Q I hw)
theorem pe_and (ha : PE X a ta) (hb : PE X (.BoolOp .And (b :: rest) pos) tb) : PE X (.BoolOp .And (a :: b :: rest) pos) (tAndV ta tb) := by
 intro pins s σ H Q I h
 refine BoolOp_and (thn (ha pins s σ H _ I h) fun v s1 ⟨x, H1, I1, r1, q1⟩ => ?_)
 obtain ⟨c, rfl, q1⟩ := q1
 cases r1
 refine wpAny_truthy_bool ?_
 cases c with
 | true => exact hb pins s1 σ H1 Q I1 q1
 | false => exact ⟨.bl false, H1, I1, rfl, q1⟩
theorem pe_not (ha : PE X a ta) : PE X (.UnaryOp .Not a pos) (tNotV ta) := by
 intro pins s σ H Q I h
 refine UnaryOp_ (thn (ha pins s σ H _ I h) fun v s1 ⟨x, H1, I1, r1, q1⟩ => ?_)
 obtain ⟨c, rfl, q1⟩ := q1
 cases r1
 exact not_of (wpAny_truthy_bool ⟨.bl (!c), H1, I1, rfl, q1⟩)
noncomputable def tIf (t : TT) (ta tb : TE) : TE := fun σ H Q => t σ H fun c H1 => if c = true then ta σ H1 Q else tb σ H1 Q
theorem pe_ifExp {c : Expr} (hc : PT X c tA) (ha : PE X a ta) (hb : PE X b tb) : PE X (.IfExp c a b pos) (tIf tA ta tb) := by
 intro pins s σ H Q I h
 refine wpAny_IfExp (thn (hc pins s σ H _ I h) fun d s1 ⟨H1, I1, q1⟩ => ?_)
 cases d with
 | true => exact ha pins s1 σ H1 Q I1 q1
 | false => exact hb pins s1 σ H1 Q I1 q1
end
end L2
namespace L2
open PySem PySem.Spec PyProof.Rows
noncomputable def SqL (K : PySem.W.Frag) (H : Hp) (a : Addr) (xs : List V) : Prop :=
 Rd H a (.lst xs) \/
  ∃ (o : Obj) (its : Array Value) (n : Nat), K.lookup a = some o /\ o.cls = .type "list" /\ o.dict = none /\ o.data = .seq its n /\ its.size <= sizeLine /\ Vals xs its.toList
noncomputable def SqT (K : PySem.W.Frag) (H : Hp) (a : Addr) (xs : List V) : Prop :=
 Rd H a (.tup xs) \/
  ∃ (o : Obj) (its : Array Value) (n : Nat), K.lookup a = some o /\ o.cls = .type "tuple" /\ o.data = .seq its n /\ its.size <= sizeLine /\ Vals xs its.toList
noncomputable def absV : Value -> Option V
 | .none => some .non
 | .bool b => some (.bl b)
 | .int i _ => some (.int i)
 | .str x _ => some (.str x)
 | .bytes b _ => some (.byt b)
 | .float b _ => some (.flt b)
 | .ref a => some (.ref a)
 | .type n => some (.ty n)
 | _ => none
theorem RelV.abs {x : V} {u : Value} (r : RelV x u) : absV u = some x := by
 cases x with
 | non => cases r; rfl
 | bl _ => cases r; rfl
 | int _ => obtain ⟨t, rfl⟩ := r; rfl
 | str _ => obtain ⟨t, rfl⟩ := r; rfl
 | byt _ => obtain ⟨t, rfl⟩ := r; rfl
 | flt _ => obtain ⟨t, rfl⟩ := r; rfl
 | ref _ => cases r; rfl
 | ty _ => cases r; rfl
theorem RelV.inj {x y : V} {u : Value} (r : RelV x u) (q : RelV y u) : x = y := Option.some.inj (r.abs.symm.trans q.abs)
theorem Vals.inj : ∀ {xs ys : List V} {us : List Value}, Vals xs us -> Vals ys us -> xs = ys
 | _, _, _, .nil, .nil => rfl
 | _, _, _, .cons r t, .cons r' t' => by rw [r.inj r', Vals.inj t t']
section
variable {X : Cx} {pins : List (Addr × Obj)} {σ : St} {H : Hp} {s : Shared} {a : Addr} {xs ys : List V}
theorem SqL.of {K : PySem.W.Frag} (h : H a = some (.lst xs)) : SqL K H a xs := .inl (.inl h)
theorem SqT.of {K : PySem.W.Frag} (h : H a = some (.tup xs)) : SqT K H a xs := .inl (.inl h)
theorem Inv.list (I : Inv X pins σ H s) (h : SqL X.K H a xs) : ∃ its : List Value, Vals xs its /\ PlainL s.heap a its.toArray /\ xs.length <= sizeLine := by
 rcases h with h | ⟨o, its, n, hk, hc, hd, hs, hz, r⟩
 ·obtain ⟨z, its, n, r, e⟩ := h.ok I.hok
  exact ⟨its, r, ⟨_, n, e, rfl, rfl, rfl⟩, z⟩
 ·refine ⟨its.toList, r, ⟨o, n, I.kIn a o hk, hc, hd, by simpa using hs⟩, ?_⟩
  have e := r.length
  simp only [Array.length_toList] at e
  omega
theorem Inv.tuple (I : Inv X pins σ H s) (h : SqT X.K H a xs) : ∃ its : List Value, Vals xs its /\ IsTup s.heap a its.toArray /\ xs.length <= sizeLine := by
 rcases h with h | ⟨o, its, n, hk, hc, hs, hz, r⟩
 ·obtain ⟨z, its, r, p⟩ := h.ok I.hok
  exact ⟨its, r, p, z⟩
 ·refine ⟨its.toList, r, ⟨o, I.kIn a o hk, hc, n, by simpa using hs⟩, ?_⟩
  have e := r.length
  simp only [Array.length_toList] at e
  omega
theorem Inv.zK (I : Inv X pins σ H s) (h : SqL X.K H a xs) (h' : SqL X.K H a ys) : xs = ys := by
 obtain ⟨its, r, ⟨o, n, e, _, _, d⟩, _⟩ := I.list h
 obtain ⟨its', r', ⟨o', n', e', _, _, d'⟩, _⟩ := I.list h'
 rw [e] at e'; cases e'
 rw [d] at d'
 injection d' with d1 _
 have : its = its' := by simpa using congrArg Array.toList d1
 subst this
 exact r.inj r'
theorem Inv.AX (I : Inv X pins σ H s) (h : SqT X.K H a xs) (h' : SqT X.K H a ys) : xs = ys := by
 obtain ⟨its, r, ⟨o, e, _, n, d⟩, _⟩ := I.tuple h
 obtain ⟨its', r', ⟨o', e', _, n', d'⟩, _⟩ := I.tuple h'
 rw [e] at e'; cases e'
 rw [d] at d'
 injection d' with d1 _
 have : its = its' := by simpa using congrArg Array.toList d1
 subst this
 exact r.inj r'
end
noncomputable abbrev Cx.v9 (X : Cx) (E : Value -> Shared -> Prop) : Cx := { X with xe := E }
noncomputable abbrev Cx.nox (X : Cx) : Cx := X.v9 fun _ _ => False
theorem Cx.Ok.v9 {X : Cx} (ok : X.Ok) (E : Value -> Shared -> Prop) : (X.v9 E).Ok :=
 ⟨ok.mod, ok.kind, ok.glob, ok.blt, ok.above, ok.inj, ok.has, ok.cab, ok.hd, ok.frames, ok.stk, ok.exf, ok.bs, ok.bsz, ok.noex, ok.exfs, ok.wM, ok.frf⟩
theorem Cx.Ok.kC {X : Cx} {E : Value -> Shared -> Prop} (ok : (X.v9 E).Ok) : X.Ok :=
 ⟨ok.mod, ok.kind, ok.glob, ok.blt, ok.above, ok.inj, ok.has, ok.cab, ok.hd, ok.frames, ok.stk, ok.exf, ok.bs, ok.bsz, ok.noex, ok.exfs, ok.wM, ok.frf⟩
section
variable {X : Cx} {pins : List (Addr × Obj)} {σ : St} {H : Hp} {s : Shared} {E : Value -> Shared -> Prop}
theorem Inv.v9 (I : Inv X pins σ H s) (E : Value -> Shared -> Prop) : Inv (X.v9 E) pins σ H s := ⟨I.ok.v9 E, I.os, I.bare, I.base, I.loc, I.cell, I.free, I.freeC, I.pin, I.hok, I.len⟩
theorem Inv.kC (I : Inv (X.v9 E) pins σ H s) : Inv X pins σ H s := ⟨I.ok.kC, I.os, I.bare, I.base, I.loc, I.cell, I.free, I.freeC, I.pin, I.hok, I.len⟩
theorem SP.kC {D : Ends} {f : Flow} {s' : Shared} (h : SP (X.v9 E) pins D f s') : SP X pins D f s' := by
 cases f with
 | next => obtain ⟨σ', H', I, q⟩ := h; exact ⟨σ', H', I.kC, q⟩
 | brk => obtain ⟨σ', H', I, q⟩ := h; exact ⟨σ', H', I.kC, q⟩
 | cont => obtain ⟨σ', H', I, q⟩ := h; exact ⟨σ', H', I.kC, q⟩
 | ret u => obtain ⟨v, σ', H', I, r, q⟩ := h; exact ⟨v, σ', H', I.kC, r, q⟩
theorem PSs.nox {st : List Stmt} {t : TS} (h : PSs X.nox st t) : PSs X st t := fun pins s σ H D I hw =>
 wpAny_mono (h pins s σ H D (I.v9 _) hw) (fun _ _ q => q.kC) fun _ _ z => False.elim z
end
section
variable {X : Cx} {st : Stmt} {rest : List Stmt} {t u : TS} {e : Expr} {te : TE} {pos : Pos}
noncomputable def tNext : TS := fun D σ H => D.nx σ H
noncomputable def tSeq (t u : TS) : TS := fun D σ H => t { D with nx := u D } σ H
theorem yb : PSs X [] tNext := fun _ _ σ H _ I h => wpAny_execs_nil ⟨σ, H, I, h⟩
theorem jx (h1 : PS X st t) (h2 : PSs X rest u) : PSs X (st :: rest) (tSeq t u) := by
 intro pins s σ H D I h
 refine wpAny_execs_cons (thn (h1 pins s σ H { D with nx := u D } I h) fun f s1 q => ?_)
 cases f with
 | next =>
  obtain ⟨σ', H', I', q⟩ := q
  exact h2 pins s1 σ' H' D I' q
 | ret v => exact q
 | brk => exact q
 | cont => exact q
theorem qi (h1 : PS X st t) : PSs X [st] t := by
 intro pins s σ H D I h
 refine wpAny_execs_cons (thn (h1 pins s σ H D I h) fun f s1 q => ?_)
 cases f with
 | next => exact wpAny_execs_nil q
 | ret v => exact q
 | brk => exact q
 | cont => exact q
theorem Inv.quiet {pins : List (Addr × Obj)} {σ : St} {H : Hp} {s : Shared} (I : Inv X pins σ H s) : interactive X.env = false := by simp [interactive, I.ok.kind]
noncomputable def B2 (te : TE) : TS := fun D σ H => te σ H fun _ H1 => D.nx σ H1
theorem yc (he : PE X e te) (hs : swapsWith e none pos.line X.env = pure false := by rfl) : PS X (.Expr e pos) (B2 te) := by
 intro pins s σ H D I h
 exact wpAny_Expr_any (thn (he pins s σ H _ I h) fun v s1 ⟨x, H1, I1, r1, q1⟩ => ⟨σ, H1, I1, q1⟩) I.quiet hs
noncomputable def tRet (te : TE) : TS := fun D σ H => te σ H D.rt
theorem Bf (he : PE X e te) : PS X (.Return (some e) pos) (tRet te) := by
 intro pins s σ H D I h
 exact wpAny_Return_some (thn (he pins s σ H _ I h) fun v s1 ⟨x, H1, I1, r1, q1⟩ => ⟨x, σ, H1, I1, r1, q1⟩)
noncomputable def tIfS (c : TT) (t u : TS) : TS := fun D σ H => c σ H fun b H1 => if b = true then t D σ H1 else u D σ H1
theorem ps_if {c : Expr} {a b : List Stmt} {tc : TT} (hc : PT X c tc) (ha : PSs X a t) (hb : PSs X b u) : PS X (.If c a b pos) (tIfS tc t u) := by
 intro pins s σ H D I h
 refine wpAny_If (thn (hc pins s σ H _ I h) fun d s1 ⟨H1, I1, q1⟩ => ?_)
 cases d with
 | true => exact ha pins s1 σ H1 D I1 q1
 | false => exact hb pins s1 σ H1 D I1 q1
noncomputable def B1 : TS := fun _ _ _ => False
theorem qj {sts : List Stmt} : PSs X sts B1 := fun _ _ _ _ _ _ h => h.elim
end
noncomputable abbrev TG := V -> St -> Hp -> (St -> Hp -> Prop) -> Prop
noncomputable abbrev TGs := List V -> St -> Hp -> (St -> Hp -> Prop) -> Prop
noncomputable def PG (X : Cx) (target : Expr) (t : TG) : Prop :=
 ∀ (pins : List (Addr × Obj)) (s : Shared) (σ : St) (H : Hp) (v : V) (u : Value) (Q : St -> Hp -> Prop), Inv X pins σ H s -> RelV v u -> t v σ H Q ->
  wpAny (model X.prog X.w) X.A (assign target X.env u) (fun _ s' => ∃ σ' H', Inv X pins σ' H' s' /\ Q σ' H') X.xe s
noncomputable def PGs (X : Cx) (ts : List Expr) (t : TGs) : Prop :=
 ∀ (pins : List (Addr × Obj)) (s : Shared) (σ : St) (H : Hp) (vs : List V) (us : List Value) (Q : St -> Hp -> Prop), Inv X pins σ H s -> Vals vs us -> t vs σ H Q ->
  wpAny (model X.prog X.w) X.A (assignInOrder ((assignEach ts X.env).map (·.2)) us) (fun _ s' => ∃ σ' H', Inv X pins σ' H' s' /\ Q σ' H') X.xe s
noncomputable abbrev TSet := V -> V -> V -> Hp -> (Hp -> Prop) -> Prop
noncomputable def PSet (X : Cx) (t : TSet) : Prop :=
 ∀ (pins : List (Addr × Obj)) (s : Shared) (σ : St) (H : Hp) (o i v : V) (ov iv u : Value) (Q : Hp -> Prop), Inv X pins σ H s -> RelV o ov -> RelV i iv -> RelV v u -> t o i v H Q ->
  wpAny (model X.prog X.w) X.A (setItem ov iv u) (fun _ s' => ∃ H', Inv X pins σ H' s' /\ Q H') X.xe s
section
variable {X : Cx} {pos : Pos}
noncomputable def oO (i : Nat) : TG := fun v σ H Q => Q (σ.set i (some v)) H
theorem yh {i : Nat} {x : Str} (hN : X.N.Nodup) (hi : X.N[i]? = some x) (hx : Loc X.env.scope x) (hf : X.fn x = true \/ X.env.scope.names.lookup x = some .local := by first | exact .inl rfl | exact .inr rfl | assumption) : PG X (.Name x pos) (oO i) := by
 intro pins s σ H v u Q I r h
 exact wpAny_assign_Name (ny I hN hi hx r (fun s' I' => ⟨_, H, I', h⟩) hf)
noncomputable def gNil : TGs := fun vs σ H Q => vs = [] /\ Q σ H
noncomputable def gCons (t : TG) (u : TGs) : TGs := fun vs σ H Q => ∃ v r, vs = v :: r /\ t v σ H fun σ' H' => u r σ' H' Q
theorem pgs_nil : PGs X [] gNil := by
 intro pins s σ H vs us Q I r h
 obtain ⟨e, h⟩ := h
 subst e
 cases r
 exact assignInOrder_nil ⟨σ, H, I, h⟩
theorem zH {e : Expr} {es : List Expr} {t : TG} {u : TGs} (h1 : PG X e t) (h2 : PGs X es u)
  (hs : (assignEach (e :: es) X.env).map (·.2) = assign e X.env :: (assignEach es X.env).map (·.2) := by rfl) : PGs X (e :: es) (gCons t u) := by
 intro pins s σ H vs us Q I r h
 obtain ⟨v, vr, e1, h⟩ := h
 subst e1
 cases r with
 | cons r rr =>
  rw [hs]
  refine assignInOrder_cons (thn (h1 pins s σ H _ _ _ I r h) fun _ s1 ⟨σ1, H1, I1, q1⟩ => ?_)
  exact h2 pins s1 σ1 H1 _ _ Q I1 rr q1
noncomputable def gTup (K : PySem.W.Frag) (n : Nat) (t : TGs) : TG := fun v σ H Q => ∃ a xs, v = .ref a /\ SqT K H a xs /\ xs.length = n /\ t xs σ H Q
theorem pg_tup {es : List Expr} {k : Nat} {t : TGs} {n : Nat} (hc : X.calm = true) (h : PGs X es t)
  (hn : (assignEach es X.env).length = n := by rfl) (hst : (assignEach es X.env).findIdx? (·.1) = none := by rfl) : PG X (.Tuple es k pos) (gTup X.K n t) := by
 intro pins s σ H v u Q I r hw
 obtain ⟨a, xs, e1, hq, hl, hw⟩ := hw
 subst e1
 cases r
 obtain ⟨its, rv, ht, hz⟩ := I.tuple hq
 refine assign_Tuple_tuple (I.ok.hd hc) ht (by simp [hn, <- hl, rv.length]) hst fun h' hx => ?_
 have I1 : Inv X pins σ H { s with heap := h' } := I.kept (t' := s.toks) fun b o e => hx b o (Nat.ne_of_lt (Heap.lt_size e)) e
 exact h pins _ σ H xs _ Q I1 (by simpa using rv) hw
noncomputable def gSub (to ti : TE) (t : TSet) : TG := fun v σ H Q => to σ H fun o H1 => ti σ H1 fun i H2 => t o i v H2 fun H3 => Q σ H3
theorem pg_sub {o i : Expr} {to ti : TE} {t : TSet} (ho : PE X o to) (hi : PE X i ti) (hs : PSet X t)
  (ha : ∀ v, assign (.Subscript o i pos) X.env v = (do
   let ov <- holding [v] (eval o X.env)
   let iv <- holding [v, ov] (eval i X.env)
   standAt pos
   holding [v, ov, iv] (setItem ov iv v)
   release [v, ov, iv] []) := by intro _; rfl) : PG X (.Subscript o i pos) (gSub to ti t) := by
 intro pins s σ H v u Q I r h
 rw [ha]
 refine wpAny_bind (wpAny_holding (thn (ho pins s σ H _ I h) fun ov s1 ⟨x, H1, I1, r1, q1⟩ => ?_))
 refine wpAny_bind (wpAny_holding (thn (hi pins s1 σ H1 _ I1 q1) fun iv s2 ⟨y, H2, I2, r2, q2⟩ => ?_))
 refine wpAny_bind (wpAny_standAt (wpAny_bind (wpAny_holding (thn (hs pins s2 σ H2 x y v ov iv u _ I2 r1 r2 r q2) fun _ s3 ⟨H3, I3, q3⟩ => ?_))))
 exact wpAny_release ⟨σ, H3, I3, q3⟩
noncomputable def AM (te : TE) (g : TG) : TS := fun D σ H => te σ H fun x H1 => g x σ H1 D.nx
theorem Bh {tg e : Expr} {te : TE} {g : TG} (he : PE X e te) (hg : PG X tg g) (hs : swapsWithSole [tg] e pos.line X.env = pure false := by rfl) (hw : swappedStores [tg] e X.env = pure none := by rfl)
  (h1 : (assignEach [tg] X.env).map (·.2) = [assign tg X.env] := by rfl) : PS X (.Assign [tg] e pos) (AM te g) := by
 intro pins s σ H D I h
 refine wpAny_Assign_stores (thn (he pins s σ H _ I h) fun v s1 ⟨x, H1, I1, r1, q1⟩ => ?_) hs hw
 rw [h1]
 exact thn (hg pins s1 σ H1 x v _ I1 r1 q1) fun _ s2 q => q
theorem zG {i : Nat} {x : Str} {e : Expr} {te : TE} {pos' : Pos} (hN : X.N.Nodup) (hi : X.N[i]? = some x) (hx : Loc X.env.scope x) (he : PE X e te) (hs : swapsWith e (some (.Name x pos')) pos.line X.env = pure false := by rfl) (hf : X.fn x = true \/ X.env.scope.names.lookup x = some .local := by first | exact .inl rfl | exact .inr rfl | assumption) :
  PS X (.Assign [.Name x pos'] e pos) (AM te (oO i)) := by
 intro pins s σ H D I h
 refine wpAny_Assign_Name (thn (he pins s σ H _ I h) fun v s1 ⟨y, H1, I1, r1, q1⟩ => ?_) hs
 exact ny I1 hN hi hx r1 (fun s2 I2 => ⟨_, H1, I2, q1⟩) hf
end
section
variable {X : Cx} {pos : Pos}
noncomputable def tWhile (c : TT) (tb : TS) : TS := fun D σ H => ∃ W : Nat -> St -> Hp -> Prop, (∃ m, W m σ H) /\ ∀ m σ H, W m σ H ->
 c σ H fun b H1 => if b = true then ∃ N : St -> Hp -> Prop, (∀ σ' H', N σ' H' -> ∃ m', m' < m /\ W m' σ' H') /\ tb { D with nx := N, ct := N, bk := D.nx } σ H1 else D.nx σ H1
theorem ps_while {c : Expr} {body : List Stmt} {tc : TT} {tb : TS} (hp : PassesOwn (model X.prog X.w) X.A X.env X.xe) (hc : PT X c tc) (hb : PSs X body tb) : PS X (.While c body [] pos) (tWhile tc tb) := by
 intro pins s σ H D I h
 obtain ⟨W, ⟨m0, w0⟩, turn⟩ := h
 refine wpAny_While (codeAny_whileLoop (fun n s' => ∃ σ' H', Inv X pins σ' H' s' /\ W n σ' H') ?_ m0 ⟨σ, H, I, w0⟩)
 rintro n s1 ⟨σ1, H1, I1, w1⟩
 refine wpAny_passesOwn hp (thn (hc pins s1 σ1 H1 _ I1 (turn n σ1 H1 w1)) fun b s2 ⟨H2, I2, q2⟩ => ?_)
 cases b with
 | true =>
  obtain ⟨N, hN, q2⟩ := q2
  rw [if_pos rfl]
  refine wpAny_passesOwn hp (thn (hb pins s2 σ1 H2 _ I2 q2) fun f s3 q3 => ?_)
  cases f with
  | next =>
   obtain ⟨σ3, H3, I3, n3⟩ := q3
   obtain ⟨m', hm, w3⟩ := hN σ3 H3 n3
   exact ⟨m', hm, σ3, H3, I3, w3⟩
  | cont =>
   obtain ⟨σ3, H3, I3, n3⟩ := q3
   obtain ⟨m', hm, w3⟩ := hN σ3 H3 n3
   exact ⟨m', hm, σ3, H3, I3, w3⟩
  | brk => exact q3
  | ret v => exact q3
 | false =>
  rw [if_neg Bool.false_ne_true]
  exact wpAny_execs_nil ⟨σ1, H2, I2, q2⟩
end
structure It where
 go : Nat -> Hp -> Prop
 yld : Nat -> Hp -> V -> Hp -> Prop
 stop : Nat -> Hp -> Prop
noncomputable def AN (X : Cx) (pins : List (Addr × Obj)) (H : Hp) (b : Addr) : Prop :=
 H b = none /\ b ≠ X.env.locals /\ b ∉ X.fs /\ (b ∈ X.ex \/ X.s₀.heap.objs.size <= b) /\ (∀ x c, X.env.cells.lookup x = some c -> c ≠ b) /\ ∀ p ∈ X.pn ++ pins, p.1 ≠ b
theorem Inv.fpOk {X : Cx} {pins : List (Addr × Obj)} {σ : St} {H H' : Hp} {s : Shared} {b : Addr} (I : Inv X pins σ H s) (hb : s.heap.objs.size <= b) (hn : H' b = none) : AN X pins H' b := by
 refine ⟨hn, Nat.ne_of_gt (Nat.lt_of_lt_of_le I.lt hb), I.nofs hb, .inr (Nat.le_trans I.sz hb), fun x c e z => ?_, fun p hp z => ?_⟩
 ·obtain ⟨v, q⟩ := I.cell x c e
  exact absurd (Nat.lt_of_lt_of_le q.lt (by rw [z]; exact hb)) (Nat.lt_irrefl _)
 ·exact absurd (Nat.lt_of_lt_of_le (Heap.lt_size (I.pin p hp).1) (by rw [z]; exact hb)) (Nat.lt_irrefl _)
structure Turn (P : Program) (w : World) (K : PySem.W.Frag) (tg : Expr) (J : It) (fp : List Addr) (it : Addr) (tn : Nat -> Heap -> Prop) : Prop where
 mem : it ∈ fp
 obj : ∀ i h, tn i h -> ∀ b ∈ fp, ∃ o, h.get? b = some o /\ ∀ v, o.data ≠ .cell v
 keep : ∀ i h h', tn i h -> (∀ b ∈ fp, ∀ o, h.get? b = some o -> h'.get? b = some o) -> tn i h'
 item : ∀ (X : Cx), X.prog = P -> X.w = w -> X.K = K -> X.calm = true -> ∀ (i : Nat) (pins : List (Addr × Obj)) (s : Shared) (σ : St) (H : Hp) (E : Value -> Shared -> Prop), Inv X pins σ H s -> (∀ b ∈ fp, AN X pins H b) -> tn i s.heap -> J.go i H ->
  wpAny (model P w) X.A (pyNext (.ref it)) (fun r s1 => ∃ u, r = some u /\
   wpAny (model P w) X.A (letOwnedTupleGo tg (.ref it) u) (fun _ s2 => ∃ x H', Inv X pins σ H' s2 /\ RelV x u /\ J.yld i H x H' /\ tn (i + 1) s2.heap /\ ∀ b ∈ fp, H' b = none) E s1) E s
 done : ∀ (X : Cx), X.prog = P -> X.w = w -> X.K = K -> X.calm = true -> ∀ (i : Nat) (pins : List (Addr × Obj)) (s : Shared) (σ : St) (H : Hp) (E : Value -> Shared -> Prop), Inv X pins σ H s -> (∀ b ∈ fp, AN X pins H b) -> tn i s.heap -> J.stop i H ->
  wpAny (model P w) X.A (pyNext (.ref it)) (fun r s1 => r = none /\ Inv X pins σ H s1) E s
 self : ∀ (A : Around) (i : Nat) (s : Shared) (Q : Value -> Shared -> Prop) (E : Value -> Shared -> Prop), tn i s.heap -> Q (.ref it) s -> wpAny (model P w) A (pyIter (.ref it)) Q E s
noncomputable abbrev TI := St -> Hp -> (It -> Hp -> Prop) -> Prop
noncomputable def PIE (X : Cx) (pins : List (Addr × Obj)) (σ : St) (tg : Expr) (R : It -> Hp -> Prop) (itv : Value) (s2 : Shared) : Prop :=
 ∃ (it : Addr) (fp : List Addr) (tn : Nat -> Heap -> Prop) (J : It) (H' : Hp), itv = .ref it /\ Inv X pins σ H' s2 /\ Turn X.prog X.w X.K tg J fp it tn /\ tn 0 s2.heap /\ (∀ b ∈ fp, AN X pins H' b) /\ R J H'
noncomputable def PI (X : Cx) (tg iter : Expr) (wi : TI) : Prop :=
 ∀ (pins : List (Addr × Obj)) (s : Shared) (σ : St) (H : Hp) (R : It -> Hp -> Prop), Inv X pins σ H s -> wi σ H R ->
  wpAny (model X.prog X.w) X.A (eval iter X.env) (fun v s1 => wpAny (model X.prog X.w) X.A (pyIter v) (PIE X pins σ tg R) X.xe s1) X.xe s
theorem go_of {M : Model} {A : Around} {E : Value -> Shared -> Prop} {s : Shared} {tg : Expr} {it : Addr} {u : Value} {o : Obj} {n : String} {vs : Array Value} {Q : Unit -> Shared -> Prop} (ho : s.heap.get? it = some o) (hc : o.cls = .type n) (hd : o.data = .fields vs)
    (hn : ["enumerate", "zip", "dict_itemiterator", "dict_reverseitemiterator", "odict_iterator", "itertools.zip_longest", "itertools.pairwise"].contains n = false) (hQ : Q () s) : wpAny M A (letOwnedTupleGo tg (.ref it) u) Q E s := by
  unfold letOwnedTupleGo
  cases tg <;> first
    | exact wpAny_pure hQ
    | (cases u <;> first
        | exact wpAny_pure hQ
        | (refine wpAny_bind (wpAny_load ho ?_)
           rw [hc, hd]
           show wpAny M A (if (["enumerate", "zip", "dict_itemiterator", "dict_reverseitemiterator", "odict_iterator", "itertools.zip_longest", "itertools.pairwise"].contains n && vs[0]? == some (rawInt _)) = true then _ else _) Q E s
           rw [if_neg (by intro h; rw [hn, Bool.false_and] at h; cases h)]
           exact wpAny_pure hQ))
noncomputable def Itl (K : PySem.W.Frag) (a : Addr) : It :=
 ⟨fun i H => ∃ xs x, SqL K H a xs /\ xs[i]? = some x, fun i H x H' => H' = H /\ ∀ xs, SqL K H a xs -> xs[i]? = some x, fun i H => ∃ xs, SqL K H a xs /\ xs.length <= i⟩
noncomputable def Itt (K : PySem.W.Frag) (a : Addr) : It :=
 ⟨fun i H => ∃ xs x, SqT K H a xs /\ xs[i]? = some x, fun i H x H' => H' = H /\ ∀ xs, SqT K H a xs -> xs[i]? = some x, fun i H => ∃ xs, SqT K H a xs /\ xs.length <= i⟩
noncomputable def Itr (lo : Int) (n : Nat) : It := ⟨fun i _ => i < n, fun i H x H' => H' = H /\ x = .int (lo + i), fun i _ => n <= i⟩
theorem AV {P : Program} {w : World} {K : PySem.W.Frag} {tg : Expr} (a it : Addr) : Turn P w K tg (Itl K a) [it] it (fun i h => h.IsListIter it a i) where
 mem := by simp
 obj := fun i h st b hb => by
  have e : b = it := by simpa using hb
  subst e
  obtain ⟨o, e, c, d⟩ := st
  exact ⟨o, e, fun v z => by rw [d] at z; cases z⟩
 keep := fun i h h' st k => st.at fun o e => k it (by simp) o e
 item := by
  intro X hP hw hK hc i pins s σ H E I hf st hg
  subst hP hw hK
  obtain ⟨xs, x, hq, hx⟩ := hg
  obtain ⟨its, rv, p, hz⟩ := I.list hq
  obtain ⟨u, hu, ru⟩ := rv.get hx
  obtain ⟨f0, f1, f2, f3, f4, f5⟩ := hf it (by simp)
  refine wpAny_pyNext_list_item st p.isList (x := u) (by simpa using hu) fun h' st' sb => ?_
  have I1 : Inv X pins σ H { s with heap := h' } := I.turned (t' := s.toks) (fun b o hb e => (sb.2 b hb).trans e) f0 f1 f3 f4 f5
  obtain ⟨o, e, c, d⟩ := id st'
  exact ⟨u, rfl, go_of (s := { s with heap := h' }) e c d (by decide) ⟨x, H, I1, ru, ⟨rfl, fun ys hy => by rw [I.zK hy hq]; exact hx⟩, st', fun b hb => (hf b hb).1⟩⟩
 done := by
  intro X hP hw hK hc i pins s σ H E I hf st hg
  subst hP hw hK
  obtain ⟨xs, hq, hx⟩ := hg
  obtain ⟨its, rv, p, hz⟩ := I.list hq
  obtain ⟨f0, f1, f2, f3, f4, f5⟩ := hf it (by simp)
  have hl := rv.length
  exact wpAny_pyNext_list_end (I.ok.hd hc) st p.isList (by simp; omega) fun h' eb => ⟨rfl, I.turned (t' := s.toks) (fun b o hb e => eb b o hb e) f0 f1 f3 f4 f5⟩
 self := fun _ _ _ _ _ st h => wpAny_pyIter_listiter st h
theorem Ac {P : Program} {w : World} {K : PySem.W.Frag} {tg : Expr} (a it : Addr) : Turn P w K tg (Itt K a) [it] it (fun i h => h.IsTupleIter it a i) where
 mem := by simp
 obj := fun i h st b hb => by
  have e : b = it := by simpa using hb
  subst e
  obtain ⟨o, e, c, d⟩ := st
  exact ⟨o, e, fun v z => by rw [d] at z; cases z⟩
 keep := fun i h h' st k => st.at fun o e => k it (by simp) o e
 item := by
  intro X hP hw hK hc i pins s σ H E I hf st hg
  subst hP hw hK
  obtain ⟨xs, x, hq, hx⟩ := hg
  obtain ⟨its, rv, p, hz⟩ := I.tuple hq
  obtain ⟨u, hu, ru⟩ := rv.get hx
  obtain ⟨f0, f1, f2, f3, f4, f5⟩ := hf it (by simp)
  refine wpAny_pyNext_tuple_item st (show s.heap.IsTuple a its.toArray from p) (x := u) (by simpa using hu) fun h' st' sb => ?_
  have I1 : Inv X pins σ H { s with heap := h' } := I.turned (t' := s.toks) (fun b o hb e => (sb.2 b hb).trans e) f0 f1 f3 f4 f5
  obtain ⟨o, e, c, d⟩ := id st'
  exact ⟨u, rfl, go_of (s := { s with heap := h' }) e c d (by decide) ⟨x, H, I1, ru, ⟨rfl, fun ys hy => by rw [I.AX hy hq]; exact hx⟩, st', fun b hb => (hf b hb).1⟩⟩
 done := by
  intro X hP hw hK hc i pins s σ H E I hf st hg
  subst hP hw hK
  obtain ⟨xs, hq, hx⟩ := hg
  obtain ⟨its, rv, p, hz⟩ := I.tuple hq
  obtain ⟨f0, f1, f2, f3, f4, f5⟩ := hf it (by simp)
  have hl := rv.length
  exact wpAny_pyNext_tuple_end (I.ok.hd hc) st (show s.heap.IsTuple a its.toArray from p) (by simp; omega) fun h' eb => ⟨rfl, I.turned (t' := s.toks) (fun b o hb e => eb b o hb e) f0 f1 f3 f4 f5⟩
 self := fun _ _ _ _ _ st h => wpAny_pyIter_tupleiter st h
theorem Ad {P : Program} {w : World} {K : PySem.W.Frag} {tg : Expr} (it : Addr) (lo : Int) (n : Nat) : Turn P w K tg (Itr lo n) [it] it (fun i h => IsRangeIter h it (lo + (i : Nat) * 1) ((n : Int) - (i : Nat)) 1) where
 mem := by simp
 obj := fun i h st b hb => by
  have e : b = it := by simpa using hb
  subst e
  exact ⟨_, st, fun v z => by
   have z' : Data.fields _ = Data.cell v := z
   cases z'⟩
 keep := fun i h h' st k => k it (by simp) _ st
 item := by
  intro X hP hw hK hc i pins s σ H E I hf st hg
  subst hP hw hK
  obtain ⟨f0, f1, f2, f3, f4, f5⟩ := hf it (by simp)
  have W := Walks.range (prog := X.prog) (w := X.w) (I.ok.hd hc) it lo 1 n
  refine W.item i s _ _ hg st fun v h' tk hv st' kk => ?_
  obtain ⟨t, rfl⟩ := hv
  have I1 : Inv X pins σ H { s with heap := h', toks := tk } := I.turned (fun b o hb e => kk b o (by simpa using hb) e) f0 f1 f3 f4 f5
  refine ⟨_, rfl, go_of (s := { s with heap := h', toks := tk }) (n := "range_iterator") st' rfl rfl (by decide) ⟨.int (lo + i), H, I1, ⟨t, ?_⟩, ⟨rfl, rfl⟩, st', fun b hb => (hf b hb).1⟩⟩
  rw [Int.mul_one]
 done := by
  intro X hP hw hK hc i pins s σ H E I hf st hg
  subst hP hw hK
  obtain ⟨f0, f1, f2, f3, f4, f5⟩ := hf it (by simp)
  exact wpAny_pyNext_range_end (I.ok.hd hc) st (by have : n <= i := hg; omega) fun h' eb => ⟨rfl, I.turned (t' := s.toks) (fun b o hb e => eb b o hb e) f0 f1 f3 f4 f5⟩
 self := fun _ _ _ _ _ st h => wpAny_pyIter_rangeiter st h
end L2
namespace L2
open PySem PySem.Spec PyProof.Rows
section
variable {X : Cx} {tg : Expr}
theorem range_it {pins : List (Addr × Obj)} {σ : St} {H : Hp} {s : Shared} {R : It -> Hp -> Prop} {E : Value -> Shared -> Prop} {lo hi : Int} {t u v : Tok} {tk : Nat} (I : Inv X pins σ H s) (h1 : -(2 ^ 62) <= lo) (h2 : lo < 2 ^ 62) (h3 : -(2 ^ 62) <= hi) (h4 : hi < 2 ^ 62)
  (q : R (Itr lo (hi - lo).toNat) H) : wpAny (model X.prog X.w) X.A (pyIter (.ref s.heap.objs.size)) (PIE X pins σ tg R) E { s with heap := s.heap.push { cls := .type "range", data := .fields #[.int lo t, .int hi u, .int 1 v] }, toks := tk } := by
 refine wpAny_pyIter_range (IsRange.new ..) (small_one h1 h2 h3 h4) ?_
 have I1 : Inv X pins σ H { s with heap := s.heap.push { cls := .type "range", data := .fields #[.int lo t, .int hi u, .int 1 v] }, toks := tk } := I.kept fun b o e => Heap.get?_push_of_some _ e
 refine ⟨(s.heap.push { cls := .type "range", data := .fields #[.int lo t, .int hi u, .int 1 v] }).objs.size, [(s.heap.push { cls := .type "range", data := .fields #[.int lo t, .int hi u, .int 1 v] }).objs.size], _, _, H, rfl,
  I1.kept (t' := tk) fun b o e => Heap.get?_push_of_some _ e, Ad _ lo (hi - lo).toNat, ?_, fun b hb => ?_, q⟩
 ·have e1 : lo + ((0 : Nat) : Int) * 1 = lo := by simp
  have e2 : (((hi - lo).toNat : Nat) : Int) - ((0 : Nat) : Int) = Builtin.Range.rangeSize lo hi 1 := by rw [rangeSize_one]; split <;> omega
  show IsRangeIter _ _ (lo + ((0 : Nat) : Int) * 1) ((((hi - lo).toNat : Nat) : Int) - ((0 : Nat) : Int)) 1
  rw [e1, e2]
  exact Heap.get?_push_size _ rfl
 ·have e : b = (s.heap.push { cls := .type "range", data := .fields #[.int lo t, .int hi u, .int 1 v] }).objs.size := by simpa using hb
  subst e
  exact I1.fpOk (Nat.le_refl _) (I1.hok.fresh (Nat.le_refl _))
noncomputable def iRng1 (ta : TA) : TI := fun σ H R => ta σ H fun vs H1 => ∃ j : Int, vs = [.int j] /\ -(2 ^ 62) <= j /\ j < 2 ^ 62 /\ R (Itr 0 j.toNat) H1
theorem Bn {a : Expr} {ta : TA} {p pos : Pos} (hg : Gl X "range") (hm : X.mg "range" = none) (ha : PA X [a] ta) (hs : starEach [a] X.env = [(false, eval a X.env)] := by rfl) : PI X tg (.Call (.Name "range" p) [a] [] pos) (iRng1 ta) := by
 intro pins s σ H R I h
 refine Call_ (wD I hg hm boot_range (PyProof.Rows.callWith_type1 (thn (ha pos pins s σ H _ I h) fun us s1 ⟨vs, H1, I1, r1, q1⟩ => ?_) hs rfl))
 obtain ⟨j, e, q1, q2, q⟩ := q1
 subst e
 cases r1 with
 | cons r rr =>
  cases rr
  obtain ⟨t, rfl⟩ := r
  exact call_range_1 (range_it I1 (by omega) (by omega) q1 q2 (by simpa using q))
noncomputable def tFor (wi : TI) (g : TG) (tb : TS) : TS := fun D σ H => wi σ H fun J H1 => ∃ W : Nat -> Nat -> St -> Hp -> Prop, (∃ m, W 0 m σ H1) /\ ∀ i m σ H, W i m σ H ->
 (J.stop i H /\ D.nx σ H) \/ (J.go i H /\ ∃ N : St -> Hp -> Prop, (∀ σ' H', N σ' H' -> ∃ m', m' < m /\ W (i + 1) m' σ' H') /\ ∀ x H', J.yld i H x H' -> g x σ H' fun σ2 H2 => tb { D with nx := N, ct := N, bk := D.nx } σ2 H2)
noncomputable def vQ (fp : List Addr) (h : Heap) : List (Addr × Obj) := fp.filterMap fun b => (h.get? b).map fun o => (b, o)
theorem lT {fp : List Addr} {h : Heap} {b : Addr} {o : Obj} (hb : b ∈ fp) (e : h.get? b = some o) : (b, o) ∈ vQ fp h := List.mem_filterMap.mpr ⟨b, hb, by rw [e]; rfl⟩
theorem BB {fp : List Addr} {h : Heap} {p : Addr × Obj} (hp : p ∈ vQ fp h) : p.1 ∈ fp /\ h.get? p.1 = some p.2 := by
 obtain ⟨b, hb, e⟩ := List.mem_filterMap.mp hp
 cases q : h.get? b with
 | none => rw [q] at e; cases e
 | some o =>
  rw [q] at e
  have e' : (b, o) = p := Option.some.inj e
  subst e'
  exact ⟨hb, q⟩
theorem Inv.pinned {pins : List (Addr × Obj)} {σ : St} {H : Hp} {s : Shared} {fp : List Addr} (I : Inv X pins σ H s) (hf : ∀ b ∈ fp, AN X pins H b) (ho : ∀ b ∈ fp, ∃ o, s.heap.get? b = some o /\ ∀ v, o.data ≠ .cell v) : Inv X (pins ++ vQ fp s.heap) σ H s :=
 I.tL fun p hp => (List.mem_append.mp hp).elim (fun z => I.pin p (List.mem_append_right _ z)) fun z => by
  obtain ⟨hb, e⟩ := BB z
  obtain ⟨f0, f1, f2, _⟩ := hf p.1 hb
  obtain ⟨o, e', d⟩ := ho p.1 hb
  rw [e] at e'; cases e'
  exact ⟨e, f0, f1, f2, d⟩
theorem Inv.sX {pins pl : List (Addr × Obj)} {σ : St} {H : Hp} {s : Shared} (I : Inv X (pins ++ pl) σ H s) : Inv X pins σ H s := I.tL fun p hp => I.pin p (List.mem_append_right _ (List.mem_append_left _ hp))
theorem ps_for {iter : Expr} {body : List Stmt} {wi : TI} {g : TG} {tb : TS} {pos : Pos} (hp : PassesOwn (model X.prog X.w) X.A X.env X.xe) (hc : X.calm = true) (hi : PI X tg iter wi) (hg : PG X tg g) (hb : PSs X body tb)
  (hs : ∀ x, foldedSetIterable iter X.env x = pure x := by intro _; rfl) : PS X (.For tg iter body [] pos) (tFor wi g tb) := by
 intro pins s σ H D I h
 refine wpAny_For (thn (hi pins s σ H _ I h) fun v s1 h1 => thn h1 fun itv s2 h2 => ?_) hs
 obtain ⟨it, fp, tn, J, H2, e, I2, T, st2, f2, W, ⟨m0, w0⟩, turn⟩ := h2
 subst e
 have stat : ∀ {H' : Hp}, (∀ b ∈ fp, H' b = none) -> ∀ b ∈ fp, AN X pins H' b := fun hn b hb => ⟨hn b hb, (f2 b hb).2⟩
 refine codeAny_forLoop_any (fun n s' => ∃ i σ' H', Inv X pins σ' H' s' /\ tn i s'.heap /\ (∀ b ∈ fp, H' b = none) /\ W i n σ' H') ?_ m0 ⟨0, σ, H2, I2, st2, fun b hb => (f2 b hb).1, w0⟩
 rintro n s3 ⟨i, σ3, H3, I3, st3, fr3, w3⟩
 rcases turn i n σ3 H3 w3 with ⟨stop, qn⟩ | ⟨go, N, hN, step⟩
 ·refine wpAny_passesOwn hp (thn (T.done X rfl rfl rfl hc i pins s3 σ3 H3 X.xe I3 (stat fr3) st3 stop) fun r s4 ⟨hr, I4⟩ => ?_)
  subst hr
  exact wpAny_execs_nil ⟨σ3, H3, I4, qn⟩
 ·refine wpAny_passesOwn hp (thn (T.item X rfl rfl rfl hc i pins s3 σ3 H3 X.xe I3 (stat fr3) st3 go) fun r s4 ⟨u, hr, h4⟩ => ?_)
  subst hr
  refine wpAny_passesOwn hp (thn h4 fun _ s5 ⟨x, H5, I5, r5, y5, st5, fr5⟩ => ?_)
  have I5' := I5.pinned (stat fr5) (T.obj _ _ st5)
  refine wpAny_passesOwn hp (thn (hg _ s5 σ3 H5 x u _ I5' r5 (step x H5 y5)) fun _ s6 ⟨σ6, H6, I6, q6⟩ => ?_)
  refine wpAny_passesOwn hp (thn (hb _ s6 σ6 H6 _ I6 q6) fun f s7 q7 => ?_)
  have again : ∀ {σ7 : St} {H7 : Hp}, Inv X (pins ++ vQ fp s5.heap) σ7 H7 s7 -> N σ7 H7 -> ∃ m, m < n /\ ∃ i σ' H', Inv X pins σ' H' s7 /\ tn i s7.heap /\ (∀ b ∈ fp, H' b = none) /\ W i m σ' H' := fun {σ7 H7} I7 n7 => by
   obtain ⟨m', hm, w7⟩ := hN σ7 H7 n7
   refine ⟨m', hm, i + 1, σ7, H7, I7.sX, T.keep _ _ _ st5 fun b hb o e => (I7.pin (b, o) (List.mem_append_right _ (List.mem_append_right _ (lT hb e)))).1, fun b hb => ?_, w7⟩
   obtain ⟨o, e, d⟩ := T.obj _ _ st5 b hb
   exact (I7.pin (b, o) (List.mem_append_right _ (List.mem_append_right _ (lT hb e)))).2.1
  cases f with
  | next => obtain ⟨σ7, H7, I7, n7⟩ := q7; exact again I7 n7
  | cont => obtain ⟨σ7, H7, I7, n7⟩ := q7; exact again I7 n7
  | brk => obtain ⟨σ7, H7, I7, q7⟩ := q7; exact ⟨σ7, H7, I7.sX, q7⟩
  | ret v => obtain ⟨x7, σ7, H7, I7, r7, q7⟩ := q7; exact ⟨x7, σ7, H7, I7.sX, r7, q7⟩
end
end L2
namespace L2
open PySem PySem.Spec PyProof.Rows
noncomputable abbrev R2 := V -> V -> Hp -> VK -> Prop
noncomputable def OpR (X : Cx) (f : Value -> Value -> Sem Value) (r : R2) : Prop :=
 ∀ (pins : List (Addr × Obj)) (s : Shared) (σ : St) (H : Hp) (x y : V) (v u : Value) (Q : VK), Inv X pins σ H s -> RelV x v -> RelV y u -> r x y H Q ->
  wpAny (model X.prog X.w) X.A (f v u) (EP X pins σ Q) X.xe s
noncomputable def UnR (X : Cx) (f : Value -> Sem Value) (r : V -> Hp -> VK -> Prop) : Prop :=
 ∀ (pins : List (Addr × Obj)) (s : Shared) (σ : St) (H : Hp) (x : V) (v : Value) (Q : VK), Inv X pins σ H s -> RelV x v -> r x H Q ->
  wpAny (model X.prog X.w) X.A (f v) (EP X pins σ Q) X.xe s
noncomputable def eR (X : Cx) (f : Value) (r : List V -> Hp -> VK -> Prop) : Prop :=
 ∀ (pins : List (Addr × Obj)) (s : Shared) (σ : St) (H : Hp) (xs : List V) (us : List Value) (Q : VK), Inv X pins σ H s -> Vals xs us -> r xs H Q ->
  wpAny (model X.prog X.w) X.A (call f us) (EP X pins σ Q) X.xe s
noncomputable def TruR (X : Cx) (r : V -> Hp -> (Bool -> Hp -> Prop) -> Prop) : Prop :=
 ∀ (pins : List (Addr × Obj)) (s : Shared) (σ : St) (H : Hp) (x : V) (v : Value) (Q : Bool -> Hp -> Prop), Inv X pins σ H s -> RelV x v -> r x H Q ->
  wpAny (model X.prog X.w) X.A (truthy v) (TP X pins σ Q) X.xe s
noncomputable def tOp (r : R2) (ta tb : TE) : TE := fun σ H Q => ta σ H fun x H1 => tb σ H1 fun y H2 => r x y H2 Q
noncomputable def tUn (r : V -> Hp -> VK -> Prop) (ta : TE) : TE := fun σ H Q => ta σ H fun x H1 => r x H1 Q
noncomputable def rI (C : Int -> Int -> Prop) (g : Int -> Int -> V) : R2 := fun x y H Q => ∃ i j, x = .int i /\ y = .int j /\ C i j /\ Q (g i j) H
noncomputable def rI0 (g : Int -> Int -> V) : R2 := fun x y H Q => ∃ i j, x = .int i /\ y = .int j /\ Q (g i j) H
noncomputable def rU (g : Int -> V) : V -> Hp -> VK -> Prop := fun x H Q => ∃ i, x = .int i /\ Q (g i) H
section
variable {X : Cx} {a b c : Expr} {ta tb tc : TE} {pos : Pos}
theorem binT (ha : PE X a ta) (hb : PE X b tb) {pins : List (Addr × Obj)} {s : Shared} {σ : St} {H : Hp} {R : V -> V -> Hp -> Prop} (I : Inv X pins σ H s)
  (h : ta σ H fun x H1 => tb σ H1 fun y H2 => R x y H2) {Q : Value -> Shared -> Prop} {f : Value -> Value -> Sem Value}
  (hf : ∀ v u s2 x y H2, Inv X pins σ H2 s2 -> RelV x v -> RelV y u -> R x y H2 -> wpAny (model X.prog X.w) X.A (f v u) Q X.xe s2) :
  wpAny (model X.prog X.w) X.A (eval a X.env) (fun v s₁ => wpAny (model X.prog X.w) X.A (eval b X.env) (fun u s₂ => wpAny (model X.prog X.w) X.A (f v u) Q X.xe s₂) X.xe s₁) X.xe s := by
 refine thn (ha pins s σ H _ I h) fun v s1 ⟨x, H1, I1, r1, q1⟩ => ?_
 refine thn (hb pins s1 σ H1 _ I1 q1) fun u s2 ⟨y, H2, I2, r2, q2⟩ => ?_
 exact hf v u s2 x y H2 I2 r1 r2 q2
theorem pe_op {op : Operator} {r : R2} (ho : OpR X (binaryOp op) r) (ha : PE X a ta) (hb : PE X b tb) : PE X (.BinOp a op b pos) (tOp r ta tb) := by
 intro pins s σ H Q I h
 exact wpAny_BinOp (binT ha hb I h fun v u s2 x y H2 I2 rx ry q => ho pins s2 σ H2 x y v u Q I2 rx ry q)
theorem pe_un {op : UnaryOp} {r : V -> Hp -> VK -> Prop} (ho : UnR X (unaryOp op) r) (ha : PE X a ta) : PE X (.UnaryOp op a pos) (tUn r ta) := by
 intro pins s σ H Q I h
 exact UnaryOp_ (thn (ha pins s σ H _ I h) fun v s1 ⟨x, H1, I1, r1, q1⟩ => ho pins s1 σ H1 x v Q I1 r1 q1)
theorem opI {f : Value -> Value -> Sem Value} {C : Int -> Int -> Prop} {g : Int -> Int -> Int}
  (rule : ∀ (i j : Int) (t u : Tok) (s : Shared) (Q : Value -> Shared -> Prop) (E : Value -> Shared -> Prop), C i j -> Q (.int (g i j) s.toks) { s with toks := s.toks + 1 } -> wpAny (model X.prog X.w) X.A (f (.int i t) (.int j u)) Q E s) :
  OpR X f (rI C fun i j => .int (g i j)) := by
 intro pins s σ H x y v u Q I rx ry h
 obtain ⟨i, j, rfl, rfl, hc, q⟩ := h
 obtain ⟨t, rfl⟩ := rx
 obtain ⟨t', rfl⟩ := ry
 exact rule i j t t' s _ _ hc ⟨.int (g i j), H, I.tok _, ⟨_, rfl⟩, q⟩
theorem opI0 {f : Value -> Value -> Sem Value} {g : Int -> Int -> Int}
  (rule : ∀ (i j : Int) (t u : Tok) (s : Shared) (Q : Value -> Shared -> Prop) (E : Value -> Shared -> Prop), Q (.int (g i j) s.toks) { s with toks := s.toks + 1 } -> wpAny (model X.prog X.w) X.A (f (.int i t) (.int j u)) Q E s) :
  OpR X f (rI0 fun i j => .int (g i j)) := by
 intro pins s σ H x y v u Q I rx ry h
 obtain ⟨i, j, rfl, rfl, q⟩ := h
 obtain ⟨t, rfl⟩ := rx
 obtain ⟨t', rfl⟩ := ry
 exact rule i j t t' s _ _ ⟨.int (g i j), H, I.tok _, ⟨_, rfl⟩, q⟩
theorem opB0 {f : Value -> Value -> Sem Value} {g : Int -> Int -> Bool}
  (rule : ∀ (i j : Int) (t u : Tok) (s : Shared) (Q : Value -> Shared -> Prop) (E : Value -> Shared -> Prop), Q (.bool (g i j)) s -> wpAny (model X.prog X.w) X.A (f (.int i t) (.int j u)) Q E s) :
  OpR X f (rI0 fun i j => .bl (g i j)) := by
 intro pins s σ H x y v u Q I rx ry h
 obtain ⟨i, j, rfl, rfl, q⟩ := h
 obtain ⟨t, rfl⟩ := rx
 obtain ⟨t', rfl⟩ := ry
 exact rule i j t t' s _ _ ⟨.bl (g i j), H, I, rfl, q⟩
noncomputable def CPow (i j : Int) : Prop := 0 <= j /\ j <= 1000000 /\ i.natAbs < 2 ^ 64
noncomputable def CMul (i j : Int) : Prop := (-(2 ^ 64) < i /\ i < 2 ^ 64) \/ (-(2 ^ 64) < j /\ j < 2 ^ 64)
theorem CMul.ok {i j : Int} (h : CMul i j) : IntMulOk i j := by
 rcases h with ⟨h1, h2⟩ | ⟨h1, h2⟩
 ·exact .of_left (intBits_le_64 h1 h2)
 ·exact .of_right (intBits_le_64 h1 h2)
theorem op_add : OpR X (binaryOp .Add) (rI0 fun i j => .int (i + j)) := opI0 fun _ _ _ _ _ _ _ q => add_int q
theorem op_sub : OpR X (binaryOp .Sub) (rI0 fun i j => .int (i - j)) := opI0 fun _ _ _ _ _ _ _ q => sub_int q
theorem op_mul : OpR X (binaryOp .Mult) (rI CMul fun i j => .int (i * j)) := opI fun _ _ _ _ _ _ _ hc q => mul_int q hc.ok
theorem op_mod : OpR X (binaryOp .Mod) (rI (fun _ j => 0 < j) fun i j => .int (i % j)) := opI fun i j _ _ _ _ _ hc q => by
 have h1 : (0 : Int) < j := hc
 exact mod_int' (by omega) (by rw [Int.fmod_eq_emod_of_nonneg i (by omega)]; exact q)
theorem op_pow : OpR X (binaryOp .Pow) (rI CPow fun i j => .int (i ^ j.toNat)) := opI fun _ _ _ _ _ _ _ hc q => pow_int_small hc.1 hc.2.1 hc.2.2 q
theorem unI {f : Value -> Sem Value} {g : Int -> Int}
  (rule : ∀ (i : Int) (t : Tok) (s : Shared) (Q : Value -> Shared -> Prop) (E : Value -> Shared -> Prop), Q (.int (g i) s.toks) { s with toks := s.toks + 1 } -> wpAny (model X.prog X.w) X.A (f (.int i t)) Q E s) :
  UnR X f (rU fun i => .int (g i)) := by
 intro pins s σ H x v Q I rx h
 obtain ⟨i, rfl, q⟩ := h
 obtain ⟨t, rfl⟩ := rx
 exact rule i t s _ _ ⟨.int (g i), H, I.tok _, ⟨_, rfl⟩, q⟩
theorem un_neg : UnR X (unaryOp .USub) (rU fun i => .int (-i)) := unI fun _ _ _ _ _ q => neg_int q
end
noncomputable def scal : V -> V -> Bool
 | .non, .non => true | .non, .int _ => true | .int _, .non => true | .non, .bl _ => true | .bl _, .non => true | .non, .str _ => true | .str _, .non => true
 | .int _, .int _ => true | .bl _, .bl _ => true | .str _, .str _ => true | .byt _, .byt _ => true
 | .int _, .str _ => true | .str _, .int _ => true | .bl _, .str _ => true | .str _, .bl _ => true
 | _, _ => false
noncomputable def rNe : R2 := fun x y H Q => scal x y = true /\ Q (.bl (!decide (x = y))) H
theorem dec_int {i j : Int} : decide (V.int i = V.int j) = (i == j) := by
 rw [Bool.eq_iff_iff]
 simp
theorem dec_bl {i j : Bool} : decide (V.bl i = V.bl j) = (i == j) := by
 rw [Bool.eq_iff_iff]
 simp
theorem dec_str {i j : Str} : decide (V.str i = V.str j) = (i == j) := by
 rw [Bool.eq_iff_iff]
 simp
theorem dec_byt {i j : Array UInt8} : decide (V.byt i = V.byt j) = (i.toList == j.toList) := by
 rw [Bool.eq_iff_iff]
 cases i
 cases j
 simp
section
variable {X : Cx} {a b c : Expr} {ta tb tc : TE} {pos : Pos}
theorem gL {pins : List (Addr × Obj)} {σ : St} {H : Hp} {s : Shared} {Q : VK} {k k' : Bool} (I : Inv X pins σ H s) (q : Q (.bl k) H) (e : k = k') : EP X pins σ Q (.bool k') s := by
 subst e
 exact ⟨.bl k, H, I, rfl, q⟩
theorem op_ne : OpR X (compareOp .NotEq) rNe := by
 intro pins s σ H x y v u Q I rx ry h
 obtain ⟨hs, q⟩ := h
 cases x with
 | non =>
  cases rx
  cases y with
  | non => cases ry; exact PySem.EqNone.ne_none_none (gL I q (by simp))
  | bl j => cases ry; exact PySem.EqNone.ne_none_bool (gL I q (by simp))
  | int j => obtain ⟨t', rfl⟩ := ry; exact PySem.EqNone.ne_none_int (gL I q (by simp))
  | str j => obtain ⟨t', rfl⟩ := ry; exact PySem.EqNone.ne_none_str (gL I q (by simp))
  | _ => exact absurd (show false = true from hs) Bool.false_ne_true
 | bl i =>
  cases rx
  cases y with
  | non => cases ry; exact PySem.EqNone.ne_bool_none (gL I q (by simp))
  | bl j => cases ry; exact ne_bool (gL I q (congrArg not dec_bl))
  | str j => obtain ⟨t', rfl⟩ := ry; exact PySem.EqMixed.ne_bool_str (gL I q (by simp))
  | _ => exact absurd (show false = true from hs) Bool.false_ne_true
 | int i =>
  obtain ⟨t, rfl⟩ := rx
  cases y with
  | non => cases ry; exact PySem.EqNone.ne_int_none (gL I q (by simp))
  | int j => obtain ⟨t', rfl⟩ := ry; exact ne_int (gL I q (congrArg not dec_int))
  | str j => obtain ⟨t', rfl⟩ := ry; exact PySem.EqMixed.ne_int_str (gL I q (by simp))
  | _ => exact absurd (show false = true from hs) Bool.false_ne_true
 | str i =>
  obtain ⟨t, rfl⟩ := rx
  cases y with
  | non => cases ry; exact PySem.EqNone.ne_str_none (gL I q (by simp))
  | bl j => cases ry; exact PySem.EqMixed.ne_str_bool (gL I q (by simp))
  | int j => obtain ⟨t', rfl⟩ := ry; exact PySem.EqMixed.ne_str_int (gL I q (by simp))
  | str j => obtain ⟨t', rfl⟩ := ry; exact ne_str (gL I q (congrArg not dec_str))
  | _ => exact absurd (show false = true from hs) Bool.false_ne_true
 | byt i =>
  obtain ⟨t, rfl⟩ := rx
  cases y with
  | byt j => obtain ⟨t', rfl⟩ := ry; exact PySem.W.ne_bytes (gL I q (congrArg not dec_byt))
  | _ => exact absurd (show false = true from hs) Bool.false_ne_true
 | _ => cases y <;> exact absurd (show false = true from hs) Bool.false_ne_true
theorem op_lt : OpR X (compareOp .Lt) (rI0 fun i j => .bl (decide (i < j))) := opB0 fun _ _ _ _ _ _ _ q => lt_int q
theorem op_le : OpR X (compareOp .LtE) (rI0 fun i j => .bl (decide (i <= j))) := opB0 fun _ _ _ _ _ _ _ q => le_int q
theorem op_gt : OpR X (compareOp .Gt) (rI0 fun i j => .bl (decide (j < i))) := opB0 fun _ _ _ _ _ _ _ q => gt_int q
theorem op_isN : OpR X (compareOp .Is) (fun x y H Q => y = .non /\ Q (.bl (decide (x = .non))) H) := by
 intro pins s σ H x y v u Q I rx ry h
 obtain ⟨rfl, q⟩ := h
 cases ry
 refine is_none_gen (gL I q ?_)
 cases x <;> first
  | (cases rx; rfl)
  | (obtain ⟨t, rfl⟩ := rx; rfl)
noncomputable def isObj : HO -> Bool
 | .lst _ => true
 | .ins _ _ _ => true
 | _ => false
theorem OpR.or {f : Value -> Value -> Sem Value} {r r' : R2} (h : OpR X f r) (h' : OpR X f r') : OpR X f (fun x y H Q => r x y H Q \/ r' x y H Q) := by
 intro pins s σ H x y v u Q I rx ry q
 rcases q with q | q
 ·exact h pins s σ H x y v u Q I rx ry q
 ·exact h' pins s σ H x y v u Q I rx ry q
theorem wu (b : Expr) {op : CmpOp} (h : op ≠ .In := by decide) (h2 : op ≠ .NotIn := by decide) : behindInMarks op b = false := by
 have e1 : (op == CmpOp.In) = false := by cases op <;> first | rfl | exact absurd rfl h
 have e2 : (op == CmpOp.NotIn) = false := by cases op <;> first | rfl | exact absurd rfl h2
 cases b <;> simp [behindInMarks, e1, e2]
theorem pe_cmpR {op : CmpOp} {r : R2} (ho : OpR X (compareOp op) r) (ha : PE X a ta) (hb : PE X b tb) (hm : behindInMarks op b = false) : PE X (.Compare a [op] [b] pos) (tOp r ta tb) := by
 intro pins s σ H Q I h
 exact wpAny_Compare1 (binT ha hb I h fun v u s2 x y H2 I2 rx ry q => ho pins s2 σ H2 x y v u Q I2 rx ry q) hm
noncomputable def AZ (t : TE) : TT := fun σ H Q => t σ H fun x H' => ∃ k, x = .bl k /\ Q k H'
theorem tB {op : CmpOp} {r : R2} (ho : OpR X (compareOp op) r) (ha : PE X a ta) (hb : PE X b tb) (hm : behindInMarks op b = false) : PT X (.Compare a [op] [b] pos) (AZ (tOp r ta tb)) := by
 intro pins s σ H Q I h
 refine wpAny_isTrue_Compare1 (thn (ha pins s σ H _ I h) fun v s1 ⟨x, H1, I1, r1, q1⟩ => thn (hb pins s1 σ H1 _ I1 q1) fun u s2 ⟨y, H2, I2, r2, q2⟩ =>
  thn (ho pins s2 σ H2 x y v u _ I2 r1 r2 q2) fun c s3 ⟨z, H3, I3, r3, k, e, q3⟩ => ?_) hm
 subst e
 cases r3
 exact wpAny_truthy_bool ⟨H3, I3, q3⟩
noncomputable def B4 (r r' : R2) (ta tb tc : TE) : TE := fun σ H Q => ta σ H fun x H1 => tb σ H1 fun y H2 => r x y H2 fun z H3 => ∃ k, z = .bl k /\
 (if k = true then tc σ H3 fun w' H4 => r' y w' H4 Q else Q (.bl false) H3)
theorem pe_chain {op op' : CmpOp} {r r' : R2} (ho : OpR X (compareOp op) r) (ho' : OpR X (compareOp op') r') (ha : PE X a ta) (hb : PE X b tb) (hc : PE X c tc)
  (hm : lastMarks [op, op'] [b, c] = false := by with_unfolding_all rfl) : PE X (.Compare a [op, op'] [b, c] pos) (B4 r r' ta tb tc) := by
 intro pins s σ H Q I h
 refine Compare_chain (thn (ha pins s σ H _ I h) fun v s1 ⟨x, H1, I1, r1, q1⟩ => chain_link (thn (hb pins s1 σ H1 _ I1 q1) fun u s2 ⟨y, H2, I2, r2, q2⟩ =>
  thn (ho pins s2 σ H2 x y v u _ I2 r1 r2 q2) fun d s3 ⟨z, H3, I3, r3, k, e, q3⟩ => ?_)) hm
 subst e
 cases r3
 refine wpAny_truthy_bool ?_
 cases k with
 | false => exact ite_ff ⟨.bl false, H3, I3, rfl, q3⟩
 | true => exact ite_tt (chain_last (thn (hc pins s3 σ H3 _ I3 q3) fun w' s4 ⟨z', H4, I4, r4, q4⟩ => ho' pins s4 σ H4 y z' u w' Q I4 r2 r4 q4))
theorem pt_chain {op op' : CmpOp} {r r' : R2} (ho : OpR X (compareOp op) r) (ho' : OpR X (compareOp op') r') (ha : PE X a ta) (hb : PE X b tb) (hc : PE X c tc)
  (hm : lastMarks [op, op'] [b, c] = false := by with_unfolding_all rfl) : PT X (.Compare a [op, op'] [b, c] pos) (AZ (B4 r r' ta tb tc)) := by
 intro pins s σ H Q I h
 refine isTrue_chain (thn (ha pins s σ H _ I h) fun v s1 ⟨x, H1, I1, r1, q1⟩ => test_link (thn (hb pins s1 σ H1 _ I1 q1) fun u s2 ⟨y, H2, I2, r2, q2⟩ =>
  thn (ho pins s2 σ H2 x y v u _ I2 r1 r2 q2) fun d s3 ⟨z, H3, I3, r3, k, e, q3⟩ => ?_)) hm
 subst e
 cases r3
 refine wpAny_truthy_bool ?_
 cases k with
 | false =>
  obtain ⟨k', e', q'⟩ := q3
  cases e'
  exact ite_ff ⟨H3, I3, q'⟩
 | true =>
  refine ite_tt (test_last (thn (hc pins s3 σ H3 _ I3 q3) fun w' s4 ⟨z', H4, I4, r4, q4⟩ => thn (ho' pins s4 σ H4 y z' u w' _ I4 r2 r4 q4) fun d' s5 ⟨z2, H5, I5, r5, k2, e2, q5⟩ => ?_))
  subst e2
  cases r5
  exact wpAny_truthy_bool ⟨H5, I5, q5⟩
noncomputable def TruV (K : PySem.W.Frag) (x : V) (H : Hp) (k : Bool) : Prop :=
 match x with
 | .non => k = false
 | .bl b => k = b
 | .int i => k = (i != 0)
 | .str y => y.length <= sizeLine /\ k = ((y.length : Int) != 0)
 | .byt y => y.size <= sizeLine /\ k = ((y.size : Int) != 0)
 | .ref p => (∃ xs, SqL K H p xs /\ k = !xs.isEmpty) \/ (∃ xs, SqT K H p xs /\ k = !xs.isEmpty) \/ ∃ kvs, H p = some (.dK kvs) /\ k = !kvs.isEmpty
 | _ => False
theorem Ar {κ : Type} {kvs : List (κ × V)} {vs : List (κ × Value)} (r : KV kvs vs) : (!vs.isEmpty) = !kvs.isEmpty := by
 cases r <;> rfl
theorem sr {xs : List V} {its : List Value} (r : Vals xs its) : (!its.toArray.isEmpty) = !xs.isEmpty := by
 cases r <;> simp
theorem sm : (sizeLine : Nat) < 2 ^ 63 := by rw [sizeLine_eq]; decide
theorem tru_ok : TruR X (fun x H Q => ∃ k, TruV X.K x H k /\ Q k H) := by
 intro pins s σ H x v Q I rx h
 obtain ⟨k, e, q⟩ := h
 have hl := sm
 have hs : sizeLine = 16777216 := sizeLine_eq
 cases x with
 | non =>
  cases rx
  have e' : k = false := e
  subst e'
  exact truthy_none ⟨H, I, q⟩
 | bl b =>
  cases rx
  have e' : k = b := e
  subst e'
  exact wpAny_truthy_bool ⟨H, I, q⟩
 | int i =>
  obtain ⟨t, rfl⟩ := rx
  have e' : k = (i != 0) := e
  subst e'
  exact PySem.P.truthy_int ⟨H, I, q⟩
 | str y =>
  obtain ⟨t, rfl⟩ := rx
  obtain ⟨hy, e'⟩ : y.length <= sizeLine /\ k = ((y.length : Int) != 0) := e
  subst e'
  exact PySem.P.truthy_str (by omega) ⟨H, I.tok _, q⟩
 | byt y =>
  obtain ⟨t, rfl⟩ := rx
  obtain ⟨hy, e'⟩ : y.size <= sizeLine /\ k = ((y.size : Int) != 0) := e
  subst e'
  exact PySem.W.truthy_bytes (by omega) ⟨H, I.tok _, q⟩
 | ref p =>
  cases rx
  have e' : (∃ xs, SqL X.K H p xs /\ k = !xs.isEmpty) \/ (∃ xs, SqT X.K H p xs /\ k = !xs.isEmpty) \/ ∃ kvs, H p = some (.dK kvs) /\ k = !kvs.isEmpty := e
  rcases e' with ⟨xs, hx, e'⟩ | ⟨xs, hx, e'⟩ | ⟨kvs, hx, e'⟩
  ·subst e'
   obtain ⟨its, r, pl, hz⟩ := I.list hx
   have hlen := r.length
   exact wpAny_truthy_list pl.isList (by simp only [List.size_toArray]; omega) ⟨H, I.tok _, by rw [sr r]; exact q⟩
  ·subst e'
   obtain ⟨its, r, pl, hz⟩ := I.tuple hx
   have hlen := r.length
   exact truthy_tuple pl (by simp only [List.size_toArray]; omega) ⟨H, I.tok _, by rw [sr r]; exact q⟩
  ·subst e'
   obtain ⟨hz, hS, vs, r, m⟩ : kvs.length <= sizeLine /\ (p == sysModules) = false /\ ∃ vs, KV kvs vs /\ s.heap.DictOf (yx X.prog X.w) p vs := I.hok p _ hx
   have hlen : kvs.length = vs.length := Paired.length r
   exact wpAny_truthy_dict hS m (by omega) ⟨H, I.tok _, by rw [Ar r]; exact q⟩
 | _ => exact (show False from e).elim
theorem pt_truth (ha : PE X a ta) (he : ∀ whole, isTrue a X.env whole = (do let v <- whole; standAt a.pos; holding [v] (truthy v))) :
  PT X a (fun σ H Q => ta σ H fun x H' => ∃ k, TruV X.K x H' k /\ Q k H') := by
 intro pins s σ H Q I h
 exact isTrue_plain (thn (ha pins s σ H _ I h) fun v s1 ⟨x, H1, I1, r1, q1⟩ => tru_ok pins s1 σ H1 x v Q I1 r1 q1) (he _)
theorem Al : OpR X (binaryOp .Add) (fun x y H Q => ∃ i j, x = .str i /\ y = .str j /\ i.length + j.length <= sizeLine /\ Q (.str (i ++ j)) H) := by
 intro pins s σ H x y v u Q I rx ry h
 obtain ⟨i, j, rfl, rfl, hz, q⟩ := h
 obtain ⟨t, rfl⟩ := rx
 obtain ⟨t', rfl⟩ := ry
 exact add_str (fun t' tk => ⟨.str (i ++ j), H, I.tok _, ⟨_, rfl⟩, q⟩) hz
theorem vals1 {x : V} {us : List Value} (r : Vals [x] us) : ∃ u, us = [u] /\ RelV x u := by
 cases r with
 | cons r1 r2 => cases r2; exact ⟨_, rfl, r1⟩
theorem vals2 {x y : V} {us : List Value} (r : Vals [x, y] us) : ∃ u w', us = [u, w'] /\ RelV x u /\ RelV y w' := by
 cases r with
 | cons r1 r2 =>
  cases r2 with
  | cons r3 r4 => cases r4; exact ⟨_, _, rfl, r1, r3⟩
theorem Cq (hc : X.calm = true) : eR X (.builtin "max") (fun xs H Q => ∃ i j, xs = [.int i, .int j] /\ Q (.int (if j > i then j else i)) H) := by
 intro pins s σ H xs us Q I r h
 obtain ⟨i, j, rfl, q⟩ := h
 obtain ⟨u, w', rfl, ⟨t, rfl⟩, ⟨t', rfl⟩⟩ := vals2 r
 refine max_two_ints (I.ok.hd hc) fun h' tk k => ⟨_, H, I.kept k, ?_, q⟩
 by_cases hj : j > i
 ·rw [if_pos hj, if_pos hj]; exact ⟨_, rfl⟩
 ·rw [if_neg hj, if_neg hj]; exact ⟨_, rfl⟩
theorem Co (hc : X.calm = true) : eR X (.builtin "min") (fun xs H Q => ∃ i j, xs = [.int i, .int j] /\ Q (.int (if j < i then j else i)) H) := by
 intro pins s σ H xs us Q I r h
 obtain ⟨i, j, rfl, q⟩ := h
 obtain ⟨u, w', rfl, ⟨t, rfl⟩, ⟨t', rfl⟩⟩ := vals2 r
 refine min_two_ints (I.ok.hd hc) fun h' tk k => ⟨_, H, I.kept k, ?_, q⟩
 by_cases hj : j < i
 ·rw [if_pos hj, if_pos hj]; exact ⟨_, rfl⟩
 ·rw [if_neg hj, if_neg hj]; exact ⟨_, rfl⟩
theorem Cr : eR X (.type "int") (fun xs H Q => (∃ i, xs = [.int i] /\ Q (.int i) H) \/ ∃ k, xs = [.bl k] /\ Q (.int (if k then 1 else 0)) H) := by
 intro pins s σ H xs us Q I r h
 rcases h with ⟨i, rfl, q⟩ | ⟨k, rfl, q⟩
 ·obtain ⟨u, rfl, t, rfl⟩ := vals1 r
  exact call_int_int ⟨.int i, H, I, ⟨_, rfl⟩, q⟩
 ·obtain ⟨u, rfl, r1⟩ := vals1 r
  cases r1
  exact call_int_bool ⟨.int (if k then 1 else 0), H, I.tok _, ⟨_, rfl⟩, q⟩
end
end L2
namespace L2
open PySem PySem.Spec PyProof.Rows
structure ObjM (h : Heap) (x dx C : Addr) (mA : Str -> Option Value) : Prop where
 obj : h.get? x = some (PySem.W.instObj C dx)
 ns : h.Ns1 dx mA
 ne : dx ≠ x
theorem qA {h : Heap} {dx : Addr} {mA : Str -> Option Value} (n : h.Ns1 dx mA) : ∃ od, h.get? dx = some od /\ ∀ name, PySem.W.lookIn name od = some (mA name) := by
 obtain ⟨o, es, ep, ho, hd, hk, _, hm⟩ := n
 refine ⟨o, ho, fun name => ?_⟩
 have e := hm name
 unfold nsFind findBy at e
 rw [<- Array.find?_toList] at e
 unfold PySem.W.lookIn
 rw [hd]
 dsimp only
 split
 ·rename_i y q
  rw [q] at e
  exact congrArg some e
 ·rename_i q
  rw [q] at e
  have a : es.toList.any (·.refKey) = false := by
   rw [List.any_eq_false]
   intro y hy
   obtain ⟨z, t, hkey⟩ := hk y (Array.mem_toList_iff.mp hy)
   simp [DictEntry.refKey, hkey]
  have a' : ¬ es.toList.any (·.refKey) = true := by rw [a]; exact Bool.false_ne_true
  rw [if_neg a']
  exact congrArg some e
theorem ObjM.look {h : Heap} {x dx C : Addr} {mA : Str -> Option Value} (I : ObjM h x dx C mA) : ∃ od, PySem.W.InstAt h x (PySem.W.instObj C dx) C (some od) /\ ∀ name, PySem.W.lookIn name od = some (mA name) :=
 let ⟨od, ho, hl⟩ := qA I.ns
 ⟨od, ⟨I.obj, rfl, rfl, ho⟩, hl⟩
section
variable {prog : Program} {w : World} {A : Around} {E : Value -> Shared -> Prop} {s : Shared} {K : PySem.W.Frag} {x dx C f : Addr} {mA : Str -> Option Value} {name : Str} {v : Value}
theorem get_map {expr : Bool} {Q : Value -> Shared -> Prop} (X : K.In s.heap) (I : ObjM s.heap x dx C mA) (hg : PySem.W.plainGet K C name = true) (hh : PySem.W.hasDictIn K C = true)
  (ha : PySem.W.findIn K (.ref C) name = some none) (hv : mA name = some v) (hv' : PySem.W.handedIn v = true) (h : Q v { s with toks := s.toks + 1 }) :
  wpAny (model prog w) A (getAttr (.ref x) name expr) Q E s := by
 obtain ⟨od, J, hl⟩ := I.look
 exact PySem.W.get_value X J (PySem.W.plainGet_of hg).1 (PySem.W.findObj_own hh ha rfl (by rw [hl, hv])) hv' h
theorem get_meth {pl : Sem Bool} {Q : Value × List Value -> Shared -> Prop} (X : K.In s.heap) (I : ObjM s.heap x dx C mA) (hg : PySem.W.plainGet K C name = true)
  (hf : PySem.W.findIn K (.ref C) name = some (some (.ref f))) (ht : PySem.W.isFn K (.ref f) = true) (hv : mA name = none) (h : Q (.ref f, [.ref x]) s) :
  wpAny (model prog w) A (getMethod (.ref x) name pl) Q E s := by
 obtain ⟨od, J, hl⟩ := I.look
 exact PySem.W.method_fn X J (PySem.W.plainGet_of hg).1 (PySem.W.plainGet_of hg).2 hf (beq_iff_eq.mp ht) (by show (PySem.W.lookIn name od).map (·.isSome) = some false; rw [hl, hv]; rfl) h
theorem set_map {ns : List Str} {Q : Unit -> Shared -> Prop} (X : K.In s.heap) (I : ObjM s.heap x dx C mA)
  (hs : PySem.W.findIn K (.ref C) "__setattr__" = some (some (.builtin "object.__setattr__"))) (hp : PySem.W.plainOver K C = true) (ht : PySem.W.takerIn K C name = some none) (hh : PySem.W.hasDictIn K C = true)
  (hw : PySem.Within mA ns) (hsz : ns.length <= sizeLine)
  (h : ∀ h', ObjM h' x dx C (fun y => if y = name then some v else mA y) -> Heap.SameBut dx s.heap h' -> Q () { s with heap := h', toks := s.toks + 2 }) :
  wpAny (model prog w) A (setAttr (.ref x) name v) Q E s := by
 obtain ⟨od, J, hl⟩ := I.look
 refine PySem.W.set_plain X J hs (PySem.W.osa_open (s := { s with toks := s.toks + 1 }) (r := none) X J hp ht fun b => ?_)
 obtain ⟨cd, hc, hd'⟩ := PySem.W.any_some hh
 have hx : s.heap.get? x = some ⟨.ref C, some dx, .plain, #[]⟩ := I.obj
 refine wpAny_bind (wpAny_pure (wpAny_bind (wpAny_bind (wpAny_loadPart hx (wpAny_bind (PySem.W.Looks.here (s := { s with toks := s.toks + 1 }) (PySem.W.looks_clsIn X hc) ?_))))))
 rw [hd']
 refine wpAny_pure (a := some dx) (wpAny_bind (wpAny_pure (wpAny_bind ?_)))
 refine wpAny_nsSet1 (s := { s with toks := s.toks + 1 }) I.ns fun h' hn2 hs2 => ?_
 obtain ⟨oD, esD, epD, hoD, hdD, hcD⟩ := hn2.count (PySem.Within.cons name v hw)
 refine wpAny_bind (wpAny_lookBehind hoD (by rw [hdD]; exact pastItsLine_dict (Nat.le_trans hcD (by rw [List.length_cons]; omega))) ?_)
 exact wpAny_pure (h _ ⟨(hs2.2 _ (Ne.symm I.ne)).trans I.obj, hn2, I.ne⟩ hs2)
theorem make_map {R : Result -> Shared -> Prop} {vs : List Value} {kw : List (Str × Value)} (X : K.In s.heap) (hm : PySem.W.makesIn K C = true)
  (hi : PySem.W.findIn K (.ref C) "__init__" = some (some (.ref f))) (hf : PySem.W.typeIn K (.ref f) = some (.type "function"))
  (h : codeAny (model prog w) (A.under (.builtin "type.__call__" ⟨.ref C :: vs, kw⟩)) (.call (.ref f) ⟨.ref (s.heap.objs.size + 1) :: vs, kw⟩) (PySem.W.InitBack (s.heap.objs.size + 1) R)
   { s with heap := (s.heap.push PySem.W.emptyDict).push (PySem.W.instObj C s.heap.objs.size) }) :
  codeAny (model prog w) A (.call (.ref C) ⟨vs, kw⟩) R s := by
 obtain ⟨hh, g, d, t, os⟩ := s
 exact PySem.W.make_core (PySem.W.makes_of X hm) (PySem.W.looks_findIn X hi) (fun self => PySem.W.bind_fn X self hf) (.inl rfl) h
end
noncomputable def rA (f : Str) (v : V) : List (Str × V) -> List (Str × V)
 | [] => [(f, v)]
 | (g, x) :: r => if g = f then (g, v) :: r else (g, x) :: rA f v r
theorem mw (f g : Str) (v : V) : ∀ fs : List (Str × V), (rA f v fs).lookup g = if g = f then some v else fs.lookup g
 | [] => by
  show List.lookup g [(f, v)] = _
  by_cases h : g = f
  ·have hb : (g == f) = true := beq_iff_eq.mpr h
   simp only [List.lookup, hb, if_pos h]
  ·have hb : (g == f) = false := beq_eq_false_iff_ne.mpr h
   simp only [List.lookup, hb, if_neg h]
 | (k, x) :: r => by
  have ih := mw f g v r
  rw [show rA f v ((k, x) :: r) = (if k = f then (k, v) :: r else (k, x) :: rA f v r) from rfl]
  by_cases hk : k = f
  ·rw [if_pos hk]
   by_cases h : g = k
   ·have hb : (g == k) = true := beq_iff_eq.mpr h
    simp only [List.lookup, hb, if_pos (h.trans hk)]
   ·have hb : (g == k) = false := beq_eq_false_iff_ne.mpr h
    simp only [List.lookup, hb, if_neg (fun e : g = f => h (e.trans hk.symm))]
  ·rw [if_neg hk]
   by_cases h : g = k
   ·have hb : (g == k) = true := beq_iff_eq.mpr h
    simp only [List.lookup, hb, if_neg (fun e : g = f => hk (h.symm.trans e))]
   ·have hb : (g == k) = false := beq_eq_false_iff_ne.mpr h
    simp only [List.lookup, hb]
    exact ih
theorem kU (f : Str) (v : V) : ∀ fs : List (Str × V), f ∈ (rA f v fs).map (·.1) /\ ∀ g, g ∈ fs.map (·.1) -> g ∈ (rA f v fs).map (·.1)
 | [] => ⟨by simp [rA], fun g h => by simp at h⟩
 | (k, x) :: r => by
  obtain ⟨i1, i2⟩ := kU f v r
  rw [show rA f v ((k, x) :: r) = (if k = f then (k, v) :: r else (k, x) :: rA f v r) from rfl]
  by_cases hk : k = f
  ·rw [if_pos hk]
   subst hk
   exact ⟨by simp, fun g h => by simpa using h⟩
  ·rw [if_neg hk]
   refine ⟨?_, fun g h => ?_⟩
   ·rw [List.map_cons]
    exact List.mem_cons_of_mem _ i1
   ·rw [List.map_cons] at h ⊢
    rcases List.mem_cons.mp h with e | e
    ·exact List.mem_cons.mpr (.inl e)
    ·exact List.mem_cons_of_mem _ (i2 g e)
theorem qC (f : Str) (v : V) : ∀ fs : List (Str × V), (rA f v fs).length <= fs.length + 1
 | [] => by simp [rA]
 | (k, x) :: r => by
  have ih := qC f v r
  rw [show rA f v ((k, x) :: r) = (if k = f then (k, v) :: r else (k, x) :: rA f v r) from rfl]
  by_cases hk : k = f
  ·rw [if_pos hk, List.length_cons, List.length_cons]; omega
  ·rw [if_neg hk, List.length_cons, List.length_cons]; omega
theorem v7.some_of {v : V} {o : Option Value} (r : v7 (some v) o) : ∃ u, o = some u /\ RelV v u := by
 cases o with
 | none => exact (show False from r).elim
 | some u => exact ⟨u, rfl, r⟩
theorem v7.none_of {o : Option Value} (r : v7 none o) : o = none := by
 cases o with
 | none => rfl
 | some u => exact (show False from r).elim
theorem qK {v : V} {u : Value} (r : RelV v u) : PySem.W.handedIn u = true := by
 cases v with
 | non => cases (show u = Value.none from r); rfl
 | bl b => cases (show u = Value.bool b from r); rfl
 | int i => obtain ⟨t, e⟩ := (show ∃ t, u = Value.int i t from r); cases e; rfl
 | str x => obtain ⟨t, e⟩ := (show ∃ t, u = Value.str x t from r); cases e; rfl
 | byt b => obtain ⟨t, e⟩ := (show ∃ t, u = Value.bytes b t from r); cases e; rfl
 | flt b => obtain ⟨t, e⟩ := (show ∃ t, u = Value.float b t from r); cases e; rfl
 | ref a => cases (show u = Value.ref a from r); rfl
 | ty n => cases (show u = Value.type n from r); rfl
section
variable {P : Program} {w : World} {H H' : Hp} {h h' : Heap} {a C dx : Addr} {fs fs' : List (Str × V)}
theorem um (hok : HOk P w H h) (e : H a = some (.ins C dx fs)) : ∃ mA, ObjM h a dx C mA /\ (∀ f, v7 (fs.lookup f) (mA f)) /\ PySem.Within mA (fs.map (·.1)) /\ fs.length <= 1000 /\ H dx = some (.own a) := by
 obtain ⟨d, z, ne, ob, mA, n, r, q⟩ := (show eP P w H h a (.ins C dx fs) from hok a _ e)
 exact ⟨mA, ⟨ob, n, ne⟩, r, q, z, d⟩
end
structure Cls (K : PySem.W.Frag) (C : Addr) : Prop where
 pg : PySem.W.plainGet K C Str.empty = true
 hd : PySem.W.hasDictIn K C = true
 po : PySem.W.plainOver K C = true
 sa : PySem.W.findIn K (.ref C) "__setattr__" = some (some (.builtin "object.__setattr__"))
theorem Cls.get {K : PySem.W.Frag} {C : Addr} (c : Cls K C) (f : Str) : PySem.W.plainGet K C f = true := c.pg
noncomputable def kr (K : PySem.W.Frag) (C : Addr) (f : Str) : Prop := PySem.W.findIn K (.ref C) f = some none
theorem kr.taker {K : PySem.W.Frag} {C : Addr} {f : Str} (n : kr K C f) : PySem.W.takerIn K C f = some none := by
 unfold PySem.W.takerIn
 rw [show PySem.W.findIn K (.ref C) f = some none from n]
 rfl
structure Con (K : PySem.W.Frag) (C : Addr) (f : Str) (v : V) (u : Value) : Prop where
 at_ : PySem.W.findIn K (.ref C) f = some (some u)
 rel : RelV v u
 get : PySem.W.specialIn K u "__get__" = some none
 cp : PySem.W.copiedNames.contains f = false
structure Meth (K : PySem.W.Frag) (C : Addr) (m : Str) (f : Addr) : Prop where
 at_ : PySem.W.findIn K (.ref C) m = some (some (.ref f))
 fn : PySem.W.isFn K (.ref f) = true
 kp : PySem.W.keepIn K (.ref f) = true
section
variable {X : Cx} {pins : List (Addr × Obj)} {σ : St} {H : Hp} {s : Shared} {a C dx : Addr} {fs : List (Str × V)} {f : Str} {v : V} {A : Around} {E : Value -> Shared -> Prop}
theorem As {b : Bool} {Q : Value -> Shared -> Prop} (I : Inv X pins σ H s) (e : H a = some (.ins C dx fs)) (c : Cls X.K C) (n : kr X.K C f) (l : fs.lookup f = some v)
  (h : ∀ u s', Inv X pins σ H s' -> RelV v u -> Q u s') : wpAny (model X.prog X.w) A (getAttr (.ref a) f b) Q E s := by
 obtain ⟨mA, O, r, _, _, _⟩ := um I.hok e
 obtain ⟨u, hu, ru⟩ := v7.some_of (v := v) (o := mA f) (by rw [<- l]; exact r f)
 exact get_map I.kIn O (c.get f) c.hd n hu (qK ru) (h u _ (I.tok _) ru)
theorem su {m : Str} {g : Addr} {pl : Sem Bool} {Q : Value × List Value -> Shared -> Prop} (I : Inv X pins σ H s) (e : H a = some (.ins C dx fs)) (c : Cls X.K C) (k : Meth X.K C m g) (l : fs.lookup m = none)
  (h : Q (.ref g, [.ref a]) s) : wpAny (model X.prog X.w) A (getMethod (.ref a) m pl) Q E s := by
 obtain ⟨mA, O, r, _, _, _⟩ := um I.hok e
 have hn : mA m = none := v7.none_of (by rw [<- l]; exact r m)
 exact get_meth I.kIn O (c.get m) k.at_ k.fn hn h
theorem Ag {y : V} {u : Value} {Q : Unit -> Shared -> Prop} (I : Inv X pins σ H s) (e : H a = some (.ins C dx fs)) (c : Cls X.K C) (n : kr X.K C f) (hl : fs.length < 1000) (ry : RelV y u)
  (h : ∀ s', Inv X pins σ (upd H a (.ins C dx (rA f y fs))) s' -> Q () s') : wpAny (model X.prog X.w) A (setAttr (.ref a) f u) Q E s := by
 obtain ⟨mA, O, r, wi, _, ho⟩ := um I.hok e
 have hz : (fs.map (·.1)).length <= sizeLine := by rw [List.length_map, sizeLine_eq]; omega
 refine set_map I.kIn O c.sa c.po n.taker c.hd wi hz fun h' O' sb => h _ ?_
 have hd : ∃ o, h'.get? dx = some o := let ⟨o, _, _, e', _⟩ := O'.ns; ⟨o, e'⟩
 refine I.write (x := a) (e := dx) (by rw [e]; exact True.intro) (.inr ho) (fun b q hb z => (sb.2 b hb).trans z) hd ?_
 refine ⟨by rw [aq O.ne]; exact ho, ?_, O.ne, O'.obj, _, O'.ns, fun g => ?_, fun g hg => ?_⟩
 ·have := qC f y fs; omega
 ·show v7 ((rA f y fs).lookup g) (if g = f then some u else mA g)
  rw [mw]
  by_cases q : g = f
  ·rw [if_pos q, if_pos q]; exact ry
  ·rw [if_neg q, if_neg q]; exact r g
 ·by_cases q : g = f
  ·rw [q]; exact (kU f y fs).1
  ·refine (kU f y fs).2 g (wi g fun z => hg ?_)
   show (if g = f then some u else mA g) = none
   rw [if_neg q]; exact z
theorem Inv.made (I : Inv X pins σ H s) : Inv X pins σ (upd (upd H s.heap.objs.size (.own (s.heap.objs.size + 1))) (s.heap.objs.size + 1) (.ins C s.heap.objs.size []))
  { s with heap := (s.heap.push PySem.W.emptyDict).push (PySem.W.instObj C s.heap.objs.size) } := by
 have e1 : (s.heap.push PySem.W.emptyDict).get? s.heap.objs.size = some PySem.W.emptyDict := Heap.get?_push_size s.heap rfl
 have e2 : ((s.heap.push PySem.W.emptyDict).push (PySem.W.instObj C s.heap.objs.size)).get? (s.heap.objs.size + 1) = some (PySem.W.instObj C s.heap.objs.size) := by
  have := Heap.get?_push_size (s.heap.push PySem.W.emptyDict) (o := PySem.W.instObj C s.heap.objs.size) rfl
  rwa [Heap.size_push] at this
 have e3 : (s.heap.push PySem.W.emptyDict).Ns s.heap.objs.size (fun _ => none) := ⟨PySem.W.emptyDict, #[], _, e1, rfl, (fun e he => absurd he (by simp)), fun _ => rfl⟩
 have I1 := I.laid (a := s.heap.objs.size) (o := .own (s.heap.objs.size + 1)) (h' := s.heap.push PySem.W.emptyDict) (t' := s.toks) (fun b u q => Heap.get?_push_of_some _ q) (Nat.le_refl _) ⟨_, e1⟩
 refine I1.laid (a := s.heap.objs.size + 1) (o := .ins C s.heap.objs.size []) (t' := s.toks) (fun b u q => Heap.get?_push_of_some _ q) (Nat.le_of_eq (Heap.size_push _ _)) ?_
 have ne : s.heap.objs.size ≠ s.heap.objs.size + 1 := Nat.ne_of_lt (Nat.lt_succ_self _)
 refine ⟨by rw [aq ne, ar], Nat.zero_le _, ne, e2, fun _ => none, (Heap.Ns1.of_empty e3).at fun o q => Heap.get?_push_of_some _ q, fun _ => True.intro, fun y hy => absurd rfl hy⟩
theorem zf {prog : Program} {w : World} {env : Env} {e : Expr} {f : Str} {pos : Pos} {s : Shared} {Q : Value -> Shared -> Prop} (hb : attributeBase e f env (eval e env) = eval e env)
  (h : wpAny (model prog w) A (eval e env) (fun o s₁ => wpAny (model prog w) A (getAttr o f true) Q E s₁) E s) : wpAny (model prog w) A (eval (.Attribute e f pos) env) Q E s :=
 Attribute_any_ h (by rw [arm_eval_Attribute, hb])
end
noncomputable def tFld (K : PySem.W.Frag) (ta : TE) (f : Str) : TE := fun σ H Q => ta σ H fun x H1 => ∃ a C dx fs v, x = .ref a /\ H1 a = some (.ins C dx fs) /\ Cls K C /\ kr K C f /\ fs.lookup f = some v /\ Q v H1
noncomputable def sFld (K : PySem.W.Frag) (ta tv : TE) (f : Str) : TS := fun D σ H => tv σ H fun y H1 => ta σ H1 fun x H2 => ∃ a C dx fs, x = .ref a /\ H2 a = some (.ins C dx fs) /\ Cls K C /\ kr K C f /\ fs.length < 1000 /\
 D.nx σ (upd H2 a (.ins C dx (rA f y fs)))
section
variable {X : Cx} {o e value : Expr} {f : Str} {pos pos' tpos : Pos} {ta tv : TE}
theorem Bt (he : PE X e ta) (hb : attributeBase e f X.env (eval e X.env) = eval e X.env) : PE X (.Attribute e f pos) (tFld X.K ta f) := by
 intro pins s σ H Q I h
 refine zf hb (thn (he pins s σ H _ I h) fun u s1 ⟨x, H1, I1, rx, a, C, dx, fs, v, ex, ea, c, n, l, q⟩ => ?_)
 subst ex
 obtain rfl : u = Value.ref a := rx
 exact As I1 ea c n l fun u' s2 I2 ru => ⟨v, H1, I2, ru, q⟩
theorem ps_fld (ha : PE X o ta) (hv : PE X value tv) (hs : swapsWith value (some (.Attribute o f pos')) pos.line X.env = pure false) : PS X (.Assign [.Attribute o f pos'] value pos) (sFld X.K ta tv f) := by
 intro pins s σ H D I h
 refine plainObj_wpAny_Assign_Attribute (thn (hv pins s σ H _ I h) fun u s1 ⟨y, H1, I1, ry, q⟩ => thn (ha pins s1 σ H1 _ I1 q) fun ov s2 ⟨x, H2, I2, rx, a, C, dx, fs, ex, ea, c, n, l, q2⟩ => ?_) hs
 subst ex
 obtain rfl : ov = Value.ref a := rx
 exact Ag I2 ea c n l ry fun s3 I3 => ⟨σ, _, I3, q2⟩
theorem methcall_of {pl : Sem Bool} {m : Str} {apos : Pos} {args : List Expr} {pins : List (Addr × Obj)} {s : Shared} {σ : St} {H : Hp} {Q : Value -> Shared -> Prop} {te : TE} (he : PE X e te) (I : Inv X pins σ H s)
  (h : te σ H fun x H1 => ∃ a C dx fs g, x = .ref a /\ H1 a = some (.ins C dx fs) /\ Cls X.K C /\ Meth X.K C m g /\ fs.lookup m = none /\
   ∀ s1, Inv X pins σ H1 s1 -> wpAny (model X.prog X.w) X.A (callWith pos (.ref g) [.ref a] (backTo pos (starEach args X.env)) (backToKw pos (keywordEach [] X.env))) Q X.xe s1)
  (ht : eval (.Call (.Attribute e m apos) args [] pos) X.env = (do
   let ov <- eval e X.env
   standAt apos.atName
   let (f, first) <- holding [ov] (getMethod ov m pl)
   callWith pos f first (backTo pos (starEach args X.env)) (backToKw pos (keywordEach [] X.env)))) :
  wpAny (model X.prog X.w) X.A (eval (.Call (.Attribute e m apos) args [] pos) X.env) Q X.xe s := by
 refine PySem.W.methodCall_KW (pl := pl) (thn (he pins s σ H _ I h) fun u s1 ⟨x, H1, I1, rx, a, C, dx, fs, g, ex, ea, c, k, l, q⟩ => ?_) ht
 subst ex
 obtain rfl : u = Value.ref a := rx
 exact su I1 ea c k l (q s1 I1)
end
section
variable {X : Cx} {pins : List (Addr × Obj)} {σ : St} {H : Hp} {s : Shared} {A : Around} {E : Value -> Shared -> Prop} {Q : Value -> Shared -> Prop} {c : Value} {b : Bool}
inductive A7 (K : PySem.W.Frag) (H : Hp) : V -> Value -> Prop where
 | non : A7 K H .non (.type "NoneType")
 | bl (x : Bool) : A7 K H (.bl x) (.type "bool")
 | int (i : Int) : A7 K H (.int i) (.type "int")
 | str (x : Str) : A7 K H (.str x) (.type "str")
 | flt (x : UInt64) : A7 K H (.flt x) (.type "float")
 | lst {a : Addr} {xs : List V} (e : H a = some (.lst xs)) : A7 K H (.ref a) (.type "list")
 | frz {a : Addr} {o : Obj} {xs : List V} (e : H a = some (.frz o (.lst xs))) : A7 K H (.ref a) (.type "list")
 | tup {a : Addr} {xs : List V} (e : H a = some (.tup xs)) : A7 K H (.ref a) (.type "tuple")
 | dK {a : Addr} {kvs : List (Key × V)} (e : H a = some (.dK kvs)) : A7 K H (.ref a) (.type "dict")
 | dT {a : Addr} {kvs : List (List Key × V)} (e : H a = some (.dT kvs)) : A7 K H (.ref a) (.type "dict")
 | ins {a C dx : Addr} {fs : List (Str × V)} (e : H a = some (.ins C dx fs)) (cl : Cls K C) (ha : PySem.W.findIn K (.ref C) "__class__" = some (some (.builtin "object.__class__")))
   (hn : PySem.W.specialIn K (.builtin "object.__class__") "__get__" = some (some (.builtin "getset_descriptor.__get__"))) (htk : PySem.W.takesIn K (.builtin "object.__class__") = some true)
   (hm : PySem.W.mroIn K C (.type "object") = some true) : A7 K H (.ref a) (.ref C)
theorem BO {x : V} {u t : Value} (I : Inv X pins σ H s) (rx : RelV x u) (ty : A7 X.K H x t) (e : PySem.W.kitOne X.K t c = some b) (h : ∀ tk, Q (.bool b) { s with toks := tk }) :
  wpAny (model X.prog X.w) A (call (.builtin "isinstance") [u, c]) Q E s := by
 cases ty with
 | non => cases (show u = Value.none from rx); exact PySem.W.kia_one PySem.W.kitx_none I.kIn True.intro e (fun z => nomatch z) h
 | bl y => cases (show u = Value.bool y from rx); exact PySem.W.kia_one PySem.W.kitx_bool I.kIn True.intro e (fun z => nomatch z) h
 | int i => obtain ⟨t, q⟩ := (show ∃ t, u = Value.int i t from rx); cases q; exact PySem.W.kia_one PySem.W.kitx_int I.kIn True.intro e (fun z => nomatch z) h
 | str y => obtain ⟨t, q⟩ := (show ∃ t, u = Value.str y t from rx); cases q; exact PySem.W.kia_one PySem.W.kitx_str I.kIn True.intro e (fun z => nomatch z) h
 | flt y => obtain ⟨t, q⟩ := (show ∃ t, u = Value.float y t from rx); cases q; exact PySem.W.kia_one PySem.W.kitx_float I.kIn True.intro e (fun z => nomatch z) h
 | @lst a xs ea =>
  cases (show u = Value.ref a from rx)
  obtain ⟨_, _, n, _, h1⟩ := (show eP X.prog X.w H s.heap a (.lst xs) from I.hok a _ ea)
  exact PySem.W.kia_one PySem.W.kitx_list I.kIn ⟨_, h1, rfl⟩ e (fun z => nomatch z) h
 | @frz a ob xs ea =>
  cases (show u = Value.ref a from rx)
  obtain ⟨_, _, _, n, _, h1⟩ := (show eP X.prog X.w H s.heap a (.frz ob (.lst xs)) from I.hok a _ ea)
  exact PySem.W.kia_one PySem.W.kitx_list I.kIn ⟨_, h1, rfl⟩ e (fun z => nomatch z) h
 | @tup a xs ea =>
  cases (show u = Value.ref a from rx)
  obtain ⟨_, _, _, p⟩ := (show eP X.prog X.w H s.heap a (.tup xs) from I.hok a _ ea)
  obtain ⟨o, h1, h2, _⟩ := p
  exact PySem.W.kia_one PySem.W.kitx_tuple I.kIn ⟨o, h1, h2⟩ e (fun z => nomatch z) h
 | @dK a kvs ea =>
  cases (show u = Value.ref a from rx)
  obtain ⟨_, _, vs, _, p⟩ := (show eP X.prog X.w H s.heap a (.dK kvs) from I.hok a _ ea)
  obtain ⟨o, es, ep, h1, h2, _⟩ := p
  exact PySem.W.kia_one PySem.W.kitx_dict I.kIn ⟨o, h1, h2.1⟩ e (fun z => nomatch z) h
 | @dT a kvs ea =>
  cases (show u = Value.ref a from rx)
  obtain ⟨_, _, xs, _, o, es, ep, h1, h2, _⟩ := (show eP X.prog X.w H s.heap a (.dT kvs) from I.hok a _ ea)
  exact PySem.W.kia_one PySem.W.kitx_dict I.kIn ⟨o, h1, h2.1⟩ e (fun z => nomatch z) h
 | @ins a C dx fs ea cl ha hn htk hm =>
  cases (show u = Value.ref a from rx)
  obtain ⟨mA, O, _⟩ := um I.hok ea
  obtain ⟨od, J, _⟩ := O.look
  exact PySem.W.kia_one (PySem.W.kitx_own (cl.get _) cl.hd ha hn htk hm) I.kIn J e (fun z => nomatch z) h
end
end L2
namespace L2
open PySem PySem.Spec PyProof.Rows
structure ka (k : Nat) (A : Around) : Prop where
 hd : A.handled = none
 dp : A.depth + 3 * k + 5 < recursionLimit
 un : A.units + 16 * k + 200 < cLine
theorem ka.mono {j k : Nat} {A : Around} (r : ka k A) (h : j <= k) : ka j A := ⟨r.hd, by have := r.dp; omega, by have := r.un; omega⟩
theorem ka.deeper {k : Nat} {A : Around} (r : ka (k + 1) A) (env : Env) : ka k (A.deeper env) :=
 ⟨r.hd, by have := r.dp; show A.depth + 1 + 3 * k + 5 < _; omega, by have := r.un; show A.units + 3 + 16 * k + 200 < _; omega⟩
theorem Ao {A : Around} {C : Addr} {us : List Value} {kw : List (Str × Value)} : (A.under (.builtin "type.__call__" ⟨.ref C :: us, kw⟩)).depth = A.depth + 1 := by
 first | rfl | simp [Around.under, Code.weight, Code.isCreation, Code.isGuard, Code.isCaller, Code.frames, Code.isFrame, guardIds]
theorem An {A : Around} {C : Addr} {us : List Value} {kw : List (Str × Value)} : (A.under (.builtin "type.__call__" ⟨.ref C :: us, kw⟩)).units = A.units + 1 := by
 first | rfl | simp [Around.under, Code.cUnits, Code.frames, Code.isFrame]
theorem ka.make {k : Nat} {A : Around} (r : ka (k + 1) A) (C : Addr) (us : List Value) (kw : List (Str × Value)) : ka k (A.under (.builtin "type.__call__" ⟨.ref C :: us, kw⟩)) :=
 ⟨r.hd, by have := r.dp; rw [Ao]; omega, by have := r.un; rw [An]; omega⟩
theorem ka.depth {k : Nat} {A : Around} (r : ka k A) : A.depth < recursionLimit := by have := r.dp; omega
theorem ka.units {k : Nat} {A : Around} (r : ka k A) : A.units + 64 < cLine := by have := r.un; omega
noncomputable def AL : TA := fun _ H Q => Q [] H
noncomputable def ip (ta : TE) (tr : TA) : TA := fun σ H Q => ta σ H fun x H1 => tr σ H1 fun xs H2 => Q (x :: xs) H2
section
variable {X : Cx} {e : Expr} {es : List Expr} {te : TE} {t : TA} {pos : Pos}
theorem eU : PA X [] AL := fun _ _ _ _ H Q I h => Calls.spliced_nil ⟨[], H, I, .nil, h⟩
theorem aW (ha : PE X e te) (hr : PA X es t) (hs : starEach (e :: es) X.env = (false, eval e X.env) :: starEach es X.env := by rfl) : PA X (e :: es) (ip te t) := by
 intro pos pins s σ H Q I h
 rw [hs]
 show wpAny _ _ (spliced ((false, eval e X.env) :: backTo pos (starEach es X.env))) _ _ s
 refine Calls.spliced_cons (thn (ha pins s σ H _ I h) fun u s1 ⟨x, H1, I1, r1, q1⟩ => ?_)
 exact thn (hr pos pins s1 σ H1 _ I1 q1) fun us s2 ⟨xs, H2, I2, r2, q2⟩ => ⟨x :: xs, H2, I2, .cons r1 r2, q2⟩
noncomputable def tTup (t : TA) : TE := fun σ H Q => t σ H fun xs H1 => xs.length <= sizeLine /\ ∀ p, H1 p = none -> Q (.ref p) (upd H1 p (.tup xs))
noncomputable def tLst (t : TA) : TE := fun σ H Q => t σ H fun xs H1 => xs.length <= sizeLine /\ ∀ p, H1 p = none -> Q (.ref p) (upd H1 p (.lst xs))
theorem Bq {x1} (h : PA X es t) : PE X (.Tuple es x1 pos) (tTup t) := by
 intro pins s σ H Q I hq
 refine wpAny_Tuple_spliced (thn (h pos pins s σ H _ I hq) fun us s1 ⟨xs, H1, I1, r, z, q⟩ => ⟨by rw [<- r.length]; exact z, ?_⟩)
 have hf : H1 s1.heap.objs.size = none := I1.hok.fresh (Nat.le_refl _)
 refine ⟨.ref s1.heap.objs.size, upd H1 s1.heap.objs.size (.tup xs), I1.laid (t' := s1.toks) (fun b u e => Heap.get?_push_of_some _ e) (Nat.le_refl _) ?_, rfl, q _ hf⟩
 exact ⟨z, us, r, ⟨_, Heap.get?_push_size _ rfl, rfl, _, rfl⟩⟩
theorem pe_lst (h : PA X es t) : PE X (.List es pos) (tLst t) := by
 intro pins s σ H Q I hq
 refine wpAny_List_spliced (thn (h pos pins s σ H _ I hq) fun us s1 ⟨xs, H1, I1, r, z, q⟩ => ⟨by rw [<- r.length]; exact z, ?_⟩)
 have hf : H1 s1.heap.objs.size = none := I1.hok.fresh (Nat.le_refl _)
 refine ⟨.ref s1.heap.objs.size, upd H1 s1.heap.objs.size (.lst xs), I1.laid (t' := s1.toks) (fun b u e => Heap.get?_push_of_some _ e) (Nat.le_refl _) ?_, rfl, q _ hf⟩
 exact ⟨z, us, 0, r, Heap.get?_push_size _ rfl⟩
end
noncomputable abbrev Sp := List V -> Hp -> VK -> XK -> Prop
noncomputable abbrev CXT := List Env -> Hp -> Shared -> XK -> Value -> Shared -> Prop
structure Env0 (P : Program) (w : World) (K : PySem.W.Frag) (mg : Str -> Option Value) (base : Heap) (A : Around) (outer : List Env) (s : Shared) (H : Hp) : Prop where
 frames : A.frames = some outer
 mod : Mod K mg base
 bs : ∀ b o, base.get? b = some o -> s.heap.get? b = some o /\ H b = none
 bsz : base.objs.size <= s.heap.objs.size
 wM : s.heap.FunFrames base outer
 frf : ∀ b ∈ frs outer, H b = none
 hok : HOk P w H s.heap
 bare : AllBare s.gens
noncomputable def CE (outer : List Env) (P : Program) (w : World) (H : Hp) (s : Shared) (Q : VK) (u : Value) (s' : Shared) : Prop :=
 ∃ v H', s'.os = s.os /\ AllBare s'.gens /\ Un (frs outer) [] H H' s.heap s'.heap /\ HOk P w H' s'.heap /\ RelV v u /\ Q v H'
noncomputable def CR (CX : CXT) (outer : List Env) (P : Program) (w : World) (H : Hp) (s : Shared) (Q : VK) (E : XK) (r : Result) (s' : Shared) : Prop :=
 match r with
 | .ok (.ret u) => CE outer P w H s Q u s'
 | .ok _ => False
 | .error e => CX outer H s E e s'
structure bJ (P : Program) (w : World) (K : PySem.W.Frag) (mg : Str -> Option Value) (base : Heap) (CX : CXT) (k : Nat) (f : Addr) (fd : FuncData) (ps : List Str) (sp : Sp) : Prop where
 len : ∀ vs H Q E, sp vs H Q E -> vs.length = ps.length
 run : ∀ (A : Around) (outer : List Env) (s : Shared) (H : Hp) (args : Args) (us : List Value) (vs : List V) (Q : VK) (E : XK), ka k A -> Env0 P w K mg base A outer s H -> BindsTo s fd args (ps.zip us) -> Vals vs us -> sp vs H Q E ->
  codeAny (model P w) A (.call (.ref f) args) (CR CX outer P w H s Q E) s
theorem Env0.make {P : Program} {w : World} {K : PySem.W.Frag} {mg : Str -> Option Value} {base : Heap} {A : Around} {outer : List Env} {s : Shared} {H : Hp} (e : Env0 P w K mg base A outer s H) (C : Addr) (us : List Value) (kw : List (Str × Value)) :
  Env0 P w K mg base (A.under (.builtin "type.__call__" ⟨.ref C :: us, kw⟩)) outer s H := ⟨by first | exact e.frames | (simpa [Around.under, Code.envs, Code.isFrame, pushEnvs] using e.frames), e.mod, e.bs, e.bsz, e.wM, e.frf, e.hok, e.bare⟩
section
variable {X : Cx} {pins : List (Addr × Obj)} {σ : St} {H : Hp} {s s' : Shared}
theorem Inv.env0 (I : Inv X pins σ H s) : Env0 X.prog X.w X.K X.mg X.base X.A X.stack s H :=
 ⟨I.ok.frames, I.ok.mod, I.bs, Nat.le_trans I.ok.bsz I.sz, I.stack, I.B7, I.hok, I.bare⟩
theorem Inv.after {Q : VK} {u : Value} (I : Inv X pins σ H s) (h : CE X.stack X.prog X.w H s Q u s') : EP X pins σ Q u s' := by
 obtain ⟨v, H', os, bare, un, hok, r, q⟩ := h
 obtain ⟨hh, g, d, t, os'⟩ := s'
 obtain rfl : os' = s.os := os
 exact ⟨v, H', I.call (h' := hh) (g' := g) (d' := d) (t' := t) (ch := []) un hok bare (fun b z => absurd z (by simp)), r, q⟩
end
noncomputable def tCall (sp : Sp) (dvs : List V) (E : XK) (t : TA) : TE := fun σ H Q => t σ H fun vs H1 => sp (vs ++ dvs) H1 Q E
noncomputable def tMeth (C : Addr) (m : Str) (sp : Sp) (dvs : List V) (E : XK) (ta : TE) (t : TA) : TE := fun σ H Q => ta σ H fun x H1 => ∃ a dx fs, x = .ref a /\ H1 a = some (.ins C dx fs) /\ fs.lookup m = none /\
 t σ H1 fun vs H2 => sp (x :: (vs ++ dvs)) H2 Q E
noncomputable def tMake (C : Addr) (sp : Sp) (dvs : List V) (E : XK) (t : TA) : TE := fun σ H Q => t σ H fun vs H1 => ∀ x dx, H1 x = none -> H1 dx = none -> dx ≠ x ->
 sp (.ref x :: (vs ++ dvs)) (upd (upd H1 dx (.own x)) x (.ins C dx [])) (fun v H2 => v = .non /\ Q (.ref x) H2) E
noncomputable def Binds (K : PySem.W.Frag) (fd : FuncData) (ps : List Str) (ds : List Value) : Prop :=
 ∀ (s : Shared) (us : List Value), K.In s.heap -> (us ++ ds).length = ps.length -> BindsTo s fd ⟨us, []⟩ (ps.zip (us ++ ds))
theorem Binds.all {K : PySem.W.Frag} {fd : FuncData} {ps : List Str} (h : ∀ us : List Value, us.length = ps.length -> bindArgs fd ⟨us, []⟩ = pure (ps.zip us)) : Binds K fd ps [] := fun s us _ hl => by
 rw [List.append_nil] at hl ⊢
 exact .of_eq (h us hl)
noncomputable def Passes (CX : CXT) (X : Cx) (E : XK) : Prop := ∀ (pins : List (Addr × Obj)) (σ : St) (H : Hp) (s : Shared) (e : Value) (s' : Shared), Inv X pins σ H s -> CX X.stack H s E e s' -> X.xe e s'
section
variable {X : Cx} {CX : CXT} {k : Nat} {f C : Addr} {fd : FuncData} {ps : List Str} {sp : Sp} {dvs : List V} {ds : List Value} {E : XK} {x m : Str} {p pos apos : Pos} {e o : Expr} {es : List Expr} {ta : TE} {t : TA}
theorem Bc {pins : List (Addr × Obj)} {σ : St} {H : Hp} {s : Shared} {Q : VK} {us : List Value} {vs : List V} (F : bJ X.prog X.w X.K X.mg X.base CX k f fd ps sp) (hr : ka k X.A) (hb : Binds X.K fd ps ds) (hd : Vals dvs ds) (hx : Passes CX X E)
  (I : Inv X pins σ H s) (r : Vals vs us) (h : sp (vs ++ dvs) H Q E) : wpAny (model X.prog X.w) X.A (call (.ref f) us) (EP X pins σ Q) X.xe s := by
 have r2 : Vals (vs ++ dvs) (us ++ ds) := r.append hd
 have hl : (us ++ ds).length = ps.length := by rw [<- r2.length]; exact F.len _ _ _ _ h
 refine wpAny_call (codeAny_mono (F.run X.A X.stack s H ⟨us, []⟩ (us ++ ds) (vs ++ dvs) Q E hr I.env0 (hb s us I.kIn hl) r2 h) fun r s' hq => ?_)
 cases r with
 | error e => exact hx pins σ H s e s' I hq
 | ok fl =>
  cases fl with
  | ret u => exact I.after hq
  | next => exact False.elim hq
  | brk => exact False.elim hq
  | cont => exact False.elim hq
theorem yi (F : bJ X.prog X.w X.K X.mg X.base CX k f fd ps sp) (hr : ka k X.A) (hg : Gl X x) (hm : X.mg x = some (.ref f)) (hk : PySem.W.keepIn X.K (.ref f) = true) (hb : Binds X.K fd ps ds) (hd : Vals dvs ds) (hx : Passes CX X E)
  (ha : PA X (e :: es) t) (hdb : (x == ("__debug__" : Str)) = false := by decide) (he : starEach (e :: es) X.env = (false, eval e X.env) :: starEach es X.env := by rfl) (hpl : (backTo pos (starEach es X.env)).any (·.1) = false := by rfl) :
  PE X (.Call (.Name x p) (e :: es) [] pos) (tCall sp dvs E t) := by
 intro pins s σ H Q I h
 refine wpAny_Call_Name_kw (iK I hg hm ?_ hdb)
 refine PySem.W.callWith_K (h₀ := X.base) I.ok.mod.kin hk (thn (ha pos pins s σ H _ I h) fun us s1 ⟨vs, H1, I1, r, q⟩ => ⟨I1.kIn, ?_⟩) he hpl
 exact Bc F hr hb hd hx I1 r q
theorem pe_meth {pl : Sem Bool} (he : PE X o ta) (c : Cls X.K C) (hm : Meth X.K C m f) (F : bJ X.prog X.w X.K X.mg X.base CX k f fd ps sp) (hr : ka k X.A) (hb : Binds X.K fd ps ds) (hd : Vals dvs ds) (hx : Passes CX X E) (ha : PA X (e :: es) t)
  (hst : starEach (e :: es) X.env = (false, eval e X.env) :: starEach es X.env := by rfl) (hpl : (backTo pos (starEach es X.env)).any (·.1) = false := by rfl)
  (ht : eval (.Call (.Attribute o m apos) (e :: es) [] pos) X.env = (do
   let ov <- eval o X.env
   standAt apos.atName
   let (f, first) <- holding [ov] (getMethod ov m pl)
   callWith pos f first (backTo pos (starEach (e :: es) X.env)) (backToKw pos (keywordEach [] X.env))) := by rfl) :
  PE X (.Call (.Attribute o m apos) (e :: es) [] pos) (tMeth C m sp dvs E ta t) := by
 intro pins s σ H Q I h
 refine PySem.W.methodCall_KW (pl := pl) (thn (he pins s σ H _ I h) fun u s1 ⟨x, H1, I1, rx, a, dx, fs, ex, ea, l, q⟩ => ?_) ht
 subst ex
 obtain rfl : u = Value.ref a := rx
 refine su I1 ea c hm l ?_
 refine PySem.W.callWith_K (first := [.ref a]) (h₀ := X.base) I.ok.mod.kin hm.kp (thn (ha pos pins s1 σ H1 _ I1 q) fun us s2 ⟨vs, H2, I2, r, q2⟩ => ⟨I2.kIn, ?_⟩) hst hpl
 exact Bc (us := .ref a :: us) (vs := .ref a :: vs) F hr hb hd hx I2 (.cons rfl r) q2
structure Mk (K : PySem.W.Frag) (C f : Addr) : Prop where
 makes : PySem.W.makesIn K C = true
 init : PySem.W.findIn K (.ref C) "__init__" = some (some (.ref f))
 fn : PySem.W.isFn K (.ref f) = true
 kp : PySem.W.keepIn K (.ref C) = true
theorem run_make {pins : List (Addr × Obj)} {σ : St} {H : Hp} {s : Shared} {Q : VK} {us : List Value} {vs : List V} (M : Mk X.K C f) (F : bJ X.prog X.w X.K X.mg X.base CX k f fd ps sp) (hr : ka (k + 1) X.A) (hb : Binds X.K fd ps ds) (hd : Vals dvs ds)
  (hx : Passes CX X E) (I : Inv X pins σ H s) (r : Vals vs us)
  (h : ∀ x dx, H x = none -> H dx = none -> dx ≠ x -> sp (.ref x :: (vs ++ dvs)) (upd (upd H dx (.own x)) x (.ins C dx [])) (fun v H2 => v = .non /\ Q (.ref x) H2) E) :
  wpAny (model X.prog X.w) X.A (call (.ref C) us) (EP X pins σ Q) X.xe s := by
 have hq := h (s.heap.objs.size + 1) s.heap.objs.size (I.hok.fresh (Nat.le_succ _)) (I.hok.fresh (Nat.le_refl _)) (Nat.ne_of_lt (Nat.lt_succ_self _))
 have I2 := Inv.made (C := C) I
 have r2 : Vals (V.ref (s.heap.objs.size + 1) :: (vs ++ dvs)) (Value.ref (s.heap.objs.size + 1) :: (us ++ ds)) := .cons rfl (r.append hd)
 have hl : (Value.ref (s.heap.objs.size + 1) :: us ++ ds).length = ps.length := by
  have e := r2.length
  rw [F.len _ _ _ _ hq] at e
  exact e.symm
 refine wpAny_call (make_map (f := f) I.kIn M.makes M.init (beq_iff_eq.mp M.fn) (codeAny_mono (F.run _ X.stack _ _ ⟨Value.ref (s.heap.objs.size + 1) :: us, []⟩ (Value.ref (s.heap.objs.size + 1) :: (us ++ ds)) _ _ E (hr.make C us [])
  (I2.env0.make C us []) (hb _ (Value.ref (s.heap.objs.size + 1) :: us) I2.kIn hl) r2 hq) fun r s' hq' => ?_))
 cases r with
 | error e => exact hx pins σ _ _ e s' I2 hq'
 | ok fl =>
  cases fl with
  | ret u =>
   obtain ⟨v, H', I3, rv, ev, q3⟩ := I2.after hq'
   subst ev
   exact ⟨rv, ⟨V.ref (s.heap.objs.size + 1), H', I3, rfl, q3⟩⟩
  | next => exact False.elim hq'
  | brk => exact False.elim hq'
  | cont => exact False.elim hq'
theorem Br (M : Mk X.K C f) (F : bJ X.prog X.w X.K X.mg X.base CX k f fd ps sp) (hr : ka (k + 1) X.A) (hg : Gl X x) (hm : X.mg x = some (.ref C)) (hb : Binds X.K fd ps ds) (hd : Vals dvs ds) (hx : Passes CX X E)
  (ha : PA X (e :: es) t) (hdb : (x == ("__debug__" : Str)) = false := by decide) (he : starEach (e :: es) X.env = (false, eval e X.env) :: starEach es X.env := by rfl) (hpl : (backTo pos (starEach es X.env)).any (·.1) = false := by rfl) :
  PE X (.Call (.Name x p) (e :: es) [] pos) (tMake C sp dvs E t) := by
 intro pins s σ H Q I h
 refine wpAny_Call_Name_kw (iK I hg hm ?_ hdb)
 refine PySem.W.callWith_K (h₀ := X.base) I.ok.mod.kin M.kp (thn (ha pos pins s σ H _ I h) fun us s1 ⟨vs, H1, I1, r, q⟩ => ⟨I1.kIn, ?_⟩) he hpl
 exact run_make M F hr hb hd hx I1 r q
end
section
variable {X : Cx} {CX : CXT} {k : Nat} {f C : Addr} {fd : FuncData} {ps ks : List Str} {sp : Sp} {E : XK} {x m : Str} {p pos apos kpos : Pos} {e o : Expr} {es : List Expr} {kws : List Keyword} {te ta : TE} {t tk : TA} {nm : Option Str}
structure KBinds (K : PySem.W.Frag) (fd : FuncData) (ps ks : List Str) (g : List Value -> List Value -> List Value) (gV : List V -> List V -> List V) : Prop where
 to : ∀ (s : Shared) (us ws : List Value), K.In s.heap -> (g us ws).length = ps.length -> BindsTo s fd ⟨us, ks.zip ws⟩ (ps.zip (g us ws))
 rel : ∀ {vs : List V} {us : List Value} {zs : List V} {ws : List Value}, Vals vs us -> Vals zs ws -> Vals (gV vs zs) (g us ws)
variable {g : List Value -> List Value -> List Value} {gV : List V -> List V -> List V}
end
structure aR (N P : List Str) (sc : Scope) : Prop where
 kind : sc.kind = .function
 co : sc.isCoroutine = false
 gen : sc.isGenerator = false
 nd : N.Nodup
 pre : N.take P.length = P
 par : ∀ x ∈ P, sc.names.lookup x = some .local \/ sc.names.lookup x = some .cell
 nofree : ∀ y ∈ sc.names, y.2 ≠ .free
theorem xv {kindOf : Str -> Option NameKind} {x : Str} : ∀ {binds : List (Str × Value)} {m : Str -> Option Value}, (∀ v, (x, v) ∉ binds) -> bindL kindOf binds m x = m x
 | [], _, _ => rfl
 | (n, v) :: r, m, h => by
  unfold bindL
  rw [xv fun w hw => h w (List.mem_cons_of_mem _ hw)]
  split
  ·have : x ≠ n := by rintro rfl; exact h v List.mem_cons_self
   simp [this]
  ·rfl
theorem xx {kindOf : Str -> Option NameKind} {x : Str} : ∀ {binds : List (Str × Value)} {m : Str -> Option Value}, (∀ v, (x, v) ∉ binds) -> bindC kindOf binds m x = m x
 | [], _, _ => rfl
 | (n, v) :: r, m, h => by
  unfold bindC
  rw [xx fun w hw => h w (List.mem_cons_of_mem _ hw)]
  split
  ·rfl
  ·have : x ≠ n := by rintro rfl; exact h v List.mem_cons_self
   simp [this]
theorem xw {kindOf : Str -> Option NameKind} {x : Str} {v : Value} : ∀ {P : List Str} {vs : List Value} {i : Nat} {m : Str -> Option Value}, P.Nodup -> P[i]? = some x -> vs[i]? = some v -> kindOf x = some .local ->
  bindL kindOf (P.zip vs) m x = some v
 | [], _, _, _, _, h, _, _ => by simp at h
 | _ :: _, [], _, _, _, _, h, _ => by simp at h
 | p :: P, w :: vs, 0, m, nd, h1, h2, hk => by
  simp at h1 h2; subst h1; subst h2
  show bindL kindOf ((p, w) :: P.zip vs) m p = _
  unfold bindL
  rw [xv fun v hv => (List.nodup_cons.mp nd).1 (List.of_mem_zip hv).1, if_pos hk]
  simp
 | p :: P, w :: vs, i + 1, m, nd, h1, h2, hk => by
  show bindL kindOf ((p, w) :: P.zip vs) m x = _
  unfold bindL
  exact xw (i := i) (List.nodup_cons.mp nd).2 (by simpa using h1) (by simpa using h2) hk
theorem xy {kindOf : Str -> Option NameKind} {x : Str} {v : Value} : ∀ {P : List Str} {vs : List Value} {i : Nat} {m : Str -> Option Value}, P.Nodup -> P[i]? = some x -> vs[i]? = some v -> kindOf x ≠ some .local ->
  bindC kindOf (P.zip vs) m x = some v
 | [], _, _, _, _, h, _, _ => by simp at h
 | _ :: _, [], _, _, _, _, h, _ => by simp at h
 | p :: P, w :: vs, 0, m, nd, h1, h2, hk => by
  simp at h1 h2; subst h1; subst h2
  show bindC kindOf ((p, w) :: P.zip vs) m p = _
  unfold bindC
  rw [xx fun v hv => (List.nodup_cons.mp nd).1 (List.of_mem_zip hv).1, if_neg hk]
  simp
 | p :: P, w :: vs, i + 1, m, nd, h1, h2, hk => by
  show bindC kindOf ((p, w) :: P.zip vs) m x = _
  unfold bindC
  exact xy (i := i) (List.nodup_cons.mp nd).2 (by simpa using h1) (by simpa using h2) hk
noncomputable def start (N : List Str) (vs : List V) : St := vs.map some ++ List.replicate (N.length - vs.length) none
noncomputable def Cc (CX : CXT) (P : Program) (w : World) (K : PySem.W.Frag) (mg : Str -> Option Value) (base : Heap) (N : List Str) (qual : Str) (scope : Scope) (f : Addr) (cd : Value) (A : Around) (outer : List Env) (s : Shared) (H : Hp) (E : XK) : Cx where
 prog := P
 w := w
 K := K
 mg := mg
 base := base
 A := A.deeper (envOfC qual scope s.heap.objs.size f cd)
 N := N
 s₀ := s
 H₀ := H
 env := envOfC qual scope s.heap.objs.size f cd
 outer := outer
 stack := envOfC qual scope s.heap.objs.size f cd :: outer
 ex := []
 calm := true
 fn := fun _ => true
 pn := []
 xe := fun e s' => wpAny (model P w) (A.deeper (envOfC qual scope s.heap.objs.size f cd)) (leaving (envOfC qual scope s.heap.objs.size f cd) e) (fun _ s'' => CX outer H s E e s'') (fun e' s'' => CX outer H s E e' s'') s'
theorem A0 {sc : Scope} {n : Nat} {x : Str} (h : sc.names.lookup x = some .cell) : ∃ c, (cellsFrom n sc.names []).lookup x = some c := by
 have q := PySem.W.cellsFrom_some sc.names n [] (.inl h)
 exact Option.isSome_iff_exists.mp q
theorem BR {CX : CXT} {P : Program} {w : World} {K : PySem.W.Frag} {mg : Str -> Option Value} {base : Heap} {N ps : List Str} {qual : Str} {scope : Scope} {f : Addr} {cd : Value} {A : Around} {outer : List Env} {s s1 : Shared} {H : Hp} {E : XK} {us : List Value} {vs : List V}
  (S : aR N ps scope) (hd : A.handled = none) (e0 : Env0 P w K mg base A outer s H) (hl : vs.length = ps.length) (r : Vals vs us)
  (x : InCallC s s.heap.objs.size (bindL (envOfC qual scope s.heap.objs.size f cd).kindOf (ps.zip us) fun _ => none) (cellsFrom (s.heap.objs.size + 1) scope.names []) (bindC (envOfC qual scope s.heap.objs.size f cd).kindOf (ps.zip us) fun _ => none) s1) :
  Inv (Cc CX P w K mg base N qual scope f cd A outer s H E) [] (start N vs) H s1 := by
 have hpl : ps.length <= N.length := by have := congrArg List.length S.pre; rw [List.length_take] at this; omega
 obtain ⟨h1, tk, rfl, hk⟩ := x.done
 have noA : ∀ b : Addr, b ∉ (Cc CX P w K mg base N qual scope f cd A outer s H E).ex := fun b z => absurd (show b ∈ ([] : List Addr) from z) (by simp)
 refine ⟨⟨e0.mod, S.kind, rfl, rfl, Nat.le_refl _, fun y z c h1 h2 => ?_, fun y hy => ?_, fun y c _ h => ?_, fun _ => hd, Around.frames_deeper e0.frames, .inr ⟨rfl, rfl⟩, fun b z => absurd z (noA b), e0.bs, e0.bsz, fun b _ _ => noA b, fun b z => absurd z (noA b), e0.wM, e0.frf⟩,
  rfl, e0.bare, Un.kept hk, ⟨_, x.toInCall.ns, fun i y v h1 h2 h3 => ?_⟩, fun y c h => ⟨_, x.cell y c h⟩, e0.hok.fresh (Nat.le_refl _), fun y c h => ?_, fun p hp => absurd (show p ∈ ([] : List (Addr × Obj)) from hp) (by simp), e0.hok.kept hk, ?_⟩
 ·exact name_of_addr x.apart (PySem.mem_of_lookup h1) (PySem.mem_of_lookup h2)
 ·have hy : scope.names.lookup y = some .cell \/ scope.names.lookup y = some .free := hy
  rcases hy with hy | hy
  ·exact A0 hy
  ·exact absurd rfl (S.nofree _ (PySem.mem_of_lookup hy))
 ·exact Nat.le_of_lt (x.above y c (PySem.mem_of_lookup h))
 ·have hi : i < vs.length := by
   unfold start at h2
   by_cases hi : i < vs.length
   ·exact hi
   ·rw [List.getElem?_append_right (by simpa using hi)] at h2
    rw [List.getElem?_replicate] at h2
    split at h2 <;> cases h2
  have ha : vs[i]? = some v := by
   unfold start at h2
   rw [List.getElem?_append_left (by simpa using hi), List.getElem?_map] at h2
   cases e : vs[i]? with
   | none => rw [e] at h2; cases h2
   | some a => rw [e] at h2; cases h2; rfl
  obtain ⟨u, hu, rv⟩ := r.get ha
  have hp : ps[i]? = some y := by
   rw [<- S.pre, List.getElem?_take_of_lt (by omega)]; exact h1
  have ndP : ps.Nodup := by rw [<- S.pre]; exact S.nd.sublist (List.take_sublist _ _)
  refine ⟨u, rv, ?_⟩
  rcases S.par y (List.mem_of_getElem? hp) with k | k
  ·exact .inl ⟨k, xw ndP hp hu k⟩
  ·obtain ⟨c, e⟩ := A0 (n := s.heap.objs.size + 1) k
   refine .inr ⟨.inl k, c, e, ?_⟩
   have q := x.cell y c e
   rw [xy ndP hp hu (by show scope.names.lookup y ≠ _; rw [k]; decide)] at q
   exact q
 ·exact e0.hok.fresh (Nat.le_of_lt (x.above y c (PySem.mem_of_lookup h)))
 ·unfold start
  show _ = N.length
  rw [List.length_append, List.length_map, List.length_replicate]
  omega
theorem fn_of {CX : CXT} {P : Program} {w : World} {K : PySem.W.Frag} {mg : Str -> Option Value} {base : Heap} {k : Nat} {f : Addr} {name qual : Str} {params : Arguments} {body : List Stmt} {scope : Scope} {dV kV doc pm cdv ct oc : Value} {an od : Option Addr}
  {osl : Array (Option Value)} {N ps : List Str} {sp : Sp} (lk : K.lookup f = some ⟨oc, od, .func (PySem.W.fnOf name qual params body scope dV kV doc pm an cdv ct), osl⟩) (hcd : PySem.W.codeIn K cdv qual = true) (S : aR N ps scope)
  (len : ∀ vs H Q E, sp vs H Q E -> vs.length = ps.length)
  (hbody : ∀ (A : Around) (outer : List Env) (s : Shared) (H : Hp) (vs : List V) (Q : VK) (E : XK), ka k (A.deeper (envOfC qual scope s.heap.objs.size f cdv)) -> sp vs H Q E ->
   ∃ t, PSs (Cc CX P w K mg base N qual scope f cdv A outer s H E) body t /\ t { nx := fun _ H' => Q .non H', rt := Q } (start N vs) H) :
  bJ P w K mg base CX (k + 1) f (PySem.W.fnOf name qual params body scope dV kV doc pm an cdv ct) ps sp := by
 refine ⟨len, fun A outer s H args us vs Q E hr e0 hb r hsp => ?_⟩
 have hl := len _ _ _ _ hsp
 have KX : K.In s.heap := e0.mod.kin.keeps fun b o e => (e0.bs b o e).1
 have lim : s.heap.NoLimit := e0.mod.nolimit.keeps fun b o e => (e0.bs b o e).1
 have hkind : ∀ y ∈ ps.zip us, scope.names.lookup y.1 = some .local \/ (scope.names.lookup y.1 = some .cell /\ ((cellsFrom (s.heap.objs.size + 1) scope.names []).lookup y.1).isSome = true) := fun ⟨n, v⟩ hy => by
  rcases S.par n (List.of_mem_zip hy).1 with q | q
  ·exact .inl q
  ·exact .inr ⟨q, PySem.W.cellsFrom_some _ _ _ (.inl q)⟩
 refine codeAny_call_function hr.depth (KX _ _ lk) rfl S.co S.gen rfl (PySem.W.codeRec_of KX hcd) (hb _ _ _ _ ?_)
 refine wpAny_newFunctionEnv_cells S.kind hkind fun env he s1 x => ?_
 subst he
 refine ⟨lim.keeps x.toInCall.keep, codeAny_func ?_⟩
 obtain ⟨t, ht, hq⟩ := hbody A outer s H vs Q E (hr.deeper _) hsp
 have I : Inv (Cc CX P w K mg base N qual scope f cdv A outer s H E) [] (start N vs) H s1 := BR S hr.hd e0 hl r x
 refine wpAny_mono (ht [] s1 (start N vs) H _ I hq) (fun fl s' hs => ?_) fun e s' hs => hs
 have fin : ∀ {σ' : St} {H' : Hp} {v : V} {u : Value}, Inv (Cc CX P w K mg base N qual scope f cdv A outer s H E) [] σ' H' s' -> RelV v u -> Q v H' -> CE outer P w H s Q u s' :=
  fun {σ' H' v u} J rv q => ⟨v, H', J.os, J.bare, J.base, J.hok, rv, q⟩
 cases fl with
 | ret u =>
  obtain ⟨v, σ', H', J, rv, q⟩ := hs
  exact fin J rv q
 | next =>
  obtain ⟨σ', H', J, q⟩ := hs
  exact fin (v := V.non) (u := Value.none) J rfl q
 | brk =>
  obtain ⟨_, _, _, q⟩ := hs
  exact False.elim q
 | cont =>
  obtain ⟨_, _, _, q⟩ := hs
  exact False.elim q
end L2
namespace L2
open PySem PySem.Spec PyProof.Rows
section
variable {X : Cx} {x : Str} {p pos : Pos} {e : Expr} {es : List Expr} {t : TA} {id T : String} {r : List V -> Hp -> VK -> Prop}
noncomputable def tCB (r : List V -> Hp -> VK -> Prop) (t : TA) : TE := fun σ H Q => t σ H fun vs H1 => r vs H1 Q
theorem g4 (hc : eR X (.builtin id) r) (hg : Gl X x) (hm : X.mg x = none) (hv : bootBuiltins x = some (.builtin id)) (ha : PA X (e :: es) t) (hn : x ≠ "__name__" := by decide) (hdb : (x == ("__debug__" : Str)) = false := by decide)
  (he : starEach (e :: es) X.env = (false, eval e X.env) :: starEach es X.env := by rfl) (hpl : (backTo pos (starEach es X.env)).any (·.1) = false := by rfl) : PE X (.Call (.Name x p) (e :: es) [] pos) (tCB r t) := by
 intro pins s σ H Q I h
 refine wpAny_Call_Name_kw (wD I hg hm hv ?_ hn hdb)
 exact PyProof.Rows.callWith_builtin1 (thn (ha pos pins s σ H _ I h) fun us s1 ⟨vs, H1, I1, r1, q1⟩ => hc pins s1 σ H1 vs us Q I1 r1 q1) he hpl
theorem Bu (hc : eR X (.type T) r) (hg : Gl X x) (hm : X.mg x = none) (hv : bootBuiltins x = some (.type T)) (ha : PA X (e :: es) t) (hn : x ≠ "__name__" := by decide) (hdb : (x == ("__debug__" : Str)) = false := by decide)
  (he : starEach (e :: es) X.env = (false, eval e X.env) :: starEach es X.env := by rfl) (hpl : (backTo pos (starEach es X.env)).any (·.1) = false := by rfl) : PE X (.Call (.Name x p) (e :: es) [] pos) (tCB r t) := by
 intro pins s σ H Q I h
 refine wpAny_Call_Name_kw (wD I hg hm hv ?_ hn hdb)
 exact PyProof.Rows.callWith_type1 (thn (ha pos pins s σ H _ I h) fun us s1 ⟨vs, H1, I1, r1, q1⟩ => hc pins s1 σ H1 vs us Q I1 r1 q1) he hpl
end
end L2
namespace HT
open PySem PyProof.Rows
section
open PySem.SeqAt
open PySem.AutoSeq1 (wpAny_loadPart')
open PySem.MeetsSeq PySem.MeetsSeq2 PySem.MeetsSeq3
end
section
variable {prog : Program} {w : World} {A : Around} {E : Value -> Shared -> Prop} {s : Shared}
theorem cat_tup {t b : Addr} {vs ws : List Value} {Q : Value -> Shared -> Prop} (ht : IsTup s.heap t vs.toArray) (hb : IsTup s.heap b ws.toArray) (hv : vs ≠ [])
  (h1 : ws = [] -> Q (.ref t) s) (h2 : ws ≠ [] -> Q (.ref s.heap.objs.size) { s with heap := s.heap.push { cls := .type "tuple", data := .seq (vs ++ ws).toArray } })
  (hsz : vs.length + ws.length <= sizeLine) : wpAny (model prog w) A (binaryOp .Add (.ref t) (.ref b)) Q E s := by
 obtain ⟨⟨cls, dd, data, sl⟩, ho, hc, n, hd⟩ := id ht
 obtain ⟨⟨cls2, dd2, data2, sl2⟩, ho2, hc2, n2, hd2⟩ := id hb
 simp only at hc hd hc2 hd2
 subst hc hd hc2 hd2
 have e : vs.toArray ++ ws.toArray = (vs ++ ws).toArray := by simp
 by_cases hw : ws = []
 ·exact concat_meets ⟨_, ho, rfl⟩ ⟨_, ho2, rfl⟩ noFill_tuple_add seq_tuple_add PySem.F.slot_tuple_add PySem.F.entry_tuple_add (PySem.F.args_tuple_add_2 _ _)
   (tuple_addW1 t b vs.toArray ws.toArray n n2 dd dd2 sl sl2 (by simpa using hv) (by simp [hw])) ⟨ho, ho2, h1 hw⟩
 ·refine concat_meets ⟨_, ho, rfl⟩ ⟨_, ho2, rfl⟩ noFill_tuple_add seq_tuple_add PySem.F.slot_tuple_add PySem.F.entry_tuple_add (PySem.F.args_tuple_add_2 _ _)
   (tuple_addW2 t b vs.toArray ws.toArray n n2 dd dd2 sl sl2 (by simpa using hv) (by simpa using hw) (by rw [List.size_toArray, List.size_toArray]; exact hsz)) ⟨ho, ho2, ?_⟩
  rw [e]
  exact h2 hw
noncomputable def sIx (n d : Nat) : Option Int -> Nat
 | none => d
 | some v => if v < 0 then (v + (n : Int)).toNat else min v.toNat n
theorem sIx_le (n d : Nat) (hd : d <= n) (o : Option Int) : sIx n d o <= n := by
 cases o with
 | none => exact hd
 | some v =>
  show (if v < 0 then (v + (n : Int)).toNat else min v.toNat n) <= n
  by_cases hv : v < 0
  ·rw [if_pos hv]; omega
  ·rw [if_neg hv]; exact Nat.min_le_right _ _
theorem Cm (v : Int) (n d : Nat) : (if v < 0 then max (v + (n : Int)) 0 else min v (n : Int)) = ((sIx n d (some v) : Nat) : Int) := by
 show (if v < 0 then max (v + (n : Int)) 0 else min v (n : Int)) = (((if v < 0 then (v + (n : Int)).toNat else min v.toNat n) : Nat) : Int)
 by_cases hv : v < 0
 ·simp only [if_pos hv]; omega
 ·simp only [if_neg hv]; omega
theorem AJ (lo hi : Option Int) (n : Nat) : Builtin.Slice.sliceAdjust lo hi 1 (n : Int) = (((sIx n 0 lo : Nat) : Int), ((sIx n n hi : Nat) : Int)) := by
 have h1 : ¬ ((1 : Int) < 0) := by omega
 unfold Builtin.Slice.sliceAdjust
 simp only [h1, if_false]
 refine Prod.ext ?_ ?_
 ·cases lo with
  | none => rfl
  | some v => exact Cm v n 0
 ·cases hi with
  | none => rfl
  | some v => exact Cm v n n
theorem Ak (i j : Nat) : Builtin.Slice.slicePlaces (i : Int) (j : Int) 1 = j - i := by
 unfold Builtin.Slice.slicePlaces
 have h1 : (1 : Int) > 0 := by omega
 simp only [h1, if_true, Int.ediv_one]
 split <;> omega
theorem sh {v : Value} {o : Option Int} {Q : Option Int -> Shared -> Prop} (p : IsPart v o) (h : Q o s) : wpAny (model prog w) A (Builtin.Slice.slicePartIndex v) Q E s := by
 cases p with
 | none => exact slicePart_none h
 | int i t => exact slicePart_int h
theorem pA {sl : Addr} {vl vu : Value} {lo hi : Option Int} {n : Nat} {Q : Int × Int × Nat -> Shared -> Prop} (hs : s.heap.IsSliceOf sl vl vu .none) (pl : IsPart vl lo) (pu : IsPart vu hi)
  (h : Q (((sIx n 0 lo : Nat) : Int), 1, sIx n n hi - sIx n 0 lo) s) : wpAny (model prog w) A (Builtin.Slice.sliceApplied (.ref sl) (pure (n : Int))) Q E s := by
 obtain ⟨os, hos, hcs, hds⟩ := id hs
 unfold Builtin.Slice.sliceApplied Builtin.Slice.sliceFields
 refine wpAny_bind (wpAny_bind (wpAny_field hos hds (x := vl) rfl (wpAny_bind (wpAny_field hos hds (x := vu) rfl (wpAny_bind (wpAny_field hos hds (x := .none) rfl (wpAny_pure ?_)))))))
 refine wpAny_bind (slicePart_none ?_)
 show wpAny _ _ (if ((1 : Int) == 0) = true then _ else _) _ _ s
 rw [if_neg (by decide)]
 refine wpAny_bind (sh pl (wpAny_bind (sh pu (wpAny_bind (wpAny_pure ?_)))))
 show wpAny _ _ (match Builtin.Slice.sliceAdjust lo hi 1 (n : Int) with | (lo, hi) => pure (lo, (1 : Int), Builtin.Slice.slicePlaces lo hi 1)) _ _ s
 rw [AJ lo hi n]
 show wpAny _ _ (pure (((sIx n 0 lo : Nat) : Int), (1 : Int), Builtin.Slice.slicePlaces ((sIx n 0 lo : Nat) : Int) ((sIx n n hi : Nat) : Int) 1)) _ _ s
 rw [Ak]
 exact wpAny_pure h
theorem pick_gen (xs : Array Value) (i k : Nat) : ((List.range k).filterMap fun (m : Nat) => xs[((i : Int) + (m : Int) * 1).toNat]?).toArray = ((xs.toList.drop i).take k).toArray := by
 have e : (fun (m : Nat) => xs[((i : Int) + (m : Int) * 1).toNat]?) = fun m => xs[i + m]? := by
  funext m
  have : ((i : Int) + (m : Int) * 1).toNat = i + m := by omega
  rw [this]
 rw [e]
 have := pick_run xs i k
 rw [List.filterMap_map] at this
 have e2 : ((fun x => xs[x]?) ∘ fun x => i + x) = fun m => xs[i + m]? := rfl
 rw [e2] at this
 rw [this]
theorem oM {t sl : Addr} {items : Array Value} {vl vu : Value} {lo hi : Option Int} {Q : Value -> Shared -> Prop} (ht : IsTup s.heap t items) (hs : s.heap.IsSliceOf sl vl vu .none) (pl : IsPart vl lo) (pu : IsPart vu hi)
  (hw : ¬ (sIx items.size 0 lo = 0 /\ sIx items.size items.size hi = items.size))
  (h : Q (.ref s.heap.objs.size) { s with heap := s.heap.push { cls := .type "tuple", data := .seq ((items.toList.drop (sIx items.size 0 lo)).take (sIx items.size items.size hi - sIx items.size 0 lo)).toArray } })
  (hsz : items.size <= sizeLine) : wpAny (model prog w) A (getItem (.ref t) (.ref sl)) Q E s := by
 have htake : sizeOk (.seq ((items.toList.drop (sIx items.size 0 lo)).take (sIx items.size items.size hi - sIx items.size 0 lo)).toArray) := by
  show ((items.toList.drop (sIx items.size 0 lo)).take (sIx items.size items.size hi - sIx items.size 0 lo)).toArray.size <= sizeLine
  rw [List.size_toArray, List.length_take, List.length_drop, Array.length_toList]
  omega
 have hj : sIx items.size items.size hi <= items.size := sIx_le _ _ (Nat.le_refl _) hi
 obtain ⟨os, hos, hcs, hds⟩ := id hs
 have hTs : s.TypeIs (.ref sl) "slice" := ⟨os, hos, hcs⟩
 unfold getItem
 try with_reducible refine wpAny_holding ?_
 first | refine wpAny_bind (wpAny_pure ?_) | skip
 refine wpAny_bind (wpAny_sequenceKey ht.typeIs (by decide) ?_)
 refine wpAny_bind (wpAny_callSpecial?_slot (name := Str.ofString "__getitem__") ht.typeIs PyProof.Rows.slot_tuple_getitem
  (wpAny_call_entry PyProof.Rows.slot_tuple_getitem ht.typeIs entry_tuple_getitem ?_ (args_tuple_getitem _ _)))
 show wpAny _ _ (Builtin.Tuple.tupleItemsOf (.ref t) >>= _) _ _ s
 refine wpAny_bind (tupleItemsOf_ ht ?_)
 refine wpAny_bind (wpAny_typeOf hTs ?_)
 rw [if_pos (by decide)]
 refine wpAny_bind (pA hs pl pu ?_)
 have hno : ¬ ((((sIx items.size 0 lo : Nat) : Int) == 0 && (1 : Int) == 1 && (sIx items.size items.size hi - sIx items.size 0 lo) == items.size) = true) := by
  intro q
  rw [Bool.and_eq_true, Bool.and_eq_true] at q
  have q1 : ((sIx items.size 0 lo : Nat) : Int) = 0 := eq_of_beq q.1.1
  have q2 : sIx items.size items.size hi - sIx items.size 0 lo = items.size := eq_of_beq q.2
  exact hw ⟨by omega, by omega⟩
 show wpAny _ _ (if (((sIx items.size 0 lo : Nat) : Int) == 0 && (1 : Int) == 1 && (sIx items.size items.size hi - sIx items.size 0 lo) == items.size) = true then _ else _) _ _ s
 rw [if_neg hno, pick_gen]
 first
  | exact wpAny_bind (m := Builtin.Tuple.tupleExact _) (wpAny_newObj_type (wpAny_pure ⟨_, rfl, wpAny_pure h⟩) htake)
  | exact wpAny_bind (m := Builtin.Tuple.tupleExact _) (wpAny_newObj_type (wpAny_bind (wpAny_pure (wpAny_pure ⟨_, rfl, wpAny_pure h⟩))) htake)
  | exact wpAny_bind (wpAny_bind (m := Builtin.Tuple.tupleExact _) (wpAny_newObj_type (wpAny_pure (wpAny_pure ⟨_, rfl, wpAny_pure h⟩)) htake))
  | exact wpAny_bind (wpAny_bind (m := Builtin.Tuple.tupleExact _) (wpAny_newObj_type (wpAny_pure ⟨_, rfl, wpAny_pure h⟩) htake))
end
end HT
namespace L2
open PySem PySem.Spec PyProof.Rows
noncomputable abbrev TO := St -> Hp -> (Option Int -> Hp -> Prop) -> Prop
noncomputable def PO (X : Cx) (e : Option Expr) (t : TO) : Prop :=
 ∀ (pins : List (Addr × Obj)) (s : Shared) (σ : St) (H : Hp) (Q : Option Int -> Hp -> Prop), Inv X pins σ H s -> t σ H Q ->
  wpAny (model X.prog X.w) X.A (evalPart e X.env) (fun u s' => ∃ o H', Inv X pins σ H' s' /\ IsPart u o /\ Q o H') X.xe s
noncomputable def tNoPart : TO := fun _ H Q => Q none H
noncomputable def tPart (t : TE) : TO := fun σ H Q => t σ H fun x H1 => ∃ i, x = .int i /\ Q (some i) H1
theorem intsAre_of {ns : List Int} : ∀ {us : List Value}, Vals (ns.map V.int) us -> IntsAre us ns := by
 induction ns with
 | nil => intro us r; rw [List.map_nil] at r; cases r; exact .nil
 | cons n ns ih =>
  intro us r
  rw [List.map_cons] at r
  cases r with
  | cons r1 r2 =>
   obtain ⟨t, e⟩ := r1
   subst e
   exact .cons n t (ih r2)
section
variable {X : Cx} {e : Expr} {te : TE} {lo hi : Option Expr} {tl th : TO} {pos p2 : Pos}
theorem po_none : PO X none tNoPart := by
 intro pins s σ H Q I h
 rw [evalPart_none]
 exact wpAny_pure ⟨none, H, I, .none, h⟩
theorem po_some (h : PE X e te) : PO X (some e) (tPart te) := by
 intro pins s σ H Q I hw
 rw [evalPart_some]
 refine thn (h pins s σ H _ I hw) fun u s1 ⟨x, H1, I1, r1, q1⟩ => ?_
 obtain ⟨i, rfl, q⟩ := q1
 obtain ⟨t, rfl⟩ := r1
 exact ⟨some i, H1, I1, .int i t, q⟩
noncomputable def SlR (X : Cx) (r : V -> Option Int -> Option Int -> Hp -> VK -> Prop) : Prop :=
 ∀ (pins : List (Addr × Obj)) (s : Shared) (σ : St) (H : Hp) (x : V) (v vl vu : Value) (lo hi : Option Int) (sl : Addr) (Q : VK), Inv X pins σ H s -> RelV x v -> s.heap.IsSliceOf sl vl vu .none -> IsPart vl lo -> IsPart vu hi -> r x lo hi H Q ->
  ∃ T id, typeLookup (.type T) "__getitem__" = pure (some (.builtin id)) /\ s.TypeIs v T /\ wpAny (model X.prog X.w) X.A (getItem v (.ref sl)) (EP X pins σ Q) X.xe s
theorem SlR.or {r r' : V -> Option Int -> Option Int -> Hp -> VK -> Prop} (h : SlR X r) (h' : SlR X r') : SlR X (fun x lo hi H Q => r x lo hi H Q \/ r' x lo hi H Q) := by
 intro pins s σ H x v vl vu lo hi sl Q I rx hs pl pu q
 rcases q with q | q
 ·exact h pins s σ H x v vl vu lo hi sl Q I rx hs pl pu q
 ·exact h' pins s σ H x v vl vu lo hi sl Q I rx hs pl pu q
noncomputable def tSl (r : V -> Option Int -> Option Int -> Hp -> VK -> Prop) (te : TE) (tl th : TO) : TE := fun σ H Q => te σ H fun x H1 => tl σ H1 fun l H2 => th σ H2 fun u H3 => r x l u H3 Q
theorem pe_slice {r : V -> Option Int -> Option Int -> Hp -> VK -> Prop} (hr : SlR X r) (he : PE X e te) (hl : PO X lo tl) (hu : PO X hi th) : PE X (.Subscript e (.Slice lo hi none p2) pos) (tSl r te tl th) := by
 intro pins s σ H Q I h
 refine Subscript_ (thn (he pins s σ H _ I h) fun v s1 ⟨x, H1, I1, r1, q1⟩ => ?_)
 refine wpAny_Slice (thn (hl pins s1 σ H1 _ I1 q1) fun vl s2 ⟨l, H2, I2, pl, q2⟩ => thn (hu pins s2 σ H2 _ I2 q2) fun vu s3 ⟨u, H3, I3, pu, q3⟩ => ?_)
 rw [evalPart_none]
 refine wpAny_pure ?_
 have I4 : Inv X pins σ H3 { s3 with heap := s3.heap.push { cls := .type "slice", data := .fields #[vl, vu, .none] } } := I3.kept (t' := s3.toks) fun b ob q => Heap.get?_push_of_some _ q
 obtain ⟨T, id, hT, ht, hg⟩ := hr pins { s3 with heap := s3.heap.push { cls := .type "slice", data := .fields #[vl, vu, .none] } } σ H3 x v vl vu l u s3.heap.objs.size Q I4 r1 (Heap.IsSliceOf.new ..) pl pu q3
 show wpAny (model X.prog X.w) X.A (subscriptTail e (.Slice lo hi none p2) v (.ref s3.heap.objs.size)) (EP X pins σ Q) X.xe { s3 with heap := s3.heap.push { cls := .type "slice", data := .fields #[vl, vu, .none] } }
 exact tail_any (ops := [.ref s3.heap.objs.size, v]) ht hT hg (by with_unfolding_all rfl)
noncomputable def cutV (xs : List V) (lo hi : Option Int) : List V := (xs.drop (HT.sIx xs.length 0 lo)).take (HT.sIx xs.length xs.length hi - HT.sIx xs.length 0 lo)
theorem qR (xs : List V) (lo hi : Option Int) : (cutV xs lo hi).length <= xs.length := by
 unfold cutV
 rw [List.length_take, List.length_drop]
 omega
noncomputable def rSlT (K : PySem.W.Frag) : V -> Option Int -> Option Int -> Hp -> VK -> Prop := fun x lo hi H Q => ∃ a xs, x = .ref a /\ SqT K H a xs /\
 ¬ (HT.sIx xs.length 0 lo = 0 /\ HT.sIx xs.length xs.length hi = xs.length) /\ ∀ p, H p = none -> Q (.ref p) (upd H p (.tup (cutV xs lo hi)))
theorem sl_tup : SlR X (rSlT X.K) := by
 intro pins s σ H x v vl vu lo hi sl Q I rx hs pl pu h
 obtain ⟨a, xs, rfl, hx, hw, q⟩ := h
 cases rx
 obtain ⟨its, r, ht, hz⟩ := I.tuple hx
 have hlen : its.toArray.size = xs.length := by rw [List.size_toArray]; exact r.length.symm
 refine ⟨"tuple", _, PyProof.Rows.slot_tuple_getitem.lookup, ht.typeIs, ?_⟩
 refine HT.oM ht hs pl pu (by rw [hlen]; exact hw) ?_ (by rw [hlen]; exact hz)
 rw [hlen]
 refine ⟨.ref s.heap.objs.size, _, I.laid (t' := s.toks) (o := .tup (cutV xs lo hi)) (fun b ob q => Heap.get?_push_of_some _ q) (Nat.le_refl _) ?_, rfl, q _ (I.hok.fresh (Nat.le_refl _))⟩
 exact ⟨Nat.le_trans (qR xs lo hi) hz, _, (r.drop (HT.sIx xs.length 0 lo)).take (HT.sIx xs.length xs.length hi - HT.sIx xs.length 0 lo), IsTup.new _ _⟩
noncomputable def rCatT (K : PySem.W.Frag) : R2 := fun x y H Q => ∃ a b xs ys, x = .ref a /\ y = .ref b /\ SqT K H a xs /\ SqT K H b ys /\ xs ≠ [] /\ xs.length + ys.length <= sizeLine /\
 (ys = [] -> Q (.ref a) H) /\ (ys ≠ [] -> ∀ p, H p = none -> Q (.ref p) (upd H p (.tup (xs ++ ys))))
theorem Vals.yw {xs : List V} {us : List Value} (r : Vals xs us) : us = [] ↔ xs = [] := by
 cases r with
 | nil => simp
 | cons _ _ => simp
theorem op_catT : OpR X (binaryOp .Add) (rCatT X.K) := by
 intro pins s σ H x y v u Q I rx ry h
 obtain ⟨a, b, xs, ys, rfl, rfl, ha, hb, hx, hz, q1, q2⟩ := h
 cases rx
 cases ry
 obtain ⟨its, r1, p1, _⟩ := I.tuple ha
 obtain ⟨its2, r2, p2, _⟩ := I.tuple hb
 refine HT.cat_tup p1 p2 (fun z => hx (r1.yw.mp z)) (fun z => ⟨.ref a, H, I, rfl, q1 (r2.yw.mp z)⟩) (fun z => ?_) (by rw [<- r1.length, <- r2.length]; exact hz)
 refine ⟨.ref s.heap.objs.size, _, I.laid (t' := s.toks) (o := .tup (xs ++ ys)) (fun b ob q => Heap.get?_push_of_some _ q) (Nat.le_refl _) ?_, rfl, q2 (fun w => z (r2.yw.mpr w)) _ (I.hok.fresh (Nat.le_refl _))⟩
 exact ⟨by rw [List.length_append]; exact hz, _, r1.append r2, IsTup.new _ _⟩
end
end L2
namespace L2
open PySem PySem.Spec PyProof.Rows
noncomputable def ixN (n : Nat) (i : Int) : Option Nat := if 0 <= i then (if i < n then some i.toNat else none) else if -(n : Int) <= i then some (i + n).toNat else none
noncomputable def atI {α : Type} (xs : List α) (i : Int) : Option α := (ixN xs.length i).bind fun j => xs[j]?
theorem yA {n : Nat} {i : Int} {j : Nat} (h : ixN n i = some j) : seqIndex? i n = some j /\ j < n /\ -(n : Int) <= i /\ i < n := by
 unfold ixN at h
 by_cases h0 : 0 <= i
 ·rw [if_pos h0] at h
  by_cases h1 : i < n
  ·rw [if_pos h1] at h
   have e : i.toNat = j := Option.some.inj h
   exact ⟨by rw [seqIndex_of h0 h1, e], by omega, by omega, h1⟩
  ·rw [if_neg h1] at h; cases h
 ·rw [if_neg h0] at h
  by_cases h1 : -(n : Int) <= i
  ·rw [if_pos h1] at h
   have e : (i + n).toNat = j := Option.some.inj h
   exact ⟨by rw [seqIndex_neg (by omega) h1, e], by omega, h1, by omega⟩
  ·rw [if_neg h1] at h; cases h
theorem zh {α : Type} {xs : List α} {i : Int} {v : α} (h : atI xs i = some v) : ∃ j, seqIndex? i xs.length = some j /\ xs[j]? = some v /\ j < xs.length /\ -(xs.length : Int) <= i /\ i < xs.length := by
 unfold atI at h
 cases e : ixN xs.length i with
 | none => rw [e] at h; cases h
 | some j =>
  rw [e] at h
  obtain ⟨h1, h2, h3, h4⟩ := yA e
  exact ⟨j, h1, h, h2, h3, h4⟩
noncomputable def CM (b : Expr) : Prop := ∀ o i, subscripted b false o i = operate [o, i] (getItem o i)
noncomputable def IxR (X : Cx) (r : R2) : Prop :=
 ∀ (value slice : Expr) (pins : List (Addr × Obj)) (s : Shared) (σ : St) (H : Hp) (x y : V) (v u : Value) (Q : VK), Inv X pins σ H s -> RelV x v -> RelV y u -> r x y H Q ->
  subscripted slice false v u = operate [v, u] (getItem v u) -> wpAny (model X.prog X.w) X.A (subscriptTail value slice v u) (EP X pins σ Q) X.xe s
noncomputable def MtR (X : Cx) (id : String) (r : V -> List V -> Hp -> VK -> Prop) : Prop :=
 ∀ (pins : List (Addr × Obj)) (s : Shared) (σ : St) (H : Hp) (x : V) (xs : List V) (v : Value) (us : List Value) (Q : VK), Inv X pins σ H s -> RelV x v -> Vals xs us -> r x xs H Q ->
  wpAny (model X.prog X.w) X.A (call (.builtin id) (v :: us)) (EP X pins σ Q) X.xe s
section
variable {X : Cx} {a b : Expr} {ta tb : TE} {pos : Pos}
theorem IxR.or {r r' : R2} (h : IxR X r) (h' : IxR X r') : IxR X (fun x y H Q => r x y H Q \/ r' x y H Q) := by
 intro value slice pins s σ H x y v u Q I rx ry q hs
 rcases q with q | q
 ·exact h value slice pins s σ H x y v u Q I rx ry q hs
 ·exact h' value slice pins s σ H x y v u Q I rx ry q hs
theorem pe_ix {r : R2} (hr : IxR X r) (ha : PE X a ta) (hb : PE X b tb) (hs : CM b) : PE X (.Subscript a b pos) (tOp r ta tb) := by
 intro pins s σ H Q I h
 exact Subscript_ (binT ha hb I h fun v u s2 x y H2 I2 rx ry q => hr a b pins s2 σ H2 x y v u Q I2 rx ry q (hs _ _))
noncomputable def rIxL (K : PySem.W.Frag) : R2 := fun x y H Q => ∃ p xs i v, x = .ref p /\ y = .int i /\ SqL K H p xs /\ atI xs i = some v /\ Q v H
noncomputable def rIxT (K : PySem.W.Frag) : R2 := fun x y H Q => ∃ p xs i v, x = .ref p /\ y = .int i /\ SqT K H p xs /\ atI xs i = some v /\ Q v H
noncomputable def rIxS : R2 := fun x y H Q => ∃ z i c, x = .str z /\ y = .int i /\ z.length <= sizeLine /\ atI z.cps.toList i = some c /\ Q (.str ⟨#[c]⟩) H
theorem ix_list : IxR X (rIxL X.K) := by
 intro value slice pins s σ H x y v u Q I rx ry h hs
 obtain ⟨p, xs, i, z, rfl, rfl, hq, he, q⟩ := h
 cases rx
 obtain ⟨t, rfl⟩ := ry
 obtain ⟨its, r, pl, hz⟩ := I.list hq
 obtain ⟨j, h1, h2, h3, h4, h5⟩ := zh he
 obtain ⟨w, ew, rw'⟩ := r.get h2
 have hl := r.length
 have hn := sm
 have fin : EP X pins σ Q w s := ⟨z, H, I, rw', q⟩
 by_cases h0 : 0 <= i
 ·have hj : i.toNat = j := by
   rw [seqIndex_of h0 h5] at h1
   exact Option.some.inj h1
  exact item_listR pl.isList h0 (by omega) (by rw [hj]; simpa using ew) fin hs
 ·have hj : (i + (its.toArray.size : Int)).toNat = j := by
   rw [seqIndex_neg (by omega) h4] at h1
   rw [List.size_toArray, <- hl]
   exact Option.some.inj h1
  exact subscriptTail_builtinR (x := w) pl.isList.typeIs slot_list_getitem.lookup
   (wpAny_getItem_list_neg (Q := fun r s' => r = w /\ EP X pins σ Q r s') pl.isList (by omega) (by rw [List.size_toArray] <;> omega) (by omega) (by rw [hj]; simpa using ew) ⟨rfl, fin⟩) hs
theorem ix_tup : IxR X (rIxT X.K) := by
 intro value slice pins s σ H x y v u Q I rx ry h hs
 obtain ⟨p, xs, i, z, rfl, rfl, hq, he, q⟩ := h
 cases rx
 obtain ⟨t, rfl⟩ := ry
 obtain ⟨its, r, pl, hz⟩ := I.tuple hq
 obtain ⟨j, h1, h2, h3, h4, h5⟩ := zh he
 obtain ⟨w, ew, rw'⟩ := r.get h2
 have hl := r.length
 have hn := sm
 have fin : EP X pins σ Q w s := ⟨z, H, I, rw', q⟩
 exact subscriptTail_builtinR (x := w) pl.typeIs slot_tuple_getitem.lookup
  (getItem_tuple (j := j) (Q := fun r s' => r = w /\ EP X pins σ Q r s') pl (by omega) (by omega) (by rw [List.size_toArray, <- hl]; exact h1) (by simpa using ew) ⟨rfl, fin⟩) hs
theorem ix_str : IxR X rIxS := by
 intro value slice pins s σ H x y v u Q I rx ry h hs
 obtain ⟨z, i, c, rfl, rfl, hz, he, q⟩ := h
 obtain ⟨t, rfl⟩ := rx
 obtain ⟨t', rfl⟩ := ry
 obtain ⟨j, h1, h2, h3, h4, h5⟩ := zh he
 have hl : z.cps.toList.length = z.length := by simp [Str.length]
 rw [hl] at h1 h4 h5
 have hn := sm
 exact tail_any (typeIs_str s z t) slot_str_getitem.lookup (getItem_str (c := c) (by
  have e1 : decide (i < -(2 ^ 63 : Int)) = false := decide_eq_false (by omega)
  have e2 : decide (i >= 2 ^ 63) = false := decide_eq_false (by omega)
  rw [e1, e2, Bool.or_false]) (by rw [h1]; simpa using h2) ⟨.str ⟨#[c]⟩, H, I.tok _, ⟨_, rfl⟩, q⟩) hs
noncomputable def rIx (K : PySem.W.Frag) : R2 := fun x y H Q => rIxL K x y H Q \/ rIxT K x y H Q \/ rIxS x y H Q
theorem ix_seq : IxR X (rIx X.K) := ix_list.or (ix_tup.or ix_str)
theorem Am (its : List Value) (n j : Nat) (u : Value) : Obj.mapSeq (·.setIfInBounds j u) { cls := .type "list", data := .seq its.toArray n } = { cls := .type "list", data := .seq (its.set j u).toArray n } := by
 simp [Obj.mapSeq]
theorem Inv.lst {pins : List (Addr × Obj)} {σ : St} {H : Hp} {s : Shared} {p : Addr} {xs : List V} (I : Inv X pins σ H s) (h : H p = some (.lst xs)) :
  ∃ (its : List Value) (n : Nat), Vals xs its /\ s.heap.get? p = some { cls := .type "list", data := .seq its.toArray n } /\ xs.length <= sizeLine := by
 obtain ⟨z, its, n, r, e⟩ := I.hok p _ h
 exact ⟨its, n, r, e, z⟩
theorem Inv.lstUpd {pins : List (Addr × Obj)} {σ : St} {H : Hp} {s : Shared} {p : Addr} {xs ys : List V} {its its' : List Value} {n n' : Nat} {f : Obj -> Obj} (I : Inv X pins σ H s) (h : H p = some (.lst xs))
  (ho : s.heap.get? p = some { cls := .type "list", data := .seq its.toArray n }) (hf : f { cls := .type "list", data := .seq its.toArray n } = { cls := .type "list", data := .seq its'.toArray n' }) (r : Vals ys its') (hz : ys.length <= sizeLine) (t : Nat) :
  Inv X pins σ (upd H p (.lst ys)) { s with heap := s.heap.update p f, toks := t } := by
 have e : (s.heap.update p f).get? p = some { cls := .type "list", data := .seq its'.toArray n' } := by
  rw [Heap.get?_update_self f ho (by rw [hf] <;> rfl), hf]
 refine I.write (x := p) (e := p) (by rw [h]; trivial) (.inl rfl) (fun b u hb q => (Heap.get?_update_other _ _ (Ne.symm hb)).trans q) ⟨_, e⟩ ?_
 exact ⟨hz, its', n', r, e⟩
noncomputable def rSetL : V -> V -> V -> Hp -> (Hp -> Prop) -> Prop := fun o i v H Q => ∃ p xs k j, o = .ref p /\ i = .int k /\ H p = some (.lst xs) /\ ixN xs.length k = some j /\ Q (upd H p (.lst (xs.set j v)))
theorem set_list : PSet X rSetL := by
 intro pins s σ H o i v ov iv u Q I ro ri rv h
 obtain ⟨p, xs, k, j, rfl, rfl, hp, hj, q⟩ := h
 cases ro
 obtain ⟨t, rfl⟩ := ri
 obtain ⟨its, n, r, ho, hz⟩ := I.lst hp
 obtain ⟨h1, h2, h3, h4⟩ := yA hj
 have hl := r.length
 have hn := sm
 have I' : Inv X pins σ (upd H p (.lst (xs.set j v))) { s with heap := s.heap.update p (Obj.mapSeq (·.setIfInBounds j u)) } :=
  I.lstUpd hp ho (Am its n j u) (r.set rv j) (by rw [List.length_set]; exact hz) s.toks
 by_cases h0 : 0 <= k
 ·have hk : k.toNat = j := by
   rw [seqIndex_of h0 h4] at h1
   exact Option.some.inj h1
  exact PySem.W.ki_setAt ho h0 (by omega) (by rw [List.size_toArray, <- hl]; exact h4) (by rw [hk]; exact ⟨_, I', q⟩)
 ·have hk : (k + (its.toArray.size : Int)).toNat = j := by
   rw [seqIndex_neg (by omega) h3] at h1
   rw [List.size_toArray, <- hl]
   exact Option.some.inj h1
  exact PySem.W.ki_setBack ho (by omega) (by rw [List.size_toArray, <- hl]; exact h3) (by omega) (by rw [hk]; exact ⟨_, I', q⟩)
theorem vt (lo hi : Option Int) (n : Nat) : (sliceBounds lo hi none n).1 = ((HT.sIx n 0 lo : Nat) : Int) /\ (sliceBounds lo hi none n).2.1 = ((HT.sIx n n hi : Nat) : Int) /\ (sliceBounds lo hi none n).2.2 = 1 := by
 refine ⟨?_, ?_, rfl⟩
 ·cases lo with
  | none => simp [sliceBounds, HT.sIx]
  | some i =>
   simp only [sliceBounds, HT.sIx, Option.getD_none, show (1 : Int) > 0 by decide, if_true]
   by_cases h : i < 0
   ·simp only [h, if_true] <;> omega
   ·simp only [h, if_false] <;> omega
 ·cases hi with
  | none => simp [sliceBounds, HT.sIx]
  | some i =>
   simp only [sliceBounds, HT.sIx, Option.getD_none, show (1 : Int) > 0 by decide, if_true]
   by_cases h : i < 0
   ·simp only [h, if_true] <;> omega
   ·simp only [h, if_false] <;> omega
theorem sZ (its : List Value) (lo hi : Option Int) : slicePick its.toArray lo hi none = ((its.drop (HT.sIx its.length 0 lo)).take (HT.sIx its.length its.length hi - HT.sIx its.length 0 lo)).toArray := by
 obtain ⟨h1, h2, h3⟩ := vt lo hi its.toArray.size
 unfold slicePick
 rw [h1, h2, h3]
 simp only [sliceRange_one, pick_run, List.size_toArray] <;> rfl
noncomputable def rSlL (K : PySem.W.Frag) : V -> Option Int -> Option Int -> Hp -> VK -> Prop := fun x lo hi H Q => ∃ a xs, x = .ref a /\ SqL K H a xs /\ ∀ p, H p = none -> Q (.ref p) (upd H p (.lst (cutV xs lo hi)))
theorem sl_list : SlR X (rSlL X.K) := by
 intro pins s σ H x v vl vu lo hi sl Q I rx hs pl pu h
 obtain ⟨a, xs, rfl, hx, q⟩ := h
 cases rx
 obtain ⟨its, r, ht, hz⟩ := I.list hx
 have hlen := r.length
 refine ⟨"list", _, slot_list_getitem.lookup, ht.isList.typeIs, ?_⟩
 refine wpAny_getItem_list_slice ht.isList hs pl pu .none (by simp) ?_ (by rw [List.size_toArray] <;> omega)
 rw [sZ, <- hlen]
 refine ⟨.ref s.heap.objs.size, _, I.laid (t' := s.toks) (o := .lst (cutV xs lo hi)) (fun b ob q => Heap.get?_push_of_some _ q) (Nat.le_refl _) ?_, rfl, q _ (I.hok.fresh (Nat.le_refl _))⟩
 exact ⟨Nat.le_trans (qR xs lo hi) hz, _, 0, (r.drop (HT.sIx xs.length 0 lo)).take (HT.sIx xs.length xs.length hi - HT.sIx xs.length 0 lo), Heap.get?_push_size _ rfl⟩
noncomputable def flatV : V -> Bool
 | .non => true
 | .bl _ => true
 | .int _ => true
 | .str _ => true
 | _ => false
noncomputable def eqV : V -> V -> Bool
 | .non, .non => true
 | .bl a, .bl b => a == b
 | .bl a, .int b => (if a then 1 else 0) == b
 | .int a, .bl b => a == (if b then 1 else 0)
 | .int a, .int b => a == b
 | .str a, .str b => a == b
 | _, _ => false
theorem lD : eR X (.builtin "len") (fun xs H Q => ∃ p ys, xs = [.ref p] /\ (SqL X.K H p ys \/ SqT X.K H p ys) /\ Q (.int ys.length) H) := by
 intro pins s σ H xs us Q I r h
 obtain ⟨p, ys, rfl, hq, q⟩ := h
 obtain ⟨u, rfl, rx⟩ := vals1 r
 cases rx
 have hn := sm
 rcases hq with hq | hq
 ·obtain ⟨its, r', pl, hz⟩ := I.list hq
  have hlen := r'.length
  exact Calls.call_len_list pl.isList (by simp only [List.size_toArray] <;> omega) ⟨.int ys.length, H, I.tok _, ⟨s.toks + 1, by rw [List.size_toArray, hlen]⟩, q⟩
 ·obtain ⟨its, r', pl, hz⟩ := I.tuple hq
  have hlen := r'.length
  exact len_tuple pl (by simp only [List.size_toArray] <;> omega) ⟨.int ys.length, H, I.tok _, ⟨s.toks + 1, by rw [List.size_toArray, hlen]⟩, q⟩
theorem eR.or {f : Value} {r r' : List V -> Hp -> VK -> Prop} (h : eR X f r) (h' : eR X f r') : eR X f (fun xs H Q => r xs H Q \/ r' xs H Q) := by
 intro pins s σ H xs us Q I rs q
 rcases q with q | q
 ·exact h pins s σ H xs us Q I rs q
 ·exact h' pins s σ H xs us Q I rs q
theorem xu : eR X (.type "list") (fun xs H Q => ∃ p ys, xs = [.ref p] /\ (SqL X.K H p ys \/ SqT X.K H p ys) /\ ∀ l, H l = none -> Q (.ref l) (upd H l (.lst ys))) := by
 intro pins s σ H xs us Q I r h
 obtain ⟨p, ys, rfl, hq, q⟩ := h
 obtain ⟨u, rfl, rx⟩ := vals1 r
 cases rx
 have fin : ∀ (its : List Value), Vals ys its -> ys.length <= sizeLine -> ∀ (h' : Heap) (c' : Nat), (∀ b o', s.heap.get? b = some o' -> h'.get? b = some o') ->
   h'.get? s.heap.objs.size = some { cls := .type "list", dict := none, data := .seq its.toArray c', slots := #[] } -> EP X pins σ Q (.ref s.heap.objs.size) { s with heap := h' } := fun its r' hz h' c' kp e =>
  ⟨.ref s.heap.objs.size, _, I.laid (t' := s.toks) kp (Nat.le_refl _) (show eP X.prog X.w _ h' _ (.lst ys) from ⟨hz, its, c', r', e⟩), rfl, q _ (I.hok.fresh (Nat.le_refl _))⟩
 rcases hq with hq | hq
 ·obtain ⟨its, r', pl, hz⟩ := I.list hq
  have hlen := r'.length
  obtain ⟨o, ho, hc, n, hd⟩ := pl.isList
  exact call_list_seq p (.inl rfl) ho hc hd (fun h' c' kp e => fin its r' hz h' c' kp e) (by simp only [List.size_toArray] <;> omega)
 ·obtain ⟨its, r', pl, hz⟩ := I.tuple hq
  have hlen := r'.length
  obtain ⟨o, ho, hc, n, hd⟩ := pl
  exact call_list_seq p (.inr rfl) ho hc hd (fun h' c' kp e => fin its r' hz h' c' kp e) (by simp only [List.size_toArray] <;> omega)
noncomputable def tyV (K : PySem.W.Frag) (T : String) (x : V) (H : Hp) : Prop := match x with
 | .str _ => T = "str"
 | .int _ => T = "int"
 | .ref p => (T = "list" /\ ∃ xs, SqL K H p xs) \/ (T = "tuple" /\ ∃ o, K.lookup p = some o /\ o.cls = .type "tuple" /\ o.dict = none) \/
   (T = "dict" /\ ((∃ kvs, H p = some (.dK kvs)) \/ ∃ kvs, H p = some (.dT kvs))) \/ (T = "set" /\ ∃ S n, H p = some (.set S n))
 | _ => False
theorem tyV_is {pins : List (Addr × Obj)} {σ : St} {H : Hp} {s : Shared} {T : String} {x : V} {v : Value} (I : Inv X pins σ H s) (r : RelV x v) (ty : tyV X.K T x H) :
  s.TypeIs v T /\ ∀ a, v = .ref a -> ∃ ob, s.heap.get? a = some ob /\ ob.dict = none := by
 cases x with
 | str z =>
  obtain ⟨t, rfl⟩ := r
  cases (show T = "str" from ty)
  exact ⟨typeIs_str s z t, fun _ e => nomatch e⟩
 | int i =>
  obtain ⟨t, rfl⟩ := r
  cases (show T = "int" from ty)
  exact ⟨typeIs_int s i t, fun _ e => nomatch e⟩
 | ref p =>
  cases r
  rcases ty with ⟨rfl, xs, hq⟩ | ⟨rfl, o, hk, hc, hd⟩ | ⟨rfl, hk⟩ | ⟨rfl, S, n, hk⟩
  ·obtain ⟨its, _, pl, _⟩ := I.list hq
   refine ⟨pl.isList.typeIs, fun a e => ?_⟩
   cases e
   obtain ⟨o, n, e, c, hd, _⟩ := pl
   exact ⟨o, e, hd⟩
  ·refine ⟨⟨o, I.kIn p o hk, hc⟩, fun a e => ?_⟩
   cases e
   exact ⟨o, I.kIn _ o hk, hd⟩
  ·have z : ∃ o, s.heap.get? p = some o /\ o.ExactDict := by
    rcases hk with ⟨kvs, hk⟩ | ⟨kvs, hk⟩
    ·obtain ⟨_, _, _, _, o, _, _, e, ex, _⟩ := I.hok p _ hk
     exact ⟨o, e, ex⟩
    ·obtain ⟨_, _, _, _, o, _, _, e, ex, _⟩ := I.hok p _ hk
     exact ⟨o, e, ex⟩
   obtain ⟨o, e, ex⟩ := z
   refine ⟨⟨o, e, ex.1⟩, fun a e2 => ?_⟩
   cases e2
   exact ⟨o, e, ex.2.1⟩
  ·obtain ⟨o, _, _, _, e, ex, _⟩ := I.hok p _ hk
   refine ⟨⟨o, e, ex.1⟩, fun a e2 => ?_⟩
   cases e2
   exact ⟨o, e, ex.2.1⟩
 | _ => exact False.elim ty
noncomputable def tBM (K : PySem.W.Frag) (T : String) (r : V -> List V -> Hp -> VK -> Prop) (to : TE) (t : TA) : TE := fun σ H Q => to σ H fun x H1 => tyV K T x H1 /\ t σ H1 fun xs H2 => r x xs H2 Q
variable {o e : Expr} {es : List Expr} {to : TE} {t : TA} {name : Str} {apos cpos : Pos} {T id : String} {r : V -> List V -> Hp -> VK -> Prop}
theorem pe_bm (pa : PlainAttrs T) (slot : Slot T name id) (hty : typeOf (.builtin id) = pure (.type "method_descriptor")) (hm : MtR X id r) (ho : PE X o to) (ha : PA X (e :: es) t)
  (hbase : attributeBase o name X.env (eval o X.env) = eval o X.env := by rfl)
  (hfew : ((backTo cpos (starEach (e :: es) X.env)).all (fun x => !x.1) && (backToKw cpos (keywordEach [] X.env)).all (fun x => x.1.isSome)
   && decide ((e :: es).length + ([] : List Keyword).length + (if ([] : List Keyword).isEmpty then 0 else 1) < 30)) = true := by rfl)
  (hline : (apos.endLine == cpos.line) = true := by rfl) (hs : starEach (e :: es) X.env = (false, eval e X.env) :: starEach es X.env := by rfl) (hplain : (backTo cpos (starEach es X.env)).any (·.1) = false := by rfl) :
  PE X (.Call (.Attribute o name apos) (e :: es) [] cpos) (tBM X.K T r to t) := by
 intro pins s σ H Q I h
 refine wpAny_Call_method_late hbase hfew hline rfl (thn (ho pins s σ H _ I h) fun v s1 ⟨x, H1, I1, r1, ty, q1⟩ => ?_)
 obtain ⟨h1, h2⟩ := tyV_is I1 r1 ty
 refine ⟨T, id, pa, slot, hty, h1, h2, ?_⟩
 have hA := ha cpos pins s1 σ H1 _ I1 q1
 rw [hs] at hA ⊢
 refine Calls.callWith_builtin (by show (false || (backTo cpos (starEach es X.env)).any (·.1)) = false; rw [hplain] <;> rfl) (Calls.evalArgs_plain ?_)
 exact thn hA fun us s2 ⟨vs, H2, I2, r2, q2⟩ => hm pins s2 σ H2 x vs v us Q I2 r1 r2 q2
/- xs.append(e), list.index on a module's tuple .. are MtR facts of 06m -/
end
end L2
namespace L2
open PySem PySem.Spec PyProof.Rows
noncomputable def MtM (X : Cx) (id : String) (r : V -> List V -> Hp -> VK -> Prop) : Prop :=
 ∀ (pins : List (Addr × Obj)) (s : Shared) (σ : St) (H : Hp) (x : V) (xs : List V) (v : Value) (us : List Value) (Q : VK), Inv X pins σ H s -> RelV x v -> Vals xs us -> r x xs H Q ->
  wpAny (model X.prog X.w) X.A (call (.builtin id) (v :: us)) (EP X pins σ Q) X.xe s
theorem Vals.one : ∀ {x : V} {us : List Value}, Vals [x] us -> ∃ u, us = [u] /\ RelV x u
 | _, _, .cons r .nil => ⟨_, rfl, r⟩
theorem Vals.two : ∀ {x y : V} {us : List Value}, Vals [x, y] us -> ∃ u v, us = [u, v] /\ RelV x u /\ RelV y v
 | _, _, _, .cons r (.cons q .nil) => ⟨_, _, rfl, r, q⟩
theorem Vals.zero : ∀ {us : List Value}, Vals [] us -> us = []
 | _, .nil => rfl
theorem Vals.eraseIdx : ∀ {xs : List V} {us : List Value} (i : Nat), Vals xs us -> Vals (xs.eraseIdx i) (us.eraseIdx i)
 | _, _, _, .nil => .nil
 | _, _, 0, .cons _ t => t
 | _, _, i + 1, .cons r t => .cons r (Vals.eraseIdx i t)
theorem wB {α : Type} : ∀ (l : List α) (i : Nat), (l.eraseIdx i).length <= l.length
 | [], _ => Nat.le_refl _
 | _ :: _, 0 => Nat.le_succ _
 | _ :: r, i + 1 => Nat.succ_le_succ (wB r i)
section
variable {X : Cx} {pins : List (Addr × Obj)} {σ : St} {H : Hp} {s : Shared} {l b : Addr} {xs ys zs : List V}
theorem Inv.lset {its its' : List Value} {n : Nat} {f : Array Value -> Array Value} {t' : Nat} (I : Inv X pins σ H s) (hH : H l = some (.lst xs))
  (e : s.heap.get? l = some { cls := .type "list", data := .seq its.toArray n }) (hf : f its.toArray = its'.toArray) (hv : Vals ys its') (hz : ys.length <= sizeLine) :
  Inv X pins σ (upd H l (.lst ys)) { s with heap := s.heap.update l (Obj.mapSeq f), toks := t' } := by
 have q := PySem.IsL.update e f
 rw [hf] at q
 refine I.write (x := l) (e := l) (by rw [hH]; exact trivial) (.inl rfl) (fun b' u hb hu => (Heap.get?_update_other s.heap (Obj.mapSeq f) (Ne.symm hb)).trans hu) ⟨_, q⟩ ?_
 exact ⟨hz, its', _, hv, q⟩
theorem Inv.lnew {its : List Value} {t' : Nat} (I : Inv X pins σ H s) (hv : Vals ys its) (hz : ys.length <= sizeLine) :
  Inv X pins σ (upd H s.heap.objs.size (.lst ys)) { s with heap := s.heap.push { cls := .type "list", data := .seq its.toArray }, toks := t' } :=
 I.laid (fun _ _ q => Heap.get?_push_of_some _ q) (Nat.le_refl _) ⟨hz, its, 0, hv, Heap.get?_push_size _ rfl⟩
theorem Inv.fresh (I : Inv X pins σ H s) : H s.heap.objs.size = none := I.hok.fresh (Nat.le_refl _)
theorem Inv.lstM (I : Inv X pins σ H s) (hH : H l = some (.lst xs)) : xs.length <= sizeLine /\ ∃ (its : List Value) (n : Nat), Vals xs its /\ xs.length = its.length /\ s.heap.get? l = some { cls := .type "list", data := .seq its.toArray n } := by
 obtain ⟨z, its, n, r, e⟩ := I.hok l _ hH
 exact ⟨z, its, n, r, r.length, e⟩
end
section
variable {X : Cx}
noncomputable def qg : V -> List V -> Hp -> VK -> Prop := fun x vs H Q => ∃ l xs y, x = .ref l /\ vs = [y] /\ H l = some (.lst xs) /\ xs.length < sizeLine /\ Q .non (upd H l (.lst (xs ++ [y])))
theorem wy : MtM X "list.append" qg := by
 intro pins s σ H x vs v us Q I rx rv h
 obtain ⟨l, xs, y, rfl, rfl, hH, hz, q⟩ := h
 cases rx
 obtain ⟨u, rfl, ru⟩ := rv.one
 obtain ⟨z, its, n, r, hl, e⟩ := I.lstM hH
 refine call_meets F.slot_list_append ⟨_, e, rfl⟩ F.entry_list_append (F.args_list_append_2 _ _) (PySem.list_append l its.toArray n u (by rw [List.size_toArray]; omega)) ⟨e, ?_⟩
 refine ⟨.non, _, I.lset (its' := its ++ [u]) hH e (by simp) (r.append (.cons ru .nil)) ?_, rfl, q⟩
 rw [List.length_append, List.length_singleton]
 omega
noncomputable def rPopAt : V -> List V -> Hp -> VK -> Prop := fun x vs H Q => ∃ l xs i k y, x = .ref l /\ vs = [.int i] /\ H l = some (.lst xs) /\ -(2 ^ 63) <= i /\ i < 2 ^ 63 /\ seqIndex? i xs.length = some k /\ xs[k]? = some y /\ Q y (upd H l (.lst (xs.eraseIdx k)))
theorem mt_popAt : MtM X "list.pop" rPopAt := by
 intro pins s σ H x vs v us Q I rx rv h
 obtain ⟨l, xs, i, k, y, rfl, rfl, hH, h1, h2, hk, hy, q⟩ := h
 cases rx
 obtain ⟨u, rfl, ru⟩ := rv.one
 obtain ⟨t, rfl⟩ := ru
 obtain ⟨z, its, n, r, hl, e⟩ := I.lstM hH
 obtain ⟨w, hw, rw'⟩ := r.get hy
 refine call_meets F.slot_list_pop ⟨_, e, rfl⟩ F.entry_list_pop (F.args_list_pop_2 _ _)
  (MeetsSeq.list_pop_at l its.toArray n i t k w (fitsIndex_both h1 h2) (by rw [List.size_toArray, <- hl]; exact hk) (by rw [<- Array.getElem?_toList]; exact hw) (by rw [List.size_toArray]; omega)) ⟨e, ?_⟩
 refine ⟨y, _, I.lset (its' := its.eraseIdx k) hH e ?_ (r.eraseIdx k) ?_, rw', q⟩
 ·show its.toArray.eraseIdxIfInBounds k = (its.eraseIdx k).toArray
  rw [List.eraseIdxIfInBounds_toArray]
 ·have := wB xs k
  omega
end
end L2
namespace Att
open PySem PySem.W PySem.Calls PyProof.Rows
theorem qH {P : Params} {h : Heap} : ∀ (ns : List Int) (vs : List Value), WellAll P h vs (ns.map WData.int) -> IntsAre vs ns := by
 intro ns
 induction ns with
 | nil =>
  intro vs w
  rw [List.map_nil] at w
  cases w
  exact .nil
 | cons n ns ih =>
  intro vs w
  rw [List.map_cons] at w
  cases w with
  | cons a b =>
   cases a
   exact .cons _ _ (ih _ b)
theorem B9 {l : OpenLaw} {n : Nat} (hn : l.most = some n) {P : Params} {h : Heap} {args : List WData} {vals : List Value}
  (hpre : l.row.toRowW.claim.pre args = true) (hwl : WellAll P h vals args) :
  ∃ a vs ns, vals = [Value.ref a] /\ args = [WData.list (ns.map WData.int)] /\ h.get? a = some { cls := .type "list", data := .seq vs.toArray } /\ IntsAre vs ns /\ ns.length <= n := by
 have hsh : WShape.hasAll [] args [.list .int] = true := (pre_splitW hpre).1
 have hc : l.pre.holds [] { args := args } = true := (pre_splitW hpre).2
 obtain ⟨d, r, rfl, h1, h2⟩ := hasAllW_cons hsh
 obtain rfl := hasAllW_nil h2
 obtain ⟨xs, rfl, h3⟩ := hasW_list h1
 obtain ⟨ns, rfl⟩ := items_int h3
 have hlen : ns.length <= n := by
  unfold OpenLaw.pre at hc
  have h4 : (WTm.not (.lt (.lit (.int (n : Int))) (.len (.arg 0)))).holds [] { args := [.list (ns.map .int)] } = true := by
   have h4 := (holds_andW hc).1
   rw [hn] at h4
   exact h4
  have h5 := condW_of h4 (w_not (w_lt w_lit (w_len_list (w_arg rfl))))
  rw [List.length_map] at h5
  refine Nat.le_of_not_lt fun q => ?_
  have q' : (n : Int) < ((ns.length : Nat) : Int) := by omega
  first
   | (rw [decide_eq_true q'] at h5; exact absurd h5 (by decide))
   | (simp at h5; omega)
 cases hwl with
 | cons w1 w2 =>
  cases w2
  cases w1 with
  | list ho hall => exact ⟨_, _, ns, rfl, rfl, ho, qH ns _ hall, hlen⟩
theorem Bj (l : OpenLaw) (args : List WData) : l.row.toRowW.claim.post args (.bool true) args = true :=
 postW_of (r := l.row.toRowW) (X := (true == true))
  (show WShape.has [] (.bool true) .bool = true by first | rfl | decide | simp [WShape.has, WShape.arms, WShape.armsAll])
  (show (WTm.eq .res (.lit (.bool true))).value [] { args := args, res := some (.bool true), after := args } = some (.bool (true == true)) from w_eq_bool (w_res rfl) w_lit) rfl
theorem zg {l : OpenLaw} {n : Nat} {q : Program} {loose : List Str} {XP : (Str -> Option Value) -> Heap -> Prop} {YP : World -> Heap -> Prop} {d : DefRec}
  (hn : l.most = some n) (hdf : d.params.defaults = [])
  (call : ∀ (w : World) (s₀ s₁ : Shared) (mg mb : Str -> Option Value) (fa : Addr) (o : Obj) (pm cd doc : Value) (a : Addr) (vs : List Value) (ns : List Int),
   Ground q loose [] XP w s₀ mg mb s₁.heap -> YP w s₁.heap ->
   s₁.heap.get? fa = some o -> o.data = .func (docDef d.name d.params d.body d.scope pm cd doc) -> s₁.heap.CodeRec cd d.name -> mg d.name = some (.ref fa) ->
   s₁.heap.get? a = some { cls := .type "list", data := .seq vs.toArray } -> IntsAre vs ns -> ns.length <= n -> s₁.gens = #[] ->
   codeAny (model l.prog w) callerA (.call (.ref fa) ⟨[.ref a], []⟩) (fun r s' => r = .ok (.ret (.bool true)) /\ OldK s₁.heap s'.heap /\ s'.os = s₁.os /\ AllBare s'.gens) s₁) :
  WalkO q loose XP YP l.row.toRowW d [] (fun f vs => PySem.call f vs) := by
 intro w s₀ s₁ mg mb G Y fa o pm cd doc dV kV ho hd hcd hD hmg hg args vals as hpre hlay hrd hwl hlo
 obtain rfl : dV = .none := Dflts.none hD hdf
 obtain rfl : kV = .none := Dflts.noKw hD
 obtain ⟨a, vs, ns, rfl, rfl, hobj, hints, hlen⟩ := B9 hn hpre hwl
 refine enter_call (codeAny_mono (call w s₀ s₁ mg mb fa o pm cd doc a vs ns G Y ho (fd_plain hd) hcd hmg hobj hints hlen hg) fun r s' hq => ?_)
 obtain ⟨rfl, h2, h3, h4⟩ := hq
 exact ⟨.inl ⟨.bool true, .bool true, [], rfl, fun _ => rfl, .bool true, Bj l _, fun _ => ⟨List.Pairwise.nil, fun _ hm => (nomatch hm)⟩⟩, h2, h3, h4⟩
section
variable {prog : Program} {w : World} {A : Around} {E : Value -> Shared -> Prop} {s : Shared} {K : Frag}
theorem make_obj {R : Result -> Shared -> Prop} {C fI : Addr} {rest : List Value} {kw : List (Str × Value)}
  (X : K.In s.heap) (hm : makesIn K C = true) (hi : findIn K (.ref C) "__init__" = some (some (.ref fI))) (hf : isFn K (.ref fI) = true)
  (h : codeAny (model prog w) (A.under (.builtin "type.__call__" ⟨.ref C :: rest, kw⟩)) (.call (.ref fI) ⟨.ref (s.heap.objs.size + 1) :: rest, kw⟩) (InitBack (s.heap.objs.size + 1) R)
   { s with heap := (s.heap.push emptyDict).push (instObj C s.heap.objs.size) }) : codeAny (model prog w) A (.call (.ref C) ⟨rest, kw⟩) R s := by
 obtain ⟨hh, g, d, t, os⟩ := s
 exact make_core (makes_of X hm) (looks_findIn X hi) (fun self => bind_fn X self (beq_iff_eq.mp hf)) (.inl rfl) h
theorem get_field {x C : Addr} {ox : Obj} {es : List DictEntry} {n : Nat} {name : Str} {expr : Bool} {v : Value} {Q : Value -> Shared -> Prop}
  (X : K.In s.heap) (I : PySem.W.InstAt s.heap x ox C (some (dictOf es n))) (hg : plainGet K C name = true) (hh : hasDictIn K C = true) (ha : findIn K (.ref C) name = some none)
  (hl : getL name es = some (some v)) (hv : handedIn v = true) (h : Q v { s with toks := s.toks + 1 }) : wpAny (model prog w) A (getAttr (.ref x) name expr) Q E s :=
 get_value X I (plainGet_of hg).1 (findObj_own hh ha rfl hl) hv h
end
end Att
namespace L2
open PySem PySem.Spec PyProof.Rows
theorem vg : ∀ {vs : List Value} {ns : List Int}, IntsAre vs ns -> Vals (ns.map V.int) vs
 | _, _, .nil => .nil
 | _, _, .cons n t h => .cons ⟨t, rfl⟩ (vg h)
noncomputable def Only (H : Hp) : Prop := ∀ b, H b = none \/ ∃ o xs, H b = some (.frz o (.lst xs))
theorem law_call {P : Program} {w : World} {K : PySem.W.Frag} {mg mb : Str -> Option Value} {CX : CXT} {k : Nat} {fa a : Addr} {fd : FuncData} {x : Str} {sp : Sp} {s₁ : Shared} {vs : List Value} {ns : List Int}
  (KX : K.In s₁.heap) (hns : s₁.heap.Ns mainGlobals mg) (hb : s₁.heap.Ns builtinsNs mb) (hbb : ∀ x : Str, x ≠ "__name__" -> mb x = bootBuiltins x) (hlim : s₁.heap.NoLimit) (hg : s₁.gens = #[])
  (ha : s₁.heap.get? a = some { cls := .type "list", data := .seq vs.toArray }) (hi : IntsAre vs ns) (hl : ns.length <= sizeLine) (hr : ka k callerA)
  (F : ∀ base : Heap, K.In base -> base.Ns mainGlobals mg -> bJ P w K mg base CX k fa fd [x] sp) (hbind : ∀ (s : Shared) (u : Value), BindsTo s fd ⟨[u], []⟩ [(x, u)])
  (hsp : ∀ H : Hp, Only H -> SqL K H a (ns.map V.int) -> sp [.ref a] H (fun v _ => v = .bl true) fun _ _ _ => False)
  (hCX : ∀ H e s', CX [] H s₁ (fun _ _ _ => False) e s' -> False) :
  codeAny (model P w) callerA (.call (.ref fa) ⟨[.ref a], []⟩) (fun r s' => r = .ok (.ret (.bool true)) /\ OldK s₁.heap s'.heap /\ s'.os = s₁.os /\ AllBare s'.gens) s₁ := by
 have rv := vg hi
 have lenV := hi.length
 have core : ∀ H : Hp, Only H -> SqL K H a (ns.map V.int) -> HOk P w H s₁.heap -> (∀ b, H b ≠ none -> b = a) -> (H a ≠ none -> K.lookup a = none) ->
   codeAny (model P w) callerA (.call (.ref fa) ⟨[.ref a], []⟩) (fun r s' => r = .ok (.ret (.bool true)) /\ OldK s₁.heap s'.heap /\ s'.os = s₁.os /\ AllBare s'.gens) s₁ := by
  intro H hO hS hok hA hK
  have base_of : ∀ {b : Addr} {o : Obj}, s₁.heap.get? b = some o -> H b = none -> (hidT s₁.heap H).get? b = some o := fun e n => hidT_get e n
  have noA : ∀ {b : Addr} {o : Obj} {es : Array DictEntry} {ep : Nat}, s₁.heap.get? b = some o -> o.data = .dict es ep -> H b = none := fun {b o es ep} e d => by
   cases q : H b with
   | none => rfl
   | some u =>
    have e' : b = a := hA b (by rw [q]; simp)
    subst e'
    rw [ha] at e; cases e
    have d' : Data.seq vs.toArray _ = Data.dict es ep := d
    cases d'
  have nsK : ∀ {b : Addr} {m : Str -> Option Value}, s₁.heap.Ns b m -> (hidT s₁.heap H).Ns b m := fun {b m} ⟨o, es, ep, e, d, r⟩ => ⟨o, es, ep, base_of e (noA e d), d, r⟩
  have hKb : K.In (hidT s₁.heap H) := fun b o e => base_of (KX b o e) (by
   cases q : H b with
   | none => rfl
   | some u =>
    have e' : b = a := hA b (by rw [q]; simp)
    subst e'
    rw [hK (by rw [q]; simp)] at e; cases e)
  have hM : Mod K mg (hidT s₁.heap H) := ⟨hKb, nsK hns, ⟨mb, nsK hb, hbb⟩, let ⟨mc, h1, h2⟩ := hlim; ⟨mc, nsK h1, h2⟩⟩
  have e0 : Env0 P w K mg (hidT s₁.heap H) callerA [] s₁ H := ⟨rfl, hM, fun b o e => of_hidT e, Nat.le_of_eq (BU _ _), trivial, fun b hb => absurd (show b ∈ ([] : List Addr) from hb) (by simp), hok, .of_eq hg⟩
  refine codeAny_mono ((F _ hKb (nsK hns)).run callerA [] s₁ H ⟨[.ref a], []⟩ [.ref a] [.ref a] _ _ hr e0 (hbind s₁ (.ref a)) (.cons rfl .nil) (hsp H hO hS)) fun r s' h => ?_
  cases r with
  | error e => exact (hCX H e s' h).elim
  | ok fl =>
   cases fl with
   | next => exact False.elim h
   | brk => exact False.elim h
   | cont => exact False.elim h
   | ret u =>
    obtain ⟨v, H', os, bare, un, hok', r', q⟩ := h
    have q' : v = .bl true := q
    subst q'
    obtain rfl : u = Value.bool true := r'
    refine ⟨rfl, OldK.of_keep fun b o e => ?_, os, bare⟩
    cases q : H b with
    | none => exact un.keep b o e q (by intro z; exact absurd (show b ∈ ([] : List Addr) from z) (by simp)) (by simp)
    | some u =>
     rcases hO b with z | ⟨ob, xs, z⟩
     ·rw [q] at z; cases z
     ·have z2 := un.frzs b ob _ z
      obtain ⟨e1, _⟩ := hok b _ z
      obtain ⟨e2, _⟩ := hok' b _ z2
      rw [e] at e1; cases e1
      exact e2
 cases hk : K.lookup a with
 | some o =>
  have e := KX a o hk
  rw [ha] at e
  cases e
  refine core (fun _ => none) (fun _ => .inl rfl) (.inr ⟨_, vs.toArray, _, hk, rfl, rfl, rfl, by rw [List.size_toArray, lenV]; exact hl, by simpa using rv⟩) (fun b u z => by have z' : (none : Option HO) = some u := z; cases z') (fun b z => absurd rfl z) fun z => absurd rfl z
 | none =>
  refine core (fun b => if b = a then some (.frz { cls := .type "list", data := .seq vs.toArray } (.lst (ns.map V.int))) else none) (fun b => ?_) (.inl (.inr ⟨{ cls := .type "list", data := .seq vs.toArray }, if_pos rfl⟩)) (fun b u z => ?_) (fun b z => ?_) fun _ => hk
  ·by_cases hb : b = a
   ·exact .inr ⟨_, _, if_pos hb⟩
   ·exact .inl (if_neg hb)
  ·by_cases hb : b = a
   ·have z' := (if_pos hb).symm.trans z
    cases z'
    subst hb
    exact ⟨ha, by rw [List.length_map]; exact hl, vs, _, rv, ha⟩
   ·have z' := (if_neg hb).symm.trans z
    cases z'
  ·by_cases hb : b = a
   ·exact hb
   ·exact absurd (if_neg hb) z
end L2
namespace L2
open PySem PySem.Spec PyProof.Rows
theorem walk_of {l : PySem.W.OpenLaw} {n k : Nat} {q : Program} {loose : List Str} {XP : (Str -> Option Value) -> Heap -> Prop} {YP : World -> Heap -> Prop} {d : DefRec} {K : Params -> PySem.W.Frag} {CX : World -> CXT} {sp : World -> Sp} {x : Str}
  (hn : l.most = some n) (hn2 : n <= sizeLine) (hdf : d.params.defaults = []) (hr : ka k callerA)
  (hY : ∀ (w : World) (h : Heap), YP w h -> (K w.params).In h)
  (F : ∀ (w : World) (mg : Str -> Option Value) (fa : Addr) (h : Heap), (K w.params).In h -> h.Ns mainGlobals mg -> mg d.name = some (.ref fa) ->
   ∃ fd : FuncData, (∀ (s : Shared) (u : Value), BindsTo s fd ⟨[u], []⟩ [(x, u)]) /\
    ∀ base : Heap, (K w.params).In base -> base.Ns mainGlobals mg -> bJ l.prog w (K w.params) mg base (CX w) k fa fd [x] (sp w))
  (hsp : ∀ (w : World) (H : Hp) (a : Addr) (ns : List Int), ns.length <= n -> Only H -> SqL (K w.params) H a (ns.map V.int) -> sp w [.ref a] H (fun v _ => v = .bl true) fun _ _ _ => False)
  (hCX : ∀ (w : World) (H : Hp) (s : Shared) (e : Value) (s' : Shared), CX w [] H s (fun _ _ _ => False) e s' -> False) :
  PySem.W.WalkO q loose XP YP l.row.toRowW d [] (fun f vs => PySem.call f vs) := by
 refine Att.zg hn hdf fun w s₀ s₁ mg mb fa o pm cd doc a vs ns G Y ho hd hcd hmg hobj hints hlen hg => ?_
 have KX := hY w _ Y
 obtain ⟨fd, hb, hF⟩ := F w mg fa _ KX G.T.g hmg
 exact law_call KX G.T.g G.T.b G.T.builtins G.T.nolimit hg hobj hints (Nat.le_trans hlen hn2) hr hF hb (fun H hO hS => hsp w H a ns hlen hO hS) fun H e s' => hCX w H s₁ e s'
end L2
namespace L2
open PySem PySem.Spec PyProof.Rows
noncomputable def inClass (s : Stmt) (j : Nat) : Stmt := match s with
 | .ClassDef _ _ _ body _ _ _ _ _ _ _ => body.getD j (.Pass ⟨0, 0, 0, 0⟩)
 | _ => .Pass ⟨0, 0, 0, 0⟩
noncomputable def aI (s : Stmt) : Arguments := match s with
 | .FunctionDef _ a _ _ _ _ _ _ _ _ => a
 | _ => { posonlyargs := [], args := [], vararg := none, kwonlyargs := [], kw_defaults := [], kwarg := none, defaults := [] }
noncomputable def aG (s : Stmt) : List Stmt := match s with
 | .FunctionDef _ _ b _ _ _ _ _ _ _ => b
 | _ => []
noncomputable def af (s : Stmt) : Scope := match s with
 | .FunctionDef _ _ _ _ _ _ sc _ _ _ => sc
 | _ => { kind := .function, names := [], isGenerator := false, isCoroutine := false }
noncomputable abbrev CX0 : CXT := fun _ _ _ _ _ _ => False
noncomputable abbrev E0 : XK := fun _ _ _ => False
theorem yj {X : Cx} : Passes CX0 X E0 := fun _ _ _ _ _ _ _ h => h.elim
structure Fun (K : PySem.W.Frag) (x qual : Str) (st : Stmt) (f : Addr) (fd : FuncData) : Prop where
 ex : ∃ (oc : Value) (od : Option Addr) (kV doc pm : Value) (an : Option Addr) (cdv ct : Value) (osl : Array (Option Value)),
  fd = PySem.W.fnOf x qual (aI st) (aG st) (af st) .none kV doc pm an cdv ct /\ K.lookup f = some ⟨oc, od, .func fd, osl⟩ /\ PySem.W.codeIn K cdv qual = true
 kp : PySem.W.keepIn K (.ref f) = true
section
variable {P : Program} {w : World} {K : PySem.W.Frag} {mg : Str -> Option Value} {base : Heap}
theorem Fun.binds {x qual : Str} {st : Stmt} {f : Addr} {fd : FuncData} {ps : List Str} (F : Fun K x qual st f fd)
  (h : ∀ (kV doc pm : Value) (an : Option Addr) (cdv ct : Value) (us : List Value), us.length = ps.length -> bindArgs (PySem.W.fnOf x qual (aI st) (aG st) (af st) .none kV doc pm an cdv ct) ⟨us, []⟩ = pure (ps.zip us)) : Binds K fd ps [] := by
 obtain ⟨oc, od, kV, doc, pm, an, cdv, ct, osl, rfl, lk, hcd⟩ := F.ex
 exact .all (h kV doc pm an cdv ct)
theorem zR {x qual : Str} {st : Stmt} {f : Addr} {oc : Value} {od an : Option Addr} {osl : Array (Option Value)} {kV doc pm cdv ct : Value} (l : K.lookup f = some ⟨oc, od, .func (PySem.W.fnOf x qual (aI st) (aG st) (af st) .none kV doc pm an cdv ct), osl⟩)
  (c : PySem.W.codeIn K cdv qual = true) (k : PySem.W.keepIn K (.ref f) = true) : Fun K x qual st f (PySem.W.fnOf x qual (aI st) (aG st) (af st) .none kV doc pm an cdv ct) := ⟨⟨oc, od, kV, doc, pm, an, cdv, ct, osl, rfl, l, c⟩, k⟩
end
section
variable {X : Cx}
theorem pv (i : Nat) {x : Str} {pos : Pos} (hN : X.N[i]? = some x := by rfl) (hv : Vis X.env.scope x := by first | exact Or.inl rfl | exact Or.inr (Or.inl rfl) | exact Or.inr (Or.inr rfl)) (hd : (x == ("__debug__" : Str)) = false := by decide)
  (hcd : (x == ("__classdict__" : Str)) = false := by decide) : PE X (.Name x pos) (tVar i) := pe_var hN hv hd hcd
end
theorem iteF {A B : Prop} (h : B) : if false = true then A else B := by
 rw [if_neg Bool.false_ne_true]
 exact h
theorem iteNS {c A B : Prop} [Decidable c] (hc : c) (h : B) : if (!decide c) = true then A else B := by
 rw [decide_eq_true hc]
 exact iteF h
noncomputable def b9 (H H' : Hp) : Prop := ∀ b o, H b = some o -> H' b = some o
theorem b9.refl (H : Hp) : b9 H H := fun _ _ h => h
theorem b9.trans {H H1 H2 : Hp} (a : b9 H H1) (b : b9 H1 H2) : b9 H H2 := fun c o h => b c o (a c o h)
theorem b9.free {H H' : Hp} (e : b9 H H') {l : Addr} (h : H' l = Option.none) : H l = Option.none := by
 cases q : H l with
 | none => rfl
 | some o =>
  rw [e l o q] at h
  cases h
end L2
set_option maxHeartbeats 4000000
namespace L2
open PySem PySem.Spec PyProof.Rows
noncomputable def sH (cells : List (Str × Addr)) : List (Str × NameKind) -> List (Str × Addr) -> List (Str × Addr)
 | [], acc => acc
 | (x, k) :: r, acc => sH cells r (if (k == NameKind.free) = true then (x, (cells.lookup x).getD 0) :: acc else acc)
theorem gt_ne {a b c : Addr} (h1 : b < a) (h2 : a < c) : c ≠ b := by
 rintro rfl
 exact absurd (Nat.lt_trans h1 h2) (Nat.lt_irrefl _)
theorem Ap {a b : Addr} {n : Nat} (h1 : a < n) (h2 : n <= b) : a ≠ b := by
 rintro rfl
 exact absurd (Nat.lt_of_lt_of_le h1 h2) (Nat.lt_irrefl _)
theorem sG {cells : List (Str × Addr)} {x : Str} {c : Addr} : ∀ (ns : List (Str × NameKind)) (acc : List (Str × Addr)), (sH cells ns acc).lookup x = some c ->
  ((x, NameKind.free) ∈ ns /\ c = (cells.lookup x).getD 0) \/ acc.lookup x = some c
 | [], _, h => .inr h
 | (y, k) :: r, acc, h => by
  unfold sH at h
  rcases sG r _ h with ⟨m, e⟩ | q
  ·exact .inl ⟨List.mem_cons_of_mem _ m, e⟩
  ·by_cases hk : (k == NameKind.free) = true
   ·rw [if_pos hk, List.lookup_cons] at q
    cases hy : x == y with
    | true =>
     rw [hy] at q
     have e1 := eq_of_beq hy
     have e2 := eq_of_beq hk
     subst e1 e2
     exact .inl ⟨List.mem_cons_self, (Option.some.inj q).symm⟩
    | false => rw [hy] at q; exact .inr q
   ·rw [if_neg hk] at q; exact .inr q
theorem qU {cells : List (Str × Addr)} {x : Str} : ∀ (ns : List (Str × NameKind)) (acc : List (Str × Addr)), ((x, NameKind.free) ∈ ns \/ (acc.lookup x).isSome = true) -> ((sH cells ns acc).lookup x).isSome = true
 | [], _, h => h.elim (fun z => nomatch z) id
 | (y, k) :: r, acc, h => by
  unfold sH
  refine qU r _ ?_
  rcases h with h | h
  ·rcases List.mem_cons.mp h with e | h
   ·cases e
    refine .inr ?_
    rw [if_pos (by decide), List.lookup_cons]
    simp
   ·exact .inl h
  ·refine .inr ?_
   by_cases hk : (k == NameKind.free) = true
   ·rw [if_pos hk, List.lookup_cons]
    cases hy : x == y with
    | true => rfl
    | false => exact h
   ·rw [if_neg hk]; exact h
theorem n9 {x : Str} {c : Addr} : ∀ (ns : List (Str × NameKind)) (n : Nat) (acc : List (Str × Addr)), (cellsFrom n ns acc).lookup x = some c -> (n <= c /\ (x, NameKind.cell) ∈ ns) \/ acc.lookup x = some c
 | [], _, _, h => .inr h
 | (y, k) :: r, n, acc, h => by
  unfold cellsFrom at h
  by_cases hk : (k == NameKind.cell) = true
  ·rw [if_pos hk] at h
   rcases n9 r (n + 1) _ h with ⟨a, m⟩ | q
   ·exact .inl ⟨by omega, List.mem_cons_of_mem _ m⟩
   ·rw [List.lookup_cons] at q
    cases hy : x == y with
    | true =>
     rw [hy] at q
     have e1 := eq_of_beq hy
     have e2 := eq_of_beq hk
     have e3 := Option.some.inj q
     subst e1 e2 e3
     exact .inl ⟨Nat.le_refl _, List.mem_cons_self⟩
    | false => rw [hy] at q; exact .inr q
  ·rw [if_neg hk] at h
   rcases n9 r n acc h with ⟨a, m⟩ | q
   ·exact .inl ⟨a, List.mem_cons_of_mem _ m⟩
   ·exact .inr q
theorem qV : ∀ (ns : List (Str × NameKind)) (n : Nat) (acc : List (Str × Addr)), (∀ x y c, acc.lookup x = some c -> acc.lookup y = some c -> x = y) -> (∀ x c, acc.lookup x = some c -> c < n) ->
  ∀ x y c, (cellsFrom n ns acc).lookup x = some c -> (cellsFrom n ns acc).lookup y = some c -> x = y
 | [], _, _, hi, _ => hi
 | (z, k) :: r, n, acc, hi, hl => by
  unfold cellsFrom
  by_cases hk : (k == NameKind.cell) = true
  ·rw [if_pos hk]
   refine qV r (n + 1) _ (fun x y c h1 h2 => ?_) (fun x c h1 => ?_)
   ·rw [List.lookup_cons] at h1 h2
    cases hx : x == z with
    | true =>
     rw [hx] at h1
     have e1 := Option.some.inj h1
     cases hy : y == z with
     | true => rw [eq_of_beq hx, eq_of_beq hy]
     | false =>
      rw [hy] at h2
      have h3 := hl y c h2
      rw [<- e1] at h3
      exact absurd h3 (Nat.lt_irrefl _)
    | false =>
     rw [hx] at h1
     cases hy : y == z with
     | true =>
      rw [hy] at h2
      have e2 := Option.some.inj h2
      have h3 := hl x c h1
      rw [<- e2] at h3
      exact absurd h3 (Nat.lt_irrefl _)
     | false =>
      rw [hy] at h2
      exact hi x y c h1 h2
   ·rw [List.lookup_cons] at h1
    cases hx : x == z with
    | true =>
     rw [hx] at h1
     have e1 := Option.some.inj h1
     rw [<- e1]
     exact Nat.lt_succ_self _
    | false =>
     rw [hx] at h1
     exact Nat.lt_succ_of_lt (hl x c h1)
  ·rw [if_neg hk]
   exact qV r n acc hi hl
theorem ot {x : Str} {c : Addr} : ∀ (ns : List (Str × NameKind)) (h : Heap) (acc : List (Str × Addr)), (cellsFrom h.objs.size ns acc).lookup x = some c ->
  acc.lookup x = some c \/ (h.objs.size <= c /\ (pushCells h ns).IsCell c none)
 | [], _, _, e => .inl e
 | (y, k) :: r, h, acc, e => by
  unfold cellsFrom at e
  unfold pushCells
  by_cases hk : (k == NameKind.cell) = true
  ·rw [if_pos hk] at e ⊢
   have q := ot (x := x) (c := c) r (h.push { cls := .type "cell", data := .cell none }) ((y, h.objs.size) :: acc) (by rw [Heap.size_push]; exact e)
   rcases q with q | ⟨q1, q2⟩
   ·rw [List.lookup_cons] at q
    cases hy : x == y with
    | true =>
     rw [hy] at q
     have e1 := Option.some.inj q
     subst e1
     exact .inr ⟨Nat.le_refl _, Heap.IsCell.keeps ⟨_, Heap.get?_push_size _ rfl, rfl⟩ (pushCells_keeps r _)⟩
    | false => rw [hy] at q; exact .inl q
   ·rw [Heap.size_push] at q1
    exact .inr ⟨by omega, q2⟩
  ·rw [if_neg hk] at e ⊢
   exact ot r h acc e
theorem oP {env : Env} (f : Str × NameKind -> List (Str × Addr) -> Sem (ForInStep (List (Str × Addr))))
  (hf : ∀ n k cs, f (n, k) cs = if (k == NameKind.free) = true then (do let a <- cellOf env n; pure (.yield ((n, a) :: cs))) else pure (.yield cs)) :
  ∀ (ns : List (Str × NameKind)) (acc : List (Str × Addr)), (∀ x ∈ ns, x.2 = NameKind.free -> ∃ c, env.cells.lookup x.1 = some c) -> forIn ns acc f = (pure (sH env.cells ns acc) : Sem _)
 | [], acc, _ => by rw [List.forIn_nil]; rfl
 | (y, k) :: r, acc, hc => by
  have hr : ∀ x ∈ r, x.2 = NameKind.free -> ∃ c, env.cells.lookup x.1 = some c := fun x hx => hc x (List.mem_cons_of_mem _ hx)
  rw [List.forIn_cons, hf]
  unfold sH
  by_cases hk : (k == NameKind.free) = true
  ·rw [if_pos hk, if_pos hk]
   obtain ⟨c, e⟩ := hc (y, k) List.mem_cons_self (eq_of_beq hk)
   have e' : env.cells.lookup y = some c := e
   have e2 : cellOf env y = pure c := by unfold cellOf; rw [e']
   rw [e2, e']
   exact oP f hf r _ hr
  ·rw [if_neg hk, if_neg hk]
   exact oP f hf r _ hr
theorem AE {scope : Scope} {env : Env} (hc : ∀ x ∈ scope.names, x.2 = NameKind.free -> ∃ c, env.cells.lookup x.1 = some c) : closureFor scope env = pure (sH env.cells scope.names []) := by
 simp only [closureFor]
 rw [oP (env := env) _ (fun n k cs => by cases h : (k == NameKind.free) <;> simp [h]) scope.names [] hc]
 rfl
theorem BE {M : Model} {A : Around} {E : Value -> Shared -> Prop} {s : Shared} {scope : Scope} {gl : Addr} {cl : List (Str × Addr)} {qual : Str} {around : Env} {Q : Env -> Shared -> Prop}
  (hQ : ∀ h1 : Heap, (∀ b o, s.heap.get? b = some o -> h1.get? b = some o) -> h1.Ns s.heap.objs.size (fun _ => none) ->
   (∀ x c, (cellsFrom (s.heap.objs.size + 1) scope.names cl).lookup x = some c -> cl.lookup x = some c \/ (s.heap.objs.size < c /\ h1.IsCell c none)) ->
   Q { scope := scope, locals := s.heap.objs.size, globals := gl, cells := cellsFrom (s.heap.objs.size + 1) scope.names cl, qual := qual, func := none, code := around.code, frame := around.frame, builtins := around.builtins } { s with heap := h1 }) :
  wpAny M A (newFunctionEnv scope gl cl [] qual none .none (some around)) Q E s := by
 simp only [newFunctionEnv, Option.isSome_some, if_true]
 refine wpAny_bind (wpAny_alloc ?_)
 refine wpAny_bind (wpAny_layCells _ (fun name kind cells => by cases hkc : kind == NameKind.cell <;> simp [hkc]) _ _ _ _ ?_)
 rw [show ({ s with heap := s.heap.push { cls := .type "dict", data := .dict #[] } } : Shared).heap.objs.size = s.heap.objs.size + 1 from Heap.size_push ..]
 rw [List.forIn_nil]
 refine wpAny_bind (wpAny_pure (wpAny_pure ?_))
 refine hQ _ (fun b o e => pushCells_keeps _ _ b o (Heap.get?_push_of_some _ e)) ((Heap.Ns.new s.heap (.type "dict")).keeps (pushCells_keeps _ _)) fun x c e => ?_
 have q := ot (x := x) (c := c) scope.names (s.heap.push { cls := .type "dict", data := .dict #[] }) cl (by rw [Heap.size_push]; exact e)
 rw [Heap.size_push] at q
 exact q.imp id fun ⟨a, b⟩ => ⟨by omega, b⟩
theorem si {env : Env} {x : Str} : ∀ {ns : List (Str × NameKind)}, ns.lookup x = some .free ->
  (ns.map fun (n, k) => if (k == NameKind.free && env.scope.kind == .function && env.kindOf n == some .cell) then (n, NameKind.cell) else (n, k)).lookup x = some .cell \/
  (ns.map fun (n, k) => if (k == NameKind.free && env.scope.kind == .function && env.kindOf n == some .cell) then (n, NameKind.cell) else (n, k)).lookup x = some .free
 | [], h => by simp at h
 | (n, k) :: r, h => by
  have ih := @si env x r
  rw [List.map_cons]
  dsimp only
  by_cases hc : (k == NameKind.free && env.scope.kind == .function && env.kindOf n == some .cell) = true
  ·rw [if_pos hc, List.lookup_cons]
   cases hx : x == n with
   | true => exact .inl rfl
   | false => rw [List.lookup_cons, hx] at h; exact ih h
  ·rw [if_neg hc, List.lookup_cons]
   cases hx : x == n with
   | true =>
    rw [List.lookup_cons, hx] at h
    have e := Option.some.inj h
    subst e
    exact .inr rfl
   | false => rw [List.lookup_cons, hx] at h; exact ih h
theorem sj {env : Env} {x : Str} : ∀ {ns : List (Str × NameKind)},
  ((ns.map fun (n, k) => if (k == NameKind.free && env.scope.kind == .function && env.kindOf n == some .cell) then (n, NameKind.cell) else (n, k)).lookup x = some .cell \/
  (ns.map fun (n, k) => if (k == NameKind.free && env.scope.kind == .function && env.kindOf n == some .cell) then (n, NameKind.cell) else (n, k)).lookup x = some .free) ->
  ns.lookup x = some .cell \/ ns.lookup x = some .free
 | [], h => by simp at h
 | (n, k) :: r, h => by
  have ih := @sj env x r
  rw [List.map_cons] at h
  dsimp only at h
  by_cases hc : (k == NameKind.free && env.scope.kind == .function && env.kindOf n == some .cell) = true
  ·rw [if_pos hc, List.lookup_cons] at h
   rw [List.lookup_cons]
   cases hx : x == n with
   | true =>
    have : k = NameKind.free := by
     rw [Bool.and_eq_true, Bool.and_eq_true] at hc
     exact eq_of_beq hc.1.1
    subst this
    exact .inr rfl
   | false => rw [hx] at h; exact ih h
  ·rw [if_neg hc, List.lookup_cons] at h
   rw [List.lookup_cons]
   cases hx : x == n with
   | true => rw [hx] at h; exact h
   | false => rw [hx] at h; exact ih h
noncomputable def ck (X : Cx) (N' : List Str) (sc : Scope) (L : Addr) (cs : List (Str × Addr)) (s : Shared) (H : Hp) (fp : List Addr) : Cx :=
 { X with
  N := N', s₀ := s, H₀ := H, outer := X.stack, ex := fp, pn := [], xe := fun _ _ => False
  fn := fun x => !(sc.names.any fun p => p.1 == x && p.2 == NameKind.free)
  env := { scope := relabel sc X.env, locals := L, globals := X.env.globals, cells := cs, qual := X.env.qual, func := none, code := X.env.code, frame := X.env.frame, builtins := X.env.builtins } }
noncomputable def inS (ix : List (Option Nat)) (σ : St) : St := ix.map fun o => match o with
 | none => none
 | some j => (σ[j]?).join
noncomputable def cv (N : List Str) (osc : Scope) (N' : List Str) (sc : Scope) (ix : List (Option Nat)) : Bool :=
 decide (ix.length = N'.length) &&
 ((List.range ix.length).all fun i => match ix[i]? with
  | some (some j) => (match N'[i]?, N[j]? with
   | some x, some y => x == y && sc.names.lookup x == some NameKind.free
   | _, _ => false)
  | _ => true) &&
 (sc.names.all fun p => (p.2 != NameKind.free || (osc.names.lookup p.1 == some NameKind.cell || osc.names.lookup p.1 == some NameKind.free)) && (p.2 != NameKind.local || sc.names.lookup p.1 == some NameKind.local)) &&
 (sc.names.all fun p => sc.names.all fun q => !(p.1 == q.1) || p.2 == q.2)
section
variable {X : Cx} {pins : List (Addr × Obj)} {σ : St} {H : Hp} {s : Shared} {N' : List Str} {sc : Scope} {ix : List (Option Nat)}
theorem cv.len (ok : cv X.N X.env.scope N' sc ix = true) : ix.length = N'.length := by
 unfold cv at ok
 rw [Bool.and_eq_true, Bool.and_eq_true, Bool.and_eq_true] at ok
 exact of_decide_eq_true ok.1.1.1
theorem cv.at (ok : cv X.N X.env.scope N' sc ix = true) {i j : Nat} {x : Str} (h : ix[i]? = some (some j)) (hx : N'[i]? = some x) : X.N[j]? = some x /\ sc.names.lookup x = some .free := by
 unfold cv at ok
 rw [Bool.and_eq_true, Bool.and_eq_true, Bool.and_eq_true] at ok
 have q := List.all_eq_true.mp ok.1.1.2 i (List.mem_range.mpr (List.getElem?_eq_some_iff.mp h).1)
 rw [h, hx] at q
 dsimp only at q
 cases e : X.N[j]? with
 | none => rw [e] at q; cases q
 | some y =>
  rw [e] at q
  dsimp only at q
  rw [Bool.and_eq_true] at q
  exact ⟨by rw [eq_of_beq q.1], eq_of_beq q.2⟩
theorem cv.fr (ok : cv X.N X.env.scope N' sc ix = true) {x : Str} (h : (x, NameKind.free) ∈ sc.names) : X.env.kindOf x = some .cell \/ X.env.kindOf x = some .free := by
 unfold cv at ok
 rw [Bool.and_eq_true, Bool.and_eq_true] at ok
 have q := List.all_eq_true.mp ok.1.2 _ h
 rw [Bool.and_eq_true] at q
 have q1 := q.1
 rw [Bool.or_eq_true] at q1
 rcases q1 with z | z
 ·exact absurd z (by simp)
 ·rw [Bool.or_eq_true] at z
  exact z.imp (fun e => eq_of_beq e) fun e => eq_of_beq e
theorem cv.loc (ok : cv X.N X.env.scope N' sc ix = true) : ∀ x ∈ sc.names, x.2 = NameKind.local -> sc.names.lookup x.1 = some .local := fun x hx e => by
 unfold cv at ok
 rw [Bool.and_eq_true, Bool.and_eq_true] at ok
 have q := List.all_eq_true.mp ok.1.2 _ hx
 rw [Bool.and_eq_true] at q
 have q1 := q.2
 rw [Bool.or_eq_true] at q1
 rcases q1 with z | z
 ·rw [e] at z; exact absurd z (by decide)
 ·exact eq_of_beq z
theorem cv.apart (ok : cv X.N X.env.scope N' sc ix = true) {x : Str} (h1 : (x, NameKind.cell) ∈ sc.names) (h2 : (x, NameKind.free) ∈ sc.names) : False := by
 unfold cv at ok
 rw [Bool.and_eq_true] at ok
 have q := List.all_eq_true.mp (List.all_eq_true.mp ok.2 _ h1) _ h2
 simp at q
theorem xp (I : Inv X pins σ H s) (ok : cv X.N X.env.scope N' sc ix = true) : ∀ x ∈ sc.names, x.2 = NameKind.free -> ∃ c, X.env.cells.lookup x.1 = some c := fun x hx e => by
 obtain ⟨n, k⟩ := x
 have e' : k = NameKind.free := e
 subst e'
 exact I.ok.has n (cv.fr ok hx)
theorem Cj (I : Inv X pins σ H s) (ok : cv X.N X.env.scope N' sc ix = true) {x : Str} {c : Addr} (h : (sH X.env.cells sc.names []).lookup x = some c) : (x, NameKind.free) ∈ sc.names /\ X.env.cells.lookup x = some c := by
 rcases sG _ _ h with ⟨m, e⟩ | z
 ·obtain ⟨d, hd⟩ := xp I ok _ m rfl
  have hd' : X.env.cells.lookup x = some d := hd
  rw [hd'] at e
  have e2 : c = d := e
  subst e2
  exact ⟨m, hd'⟩
 ·simp at z
theorem comp_inv {fp : List Addr} {L : Addr} {h1 : Heap} (I : Inv X pins σ H s) (hf : ∀ b ∈ fp, AN X pins H b) (hb : ∀ b ∈ fp, ∃ o, s.heap.get? b = some o) (ok : cv X.N X.env.scope N' sc ix = true) (hk : sc.kind = .function) (hL : s.heap.objs.size <= L)
  (kp : ∀ b o, s.heap.get? b = some o -> h1.get? b = some o) (ns : h1.Ns L fun _ => none)
  (hc : ∀ x c, (cellsFrom (L + 1) sc.names (sH X.env.cells sc.names [])).lookup x = some c -> (sH X.env.cells sc.names []).lookup x = some c \/ (L < c /\ h1.IsCell c none)) :
  Inv (ck X N' sc L (cellsFrom (L + 1) sc.names (sH X.env.cells sc.names [])) s H fp) [] (inS ix σ) H { s with heap := h1 } := by
 have cc : ∀ x c, (sH X.env.cells sc.names []).lookup x = some c -> (x, NameKind.free) ∈ sc.names /\ X.env.cells.lookup x = some c /\ (∃ v, s.heap.IsCell c v) /\ c < s.heap.objs.size := fun x c e => by
  obtain ⟨m, e'⟩ := Cj I ok e
  obtain ⟨v, z⟩ := I.cell x c e'
  exact ⟨m, e', ⟨v, z⟩, z.lt⟩
 have fpl : ∀ b ∈ fp, b < s.heap.objs.size := fun b z => let ⟨o, e⟩ := hb b z; Heap.lt_size e
 have cne : ∀ b ∈ fp, ∀ x c, (cellsFrom (L + 1) sc.names (sH X.env.cells sc.names [])).lookup x = some c -> c ≠ b := fun b z x c e => by
  have hlt := fpl b z
  rcases hc x c e with q | ⟨q, _⟩
  ·exact (hf b z).2.2.2.2.1 x c (cc x c q).2.1
  ·exact gt_ne (Nat.lt_of_lt_of_le hlt hL) q
 have okk : (ck X N' sc L (cellsFrom (L + 1) sc.names (sH X.env.cells sc.names [])) s H fp).Ok := by
  refine ⟨I.ok.mod, hk, I.ok.glob, I.ok.blt, hL, ?_, ?_, ?_, I.ok.hd, I.ok.frames, .inl rfl, ?_, I.bs, Nat.le_trans I.ok.bsz I.sz, ?_, ?_, I.stack, I.B7⟩
  ·refine qV sc.names (L + 1) _ (fun x y c e1 e2 => I.ok.inj x y c (cc x c e1).2.1 (cc y c e2).2.1) fun x c e => ?_
   exact Nat.lt_succ_of_lt (Nat.lt_of_lt_of_le (cc x c e).2.2.2 hL)
  ·intro x hx
   have hx' := sj (env := X.env) (x := x) (ns := sc.names) hx
   have q : ((cellsFrom (L + 1) sc.names (sH X.env.cells sc.names [])).lookup x).isSome = true := by
    rcases hx' with z | z
    ·exact PySem.W.cellsFrom_some _ _ _ (.inl z)
    ·exact PySem.W.cellsFrom_some _ _ _ (.inr (qU _ _ (.inl (PySem.mem_of_lookup z))))
   exact Option.isSome_iff_exists.mp q
  ·intro x c hfn e
   show s.heap.objs.size <= c
   rcases hc x c e with q | ⟨q, _⟩
   ·have m := (cc x c q).1
    have hfn' : (!(sc.names.any fun p => p.1 == x && p.2 == NameKind.free)) = true := hfn
    have z : (sc.names.any fun p => p.1 == x && p.2 == NameKind.free) = true := List.any_eq_true.mpr ⟨_, m, by simp⟩
    rw [z] at hfn'
    cases hfn'
   ·exact Nat.le_trans hL (Nat.le_of_lt q)
  ·intro b z
   have hlt := fpl b z
   exact ⟨Nat.ne_of_lt (Nat.lt_of_lt_of_le hlt hL), cne b z⟩
  ·intro b o e z
   rcases (hf b z).2.2.2.1 with q | q
   ·exact I.ok.noex b o e q
   ·exact absurd (Nat.lt_of_lt_of_le (Heap.lt_size e) (Nat.le_trans I.ok.bsz q)) (Nat.lt_irrefl _)
  ·intro b z hs
   rcases List.mem_cons.mp (I.sg b hs) with q | q
   ·exact (hf b z).2.1 q
   ·exact (hf b z).2.2.1 q
 refine ⟨okk, rfl, I.bare, Un.kept kp, ⟨_, ns, fun i x v h1' h2 h3 => ?_⟩, fun x c e => ?_, I.hok.fresh hL, fun x c e => ?_, fun p hp => absurd hp (by simp [ck]), I.hok.kept kp, ?_⟩
 ·have hix : ∃ j, ix[i]? = some (some j) /\ σ[j]? = some (some v) := by
   unfold inS at h2
   rw [List.getElem?_map] at h2
   cases e : ix[i]? with
   | none => rw [e] at h2; cases h2
   | some o =>
    rw [e] at h2
    cases o with
    | none => cases h2
    | some j =>
     have h2' : (σ[j]?).join = some v := Option.some.inj h2
     refine ⟨j, rfl, ?_⟩
     cases e2 : σ[j]? with
     | none => rw [e2] at h2'; cases h2'
     | some w =>
      rw [e2] at h2'
      have h2'' : w = some v := h2'
      rw [h2'']
  obtain ⟨j, e1, e2⟩ := hix
  obtain ⟨e3, e4⟩ := cv.at ok e1 h1'
  have hfr := cv.fr ok (PySem.mem_of_lookup e4)
  obtain ⟨m, hn, hl⟩ := I.loc
  obtain ⟨u, r, l⟩ := hl j x v e3 e2 (hfr.elim (fun z => .inr (.inl z)) fun z => .inr (.inr z))
  refine ⟨u, r, .inr ⟨si (env := X.env) (x := x) (ns := sc.names) e4, ?_⟩⟩
  rcases l with ⟨k, _⟩ | ⟨k, c, e, z⟩
  ·rcases hfr with q | q <;> rw [q] at k <;> cases k
  ·have q1 := qU (cells := X.env.cells) sc.names [] (.inl (PySem.mem_of_lookup e4))
   obtain ⟨c2, q2⟩ := Option.isSome_iff_exists.mp q1
   have q3 := (cc x c2 q2).2.1
   rw [e] at q3
   cases q3
   have q4 := PySem.W.cellsFrom_some (x := x) sc.names (L + 1) (sH X.env.cells sc.names []) (.inr q1)
   obtain ⟨c3, q5⟩ := Option.isSome_iff_exists.mp q4
   rcases hc x c3 q5 with q6 | ⟨q6, q7⟩
   ·rw [q2] at q6
    cases q6
    exact ⟨c, q5, z.keeps kp⟩
   ·exfalso
    rcases n9 _ _ _ q5 with ⟨_, m'⟩ | q8
    ·exact cv.apart ok m' (PySem.mem_of_lookup e4)
    ·rw [q2] at q8
     cases q8
     exact absurd (Nat.lt_trans (Nat.lt_of_lt_of_le (cc x c q2).2.2.2 hL) q6) (Nat.lt_irrefl _)
 ·rcases hc x c e with q | ⟨_, q⟩
  ·obtain ⟨v, z⟩ := (cc x c q).2.2.1
   exact ⟨v, z.keeps kp⟩
  ·exact ⟨_, q⟩
 ·rcases hc x c e with q | ⟨q, _⟩
  ·exact I.freeC x c (cc x c q).2.1
  ·exact I.hok.fresh (Nat.le_trans hL (Nat.le_of_lt q))
 ·show (inS ix σ).length = N'.length
  unfold inS
  rw [List.length_map]
  exact cv.len ok
end
noncomputable def PTs (X : Cx) (ifs : List Expr) (t : TT) : Prop :=
 ∀ (pins : List (Addr × Obj)) (s : Shared) (σ : St) (H : Hp) (Q : Bool -> Hp -> Prop), Inv X pins σ H s -> t σ H Q ->
  wpAny (model X.prog X.w) X.A (forIn ifs true fun c r => if r = true then do let ok <- isTrue c X.env (eval c X.env); pure (ForInStep.yield ok) else pure (ForInStep.yield r)) (TP X pins σ Q) X.xe s
noncomputable def tYes : TT := fun _ H Q => Q true H
theorem pts_nil {X : Cx} : PTs X [] tYes := fun _ _ _ H _ I h => wpAny_tests_nil ⟨H, I, h⟩
theorem Be {X : Cx} {c : Expr} {t : TT} (h : PT X c t) : PTs X [c] t := fun pins s σ H Q I q => wpAny_tests_one (h pins s σ H Q I q)
theorem xr {prog : Program} {w : World} {A : Around} {R : Result -> Shared -> Prop} {s : Shared} {elt tg iter : Expr} {ifs : List Expr} {scope : Scope} {pos : Pos} {it acc : Value} {env : Env} (J : Nat -> Shared -> Prop)
  (turn : ∀ n s, J n s -> wpAny (model prog w) A (pyNext it) (fun r s1 => match r with
   | none => R (.ok .next) s1
   | some v => wpAny (model prog w) A (letOwnedTupleGo tg it v) (fun _ s1' => wpAny (model prog w) A (assign tg env v) (fun _ s2 =>
     wpAny (model prog w) A (forIn ifs true fun c r => if r = true then do let ok <- isTrue c env (eval c env); pure (ForInStep.yield ok) else pure (ForInStep.yield r)) (fun ok s3 =>
      if ok = true then wpAny (model prog w) A (eval elt env) (fun x s4 => wpAny (model prog w) A (call (.builtin "list.append") [acc, x]) (fun _ s5 => ∃ m, m < n /\ J m s5) (fun _ _ => False) s4) (fun _ _ => False) s3
      else ∃ m, m < n /\ J m s3) (fun _ _ => False) s2) (fun _ _ => False) s1') (fun _ _ => False) s1) (fun _ _ => False) s)
  (n : Nat) (h : J n s) : codeAny (model prog w) A (.compLoop (.ListComp elt [⟨tg, iter, ifs, 0⟩] scope pos) 0 it acc env) R s := by
 refine codeAny_loop rfl J (fun n s hJ => ?_) n h
 show wpAny _ A ((compTurn (.ListComp elt [⟨tg, iter, ifs, 0⟩] scope pos) 0 it acc env).onRaise (fun x => do noteFrame x env; theTreesLotGoes x)) _ _ s
 refine wpAny_noted ?_
 rw [compTurn_list]
 refine wpAny_bind (wpAny_standAt (wpAny_bind (wpAny_mono (turn n s hJ) (fun r s1 h1 => ?_) fun _ _ z => z.elim)))
 cases r with
 | none => exact wpAny_pure h1
 | some v =>
  refine wpAny_bind (wpAny_mono h1 (fun _ s1' h1' => ?_) fun _ _ z => z.elim)
  refine wpAny_bind (wpAny_mono h1' (fun _ s2 h2 => wpAny_bind (wpAny_mono h2 (fun ok s3 h3 => ?_) fun _ _ z => z.elim)) fun _ _ z => z.elim)
  cases ok with
  | false => exact wpAny_pure ⟨rfl, h3⟩
  | true =>
   exact wpAny_bind (wpAny_bind (wpAny_mono h3 (fun x s4 h4 => wpAny_bind (wpAny_mono h4 (fun _ s5 h5 => wpAny_pure (wpAny_pure ⟨rfl, h5⟩)) fun _ _ z => z.elim)) fun _ _ z => z.elim))
noncomputable def xq (J : It) (ix : List (Option Nat)) (g : TG) (tt : TT) (te : TE) (σ : St) (F : List V -> Hp -> Prop) (H : Hp) : Prop :=
 ∃ W : Nat -> Nat -> List V -> Hp -> Prop, (∃ m, W 0 m [] H) /\ ∀ i m ys H, W i m ys H ->
  (J.stop i H /\ ys.length <= sizeLine /\ F ys H) \/ (J.go i H /\ ys.length <= sizeLine /\ ∃ N : List V -> Hp -> Prop, (∀ ys' H', N ys' H' -> ∃ m', m' < m /\ W (i + 1) m' ys' H') /\
   ∀ x H', J.yld i H x H' -> g x (inS ix σ) H' fun σ2 H2 => tt σ2 H2 fun b H3 => if b = true then te σ2 H3 fun y H4 => N (ys ++ [y]) H4 else N ys H3)
section
variable {X : Cx} {pins : List (Addr × Obj)} {σ : St} {H : Hp} {s : Shared} {N' : List Str} {sc : Scope} {ix : List (Option Nat)}
theorem Inv.slots0 {X : Cx} {σ' : St} (I : Inv X pins σ' H s) (h : ∀ (i : Nat) v, (inS ix σ)[i]? = some (some v) -> σ'[i]? = some (some v)) (hl : (inS ix σ).length = X.N.length) : Inv X pins (inS ix σ) H s :=
 I.weak (by rw [hl, I.len]) h
theorem Ci {tg elt iter : Expr} {ifs : List Expr} {pos : Pos} {g : TG} {tt : TT} {te : TE} {J : It} {fp : List Addr} {it : Addr} {tn : Nat -> Heap -> Prop} {F : List V -> Hp -> Prop} {E : Value -> Shared -> Prop}
  (hc : X.calm = true) (I : Inv X pins σ H s) (T : Turn X.prog X.w X.K tg J fp it tn) (st : tn 0 s.heap) (hf : ∀ b ∈ fp, AN X pins H b) (ok : cv X.N X.env.scope N' sc ix = true) (hk : sc.kind = .function)
  (hg : ∀ L cs s H fp, PG (ck X N' sc L cs s H fp) tg g) (hkeep : ∀ x σ' H' (Q : St -> Hp -> Prop), g x σ' H' Q -> g x σ' H' fun σ2 H2 => Q σ2 H2 /\ ∀ (i : Nat) v, σ'[i]? = some (some v) -> (∃ j, ix[i]? = some (some j)) -> σ2[i]? = some (some v))
  (ht : ∀ L cs s H fp, PTs (ck X N' sc L cs s H fp) ifs tt) (he : ∀ L cs s H fp, PE (ck X N' sc L cs s H fp) elt te)
  (tr : xq J ix g tt te σ F H) :
  wpAny (model X.prog X.w) X.A (newList []) (fun acc s3 => wpAny (model X.prog X.w) X.A (newFunctionEnv sc X.env.globals (sH X.env.cells sc.names []) [] X.env.qual none .none (some X.env)) (fun cenv s4 =>
   codeAny (model X.prog X.w) X.A (.compStart (.ListComp elt [⟨tg, iter, ifs, 0⟩] sc pos) 0 (.ref it) acc { cenv with scope := relabel sc X.env }) (fun r s' => (∃ fl, r = .ok fl) /\
    ∃ (p : Addr) (ys : List V) (H2 : Hp), acc = .ref p /\ Inv X pins σ (upd H2 p (.lst ys)) s' /\ H2 p = none /\ F ys H2 /\ (∃ m, s'.heap.Ns cenv.locals m) /\ (upd H2 p (.lst ys)) cenv.locals = none /\ cenv.locals ≠ X.env.locals /\
     X.s₀.heap.objs.size <= cenv.locals /\ (∀ x c, X.env.cells.lookup x = some c -> c ≠ cenv.locals) /\ ∀ q ∈ X.pn ++ pins, q.1 ≠ cenv.locals) s4) E s3) E s := by
 obtain ⟨W, ⟨m0, w0⟩, turn⟩ := tr
 refine wpAny_newObj_type (BE fun h1 kp ns hcl => ?_)
 dsimp only at kp ns hcl ⊢
 generalize hH2 : s.heap.push { cls := .type "list", dict := none, data := .seq ([] : List Value).toArray } = HH at kp ns hcl ⊢
 have eL : HH.objs.size = s.heap.objs.size + 1 := by rw [<- hH2, Heap.size_push]
 have kp0 : ∀ b o, s.heap.get? b = some o -> h1.get? b = some o := fun b o e => kp b o (hH2 ▸ Heap.get?_push_of_some _ e)
 have hD0 : h1.PlainList s.heap.objs.size #[] := ⟨_, kp _ _ (hH2 ▸ Heap.get?_push_size _ rfl)⟩
 have fpo : ∀ b ∈ fp, ∃ o, s.heap.get? b = some o := fun b z => let ⟨o, e, _⟩ := T.obj 0 _ st b z; ⟨o, e⟩
 have fpl : ∀ b ∈ fp, b < s.heap.objs.size := fun b z => let ⟨o, e⟩ := fpo b z; Heap.lt_size e
 have sL : s.heap.objs.size <= HH.objs.size := by rw [eL]; exact Nat.le_succ _
 have sL' : s.heap.objs.size < HH.objs.size := by rw [eL]; exact Nat.lt_succ_self _
 have I0 := comp_inv (h1 := h1) I hf fpo ok hk sL kp0 ns hcl
 generalize hXX : ck X N' sc HH.objs.size (cellsFrom (HH.objs.size + 1) sc.names (sH X.env.cells sc.names [])) s H fp = Y at I0
 have eY1 : Y.prog = X.prog := by subst hXX; rfl
 have eY2 : Y.w = X.w := by subst hXX; rfl
 have eY3 : Y.K = X.K := by subst hXX; rfl
 have eY4 : Y.calm = true := by subst hXX; exact hc
 have eY5 : Y.A = X.A := by subst hXX; rfl
 have eY6 : Y.env = { scope := relabel sc X.env, locals := HH.objs.size, globals := X.env.globals, cells := cellsFrom (HH.objs.size + 1) sc.names (sH X.env.cells sc.names []), qual := X.env.qual, func := none, code := X.env.code, frame := X.env.frame, builtins := X.env.builtins } := by subst hXX; rfl
 have eY7 : Y.xe = fun _ _ => False := by subst hXX; rfl
 have eY8 : Y.pn = [] := by subst hXX; rfl
 have eY9 : Y.fs = frs X.stack := by subst hXX; rfl
 have eY10 : Y.s₀ = s := by subst hXX; rfl
 have eY11 : Y.H₀ = H := by subst hXX; rfl
 have eY12 : Y.ex = fp := by subst hXX; rfl
 have eY13 : Y.N = N' := by subst hXX; rfl
 have hgY : PG Y tg g := by subst hXX; exact hg _ _ _ _ _
 have htY : PTs Y ifs tt := by subst hXX; exact ht _ _ _ _ _
 have heY : PE Y elt te := by subst hXX; exact he _ _ _ _ _
 have lenI : (inS ix σ).length = Y.N.length := by rw [eY13]; unfold inS; rw [List.length_map]; exact cv.len ok
 have cellN : ∀ (b : Addr), b <= HH.objs.size -> (∀ x c, X.env.cells.lookup x = some c -> c ≠ b) -> ∀ x c, Y.env.cells.lookup x = some c -> c ≠ b := fun b hb hx x c e => by
  rw [eY6] at e
  rcases hcl x c e with q | ⟨q, _⟩
  ·exact hx x c (Cj I ok q).2
  ·exact (Ap (Nat.lt_of_le_of_lt hb (Nat.lt_succ_self _)) q).symm
 have oldc : ∀ x c, X.env.cells.lookup x = some c -> c < s.heap.objs.size := fun x c e => let ⟨v, z⟩ := I.cell x c e; z.lt
 have nfs : ∀ b, s.heap.objs.size <= b -> b ∉ frs X.stack := fun b hb z => by
  rcases List.mem_cons.mp (I.sg b z) with q | q
  ·exact Ap I.lt hb q.symm
  ·exact I.nofs hb q
 have fpY : ∀ (pp : List (Addr × Obj)) (H' : Hp), (∀ b ∈ fp, H' b = none) -> (∀ q ∈ pp, q.1 ∉ fp) -> ∀ b ∈ fp, AN Y pp H' b := fun pp H' hn hq b z => by
  have hlt := fpl b z
  refine ⟨hn b z, ?_, ?_, .inl (by rw [eY12]; exact z), cellN b (Nat.le_of_lt (Nat.lt_trans hlt sL')) ((hf b z).2.2.2.2.1), fun q hq' e => ?_⟩
  ·rw [eY6]; exact Ap hlt sL
  ·rw [eY9]; intro hs
   rcases List.mem_cons.mp (I.sg b hs) with q | q
   ·exact (hf b z).2.1 q
   ·exact (hf b z).2.2.1 q
  ·rw [eY8] at hq'
   exact hq q (by simpa using hq') (by rw [e]; exact z)
 have Dfp : s.heap.objs.size ∉ fp := fun z => absurd (fpl _ z) (Nat.lt_irrefl _)
 have Dok : ∀ (pp : List (Addr × Obj)) (H' : Hp), H' s.heap.objs.size = none -> (∀ q ∈ pp, q.1 ≠ s.heap.objs.size) -> AN Y pp H' s.heap.objs.size := fun pp H' hn hq => by
  refine ⟨hn, ?_, by rw [eY9]; exact nfs _ (Nat.le_refl _), .inr (by rw [eY10]; exact Nat.le_refl _), cellN _ sL (fun x c e => Nat.ne_of_lt (oldc x c e)), fun q hq' => ?_⟩
  ·rw [eY6]; exact Nat.ne_of_lt sL'
  ·rw [eY8] at hq'
   exact hq q (by simpa using hq')
 have loop : codeAny (model X.prog X.w) X.A (.compLoop (.ListComp elt [⟨tg, iter, ifs, 0⟩] sc pos) 0 (.ref it) (.ref s.heap.objs.size) Y.env) (fun r s' => (∃ fl, r = .ok fl) /\
    ∃ (p : Addr) (ys : List V) (H2 : Hp), Value.ref s.heap.objs.size = .ref p /\ Inv X pins σ (upd H2 p (.lst ys)) s' /\ H2 p = none /\ F ys H2 /\ (∃ m, s'.heap.Ns HH.objs.size m) /\ (upd H2 p (.lst ys)) HH.objs.size = none /\ HH.objs.size ≠ X.env.locals /\
     X.s₀.heap.objs.size <= HH.objs.size /\ (∀ x c, X.env.cells.lookup x = some c -> c ≠ HH.objs.size) /\ ∀ q ∈ X.pn ++ pins, q.1 ≠ HH.objs.size) { s with heap := h1 } := by
  refine xr (fun n s' => ∃ i ys its H', Inv Y [] (inS ix σ) H' s' /\ tn i s'.heap /\ (∀ b ∈ fp, H' b = none) /\ H' s.heap.objs.size = none /\ s'.heap.PlainList s.heap.objs.size its /\ Vals ys its.toList /\ W i n ys H') ?_ m0
   ⟨0, [], #[], H, I0, T.keep _ _ _ st fun b _ o e => kp0 b o e, fun b z => (hf b z).1, I.hok.fresh (Nat.le_refl _), hD0, .nil, w0⟩
  rintro n s3 ⟨i, ys, its, H3, I3, st3, fr3, hD3, pl3, vs3, w3⟩
  obtain ⟨nD, oD⟩ := pl3
  have hpD : ∀ q ∈ [((s.heap.objs.size : Addr), ({ cls := .type "list", data := .seq its nD } : Obj))], q.1 ∉ fp := fun q hq => by
   have : q = _ := List.mem_singleton.mp hq
   rw [this]; exact Dfp
  have I3' : Inv Y [((s.heap.objs.size : Addr), ({ cls := .type "list", data := .seq its nD } : Obj))] (inS ix σ) H3 s3 := I3.tL fun q hq => by
   have e : q = _ := List.mem_singleton.mp hq
   obtain ⟨d0, d1, d2, _⟩ := Dok [] H3 hD3 (fun _ z => nomatch z)
   rw [e]
   exact ⟨oD, d0, d1, d2, fun v z => by cases z⟩
  rcases turn i n ys H3 w3 with ⟨stop, ln, qn⟩ | ⟨go, ln, NN, hNN, step⟩
  ·have h1 := T.done Y eY1 eY2 eY3 eY4 i _ s3 _ H3 (fun _ _ => False) I3' (fpY _ H3 fr3 hpD) st3 stop
   rw [eY5] at h1
   refine wpAny_mono h1 (fun r s4 ⟨hr, I4⟩ => ?_) fun _ _ z => z
   subst hr
   obtain ⟨oD4, hD4, _⟩ := I4.pin ((s.heap.objs.size : Addr), ({ cls := .type "list", data := .seq its nD } : Obj)) (by rw [eY8]; simp)
   refine ⟨⟨_, rfl⟩, s.heap.objs.size, ys, H3, rfl, ?_, hD3, qn, ?_, ?_, ?_, ?_, ?_, ?_⟩
   ·have ub : Un (frs X.stack) fp H H3 s.heap s4.heap := by
     have := I4.base
     rw [eY9, eY10, eY11, eY12] at this
     exact this
    have hok4 : HOk X.prog X.w H3 s4.heap := by
     have := I4.hok
     rw [eY1, eY2] at this
     exact this
    refine I.call' (ch := fp) (by have := I4.os; rw [eY10] at this; exact this) ⟨ub.keep, ub.slot, fun b o e nn hx => ?_, ub.there, fun b xs q => ?_, fun b o u q => ?_, fun b ps q => ?_⟩ (fun b u e => ?_) I4.bare (fun b hb => ?_)
    ·rw [aq (Nat.ne_of_lt (Heap.lt_size e))]; exact ub.free b o e nn hx
    ·rw [aq (aC (ub.tups b xs q) hD3)]; exact ub.tups b xs q
    ·rw [aq (aC (ub.frzs b o u q) hD3)]; exact ub.frzs b o u q
    ·obtain ⟨more, z⟩ := ub.tbls b ps q
     exact ⟨more, by rw [aq (aC z hD3)]; exact z⟩
    ·by_cases hb : b = s.heap.objs.size
     ·subst hb
      rw [ar] at e
      cases e
      exact ⟨ln, its.toList, nD, vs3, by simpa using oD4⟩
     ·rw [aq hb] at e
      exact (hok4 b u e).xV (fun _ _ _ q => q) (fun c q => by rw [aq (aC q hD3)]; exact q) fun c xs q => by rw [aq (aC q hD3)]; exact q
    ·obtain ⟨f0, f1, f2, f3, f4, f5⟩ := hf b hb
     exact ⟨f3, f1, f4, f5⟩
   ·obtain ⟨m, hn, _⟩ := I4.loc
    rw [eY6] at hn
    exact ⟨m, hn⟩
   ·rw [aq (Nat.ne_of_gt sL')]
    have := I4.free
    rw [eY6] at this
    exact this
   ·exact Nat.ne_of_gt (Nat.lt_trans I.lt sL')
   ·exact Nat.le_trans I.sz sL
   ·exact fun x c e => Ap (oldc x c e) sL
   ·exact fun q hq => Ap (Heap.lt_size (I.pin q hq).1) sL
  ·have h1 := T.item Y eY1 eY2 eY3 eY4 i _ s3 _ H3 (fun _ _ => False) I3' (fpY _ H3 fr3 hpD) st3 go
   rw [eY5] at h1
   refine wpAny_mono h1 (fun r s4 ⟨u, hr, h4⟩ => ?_) fun _ _ z => z
   subst hr
   refine wpAny_mono h4 (fun _ s5 ⟨x, H5, I5, r5, y5, st5, fr5⟩ => ?_) fun _ _ z => z
   have I5' := I5.pinned (fpY _ H5 fr5 hpD) (T.obj _ _ st5)
   have h5 := hgY _ s5 _ H5 x u _ I5' r5 (hkeep x _ H5 _ (step x H5 y5))
   rw [eY1, eY2, eY5, eY7] at h5
   refine wpAny_mono h5 (fun _ s6 ⟨σ6, H6, I6, q6, k6⟩ => ?_) fun _ _ z => z
   have h6 := htY _ s6 σ6 H6 _ I6 q6
   rw [eY1, eY2, eY5, eY7] at h6
   refine wpAny_mono h6 (fun b s7 ⟨H7, I7, q7⟩ => ?_) fun _ _ z => z
   have back : ∀ {s8 : Shared} {H8 : Hp}, Inv Y ([((s.heap.objs.size : Addr), ({ cls := .type "list", data := .seq its nD } : Obj))] ++ vQ fp s5.heap) σ6 H8 s8 -> Inv Y [] (inS ix σ) H8 s8 /\ tn (i + 1) s8.heap /\ (∀ b ∈ fp, H8 b = none) /\ H8 s.heap.objs.size = none /\ s8.heap.get? s.heap.objs.size = some { cls := .type "list", data := .seq its nD } := fun {s8 H8} I8 => by
    obtain ⟨a1, a2, _⟩ := I8.pin ((s.heap.objs.size : Addr), ({ cls := .type "list", data := .seq its nD } : Obj)) (by rw [eY8]; simp)
    refine ⟨(I8.tL (pins' := []) fun _ z => nomatch z).slots0 (fun k v e => ?_) lenI, T.keep _ _ _ st5 fun b hb o e => (I8.pin (b, o) (List.mem_append_right _ (List.mem_append_right _ (lT hb e)))).1, fun b hb => ?_, a2, a1⟩
    ·refine k6 k v e ?_
     unfold inS at e
     rw [List.getElem?_map] at e
     cases e2 : ix[k]? with
     | none => rw [e2] at e; cases e
     | some o =>
      cases o with
      | none => rw [e2] at e; cases e
      | some j => exact ⟨j, rfl⟩
    ·obtain ⟨o, e, d⟩ := T.obj _ _ st5 b hb
     exact (I8.pin (b, o) (List.mem_append_right _ (List.mem_append_right _ (lT hb e)))).2.1
   cases b with
   | false =>
    rw [if_neg Bool.false_ne_true] at q7 ⊢
    obtain ⟨m', hm, w7⟩ := hNN _ _ q7
    obtain ⟨b1, b2, b3, b4, b5⟩ := back I7
    exact ⟨m', hm, i + 1, ys, its, H7, b1, b2, b3, b4, ⟨nD, b5⟩, vs3, w7⟩
   | true =>
    rw [if_pos rfl] at q7 ⊢
    have h7 := heY _ s7 σ6 H7 _ I7 q7
    rw [eY1, eY2, eY5, eY7, eY6] at h7
    rw [eY6]
    refine wpAny_mono h7 (fun uu s8 ⟨y, H8, I8, r8, q8⟩ => ?_) fun _ _ z => z
    obtain ⟨m', hm, w8⟩ := hNN _ _ q8
    obtain ⟨b1, b2, b3, b4, b5⟩ := back I8
    have ez : its.size <= sizeLine := by
     have h1 := vs3.length
     have h2 : its.toList.length = its.size := by simp
     omega
    refine wpAny_list_append_plain (hsz := ez) ⟨nD, b5⟩ fun h9 pl9 sb9 => ?_
    obtain ⟨d0, d1, d2, d3, d4, d5⟩ := Dok [] H8 b4 (fun _ z => nomatch z)
    refine ⟨m', hm, i + 1, ys ++ [y], its.push uu, H8, b1.turned (t' := s8.toks) (fun b o hb e => (sb9.2 b hb).trans e) d0 d1 d3 d4 d5, T.keep _ _ _ b2 fun b hb o e => (sb9.2 b ?_).trans e, b3, b4, pl9, ?_, w8⟩
    ·exact Ap (fpl b hb) (Nat.le_refl _)
    ·rw [Array.toList_push]
     exact vs3.append (.cons r8 .nil)
 rw [eY6] at loop
 exact codeAny_compStart_list loop (T.self X.A 0 _ _ _ (T.keep _ _ _ st fun b _ o e => kp0 b o e) loop)
end
noncomputable def tComp (wi : TI) (ix : List (Option Nat)) (g : TG) (tt : TT) (te : TE) : TE := fun σ H Q => wi σ H fun J H1 => xq J ix g tt te σ (fun ys H2 => ∀ p, H2 p = none -> Q (.ref p) (upd H2 p (.lst ys))) H1
noncomputable def A8 (ix : List (Option Nat)) (g : TG) : Prop := ∀ x σ' H' (Q : St -> Hp -> Prop), g x σ' H' Q -> g x σ' H' fun σ2 H2 => Q σ2 H2 /\ ∀ (i : Nat) v, σ'[i]? = some (some v) -> (∃ j, ix[i]? = some (some j)) -> σ2[i]? = some (some v)
theorem eO {ix : List (Option Nat)} {k : Nat} (h : ix[k]? = some none) : A8 ix (oO k) := fun x σ' H' Q q => ⟨q, fun i v e ⟨j, hj⟩ => by
 have : k ≠ i := by rintro rfl; rw [h] at hj; cases hj
 rw [List.getElem?_set_ne this]; exact e⟩
section
variable {X : Cx} {N' : List Str} {sc : Scope} {ix : List (Option Nat)} {tg elt iter : Expr} {ifs : List Expr} {pos spos py : Pos} {wi : TI} {g : TG} {tt : TT} {te : TE}
theorem pe_comp (N' : List Str) (ix : List (Option Nat)) (hc : X.calm = true) (hi : PI X tg iter wi) (hg : ∀ L cs s H fp, PG (ck X N' sc L cs s H fp) tg g) (hl : A8 ix g)
  (ht : ∀ L cs s H fp, PTs (ck X N' sc L cs s H fp) ifs tt) (he : ∀ L cs s H fp, PE (ck X N' sc L cs s H fp) elt te)
  (ok : cv X.N X.env.scope N' sc ix = true := by rfl) (hk : sc.kind = .function := by rfl) (hs : ∀ x, foldedSetIterable iter X.env x = pure x := by intro _; rfl) :
  PE X (.ListComp elt [⟨tg, iter, ifs, 0⟩] sc pos) (tComp wi ix g tt te) := by
 intro pins s σ H Q I h
 rw [eval_ListComp]
 refine wpAny_comprehension_free (use := none) rfl hs (AE (xp I ok)) hk (cv.loc ok) (thn (hi pins s σ H _ I h) fun v s1 h1 => thn h1 fun itv s2 h2 => ?_)
 obtain ⟨it, fp, tn, J, H2, e, I2, T, st2, f2, tr⟩ := h2
 subst e
 refine thn (Ci hc I2 T st2 f2 ok hk hg hl ht he tr) fun acc s3 h3 => thn h3 fun cenv s4 h4 => codeAny_mono h4 fun r s5 hr => ?_
 obtain ⟨⟨fl, e1⟩, p, ys, H5, e2, I5, hp, q, ⟨m, hn⟩, c0, c1, c2, c3, c4⟩ := hr
 subst e1
 subst e2
 exact ⟨m, hn, fun h' sb => ⟨.ref p, _, I5.turned (t' := s5.toks) (fun b o hb e => (sb.2 b hb).trans e) c0 c1 (.inr c2) c3 c4, rfl, q p hp⟩⟩
end
end L2
namespace L2
open PySem PySem.Spec PyProof.Rows
section
variable {X : Cx}
theorem A5 : ∀ {bs : List Bool} {us : List Value}, Vals (bs.map V.bl) us -> LSm.BoolsAre us bs
 | [], _, .nil => .nil
 | b :: r, _, .cons e t => by cases e; exact .cons b (A5 t)
theorem call_all (hc : X.calm = true) : eR X (.builtin "all") (fun xs H Q => ∃ (a : Addr) (bs : List Bool), xs = [.ref a] /\ SqL X.K H a (bs.map V.bl) /\ Q (.bl (bs.all id)) H) := by
 intro pins s σ H xs us Q I r h
 obtain ⟨a, bs, rfl, hq, q⟩ := h
 obtain ⟨u, rfl, ru⟩ := r.one
 cases ru
 obtain ⟨its, rv, p, hz⟩ := I.list hq
 have hb := A5 rv
 have hl := p.isList
 have hlt : a < s.heap.objs.size := by obtain ⟨_, e, _⟩ := hl; exact Heap.lt_size e
 refine call_all_walk (wpAny_pyIter_list hl ?_)
 refine ⟨s.heap.objs.size, [s.heap.objs.size, a], [s.heap.objs.size], its.toArray.size, _, _, fun i => (bs[i]?).getD true, rfl, Walks.list (A := X.A.in1) (I.ok.hd hc) _ a (Nat.ne_of_lt hlt) its.toArray,
  ⟨⟨_, Heap.get?_push_size _ rfl, rfl, rfl⟩, hl.push _⟩, fun i v s' Q' E' hP hQ => ?_, fun h' tk hk => ?_⟩
 ·obtain ⟨b, e, rfl⟩ := hb.get i v (by simpa using hP)
  simp only [e, Option.getD_some] at hQ
  exact wpAny_truthy_bool hQ
 ·have e : ((List.range its.toArray.size).all fun i => (bs[i]?).getD true) = bs.all id := by
   rw [List.size_toArray, hb.length]; exact LSm.range_all bs
  rw [e]
  exact ⟨.bl (bs.all id), H, I.kept (LSm.kept_iter hk), rfl, q⟩
noncomputable def clsV : V -> Option Value
 | .ty n => some (.type n)
 | .ref a => some (.ref a)
 | _ => none
theorem clsV_is {y : V} {c u : Value} (h : clsV y = some c) (r : RelV y u) : u = c := by
 cases y with
 | ty n => cases r; exact Option.some.inj h
 | ref a => cases r; exact Option.some.inj h
 | _ => cases h
theorem call_isi : eR X (.builtin "isinstance") (fun xs H Q => ∃ x y c t b, xs = [x, y] /\ clsV y = some c /\ A7 X.K H x t /\ PySem.W.kitOne X.K t c = some b /\ Q (.bl b) H) := by
 intro pins s σ H xs us Q I r h
 obtain ⟨x, y, c, t, b, rfl, hc, ty, e, q⟩ := h
 obtain ⟨u, v, rfl, ru, rv⟩ := r.two
 have ev := clsV_is hc rv
 subst ev
 exact BO I ru ty e fun tk => ⟨.bl b, H, I.tok tk, rfl, q⟩
inductive EqV (K : PySem.W.Frag) (H : Hp) : Nat -> V -> V -> Bool -> Prop where
 | flat {n : Nat} {x y : V} (hx : flatV x = true) (hy : flatV y = true) : EqV K H n x y (eqV x y)
 | same {n : Nat} {a : Addr} : EqV K H n (.ref a) (.ref a) true
 | lists {n : Nat} {a b : Addr} {xs ys : List V} {e : Nat -> Bool} (ha : SqL K H a xs) (hb : SqL K H b ys) (hl : xs.length = ys.length) (ne : a ≠ b)
   (he : ∀ j x y, xs[j]? = some x -> ys[j]? = some y -> EqV K H n x y (e j)) : EqV K H (n + 1) (.ref a) (.ref b) ((List.range xs.length).all e)
 | listsL {n : Nat} {a b : Addr} {xs ys : List V} (ha : SqL K H a xs) (hb : SqL K H b ys) (hl : xs.length ≠ ys.length) (ne : a ≠ b) : EqV K H (n + 1) (.ref a) (.ref b) false
 | tups {n : Nat} {a b : Addr} {xs ys : List V} {e : Nat -> Bool} (ha : SqT K H a xs) (hb : SqT K H b ys) (ne : a ≠ b)
   (he : ∀ j x y, xs[j]? = some x -> ys[j]? = some y -> EqV K H n x y (e j)) : EqV K H (n + 1) (.ref a) (.ref b) ((List.range (min xs.length ys.length)).all e && xs.length == ys.length)
theorem Vals.atA {xs : List V} {us : List Value} (r : Vals xs us) {j : Nat} (h : j < us.toArray.size) : ∃ x, xs[j]? = some x /\ RelV x us.toArray[j] := by
 have hl := r.length
 have hj : j < xs.length := by rw [hl]; simpa using h
 obtain ⟨u, e1, e2⟩ := r.get (i := j) (x := xs[j]) (by simp [hj])
 refine ⟨xs[j], by simp [hj], ?_⟩
 have : us.toArray[j] = u := by
  have h' : j < us.length := by simpa using h
  rw [List.getElem?_eq_getElem h'] at e1
  simpa using Option.some.inj e1
 rw [this]; exact e2
end
end L2
namespace L2
open PySem PySem.Spec PyProof.Rows
section
variable {X : Cx} {x : Str} {pos : Pos}
theorem Bp {T : String} (hg : Gl X x) (hm : X.mg x = none) (hv : bootBuiltins x = some (.type T)) (hn : x ≠ "__name__" := by decide) (hd : (x == ("__debug__" : Str)) = false := by decide) : PE X (.Name x pos) (tC (.ty T)) := pe_bltn (v := .ty T) hg hm hv rfl hn hd
theorem pe_gint {n : Int} (hg : Gl X x) (hm : ∃ t, X.mg x = some (.int n t)) (hd : (x == ("__debug__" : Str)) = false := by decide) : PE X (.Name x pos) (tC (.int n)) := by
 obtain ⟨t, e⟩ := hm
 exact Bs (v := .int n) hg e ⟨t, rfl⟩ hd
end
section
variable {P : Program} {w : World} {K : PySem.W.Frag} {mg : Str -> Option Value} {base : Heap} {CX : CXT}
theorem Fun.okX {x qual : Str} {st : Stmt} {f : Addr} {fd : FuncData} {N ps : List Str} {k : Nat} {sp : Sp} (F : Fun K x qual st f fd) (S : aR N ps (af st)) (len : ∀ vs H Q E, sp vs H Q E -> vs.length = ps.length)
  (hbody : ∀ (cdv : Value) (A : Around) (outer : List Env) (s : Shared) (H : Hp) (vs : List V) (Q : VK) (E : XK), ka k (A.deeper (envOfC qual (af st) s.heap.objs.size f cdv)) -> sp vs H Q E ->
   ∃ t, PSs (Cc CX P w K mg base N qual (af st) f cdv A outer s H E).nox (aG st) t /\ t { nx := fun _ H' => Q .non H', rt := Q } (start N vs) H) : bJ P w K mg base CX (k + 1) f fd ps sp := by
 obtain ⟨oc, od, kV, doc, pm, an, cdv, ct, osl, rfl, lk, hcd⟩ := F.ex
 refine fn_of lk hcd S len fun A outer s H vs Q E hr hsp => ?_
 obtain ⟨t, h, q⟩ := hbody cdv A outer s H vs Q E hr hsp
 exact ⟨t, h.nox, q⟩
structure Def (K : PySem.W.Frag) (mg : Str -> Option Value) (x : Str) (st : Stmt) (ps : List Str) (f : Addr) (fd : FuncData) : Prop where
 fn : Fun K x x st f fd
 mg : mg x = some (.ref f)
 bd : Binds K fd ps []
theorem da {h : Heap} (KX : K.In h) (G : h.Ns mainGlobals mg) {x : Str} {st : Stmt} {ps : List Str} {f : Addr} {oc : Value} {od an : Option Addr} {osl : Array (Option Value)} {kV doc pm cdv ct : Value}
  (a : PySem.W.nsIn K mainGlobals x = some (some (.ref f))) (l : K.lookup f = some ⟨oc, od, .func (PySem.W.fnOf x x (aI st) (aG st) (af st) .none kV doc pm an cdv ct), osl⟩) (c : PySem.W.codeIn K cdv x = true) (k : PySem.W.keepIn K (.ref f) = true)
  (hb : ∀ (kV doc pm : Value) (an : Option Addr) (cdv ct : Value) (us : List Value), us.length = ps.length -> bindArgs (PySem.W.fnOf x x (aI st) (aG st) (af st) .none kV doc pm an cdv ct) ⟨us, []⟩ = pure (ps.zip us)) :
  Def K mg x st ps f (PySem.W.fnOf x x (aI st) (aG st) (af st) .none kV doc pm an cdv ct) :=
 ⟨zR l c k, PySem.W.mg_of KX G a, (zR l c k).binds hb⟩
structure Mth (K : PySem.W.Frag) (C : Addr) (x qual : Str) (st : Stmt) (ps : List Str) (f : Addr) (fd : FuncData) : Prop where
 fn : Fun K x qual st f fd
 mt : Meth K C x f
 bd : Binds K fd ps []
theorem wx {C : Addr} {x qual : Str} {st : Stmt} {ps : List Str} {f : Addr} {oc : Value} {od an : Option Addr} {osl : Array (Option Value)} {kV doc pm cdv ct : Value}
  (a : PySem.W.findIn K (.ref C) x = some (some (.ref f))) (i : PySem.W.isFn K (.ref f) = true) (l : K.lookup f = some ⟨oc, od, .func (PySem.W.fnOf x qual (aI st) (aG st) (af st) .none kV doc pm an cdv ct), osl⟩) (c : PySem.W.codeIn K cdv qual = true) (k : PySem.W.keepIn K (.ref f) = true)
  (hb : ∀ (kV doc pm : Value) (an : Option Addr) (cdv ct : Value) (us : List Value), us.length = ps.length -> bindArgs (PySem.W.fnOf x qual (aI st) (aG st) (af st) .none kV doc pm an cdv ct) ⟨us, []⟩ = pure (ps.zip us)) :
  Mth K C x qual st ps f (PySem.W.fnOf x qual (aI st) (aG st) (af st) .none kV doc pm an cdv ct) :=
 ⟨zR l c k, ⟨a, i, k⟩, (zR l c k).binds hb⟩
structure Kls (K : PySem.W.Frag) (mg : Str -> Option Value) (x : Str) (C : Addr) : Prop where
 cl : Cls K C
 mg : mg x = some (.ref C)
 mks : PySem.W.makesIn K C = true
 kp : PySem.W.keepIn K (.ref C) = true
 c1 : PySem.W.findIn K (.ref C) "__class__" = some (some (.builtin "object.__class__"))
 c2 : PySem.W.specialIn K (.builtin "object.__class__") "__get__" = some (some (.builtin "getset_descriptor.__get__"))
 c3 : PySem.W.takesIn K (.builtin "object.__class__") = some true
 c4 : PySem.W.mroIn K C (.type "object") = some true
theorem kls_of {h : Heap} (KX : K.In h) (G : h.Ns mainGlobals mg) {x : Str} {C : Addr} (a : PySem.W.nsIn K mainGlobals x = some (some (.ref C)))
  (pg : PySem.W.plainGet K C Str.empty = true) (hd : PySem.W.hasDictIn K C = true) (po : PySem.W.plainOver K C = true) (sa : PySem.W.findIn K (.ref C) "__setattr__" = some (some (.builtin "object.__setattr__"))) (mk : PySem.W.makesIn K C = true) (kp : PySem.W.keepIn K (.ref C) = true)
  (c1 : PySem.W.findIn K (.ref C) "__class__" = some (some (.builtin "object.__class__"))) (c2 : PySem.W.specialIn K (.builtin "object.__class__") "__get__" = some (some (.builtin "getset_descriptor.__get__")))
  (c3 : PySem.W.takesIn K (.builtin "object.__class__") = some true) (c4 : PySem.W.mroIn K C (.type "object") = some true) : Kls K mg x C :=
 ⟨⟨pg, hd, po, sa⟩, PySem.W.mg_of KX G a, mk, kp, c1, c2, c3, c4⟩
end
section
variable {X : Cx} {K : PySem.W.Frag}
theorem call_isiK (hK : X.K = K := by rfl) : eR X (.builtin "isinstance") (fun xs H Q => ∃ x y c t b, xs = [x, y] /\ clsV y = some c /\ A7 K H x t /\ PySem.W.kitOne K t c = some b /\ Q (.bl b) H) := by subst hK; exact call_isi
theorem pg_c {N' : List Str} {sc : Scope} {L : Addr} {cs : List (Str × Addr)} {s : Shared} {H : Hp} {fp : List Addr} {pos : Pos} {i : Nat} {x : Str} (hN : N'.Nodup) (hi : N'[i]? = some x) (hx : Loc (ck X N' sc L cs s H fp).env.scope x)
  (hf : (ck X N' sc L cs s H fp).fn x = true \/ (ck X N' sc L cs s H fp).env.scope.names.lookup x = some .local := by first | exact .inl rfl | exact .inr rfl | assumption) : PG (ck X N' sc L cs s H fp) (.Name x pos) (oO i) := yh hN hi hx hf
end
structure Grid (H : Hp) (a : Addr) (as : List Addr) (rows : List (List Int)) : Prop where
 top : H a = some (.lst (as.map V.ref))
 len : as.length = rows.length
 row : ∀ (i : Nat) (b : Addr) (r : List Int), as[i]? = some b -> rows[i]? = some r -> H b = some (.lst (r.map V.int))
theorem b9.upd {H : Hp} {a : Addr} {o : HO} (h : H a = none) : b9 H (upd H a o) := fun b u e => by rw [aq (aC e h)]; exact e
end L2
namespace L2
open PySem PySem.Spec PyProof.Rows
section
variable {X : Cx} {CX : CXT} {k : Nat} {f C : Addr} {fd : FuncData} {ps : List Str} {sp : Sp} {dvs : List V} {ds : List Value} {E : XK} {x m : Str} {p pos apos : Pos} {e : Expr} {es : List Expr} {t : TA} {mc : Value}
structure Stat (K : PySem.W.Frag) (C : Addr) (mc : Value) (m : Str) (f : Addr) : Prop where
 s1 : PySem.W.specialIn K (.ref C) "__getattribute__" = some (some (.builtin "type.__getattribute__"))
 s2 : PySem.W.readsIn K C mc = true
 s3 : PySem.W.findCls K (.ref C) mc m = some (.val (.ref f))
 s4 : PySem.W.keepIn K (.ref f) = true
theorem pe_cmeth {pl : Sem Bool} (S : Stat X.K C mc m f) (hg : Gl X x) (hm : X.mg x = some (.ref C)) (F : bJ X.prog X.w X.K X.mg X.base CX k f fd ps sp) (hr : ka k X.A) (hb : Binds X.K fd ps ds) (hd : Vals dvs ds) (hx : Passes CX X E) (ha : PA X (e :: es) t)
  (hdb : (x == ("__debug__" : Str)) = false := by decide)
  (hst : starEach (e :: es) X.env = (false, eval e X.env) :: starEach es X.env := by rfl) (hpl : (backTo pos (starEach es X.env)).any (·.1) = false := by rfl)
  (ht : eval (.Call (.Attribute (.Name x p) m apos) (e :: es) [] pos) X.env = (do
   let ov <- eval (.Name x p) X.env
   standAt apos.atName
   let (f, first) <- holding [ov] (getMethod ov m pl)
   callWith pos f first (backTo pos (starEach (e :: es) X.env)) (backToKw pos (keywordEach [] X.env))) := by rfl) :
  PE X (.Call (.Attribute (.Name x p) m apos) (e :: es) [] pos) (tCall sp dvs E t) := by
 intro pins s σ H Q I h
 refine PySem.W.methodCall_KW (pl := pl) (iK I hg hm ?_ hdb) ht
 refine PySem.W.method_cls I.kIn S.s1 (PySem.W.cls_value I.kIn S.s2 S.s3 rfl ?_)
 refine PySem.W.callWith_K (first := []) (h₀ := X.base) I.ok.mod.kin S.s4 (thn (ha pos pins _ σ H _ (I.tok (s.toks + 1)) h) fun us s2 ⟨vs, H2, I2, r, q2⟩ => ⟨I2.kIn, ?_⟩) hst hpl
 exact Bc (us := us) (vs := vs) F hr hb hd hx I2 r q2
end
noncomputable def Keeps (S : Addr -> Prop) (H H' : Hp) : Prop := ∀ b o, H b = some o -> ¬ S b -> H' b = some o
theorem Keeps.refl (S : Addr -> Prop) (H : Hp) : Keeps S H H := fun _ _ e _ => e
end L2
namespace L2
open PySem PySem.Spec PyProof.Rows
section
variable {X : Cx} {a b c d : Expr} {ta tb tc td : TE} {pos : Pos}
theorem b9.tup {K : PySem.W.Frag} {H H' : Hp} {a : Addr} {xs : List V} (e : b9 H H') (h : SqT K H a xs) : SqT K H' a xs := by
 rcases h with (h | ⟨o, h⟩) | h
 ·exact .inl (.inl (e _ _ h))
 ·exact .inl (.inr ⟨o, e _ _ h⟩)
 ·exact .inr h
end
end L2
namespace L2
open PySem PySem.Spec PyProof.Rows
theorem sY {K : PySem.W.Frag} {a : Addr} {H : Hp} {xs : List V} (h : H a = some (.lst xs)) : tyV K "list" (.ref a) H := .inl ⟨rfl, _, SqL.of h⟩
inductive Dat where
 | non | bl (b : Bool) | int (i : Int) | str (x : Str) | tup (ds : List Dat) | lst (ds : List Dat) | ins (C : Addr) (fs : List (Str × Dat))
mutual
noncomputable def cA (K : PySem.W.Frag) (F : Hp) : Dat -> V -> Prop
 | .non, v => v = .non
 | .bl b, v => v = .bl b
 | .int i, v => v = .int i
 | .str x, v => v = .str x
 | .tup ds, v => ∃ a xs, v = .ref a /\ SqT K F a xs /\ aB K F ds xs
 | .lst ds, v => ∃ a xs, v = .ref a /\ SqL K F a xs /\ aB K F ds xs
 | .ins C gs, v => ∃ a dx fs, v = .ref a /\ F a = some (.ins C dx fs) /\ o6 K F gs fs
noncomputable def aB (K : PySem.W.Frag) (F : Hp) : List Dat -> List V -> Prop
 | [], xs => xs = []
 | d :: ds, xs => ∃ v vs, xs = v :: vs /\ cA K F d v /\ aB K F ds vs
noncomputable def o6 (K : PySem.W.Frag) (F : Hp) : List (Str × Dat) -> List (Str × V) -> Prop
 | [], fs => fs = []
 | (f, d) :: gs, fs => ∃ v r, fs = (f, v) :: r /\ cA K F d v /\ o6 K F gs r
end
mutual
noncomputable def m4 : Dat -> Bool
 | .tup ds => sy ds
 | .lst _ => false
 | .ins _ _ => false
 | _ => true
noncomputable def sy : List Dat -> Bool
 | [] => true
 | d :: ds => m4 d && sy ds
end
theorem b9.lst {K : PySem.W.Frag} {H H' : Hp} {a : Addr} {xs : List V} (e : b9 H H') (h : SqL K H a xs) : SqL K H' a xs := by
 rcases h with (h | ⟨o, h⟩) | h
 ·exact .inl (.inl (e _ _ h))
 ·exact .inl (.inr ⟨o, e _ _ h⟩)
 ·exact .inr h
mutual
theorem cA.mono {K : PySem.W.Frag} {F F' : Hp} (s : b9 F F') : ∀ {d : Dat} {v : V}, cA K F d v -> cA K F' d v
 | .non, _, h => h
 | .bl _, _, h => h
 | .int _, _, h => h
 | .str _, _, h => h
 | .tup _, _, ⟨a, xs, e, q, r⟩ => ⟨a, xs, e, s.tup q, aB.mono s r⟩
 | .lst _, _, ⟨a, xs, e, q, r⟩ => ⟨a, xs, e, s.lst q, aB.mono s r⟩
 | .ins _ _, _, ⟨a, dx, fs, e, q, r⟩ => ⟨a, dx, fs, e, s _ _ q, o6.mono s r⟩
theorem aB.mono {K : PySem.W.Frag} {F F' : Hp} (s : b9 F F') : ∀ {ds : List Dat} {xs : List V}, aB K F ds xs -> aB K F' ds xs
 | [], _, h => h
 | _ :: _, _, ⟨v, vs, e, q, r⟩ => ⟨v, vs, e, cA.mono s q, aB.mono s r⟩
theorem o6.mono {K : PySem.W.Frag} {F F' : Hp} (s : b9 F F') : ∀ {gs : List (Str × Dat)} {fs : List (Str × V)}, o6 K F gs fs -> o6 K F' gs fs
 | [], _, h => h
 | (_, _) :: _, _, ⟨v, r, e, q, t⟩ => ⟨v, r, e, cA.mono s q, o6.mono s t⟩
end
mutual
theorem cA.flat {K : PySem.W.Frag} {F F' : Hp} (s : ∀ a xs, SqT K F a xs -> SqT K F' a xs) : ∀ {d : Dat} {v : V}, m4 d = true -> cA K F d v -> cA K F' d v
 | .non, _, _, h => h
 | .bl _, _, _, h => h
 | .int _, _, _, h => h
 | .str _, _, _, h => h
 | .tup ds, _, f, ⟨a, xs, e, q, r⟩ => ⟨a, xs, e, s _ _ q, aB.flat s (by simpa [m4] using f) r⟩
 | .lst _, _, f, _ => by simp [m4] at f
 | .ins _ _, _, f, _ => by simp [m4] at f
theorem aB.flat {K : PySem.W.Frag} {F F' : Hp} (s : ∀ a xs, SqT K F a xs -> SqT K F' a xs) : ∀ {ds : List Dat} {xs : List V}, sy ds = true -> aB K F ds xs -> aB K F' ds xs
 | [], _, _, h => h
 | d :: ds, _, f, ⟨v, vs, e, q, r⟩ => by
  simp only [sy, Bool.and_eq_true] at f
  exact ⟨v, vs, e, cA.flat s f.1 q, aB.flat s f.2 r⟩
end
theorem aB.length {K : PySem.W.Frag} {F : Hp} : ∀ {ds : List Dat} {xs : List V}, aB K F ds xs -> xs.length = ds.length
 | [], _, h => by rw [show _ = [] from h]; rfl
 | _ :: _, _, ⟨_, _, e, _, r⟩ => by rw [e, List.length_cons, List.length_cons, aB.length r]
theorem aB.get {K : PySem.W.Frag} {F : Hp} : ∀ {ds : List Dat} {xs : List V} {i : Nat} {d : Dat}, aB K F ds xs -> ds[i]? = some d -> ∃ v, xs[i]? = some v /\ cA K F d v
 | [], _, _, _, _, e => by simp at e
 | _ :: _, _, 0, _, ⟨v, vs, e, q, _⟩, h => by
  simp only [List.getElem?_cons_zero, Option.some.injEq] at h
  subst h e
  exact ⟨v, rfl, q⟩
 | _ :: _, _, i + 1, _, ⟨v, vs, e, _, r⟩, h => by
  subst e
  simp only [List.getElem?_cons_succ] at h ⊢
  exact aB.get r h
theorem aB.at {K : PySem.W.Frag} {F : Hp} {ds : List Dat} {xs : List V} {i : Nat} {v : V} (r : aB K F ds xs) (h : xs[i]? = some v) : ∃ d, ds[i]? = some d /\ cA K F d v := by
 have hi : i < ds.length := by rw [<- r.length]; exact (List.getElem?_eq_some_iff.mp h).1
 obtain ⟨w, e, q⟩ := r.get (i := i) (d := ds[i]) (by simp [hi])
 rw [h] at e
 have e' := Option.some.inj e
 subst e'
 exact ⟨ds[i], by simp [hi], q⟩
theorem aB.cons {K : PySem.W.Frag} {F : Hp} {d : Dat} {v : V} {ds : List Dat} {xs : List V} (q : cA K F d v) (r : aB K F ds xs) : aB K F (d :: ds) (v :: xs) := ⟨v, xs, rfl, q, r⟩
theorem aB.append {K : PySem.W.Frag} {F : Hp} : ∀ {ds es : List Dat} {xs ys : List V}, aB K F ds xs -> aB K F es ys -> aB K F (ds ++ es) (xs ++ ys)
 | [], _, _, _, h, r => by rw [show _ = [] from h]; exact r
 | _ :: _, _, _, _, ⟨v, vs, e, q, t⟩, r => by subst e; exact ⟨v, _, rfl, q, aB.append t r⟩
theorem aB.take {K : PySem.W.Frag} {F : Hp} : ∀ {ds : List Dat} {xs : List V} (n : Nat), aB K F ds xs -> aB K F (ds.take n) (xs.take n)
 | _, _, 0, _ => rfl
 | [], _, _ + 1, h => by rw [show _ = [] from h]; rfl
 | _ :: _, _, n + 1, ⟨v, vs, e, q, r⟩ => by subst e; exact ⟨v, _, rfl, q, aB.take n r⟩
theorem aB.drop {K : PySem.W.Frag} {F : Hp} : ∀ {ds : List Dat} {xs : List V} (n : Nat), aB K F ds xs -> aB K F (ds.drop n) (xs.drop n)
 | _, _, 0, h => h
 | [], _, _ + 1, h => by rw [show _ = [] from h]; rfl
 | _ :: _, _, n + 1, ⟨v, vs, e, q, r⟩ => by subst e; exact aB.drop n r
theorem aB.set {K : PySem.W.Frag} {F : Hp} {d : Dat} {v : V} (q : cA K F d v) : ∀ {ds : List Dat} {xs : List V} (n : Nat), aB K F ds xs -> aB K F (ds.set n d) (xs.set n v)
 | [], _, _, h => by rw [show _ = [] from h]; rfl
 | _ :: _, _, 0, ⟨w, vs, e, _, r⟩ => by subst e; exact ⟨v, _, rfl, q, r⟩
 | _ :: _, _, n + 1, ⟨w, vs, e, p, r⟩ => by subst e; exact ⟨w, _, rfl, p, aB.set q n r⟩
theorem aB.eraseIdx {K : PySem.W.Frag} {F : Hp} : ∀ {ds : List Dat} {xs : List V} (n : Nat), aB K F ds xs -> aB K F (ds.eraseIdx n) (xs.eraseIdx n)
 | [], _, _, h => by rw [show _ = [] from h]; rfl
 | _ :: _, _, 0, ⟨w, vs, e, _, r⟩ => by subst e; exact r
 | _ :: _, _, n + 1, ⟨w, vs, e, p, r⟩ => by subst e; exact ⟨w, _, rfl, p, aB.eraseIdx n r⟩
theorem aB.of_get {K : PySem.W.Frag} {F : Hp} : ∀ {ds : List Dat} {xs : List V}, xs.length = ds.length -> (∀ (i : Nat) d v, ds[i]? = some d -> xs[i]? = some v -> cA K F d v) -> aB K F ds xs
 | [], [], _, _ => rfl
 | [], _ :: _, h, _ => by simp at h
 | _ :: _, [], h, _ => by simp at h
 | d :: ds, v :: vs, h, q => ⟨v, vs, rfl, q 0 d v rfl rfl, aB.of_get (by simpa using h) fun i e w h1 h2 => q (i + 1) e w (by simpa using h1) (by simpa using h2)⟩
structure Step (F H F' H' : Hp) : Prop where
 ff : b9 F F'
 hh : b9 H H'
 fh : b9 F' H'
 nw : ∀ b o, F' b = some o -> F b = some o \/ H b = none
theorem Step.refl {F H : Hp} (s : b9 F H) : Step F H F H := ⟨b9.refl _, b9.refl _, s, fun _ _ h => .inl h⟩
theorem Step.trans {F H F1 H1 F2 H2 : Hp} (a : Step F H F1 H1) (b : Step F1 H1 F2 H2) : Step F H F2 H2 :=
 ⟨a.ff.trans b.ff, a.hh.trans b.hh, b.fh, fun x o h => (b.nw x o h).elim (fun z => a.nw x o z) fun z => .inr (a.hh.free z)⟩
theorem Step.lay {F H : Hp} {p : Addr} {o : HO} (s : b9 F H) (hp : H p = none) : Step F H (upd F p o) (upd H p o) :=
 ⟨b9.upd (s.free hp), b9.upd hp, fun b u h => by
  by_cases e : b = p
  ·subst e; rw [ar] at h ⊢; exact h
  ·rw [aq e] at h ⊢; exact s b u h, fun b u h => by
  by_cases e : b = p
  ·subst e; exact .inr hp
  ·rw [aq e] at h; exact .inl h⟩
theorem Step.grow {F H : Hp} {p : Addr} {o : HO} (s : b9 F H) (hp : H p = none) : Step F H F (upd H p o) :=
 ⟨b9.refl _, b9.upd hp, s.trans (b9.upd hp), fun _ _ h => .inl h⟩
noncomputable def CO (K : PySem.W.Frag) (F H0 H : Hp) : Dat -> V -> Prop
 | .lst ds, v => ∃ a xs, v = .ref a /\ H a = some (.lst xs) /\ F a = none /\ H0 a = none /\ aB K F ds xs
 | d, v => cA K F d v
noncomputable def Val (K : PySem.W.Frag) (own : Bool) (F H0 H : Hp) (d : Dat) (v : V) : Prop := if own = true then CO K F H0 H d v else cA K F d v
theorem CO.back {K : PySem.W.Frag} {F H0 H1 H : Hp} {d : Dat} {v : V} (s : b9 H0 H1) (h : CO K F H1 H d v) : CO K F H0 H d v := by
 cases d with
 | lst ds => obtain ⟨a, xs, e, p, q, z, r⟩ := h; exact ⟨a, xs, e, p, q, s.free z, r⟩
 | _ => exact h
theorem Val.back {K : PySem.W.Frag} {own : Bool} {F H0 H1 H : Hp} {d : Dat} {v : V} (s : b9 H0 H1) (h : Val K own F H1 H d v) : Val K own F H0 H d v := by
 cases own with
 | true => exact CO.back s h
 | false => exact h
theorem CO.freeze {K : PySem.W.Frag} {F H0 H : Hp} {d : Dat} {v : V} (s : b9 F H) (h : CO K F H0 H d v) : ∃ F', b9 F F' /\ b9 F' H /\ (∀ b o, F' b = some o -> F b = some o \/ H0 b = none) /\ cA K F' d v := by
 cases d with
 | lst ds =>
  obtain ⟨a, xs, e, p, q, z, r⟩ := h
  refine ⟨upd F a (.lst xs), b9.upd q, fun b o h => ?_, fun b o h => ?_, a, xs, e, SqL.of ar, r.mono (b9.upd q)⟩
  ·by_cases e : b = a
   ·subst e; rw [ar] at h; rw [p, <- h]
   ·rw [aq e] at h; exact s b o h
  ·by_cases e : b = a
   ·subst e; exact .inr z
   ·rw [aq e] at h; exact .inl h
 | _ => exact ⟨F, b9.refl _, s, fun _ _ z => .inl z, h⟩
inductive Err where
 | stuck | exc (C : Addr) (fs : List (Str × Dat))
noncomputable abbrev M := Except Err
noncomputable abbrev ak := List (Option Dat)
structure gI where
 p : Err -> Hp -> Hp -> Prop
 mono : ∀ {e : Err} {F H F' H' : Hp}, p e F H -> Step F H F' H' -> p e F' H'
 ns : ∀ {F H : Hp}, p .stuck F H -> False
noncomputable def Wno : gI := ⟨fun _ _ _ => False, fun h _ => h, fun h => h⟩
noncomputable def aP (K : PySem.W.Frag) (W : gI) (own : Bool) (F H : Hp) (r : M Dat) (Q : VK) : Prop := match r with
 | .ok d => ∀ v F' H', Step F H F' H' -> Val K own F' H H' d v -> Q v H'
 | .error e => W.p e F H
theorem aP.step {K : PySem.W.Frag} {W : gI} {own : Bool} {F H F1 H1 : Hp} {r : M Dat} {Q : VK} (p : aP K W own F H r Q) (s : Step F H F1 H1) : aP K W own F1 H1 r Q := by
 cases r with
 | ok d => exact fun v F' H' t q => p v F' H' (s.trans t) (q.back s.hh)
 | error e => exact W.mono p s
theorem aP.frz {K : PySem.W.Frag} {W : gI} {F H : Hp} {r : M Dat} {Q : VK} (p : aP K W false F H r Q) : aP K W true F H r Q := by
 cases r with
 | ok d =>
  intro v F' H' t q
  obtain ⟨F2, s1, s2, n, z⟩ := CO.freeze t.fh q
  exact p v F2 H' ⟨t.ff.trans s1, t.hh, s2, fun b o h => (n b o h).elim (fun z => t.nw b o z) .inr⟩ z
 | error e => exact p
structure p9 (K : PySem.W.Frag) (F : Hp) (σ : St) (ρ : ak) : Prop where
 len : ρ.length = σ.length
 sl : ∀ (i : Nat) (d : Dat), ρ[i]? = some (some d) -> ∃ v, σ[i]? = some (some v) /\ cA K F d v
theorem p9.mono {K : PySem.W.Frag} {F F' : Hp} {σ : St} {ρ : ak} (r : p9 K F σ ρ) (s : b9 F F') : p9 K F' σ ρ :=
 ⟨r.len, fun i d e => let ⟨v, h, q⟩ := r.sl i d e; ⟨v, h, q.mono s⟩⟩
theorem p9.set {K : PySem.W.Frag} {F : Hp} {σ : St} {ρ : ak} {d : Dat} {v : V} (r : p9 K F σ ρ) (q : cA K F d v) (i : Nat) : p9 K F (σ.set i (some v)) (ρ.set i (some d)) :=
 ⟨by rw [List.length_set, List.length_set, r.len], fun j e h => by
  by_cases hij : i = j
  ·subst hij
   have hi : i < ρ.length := by
    have := (List.getElem?_eq_some_iff.mp h).1
    simpa using this
   rw [List.getElem?_set_self hi] at h
   cases h
   exact ⟨v, by rw [List.getElem?_set_self (by rw [<- r.len]; exact hi)], q⟩
  ·rw [List.getElem?_set_ne hij] at h
   obtain ⟨w, h1, h2⟩ := r.sl j e h
   exact ⟨w, by rw [List.getElem?_set_ne hij]; exact h1, h2⟩⟩
noncomputable def tD (K : PySem.W.Frag) (W : gI) (own : Bool) (f : ak -> M Dat) : TE := fun σ H Q => ∃ F ρ, p9 K F σ ρ /\ b9 F H /\ aP K W own F H (f ρ) Q
theorem cx {K : PySem.W.Frag} {W : gI} {own : Bool} {f : ak -> M Dat} {σ : St} {ρ : ak} {F H : Hp} {R : VK} (r : p9 K F σ ρ) (s : b9 F H) (hE : ∀ e, f ρ = .error e -> W.p e F H)
  (hO : ∀ d, f ρ = .ok d -> ∀ v F1 H1, Step F H F1 H1 -> Val K own F1 H H1 d v -> R v H1) : tD K W own f σ H R := by
 refine ⟨F, ρ, r, s, ?_⟩
 cases e : f ρ with
 | ok d => exact hO d e
 | error x => exact hE x e
noncomputable def tDT (K : PySem.W.Frag) (W : gI) (f : ak -> M Bool) : TT := fun σ H Q => ∃ F ρ, p9 K F σ ρ /\ b9 F H /\ (match f ρ with
 | .ok b => ∀ F' H', Step F H F' H' -> Q b H'
 | .error e => W.p e F H)
theorem md {K : PySem.W.Frag} {W : gI} {f : ak -> M Bool} {σ : St} {ρ : ak} {F H : Hp} {R : Bool -> Hp -> Prop} (r : p9 K F σ ρ) (s : b9 F H) (hE : ∀ e, f ρ = .error e -> W.p e F H)
  (hO : ∀ b, f ρ = .ok b -> ∀ F1 H1, Step F H F1 H1 -> R b H1) : tDT K W f σ H R := by
 refine ⟨F, ρ, r, s, ?_⟩
 cases e : f ρ with
 | ok d => exact hO d e
 | error x => exact hE x e
noncomputable def tDA (K : PySem.W.Frag) (W : gI) (f : ak -> M (List Dat)) : TA := fun σ H Q => ∃ F ρ, p9 K F σ ρ /\ b9 F H /\ (match f ρ with
 | .ok ds => ∀ vs F' H', Step F H F' H' -> aB K F' ds vs -> Q vs H'
 | .error e => W.p e F H)
theorem q9 {K : PySem.W.Frag} {W : gI} {f : ak -> M (List Dat)} {σ : St} {ρ : ak} {F H : Hp} {R : List V -> Hp -> Prop} (r : p9 K F σ ρ) (s : b9 F H) (hE : ∀ e, f ρ = .error e -> W.p e F H)
  (hO : ∀ ds, f ρ = .ok ds -> ∀ vs F1 H1, Step F H F1 H1 -> aB K F1 ds vs -> R vs H1) : tDA K W f σ H R := by
 refine ⟨F, ρ, r, s, ?_⟩
 cases e : f ρ with
 | ok d => exact hO d e
 | error x => exact hE x e
noncomputable def aj (i : Nat) : ak -> M Dat := fun ρ => match ρ[i]? with
 | some (some d) => .ok d
 | _ => .error .stuck
noncomputable def fC (d : Dat) : ak -> M Dat := fun _ => .ok d
noncomputable def f1 (g : Dat -> M Dat) (fa : ak -> M Dat) : ak -> M Dat := fun ρ => (fa ρ).bind g
noncomputable def f2 (g : Dat -> Dat -> M Dat) (fa fb : ak -> M Dat) : ak -> M Dat := fun ρ => (fa ρ).bind fun a => (fb ρ).bind fun b => g a b
noncomputable def aT : ak -> M (List Dat) := fun _ => .ok []
noncomputable def a9 (fa : ak -> M Dat) (fr : ak -> M (List Dat)) : ak -> M (List Dat) := fun ρ => (fa ρ).bind fun a => (fr ρ).bind fun r => .ok (a :: r)
noncomputable def fL (g : List Dat -> M Dat) (fr : ak -> M (List Dat)) : ak -> M Dat := fun ρ => (fr ρ).bind g
noncomputable def ir (ds : List Dat) : M Dat := if ds.length <= sizeLine then .ok (.tup ds) else .error .stuck
noncomputable def gB (ds : List Dat) : M Dat := if ds.length <= sizeLine then .ok (.lst ds) else .error .stuck
noncomputable def fIte (ft : ak -> M Bool) (fa fb : ak -> M Dat) : ak -> M Dat := fun ρ => (ft ρ).bind fun b => if b = true then fa ρ else fb ρ
noncomputable def fAnd (ft fu : ak -> M Bool) : ak -> M Bool := fun ρ => (ft ρ).bind fun b => if b = true then fu ρ else .ok false
noncomputable def fOr (ft fu : ak -> M Bool) : ak -> M Bool := fun ρ => (ft ρ).bind fun b => if b = true then .ok true else fu ρ
noncomputable def Az (ft : ak -> M Bool) : ak -> M Bool := fun ρ => (ft ρ).bind fun b => .ok (!b)
noncomputable def asB : Dat -> M Bool
 | .bl b => .ok b
 | _ => .error .stuck
noncomputable def fB (fa : ak -> M Dat) : ak -> M Bool := fun ρ => (fa ρ).bind asB
noncomputable def uv (fa fb : ak -> M Dat) : ak -> M Dat := fun ρ => (fa ρ).bind fun a => (asB a).bind fun b => if b = true then fb ρ else .ok (.bl false)
noncomputable def notD : Dat -> M Dat
 | .bl b => .ok (.bl (!b))
 | _ => .error .stuck
noncomputable def truD : Dat -> M Bool
 | .non => .ok false
 | .bl b => .ok b
 | .int i => .ok (i != 0)
 | .str x => if x.length <= sizeLine then .ok ((x.length : Int) != 0) else .error .stuck
 | .tup ds => .ok (!ds.isEmpty)
 | .lst ds => .ok (!ds.isEmpty)
 | _ => .error .stuck
noncomputable def ur (fa : ak -> M Dat) : ak -> M Bool := fun ρ => (fa ρ).bind truD
noncomputable def ki (g g' : Dat -> Dat -> M Dat) (fa fb fc : ak -> M Dat) : ak -> M Dat := fun ρ => (fa ρ).bind fun a => (fb ρ).bind fun b => (g a b).bind fun x => (asB x).bind fun k => if k = true then (fc ρ).bind fun c => g' b c else .ok (.bl false)
noncomputable def rD2 (K : PySem.W.Frag) (W : gI) (own : Bool) (g : Dat -> Dat -> M Dat) : R2 := fun x y H Q => ∃ F a b, b9 F H /\ cA K F a x /\ cA K F b y /\ aP K W own F H (g a b) Q
noncomputable def rD1 (K : PySem.W.Frag) (W : gI) (own : Bool) (g : Dat -> M Dat) : V -> Hp -> VK -> Prop := fun x H Q => ∃ F a, b9 F H /\ cA K F a x /\ aP K W own F H (g a) Q
noncomputable def rDL (K : PySem.W.Frag) (W : gI) (own : Bool) (g : List Dat -> M Dat) : List V -> Hp -> VK -> Prop := fun xs H Q => ∃ F ds, b9 F H /\ aB K F ds xs /\ aP K W own F H (g ds) Q
section
variable {K : PySem.W.Frag} {W : gI} {own : Bool} {σ : St} {H : Hp} {Q : VK} {fa fb fc : ak -> M Dat}
theorem rd_var {i : Nat} (h : tD K W false (aj i) σ H Q) : tVar i σ H Q := by
 obtain ⟨F, ρ, r, s, p⟩ := h
 unfold aj at p
 match e : ρ[i]? with
 | some (some d) =>
  rw [e] at p
  obtain ⟨v, e1, q⟩ := r.sl i d e
  exact ⟨v, e1, p v F H (Step.refl s) q⟩
 | some none => rw [e] at p; exact (W.ns p).elim
 | none => rw [e] at p; exact (W.ns p).elim
theorem rd_c {d : Dat} {v : V} (hd : ∀ F, cA K F d v) (h : tD K W false (fC d) σ H Q) : tC v σ H Q := by
 obtain ⟨F, ρ, r, s, p⟩ := h
 exact p v F H (Step.refl s) (hd F)
theorem aP.err {F : Hp} {x : M Dat} {e : Err} (p : aP K W own F H x Q) (h : x = .error e) : W.p e F H := by rw [h] at p; exact p
theorem rd_1 {g : Dat -> M Dat} (h : tD K W own (f1 g fa) σ H Q) : tUn (rD1 K W own g) (tD K W false fa) σ H Q := by
 obtain ⟨F, ρ, r, s, p⟩ := h
 refine cx r s (fun e he => p.err (by unfold f1; rw [he]; rfl)) fun a ha x F1 H1 s1 q1 => ?_
 refine ⟨F1, a, s1.fh, q1, ?_⟩
 have e : f1 g fa ρ = g a := by unfold f1; rw [ha]; rfl
 rw [e] at p
 exact p.step s1
theorem rd_2 {g : Dat -> Dat -> M Dat} (h : tD K W own (f2 g fa fb) σ H Q) : tOp (rD2 K W own g) (tD K W false fa) (tD K W false fb) σ H Q := by
 obtain ⟨F, ρ, r, s, p⟩ := h
 refine cx r s (fun e he => p.err (by unfold f2; rw [he]; rfl)) fun a ha x F1 H1 s1 q1 => ?_
 refine cx (r.mono s1.ff) s1.fh (fun e he => (p.step s1).err (by unfold f2; rw [ha]; show (fb ρ).bind _ = _; rw [he]; rfl)) fun b hb y F2 H2 s2 q2 => ?_
 refine ⟨F2, a, b, s2.fh, cA.mono s2.ff q1, q2, ?_⟩
 have e : f2 g fa fb ρ = g a b := by unfold f2; rw [ha]; show (fb ρ).bind _ = _; rw [hb]; rfl
 rw [e] at p
 exact p.step (s1.trans s2)
theorem rd_nil {R : List V -> Hp -> Prop} (h : tDA K W aT σ H R) : AL σ H R := by
 obtain ⟨F, ρ, r, s, p⟩ := h
 exact p [] F H (Step.refl s) rfl
theorem rd_cons {fr : ak -> M (List Dat)} {R : List V -> Hp -> Prop} (h : tDA K W (a9 fa fr) σ H R) : ip (tD K W false fa) (tDA K W fr) σ H R := by
 obtain ⟨F, ρ, r, s, p⟩ := h
 refine cx r s (fun e he => ?_) fun a ha x F1 H1 s1 q1 => q9 (r.mono s1.ff) s1.fh (fun e he => ?_) fun ds hd xs F2 H2 s2 q2 => ?_
 ·have z : a9 fa fr ρ = .error e := by unfold a9; rw [he]; rfl
  rw [z] at p
  exact p
 ·have z : a9 fa fr ρ = .error e := by unfold a9; rw [ha]; show (fr ρ).bind _ = _; rw [he]; rfl
  rw [z] at p
  exact W.mono p s1
 ·have z : a9 fa fr ρ = .ok (a :: ds) := by unfold a9; rw [ha]; show (fr ρ).bind _ = _; rw [hd]; rfl
  rw [z] at p
  exact p (x :: xs) F2 H2 (s1.trans s2) ⟨x, xs, rfl, cA.mono s2.ff q1, q2⟩
theorem rd_L {g : List Dat -> M Dat} {fr : ak -> M (List Dat)} (h : tD K W own (fL g fr) σ H Q) : tDA K W fr σ H fun xs H1 => rDL K W own g xs H1 Q := by
 obtain ⟨F, ρ, r, s, p⟩ := h
 refine q9 r s (fun e he => p.err (by unfold fL; rw [he]; rfl)) fun ds hd xs F1 H1 s1 q1 => ⟨F1, ds, s1.fh, q1, ?_⟩
 have e : fL g fr ρ = g ds := by unfold fL; rw [hd]; rfl
 rw [e] at p
 exact p.step s1
theorem rd_tup {fr : ak -> M (List Dat)} (h : tD K W own (fL ir fr) σ H Q) : tTup (tDA K W fr) σ H Q := by
 obtain ⟨F, ρ, r, s, p⟩ := rd_L h
 refine ⟨F, ρ, r, s, ?_⟩
 cases e : fr ρ with
 | error x => rw [e] at p; exact p
 | ok ds =>
  rw [e] at p
  intro vs F' H' t q
  obtain ⟨F1, es, s1, q1, z⟩ := p vs F' H' t q
  unfold ir at z
  by_cases hl : es.length <= sizeLine
  ·rw [if_pos hl] at z
   refine ⟨by rw [q1.length]; exact hl, fun a ha => z (.ref a) _ _ (Step.lay s1 ha) ?_⟩
   have : cA K (upd F1 a (.tup vs)) (.tup es) (.ref a) := ⟨a, vs, rfl, SqT.of ar, q1.mono (b9.upd (s1.free ha))⟩
   cases own with
   | true => exact this
   | false => exact this
  ·rw [if_neg hl] at z
   exact (W.ns z).elim
theorem rd_lst {fr : ak -> M (List Dat)} (h : tD K W true (fL gB fr) σ H Q) : tLst (tDA K W fr) σ H Q := by
 obtain ⟨F, ρ, r, s, p⟩ := rd_L h
 refine ⟨F, ρ, r, s, ?_⟩
 cases e : fr ρ with
 | error x => rw [e] at p; exact p
 | ok ds =>
  rw [e] at p
  intro vs F' H' t q
  obtain ⟨F1, es, s1, q1, z⟩ := p vs F' H' t q
  unfold gB at z
  by_cases hl : es.length <= sizeLine
  ·rw [if_pos hl] at z
   exact ⟨by rw [q1.length]; exact hl, fun a ha => z (.ref a) F1 _ (Step.grow s1 ha) ⟨a, vs, rfl, ar, s1.free ha, ha, q1⟩⟩
  ·rw [if_neg hl] at z
   exact (W.ns z).elim
theorem rd_ite {ft : ak -> M Bool} (h : tD K W own (fIte ft fa fb) σ H Q) : tIf (tDT K W ft) (tD K W own fa) (tD K W own fb) σ H Q := by
 obtain ⟨F, ρ, r, s, p⟩ := h
 refine md r s (fun e he => p.err (by unfold fIte; rw [he]; rfl)) fun b hb F1 H1 s1 => ?_
 have e : fIte ft fa fb ρ = if b = true then fa ρ else fb ρ := by unfold fIte; rw [hb]; rfl
 rw [e] at p
 cases b with
 | true => exact ⟨F1, ρ, r.mono s1.ff, s1.fh, p.step s1⟩
 | false => exact ⟨F1, ρ, r.mono s1.ff, s1.fh, p.step s1⟩
theorem zy {f : ak -> M Bool} {F F1 H1 : Hp} {ρ : ak} {R : Bool -> Hp -> Prop} (r : p9 K F σ ρ) (s1 : Step F H F1 H1) (p : match f ρ with
 | .ok b => ∀ F' H', Step F H F' H' -> R b H'
 | .error e => W.p e F H) : tDT K W f σ H1 R := by
 refine ⟨F1, ρ, r.mono s1.ff, s1.fh, ?_⟩
 cases e : f ρ with
 | ok b => rw [e] at p; exact fun F' H' t => p F' H' (s1.trans t)
 | error x => rw [e] at p; exact W.mono p s1
theorem rd_and {ft fu : ak -> M Bool} {R : Bool -> Hp -> Prop} (h : tDT K W (fAnd ft fu) σ H R) : tAnd (tDT K W ft) (tDT K W fu) σ H R := by
 obtain ⟨F, ρ, r, s, p⟩ := h
 refine md r s (fun e he => ?_) fun b hb F1 H1 s1 => ?_
 ·have z : fAnd ft fu ρ = .error e := by unfold fAnd; rw [he]; rfl
  rw [z] at p; exact p
 ·have z : fAnd ft fu ρ = if b = true then fu ρ else .ok false := by unfold fAnd; rw [hb]; rfl
  rw [z] at p
  cases b with
  | true => exact zy r s1 p
  | false => exact p F1 H1 s1
theorem rd_or {ft fu : ak -> M Bool} {R : Bool -> Hp -> Prop} (h : tDT K W (fOr ft fu) σ H R) : tOr (tDT K W ft) (tDT K W fu) σ H R := by
 obtain ⟨F, ρ, r, s, p⟩ := h
 refine md r s (fun e he => ?_) fun b hb F1 H1 s1 => ?_
 ·have z : fOr ft fu ρ = .error e := by unfold fOr; rw [he]; rfl
  rw [z] at p; exact p
 ·have z : fOr ft fu ρ = if b = true then .ok true else fu ρ := by unfold fOr; rw [hb]; rfl
  rw [z] at p
  cases b with
  | false => exact zy r s1 p
  | true => exact p F1 H1 s1
theorem rd_not {ft : ak -> M Bool} {R : Bool -> Hp -> Prop} (h : tDT K W (Az ft) σ H R) : tNot (tDT K W ft) σ H R := by
 obtain ⟨F, ρ, r, s, p⟩ := h
 refine md r s (fun e he => ?_) fun b hb F1 H1 s1 => ?_
 ·have z : Az ft ρ = .error e := by unfold Az; rw [he]; rfl
  rw [z] at p; exact p
 ·have z : Az ft ρ = .ok (!b) := by unfold Az; rw [hb]; rfl
  rw [z] at p; exact p F1 H1 s1
theorem rd_B {R : Bool -> Hp -> Prop} (h : tDT K W (fB fa) σ H R) : AZ (tD K W false fa) σ H R := by
 obtain ⟨F, ρ, r, s, p⟩ := h
 refine cx r s (fun e he => ?_) fun a ha x F1 H1 s1 q1 => ?_
 ·have z : fB fa ρ = .error e := by unfold fB; rw [he]; rfl
  rw [z] at p; exact p
 ·have z : fB fa ρ = asB a := by unfold fB; rw [ha]; rfl
  rw [z] at p
  cases a with
  | bl b => exact ⟨b, q1, p F1 H1 s1⟩
  | _ => exact (W.ns p).elim
theorem tru_of {F H1 : Hp} {a : Dat} {x : V} {b : Bool} (s : b9 F H1) (q : cA K F a x) (h : truD a = .ok b) : TruV K x H1 b := by
 cases a with
 | non => rw [show x = .non from q]; exact (Except.ok.inj h).symm
 | bl c => rw [show x = .bl c from q]; exact (Except.ok.inj h).symm
 | int i => rw [show x = .int i from q]; exact (Except.ok.inj h).symm
 | str y =>
  rw [show x = .str y from q]
  have h' : (if y.length <= sizeLine then Except.ok ((y.length : Int) != 0) else Except.error Err.stuck) = Except.ok b := h
  by_cases hy : y.length <= sizeLine
  ·rw [if_pos hy] at h'
   exact ⟨hy, (Except.ok.inj h').symm⟩
  ·rw [if_neg hy] at h'
   cases h'
 | tup ds =>
  obtain ⟨p, xs, e, t, r⟩ := q
  subst e
  refine .inr (.inl ⟨xs, s.tup t, ?_⟩)
  rw [<- Except.ok.inj h]
  cases ds with
  | nil => rw [show xs = [] from r]; rfl
  | cons d ds => obtain ⟨v, vs, e, _⟩ := r; rw [e]; rfl
 | lst ds =>
  obtain ⟨p, xs, e, t, r⟩ := q
  subst e
  refine .inl ⟨xs, s.lst t, ?_⟩
  rw [<- Except.ok.inj h]
  cases ds with
  | nil => rw [show xs = [] from r]; rfl
  | cons d ds => obtain ⟨v, vs, e, _⟩ := r; rw [e]; rfl
 | ins C fs => cases h
theorem rd_tru {R : Bool -> Hp -> Prop} (h : tDT K W (ur fa) σ H R) : tD K W false fa σ H fun x H1 => ∃ k, TruV K x H1 k /\ R k H1 := by
 obtain ⟨F, ρ, r, s, p⟩ := h
 refine cx r s (fun e he => ?_) fun a ha x F1 H1 s1 q1 => ?_
 ·have z : ur fa ρ = .error e := by unfold ur; rw [he]; rfl
  rw [z] at p; exact p
 ·have z : ur fa ρ = truD a := by unfold ur; rw [ha]; rfl
  rw [z] at p
  cases e : truD a with
  | ok b => rw [e] at p; exact ⟨b, tru_of s1.fh q1 e, p F1 H1 s1⟩
  | error x =>
   rw [e] at p
   have : x = .stuck := by
    cases a with
    | str y =>
     have e' : (if y.length <= sizeLine then Except.ok ((y.length : Int) != 0) else Except.error Err.stuck) = Except.error x := e
     by_cases hy : y.length <= sizeLine
     ·rw [if_pos hy] at e'
      cases e'
     ·rw [if_neg hy] at e'
      cases e'
      rfl
    | ins C fs => cases e; rfl
    | _ => cases e
   subst this
   exact (W.ns p).elim
theorem rd_andV (h : tD K W false (uv fa fb) σ H Q) : tAndV (tD K W false fa) (tD K W false fb) σ H Q := by
 obtain ⟨F, ρ, r, s, p⟩ := h
 refine cx r s (fun e he => p.err (by unfold uv; rw [he]; rfl)) fun a ha x F1 H1 s1 q1 => ?_
 have z : uv fa fb ρ = (asB a).bind fun b => if b = true then fb ρ else .ok (.bl false) := by unfold uv; rw [ha]; rfl
 rw [z] at p
 cases a with
 | bl b =>
  refine ⟨b, q1, ?_⟩
  cases b with
  | true => exact ⟨F1, ρ, r.mono s1.ff, s1.fh, aP.step (own := false) (r := fb ρ) p s1⟩
  | false => exact p (.bl false) F1 H1 s1 rfl
 | _ => exact (W.ns p).elim
theorem rd_notV (h : tD K W false (f1 notD fa) σ H Q) : tNotV (tD K W false fa) σ H Q := by
 obtain ⟨F, ρ, r, s, p⟩ := h
 refine cx r s (fun e he => p.err (by unfold f1; rw [he]; rfl)) fun a ha x F1 H1 s1 q1 => ?_
 have z : f1 notD fa ρ = notD a := by unfold f1; rw [ha]; rfl
 rw [z] at p
 cases a with
 | bl b => exact ⟨b, q1, p (.bl (!b)) F1 H1 s1 rfl⟩
 | _ => exact (W.ns p).elim
theorem zF {g g' : Dat -> Dat -> M Dat} (h : tD K W false (ki g g' fa fb fc) σ H Q) : B4 (rD2 K W false g) (rD2 K W false g') (tD K W false fa) (tD K W false fb) (tD K W false fc) σ H Q := by
 obtain ⟨F, ρ, r, s, p⟩ := h
 refine cx r s (fun e he => p.err (by unfold ki; rw [he]; rfl)) fun a ha x F1 H1 s1 q1 => ?_
 refine cx (r.mono s1.ff) s1.fh (fun e he => (p.step s1).err (by unfold ki; rw [ha]; show (fb ρ).bind _ = _; rw [he]; rfl)) fun b hb y F2 H2 s2 q2 => ?_
 have z : ki g g' fa fb fc ρ = (g a b).bind fun x => (asB x).bind fun k => if k = true then (fc ρ).bind fun c => g' b c else .ok (.bl false) := by unfold ki; rw [ha]; show (fb ρ).bind _ = _; rw [hb]; rfl
 rw [z] at p
 refine ⟨F2, a, b, s2.fh, cA.mono s2.ff q1, q2, ?_⟩
 have p2 := p.step (s1.trans s2)
 cases e : g a b with
 | error x => rw [e] at p2; exact p2
 | ok d =>
  rw [e] at p2
  intro v F3 H3 s3 q3
  have p3 : aP K W false F3 H3 ((asB d).bind fun k => if k = true then (fc ρ).bind fun c => g' b c else .ok (.bl false)) Q := aP.step p2 s3
  cases d with
  | bl k =>
   refine ⟨k, q3, ?_⟩
   cases k with
   | false => exact p3 (.bl false) F3 H3 (Step.refl s3.fh) rfl
   | true =>
    have p4 : aP K W false F3 H3 ((fc ρ).bind fun c => g' b c) Q := p3
    refine cx (r.mono (s1.trans (s2.trans s3)).ff) s3.fh (fun e he => p4.err (by rw [he]; rfl)) fun c hc w F4 H4 s4 q4 => ⟨F4, b, c, s4.fh, cA.mono (s3.trans s4).ff q2, q4, ?_⟩
    rw [hc] at p4
    exact p4.step s4
  | _ => exact (W.ns p3).elim
end
inductive Pat where
 | nm (i : Nat) | tp (is : List Nat)
noncomputable def kD : List Nat -> List Dat -> ak -> ak
 | i :: is, d :: ds, ρ => kD is ds (ρ.set i (some d))
 | _, _, ρ => ρ
noncomputable def gy : Pat -> Dat -> ak -> M ak
 | .nm i, d, ρ => .ok (ρ.set i (some d))
 | .tp is, .tup ds, ρ => if ds.length = is.length then .ok (kD is ds ρ) else .error .stuck
 | .tp _, _, _ => .error .stuck
noncomputable def iB : List Nat -> TGs
 | [] => gNil
 | i :: is => gCons (oO i) (iB is)
noncomputable def gP (K : PySem.W.Frag) : Pat -> TG
 | .nm i => oO i
 | .tp is => gTup K is.length (iB is)
theorem sv {K : PySem.W.Frag} {F H : Hp} {R : St -> Hp -> Prop} : ∀ {is : List Nat} {ds : List Dat} {vs : List V} {σ : St} {ρ : ak}, p9 K F σ ρ -> aB K F ds vs -> ds.length = is.length -> (∀ σ', p9 K F σ' (kD is ds ρ) -> R σ' H) -> iB is vs σ H R
 | [], [], _, σ, ρ, r, q, _, h => ⟨q, h σ r⟩
 | [], _ :: _, _, _, _, _, _, e, _ => by simp at e
 | _ :: _, [], _, _, _, _, _, e, _ => by simp at e
 | i :: is, d :: ds, _, σ, ρ, r, ⟨v, vs, e, q, t⟩, l, h => ⟨v, vs, e, sv (r.set q i) t (by simpa using l) h⟩
theorem gP_run {K : PySem.W.Frag} {F H : Hp} {R : St -> Hp -> Prop} {p : Pat} {d : Dat} {v : V} {σ : St} {ρ ρ' : ak} (r : p9 K F σ ρ) (s : b9 F H) (q : cA K F d v) (e : gy p d ρ = .ok ρ') (h : ∀ σ', p9 K F σ' ρ' -> R σ' H) : gP K p v σ H R := by
 cases p with
 | nm i =>
  have := Except.ok.inj e
  subst this
  exact h _ (r.set q i)
 | tp is =>
  cases d with
  | tup ds =>
   have e' : (if ds.length = is.length then Except.ok (kD is ds ρ) else Except.error Err.stuck) = Except.ok ρ' := e
   by_cases hl : ds.length = is.length
   ·rw [if_pos hl] at e'
    have := Except.ok.inj e'
    subst this
    obtain ⟨a, xs, ev, t, z⟩ := q
    exact ⟨a, xs, ev, s.tup t, by rw [z.length, hl], sv r z hl h⟩
   ·rw [if_neg hl] at e'
    cases e'
  | _ => cases e
theorem nW {p : Pat} {d : Dat} {ρ : ak} {e : Err} (h : gy p d ρ = .error e) : e = .stuck := by
 cases p with
 | nm i => cases h
 | tp is =>
  cases d with
  | tup ds =>
   have e' : (if ds.length = is.length then Except.ok (kD is ds ρ) else Except.error Err.stuck) = Except.error e := h
   by_cases hl : ds.length = is.length
   ·rw [if_pos hl] at e'; cases e'
   ·rw [if_neg hl] at e'; cases e'; rfl
  | _ => cases h; rfl
structure AK (K : PySem.W.Frag) (F1 : Hp) (J : It) (ds : List Dat) : Prop where
 go : ∀ (i : Nat) (F H : Hp), b9 F1 F -> b9 F H -> i < ds.length -> J.go i H
 yl : ∀ (i : Nat) (F H : Hp) (x : V) (H' : Hp) (d : Dat), b9 F1 F -> b9 F H -> ds[i]? = some d -> J.yld i H x H' -> ∃ F', Step F H F' H' /\ cA K F' d x
 st : ∀ (F H : Hp), b9 F1 F -> b9 F H -> J.stop ds.length H
noncomputable def iD (K : PySem.W.Frag) (W : gI) (f : ak -> M (List Dat)) : TI := fun σ H R => ∃ F ρ, p9 K F σ ρ /\ b9 F H /\ (match f ρ with
 | .ok ds => ∀ J F1 H1, Step F H F1 H1 -> AK K F1 J ds -> R J H1
 | .error e => W.p e F H)
noncomputable def zP : Dat -> M (List Dat)
 | .lst ds => .ok ds
 | .tup ds => .ok ds
 | _ => .error .stuck
noncomputable def fIt (fa : ak -> M Dat) : ak -> M (List Dat) := fun ρ => (fa ρ).bind zP
noncomputable def iSeq (K : PySem.W.Frag) (tl : TE) : TI := fun σ H R => tl σ H fun x H1 => ∃ a, x = .ref a /\ ((∃ xs, SqL K H1 a xs) /\ R (Itl K a) H1 \/ (∃ xs, SqT K H1 a xs) /\ R (Itt K a) H1)
theorem BM {K : PySem.W.Frag} {F : Hp} {a : Addr} {xs : List V} {ds : List Dat} (t : SqL K F a xs) (z : aB K F ds xs) : AK K F (Itl K a) ds where
 go := fun i F' H' s1 s2 hi => ⟨xs, xs[i]'(by rw [z.length]; exact hi), s2.lst (s1.lst t), by simp [z.length, hi]⟩
 yl := fun i F' H' x H2 d s1 s2 hd hy => by
  obtain ⟨e, hy⟩ := hy
  subst e
  obtain ⟨v, e1, q⟩ := z.get hd
  have e2 := hy xs (s2.lst (s1.lst t))
  rw [e1] at e2
  cases e2
  exact ⟨F', Step.refl s2, q.mono s1⟩
 st := fun F' H' s1 s2 => ⟨xs, s2.lst (s1.lst t), by rw [z.length]; exact Nat.le_refl _⟩
theorem iter_tup {K : PySem.W.Frag} {F : Hp} {a : Addr} {xs : List V} {ds : List Dat} (t : SqT K F a xs) (z : aB K F ds xs) : AK K F (Itt K a) ds where
 go := fun i F' H' s1 s2 hi => ⟨xs, xs[i]'(by rw [z.length]; exact hi), s2.tup (s1.tup t), by simp [z.length, hi]⟩
 yl := fun i F' H' x H2 d s1 s2 hd hy => by
  obtain ⟨e, hy⟩ := hy
  subst e
  obtain ⟨v, e1, q⟩ := z.get hd
  have e2 := hy xs (s2.tup (s1.tup t))
  rw [e1] at e2
  cases e2
  exact ⟨F', Step.refl s2, q.mono s1⟩
 st := fun F' H' s1 s2 => ⟨xs, s2.tup (s1.tup t), by rw [z.length]; exact Nat.le_refl _⟩
noncomputable def cF (lo : Int) (n : Nat) : List Dat := (List.range n).map fun k : Nat => Dat.int (lo + k)
theorem Aq {K : PySem.W.Frag} {F : Hp} {lo : Int} {n : Nat} : AK K F (Itr lo n) (cF lo n) where
 go := fun i F' H' s1 s2 hi => by show i < n; simpa [cF] using hi
 yl := fun i F' H' x H2 d s1 s2 hd hy => by
  obtain ⟨e, hy⟩ := hy
  subst e hy
  unfold cF at hd
  rw [List.getElem?_map] at hd
  have hi : i < n := by
   have := (List.getElem?_eq_some_iff.mp (show ((List.range n).map fun k : Nat => Dat.int (lo + k))[i]? = some d by rw [List.getElem?_map]; exact hd)).1
   simpa using this
  rw [List.getElem?_range hi] at hd
  cases hd
  exact ⟨F', Step.refl s2, rfl⟩
 st := fun F' H' s1 s2 => by show n <= _; simp [cF]
noncomputable def mi (i : Int) : Bool := decide (-(2 ^ 62) <= i) && decide (i < 2 ^ 62)
noncomputable def zE : List Dat -> M (List Dat)
 | [.int j] => if mi j = true then .ok (cF 0 j.toNat) else .error .stuck
 | _ => .error .stuck
noncomputable def yE (g : List Dat -> M (List Dat)) (fr : ak -> M (List Dat)) : ak -> M (List Dat) := fun ρ => (fr ρ).bind g
section
variable {K : PySem.W.Frag} {W : gI} {own : Bool} {σ : St} {H : Hp} {Q : VK} {fa fb fc : ak -> M Dat}
theorem ri_seq {R : It -> Hp -> Prop} (h : iD K W (fIt fa) σ H R) : iSeq K (tD K W false fa) σ H R := by
 obtain ⟨F, ρ, r, s, p⟩ := h
 refine cx r s (fun e he => ?_) fun a ha x F1 H1 s1 q1 => ?_
 ·have z : fIt fa ρ = .error e := by unfold fIt; rw [he]; rfl
  rw [z] at p; exact p
 ·have z : fIt fa ρ = zP a := by unfold fIt; rw [ha]; rfl
  rw [z] at p
  cases a with
  | lst ds =>
   obtain ⟨b, xs, e, t, z⟩ := q1
   exact ⟨b, e, .inl ⟨⟨xs, s1.fh.lst t⟩, p _ F1 H1 s1 (BM t z)⟩⟩
  | tup ds =>
   obtain ⟨b, xs, e, t, z⟩ := q1
   exact ⟨b, e, .inr ⟨⟨xs, s1.fh.tup t⟩, p _ F1 H1 s1 (iter_tup t z)⟩⟩
  | _ => exact (W.ns p).elim
theorem ri_rng1 {fr : ak -> M (List Dat)} {R : It -> Hp -> Prop} (h : iD K W (yE zE fr) σ H R) : iRng1 (tDA K W fr) σ H R := by
 obtain ⟨F, ρ, r, s, p⟩ := h
 refine q9 r s (fun e he => ?_) fun ds hd xs F1 H1 s1 q1 => ?_
 ·have z : yE zE fr ρ = .error e := by unfold yE; rw [he]; rfl
  rw [z] at p; exact p
 ·have z : yE zE fr ρ = zE ds := by unfold yE; rw [hd]; rfl
  rw [z] at p
  match ds, q1, p with
  | [.int j], ⟨v, vs, e, q, t⟩, p =>
   have p' : match (if mi j = true then Except.ok (cF 0 j.toNat) else Except.error Err.stuck : M (List Dat)) with
    | .ok ds => ∀ J F1 H1, Step F H F1 H1 -> AK K F1 J ds -> R J H1
    | .error e => W.p e F H := p
   by_cases hj : mi j = true
   ·rw [if_pos hj] at p'
    unfold mi at hj
    simp only [Bool.and_eq_true, decide_eq_true_eq] at hj
    exact ⟨j, by rw [e, show v = .int j from q, show vs = [] from t], hj.1, hj.2, p' _ F1 H1 s1 Aq⟩
   ·rw [if_neg hj] at p'
    exact (W.ns p').elim
  | [], _, p => exact (W.ns p).elim
  | .non :: _, _, p => exact (W.ns p).elim
  | .bl _ :: _, _, p => exact (W.ns p).elim
  | .str _ :: _, _, p => exact (W.ns p).elim
  | .tup _ :: _, _, p => exact (W.ns p).elim
  | .lst _ :: _, _, p => exact (W.ns p).elim
  | .ins _ _ :: _, _, p => exact (W.ns p).elim
  | .int _ :: _ :: _, _, p => exact (W.ns p).elim
noncomputable def lZ (ix : List (Option Nat)) (ρ : ak) : ak := ix.map fun o => match o with
 | none => none
 | some j => (ρ[j]?).join
noncomputable def cz (p : Pat) (ft : ak -> M Bool) (fe : ak -> M Dat) (ρ0 : ak) : List Dat -> M (List Dat)
 | [] => .ok []
 | d :: ds => (gy p d ρ0).bind fun ρ => (ft ρ).bind fun b => if b = true then (fe ρ).bind fun y => (cz p ft fe ρ0 ds).bind fun r => .ok (y :: r) else cz p ft fe ρ0 ds
noncomputable def mS (fi : ak -> M (List Dat)) (ix : List (Option Nat)) (p : Pat) (ft : ak -> M Bool) (fe : ak -> M Dat) : ak -> M Dat := fun ρ => (fi ρ).bind fun ds => if ds.length <= sizeLine then (cz p ft fe (lZ ix ρ) ds).bind fun r => .ok (.lst r) else .error .stuck
noncomputable def vc : ak -> M Bool := fun _ => .ok true
theorem p9.inS {F : Hp} {ρ : ak} (r : p9 K F σ ρ) (ix : List (Option Nat)) : p9 K F (L2.inS ix σ) (lZ ix ρ) :=
 ⟨by simp [L2.inS, lZ], fun i d e => by
  unfold lZ at e
  unfold L2.inS
  rw [List.getElem?_map] at e ⊢
  cases h : ix[i]? with
  | none => rw [h] at e; cases e
  | some o =>
   rw [h] at e
   cases o with
   | none => cases e
   | some j =>
    simp only [Option.map_some, Option.some.injEq] at e ⊢
    have e1 : ρ[j]? = some (some d) := by
     cases z : ρ[j]? with
     | none => rw [z] at e; cases e
     | some w => rw [z] at e; simp at e; rw [e]
    obtain ⟨v, h1, h2⟩ := r.sl j d e1
    exact ⟨v, by rw [h1]; rfl, h2⟩⟩
theorem rd_comp {fi : ak -> M (List Dat)} {ix : List (Option Nat)} {p : Pat} {ft : ak -> M Bool} {fe : ak -> M Dat} (h : tD K W true (mS fi ix p ft fe) σ H Q) :
  tComp (iD K W fi) ix (gP K p) (tDT K W ft) (tD K W false fe) σ H Q := by
 obtain ⟨F, ρ, r, s, q⟩ := h
 refine ⟨F, ρ, r, s, ?_⟩
 cases hf : fi ρ with
 | error e => exact q.err (by unfold mS; rw [hf]; rfl)
 | ok ds =>
  intro J F1 H1 s1 it
  have e0 : mS fi ix p ft fe ρ = if ds.length <= sizeLine then (cz p ft fe (lZ ix ρ) ds).bind fun r => .ok (.lst r) else .error .stuck := by unfold mS; rw [hf]; rfl
  rw [e0] at q
  by_cases hl : ds.length <= sizeLine
  ·rw [if_pos hl] at q
   refine ⟨fun i m ys H2 => m = ds.length - i /\ i <= ds.length /\ ∃ F2 yd, Step F1 H1 F2 H2 /\ aB K F2 yd ys /\ yd.length <= i /\
    (match cz p ft fe (lZ ix ρ) (ds.drop i) with
     | .ok rr => cz p ft fe (lZ ix ρ) ds = .ok (yd ++ rr)
     | .error e => W.p e F H), ⟨ds.length, by omega, Nat.zero_le _, F1, [], Step.refl s1.fh, rfl, Nat.zero_le _, ?_⟩, ?_⟩
   ·rw [List.drop_zero]
    cases e : cz p ft fe (lZ ix ρ) ds with
    | ok rr => rfl
    | error x => exact q.err (by rw [e]; rfl)
   ·rintro i m ys H2 ⟨rfl, hi, F2, yd, s2, dy, ly, hc⟩
    have lys : ys.length <= sizeLine := by rw [dy.length]; omega
    by_cases hlt : i < ds.length
    ·have ed : ds.drop i = ds[i] :: ds.drop (i + 1) := List.drop_eq_getElem_cons hlt
     rw [ed] at hc
     refine .inr ⟨it.go i F2 H2 s2.ff s2.fh hlt, lys, fun ys' H' => (i + 1 <= ds.length /\ ∃ F2 yd, Step F1 H1 F2 H' /\ aB K F2 yd ys' /\ yd.length <= i + 1 /\
      (match cz p ft fe (lZ ix ρ) (ds.drop (i + 1)) with
       | .ok rr => cz p ft fe (lZ ix ρ) ds = .ok (yd ++ rr)
       | .error e => W.p e F H)), fun ys' H' n => ⟨ds.length - (i + 1), by omega, rfl, n⟩, fun x H' y => ?_⟩
     obtain ⟨F3, s3, q3⟩ := it.yl i F2 H2 x H' ds[i] s2.ff s2.fh (by simp [hlt]) y
     have r3 : p9 K F3 (L2.inS ix σ) (lZ ix ρ) := (r.mono (s1.trans (s2.trans s3)).ff).inS ix
     have st3 : Step F H F3 H' := s1.trans (s2.trans s3)
     have ec : cz p ft fe (lZ ix ρ) (ds[i] :: ds.drop (i + 1)) = (gy p ds[i] (lZ ix ρ)).bind fun ρ1 => (ft ρ1).bind fun b => if b = true then (fe ρ1).bind fun y => (cz p ft fe (lZ ix ρ) (ds.drop (i + 1))).bind fun r => .ok (y :: r) else cz p ft fe (lZ ix ρ) (ds.drop (i + 1)) := by rw [cz]
     rw [ec] at hc
     cases hb : gy p ds[i] (lZ ix ρ) with
     | error e =>
      rw [hb] at hc
      have := nW hb
      subst this
      exact (W.ns hc).elim
     | ok ρ1 =>
      rw [hb] at hc
      refine gP_run r3 s3.fh q3 hb fun σ2 r4 => ?_
      have hc1 : match ((ft ρ1).bind fun b => if b = true then (fe ρ1).bind fun y => (cz p ft fe (lZ ix ρ) (ds.drop (i + 1))).bind fun r => .ok (y :: r) else cz p ft fe (lZ ix ρ) (ds.drop (i + 1))) with
       | .ok rr => cz p ft fe (lZ ix ρ) ds = .ok (yd ++ rr)
       | .error e => W.p e F H := hc
      refine md r4 s3.fh (fun e he => by rw [he] at hc1; exact W.mono hc1 st3) fun b hb2 F5 H5 s5 => ?_
      rw [hb2] at hc1
      cases b with
      | false =>
       have hc2 : match cz p ft fe (lZ ix ρ) (ds.drop (i + 1)) with
        | .ok rr => cz p ft fe (lZ ix ρ) ds = .ok (yd ++ rr)
        | .error e => W.p e F H := hc1
       exact ⟨hlt, F5, yd, s2.trans (s3.trans s5), dy.mono (s3.trans s5).ff, by omega, hc2⟩
      | true =>
       have hc2 : match ((fe ρ1).bind fun y => (cz p ft fe (lZ ix ρ) (ds.drop (i + 1))).bind fun r => .ok (y :: r)) with
        | .ok rr => cz p ft fe (lZ ix ρ) ds = .ok (yd ++ rr)
        | .error e => W.p e F H := hc1
       refine cx (r4.mono s5.ff) s5.fh (fun e he => by rw [he] at hc2; exact W.mono hc2 (st3.trans s5)) fun d hd v F6 H6 s6 q6 => ?_
       rw [hd] at hc2
       refine ⟨hlt, F6, yd ++ [d], s2.trans (s3.trans (s5.trans s6)), aB.append (dy.mono (s3.trans (s5.trans s6)).ff) ⟨v, [], rfl, q6, rfl⟩, by simp; omega, ?_⟩
       have hc3 : match ((cz p ft fe (lZ ix ρ) (ds.drop (i + 1))).bind fun r => .ok (d :: r) : M (List Dat)) with
        | .ok rr => cz p ft fe (lZ ix ρ) ds = .ok (yd ++ rr)
        | .error e => W.p e F H := hc2
       cases e7 : cz p ft fe (lZ ix ρ) (ds.drop (i + 1)) with
       | ok rr =>
        rw [e7] at hc3
        show _ = Except.ok ((yd ++ [d]) ++ rr)
        rw [List.append_assoc]
        exact hc3
       | error x => rw [e7] at hc3; exact hc3
    ·have : i = ds.length := by omega
     subst this
     rw [List.drop_length] at hc
     have hc' : cz p ft fe (lZ ix ρ) ds = .ok (yd ++ []) := hc
     rw [List.append_nil] at hc'
     rw [hc'] at q
     refine .inl ⟨it.st F2 H2 s2.ff s2.fh, lys, fun a ha => ?_⟩
     have st : Step F H F2 H2 := s1.trans s2
     exact q (.ref a) F2 _ (st.trans (Step.grow s2.fh ha)) ⟨a, ys, rfl, ar, s2.fh.free ha, st.hh.free ha, dy⟩
  ·rw [if_neg hl] at q
   exact (W.ns q).elim
end
inductive Flo where
 | nx (ρ : ak) | rt (d : Dat) | bk (ρ : ak) | ct (ρ : ak)
structure Rep (K : PySem.W.Frag) (F0 H0 FB : Hp) (O : List Nat) (F H : Hp) (σ : St) (ρ : ak) : Prop where
 st : Step F0 H0 F H
 fb : b9 FB F
 len : ρ.length = σ.length
 fz : ∀ (i : Nat) (d : Dat), ρ[i]? = some (some d) -> i ∉ O -> ∃ v, σ[i]? = some (some v) /\ cA K F d v
 ow : ∀ (i : Nat) (d : Dat), ρ[i]? = some (some d) -> i ∈ O -> ∃ v, σ[i]? = some (some v) /\ CO K F H0 H d v
 ap : ∀ (i j : Nat) (ds es : List Dat) (a : Addr), i ∈ O -> j ∈ O -> ρ[i]? = some (some (.lst ds)) -> ρ[j]? = some (some (.lst es)) -> σ[i]? = some (some (.ref a)) -> σ[j]? = some (some (.ref a)) -> i = j
noncomputable def o8 (O O2 : List Nat) (σ : St) (ρ : ak) (b : Addr) : Prop := ∃ (i : Nat) (ds : List Dat), i ∈ O /\ i ∉ O2 /\ ρ[i]? = some (some (.lst ds)) /\ σ[i]? = some (some (.ref b))
open Classical in
noncomputable def plus (F H : Hp) (A : Addr -> Prop) : Hp := fun b => if A b then H b else F b
open Classical in
noncomputable def minus (F : Hp) (A : Addr -> Prop) : Hp := fun b => if A b then none else F b
theorem yg {F H : Hp} {A : Addr -> Prop} {b : Addr} (h : A b) : plus F H A b = H b := by unfold plus; rw [if_pos h]
theorem jy {F H : Hp} {A : Addr -> Prop} {b : Addr} (h : ¬ A b) : plus F H A b = F b := by unfold plus; rw [if_neg h]
theorem u9 {F : Hp} {A : Addr -> Prop} {b : Addr} (h : A b) : minus F A b = none := by unfold minus; rw [if_pos h]
theorem jg {F : Hp} {A : Addr -> Prop} {b : Addr} (h : ¬ A b) : minus F A b = F b := by unfold minus; rw [if_neg h]
section
variable {K : PySem.W.Frag} {F0 H0 FB F H : Hp} {O O2 : List Nat} {σ : St} {ρ : ak}
theorem Rep.own (r : Rep K F0 H0 FB O F H σ ρ) {b : Addr} (h : o8 O O2 σ ρ b) : F b = none /\ H0 b = none /\ ∃ xs, H b = some (.lst xs) := by
 obtain ⟨i, ds, hi, _, e1, e2⟩ := h
 obtain ⟨v, e3, a, xs, e, p, q, z, _⟩ := r.ow i _ e1 hi
 rw [e2] at e3
 cases e3
 cases e
 exact ⟨q, z, xs, p⟩
theorem Rep.mm (r : Rep K F0 H0 FB O F H σ ρ) : b9 F (plus F H (o8 O O2 σ ρ)) := fun b o h => by
 by_cases hb : o8 O O2 σ ρ b
 ·rw [(r.own hb).1] at h; cases h
 ·rw [jy hb]; exact h
theorem Rep.iI (r : Rep K F0 H0 FB O F H σ ρ) : b9 (plus F H (o8 O O2 σ ρ)) H := fun b o h => by
 by_cases hb : o8 O O2 σ ρ b
 ·rw [yg hb] at h; exact h
 ·rw [jy hb] at h; exact r.st.fh b o h
theorem Rep.freeze (r : Rep K F0 H0 FB O F H σ ρ) (hs : ∀ i ∈ O2, i ∈ O) : Rep K F0 H0 FB O2 (plus F H (o8 O O2 σ ρ)) H σ ρ where
 st := ⟨r.st.ff.trans r.mm, r.st.hh, r.iI, fun b o h => by
  by_cases hb : o8 O O2 σ ρ b
  ·exact .inr (r.own hb).2.1
  ·rw [jy hb] at h; exact r.st.nw b o h⟩
 fb := r.fb.trans r.mm
 len := r.len
 fz := fun i d e hi => by
  by_cases ho : i ∈ O
  ·obtain ⟨v, e3, q⟩ := r.ow i d e ho
   refine ⟨v, e3, ?_⟩
   cases d with
   | lst ds =>
    obtain ⟨a, xs, ev, p, _, _, t⟩ := q
    subst ev
    refine ⟨a, xs, rfl, SqL.of ?_, t.mono r.mm⟩
    rw [yg ⟨i, ds, ho, hi, e, e3⟩]
    exact p
   | _ => exact cA.mono r.mm q
  ·obtain ⟨v, e3, q⟩ := r.fz i d e ho
   exact ⟨v, e3, q.mono r.mm⟩
 ow := fun i d e hi => by
  obtain ⟨v, e3, q⟩ := r.ow i d e (hs i hi)
  refine ⟨v, e3, ?_⟩
  cases d with
  | lst ds =>
   obtain ⟨a, xs, ev, p, q, z, t⟩ := q
   subst ev
   refine ⟨a, xs, rfl, p, ?_, z, t.mono r.mm⟩
   have : ¬ o8 O O2 σ ρ a := fun ⟨j, es, hj, hj2, f1, f2⟩ => by
    have := r.ap i j ds es a (hs i hi) hj e f1 e3 f2
    subst this
    exact hj2 hi
   rw [jy this]
   exact q
  | _ => exact cA.mono r.mm q
 ap := fun i j ds es a hi hj => r.ap i j ds es a (hs i hi) (hs j hj)
theorem Rep.repE (r : Rep K F0 H0 FB [] F H σ ρ) : p9 K F σ ρ := ⟨r.len, fun i d e => r.fz i d e (by simp)⟩
theorem Rep.nB (r : Rep K F0 H0 FB O F H σ ρ) : p9 K (plus F H (o8 O [] σ ρ)) σ ρ := (r.freeze (O2 := []) (by simp)).repE
noncomputable def erase : List Nat -> ak -> ak
 | [], ρ => ρ
 | i :: is, ρ => erase is (ρ.set i none)
theorem wR : ∀ (O : List Nat) (ρ : ak), (erase O ρ).length = ρ.length
 | [], _ => rfl
 | i :: is, ρ => by rw [erase, wR, List.length_set]
theorem wU : ∀ (O : List Nat) (ρ : ak) (i : Nat) (d : Dat), (erase O ρ)[i]? = some (some d) -> ρ[i]? = some (some d) /\ i ∉ O
 | [], _, _, _, h => ⟨h, by simp⟩
 | j :: is, ρ, i, d, h => by
  obtain ⟨h1, h2⟩ := wU is (ρ.set j none) i d h
  by_cases e : j = i
  ·subst e
   have hj : j < ρ.length := by
    have := (List.getElem?_eq_some_iff.mp h1).1
    simpa using this
   rw [List.getElem?_set_self hj] at h1
   cases h1
  ·rw [List.getElem?_set_ne e] at h1
   exact ⟨h1, by simp [h2]; omega⟩
theorem Rep.nA (r : Rep K F0 H0 FB O F H σ ρ) : p9 K F σ (erase O ρ) :=
 ⟨by rw [wR, r.len], fun i d e => let ⟨h1, h2⟩ := wU O ρ i d e; r.fz i d h1 h2⟩
theorem Rep.step {F1 H1 : Hp} (r : Rep K F0 H0 FB O F H σ ρ) (s : Step F H F1 H1) : Rep K F0 H0 FB O F1 H1 σ ρ where
 st := r.st.trans s
 fb := r.fb.trans s.ff
 len := r.len
 fz := fun i d e hi => let ⟨v, e3, q⟩ := r.fz i d e hi; ⟨v, e3, q.mono s.ff⟩
 ow := fun i d e hi => by
  obtain ⟨v, e3, q⟩ := r.ow i d e hi
  refine ⟨v, e3, ?_⟩
  cases d with
  | lst ds =>
   obtain ⟨a, xs, ev, p, q, z, t⟩ := q
   refine ⟨a, xs, ev, s.hh _ _ p, ?_, z, t.mono s.ff⟩
   cases e1 : F1 a with
   | none => rfl
   | some o =>
    rcases s.nw a o e1 with h | h
    ·rw [q] at h; cases h
    ·rw [p] at h; cases h
  | _ => exact cA.mono s.ff q
 ap := r.ap
theorem Rep.mf {F1 H1 : Hp} (r : Rep K F0 H0 FB O F H σ ρ) (s : Step (plus F H (o8 O [] σ ρ)) H F1 H1) : Rep K F0 H0 FB O (minus F1 (o8 O [] σ ρ)) H1 σ ρ := by
 refine r.step ⟨fun b o h => ?_, s.hh, fun b o h => ?_, fun b o h => ?_⟩
 ·by_cases hb : o8 O [] σ ρ b
  ·rw [(r.own hb).1] at h; cases h
  ·rw [jg hb]; exact s.ff b o (by rw [jy hb]; exact h)
 ·by_cases hb : o8 O [] σ ρ b
  ·rw [u9 hb] at h; cases h
  ·rw [jg hb] at h; exact s.fh b o h
 ·by_cases hb : o8 O [] σ ρ b
  ·rw [u9 hb] at h; cases h
  ·rw [jg hb] at h
   rcases s.nw b o h with z | z
   ·rw [jy hb] at z; exact .inl z
   ·exact .inr z
theorem Rep.wz {F1 H1 : Hp} (r : Rep K F0 H0 FB O F H σ ρ) (s : Step (plus F H (o8 O [] σ ρ)) H F1 H1) (a : Addr) (xs : List V) (h : SqT K F1 a xs) : SqT K (minus F1 (o8 O [] σ ρ)) a xs := by
 have key : ∀ {b : Addr} {o : HO}, F1 b = some o -> (∀ xs, o ≠ .lst xs) -> minus F1 (o8 O [] σ ρ) b = some o := fun {b o} h n => by
  by_cases hb : o8 O [] σ ρ b
  ·obtain ⟨_, _, xs, e⟩ := r.own hb
   have := s.ff b (.lst xs) (by rw [yg hb]; exact e)
   rw [h] at this
   cases this
   exact absurd rfl (n xs)
  ·rw [jg hb]; exact h
 rcases h with (h | ⟨o, h⟩) | h
 ·exact .inl (.inl (key h (by intro xs e; cases e)))
 ·exact .inl (.inr ⟨o, key h (by intro xs e; cases e)⟩)
 ·exact .inr h
theorem Rep.set {d : Dat} {v : V} (r : Rep K F0 H0 FB O F H σ ρ) (q : cA K F d v) (i : Nat) : Rep K F0 H0 FB (O.filter (· != i)) F H (σ.set i (some v)) (ρ.set i (some d)) where
 st := r.st
 fb := r.fb
 len := by rw [List.length_set, List.length_set, r.len]
 fz := fun j e h hj => by
  by_cases hij : i = j
  ·subst hij
   have hi : i < ρ.length := by
    have := (List.getElem?_eq_some_iff.mp h).1
    simpa using this
   rw [List.getElem?_set_self hi] at h
   cases h
   exact ⟨v, by rw [List.getElem?_set_self (by rw [<- r.len]; exact hi)], q⟩
  ·rw [List.getElem?_set_ne hij] at h
   rw [List.getElem?_set_ne hij]
   exact r.fz j e h fun z => hj (List.mem_filter.mpr ⟨z, by simpa using Ne.symm hij⟩)
 ow := fun j e h hj => by
  obtain ⟨h1, h2⟩ := List.mem_filter.mp hj
  have hij : i ≠ j := fun z => by simp [z] at h2
  rw [List.getElem?_set_ne hij] at h ⊢
  exact r.ow j e h h1
 ap := fun j k ds es a hj hk e1 e2 e3 e4 => by
  obtain ⟨j1, j2⟩ := List.mem_filter.mp hj
  obtain ⟨k1, k2⟩ := List.mem_filter.mp hk
  have hij : i ≠ j := fun z => by simp [z] at j2
  have hik : i ≠ k := fun z => by simp [z] at k2
  rw [List.getElem?_set_ne hij] at e1 e3
  rw [List.getElem?_set_ne hik] at e2 e4
  exact r.ap j k ds es a j1 k1 e1 e2 e3 e4
theorem Rep.setOwn {d : Dat} {v : V} (r : Rep K F0 H0 FB O F H σ ρ) (q : CO K F H0 H d v) (nw : ∀ a, v = .ref a -> (∃ ds, d = .lst ds) -> ¬ o8 O [i] σ ρ a) : Rep K F0 H0 FB (i :: O.filter (· != i)) F H (σ.set i (some v)) (ρ.set i (some d)) where
 st := r.st
 fb := r.fb
 len := by rw [List.length_set, List.length_set, r.len]
 fz := fun j e h hj => by
  simp only [List.mem_cons, not_or] at hj
  have hij : i ≠ j := fun z => hj.1 z.symm
  rw [List.getElem?_set_ne hij] at h ⊢
  exact r.fz j e h fun z => hj.2 (List.mem_filter.mpr ⟨z, by simpa using Ne.symm hij⟩)
 ow := fun j e h hj => by
  by_cases hij : i = j
  ·subst hij
   have hi : i < ρ.length := by
    have := (List.getElem?_eq_some_iff.mp h).1
    simpa using this
   rw [List.getElem?_set_self hi] at h
   cases h
   exact ⟨v, by rw [List.getElem?_set_self (by rw [<- r.len]; exact hi)], q⟩
  ·rw [List.getElem?_set_ne hij] at h ⊢
   rcases List.mem_cons.mp hj with z | z
   ·exact absurd z.symm hij
   ·exact r.ow j e h (List.mem_filter.mp z).1
 ap := fun j k ds es a hj hk e1 e2 e3 e4 => by
  have key : ∀ {k' : Nat} {ds' es' : List Dat}, k' ∈ O -> k' ≠ i -> (ρ.set i (some d))[i]? = some (some (.lst ds')) -> (ρ.set i (some d))[k']? = some (some (.lst es')) -> (σ.set i (some v))[i]? = some (some (.ref a)) -> (σ.set i (some v))[k']? = some (some (.ref a)) -> False := by
   intro k' ds' es' hk' hne f1 f2 f3 f4
   have hi : i < ρ.length := by
    have := (List.getElem?_eq_some_iff.mp f1).1
    simpa using this
   rw [List.getElem?_set_self hi] at f1
   rw [List.getElem?_set_self (by rw [<- r.len]; exact hi)] at f3
   rw [List.getElem?_set_ne (Ne.symm hne)] at f2 f4
   have z1 : v = .ref a := by simpa using f3
   have z2 : d = .lst ds' := by simpa using f1
   exact nw a z1 ⟨ds', z2⟩ ⟨k', es', hk', by simpa using hne, f2, f4⟩
  rcases List.mem_cons.mp hj with zj | zj
  ·rcases List.mem_cons.mp hk with zk | zk
   ·rw [zj, zk]
   ·obtain ⟨k1, k2⟩ := List.mem_filter.mp zk
    subst zj
    exact (key k1 (by simpa using k2) e1 e2 e3 e4).elim
  ·obtain ⟨j1, j2⟩ := List.mem_filter.mp zj
   have hij : i ≠ j := fun z => by simp [z] at j2
   rcases List.mem_cons.mp hk with zk | zk
   ·subst zk
    exact (key j1 (Ne.symm hij) e2 e1 e4 e3).elim
   ·obtain ⟨k1, k2⟩ := List.mem_filter.mp zk
    have hik : i ≠ k := fun z => by simp [z] at k2
    rw [List.getElem?_set_ne hij] at e1 e3
    rw [List.getElem?_set_ne hik] at e2 e4
    exact r.ap j k ds es a j1 k1 e1 e2 e3 e4
end
section
variable {K : PySem.W.Frag} {F0 H0 FB F H : Hp} {O O2 : List Nat} {σ : St} {ρ : ak}
theorem Rep.lS {F1 H1 : Hp} (r : Rep K F0 H0 FB O F H σ ρ) (s : Step (plus F H (o8 O [] σ ρ)) H F1 H1) : b9 F (minus F1 (o8 O [] σ ρ)) := fun b o h => by
 by_cases hb : o8 O [] σ ρ b
 ·rw [(r.own hb).1] at h; cases h
 ·rw [jg hb]; exact s.ff b o (by rw [jy hb]; exact h)
theorem Ax {i : Nat} {O : List Nat} (h : i ∉ O) : O.filter (· != i) = O := by
 rw [List.filter_eq_self]
 intro a ha
 simp
 intro e
 exact h (e ▸ ha)
theorem Rep.set' {d : Dat} {v : V} (r : Rep K F0 H0 FB O F H σ ρ) (q : cA K F d v) {i : Nat} (hi : i ∉ O) : Rep K F0 H0 FB O F H (σ.set i (some v)) (ρ.set i (some d)) := by
 have := r.set q i
 rw [Ax hi] at this
 exact this
theorem Rep.base {FB' : Hp} (r : Rep K F0 H0 FB O F H σ ρ) (s : b9 FB' FB) : Rep K F0 H0 FB' O F H σ ρ := ⟨r.st, s.trans r.fb, r.len, r.fz, r.ow, r.ap⟩
theorem Rep.write {i : Nat} {a : Addr} {ds ds' : List Dat} {xs' : List V} (r : Rep K F0 H0 FB O F H σ ρ) (hi : i ∈ O) (e1 : ρ[i]? = some (some (.lst ds))) (e2 : σ[i]? = some (some (.ref a))) (q : aB K F ds' xs') : Rep K F0 H0 FB O F (upd H a (.lst xs')) σ (ρ.set i (some (.lst ds'))) := by
 have ho : F a = none /\ H0 a = none /\ ∃ xs, H a = some (.lst xs) := r.own (O2 := []) ⟨i, ds, hi, by simp, e1, e2⟩
 have hil : i < ρ.length := (List.getElem?_eq_some_iff.mp e1).1
 refine ⟨⟨r.st.ff, fun b o h => ?_, fun b o h => ?_, r.st.nw⟩, r.fb, by rw [List.length_set, r.len], fun j e h hj => ?_, fun j e h hj => ?_, fun j k es fs b hj hk f1 f2 f3 f4 => ?_⟩
 ·rw [aq (aC h ho.2.1)]; exact r.st.hh b o h
 ·rw [aq (aC h ho.1)]; exact r.st.fh b o h
 ·have hij : i ≠ j := fun z => hj (z ▸ hi)
  rw [List.getElem?_set_ne hij] at h
  exact r.fz j e h hj
 ·by_cases hij : i = j
  ·subst hij
   rw [List.getElem?_set_self hil] at h
   cases h
   exact ⟨.ref a, e2, a, xs', rfl, ar, ho.1, ho.2.1, q⟩
  ·rw [List.getElem?_set_ne hij] at h
   obtain ⟨v, e3, z⟩ := r.ow j e h hj
   refine ⟨v, e3, ?_⟩
   cases e with
   | lst es =>
    obtain ⟨b, ys, ev, p, q1, q2, t⟩ := z
    subst ev
    have hab : b ≠ a := fun z => by
     subst z
     exact hij (r.ap i j ds es b hi hj e1 h e2 e3)
    exact ⟨b, ys, rfl, by rw [aq hab]; exact p, q1, q2, t⟩
   | _ => exact z
 ·have fix : ∀ {j : Nat} {es : List Dat}, (ρ.set i (some (.lst ds')))[j]? = some (some (.lst es)) -> ∃ es', ρ[j]? = some (some (.lst es')) := fun {j es} f => by
   by_cases hij : i = j
   ·subst hij; exact ⟨ds, e1⟩
   ·rw [List.getElem?_set_ne hij] at f; exact ⟨es, f⟩
  obtain ⟨es', g1⟩ := fix f1
  obtain ⟨fs', g2⟩ := fix f2
  exact r.ap j k es' fs' b hj hk g1 g2 f3 f4
noncomputable def Pat.names : Pat -> List Nat
 | .nm i => [i]
 | .tp is => is
theorem sx {R : St -> Hp -> Prop} : ∀ {is : List Nat} {ds : List Dat} {vs : List V} {σ : St} {ρ : ak}, Rep K F0 H0 FB O F H σ ρ -> (∀ i ∈ is, i ∉ O) -> aB K F ds vs -> ds.length = is.length -> (∀ σ', Rep K F0 H0 FB O F H σ' (kD is ds ρ) -> R σ' H) -> iB is vs σ H R
 | [], [], _, σ, ρ, r, _, q, _, h => ⟨q, h σ r⟩
 | [], _ :: _, _, _, _, _, _, _, e, _ => by simp at e
 | _ :: _, [], _, _, _, _, _, _, e, _ => by simp at e
 | i :: is, d :: ds, _, σ, ρ, r, n, ⟨v, vs, e, q, t⟩, l, h => ⟨v, vs, e, sx (r.set' q (n i (by simp))) (fun j hj => n j (by simp [hj])) t (by simpa using l) h⟩
theorem BY {R : St -> Hp -> Prop} {p : Pat} {d : Dat} {v : V} {ρ' : ak} (r : Rep K F0 H0 FB O F H σ ρ) (n : ∀ i ∈ p.names, i ∉ O) (q : cA K F d v) (e : gy p d ρ = .ok ρ') (h : ∀ σ', Rep K F0 H0 FB O F H σ' ρ' -> R σ' H) : gP K p v σ H R := by
 cases p with
 | nm i =>
  have := Except.ok.inj e
  subst this
  exact h _ (r.set' q (n i (by simp [Pat.names])))
 | tp is =>
  cases d with
  | tup ds =>
   have e' : (if ds.length = is.length then Except.ok (kD is ds ρ) else Except.error Err.stuck) = Except.ok ρ' := e
   by_cases hl : ds.length = is.length
   ·rw [if_pos hl] at e'
    have := Except.ok.inj e'
    subst this
    obtain ⟨a, xs, ev, t, z⟩ := q
    exact ⟨a, xs, ev, r.st.fh.tup t, by rw [z.length, hl], sx r n z hl h⟩
   ·rw [if_neg hl] at e'
    cases e'
  | _ => cases e
end
noncomputable def jq (K : PySem.W.Frag) (W : gI) (ro : Bool) (F0 H0 FB : Hp) (OL O' : List Nat) (D : Ends) (r : M Flo) : Prop := match r with
 | .ok (.nx ρ) => ∀ σ F H, Rep K F0 H0 FB O' F H σ ρ -> D.nx σ H
 | .ok (.rt d) => ∀ v F H, Step F0 H0 F H -> Val K ro F H0 H d v -> D.rt v H
 | .ok (.bk ρ) => ∀ σ F H, Rep K F0 H0 FB OL F H σ ρ -> D.bk σ H
 | .ok (.ct ρ) => ∀ σ F H, Rep K F0 H0 FB OL F H σ ρ -> D.ct σ H
 | .error e => W.p e F0 H0
noncomputable def tS (K : PySem.W.Frag) (W : gI) (ro : Bool) (F0 H0 : Hp) (OL O O' : List Nat) (g : ak -> M Flo) : TS := fun D σ H => ∃ FB F ρ, Rep K F0 H0 FB O F H σ ρ /\ jq K W ro F0 H0 FB OL O' D (g ρ)
noncomputable def gW : ak -> M Flo := fun ρ => .ok (.nx ρ)
noncomputable def bR (g h : ak -> M Flo) : ak -> M Flo := fun ρ => (g ρ).bind fun fl => match fl with
 | .nx ρ' => h ρ'
 | fl => .ok fl
noncomputable def sIf (ft : ak -> M Bool) (g h : ak -> M Flo) : ak -> M Flo := fun ρ => (ft ρ).bind fun b => if b = true then g ρ else h ρ
noncomputable def oQ : Bool -> Dat -> Bool
 | true, .lst ds => sy ds
 | _, d => m4 d
noncomputable def rz (own : Bool) (i : Nat) (f : ak -> M Dat) : ak -> M Flo := fun ρ => (f ρ).bind fun d => if oQ own d = true then .ok (.nx (ρ.set i (some d))) else .error .stuck
noncomputable def aX (O : List Nat) (i : Nat) (f : ak -> M Dat) : ak -> M Flo := fun ρ => (f (erase O ρ)).bind fun d => .ok (.nx (ρ.set i (some d)))
noncomputable def y0 (O : List Nat) (p : Pat) (f : ak -> M Dat) : ak -> M Flo := fun ρ => (f (erase O ρ)).bind fun d => (gy p d ρ).bind fun ρ' => .ok (.nx ρ')
noncomputable def jB (ρ : ak) (i : Nat) : M (List Dat) := match ρ[i]? with
 | some (some (.lst ds)) => .ok ds
 | _ => .error .stuck
noncomputable def put (ρ : ak) (i : Nat) (ds : List Dat) : M Flo := .ok (.nx (ρ.set i (some (.lst ds))))
noncomputable def ku (O : List Nat) (i : Nat) (f : ak -> M Dat) : ak -> M Flo := fun ρ => (jB ρ i).bind fun ds => (f (erase O ρ)).bind fun d => if ds.length < sizeLine then put ρ i (ds ++ [d]) else .error .stuck
noncomputable def asI : Dat -> M Int
 | .int i => .ok i
 | _ => .error .stuck
noncomputable def ya (i : Nat) (fi f : ak -> M Dat) : ak -> M Flo := fun ρ => (f ρ).bind fun d => (jB ρ i).bind fun ds => (fi ρ).bind fun k => (asI k).bind fun k => if m4 d = true then (match ixN ds.length k with
 | some j => put ρ i (ds.set j d)
 | none => .error .stuck) else .error .stuck
noncomputable def iH (f : ak -> M Dat) : ak -> M Flo := fun ρ => (f ρ).bind fun d => .ok (.rt d)
noncomputable def isL : Dat -> Bool
 | .lst _ => true
 | _ => false
noncomputable def vG (f : ak -> M Dat) : ak -> M Flo := fun ρ => (f ρ).bind fun d => if isL d = true then .error .stuck else .ok (.rt d)
noncomputable def ky (p : Pat) (g : ak -> M Flo) : List Dat -> ak -> M Flo
 | [], ρ => .ok (.nx ρ)
 | d :: ds, ρ => (gy p d ρ).bind fun ρ1 => (g ρ1).bind fun fl => match fl with
  | .nx ρ2 => ky p g ds ρ2
  | .ct ρ2 => ky p g ds ρ2
  | .bk ρ2 => .ok (.nx ρ2)
  | .rt d => .ok (.rt d)
noncomputable def vb (O : List Nat) (fi : ak -> M (List Dat)) (p : Pat) (g : ak -> M Flo) : ak -> M Flo := fun ρ => (fi (erase O ρ)).bind fun ds => ky p g ds ρ
noncomputable def dR (ft : ak -> M Bool) (g : ak -> M Flo) : Nat -> ak -> M Flo
 | 0, _ => .error .stuck
 | n + 1, ρ => (ft ρ).bind fun b => if b = true then (g ρ).bind fun fl => match fl with
  | .nx ρ2 => dR ft g n ρ2
  | .ct ρ2 => dR ft g n ρ2
  | .bk ρ2 => .ok (.nx ρ2)
  | .rt d => .ok (.rt d) else .ok (.nx ρ)
section
variable {K : PySem.W.Frag} {W : gI} {ro own : Bool} {F0 H0 FB F H : Hp} {OL O O' O2 : List Nat} {D : Ends} {σ : St} {ρ : ak} {g h : ak -> M Flo} {f fi : ak -> M Dat} {ft : ak -> M Bool}
theorem jq.err {x : M Flo} {e : Err} (p : jq K W ro F0 H0 FB OL O' D x) (h : x = .error e) : W.p e F0 H0 := by rw [h] at p; exact p
theorem jq.pO {x : M Flo} {e : Err} (p : jq K W ro F0 H0 FB OL O' D x) (s : Step F0 H0 F H) (h : x = .error e) : W.p e F H := W.mono (p.err h) s
theorem jq.stuck {x : M Flo} {P : Prop} (p : jq K W ro F0 H0 FB OL O' D x) (h : x = .error .stuck) : P := (W.ns (p.err h)).elim
theorem tS.enter (hs : ∀ i ∈ O2, i ∈ O) (t : tS K W ro F0 H0 OL O O' g D σ H) : tS K W ro F0 H0 OL O2 O' g D σ H := by
 obtain ⟨FB, F, ρ, r, p⟩ := t
 exact ⟨FB, _, ρ, r.freeze hs, p⟩
theorem rs_next (t : tS K W ro F0 H0 OL O O gW D σ H) : tNext D σ H := by
 obtain ⟨FB, F, ρ, r, p⟩ := t
 exact p σ F H r
theorem rs_seq (t : tS K W ro F0 H0 OL O O2 (bR g h) D σ H) : tSeq (tS K W ro F0 H0 OL O O' g) (tS K W ro F0 H0 OL O' O2 h) D σ H := by
 obtain ⟨FB, F, ρ, r, p⟩ := t
 refine ⟨FB, F, ρ, r, ?_⟩
 unfold bR at p
 cases e : g ρ with
 | error x => exact p.err (by rw [e]; rfl)
 | ok fl =>
  rw [e] at p
  cases fl with
  | nx ρ' => exact fun σ' F' H' r' => ⟨FB, F', ρ', r', p⟩
  | rt d => exact p
  | bk ρ' => exact p
  | ct ρ' => exact p
theorem rs_if (t : tS K W ro F0 H0 OL O O' (sIf ft g h) D σ H) : tIfS (tDT K W ft) (tS K W ro F0 H0 OL O O' g) (tS K W ro F0 H0 OL O O' h) D σ H := by
 obtain ⟨FB, F, ρ, r, p⟩ := t
 refine md r.nB r.iI (fun e he => p.pO (r.freeze (O2 := []) (by simp)).st (by unfold sIf; rw [he]; rfl)) fun b hb F1 H1 s1 => ?_
 have z : sIf ft g h ρ = if b = true then g ρ else h ρ := by unfold sIf; rw [hb]; rfl
 rw [z] at p
 cases b with
 | true => exact ⟨FB, _, ρ, r.mf s1, p⟩
 | false => exact ⟨FB, _, ρ, r.mf s1, p⟩
noncomputable def aft (own : Bool) (i : Nat) (O : List Nat) : List Nat := if own = true then i :: O.filter (· != i) else O.filter (· != i)
theorem Rep.bindV {i : Nat} {d : Dat} {v : V} {H2 : Hp} (r : Rep K F0 H0 FB O F H σ ρ) (q : Val K own F H2 H d v) (h2 : b9 H0 H2) (nw : ∀ a, o8 O [] σ ρ a -> ∃ o, H2 a = some o) : Rep K F0 H0 FB (aft own i O) F H (σ.set i (some v)) (ρ.set i (some d)) := by
 cases own with
 | false => exact r.set q i
 | true =>
  refine r.setOwn (CO.back h2 q) fun a ha ⟨ds, hd⟩ z => ?_
  subst ha hd
  obtain ⟨b, xs, e, _, _, n, _⟩ := q
  cases e
  obtain ⟨j, es, h1, h2, h3, h4⟩ := z
  obtain ⟨o, ho⟩ := nw a ⟨j, es, h1, by simp, h3, h4⟩
  rw [n] at ho
  cases ho
theorem Bd {i : Nat} (t : tS K W ro F0 H0 OL O (aft own i O) (aX O i f) D σ H) : AM (tD K W own f) (oO i) D σ H := by
 obtain ⟨FB, F, ρ, r, p⟩ := t
 refine cx r.nA r.st.fh (fun e he => p.pO r.st (by unfold aX; rw [he]; rfl)) fun d hd v F1 H1 s1 q => ?_
 have z : aX O i f ρ = .ok (.nx (ρ.set i (some d))) := by unfold aX; rw [hd]; rfl
 rw [z] at p
 exact p _ F1 H1 ((r.step s1).bindV q r.st.hh fun a ha => let ⟨_, _, xs, e⟩ := r.own ha; ⟨_, e⟩)
theorem Rep.flatV {F1 H1 : Hp} {d : Dat} {v : V} (r : Rep K F0 H0 FB O F H σ ρ) (s : Step (plus F H (o8 O [] σ ρ)) H F1 H1) (q : Val K own F1 H H1 d v) (fl : oQ own d = true) : Val K own (minus F1 (o8 O [] σ ρ)) H H1 d v := by
 have none_of : ∀ {a : Addr}, F1 a = none -> minus F1 (o8 O [] σ ρ) a = none := fun {a} h => by
  by_cases hb : o8 O [] σ ρ a
  ·exact u9 hb
  ·rw [jg hb]; exact h
 cases own with
 | false => exact cA.flat (r.wz s) (by cases d <;> exact fl) q
 | true =>
  cases d with
  | lst ds =>
   obtain ⟨a, xs, e, p, n, z, t⟩ := q
   exact ⟨a, xs, e, p, none_of n, z, t.flat (r.wz s) fl⟩
  | non => exact q
  | bl b => exact q
  | int i => exact q
  | str x => exact q
  | tup ds => exact cA.flat (d := .tup ds) (r.wz s) fl q
  | ins C fs => exact cA.flat (d := .ins C fs) (r.wz s) fl q
theorem rs_setA {i : Nat} (t : tS K W ro F0 H0 OL O (aft own i O) (rz own i f) D σ H) : AM (tD K W own f) (oO i) D σ H := by
 obtain ⟨FB, F, ρ, r, p⟩ := t
 refine cx r.nB r.iI (fun e he => p.pO (r.freeze (O2 := []) (by simp)).st (by unfold rz; rw [he]; rfl)) fun d hd v F1 H1 s1 q => ?_
 have z : rz own i f ρ = if oQ own d = true then .ok (.nx (ρ.set i (some d))) else .error .stuck := by unfold rz; rw [hd]; rfl
 rw [z] at p
 by_cases hf : oQ own d = true
 ·rw [if_pos hf] at p
  exact p _ _ H1 ((r.mf s1).bindV (r.flatV s1 q hf) r.st.hh fun a ha => let ⟨_, _, xs, e⟩ := r.own ha; ⟨_, e⟩)
 ·rw [if_neg hf] at p
  exact p.stuck rfl
theorem rs_unpB {pt : Pat} (n : ∀ i ∈ pt.names, i ∉ O) (t : tS K W ro F0 H0 OL O O (y0 O pt f) D σ H) : AM (tD K W false f) (gP K pt) D σ H := by
 obtain ⟨FB, F, ρ, r, p⟩ := t
 refine cx r.nA r.st.fh (fun e he => p.pO r.st (by unfold y0; rw [he]; rfl)) fun d hd v F1 H1 s1 q => ?_
 have z : y0 O pt f ρ = (gy pt d ρ).bind fun ρ' => .ok (.nx ρ') := by unfold y0; rw [hd]; rfl
 rw [z] at p
 cases e : gy pt d ρ with
 | error x =>
  have := nW e
  subst this
  exact p.stuck (by rw [e]; rfl)
 | ok ρ' =>
  rw [e] at p
  exact BY (r.step s1) n q e fun σ' r' => p σ' F1 H1 r'
theorem lU {i : Nat} {ds : List Dat} (h : jB ρ i = .ok ds) : ρ[i]? = some (some (.lst ds)) := by
 unfold jB at h
 split at h
 ·cases h; assumption
 ·cases h
theorem qz {i : Nat} {e : Err} (h : jB ρ i = .error e) : e = .stuck := by
 unfold jB at h
 split at h
 ·cases h
 ·cases h; rfl
theorem Rep.BH {i : Nat} {ds : List Dat} (r : Rep K F0 H0 FB O F H σ ρ) (hi : i ∈ O) (e : ρ[i]? = some (some (.lst ds))) : ∃ a xs, σ[i]? = some (some (.ref a)) /\ H a = some (.lst xs) /\ aB K F ds xs := by
 obtain ⟨v, e3, a, xs, ev, p, _, _, t⟩ := r.ow i _ e hi
 subst ev
 exact ⟨a, xs, e3, p, t⟩
noncomputable def tApp (K : PySem.W.Frag) (i : Nat) (te : TE) : TS := B2 (tBM K "list" qg (tVar i) (ip te AL))
theorem rs_appB {i : Nat} (hi : i ∈ O) (t : tS K W ro F0 H0 OL O O (ku O i f) D σ H) : tApp K i (tD K W false f) D σ H := by
 obtain ⟨FB, F, ρ, r, p⟩ := t
 cases hl : jB ρ i with
 | error e =>
  have := qz hl
  subst this
  exact p.stuck (by unfold ku; rw [hl]; rfl)
 | ok ds =>
  obtain ⟨a, xs, e2, ha, z⟩ := r.BH hi (lU hl)
  refine ⟨.ref a, e2, sY ha, ?_⟩
  refine cx r.nA r.st.fh (fun e he => p.pO r.st (by unfold ku; rw [hl]; show (f (erase O ρ)).bind _ = _; rw [he]; rfl)) fun d hd v F1 H1 s1 q => ?_
  have ez : ku O i f ρ = if ds.length < sizeLine then put ρ i (ds ++ [d]) else .error .stuck := by unfold ku; rw [hl]; show (f (erase O ρ)).bind _ = _; rw [hd]; rfl
  rw [ez] at p
  by_cases hs : ds.length < sizeLine
  ·rw [if_pos hs] at p
   exact ⟨a, xs, v, rfl, rfl, s1.hh _ _ ha, by rw [z.length]; exact hs, p σ F1 _ ((r.step s1).write hi (lU hl) e2 (aB.append (z.mono s1.ff) ⟨v, [], rfl, q, rfl⟩))⟩
  ·rw [if_neg hs] at p
   exact p.stuck rfl
theorem rs_setI {i : Nat} (hi : i ∈ O) (t : tS K W ro F0 H0 OL O O (ya i fi f) D σ H) : AM (tD K W false f) (gSub (tVar i) (tD K W false fi) rSetL) D σ H := by
 obtain ⟨FB, F, ρ, r, p⟩ := t
 refine cx r.nB r.iI (fun e he => p.pO (r.freeze (O2 := []) (by simp)).st (by unfold ya; rw [he]; rfl)) fun d hd v F1 H1 s1 q => ?_
 have ez : ya i fi f ρ = (jB ρ i).bind fun ds => (fi ρ).bind fun k => (asI k).bind fun k => if m4 d = true then (match ixN ds.length k with
  | some j => put ρ i (ds.set j d)
  | none => .error .stuck) else .error .stuck := by unfold ya; rw [hd]; rfl
 rw [ez] at p
 cases hl : jB ρ i with
 | error e =>
  have := qz hl
  subst this
  exact p.stuck (by rw [hl]; rfl)
 | ok ds =>
  rw [hl] at p
  have p : jq K W ro F0 H0 FB OL O D ((fi ρ).bind fun k => (asI k).bind fun k => if m4 d = true then (match ixN ds.length k with
   | some j => put ρ i (ds.set j d)
   | none => .error .stuck) else .error .stuck) := p
  have r1 := r.mf s1
  obtain ⟨a, xs, e2, ha, z⟩ := r1.BH hi (lU hl)
  refine ⟨.ref a, e2, ?_⟩
  refine cx r1.nB r1.iI (fun e he => p.pO (r1.freeze (O2 := []) (by simp)).st (by rw [he]; rfl)) fun k hk w F2 H2 s2 q2 => ?_
  rw [hk] at p
  cases k with
  | int k =>
   have p : jq K W ro F0 H0 FB OL O D (if m4 d = true then (match ixN ds.length k with
    | some j => put ρ i (ds.set j d)
    | none => .error .stuck) else .error .stuck) := p
   by_cases hf : m4 d = true
   ·rw [if_pos hf] at p
    cases hj : ixN ds.length k with
    | none => rw [hj] at p; exact p.stuck rfl
    | some j =>
     rw [hj] at p
     refine ⟨a, xs, k, j, rfl, q2, s2.hh _ _ ha, by rw [z.length]; exact hj, ?_⟩
     have qd : cA K (minus F1 (o8 O [] σ ρ)) d v := cA.flat (r.wz s1) hf q
     exact p σ _ _ ((r1.mf s2).write hi (lU hl) e2 (aB.set (qd.mono (r1.lS s2)) j (z.mono (r1.lS s2))))
   ·rw [if_neg hf] at p
    exact p.stuck rfl
  | _ => exact p.stuck rfl
theorem rs_ret (t : tS K W ro F0 H0 OL O O' (iH f) D σ H) : tRet (tD K W ro f) D σ H := by
 obtain ⟨FB, F, ρ, r, p⟩ := t
 have rf := r.freeze (O2 := []) (by simp)
 refine cx r.nB r.iI (fun e he => p.pO rf.st (by unfold iH; rw [he]; rfl)) fun d hd v F1 H1 s1 q => ?_
 have z : iH f ρ = .ok (.rt d) := by unfold iH; rw [hd]; rfl
 rw [z] at p
 exact p v F1 H1 (rf.st.trans s1) (q.back r.st.hh)
theorem rs_retN (t : tS K W true F0 H0 OL O O' (vG f) D σ H) : tRet (tD K W false f) D σ H := by
 obtain ⟨FB, F, ρ, r, p⟩ := t
 have rf := r.freeze (O2 := []) (by simp)
 refine cx r.nB r.iI (fun e he => p.pO rf.st (by unfold vG; rw [he]; rfl)) fun d hd v F1 H1 s1 q => ?_
 have z : vG f ρ = if isL d = true then .error .stuck else .ok (.rt d) := by unfold vG; rw [hd]; rfl
 rw [z] at p
 cases d with
 | lst ds => exact p.stuck rfl
 | _ => exact p v F1 H1 (rf.st.trans s1) q
theorem rs_retV {i : Nat} (hi : i ∈ O) (t : tS K W true F0 H0 OL O O' (iH (aj i)) D σ H) : tRet (tVar i) D σ H := by
 obtain ⟨FB, F, ρ, r, p⟩ := t
 unfold iH aj at p
 match e : ρ[i]? with
 | some (some d) =>
  rw [e] at p
  obtain ⟨v, e3, q⟩ := r.ow i d e hi
  exact ⟨v, e3, p v F H r.st q⟩
 | some none => rw [e] at p; exact p.stuck rfl
 | none => rw [e] at p; exact p.stuck rfl
theorem rs_for {fs : ak -> M (List Dat)} {pt : Pat} (n : ∀ i ∈ pt.names, i ∉ O) (t : tS K W ro F0 H0 OL O O (vb O fs pt g) D σ H) : tFor (iD K W fs) (gP K pt) (tS K W ro F0 H0 O O O g) D σ H := by
 obtain ⟨FB, F, ρ, r, p⟩ := t
 refine ⟨F, erase O ρ, r.nA, r.st.fh, ?_⟩
 cases e : fs (erase O ρ) with
 | error x => exact p.pO r.st (by unfold vb; rw [e]; rfl)
 | ok ds =>
  have z : vb O fs pt g ρ = ky pt g ds ρ := by unfold vb; rw [e]; rfl
  rw [z] at p
  intro J F1 H1 s1 it
  refine ⟨fun i m σ H => ∃ F ρ, Rep K F0 H0 F1 O F H σ ρ /\ i <= ds.length /\ m = ds.length - i /\ jq K W ro F0 H0 FB OL O D (ky pt g (ds.drop i) ρ), ⟨ds.length, F1, ρ, ?_, Nat.zero_le _, by omega, by rw [List.drop_zero]; exact p⟩, ?_⟩
  ·have r1 := r.step s1
   exact ⟨r1.st, b9.refl _, r1.len, r1.fz, r1.ow, r1.ap⟩
  ·rintro i m σ2 H2 ⟨F2, ρ2, r2, hi, rfl, p2⟩
   by_cases hlt : i < ds.length
   ·have ed : ds.drop i = ds[i] :: ds.drop (i + 1) := List.drop_eq_getElem_cons hlt
    rw [ed] at p2
    refine .inr ⟨it.go i F2 H2 r2.fb r2.st.fh hlt, fun σ' H' => (∃ F ρ, Rep K F0 H0 F1 O F H' σ' ρ /\ jq K W ro F0 H0 FB OL O D (ky pt g (ds.drop (i + 1)) ρ)), fun σ' H' ⟨F, ρ, r, p⟩ => ⟨ds.length - (i + 1), by omega, F, ρ, r, hlt, rfl, p⟩, fun x H' y => ?_⟩
    obtain ⟨F3, s3, q3⟩ := it.yl i F2 H2 x H' ds[i] r2.fb r2.st.fh (by simp [hlt]) y
    have ef : ky pt g (ds[i] :: ds.drop (i + 1)) ρ2 = (gy pt ds[i] ρ2).bind fun ρ1 => (g ρ1).bind fun fl => match fl with
     | .nx ρ2 => ky pt g (ds.drop (i + 1)) ρ2
     | .ct ρ2 => ky pt g (ds.drop (i + 1)) ρ2
     | .bk ρ2 => .ok (.nx ρ2)
     | .rt d => .ok (.rt d) := by rw [ky]
    rw [ef] at p2
    cases eb : gy pt ds[i] ρ2 with
    | error x =>
     have := nW eb
     subst this
     exact p2.stuck (by rw [eb]; rfl)
    | ok ρ3 =>
     rw [eb] at p2
     have p2 : jq K W ro F0 H0 FB OL O D ((g ρ3).bind fun fl => match fl with
      | .nx ρ2 => ky pt g (ds.drop (i + 1)) ρ2
      | .ct ρ2 => ky pt g (ds.drop (i + 1)) ρ2
      | .bk ρ2 => .ok (.nx ρ2)
      | .rt d => .ok (.rt d)) := p2
     refine BY (r2.step s3) n q3 eb fun σ4 r4 => ⟨F1, F3, ρ3, r4, ?_⟩
     have fb1 : b9 FB F1 := (r.step s1).fb
     cases eg : g ρ3 with
     | error x => exact p2.err (by rw [eg]; rfl)
     | ok fl =>
      rw [eg] at p2
      cases fl with
      | nx ρ5 => exact fun σ' F' H' r' => ⟨F', ρ5, r', p2⟩
      | ct ρ5 => exact fun σ' F' H' r' => ⟨F', ρ5, r', p2⟩
      | bk ρ5 => exact fun σ' F' H' r' => p2 σ' F' H' (r'.base fb1)
      | rt d => exact p2
   ·have : i = ds.length := by omega
    subst this
    rw [List.drop_length] at p2
    exact .inl ⟨it.st F2 H2 r2.fb r2.st.fh, p2 σ2 F2 H2 (r2.base (r.step s1).fb)⟩
theorem rs_while {m : Nat} (t : tS K W ro F0 H0 OL O O (dR ft g m) D σ H) : tWhile (tDT K W ft) (tS K W ro F0 H0 O O O g) D σ H := by
 refine ⟨fun m σ H => tS K W ro F0 H0 OL O O (dR ft g m) D σ H, ⟨m, t⟩, ?_⟩
 rintro m σ H ⟨FB, F, ρ, r, p⟩
 cases m with
 | zero => exact p.stuck rfl
 | succ m =>
  have ez : dR ft g (m + 1) ρ = (ft ρ).bind fun b => if b = true then (g ρ).bind fun fl => match fl with
   | .nx ρ2 => dR ft g m ρ2
   | .ct ρ2 => dR ft g m ρ2
   | .bk ρ2 => .ok (.nx ρ2)
   | .rt d => .ok (.rt d) else .ok (.nx ρ) := by rw [dR]
  rw [ez] at p
  refine md r.nB r.iI (fun e he => p.pO (r.freeze (O2 := []) (by simp)).st (by rw [he]; rfl)) fun b hb F1 H1 s1 => ?_
  rw [hb] at p
  have r1 := r.mf s1
  cases b with
  | false => exact p σ _ H1 r1
  | true =>
   have p : jq K W ro F0 H0 FB OL O D ((g ρ).bind fun fl => match fl with
    | .nx ρ2 => dR ft g m ρ2
    | .ct ρ2 => dR ft g m ρ2
    | .bk ρ2 => .ok (.nx ρ2)
    | .rt d => .ok (.rt d)) := p
   refine ⟨fun σ' H' => tS K W ro F0 H0 OL O O (dR ft g m) D σ' H', fun σ' H' n => ⟨m, Nat.lt_succ_self _, n⟩, FB, _, ρ, r1, ?_⟩
   cases eg : g ρ with
   | error x => exact p.err (by rw [eg]; rfl)
   | ok fl =>
    rw [eg] at p
    cases fl with
    | nx ρ5 => exact fun σ' F' H' r' => ⟨FB, F', ρ5, r', p⟩
    | ct ρ5 => exact fun σ' F' H' r' => ⟨FB, F', ρ5, r', p⟩
    | bk ρ5 => exact fun σ' F' H' r' => p σ' F' H' r'
    | rt d => exact p
end
noncomputable def stk {α : Type} : M α := .error .stuck
noncomputable def lF : Dat -> Dat -> M Dat
 | .int i, .int j => .ok (.int (i + j))
 | .str x, .str y => if x.length + y.length <= sizeLine then .ok (.str (x ++ y)) else stk
 | .lst xs, .lst ys => if xs.length + ys.length <= sizeLine then .ok (.lst (xs ++ ys)) else stk
 | .tup xs, .tup ys => if xs.length + ys.length <= sizeLine then .ok (.tup (xs ++ ys)) else stk
 | _, _ => stk
noncomputable def subD : Dat -> Dat -> M Dat
 | .int i, .int j => .ok (.int (i - j))
 | _, _ => stk
noncomputable def fm (i : Int) : Bool := decide (-(2 ^ 64) < i) && decide (i < 2 ^ 64)
noncomputable def rh : Dat -> Dat -> M Dat
 | .int i, .int j => if (fm i || fm j) = true then .ok (.int (i * j)) else stk
 | _, _ => stk
noncomputable def m5 : Dat -> Dat -> M Dat
 | .int i, .int j => if (decide (0 < j) && decide (j < 18446744073709551616)) = true then .ok (.int (i / j)) else stk
 | _, _ => stk
noncomputable def o7 : Dat -> Dat -> M Dat
 | .int i, .int j => if 0 < j then .ok (.int (i % j)) else stk
 | _, _ => stk
noncomputable def Bi : Dat -> Dat -> M Dat
 | .int i, .int j => if (decide (0 <= j) && decide (j <= 1000000) && decide (i.natAbs < 2 ^ 64)) = true then .ok (.int (i ^ j.toNat)) else stk
 | _, _ => stk
noncomputable def negD : Dat -> M Dat
 | .int i => .ok (.int (-i))
 | _ => stk
noncomputable def ltD : Dat -> Dat -> M Dat
 | .int i, .int j => .ok (.bl (decide (i < j)))
 | _, _ => stk
noncomputable def leD : Dat -> Dat -> M Dat
 | .int i, .int j => .ok (.bl (decide (i <= j)))
 | _, _ => stk
noncomputable def gtD : Dat -> Dat -> M Dat
 | .int i, .int j => .ok (.bl (decide (j < i)))
 | _, _ => stk
noncomputable def b2z (b : Bool) : Int := if b then 1 else 0
mutual
noncomputable def eqD : Dat -> Dat -> Bool
 | .non, .non => true
 | .bl a, .bl b => a == b
 | .bl a, .int b => b2z a == b
 | .int a, .bl b => a == b2z b
 | .int a, .int b => a == b
 | .str a, .str b => a == b
 | .tup xs, .tup ys => m6 xs ys
 | .lst xs, .lst ys => m6 xs ys
 | _, _ => false
noncomputable def m6 : List Dat -> List Dat -> Bool
 | [], [] => true
 | d :: ds, e :: es => eqD d e && m6 ds es
 | _, _ => false
end
mutual
noncomputable def okE : Dat -> Nat -> Bool
 | .tup ds, n => (match n with
  | 0 => false
  | n + 1 => iJ ds n)
 | .lst ds, n => (match n with
  | 0 => false
  | n + 1 => iJ ds n)
 | .ins _ _, _ => false
 | .non, _ => true
 | .bl _, _ => true
 | .int _, _ => true
 | .str _, _ => true
noncomputable def iJ : List Dat -> Nat -> Bool
 | [], _ => true
 | d :: ds, n => okE d n && iJ ds n
end
noncomputable def eqM (a b : Dat) : M Dat := if (okE a 40 && okE b 40) = true then .ok (.bl (eqD a b)) else stk
noncomputable def neM (a b : Dat) : M Dat := if (okE a 40 && okE b 40) = true then .ok (.bl (!eqD a b)) else stk
noncomputable def isND : Dat -> Dat -> M Dat
 | .non, .non => .ok (.bl true)
 | _, .non => .ok (.bl false)
 | _, _ => stk
noncomputable def nv (ds : List Dat) (i : Int) : M Dat := match atI ds i with
 | some d => .ok d
 | none => stk
noncomputable def ixD : Dat -> Dat -> M Dat
 | .lst ds, .int i => nv ds i
 | .tup ds, .int i => nv ds i
 | _, _ => stk
noncomputable def zM : List Dat -> M Dat
 | [.lst ds] => .ok (.int ds.length)
 | [.tup ds] => .ok (.int ds.length)
 | _ => stk
noncomputable def ic : List Dat -> M (List Bool)
 | [] => .ok []
 | d :: ds => (asB d).bind fun b => (ic ds).bind fun r => .ok (b :: r)
noncomputable def dY : List Dat -> M (List Int)
 | [] => .ok []
 | d :: ds => (asI d).bind fun b => (dY ds).bind fun r => .ok (b :: r)
noncomputable def allD : List Dat -> M Dat
 | [.lst ds] => (ic ds).bind fun bs => .ok (.bl (bs.all id))
 | _ => stk
noncomputable def wA : List Dat -> M Dat
 | [.lst ds] => .ok (.lst ds)
 | [.tup ds] => .ok (.lst ds)
 | _ => stk
noncomputable def intD : List Dat -> M Dat
 | [.int i] => .ok (.int i)
 | [.bl b] => .ok (.int (b2z b))
 | _ => stk
noncomputable def j4 (i j : Int) : Int := if j > i then j else i
noncomputable def jr (i j : Int) : Int := if j < i then j else i
noncomputable def maxL : List Int -> M Dat
 | [] => stk
 | i :: is => .ok (.int (is.foldl j4 i))
noncomputable def minL : List Int -> M Dat
 | [] => stk
 | i :: is => .ok (.int (is.foldl jr i))
noncomputable def maxD : List Dat -> M Dat
 | [.int i, .int j] => .ok (.int (j4 i j))
 | [.lst ds] => (dY ds).bind maxL
 | _ => stk
noncomputable def minD : List Dat -> M Dat
 | [.int i, .int j] => .ok (.int (jr i j))
 | [.lst ds] => (dY ds).bind minL
 | _ => stk
noncomputable def nF : Dat -> M Dat
 | .int _ => .ok (.bl true)
 | .bl _ => .ok (.bl true)
 | .ins _ _ => stk
 | _ => .ok (.bl false)
noncomputable def l7 : Dat -> M Dat
 | .bl _ => .ok (.bl true)
 | .ins _ _ => stk
 | _ => .ok (.bl false)
noncomputable def gk : Dat -> M Dat
 | .lst _ => .ok (.bl true)
 | .ins _ _ => stk
 | _ => .ok (.bl false)
noncomputable def sq : Dat -> M Dat
 | .tup _ => .ok (.bl true)
 | .ins _ _ => stk
 | _ => .ok (.bl false)
noncomputable def ji : Nat -> List Dat -> List Dat
 | _, [] => []
 | k, d :: ds => .tup [.int k, d] :: ji (k + 1) ds
noncomputable def zO : Dat -> M (List Dat)
 | .lst ds => .ok ds
 | _ => .error .stuck
noncomputable def wQ (fa : ak -> M Dat) : ak -> M (List Dat) := fun ρ => (fa ρ).bind fun d => (zO d).bind fun ds => .ok (ji 0 ds)
noncomputable def dS (nN n : Nat) (g : ak -> M Flo) (ds : List Dat) : M Dat := if ds.length = n then (g (ds.map some ++ List.replicate (nN - ds.length) none)).bind fun fl => match fl with
 | .nx _ => .ok .non
 | .rt d => .ok d
 | _ => stk else stk
noncomputable def Bk (ds : List Dat) (k : Dat) : M (Dat × List Dat) := (asI k).bind fun k => if sizeLine < ds.length then stk else match ixN ds.length k with
 | some j => match ds[j]? with
  | some d => .ok (d, ds.eraseIdx j)
  | none => stk
 | none => stk
noncomputable def Bb (i : Nat) (pt : Pat) (fk : ak -> M Dat) : ak -> M Flo := fun ρ => (jB ρ i).bind fun ds => (fk ρ).bind fun k => (Bk ds k).bind fun p => (gy pt p.1 (ρ.set i (some (.lst p.2)))).bind fun ρ' => .ok (.nx ρ')
@[simp] theorem az {α β : Type} (a : α) (f : α -> M β) : Except.bind (Except.ok a : M α) f = f a := id rfl
@[simp] theorem jY {α β : Type} (e : Err) (f : α -> M β) : Except.bind (Except.error e : M α) f = .error e := id rfl
@[simp] theorem nG : ∀ is : List Int, dY (is.map Dat.int) = .ok is
 | [] => rfl
 | i :: is => by simp [dY, asI, nG is]
@[simp] theorem AH : ∀ is : List Bool, ic (is.map Dat.bl) = .ok is
 | [] => rfl
 | i :: is => by simp [ic, asB, AH is]
@[simp] theorem BA (n : Nat) : ∀ is : List Int, iJ (is.map Dat.int) n = true
 | [] => by simp [iJ]
 | i :: is => by simp [iJ, okE, BA n is]
@[simp] theorem C1 : ∀ is js : List Int, m6 (is.map Dat.int) (js.map Dat.int) = decide (is = js)
 | [], [] => by simp [m6]
 | [], _ :: _ => by simp [m6]
 | _ :: _, [] => by simp [m6]
 | i :: is, j :: js => by
  simp only [List.map_cons, m6, eqD, C1 is js, List.cons.injEq]
  rw [Bool.eq_iff_iff]
  simp
theorem jJ {ds : List Dat} {k : Nat} (h : k < ds.length) : nv ds (k : Int) = .ok ds[k] := by
 unfold nv atI ixN
 rw [if_pos (by omega), if_pos (by omega)]
 simp [h]
theorem getI_int {is : List Int} {k : Int} (h0 : 0 <= k) (h : k < is.length) : nv (is.map Dat.int) k = .ok (.int (is[k.toNat]'(by omega))) := by
 have hj : k.toNat < (is.map Dat.int).length := by simp; omega
 have e : k = (k.toNat : Int) := by omega
 have := jJ hj
 rw [<- e] at this
 rw [this]
 simp
theorem g5 {p : Pat} {g : ak -> M Flo} (P : Nat -> ak -> Prop) : ∀ (ds : List Dat) (k : Nat) (ρ : ak), P k ρ ->
  (∀ (i : Nat) (d : Dat) (ρ : ak), ds[i]? = some d -> P (k + i) ρ -> ∃ ρ1, gy p d ρ = .ok ρ1 /\ ∃ ρ2, (g ρ1 = .ok (.nx ρ2) \/ g ρ1 = .ok (.ct ρ2)) /\ P (k + i + 1) ρ2) -> ∃ ρ', ky p g ds ρ = .ok (.nx ρ') /\ P (k + ds.length) ρ'
 | [], k, ρ, h, _ => ⟨ρ, rfl, h⟩
 | d :: ds, k, ρ, h, st => by
  obtain ⟨ρ1, e1, ρ2, e2, h2⟩ := st 0 d ρ rfl h
  obtain ⟨ρ', e3, h3⟩ := g5 P ds (k + 1) ρ2 h2 fun i d' ρ he hp => by
   have := st (i + 1) d' ρ (by simpa using he) (by rw [show k + (i + 1) = k + 1 + i by omega]; exact hp)
   rw [show k + (i + 1) + 1 = k + 1 + i + 1 by omega] at this
   exact this
  refine ⟨ρ', ?_, by rw [show k + (d :: ds).length = k + 1 + ds.length by simp; omega]; exact h3⟩
  rw [ky, e1]
  rcases e2 with e2 | e2
  ·simp only [az, e2]; exact e3
  ·simp only [az, e2]; exact e3
theorem jm {p : Pat} {fe : ak -> M Dat} {ρ0 : ak} (f : Dat -> Dat) : ∀ (ds : List Dat), (∀ d ∈ ds, ∃ ρ, gy p d ρ0 = .ok ρ /\ fe ρ = .ok (f d)) -> cz p vc fe ρ0 ds = .ok (ds.map f)
 | [], _ => rfl
 | d :: ds, h => by
  obtain ⟨ρ, e1, e2⟩ := h d (by simp)
  rw [cz, e1]
  simp only [az, vc, e2, jm f ds fun x hx => h x (by simp [hx])]
  simp
@[simp] theorem small_def (i : Int) : fm i = (decide (-(2 ^ 64) < i) && decide (i < 2 ^ 64)) := id rfl
@[simp] theorem small_def2 (i : Int) : mi i = (decide (-(2 ^ 62) <= i) && decide (i < 2 ^ 62)) := id rfl
@[simp] theorem eqDs_nilR (ds : List Dat) : m6 ds [] = ds.isEmpty := by cases ds <;> rfl
section
variable {ρ : ak} {fa fb fc : ak -> M Dat} {fr : ak -> M (List Dat)} {ft fu : ak -> M Bool} {g h : ak -> M Flo}
@[simp] theorem e_var0 (d : Dat) (r : ak) : aj 0 (some d :: r) = .ok d := id rfl
@[simp] theorem e_varS (i : Nat) (o : Option Dat) (r : ak) : aj (i + 1) (o :: r) = aj i r := by simp [aj]
@[simp] theorem e_c (d : Dat) : fC d ρ = .ok d := id rfl
@[simp] theorem e_1 (k : Dat -> M Dat) : f1 k fa ρ = (fa ρ).bind k := id rfl
@[simp] theorem e_2 (k : Dat -> Dat -> M Dat) : f2 k fa fb ρ = (fa ρ).bind fun a => (fb ρ).bind fun b => k a b := id rfl
@[simp] theorem e_nil : aT ρ = .ok [] := id rfl
@[simp] theorem e_cons : a9 fa fr ρ = (fa ρ).bind fun a => (fr ρ).bind fun r => .ok (a :: r) := id rfl
@[simp] theorem e_L (k : List Dat -> M Dat) : fL k fr ρ = (fr ρ).bind k := id rfl
@[simp] theorem e_ite : fIte ft fa fb ρ = (ft ρ).bind fun b => if b = true then fa ρ else fb ρ := id rfl
@[simp] theorem e_and : fAnd ft fu ρ = (ft ρ).bind fun b => if b = true then fu ρ else .ok false := id rfl
@[simp] theorem e_or : fOr ft fu ρ = (ft ρ).bind fun b => if b = true then .ok true else fu ρ := id rfl
@[simp] theorem e_not : Az ft ρ = (ft ρ).bind fun b => .ok (!b) := id rfl
@[simp] theorem e_B : fB fa ρ = (fa ρ).bind asB := id rfl
@[simp] theorem e_andV : uv fa fb ρ = (fa ρ).bind fun a => (asB a).bind fun b => if b = true then fb ρ else .ok (.bl false) := id rfl
@[simp] theorem e_tru : ur fa ρ = (fa ρ).bind truD := id rfl
@[simp] theorem e_chain (k k' : Dat -> Dat -> M Dat) : ki k k' fa fb fc ρ = (fa ρ).bind fun a => (fb ρ).bind fun b => (k a b).bind fun x => (asB x).bind fun z => if z = true then (fc ρ).bind fun c => k' b c else .ok (.bl false) := id rfl
@[simp] theorem e_yes : vc ρ = .ok true := id rfl
@[simp] theorem e_it : fIt fa ρ = (fa ρ).bind zP := id rfl
@[simp] theorem e_rng (k : List Dat -> M (List Dat)) : yE k fr ρ = (fr ρ).bind k := id rfl
@[simp] theorem e_enum : wQ fa ρ = (fa ρ).bind fun d => (zO d).bind fun ds => .ok (ji 0 ds) := id rfl
@[simp] theorem e_comp (fi : ak -> M (List Dat)) (ix : List (Option Nat)) (p : Pat) : mS fi ix p ft fa ρ = (fi ρ).bind fun ds => if ds.length <= sizeLine then (cz p ft fa (lZ ix ρ) ds).bind fun r => .ok (.lst r) else .error .stuck := id rfl
@[simp] theorem e_asB (b : Bool) : asB (.bl b) = .ok b := id rfl
@[simp] theorem e_asI (b : Int) : asI (.int b) = .ok b := id rfl
@[simp] theorem e_itemsL (ds : List Dat) : zP (.lst ds) = .ok ds := id rfl
@[simp] theorem e_itL (ds : List Dat) : zO (.lst ds) = .ok ds := id rfl
@[simp] theorem e_notD (b : Bool) : notD (.bl b) = .ok (.bl (!b)) := id rfl
@[simp] theorem e_truB (b : Bool) : truD (.bl b) = .ok b := id rfl
@[simp] theorem e_truL (ds : List Dat) : truD (.lst ds) = .ok (!ds.isEmpty) := id rfl
@[simp] theorem e_addI (i j : Int) : lF (.int i) (.int j) = .ok (.int (i + j)) := id rfl
@[simp] theorem e_subI (i j : Int) : subD (.int i) (.int j) = .ok (.int (i - j)) := id rfl
@[simp] theorem e_negI (i : Int) : negD (.int i) = .ok (.int (-i)) := id rfl
@[simp] theorem e_ltI (i j : Int) : ltD (.int i) (.int j) = .ok (.bl (decide (i < j))) := id rfl
@[simp] theorem e_leI (i j : Int) : leD (.int i) (.int j) = .ok (.bl (decide (i <= j))) := id rfl
@[simp] theorem e_gtI (i j : Int) : gtD (.int i) (.int j) = .ok (.bl (decide (j < i))) := id rfl
@[simp] theorem e_ixL (ds : List Dat) (i : Int) : ixD (.lst ds) (.int i) = nv ds i := id rfl
@[simp] theorem e_ixT (ds : List Dat) (i : Int) : ixD (.tup ds) (.int i) = nv ds i := id rfl
@[simp] theorem e_lenL (ds : List Dat) : zM [.lst ds] = .ok (.int ds.length) := id rfl
@[simp] theorem e_all (ds : List Dat) : allD [.lst ds] = (ic ds).bind fun bs => .ok (.bl (bs.all id)) := id rfl
@[simp] theorem e_listL (ds : List Dat) : wA [.lst ds] = .ok (.lst ds) := id rfl
@[simp] theorem e_intB (b : Bool) : intD [.bl b] = .ok (.int (b2z b)) := id rfl
@[simp] theorem e_max2 (i j : Int) : maxD [.int i, .int j] = .ok (.int (j4 i j)) := id rfl
@[simp] theorem e_min2 (i j : Int) : minD [.int i, .int j] = .ok (.int (jr i j)) := id rfl
@[simp] theorem C4 (ds : List Dat) : maxD [.lst ds] = (dY ds).bind maxL := id rfl
@[simp] theorem e_isiBI (i : Int) : l7 (.int i) = .ok (.bl false) := id rfl
@[simp] theorem e_isiII (i : Int) : nF (.int i) = .ok (.bl true) := id rfl
@[simp] theorem e_isiLL (ds : List Dat) : gk (.lst ds) = .ok (.bl true) := id rfl
@[simp] theorem e_isN (d : Dat) : isND d .non = .ok (.bl (match d with | .non => true | _ => false)) := by cases d <;> rfl
@[simp] theorem e_next : gW ρ = .ok (.nx ρ) := id rfl
@[simp] theorem e_seq : bR g h ρ = (g ρ).bind fun fl => match fl with
 | .nx ρ' => h ρ'
 | fl => .ok fl := id rfl
@[simp] theorem e_if : sIf ft g h ρ = (ft ρ).bind fun b => if b = true then g ρ else h ρ := id rfl
@[simp] theorem e_setB (O : List Nat) (i : Nat) : aX O i fa ρ = (fa (erase O ρ)).bind fun d => .ok (.nx (ρ.set i (some d))) := id rfl
@[simp] theorem e_setA (own : Bool) (i : Nat) : rz own i fa ρ = (fa ρ).bind fun d => if oQ own d = true then .ok (.nx (ρ.set i (some d))) else .error .stuck := id rfl
@[simp] theorem e_ret : iH fa ρ = (fa ρ).bind fun d => .ok (.rt d) := id rfl
@[simp] theorem e_retN : vG fa ρ = (fa ρ).bind fun d => if isL d = true then .error .stuck else .ok (.rt d) := id rfl
@[simp] theorem e_for (O : List Nat) (fi : ak -> M (List Dat)) (p : Pat) : vb O fi p g ρ = (fi (erase O ρ)).bind fun ds => ky p g ds ρ := id rfl
@[simp] theorem e_unpB (O : List Nat) (p : Pat) : y0 O p fa ρ = (fa (erase O ρ)).bind fun d => (gy p d ρ).bind fun ρ' => .ok (.nx ρ') := id rfl
@[simp] theorem e_appB (O : List Nat) (i : Nat) : ku O i fa ρ = (jB ρ i).bind fun ds => (fa (erase O ρ)).bind fun d => if ds.length < sizeLine then put ρ i (ds ++ [d]) else .error .stuck := id rfl
@[simp] theorem e_setI (i : Nat) : ya i fb fa ρ = (fa ρ).bind fun d => (jB ρ i).bind fun ds => (fb ρ).bind fun k => (asI k).bind fun k => if m4 d = true then (match ixN ds.length k with
 | some j => put ρ i (ds.set j d)
 | none => .error .stuck) else .error .stuck := id rfl
@[simp] theorem e_popU (i : Nat) (pt : Pat) : Bb i pt fa ρ = (jB ρ i).bind fun ds => (fa ρ).bind fun k => (Bk ds k).bind fun p => (gy pt p.1 (ρ.set i (some (.lst p.2)))).bind fun ρ' => .ok (.nx ρ') := id rfl
@[simp] theorem e_put (i : Nat) (ds : List Dat) : put ρ i ds = .ok (.nx (ρ.set i (some (.lst ds)))) := id rfl
@[simp] theorem e_lst0 (ds : List Dat) (r : ak) : jB (some (.lst ds) :: r) 0 = .ok ds := id rfl
@[simp] theorem e_lstS (i : Nat) (o : Option Dat) (r : ak) : jB (o :: r) (i + 1) = jB r i := by simp [jB]
@[simp] theorem e_er0 : erase [] ρ = ρ := id rfl
@[simp] theorem e_erS (i : Nat) (O : List Nat) : erase (i :: O) ρ = erase O (ρ.set i none) := id rfl
@[simp] theorem e_bnm (i : Nat) (d : Dat) : gy (.nm i) d ρ = .ok (ρ.set i (some d)) := id rfl
@[simp] theorem e_btp (is : List Nat) (ds : List Dat) : gy (.tp is) (.tup ds) ρ = if ds.length = is.length then .ok (kD is ds ρ) else .error .stuck := id rfl
@[simp] theorem e_sa0 (ds : List Dat) : kD [] ds ρ = ρ := by cases ds <;> rfl
@[simp] theorem e_saS (i : Nat) (is : List Nat) (d : Dat) (ds : List Dat) : kD (i :: is) (d :: ds) ρ = kD is ds (ρ.set i (some d)) := id rfl
@[simp] theorem e_in0 : lZ [] ρ = [] := id rfl
@[simp] theorem e_inN (ix : List (Option Nat)) : lZ (none :: ix) ρ = none :: lZ ix ρ := id rfl
@[simp] theorem e_inS (j : Nat) (ix : List (Option Nat)) : lZ (some j :: ix) ρ = (ρ[j]?).join :: lZ ix ρ := id rfl
@[simp] theorem e_tup (ds : List Dat) : ir ds = if ds.length <= sizeLine then .ok (.tup ds) else .error .stuck := id rfl
@[simp] theorem e_lst (ds : List Dat) : gB ds = if ds.length <= sizeLine then .ok (.lst ds) else .error .stuck := id rfl
@[simp] theorem e_line : sizeLine = 16777216 := sizeLine_eq
@[simp] theorem e_run (a b : Nat) (ds : List Dat) : dS a b g ds = if ds.length = b then (g (ds.map some ++ List.replicate (a - ds.length) none)).bind fun fl => match fl with
 | .nx _ => .ok .non
 | .rt d => .ok d
 | _ => stk else stk := id rfl
@[simp] theorem e_rng1 {j : Int} (h : mi j = true) : zE [.int j] = .ok (cF 0 j.toNat) := by show (if mi j = true then _ else _) = _; rw [if_pos h]
@[simp] theorem uA {i j : Int} (h : 0 < j) : o7 (.int i) (.int j) = .ok (.int (i % j)) := by simp [o7, h]
@[simp] theorem e_fdiv {i j : Int} (h : 0 < j) (h2 : j < 18446744073709551616) : m5 (.int i) (.int j) = .ok (.int (i / j)) := by simp [m5, h, h2]
@[simp] theorem e_mulR {i j : Int} (h : fm j = true) : rh (.int i) (.int j) = .ok (.int (i * j)) := by show (if (fm i || fm j) = true then _ else _) = _; rw [h, Bool.or_true, if_pos rfl]
@[simp] theorem e_mulL {i j : Int} (h : fm i = true) : rh (.int i) (.int j) = .ok (.int (i * j)) := by show (if (fm i || fm j) = true then _ else _) = _; rw [h, Bool.true_or, if_pos rfl]
end
end L2
namespace L2
open PySem PySem.Spec PyProof.Rows
section
variable {X : Cx} {K : PySem.W.Frag} {W : gI} {own ro : Bool} {e a b c : Expr} {es rest : List Expr} {x : Str} {pos p : Pos} {f fa fb fc : ak -> M Dat} {fr : ak -> M (List Dat)} {ft fu : ak -> M Bool}
theorem PE.imp {t t' : TE} (h : PE X e t) (q : ∀ σ H Q, t' σ H Q -> t σ H Q) : PE X e t' := fun pins s σ H Q I z => h pins s σ H Q I (q σ H Q z)
theorem PT.imp {t t' : TT} (h : PT X e t) (q : ∀ σ H Q, t' σ H Q -> t σ H Q) : PT X e t' := fun pins s σ H Q I z => h pins s σ H Q I (q σ H Q z)
theorem PW.imp {t t' : TT} (h : PW X e t) (q : ∀ σ H Q, t' σ H Q -> t σ H Q) : PW X e t' := fun wh pins s σ H Q I z => h wh pins s σ H Q I (q σ H Q z)
theorem PA.imp {t t' : TA} (h : PA X es t) (q : ∀ σ H Q, t' σ H Q -> t σ H Q) : PA X es t' := fun ps pins s σ H Q I z => h ps pins s σ H Q I (q σ H Q z)
theorem PI.imp {tg : Expr} {t t' : TI} (h : PI X tg e t) (q : ∀ σ H Q, t' σ H Q -> t σ H Q) : PI X tg e t' := fun pins s σ H Q I z => h pins s σ H Q I (q σ H Q z)
theorem PS.imp {st : Stmt} {t t' : TS} (h : PS X st t) (q : ∀ D σ H, t' D σ H -> t D σ H) : PS X st t' := fun pins s σ H D I z => h pins s σ H D I (q D σ H z)
theorem PSs.imp {st : List Stmt} {t t' : TS} (h : PSs X st t) (q : ∀ D σ H, t' D σ H -> t D σ H) : PSs X st t' := fun pins s σ H D I z => h pins s σ H D I (q D σ H z)
noncomputable abbrev DE (K : PySem.W.Frag) (W : gI) (own : Bool) (X : Cx) (e : Expr) (f : ak -> M Dat) : Prop := PE X e (tD K W own f)
noncomputable abbrev DT (K : PySem.W.Frag) (W : gI) (X : Cx) (e : Expr) (f : ak -> M Bool) : Prop := PT X e (tDT K W f)
noncomputable abbrev DW (K : PySem.W.Frag) (W : gI) (X : Cx) (e : Expr) (f : ak -> M Bool) : Prop := PW X e (tDT K W f)
noncomputable abbrev DA (K : PySem.W.Frag) (W : gI) (X : Cx) (es : List Expr) (f : ak -> M (List Dat)) : Prop := PA X es (tDA K W f)
noncomputable abbrev DI (K : PySem.W.Frag) (W : gI) (X : Cx) (tg e : Expr) (f : ak -> M (List Dat)) : Prop := PI X tg e (iD K W f)
noncomputable abbrev DG (K : PySem.W.Frag) (X : Cx) (tg : Expr) (p : Pat) : Prop := PG X tg (gP K p)
noncomputable abbrev DS (K : PySem.W.Frag) (W : gI) (ro : Bool) (X : Cx) (OL O O' : List Nat) (st : Stmt) (g : ak -> M Flo) : Prop := ∀ F0 H0 : Hp, PS X st (tS K W ro F0 H0 OL O O' g)
noncomputable abbrev DSs (K : PySem.W.Frag) (W : gI) (ro : Bool) (X : Cx) (OL O O' : List Nat) (st : List Stmt) (g : ak -> M Flo) : Prop := ∀ F0 H0 : Hp, PSs X st (tS K W ro F0 H0 OL O O' g)
noncomputable abbrev Op2 (K : PySem.W.Frag) (W : gI) (own : Bool) (X : Cx) (o : Value -> Value -> Sem Value) (g : Dat -> Dat -> M Dat) : Prop := OpR X o (rD2 K W own g)
noncomputable abbrev v8 (K : PySem.W.Frag) (W : gI) (own : Bool) (X : Cx) (v : Value) (g : List Dat -> M Dat) : Prop := eR X v (rDL K W own g)
theorem ao (i : Nat) (hN : X.N[i]? = some x := by rfl) (hv : Vis X.env.scope x := by first | exact Or.inl rfl | exact Or.inr (Or.inl rfl) | exact Or.inr (Or.inr rfl)) (hd : (x == ("__debug__" : Str)) = false := by decide)
  (hcd : (x == ("__classdict__" : Str)) = false := by decide) : DE K W false X (.Name x pos) (aj i) := (pv i hN hv hd hcd).imp fun _ _ _ => rd_var
theorem ae {i : Int} {j} : DE K W false X (.Constant (.int i) j pos) (fC (.int i)) := vR.imp fun _ _ _ => rd_c fun _ => rfl
theorem uE {k : Bool} {j} : DE K W false X (.Constant (.bool k) j pos) (fC (.bl k)) := pe_bl.imp fun _ _ _ => rd_c fun _ => rfl
theorem zX {j} : DE K W false X (.Constant .none j pos) (fC .non) := pe_non.imp fun _ _ _ => rd_c fun _ => rfl
theorem C8 {n : Int} (hm : ∃ t, X.mg x = some (.int n t)) (hg : Gl X x := by rfl) (hd : (x == ("__debug__" : Str)) = false := by decide) : DE K W false X (.Name x pos) (fC (.int n)) := (pe_gint hg hm hd).imp fun _ _ _ => rd_c fun _ => rfl
theorem aJ (h : DE K W true X e f) : DE K W false X e f := PE.imp h fun _ _ _ ⟨F, ρ, r, s, p⟩ => ⟨F, ρ, r, s, p.frz⟩
theorem aE {op : Operator} {g : Dat -> Dat -> M Dat} (ho : Op2 K W own X (binaryOp op) g) (ha : DE K W false X a fa) (hb : DE K W false X b fb) : DE K W own X (.BinOp a op b pos) (f2 g fa fb) := (pe_op ho ha hb).imp fun _ _ _ => rd_2
theorem de_un {op : UnaryOp} {g : Dat -> M Dat} (ho : UnR X (unaryOp op) (rD1 K W own g)) (ha : DE K W false X a fa) : DE K W own X (.UnaryOp op a pos) (f1 g fa) := (pe_un ho ha).imp fun _ _ _ => rd_1
theorem zY {op : CmpOp} {g : Dat -> Dat -> M Dat} (ho : Op2 K W false X (compareOp op) g) (ha : DE K W false X a fa) (hb : DE K W false X b fb) (hm : behindInMarks op b = false := by first | exact wu _ | with_unfolding_all rfl) : DE K W false X (.Compare a [op] [b] pos) (f2 g fa fb) :=
 (pe_cmpR ho ha hb hm).imp fun _ _ _ => rd_2
theorem fM {op : CmpOp} {g : Dat -> Dat -> M Dat} (ho : Op2 K W false X (compareOp op) g) (ha : DE K W false X a fa) (hb : DE K W false X b fb) (hm : behindInMarks op b = false := by first | exact wu _ | with_unfolding_all rfl) : DT K W X (.Compare a [op] [b] pos) (fB (f2 g fa fb)) :=
 (tB ho ha hb hm).imp fun σ H Q h => by
  have q := rd_B h
  exact rd_2 (own := false) q
theorem de_chain {op op' : CmpOp} {g g' : Dat -> Dat -> M Dat} (ho : Op2 K W false X (compareOp op) g) (ho' : Op2 K W false X (compareOp op') g') (ha : DE K W false X a fa) (hb : DE K W false X b fb) (hc : DE K W false X c fc)
  (hm : lastMarks [op, op'] [b, c] = false := by with_unfolding_all rfl) : DE K W false X (.Compare a [op, op'] [b, c] pos) (ki g g' fa fb fc) := (pe_chain ho ho' ha hb hc hm).imp fun _ _ _ => zF
theorem uB {op op' : CmpOp} {g g' : Dat -> Dat -> M Dat} (ho : Op2 K W false X (compareOp op) g) (ho' : Op2 K W false X (compareOp op') g') (ha : DE K W false X a fa) (hb : DE K W false X b fb) (hc : DE K W false X c fc)
  (hm : lastMarks [op, op'] [b, c] = false := by with_unfolding_all rfl) : DT K W X (.Compare a [op, op'] [b, c] pos) (fB (ki g g' fa fb fc)) := (pt_chain ho ho' ha hb hc hm).imp fun σ H Q h => by
  have q := rd_B h
  exact zF q
theorem m7 (ha : DE K W false X a fa) (hK : X.K = K := by rfl) (he : ∀ whole, isTrue a X.env whole = (do let v <- whole; standAt a.pos; holding [v] (truthy v)) := by intro _; rfl) : DT K W X a (ur fa) := by
 subst hK
 exact (pt_truth ha he).imp fun _ _ _ => rd_tru
theorem sC (ha : DT K W X a ft) : DT K W X (.UnaryOp .Not a pos) (Az ft) := (pt_not ha).imp fun _ _ _ => rd_not
theorem dw_and1 (ha : DT K W X a ft) : DW K W X (.BoolOp .And [a] pos) ft := pw_and1 ha
theorem wW (ha : DT K W X a ft) : DW K W X (.BoolOp .Or [a] pos) ft := pw_or1 ha
theorem dw_and (ha : DT K W X a ft) (hb : DW K W X (.BoolOp .And (b :: rest) pos) fu) : DW K W X (.BoolOp .And (a :: b :: rest) pos) (fAnd ft fu) := (pw_and ha hb).imp fun _ _ _ => rd_and
theorem AB (ha : DT K W X a ft) (hb : DW K W X (.BoolOp .Or (b :: rest) pos) fu) : DW K W X (.BoolOp .Or (a :: b :: rest) pos) (fOr ft fu) := (pw_or ha hb).imp fun _ _ _ => rd_or
theorem de_one {op} (h : DE K W false X a f) : DE K W false X (.BoolOp op [a] pos) f := pe_one h
theorem Ca (ha : DE K W false X a fa) (hb : DE K W false X (.BoolOp .And (b :: rest) pos) fb) : DE K W false X (.BoolOp .And (a :: b :: rest) pos) (uv fa fb) := (pe_and ha hb).imp fun _ _ _ => rd_andV
theorem de_not (ha : DE K W false X a fa) : DE K W false X (.UnaryOp .Not a pos) (f1 notD fa) := (pe_not ha).imp fun _ _ _ => rd_notV
theorem de_ite (hc : DT K W X c ft) (ha : DE K W own X a fa) (hb : DE K W own X b fb) : DE K W own X (.IfExp c a b pos) (fIte ft fa fb) := (pe_ifExp hc ha hb).imp fun _ _ _ => rd_ite
theorem ai : DA K W X [] aT := eU.imp fun _ _ _ => rd_nil
theorem a8 (ha : DE K W false X e fa) (hr : DA K W X es fr) (hs : starEach (e :: es) X.env = (false, eval e X.env) :: starEach es X.env := by rfl) : DA K W X (e :: es) (a9 fa fr) := (aW ha hr hs).imp fun _ _ _ => rd_cons
theorem i8 {x1} (h : DA K W X es fr) : DE K W own X (.Tuple es x1 pos) (fL ir fr) := (Bq h).imp fun _ _ _ => rd_tup
theorem ee (h : DA K W X es fr) : DE K W true X (.List es pos) (fL gB fr) := (pe_lst h).imp fun _ _ _ => rd_lst
theorem aZ {id : String} {g : List Dat -> M Dat} (hc : v8 K W own X (.builtin id) g) (hm : X.mg x = none) (hv : bootBuiltins x = some (.builtin id)) (ha : DA K W X (e :: es) fr) (hg : Gl X x := by rfl) (hn : x ≠ "__name__" := by decide) (hdb : (x == ("__debug__" : Str)) = false := by decide)
  (hst : starEach (e :: es) X.env = (false, eval e X.env) :: starEach es X.env := by rfl) (hpl : (backTo pos (starEach es X.env)).any (·.1) = false := by rfl) : DE K W own X (.Call (.Name x p) (e :: es) [] pos) (fL g fr) :=
 (g4 hc hg hm hv ha hn hdb hst hpl).imp fun _ _ _ => rd_L
theorem jk {T : String} {g : List Dat -> M Dat} (hc : v8 K W own X (.type T) g) (hm : X.mg x = none) (hv : bootBuiltins x = some (.type T)) (ha : DA K W X (e :: es) fr) (hg : Gl X x := by rfl) (hn : x ≠ "__name__" := by decide) (hdb : (x == ("__debug__" : Str)) = false := by decide)
  (hst : starEach (e :: es) X.env = (false, eval e X.env) :: starEach es X.env := by rfl) (hpl : (backTo pos (starEach es X.env)).any (·.1) = false := by rfl) : DE K W own X (.Call (.Name x p) (e :: es) [] pos) (fL g fr) :=
 (Bu hc hg hm hv ha hn hdb hst hpl).imp fun _ _ _ => rd_L
theorem aN {g : Dat -> Dat -> M Dat} (hr : IxR X (rD2 K W own g)) (ha : DE K W false X a fa) (hb : DE K W false X b fb) (hs : CM b := by exact fun _ _ => rfl) : DE K W own X (.Subscript a b pos) (f2 g fa fb) := (pe_ix hr ha hb hs).imp fun _ _ _ => rd_2
theorem AD {i : Nat} (hN : X.N.Nodup) (hi : X.N[i]? = some x := by rfl) (hx : Loc X.env.scope x := by first | exact Or.inl rfl | exact Or.inr rfl) (hf : X.fn x = true \/ X.env.scope.names.lookup x = some .local := by first | exact .inl rfl | exact .inr rfl | assumption) : DG K X (.Name x pos) (.nm i) := yh hN hi hx hf
theorem kl {tg : Expr} (hl : DE K W false X e fa) (hK : X.K = K := by rfl) : DI K W X tg e (fIt fa) := by
 subst hK
 refine PI.imp (t := iSeq X.K (tD X.K W false fa)) ?_ fun _ _ _ => ri_seq
 intro pins s σ H R I h
 refine thn (hl pins s σ H _ I h) fun v s1 ⟨y, H1, I1, r1, q1⟩ => ?_
 obtain ⟨l, e1, q⟩ := q1
 subst e1
 cases r1
 rcases q with ⟨⟨xs, hq⟩, q⟩ | ⟨⟨xs, hq⟩, q⟩
 ·obtain ⟨its, rv, p, hz⟩ := I1.list hq
  refine wpAny_pyIter_list p.isList ?_
  refine ⟨s1.heap.objs.size, [s1.heap.objs.size], _, _, H1, rfl, I1.kept (t' := s1.toks) fun b o e => Heap.get?_push_of_some _ e, AV l _, ⟨_, Heap.get?_push_size _ rfl, rfl, rfl⟩, fun b hb => ?_, q⟩
  have e : b = s1.heap.objs.size := by simpa using hb
  subst e
  exact I1.fpOk (Nat.le_refl _) (I1.hok.fresh (Nat.le_refl _))
 ·obtain ⟨its, rv, p, hz⟩ := I1.tuple hq
  refine wpAny_pyIter_tuple (show s1.heap.IsTuple l its.toArray from p) ?_
  refine ⟨s1.heap.objs.size, [s1.heap.objs.size], _, _, H1, rfl, I1.kept (t' := s1.toks) fun b o e => Heap.get?_push_of_some _ e, Ac l _, ⟨_, Heap.get?_push_size _ rfl, rfl, rfl⟩, fun b hb => ?_, q⟩
  have e : b = s1.heap.objs.size := by simpa using hb
  subst e
  exact I1.fpOk (Nat.le_refl _) (I1.hok.fresh (Nat.le_refl _))
theorem ll {tg : Expr} (hm : X.mg "range" = none) (ha : DA K W X [a] fr) (hg : Gl X "range" := by rfl) (hs : starEach [a] X.env = [(false, eval a X.env)] := by rfl) : DI K W X tg (.Call (.Name "range" p) [a] [] pos) (yE zE fr) := (Bn hg hm ha hs).imp fun _ _ _ => ri_rng1
variable {OL O O' O2 : List Nat} {st : Stmt} {sts : List Stmt} {g h : ak -> M Flo}
theorem eX : DSs K W ro X OL O O [] gW := fun _ _ => yb.imp fun _ _ _ => rs_next
theorem ah (h1 : DS K W ro X OL O O' st g) (h2 : DSs K W ro X OL O' O2 sts h) : DSs K W ro X OL O O2 (st :: sts) (bR g h) := fun F0 H0 => (jx (h1 F0 H0) (h2 F0 H0)).imp fun _ _ _ => rs_seq
theorem aF (h1 : DS K W ro X OL O O' st g) : DSs K W ro X OL O O' [st] g := fun F0 H0 => qi (h1 F0 H0)
theorem bW (h1 : DSs K W ro X OL O2 O' sts g) (hs : ∀ i ∈ O2, i ∈ O := by decide) : DSs K W ro X OL O O' sts g := fun F0 H0 => PSs.imp (h1 F0 H0) fun _ _ _ => tS.enter hs
theorem jj {sa sb : List Stmt} (hc : DT K W X c ft) (ha : DSs K W ro X OL O O' sa g) (hb : DSs K W ro X OL O O' sb h) : DS K W ro X OL O O' (.If c sa sb pos) (sIf ft g h) := fun F0 H0 => (ps_if hc (ha F0 H0) (hb F0 H0)).imp fun _ _ _ => rs_if
theorem av {i : Nat} {pos' : Pos} (hN : X.N.Nodup) (he : DE K W own X e f) (hi : X.N[i]? = some x := by rfl) (hx : Loc X.env.scope x := by first | exact Or.inl rfl | exact Or.inr rfl) (hs : swapsWith e (some (.Name x pos')) pos.line X.env = pure false := by rfl) (hf : X.fn x = true \/ X.env.scope.names.lookup x = some .local := by first | exact .inl rfl | exact .inr rfl | assumption) :
  DS K W ro X OL O (aft own i O) (.Assign [.Name x pos'] e pos) (aX O i f) := fun F0 H0 => (zG hN hi hx he hs hf).imp fun _ _ _ => Bd
theorem uC {i : Nat} {pos' : Pos} (hN : X.N.Nodup) (he : DE K W own X e f) (hi : X.N[i]? = some x := by rfl) (hx : Loc X.env.scope x := by first | exact Or.inl rfl | exact Or.inr rfl) (hs : swapsWith e (some (.Name x pos')) pos.line X.env = pure false := by rfl) (hf : X.fn x = true \/ X.env.scope.names.lookup x = some .local := by first | exact .inl rfl | exact .inr rfl | assumption) :
  DS K W ro X OL O (aft own i O) (.Assign [.Name x pos'] e pos) (rz own i f) := fun F0 H0 => (zG hN hi hx he hs hf).imp fun _ _ _ => rs_setA
theorem bN (he : DE K W ro X e f) : DS K W ro X OL O O' (.Return (some e) pos) (iH f) := fun F0 H0 => (Bf he).imp fun _ _ _ => rs_ret
theorem C6 (he : DE K W false X e f) : DS K W true X OL O O' (.Return (some e) pos) (vG f) := fun F0 H0 => (Bf he).imp fun _ _ _ => rs_retN
theorem C5 {i : Nat} (ho : i ∈ O := by decide) (hN : X.N[i]? = some x := by rfl) (hv : Vis X.env.scope x := by first | exact Or.inl rfl | exact Or.inr (Or.inl rfl) | exact Or.inr (Or.inr rfl)) (hd : (x == ("__debug__" : Str)) = false := by decide)
  (hcd : (x == ("__classdict__" : Str)) = false := by decide) : DS K W true X OL O O' (.Return (some (.Name x p)) pos) (iH (aj i)) := fun F0 H0 => (Bf (pv i hN hv hd hcd)).imp fun _ _ _ => rs_retV ho
theorem kj {tg iter : Expr} {body : List Stmt} {fs : ak -> M (List Dat)} {pt : Pat} (hi : DI K W X tg iter fs) (hg : DG K X tg pt) (hb : DSs K W ro X O O O body g) (n : ∀ i ∈ pt.names, i ∉ O := by decide) (hp : PassesOwn (model X.prog X.w) X.A X.env X.xe := by exact PassesOwn.never) (hc : X.calm = true := by rfl)
  (hs : ∀ x, foldedSetIterable iter X.env x = pure x := by intro _; rfl) : DS K W ro X OL O O (.For tg iter body [] pos) (vb O fs pt g) := fun F0 H0 => (ps_for hp hc hi hg (hb F0 H0) hs).imp fun _ _ _ => rs_for n
theorem zW {m : Nat} {body : List Stmt} (hc : DT K W X c ft) (hb : DSs K W ro X O O O body g) (hp : PassesOwn (model X.prog X.w) X.A X.env X.xe := by exact PassesOwn.never) : DS K W ro X OL O O (.While c body [] pos) (dR ft g m) := fun F0 H0 => (ps_while hp hc (hb F0 H0)).imp fun _ _ _ => rs_while
theorem i7 {i : Nat} {apos : Pos} {q : Pos} (he : DE K W false X e f) (ho : i ∈ O := by decide) (hN : X.N[i]? = some x := by rfl) (hv : Vis X.env.scope x := by first | exact Or.inl rfl | exact Or.inr (Or.inl rfl) | exact Or.inr (Or.inr rfl)) (hd : (x == ("__debug__" : Str)) = false := by decide) (hcd : (x == ("__classdict__" : Str)) = false := by decide) (hK : X.K = K := by rfl)
  (hst : starEach [e] X.env = [(false, eval e X.env)] := by rfl) (hbase : attributeBase (.Name x p) "append" X.env (eval (.Name x p) X.env) = eval (.Name x p) X.env := by rfl) (hfew : ((backTo q (starEach [e] X.env)).all (fun x => !x.1) && (backToKw q (keywordEach [] X.env)).all (fun x => x.1.isSome) && decide ([e].length + ([] : List Keyword).length + (if ([] : List Keyword).isEmpty then 0 else 1) < 30)) = true := by rfl) (hplain : (backTo q (starEach [] X.env)).any (·.1) = false := by rfl) (hline : (apos.endLine == q.line) = true := by rfl) (hsw : swapsWith (.Call (.Attribute (.Name x p) "append" apos) [e] [] q) none pos.line X.env = pure false := by rfl) :
  DS K W ro X OL O O (.Expr (.Call (.Attribute (.Name x p) "append" apos) [e] [] q) pos) (ku O i f) := fun F0 H0 => by
 subst hK
 exact PS.imp (yc (pe_bm PySem.F.plainAttrs_list PySem.F.slot_list_append PySem.F.type_list_append wy (pv i hN hv hd hcd) (aW he eU hst) hbase hfew hline hst hplain) hsw) fun _ _ _ => rs_appB ho
end
end L2
namespace L2
open PySem PySem.Spec PyProof.Rows
section
variable {X : Cx} {K : PySem.W.Frag} {W : gI} {own : Bool}
theorem OpR.imp {f : Value -> Value -> Sem Value} {r r' : R2} (h : OpR X f r) (q : ∀ x y H Q, r' x y H Q -> r x y H Q) : OpR X f r' := fun pins s σ H x y v u Q I rx ry z => h pins s σ H x y v u Q I rx ry (q x y H Q z)
theorem UnR.imp {f : Value -> Sem Value} {r r' : V -> Hp -> VK -> Prop} (h : UnR X f r) (q : ∀ x H Q, r' x H Q -> r x H Q) : UnR X f r' := fun pins s σ H x v Q I rx z => h pins s σ H x v Q I rx (q x H Q z)
theorem eR.imp {f : Value} {r r' : List V -> Hp -> VK -> Prop} (h : eR X f r) (q : ∀ x H Q, r' x H Q -> r x H Q) : eR X f r' := fun pins s σ H x v Q I rx z => h pins s σ H x v Q I rx (q x H Q z)
theorem IxR.imp {r r' : R2} (h : IxR X r) (q : ∀ x y H Q, r' x y H Q -> r x y H Q) : IxR X r' := fun va sl pins s σ H x y v u Q I rx ry z e => h va sl pins s σ H x y v u Q I rx ry (q x y H Q z) e
theorem aP.stuck {F H : Hp} {Q : VK} {P : Prop} (p : aP K W own F H (stk) Q) : P := (W.ns p).elim
theorem aP.int {F H : Hp} {Q : VK} {i : Int} (p : aP K W own F H (.ok (.int i)) Q) (s : b9 F H) : Q (.int i) H := p _ F H (Step.refl s) (by cases own <;> rfl)
theorem aP.bl {F H : Hp} {Q : VK} {b : Bool} (p : aP K W own F H (.ok (.bl b)) Q) (s : b9 F H) : Q (.bl b) H := p _ F H (Step.refl s) (by cases own <;> rfl)
theorem aP.str {F H : Hp} {Q : VK} {x : Str} (p : aP K W own F H (.ok (.str x)) Q) (s : b9 F H) : Q (.str x) H := p _ F H (Step.refl s) (by cases own <;> rfl)
theorem aP.tup {F H : Hp} {Q : VK} {ds : List Dat} {xs : List V} {a : Addr} (p : aP K W own F H (.ok (.tup ds)) Q) (s : b9 F H) (q : aB K F ds xs) (ha : H a = none) : Q (.ref a) (upd H a (.tup xs)) :=
 p _ _ _ (Step.lay s ha) (by
  have : cA K (upd F a (.tup xs)) (.tup ds) (.ref a) := ⟨a, xs, rfl, SqT.of ar, q.mono (b9.upd (s.free ha))⟩
  cases own <;> exact this)
theorem aP.same {F H : Hp} {Q : VK} {ds : List Dat} {v : V} (p : aP K W own F H (.ok (.tup ds)) Q) (s : b9 F H) (q : cA K F (.tup ds) v) : Q v H := p _ F H (Step.refl s) (by cases own <;> exact q)
theorem aP.lst {F H : Hp} {Q : VK} {ds : List Dat} {xs : List V} {a : Addr} (p : aP K W true F H (.ok (.lst ds)) Q) (s : b9 F H) (q : aB K F ds xs) (ha : H a = none) : Q (.ref a) (upd H a (.lst xs)) :=
 p _ F _ (Step.grow s ha) ⟨a, xs, rfl, ar, s.free ha, ha, q⟩
theorem iu {g : Dat -> Dat -> M Dat} (hg : ∀ a b, (∃ i j, a = .int i /\ b = .int j) \/ g a b = stk) {x y : V} {H : Hp} {Q : VK} (h : rD2 K W own g x y H Q) : ∃ F i j, b9 F H /\ x = .int i /\ y = .int j /\ aP K W own F H (g (.int i) (.int j)) Q := by
 obtain ⟨F, a, b, s, qa, qb, p⟩ := h
 rcases hg a b with ⟨i, j, rfl, rfl⟩ | e
 ·exact ⟨F, i, j, s, qa, qb, p⟩
 ·rw [e] at p; exact p.stuck
theorem o_sub : Op2 K W own X (binaryOp .Sub) subD := op_sub.imp fun x y H Q h => by
 obtain ⟨F, i, j, s, e1, e2, p⟩ := iu (fun a b => by cases a <;> cases b <;> first | exact .inr rfl | exact .inl ⟨_, _, rfl, rfl⟩) h
 exact ⟨i, j, e1, e2, p.int s⟩
theorem kx : Op2 K W own X (binaryOp .Mult) rh := op_mul.imp fun x y H Q h => by
 obtain ⟨F, i, j, s, e1, e2, p⟩ := iu (fun a b => by cases a <;> cases b <;> first | exact .inr rfl | exact .inl ⟨_, _, rfl, rfl⟩) h
 have p' : aP K W own F H (if (fm i || fm j) = true then .ok (.int (i * j)) else stk) Q := p
 by_cases hc : (fm i || fm j) = true
 ·rw [if_pos hc] at p'
  refine ⟨i, j, e1, e2, ?_, p'.int s⟩
  unfold fm at hc
  simp only [Bool.or_eq_true, Bool.and_eq_true, decide_eq_true_eq] at hc
  exact hc
 ·rw [if_neg hc] at p'; exact p'.stuck
theorem BJ {j : Int} (h0 : 0 < j) (h1 : j < 18446744073709551616) : j.natAbs.log2 < 9000 := by
 have a : j.natAbs < 2 ^ 64 := by omega
 have b := (Nat.log2_lt (n := j.natAbs) (k := 64) (by omega)).mpr a
 omega
theorem Bx : OpR X (binaryOp .FloorDiv) (rI (fun _ j => 0 < j /\ j < 18446744073709551616) fun i j => .int (i / j)) := opI fun i j _ _ _ _ _ hc q => by
 obtain ⟨c1, c2⟩ := hc
 exact floordiv_int (by omega) (by rw [Int.fdiv_eq_ediv_of_nonneg i (by omega)]; exact q) (.inl (PyProof.noPylong_of_log2 (BJ c1 c2)))
theorem jf : Op2 K W own X (binaryOp .FloorDiv) m5 := Bx.imp fun x y H Q h => by
 obtain ⟨F, i, j, s, e1, e2, p⟩ := iu (fun a b => by cases a <;> cases b <;> first | exact .inr rfl | exact .inl ⟨_, _, rfl, rfl⟩) h
 have p' : aP K W own F H (if (decide (0 < j) && decide (j < 18446744073709551616)) = true then .ok (.int (i / j)) else stk) Q := p
 by_cases hc : (decide (0 < j) && decide (j < 18446744073709551616)) = true
 ·rw [if_pos hc] at p'
  simp only [Bool.and_eq_true, decide_eq_true_eq] at hc
  exact ⟨i, j, e1, e2, hc, p'.int s⟩
 ·rw [if_neg hc] at p'; exact p'.stuck
theorem gA : Op2 K W own X (binaryOp .Mod) o7 := op_mod.imp fun x y H Q h => by
 obtain ⟨F, i, j, s, e1, e2, p⟩ := iu (fun a b => by cases a <;> cases b <;> first | exact .inr rfl | exact .inl ⟨_, _, rfl, rfl⟩) h
 have p' : aP K W own F H (if 0 < j then .ok (.int (i % j)) else stk) Q := p
 by_cases hc : 0 < j
 ·rw [if_pos hc] at p'
  exact ⟨i, j, e1, e2, hc, p'.int s⟩
 ·rw [if_neg hc] at p'; exact p'.stuck
theorem wt : Op2 K W own X (binaryOp .Pow) Bi := op_pow.imp fun x y H Q h => by
 obtain ⟨F, i, j, s, e1, e2, p⟩ := iu (fun a b => by cases a <;> cases b <;> first | exact .inr rfl | exact .inl ⟨_, _, rfl, rfl⟩) h
 have p' : aP K W own F H (if (decide (0 <= j) && decide (j <= 1000000) && decide (i.natAbs < 2 ^ 64)) = true then .ok (.int (i ^ j.toNat)) else stk) Q := p
 by_cases hc : (decide (0 <= j) && decide (j <= 1000000) && decide (i.natAbs < 2 ^ 64)) = true
 ·rw [if_pos hc] at p'
  simp only [Bool.and_eq_true, decide_eq_true_eq] at hc
  exact ⟨i, j, e1, e2, ⟨hc.1.1, hc.1.2, hc.2⟩, p'.int s⟩
 ·rw [if_neg hc] at p'; exact p'.stuck
theorem o_neg : UnR X (unaryOp .USub) (rD1 K W own negD) := un_neg.imp fun x H Q h => by
 obtain ⟨F, a, s, qa, p⟩ := h
 cases a with
 | int i => exact ⟨i, qa, aP.int (own := own) p s⟩
 | _ => exact aP.stuck p
theorem o_lt : Op2 K W own X (compareOp .Lt) ltD := op_lt.imp fun x y H Q h => by
 obtain ⟨F, i, j, s, e1, e2, p⟩ := iu (fun a b => by cases a <;> cases b <;> first | exact .inr rfl | exact .inl ⟨_, _, rfl, rfl⟩) h
 exact ⟨i, j, e1, e2, p.bl s⟩
theorem o_le : Op2 K W own X (compareOp .LtE) leD := op_le.imp fun x y H Q h => by
 obtain ⟨F, i, j, s, e1, e2, p⟩ := iu (fun a b => by cases a <;> cases b <;> first | exact .inr rfl | exact .inl ⟨_, _, rfl, rfl⟩) h
 exact ⟨i, j, e1, e2, p.bl s⟩
theorem o_gt : Op2 K W own X (compareOp .Gt) gtD := op_gt.imp fun x y H Q h => by
 obtain ⟨F, i, j, s, e1, e2, p⟩ := iu (fun a b => by cases a <;> cases b <;> first | exact .inr rfl | exact .inl ⟨_, _, rfl, rfl⟩) h
 exact ⟨i, j, e1, e2, p.bl s⟩
theorem op_catL : OpR X (binaryOp .Add) (fun x y H Q => ∃ l b xs zs, x = .ref l /\ y = .ref b /\ SqL X.K H l xs /\ SqL X.K H b zs /\ xs.length + zs.length <= sizeLine /\ ∀ p, H p = none -> Q (.ref p) (upd H p (.lst (xs ++ zs)))) := by
 intro pins s σ H x y v u Q I rx ry h
 obtain ⟨l, b, xs, zs, rfl, rfl, hH, hB, hz, q⟩ := h
 cases rx
 cases ry
 obtain ⟨its, r, p1, hl⟩ := I.list hH
 obtain ⟨its2, r2, p2, hl2⟩ := I.list hB
 have z1 := r.length
 have z2 := r2.length
 obtain ⟨⟨cls, dd, data, sl⟩, ho, hc, n, hd⟩ := id p1.isList
 obtain ⟨⟨cls2, dd2, data2, sl2⟩, ho2, hc2, n2, hd2⟩ := id p2.isList
 simp only at hc hd hc2 hd2
 subst hc hd hc2 hd2
 refine concat_meets ⟨_, ho, rfl⟩ ⟨_, ho2, rfl⟩ noFill_list_add seq_list_add PySem.F.slot_list_add PySem.F.entry_list_add (PySem.F.args_list_add_2 _ _) (list_addW l b its.toArray its2.toArray n n2 dd dd2 sl sl2 (by simp only [List.size_toArray]; omega)) ⟨ho, ho2, ?_⟩
 have ea : its.toArray ++ its2.toArray = (its ++ its2).toArray := by simp
 rw [ea]
 exact ⟨.ref _, _, I.lnew (t' := s.toks) (r.append r2) (by rw [List.length_append]; omega), rfl, q _ I.fresh⟩
theorem op_cat3 : OpR X (binaryOp .Add) (fun x y H Q => ∃ a b xs ys, x = .ref a /\ y = .ref b /\ SqT X.K H a xs /\ SqT X.K H b ys /\ xs.length + ys.length <= sizeLine /\ (xs = [] -> Q (.ref b) H) /\ (ys = [] -> Q (.ref a) H) /\ ∀ p, H p = none -> Q (.ref p) (upd H p (.tup (xs ++ ys)))) := by
 intro pins s σ H x y v u Q I rx ry h
 obtain ⟨a, b, xs, ys, rfl, rfl, ha, hb, hz, q1, q2, q3⟩ := h
 by_cases hx : xs = []
 ·subst hx
  cases rx
  cases ry
  obtain ⟨its, r1, p1, _⟩ := I.tuple ha
  obtain ⟨its2, r2, p2, _⟩ := I.tuple hb
  cases r1
  obtain ⟨⟨cls, dd, data, sl⟩, ho, hc, n, hd⟩ := id p1
  obtain ⟨⟨cls2, dd2, data2, sl2⟩, ho2, hc2, n2, hd2⟩ := id p2
  simp only at hc hd hc2 hd2
  subst hc hd hc2 hd2
  exact concat_meets ⟨_, ho, rfl⟩ ⟨_, ho2, rfl⟩ noFill_tuple_add seq_tuple_add PySem.F.slot_tuple_add PySem.F.entry_tuple_add (PySem.F.args_tuple_add_2 _ _)
   (tuple_addW0 a b #[] its2.toArray n n2 dd dd2 sl sl2 rfl) ⟨ho, ho2, ⟨.ref b, H, I, rfl, q1 rfl⟩⟩
 ·exact op_catT pins s σ H _ _ v u Q I rx ry ⟨a, b, xs, ys, rfl, rfl, ha, hb, hx, hz, fun e => q2 e, fun _ p hp => q3 p hp⟩
theorem gh (hK : X.K = K := by rfl) : Op2 K W true X (binaryOp .Add) lF := by
 subst hK
 refine (op_add.or (Al.or (op_catL.or op_cat3))).imp fun x y H Q h => ?_
 obtain ⟨F, a, b, s, qa, qb, p⟩ := h
 cases a with
 | int i =>
  cases b with
  | int j => exact .inl ⟨i, j, qa, qb, p.int s⟩
  | _ => exact aP.stuck p
 | str z =>
  cases b with
  | str w =>
   have p' : aP X.K W true F H (if z.length + w.length <= sizeLine then .ok (.str (z ++ w)) else stk) Q := p
   by_cases hc : z.length + w.length <= sizeLine
   ·rw [if_pos hc] at p'
    exact .inr (.inl ⟨z, w, qa, qb, hc, p'.str s⟩)
   ·rw [if_neg hc] at p'; exact p'.stuck
  | _ => exact aP.stuck p
 | lst ds =>
  cases b with
  | lst es =>
   obtain ⟨a, xs, e1, t1, r1⟩ := qa
   obtain ⟨b, ys, e2, t2, r2⟩ := qb
   have p' : aP X.K W true F H (if ds.length + es.length <= sizeLine then .ok (.lst (ds ++ es)) else stk) Q := p
   by_cases hc : ds.length + es.length <= sizeLine
   ·rw [if_pos hc] at p'
    exact .inr (.inr (.inl ⟨a, b, xs, ys, e1, e2, s.lst t1, s.lst t2, by rw [r1.length, r2.length]; exact hc, fun l hl => p'.lst s (r1.append r2) hl⟩))
   ·rw [if_neg hc] at p'; exact p'.stuck
  | _ => exact aP.stuck p
 | tup ds =>
  cases b with
  | tup es =>
   obtain ⟨a, xs, e1, t1, r1⟩ := qa
   obtain ⟨b, ys, e2, t2, r2⟩ := qb
   have p' : aP X.K W true F H (if ds.length + es.length <= sizeLine then .ok (.tup (ds ++ es)) else stk) Q := p
   by_cases hc : ds.length + es.length <= sizeLine
   ·rw [if_pos hc] at p'
    refine .inr (.inr (.inr ⟨a, b, xs, ys, e1, e2, s.tup t1, s.tup t2, by rw [r1.length, r2.length]; exact hc, fun e => ?_, fun e => ?_, fun l hl => p'.tup s (r1.append r2) hl⟩))
    ·have z : ds = [] := by have := r1.length; rw [e] at this; exact List.length_eq_zero_iff.mp this.symm
     subst z
     exact p'.same s ⟨b, ys, rfl, t2, r2⟩
    ·have z : es = [] := by have := r2.length; rw [e] at this; exact List.length_eq_zero_iff.mp this.symm
     subst z
     rw [List.append_nil] at p'
     exact p'.same s ⟨a, xs, rfl, t1, r1⟩
   ·rw [if_neg hc] at p'; exact p'.stuck
  | _ => exact aP.stuck p
 | _ => exact aP.stuck p
theorem o_isN : Op2 K W own X (compareOp .Is) isND := op_isN.imp fun x y H Q h => by
 obtain ⟨F, a, b, s, qa, qb, p⟩ := h
 have key : ∀ {k : Bool}, isND a b = .ok (.bl k) -> b = .non -> (decide (x = V.non) = k) -> y = V.non /\ Q (.bl (decide (x = V.non))) H := fun {k} e1 e2 e3 => by
  subst e2
  rw [e1] at p
  rw [e3]
  exact ⟨qb, p.bl s⟩
 cases b with
 | non =>
  cases a with
  | non => exact key rfl rfl (by rw [show x = .non from qa]; rfl)
  | bl k => exact key rfl rfl (by rw [show x = .bl k from qa]; rfl)
  | int k => exact key rfl rfl (by rw [show x = .int k from qa]; rfl)
  | str k => exact key rfl rfl (by rw [show x = .str k from qa]; rfl)
  | tup ds => obtain ⟨l, xs, e, _⟩ := qa; exact key rfl rfl (by rw [e]; rfl)
  | lst ds => obtain ⟨l, xs, e, _⟩ := qa; exact key rfl rfl (by rw [e]; rfl)
  | ins C fs => obtain ⟨l, dx, xs, e, _⟩ := qa; exact key rfl rfl (by rw [e]; rfl)
 | _ => cases a <;> exact aP.stuck p
theorem BV {F H : Hp} {Q : VK} {ds : List Dat} {xs : List V} {i : Int} (p : aP K W false F H (nv ds i) Q) (s : b9 F H) (r : aB K F ds xs) : ∃ v, atI xs i = some v /\ Q v H := by
 unfold nv at p
 cases e : atI ds i with
 | none => rw [e] at p; exact aP.stuck p
 | some d =>
  rw [e] at p
  unfold atI at e
  cases hj : ixN ds.length i with
  | none => rw [hj] at e; cases e
  | some j =>
   rw [hj] at e
   obtain ⟨v, e1, q⟩ := r.get (show ds[j]? = some d from e)
   refine ⟨v, ?_, p v F H (Step.refl s) q⟩
   unfold atI
   rw [r.length, hj]
   exact e1
theorem dh (hK : X.K = K := by rfl) : IxR X (rD2 K W false ixD) := by
 subst hK
 refine ix_seq.imp fun x y H Q h => ?_
 obtain ⟨F, a, b, s, qa, qb, p⟩ := h
 cases a with
 | lst ds =>
  cases b with
  | int i =>
   obtain ⟨a, xs, e1, t1, r1⟩ := qa
   obtain ⟨v, e2, q⟩ := BV p s r1
   exact .inl ⟨a, xs, i, v, e1, qb, s.lst t1, e2, q⟩
  | _ => exact aP.stuck p
 | tup ds =>
  cases b with
  | int i =>
   obtain ⟨a, xs, e1, t1, r1⟩ := qa
   obtain ⟨v, e2, q⟩ := BV p s r1
   exact .inr (.inl ⟨a, xs, i, v, e1, qb, s.tup t1, e2, q⟩)
  | _ => exact aP.stuck p
 | _ => exact aP.stuck p
theorem pT (hK : X.K = K := by rfl) : v8 K W own X (.builtin "len") zM := by
 subst hK
 refine lD.imp fun xs H Q h => ?_
 obtain ⟨F, ds, s, q, p⟩ := h
 match ds, q, p with
 | [.lst es], ⟨v, vs, e, ⟨a, ys, e1, t, r⟩, e2⟩, p =>
  refine ⟨a, ys, by rw [e, e1, show vs = [] from e2], .inl (s.lst t), ?_⟩
  rw [r.length]
  exact aP.int (own := own) p s
 | [.tup es], ⟨v, vs, e, ⟨a, ys, e1, t, r⟩, e2⟩, p =>
  refine ⟨a, ys, by rw [e, e1, show vs = [] from e2], .inr (s.tup t), ?_⟩
  rw [r.length]
  exact aP.int (own := own) p s
 | [], _, p => exact aP.stuck p
 | [.non], _, p => exact aP.stuck p
 | [.bl _], _, p => exact aP.stuck p
 | [.int _], _, p => exact aP.stuck p
 | [.str _], _, p => exact aP.stuck p
 | [.ins _ _], _, p => exact aP.stuck p
 | .non :: _ :: _, _, p => exact aP.stuck p
 | .bl _ :: _ :: _, _, p => exact aP.stuck p
 | .int _ :: _ :: _, _, p => exact aP.stuck p
 | .str _ :: _ :: _, _, p => exact aP.stuck p
 | .ins _ _ :: _ :: _, _, p => exact aP.stuck p
 | .lst _ :: _ :: _, _, p => exact aP.stuck p
 | .tup _ :: _ :: _, _, p => exact aP.stuck p
end
end L2
namespace L2
open PySem PySem.Spec PyProof.Rows
section
variable {X : Cx} {K : PySem.W.Frag} {W : gI} {own ro : Bool}
theorem tM {g : List Dat -> M Dat} (hg : ∀ ds, (∃ d, ds = [d]) \/ g ds = stk) {xs : List V} {H : Hp} {Q : VK} (h : rDL K W own g xs H Q) : ∃ F d x, b9 F H /\ xs = [x] /\ cA K F d x /\ aP K W own F H (g [d]) Q := by
 obtain ⟨F, ds, s, q, p⟩ := h
 rcases hg ds with ⟨d, rfl⟩ | e
 ·obtain ⟨v, vs, e, q1, e2⟩ := q
  exact ⟨F, d, v, s, by rw [e, show vs = [] from e2], q1, p⟩
 ·rw [e] at p; exact p.stuck
theorem AU {g : List Dat -> M Dat} (hg : ∀ ds, (∃ d, ds = [d]) \/ (∃ d e, ds = [d, e]) \/ g ds = stk) {xs : List V} {H : Hp} {Q : VK} (h : rDL K W own g xs H Q) : (∃ F d x, b9 F H /\ xs = [x] /\ cA K F d x /\ aP K W own F H (g [d]) Q) \/ ∃ F d e x y, b9 F H /\ xs = [x, y] /\ cA K F d x /\ cA K F e y /\ aP K W own F H (g [d, e]) Q := by
 obtain ⟨F, ds, s, q, p⟩ := h
 rcases hg ds with ⟨d, rfl⟩ | ⟨d, e, rfl⟩ | e
 ·obtain ⟨v, vs, e, q1, e2⟩ := q
  exact .inl ⟨F, d, v, s, by rw [e, show vs = [] from e2], q1, p⟩
 ·obtain ⟨v, vs, e1, q1, w, ws, e2, q2, e3⟩ := q
  exact .inr ⟨F, d, e, v, w, s, by rw [e1, e2, show ws = [] from e3], q1, q2, p⟩
 ·rw [e] at p; exact p.stuck
theorem sM {F : Hp} : ∀ {ds : List Dat} {xs : List V} {bs : List Bool}, aB K F ds xs -> ic ds = .ok bs -> xs = bs.map V.bl
 | [], _, _, q, e => by cases e; exact q
 | d :: ds, _, bs, ⟨v, vs, e1, q, r⟩, e => by
  cases d with
  | bl b =>
   cases e2 : ic ds with
   | error x => simp only [ic, asB, az, e2, jY] at e; cases e
   | ok cs =>
    simp only [ic, asB, az, e2] at e
    cases e
    rw [e1, show v = .bl b from q, sM r e2]
    rfl
  | _ => cases e
theorem sN : ∀ {ds : List Dat} {e : Err}, ic ds = .error e -> e = .stuck
 | [], _, h => by cases h
 | d :: ds, e, h => by
  cases d with
  | bl b =>
   cases e2 : ic ds with
   | error x => simp only [ic, asB, az, e2, jY] at h; cases h; exact sN e2
   | ok cs => simp only [ic, asB, az, e2] at h; cases h
  | _ => cases h; rfl
theorem l8 {F : Hp} : ∀ {ds : List Dat} {xs : List V} {bs : List Int}, aB K F ds xs -> dY ds = .ok bs -> xs = bs.map V.int
 | [], _, _, q, e => by cases e; exact q
 | d :: ds, _, bs, ⟨v, vs, e1, q, r⟩, e => by
  cases d with
  | int b =>
   cases e2 : dY ds with
   | error x => simp only [dY, asI, az, e2, jY] at e; cases e
   | ok cs =>
    simp only [dY, asI, az, e2] at e
    cases e
    rw [e1, show v = .int b from q, l8 r e2]
    rfl
  | _ => cases e
theorem nH : ∀ {ds : List Dat} {e : Err}, dY ds = .error e -> e = .stuck
 | [], _, h => by cases h
 | d :: ds, e, h => by
  cases d with
  | int b =>
   cases e2 : dY ds with
   | error x => simp only [dY, asI, az, e2, jY] at h; cases h; exact nH e2
   | ok cs => simp only [dY, asI, az, e2] at h; cases h
  | _ => cases h; rfl
theorem c_all (hc : X.calm = true) (hK : X.K = K := by rfl) : v8 K W own X (.builtin "all") allD := by
 subst hK
 refine (call_all hc).imp fun xs H Q h => ?_
 obtain ⟨F, d, x, s, e, q, p⟩ := tM (fun ds => by match ds with | [d] => exact .inl ⟨d, rfl⟩ | [] => exact .inr rfl | a :: b :: c => exact .inr (by cases a <;> rfl)) h
 cases d with
 | lst ds =>
  obtain ⟨a, ys, e1, t, r⟩ := q
  have p' : aP X.K W own F H ((ic ds).bind fun bs => .ok (.bl (bs.all id))) Q := p
  cases eb : ic ds with
  | error z => rw [eb] at p'; have := sN eb; subst this; exact aP.stuck p'
  | ok bs =>
   rw [eb] at p'
   refine ⟨a, bs, by rw [e, e1], ?_, aP.bl (own := own) p' s⟩
   rw [<- sM r eb]
   exact s.lst t
 | _ => exact aP.stuck p
theorem A3 (hK : X.K = K := by rfl) : v8 K W true X (.type "list") wA := by
 subst hK
 refine xu.imp fun xs H Q h => ?_
 obtain ⟨F, d, x, s, e, q, p⟩ := tM (fun ds => by match ds with | [d] => exact .inl ⟨d, rfl⟩ | [] => exact .inr rfl | a :: b :: c => exact .inr (by cases a <;> rfl)) h
 cases d with
 | lst ds =>
  obtain ⟨a, ys, e1, t, r⟩ := q
  exact ⟨a, ys, by rw [e, e1], .inl (s.lst t), fun l hl => aP.lst p s r hl⟩
 | tup ds =>
  obtain ⟨a, ys, e1, t, r⟩ := q
  exact ⟨a, ys, by rw [e, e1], .inr (s.tup t), fun l hl => aP.lst p s r hl⟩
 | _ => exact aP.stuck p
theorem c_int : v8 K W own X (.type "int") intD := Cr.imp fun xs H Q h => by
 obtain ⟨F, d, x, s, e, q, p⟩ := tM (fun ds => by match ds with | [d] => exact .inl ⟨d, rfl⟩ | [] => exact .inr rfl | a :: b :: c => exact .inr (by cases a <;> rfl)) h
 cases d with
 | int i => exact .inl ⟨i, by rw [e, show x = .int i from q], aP.int (own := own) p s⟩
 | bl b => exact .inr ⟨b, by rw [e, show x = .bl b from q], aP.int (own := own) p s⟩
 | _ => exact aP.stuck p
theorem fold_max : ∀ (is : List Int) (i : Int), (is.foldl j4 i = i \/ is.foldl j4 i ∈ is) /\ i <= is.foldl j4 i /\ ∀ a ∈ is, a <= is.foldl j4 i
 | [], i => ⟨.inl rfl, Int.le_refl _, fun _ h => nomatch h⟩
 | j :: is, i => by
  obtain ⟨h1, h2, h3⟩ := fold_max is (j4 i j)
  have z : (j4 i j = i \/ j4 i j = j) /\ i <= j4 i j /\ j <= j4 i j := by unfold j4; split <;> (refine ⟨?_, ?_, ?_⟩ <;> first | exact .inl rfl | exact .inr rfl | omega)
  rw [List.foldl_cons]
  refine ⟨?_, Int.le_trans z.2.1 h2, fun a ha => ?_⟩
  ·rcases h1 with h1 | h1
   ·rw [h1]
    rcases z.1 with z | z
    ·exact .inl z
    ·exact .inr (by rw [z]; exact List.mem_cons_self)
   ·exact .inr (List.mem_cons_of_mem _ h1)
  ·rcases List.mem_cons.mp ha with e | e
   ·rw [e]; exact Int.le_trans z.2.2 h2
   ·exact h3 a e
theorem fold_min : ∀ (is : List Int) (i : Int), (is.foldl jr i = i \/ is.foldl jr i ∈ is) /\ is.foldl jr i <= i /\ ∀ a ∈ is, is.foldl jr i <= a
 | [], i => ⟨.inl rfl, Int.le_refl _, fun _ h => nomatch h⟩
 | j :: is, i => by
  obtain ⟨h1, h2, h3⟩ := fold_min is (jr i j)
  have z : (jr i j = i \/ jr i j = j) /\ jr i j <= i /\ jr i j <= j := by unfold jr; split <;> (refine ⟨?_, ?_, ?_⟩ <;> first | exact .inl rfl | exact .inr rfl | omega)
  rw [List.foldl_cons]
  refine ⟨?_, Int.le_trans h2 z.2.1, fun a ha => ?_⟩
  ·rcases h1 with h1 | h1
   ·rw [h1]
    rcases z.1 with z | z
    ·exact .inl z
    ·exact .inr (by rw [z]; exact List.mem_cons_self)
   ·exact .inr (List.mem_cons_of_mem _ h1)
  ·rcases List.mem_cons.mp ha with e | e
   ·rw [e]; exact Int.le_trans h2 z.2.2
   ·exact h3 a e
theorem yD {is : List Int} {i m : Int} (h1 : m ∈ i :: is) (h2 : ∀ a ∈ i :: is, a <= m) : is.foldl j4 i = m := by
 obtain ⟨g1, g2, g3⟩ := fold_max is i
 have a1 : is.foldl j4 i <= m := by
  rcases g1 with g | g
  ·rw [g]; exact h2 i List.mem_cons_self
  ·exact h2 _ (List.mem_cons_of_mem _ g)
 have a2 : m <= is.foldl j4 i := by
  rcases List.mem_cons.mp h1 with e | e
  ·rw [e]; exact g2
  ·exact g3 m e
 omega
theorem yC {is : List Int} {i m : Int} (h1 : m ∈ i :: is) (h2 : ∀ a ∈ i :: is, m <= a) : is.foldl jr i = m := by
 obtain ⟨g1, g2, g3⟩ := fold_min is i
 have a1 : m <= is.foldl jr i := by
  rcases g1 with g | g
  ·rw [g]; exact h2 i List.mem_cons_self
  ·exact h2 _ (List.mem_cons_of_mem _ g)
 have a2 : is.foldl jr i <= m := by
  rcases List.mem_cons.mp h1 with e | e
  ·rw [e]; exact g2
  ·exact g3 m e
 omega
theorem Cp (hc : X.calm = true) : eR X (.builtin "max") (fun xs H Q => ∃ a i is, xs = [.ref a] /\ SqL X.K H a ((i :: is).map V.int) /\ Q (.int (is.foldl j4 i)) H) := by
 intro pins s σ H xs us Q I r h
 obtain ⟨a, i, is, rfl, hq, q⟩ := h
 obtain ⟨u, rfl, ru⟩ := r.one
 cases ru
 obtain ⟨its, rv, p, hz⟩ := I.list hq
 have hi := intsAre_of rv
 obtain ⟨xs, e⟩ := hi.allInts.items
 have hns : i :: is = xs.toList.map (·.1) := by rw [<- hi.numsOf, <- nums_intItems, <- e]
 have hsz : 0 < xs.size := by
  have h3 := congrArg List.length hns
  simp at h3
  omega
 have hl := p.isList
 rw [e] at hl
 refine max_intList (I.ok.hd hc) hl hsz fun v h' tk hv hk => ?_
 obtain ⟨t, rfl⟩ := intItems_at hv
 obtain ⟨h1, h2⟩ := argBest_gt (numAt xs) (xs.size - 1)
 refine ⟨.int _, H, I.kept hk, ⟨t, rfl⟩, ?_⟩
 have := yD (is := is) (i := i) (m := numAt xs (argBest (fun i j => decide (numAt xs i > numAt xs j)) (xs.size - 1))) (by
   rw [hns, numAt_eq]; exact getD_mem (by rw [List.length_map, Array.length_toList]; omega)) (fun a ha => by
   rw [hns] at ha
   obtain ⟨j, hj, rfl⟩ := mem_getD ha
   rw [List.length_map, Array.length_toList] at hj
   rw [<- numAt_eq]; exact h2 j (by omega))
 rw [<- this]
 exact q
theorem Cn (hc : X.calm = true) : eR X (.builtin "min") (fun xs H Q => ∃ a i is, xs = [.ref a] /\ SqL X.K H a ((i :: is).map V.int) /\ Q (.int (is.foldl jr i)) H) := by
 intro pins s σ H xs us Q I r h
 obtain ⟨a, i, is, rfl, hq, q⟩ := h
 obtain ⟨u, rfl, ru⟩ := r.one
 cases ru
 obtain ⟨its, rv, p, hz⟩ := I.list hq
 have hi := intsAre_of rv
 obtain ⟨xs, e⟩ := hi.allInts.items
 have hns : i :: is = xs.toList.map (·.1) := by rw [<- hi.numsOf, <- nums_intItems, <- e]
 have hsz : 0 < xs.size := by
  have h3 := congrArg List.length hns
  simp at h3
  omega
 have hl := p.isList
 rw [e] at hl
 refine min_intList (I.ok.hd hc) hl hsz fun v h' tk hv hk => ?_
 obtain ⟨t, rfl⟩ := intItems_at hv
 obtain ⟨h1, h2⟩ := argBest_lt (numAt xs) (xs.size - 1)
 refine ⟨.int _, H, I.kept hk, ⟨t, rfl⟩, ?_⟩
 have := yC (is := is) (i := i) (m := numAt xs (argBest (fun i j => decide (numAt xs i < numAt xs j)) (xs.size - 1))) (by
   rw [hns, numAt_eq]; exact getD_mem (by rw [List.length_map, Array.length_toList]; omega)) (fun a ha => by
   rw [hns] at ha
   obtain ⟨j, hj, rfl⟩ := mem_getD ha
   rw [List.length_map, Array.length_toList] at hj
   rw [<- numAt_eq]; exact h2 j (by omega))
 rw [<- this]
 exact q
theorem c_max (hc : X.calm = true) (hK : X.K = K := by rfl) : v8 K W own X (.builtin "max") maxD := by
 subst hK
 refine ((Cq hc).or (Cp hc)).imp fun xs H Q h => ?_
 rcases AU (fun ds => by match ds with | [d] => exact .inl ⟨d, rfl⟩ | [d, e] => exact .inr (.inl ⟨d, e, rfl⟩) | [] => exact .inr (.inr rfl) | a :: b :: c :: d => exact .inr (.inr (by cases a <;> cases b <;> rfl))) h with ⟨F, d, x, s, e, q, p⟩ | ⟨F, d, d2, x, y, s, e, q, q2, p⟩
 ·cases d with
  | lst ds =>
   obtain ⟨a, ys, e1, t, r⟩ := q
   have p' : aP X.K W own F H ((dY ds).bind maxL) Q := p
   cases eb : dY ds with
   | error z => rw [eb] at p'; have := nH eb; subst this; exact aP.stuck p'
   | ok is =>
    rw [eb] at p'
    cases is with
    | nil => exact aP.stuck p'
    | cons i is =>
     refine .inr ⟨a, i, is, by rw [e, e1], ?_, aP.int (own := own) p' s⟩
     rw [<- l8 r eb]
     exact s.lst t
  | _ => exact aP.stuck p
 ·cases d with
  | int i =>
   cases d2 with
   | int j => exact .inl ⟨i, j, by rw [e, show x = .int i from q, show y = .int j from q2], aP.int (own := own) p s⟩
   | _ => exact aP.stuck p
  | _ => cases d2 <;> exact aP.stuck p
theorem Ct (hc : X.calm = true) (hK : X.K = K := by rfl) : v8 K W own X (.builtin "min") minD := by
 subst hK
 refine ((Co hc).or (Cn hc)).imp fun xs H Q h => ?_
 rcases AU (fun ds => by match ds with | [d] => exact .inl ⟨d, rfl⟩ | [d, e] => exact .inr (.inl ⟨d, e, rfl⟩) | [] => exact .inr (.inr rfl) | a :: b :: c :: d => exact .inr (.inr (by cases a <;> cases b <;> rfl))) h with ⟨F, d, x, s, e, q, p⟩ | ⟨F, d, d2, x, y, s, e, q, q2, p⟩
 ·cases d with
  | lst ds =>
   obtain ⟨a, ys, e1, t, r⟩ := q
   have p' : aP X.K W own F H ((dY ds).bind minL) Q := p
   cases eb : dY ds with
   | error z => rw [eb] at p'; have := nH eb; subst this; exact aP.stuck p'
   | ok is =>
    rw [eb] at p'
    cases is with
    | nil => exact aP.stuck p'
    | cons i is =>
     refine .inr ⟨a, i, is, by rw [e, e1], ?_, aP.int (own := own) p' s⟩
     rw [<- l8 r eb]
     exact s.lst t
  | _ => exact aP.stuck p
 ·cases d with
  | int i =>
   cases d2 with
   | int j => exact .inl ⟨i, j, by rw [e, show x = .int i from q, show y = .int j from q2], aP.int (own := own) p s⟩
   | _ => exact aP.stuck p
  | _ => cases d2 <;> exact aP.stuck p
end
section
variable {X : Cx} {K : PySem.W.Frag} {W : gI} {own ro : Bool}
theorem SqL.inj {pins : List (Addr × Obj)} {σ : St} {H : Hp} {s : Shared} {a : Addr} {xs ys : List V} (I : Inv X pins σ H s) (h : SqL X.K H a xs) (h' : SqL X.K H a ys) : xs = ys := by
 obtain ⟨i1, r1, p1, _⟩ := I.list h
 obtain ⟨i2, r2, p2, _⟩ := I.list h'
 obtain ⟨o, n, e, _, _, d⟩ := p1
 obtain ⟨o', n', e', _, _, d'⟩ := p2
 rw [e] at e'
 cases e'
 rw [d] at d'
 injection d' with d1 _
 have : i1 = i2 := by simpa using congrArg Array.toList d1
 subst this
 exact r1.inj r2
theorem SqT.inj {pins : List (Addr × Obj)} {σ : St} {H : Hp} {s : Shared} {a : Addr} {xs ys : List V} (I : Inv X pins σ H s) (h : SqT X.K H a xs) (h' : SqT X.K H a ys) : xs = ys := by
 obtain ⟨i1, r1, p1, _⟩ := I.tuple h
 obtain ⟨i2, r2, p2, _⟩ := I.tuple h'
 obtain ⟨o, e, _, n, d⟩ := p1
 obtain ⟨o', e', _, n', d'⟩ := p2
 rw [e] at e'
 cases e'
 rw [d] at d'
 injection d' with d1 _
 have : i1 = i2 := by simpa using congrArg Array.toList d1
 subst this
 exact r1.inj r2
theorem aB.all_eq {F : Hp} (e : Nat -> Bool) : ∀ {ds es : List Dat}, ds.length = es.length -> (∀ (j : Nat) a b, ds[j]? = some a -> es[j]? = some b -> e j = eqD a b) -> (List.range ds.length).all e = m6 ds es := by
 intro ds
 induction ds generalizing e with
 | nil => intro es h _; cases es with
  | nil => rfl
  | cons _ _ => simp at h
 | cons d ds ih =>
  intro es h q
  cases es with
  | nil => simp at h
  | cons b es =>
   rw [List.length_cons, List.range_succ_eq_map, List.all_cons, List.all_map, m6]
   rw [q 0 d b rfl rfl]
   congr 1
   exact ih (e ∘ Nat.succ) (by simpa using h) fun j x y hx hy => q (j + 1) x y (by simpa using hx) (by simpa using hy)
theorem nK : ∀ {ds es : List Dat}, ds.length ≠ es.length -> m6 ds es = false
 | [], [], h => absurd rfl h
 | [], _ :: _, _ => rfl
 | _ :: _, [], _ => rfl
 | d :: ds, e :: es, h => by
  rw [m6, nK (ds := ds) (es := es) (fun z => h (by simp [z])), Bool.and_false]
theorem uy (e : Nat -> Bool) : ∀ {ds es : List Dat}, (∀ (j : Nat) a b, ds[j]? = some a -> es[j]? = some b -> e j = eqD a b) -> ((List.range (min ds.length es.length)).all e && ds.length == es.length) = m6 ds es := by
 intro ds es q
 by_cases hl : ds.length = es.length
 ·have e1 : min ds.length es.length = ds.length := by omega
  rw [e1, aB.all_eq (F := fun _ => none) e hl q, hl, beq_self_eq_true, Bool.and_true]
 ·rw [nK hl]
  have : (ds.length == es.length) = false := by simpa using hl
  rw [this, Bool.and_false]
mutual
theorem uz : ∀ {d : Dat} {n : Nat}, okE d n = true -> eqD d d = true
 | .non, _, _ => rfl
 | .bl b, _, _ => by simp [eqD]
 | .int i, _, _ => by simp [eqD]
 | .str x, _, _ => by simp [eqD]
 | .tup ds, 0, h => by simp [okE] at h
 | .tup ds, n + 1, h => by simp only [okE] at h; simp only [eqD]; exact qL h
 | .lst ds, 0, h => by simp [okE] at h
 | .lst ds, n + 1, h => by simp only [okE] at h; simp only [eqD]; exact qL h
 | .ins _ _, _, h => by simp [okE] at h
theorem qL : ∀ {ds : List Dat} {n : Nat}, iJ ds n = true -> m6 ds ds = true
 | [], _, _ => rfl
 | d :: ds, n, h => by
  simp only [iJ, Bool.and_eq_true] at h
  simp only [m6, uz h.1, qL h.2, Bool.and_self]
end
theorem dG : ∀ {ds : List Dat} {n i : Nat} {d : Dat}, iJ ds n = true -> ds[i]? = some d -> okE d n = true
 | [], _, _, _, _, h => by simp at h
 | _ :: _, _, 0, _, h, e => by
  simp only [iJ, Bool.and_eq_true] at h
  simp at e
  rw [<- e]; exact h.1
 | _ :: _, _, i + 1, _, h, e => by
  simp only [iJ, Bool.and_eq_true] at h
  exact dG h.2 (by simpa using e)
end
noncomputable def gO (ds es : List Dat) (j : Nat) : Bool := match ds[j]?, es[j]? with
 | some a, some b => eqD a b
 | _, _ => true
section
variable {X : Cx}
mutual
theorem deep_inj {pins : List (Addr × Obj)} {σ : St} {F H : Hp} {s : Shared} (I : Inv X pins σ H s) (hF : b9 F H) : ∀ (d e : Dat) {v : V} {n : Nat}, cA X.K F d v -> cA X.K F e v -> okE d n = true -> okE e n = true -> d = e
 | .non, .non, v, n, q, r, o1, o2 => by
   rfl
 | .non, .bl b, v, n, q, r, o1, o2 => by
   have e1 : v = .non := q
   have e2 : v = .bl b := r
   rw [e1] at e2
   cases e2
 | .non, .int b, v, n, q, r, o1, o2 => by
   have e1 : v = .non := q
   have e2 : v = .int b := r
   rw [e1] at e2
   cases e2
 | .non, .str b, v, n, q, r, o1, o2 => by
   have e1 : v = .non := q
   have e2 : v = .str b := r
   rw [e1] at e2
   cases e2
 | .non, .tup es, v, n, q, r, o1, o2 => by
   have e1 : v = .non := q
   obtain ⟨l, xs, e2, _⟩ := r
   rw [e1] at e2
   cases e2
 | .non, .lst es, v, n, q, r, o1, o2 => by
   have e1 : v = .non := q
   obtain ⟨l, xs, e2, _⟩ := r
   rw [e1] at e2
   cases e2
 | .bl a, .non, v, n, q, r, o1, o2 => by
   have e1 : v = .bl a := q
   have e2 : v = .non := r
   rw [e1] at e2
   cases e2
 | .bl a, .bl b, v, n, q, r, o1, o2 => by
   have e1 : v = .bl a := q
   have e2 : v = .bl b := r
   rw [e1] at e2
   cases e2
   rfl
 | .bl a, .int b, v, n, q, r, o1, o2 => by
   have e1 : v = .bl a := q
   have e2 : v = .int b := r
   rw [e1] at e2
   cases e2
 | .bl a, .str b, v, n, q, r, o1, o2 => by
   have e1 : v = .bl a := q
   have e2 : v = .str b := r
   rw [e1] at e2
   cases e2
 | .bl a, .tup es, v, n, q, r, o1, o2 => by
   have e1 : v = .bl a := q
   obtain ⟨l, xs, e2, _⟩ := r
   rw [e1] at e2
   cases e2
 | .bl a, .lst es, v, n, q, r, o1, o2 => by
   have e1 : v = .bl a := q
   obtain ⟨l, xs, e2, _⟩ := r
   rw [e1] at e2
   cases e2
 | .int a, .non, v, n, q, r, o1, o2 => by
   have e1 : v = .int a := q
   have e2 : v = .non := r
   rw [e1] at e2
   cases e2
 | .int a, .bl b, v, n, q, r, o1, o2 => by
   have e1 : v = .int a := q
   have e2 : v = .bl b := r
   rw [e1] at e2
   cases e2
 | .int a, .int b, v, n, q, r, o1, o2 => by
   have e1 : v = .int a := q
   have e2 : v = .int b := r
   rw [e1] at e2
   cases e2
   rfl
 | .int a, .str b, v, n, q, r, o1, o2 => by
   have e1 : v = .int a := q
   have e2 : v = .str b := r
   rw [e1] at e2
   cases e2
 | .int a, .tup es, v, n, q, r, o1, o2 => by
   have e1 : v = .int a := q
   obtain ⟨l, xs, e2, _⟩ := r
   rw [e1] at e2
   cases e2
 | .int a, .lst es, v, n, q, r, o1, o2 => by
   have e1 : v = .int a := q
   obtain ⟨l, xs, e2, _⟩ := r
   rw [e1] at e2
   cases e2
 | .str a, .non, v, n, q, r, o1, o2 => by
   have e1 : v = .str a := q
   have e2 : v = .non := r
   rw [e1] at e2
   cases e2
 | .str a, .bl b, v, n, q, r, o1, o2 => by
   have e1 : v = .str a := q
   have e2 : v = .bl b := r
   rw [e1] at e2
   cases e2
 | .str a, .int b, v, n, q, r, o1, o2 => by
   have e1 : v = .str a := q
   have e2 : v = .int b := r
   rw [e1] at e2
   cases e2
 | .str a, .str b, v, n, q, r, o1, o2 => by
   have e1 : v = .str a := q
   have e2 : v = .str b := r
   rw [e1] at e2
   cases e2
   rfl
 | .str a, .tup es, v, n, q, r, o1, o2 => by
   have e1 : v = .str a := q
   obtain ⟨l, xs, e2, _⟩ := r
   rw [e1] at e2
   cases e2
 | .str a, .lst es, v, n, q, r, o1, o2 => by
   have e1 : v = .str a := q
   obtain ⟨l, xs, e2, _⟩ := r
   rw [e1] at e2
   cases e2
 | .tup ds, .non, v, n, q, r, o1, o2 => by
   have e1 : v = .non := r
   obtain ⟨l, xs, e2, _⟩ := q
   rw [e1] at e2
   cases e2
 | .tup ds, .bl b, v, n, q, r, o1, o2 => by
   have e1 : v = .bl b := r
   obtain ⟨l, xs, e2, _⟩ := q
   rw [e1] at e2
   cases e2
 | .tup ds, .int b, v, n, q, r, o1, o2 => by
   have e1 : v = .int b := r
   obtain ⟨l, xs, e2, _⟩ := q
   rw [e1] at e2
   cases e2
 | .tup ds, .str b, v, n, q, r, o1, o2 => by
   have e1 : v = .str b := r
   obtain ⟨l, xs, e2, _⟩ := q
   rw [e1] at e2
   cases e2
 | .tup ds, .tup es, v, n, q, r, o1, o2 => by
   obtain ⟨l, xs, e1, h1, r1⟩ := q
   obtain ⟨l2, ys, e2, h2, r2⟩ := r
   rw [e1] at e2
   cases e2
   have e3 := SqT.inj I (hF.tup h1) (hF.tup h2)
   subst e3
   cases n with
   | zero => exact absurd o1 (by simp [okE])
   | succ n => rw [lp I hF ds es r1 r2 (by simpa only [okE] using o1) (by simpa only [okE] using o2)]
 | .tup ds, .lst es, v, n, q, r, o1, o2 => by
   obtain ⟨l, xs, e1, h1, r1⟩ := q
   obtain ⟨l2, ys, e2, h2, r2⟩ := r
   rw [e1] at e2
   cases e2
   obtain ⟨i1, _, p1, _⟩ := I.list (hF.lst h2)
   obtain ⟨i2, _, p2, _⟩ := I.tuple (hF.tup h1)
   exact absurd rfl (SeqAt.ne_of_list_tuple p1.isList (show s.heap.IsTuple l i2.toArray from p2))
 | .lst ds, .non, v, n, q, r, o1, o2 => by
   have e1 : v = .non := r
   obtain ⟨l, xs, e2, _⟩ := q
   rw [e1] at e2
   cases e2
 | .lst ds, .bl b, v, n, q, r, o1, o2 => by
   have e1 : v = .bl b := r
   obtain ⟨l, xs, e2, _⟩ := q
   rw [e1] at e2
   cases e2
 | .lst ds, .int b, v, n, q, r, o1, o2 => by
   have e1 : v = .int b := r
   obtain ⟨l, xs, e2, _⟩ := q
   rw [e1] at e2
   cases e2
 | .lst ds, .str b, v, n, q, r, o1, o2 => by
   have e1 : v = .str b := r
   obtain ⟨l, xs, e2, _⟩ := q
   rw [e1] at e2
   cases e2
 | .lst ds, .tup es, v, n, q, r, o1, o2 => by
   obtain ⟨l, xs, e1, h1, r1⟩ := q
   obtain ⟨l2, ys, e2, h2, r2⟩ := r
   rw [e1] at e2
   cases e2
   obtain ⟨i1, _, p1, _⟩ := I.list (hF.lst h1)
   obtain ⟨i2, _, p2, _⟩ := I.tuple (hF.tup h2)
   exact absurd rfl (SeqAt.ne_of_list_tuple p1.isList (show s.heap.IsTuple l i2.toArray from p2))
 | .lst ds, .lst es, v, n, q, r, o1, o2 => by
   obtain ⟨l, xs, e1, h1, r1⟩ := q
   obtain ⟨l2, ys, e2, h2, r2⟩ := r
   rw [e1] at e2
   cases e2
   have e3 := SqL.inj I (hF.lst h1) (hF.lst h2)
   subst e3
   cases n with
   | zero => exact absurd o1 (by simp [okE])
   | succ n => rw [lp I hF ds es r1 r2 (by simpa only [okE] using o1) (by simpa only [okE] using o2)]
 | .ins _ _, _, _, _, _, _, o1, _ => by simp [okE] at o1
 | _, .ins _ _, _, _, _, _, _, o2 => by simp [okE] at o2
theorem lp {pins : List (Addr × Obj)} {σ : St} {F H : Hp} {s : Shared} (I : Inv X pins σ H s) (hF : b9 F H) : ∀ (ds es : List Dat) {xs : List V} {n : Nat}, aB X.K F ds xs -> aB X.K F es xs -> iJ ds n = true -> iJ es n = true -> ds = es
 | [], [], _, _, _, _, _, _ => rfl
 | [], _ :: _, _, _, q, ⟨_, _, e, _⟩, _, _ => by rw [show _ = [] from q] at e; cases e
 | _ :: _, [], _, _, ⟨_, _, e, _⟩, q, _, _ => by rw [show _ = [] from q] at e; cases e
 | d :: ds, e :: es, _, n, ⟨v, vs, e1, q1, r1⟩, ⟨w, ws, e2, q2, r2⟩, o1, o2 => by
  rw [e1] at e2
  cases e2
  simp only [iJ, Bool.and_eq_true] at o1 o2
  rw [deep_inj I hF d e q1 q2 o1.1 o2.1, lp I hF ds es r1 r2 o1.2 o2.2]
end
end
section
variable {X : Cx} {K : PySem.W.Frag} {W : gI} {own ro : Bool}
mutual
theorem eqAt_D {pins : List (Addr × Obj)} {σ : St} {F H : Hp} {s : Shared} (I : Inv X pins σ H s) (hF : b9 F H) : ∀ (a b : Dat) {n : Nat} {x y : V} {u v : Value} {A : Around}, okE a n = true -> okE b n = true -> cA X.K F a x -> cA X.K F b y -> RelV x u -> RelV y v -> A.units + n < cLine -> SeqAt.EqAt A s u v (eqD a b)
 | .non, .non, n, x, y, u, v, A, oa, ob, qa, qb, ra, rb, hu => by
   cases (show x = .non from qa)
   cases ra
   cases (show y = .non from qb)
   cases rb
   exact SeqAt.EqAt.same _
 | .non, .bl b, n, x, y, u, v, A, oa, ob, qa, qb, ra, rb, hu => by
   cases (show x = .non from qa)
   cases ra
   cases (show y = .bl b from qb)
   cases rb
   exact SeqAt.EqAt.none_bool b
 | .non, .int b, n, x, y, u, v, A, oa, ob, qa, qb, ra, rb, hu => by
   cases (show x = .non from qa)
   cases ra
   cases (show y = .int b from qb)
   obtain ⟨t2, rfl⟩ := rb
   exact SeqAt.EqAt.none_int b t2
 | .non, .str b, n, x, y, u, v, A, oa, ob, qa, qb, ra, rb, hu => by
   cases (show x = .non from qa)
   cases ra
   cases (show y = .str b from qb)
   obtain ⟨t2, rfl⟩ := rb
   exact SeqAt.EqAt.none_str b t2
 | .non, .tup es, n, x, y, u, v, A, oa, ob, qa, qb, ra, rb, hu => by
   cases (show x = .non from qa)
   cases ra
   obtain ⟨l2, ys, e2, h2, r2⟩ := qb
   subst e2
   cases rb
   obtain ⟨js, w2, p2, _⟩ := I.tuple (hF.tup h2)
   exact SeqAt.EqAt.none_tuple (show s.heap.IsTuple l2 js.toArray from p2) (by omega)
 | .non, .lst es, n, x, y, u, v, A, oa, ob, qa, qb, ra, rb, hu => by
   cases (show x = .non from qa)
   cases ra
   obtain ⟨l2, ys, e2, h2, r2⟩ := qb
   subst e2
   cases rb
   obtain ⟨js, w2, p2, _⟩ := I.list (hF.lst h2)
   exact SeqAt.EqAt.none_list p2.isList (by omega)
 | .bl a, .non, n, x, y, u, v, A, oa, ob, qa, qb, ra, rb, hu => by
   cases (show x = .bl a from qa)
   cases ra
   cases (show y = .non from qb)
   cases rb
   exact SeqAt.EqAt.bool_none a
 | .bl a, .bl b, n, x, y, u, v, A, oa, ob, qa, qb, ra, rb, hu => by
   cases (show x = .bl a from qa)
   cases ra
   cases (show y = .bl b from qb)
   cases rb
   exact SeqAt.EqAt.bool_bool a b
 | .bl a, .int b, n, x, y, u, v, A, oa, ob, qa, qb, ra, rb, hu => by
   cases (show x = .bl a from qa)
   cases ra
   cases (show y = .int b from qb)
   obtain ⟨t2, rfl⟩ := rb
   exact SeqAt.EqAt.bool_int a b t2
 | .bl a, .str b, n, x, y, u, v, A, oa, ob, qa, qb, ra, rb, hu => by
   cases (show x = .bl a from qa)
   cases ra
   cases (show y = .str b from qb)
   obtain ⟨t2, rfl⟩ := rb
   exact SeqAt.EqAt.bool_str a b t2
 | .bl a, .tup es, n, x, y, u, v, A, oa, ob, qa, qb, ra, rb, hu => by
   cases (show x = .bl a from qa)
   cases ra
   obtain ⟨l2, ys, e2, h2, r2⟩ := qb
   subst e2
   cases rb
   obtain ⟨js, w2, p2, _⟩ := I.tuple (hF.tup h2)
   exact SeqAt.EqAt.bool_tuple a (show s.heap.IsTuple l2 js.toArray from p2) (by omega)
 | .bl a, .lst es, n, x, y, u, v, A, oa, ob, qa, qb, ra, rb, hu => by
   cases (show x = .bl a from qa)
   cases ra
   obtain ⟨l2, ys, e2, h2, r2⟩ := qb
   subst e2
   cases rb
   obtain ⟨js, w2, p2, _⟩ := I.list (hF.lst h2)
   exact SeqAt.EqAt.bool_list a p2.isList (by omega)
 | .int a, .non, n, x, y, u, v, A, oa, ob, qa, qb, ra, rb, hu => by
   cases (show x = .int a from qa)
   obtain ⟨t1, rfl⟩ := ra
   cases (show y = .non from qb)
   cases rb
   exact SeqAt.EqAt.int_none a t1
 | .int a, .bl b, n, x, y, u, v, A, oa, ob, qa, qb, ra, rb, hu => by
   cases (show x = .int a from qa)
   obtain ⟨t1, rfl⟩ := ra
   cases (show y = .bl b from qb)
   cases rb
   exact SeqAt.EqAt.int_bool a t1 b
 | .int a, .int b, n, x, y, u, v, A, oa, ob, qa, qb, ra, rb, hu => by
   cases (show x = .int a from qa)
   obtain ⟨t1, rfl⟩ := ra
   cases (show y = .int b from qb)
   obtain ⟨t2, rfl⟩ := rb
   exact SeqAt.EqAt.int_int a t1 b t2
 | .int a, .str b, n, x, y, u, v, A, oa, ob, qa, qb, ra, rb, hu => by
   cases (show x = .int a from qa)
   obtain ⟨t1, rfl⟩ := ra
   cases (show y = .str b from qb)
   obtain ⟨t2, rfl⟩ := rb
   exact SeqAt.EqAt.int_str a t1 b t2
 | .int a, .tup es, n, x, y, u, v, A, oa, ob, qa, qb, ra, rb, hu => by
   cases (show x = .int a from qa)
   obtain ⟨t1, rfl⟩ := ra
   obtain ⟨l2, ys, e2, h2, r2⟩ := qb
   subst e2
   cases rb
   obtain ⟨js, w2, p2, _⟩ := I.tuple (hF.tup h2)
   exact SeqAt.EqAt.int_tuple a t1 (show s.heap.IsTuple l2 js.toArray from p2) (by omega)
 | .int a, .lst es, n, x, y, u, v, A, oa, ob, qa, qb, ra, rb, hu => by
   cases (show x = .int a from qa)
   obtain ⟨t1, rfl⟩ := ra
   obtain ⟨l2, ys, e2, h2, r2⟩ := qb
   subst e2
   cases rb
   obtain ⟨js, w2, p2, _⟩ := I.list (hF.lst h2)
   exact SeqAt.EqAt.int_list a t1 p2.isList (by omega)
 | .str a, .non, n, x, y, u, v, A, oa, ob, qa, qb, ra, rb, hu => by
   cases (show x = .str a from qa)
   obtain ⟨t1, rfl⟩ := ra
   cases (show y = .non from qb)
   cases rb
   exact SeqAt.EqAt.str_none a t1
 | .str a, .bl b, n, x, y, u, v, A, oa, ob, qa, qb, ra, rb, hu => by
   cases (show x = .str a from qa)
   obtain ⟨t1, rfl⟩ := ra
   cases (show y = .bl b from qb)
   cases rb
   exact SeqAt.EqAt.str_bool a t1 b
 | .str a, .int b, n, x, y, u, v, A, oa, ob, qa, qb, ra, rb, hu => by
   cases (show x = .str a from qa)
   obtain ⟨t1, rfl⟩ := ra
   cases (show y = .int b from qb)
   obtain ⟨t2, rfl⟩ := rb
   exact SeqAt.EqAt.str_int a t1 b t2
 | .str a, .str b, n, x, y, u, v, A, oa, ob, qa, qb, ra, rb, hu => by
   cases (show x = .str a from qa)
   obtain ⟨t1, rfl⟩ := ra
   cases (show y = .str b from qb)
   obtain ⟨t2, rfl⟩ := rb
   exact SeqAt.EqAt.str_str a t1 b t2
 | .str a, .tup es, n, x, y, u, v, A, oa, ob, qa, qb, ra, rb, hu => by
   cases (show x = .str a from qa)
   obtain ⟨t1, rfl⟩ := ra
   obtain ⟨l2, ys, e2, h2, r2⟩ := qb
   subst e2
   cases rb
   obtain ⟨js, w2, p2, _⟩ := I.tuple (hF.tup h2)
   exact SeqAt.EqAt.str_tuple a t1 (show s.heap.IsTuple l2 js.toArray from p2) (by omega)
 | .str a, .lst es, n, x, y, u, v, A, oa, ob, qa, qb, ra, rb, hu => by
   cases (show x = .str a from qa)
   obtain ⟨t1, rfl⟩ := ra
   obtain ⟨l2, ys, e2, h2, r2⟩ := qb
   subst e2
   cases rb
   obtain ⟨js, w2, p2, _⟩ := I.list (hF.lst h2)
   exact SeqAt.EqAt.str_list a t1 p2.isList (by omega)
 | .tup ds, .non, n, x, y, u, v, A, oa, ob, qa, qb, ra, rb, hu => by
   obtain ⟨l1, xs, e1, h1, r1⟩ := qa
   subst e1
   cases ra
   obtain ⟨is, w1, p1, _⟩ := I.tuple (hF.tup h1)
   cases (show y = .non from qb)
   cases rb
   exact SeqAt.EqAt.tuple_none (show s.heap.IsTuple l1 is.toArray from p1) (by omega)
 | .tup ds, .bl b, n, x, y, u, v, A, oa, ob, qa, qb, ra, rb, hu => by
   obtain ⟨l1, xs, e1, h1, r1⟩ := qa
   subst e1
   cases ra
   obtain ⟨is, w1, p1, _⟩ := I.tuple (hF.tup h1)
   cases (show y = .bl b from qb)
   cases rb
   exact SeqAt.EqAt.tuple_bool b (show s.heap.IsTuple l1 is.toArray from p1) (by omega)
 | .tup ds, .int b, n, x, y, u, v, A, oa, ob, qa, qb, ra, rb, hu => by
   obtain ⟨l1, xs, e1, h1, r1⟩ := qa
   subst e1
   cases ra
   obtain ⟨is, w1, p1, _⟩ := I.tuple (hF.tup h1)
   cases (show y = .int b from qb)
   obtain ⟨t2, rfl⟩ := rb
   exact SeqAt.EqAt.tuple_int b t2 (show s.heap.IsTuple l1 is.toArray from p1) (by omega)
 | .tup ds, .str b, n, x, y, u, v, A, oa, ob, qa, qb, ra, rb, hu => by
   obtain ⟨l1, xs, e1, h1, r1⟩ := qa
   subst e1
   cases ra
   obtain ⟨is, w1, p1, _⟩ := I.tuple (hF.tup h1)
   cases (show y = .str b from qb)
   obtain ⟨t2, rfl⟩ := rb
   exact SeqAt.EqAt.tuple_str b t2 (show s.heap.IsTuple l1 is.toArray from p1) (by omega)
 | .tup ds, .tup es, n, x, y, u, v, A, oa, ob, qa, qb, ra, rb, hu => by
   obtain ⟨l1, xs, e1, h1, r1⟩ := qa
   subst e1
   cases ra
   obtain ⟨is, w1, p1, _⟩ := I.tuple (hF.tup h1)
   obtain ⟨l2, ys, e2, h2, r2⟩ := qb
   subst e2
   cases rb
   obtain ⟨js, w2, p2, _⟩ := I.tuple (hF.tup h2)
   have z1 := w1.length
   have z2 := w2.length
   have y1 := r1.length
   have y2 := r2.length
   cases n with
   | zero => exact absurd oa (by simp [okE])
   | succ n =>
    have oa' : iJ ds n = true := by simpa only [okE] using oa
    have ob' : iJ es n = true := by simpa only [okE] using ob
    by_cases hab : l1 = l2
    ·subst hab
     have e3 := SqT.inj I (hF.tup h1) (hF.tup h2)
     subst e3
     have e4 : ds = es := lp I hF ds es r1 r2 oa' ob'
     subst e4
     rw [uz (n := n + 1) oa]
     exact SeqAt.EqAt.same _
    ·have q := SeqAt.RcAt.tuples (A := A) (e := gO ds es) (show s.heap.IsTuple l1 is.toArray from p1) (show s.heap.IsTuple l2 js.toArray from p2) (by omega) (fun j h1 h2 => by
      obtain ⟨x', f1, g1⟩ := w1.atA h1
      obtain ⟨y', f2, g2⟩ := w2.atA h2
      obtain ⟨d1, k1, m1⟩ := r1.at f1
      obtain ⟨d2, k2, m2⟩ := r2.at f2
      have q := mT I hF ds j d1 k1 d2 (n := n) (A := A.in1) (dG oa' k1) (dG ob' k2) m1 m2 g1 g2 (by show A.units + 1 + n < cLine; omega)
      have e5 : gO ds es j = eqD d1 d2 := by simp only [gO, k1, k2]
      rw [e5]
      exact q
      )
     have ez : is.toArray.size = ds.length := by simp; omega
     have ez2 : js.toArray.size = es.length := by simp; omega
     rw [ez, ez2, uy _ (fun j a b h1 h2 => by simp only [gO, h1, h2])] at q
     exact SeqAt.EqAt.of_refs hab q
 | .tup ds, .lst es, n, x, y, u, v, A, oa, ob, qa, qb, ra, rb, hu => by
   obtain ⟨l1, xs, e1, h1, r1⟩ := qa
   subst e1
   cases ra
   obtain ⟨is, w1, p1, _⟩ := I.tuple (hF.tup h1)
   obtain ⟨l2, ys, e2, h2, r2⟩ := qb
   subst e2
   cases rb
   obtain ⟨js, w2, p2, _⟩ := I.list (hF.lst h2)
   exact SeqAt.EqAt.tuple_list (show s.heap.IsTuple l1 is.toArray from p1) p2.isList (by omega)
 | .lst ds, .non, n, x, y, u, v, A, oa, ob, qa, qb, ra, rb, hu => by
   obtain ⟨l1, xs, e1, h1, r1⟩ := qa
   subst e1
   cases ra
   obtain ⟨is, w1, p1, _⟩ := I.list (hF.lst h1)
   cases (show y = .non from qb)
   cases rb
   exact SeqAt.EqAt.list_none p1.isList (by omega)
 | .lst ds, .bl b, n, x, y, u, v, A, oa, ob, qa, qb, ra, rb, hu => by
   obtain ⟨l1, xs, e1, h1, r1⟩ := qa
   subst e1
   cases ra
   obtain ⟨is, w1, p1, _⟩ := I.list (hF.lst h1)
   cases (show y = .bl b from qb)
   cases rb
   exact SeqAt.EqAt.list_bool b p1.isList (by omega)
 | .lst ds, .int b, n, x, y, u, v, A, oa, ob, qa, qb, ra, rb, hu => by
   obtain ⟨l1, xs, e1, h1, r1⟩ := qa
   subst e1
   cases ra
   obtain ⟨is, w1, p1, _⟩ := I.list (hF.lst h1)
   cases (show y = .int b from qb)
   obtain ⟨t2, rfl⟩ := rb
   exact SeqAt.EqAt.list_int b t2 p1.isList (by omega)
 | .lst ds, .str b, n, x, y, u, v, A, oa, ob, qa, qb, ra, rb, hu => by
   obtain ⟨l1, xs, e1, h1, r1⟩ := qa
   subst e1
   cases ra
   obtain ⟨is, w1, p1, _⟩ := I.list (hF.lst h1)
   cases (show y = .str b from qb)
   obtain ⟨t2, rfl⟩ := rb
   exact SeqAt.EqAt.list_str b t2 p1.isList (by omega)
 | .lst ds, .tup es, n, x, y, u, v, A, oa, ob, qa, qb, ra, rb, hu => by
   obtain ⟨l1, xs, e1, h1, r1⟩ := qa
   subst e1
   cases ra
   obtain ⟨is, w1, p1, _⟩ := I.list (hF.lst h1)
   obtain ⟨l2, ys, e2, h2, r2⟩ := qb
   subst e2
   cases rb
   obtain ⟨js, w2, p2, _⟩ := I.tuple (hF.tup h2)
   exact SeqAt.EqAt.list_tuple p1.isList (show s.heap.IsTuple l2 js.toArray from p2) (by omega)
 | .lst ds, .lst es, n, x, y, u, v, A, oa, ob, qa, qb, ra, rb, hu => by
   obtain ⟨l1, xs, e1, h1, r1⟩ := qa
   subst e1
   cases ra
   obtain ⟨is, w1, p1, _⟩ := I.list (hF.lst h1)
   obtain ⟨l2, ys, e2, h2, r2⟩ := qb
   subst e2
   cases rb
   obtain ⟨js, w2, p2, _⟩ := I.list (hF.lst h2)
   have z1 := w1.length
   have z2 := w2.length
   have y1 := r1.length
   have y2 := r2.length
   cases n with
   | zero => exact absurd oa (by simp [okE])
   | succ n =>
    have oa' : iJ ds n = true := by simpa only [okE] using oa
    have ob' : iJ es n = true := by simpa only [okE] using ob
    by_cases hab : l1 = l2
    ·subst hab
     have e3 := SqL.inj I (hF.lst h1) (hF.lst h2)
     subst e3
     have e4 : ds = es := lp I hF ds es r1 r2 oa' ob'
     subst e4
     rw [uz (n := n + 1) oa]
     exact SeqAt.EqAt.same _
    ·by_cases hl : ds.length = es.length
     ·have q := SeqAt.RcAt.lists (A := A) (e := gO ds es) p1.isList p2.isList (by simp; omega) (by omega) (fun j h1 h2 => by
       obtain ⟨x', f1, g1⟩ := w1.atA h1
       obtain ⟨y', f2, g2⟩ := w2.atA h2
       obtain ⟨d1, k1, m1⟩ := r1.at f1
       obtain ⟨d2, k2, m2⟩ := r2.at f2
       have q := mT I hF ds j d1 k1 d2 (n := n) (A := A.in1) (dG oa' k1) (dG ob' k2) m1 m2 g1 g2 (by show A.units + 1 + n < cLine; omega)
       have e5 : gO ds es j = eqD d1 d2 := by simp only [gO, k1, k2]
       rw [e5]
       exact q
       )
      have ez : is.toArray.size = ds.length := by simp; omega
      rw [ez, aB.all_eq (F := F) _ hl (fun j a b h1 h2 => by simp only [gO, h1, h2])] at q
      exact SeqAt.EqAt.of_refs hab q
     ·rw [show eqD (.lst ds) (.lst es) = false from nK hl]
      exact SeqAt.EqAt.of_refs hab (SeqAt.RcAt.lists_lengths (A := A) p1.isList p2.isList (by simp; omega) (by omega))
 | .ins _ _, _, _, _, _, _, _, _, oa, _, _, _, _, _, _ => by simp [okE] at oa
 | _, .ins _ _, _, _, _, _, _, _, _, ob, _, _, _, _, _ => by simp [okE] at ob
theorem mT {pins : List (Addr × Obj)} {σ : St} {F H : Hp} {s : Shared} (I : Inv X pins σ H s) (hF : b9 F H) : ∀ (ds : List Dat) (j : Nat) (a : Dat), ds[j]? = some a -> ∀ (b : Dat) {n : Nat} {x y : V} {u v : Value} {A : Around}, okE a n = true -> okE b n = true -> cA X.K F a x -> cA X.K F b y -> RelV x u -> RelV y v -> A.units + n < cLine -> SeqAt.EqAt A s u v (eqD a b)
 | [], j, _, h => by simp at h
 | d :: ds, 0, _, h => by
  simp only [List.getElem?_cons_zero, Option.some.injEq] at h
  subst h
  exact eqAt_D I hF d
 | d :: ds, j + 1, a, h => mT I hF ds j a (by simpa using h)
end
theorem rcAt_D {pins : List (Addr × Obj)} {σ : St} {F H : Hp} {s : Shared} (I : Inv X pins σ H s) (hF : b9 F H) : ∀ (a b : Dat) {n : Nat} {x y : V} {u v : Value} {A : Around}, okE a n = true -> okE b n = true -> cA X.K F a x -> cA X.K F b y -> RelV x u -> RelV y v -> A.units + n < cLine -> SeqAt.RcAt A s u v (eqD a b)
 | .non, .non, n, x, y, u, v, A, oa, ob, qa, qb, ra, rb, hu => by
   cases (show x = .non from qa)
   cases ra
   cases (show y = .non from qb)
   cases rb
   exact SeqAt.RcAt.none_none
 | .non, .bl b, n, x, y, u, v, A, oa, ob, qa, qb, ra, rb, hu => by
   cases (show x = .non from qa)
   cases ra
   cases (show y = .bl b from qb)
   cases rb
   exact SeqAt.RcAt.none_bool b
 | .non, .int b, n, x, y, u, v, A, oa, ob, qa, qb, ra, rb, hu => by
   cases (show x = .non from qa)
   cases ra
   cases (show y = .int b from qb)
   obtain ⟨t2, rfl⟩ := rb
   exact SeqAt.RcAt.none_int b t2
 | .non, .str b, n, x, y, u, v, A, oa, ob, qa, qb, ra, rb, hu => by
   cases (show x = .non from qa)
   cases ra
   cases (show y = .str b from qb)
   obtain ⟨t2, rfl⟩ := rb
   exact SeqAt.RcAt.none_str b t2
 | .non, .tup es, n, x, y, u, v, A, oa, ob, qa, qb, ra, rb, hu => by
   cases (show x = .non from qa)
   cases ra
   obtain ⟨l2, ys, e2, h2, r2⟩ := qb
   subst e2
   cases rb
   obtain ⟨js, w2, p2, _⟩ := I.tuple (hF.tup h2)
   exact SeqAt.RcAt.none_tuple (show s.heap.IsTuple l2 js.toArray from p2) (by omega)
 | .non, .lst es, n, x, y, u, v, A, oa, ob, qa, qb, ra, rb, hu => by
   cases (show x = .non from qa)
   cases ra
   obtain ⟨l2, ys, e2, h2, r2⟩ := qb
   subst e2
   cases rb
   obtain ⟨js, w2, p2, _⟩ := I.list (hF.lst h2)
   exact SeqAt.RcAt.none_list p2.isList (by omega)
 | .bl a, .non, n, x, y, u, v, A, oa, ob, qa, qb, ra, rb, hu => by
   cases (show x = .bl a from qa)
   cases ra
   cases (show y = .non from qb)
   cases rb
   exact SeqAt.RcAt.bool_none a
 | .bl a, .bl b, n, x, y, u, v, A, oa, ob, qa, qb, ra, rb, hu => by
   cases (show x = .bl a from qa)
   cases ra
   cases (show y = .bl b from qb)
   cases rb
   exact SeqAt.RcAt.bool_bool a b
 | .bl a, .int b, n, x, y, u, v, A, oa, ob, qa, qb, ra, rb, hu => by
   cases (show x = .bl a from qa)
   cases ra
   cases (show y = .int b from qb)
   obtain ⟨t2, rfl⟩ := rb
   exact SeqAt.RcAt.bool_int a b t2
 | .bl a, .str b, n, x, y, u, v, A, oa, ob, qa, qb, ra, rb, hu => by
   cases (show x = .bl a from qa)
   cases ra
   cases (show y = .str b from qb)
   obtain ⟨t2, rfl⟩ := rb
   exact SeqAt.RcAt.bool_str a b t2
 | .bl a, .tup es, n, x, y, u, v, A, oa, ob, qa, qb, ra, rb, hu => by
   cases (show x = .bl a from qa)
   cases ra
   obtain ⟨l2, ys, e2, h2, r2⟩ := qb
   subst e2
   cases rb
   obtain ⟨js, w2, p2, _⟩ := I.tuple (hF.tup h2)
   exact SeqAt.RcAt.bool_tuple a (show s.heap.IsTuple l2 js.toArray from p2) (by omega)
 | .bl a, .lst es, n, x, y, u, v, A, oa, ob, qa, qb, ra, rb, hu => by
   cases (show x = .bl a from qa)
   cases ra
   obtain ⟨l2, ys, e2, h2, r2⟩ := qb
   subst e2
   cases rb
   obtain ⟨js, w2, p2, _⟩ := I.list (hF.lst h2)
   exact SeqAt.RcAt.bool_list a p2.isList (by omega)
 | .int a, .non, n, x, y, u, v, A, oa, ob, qa, qb, ra, rb, hu => by
   cases (show x = .int a from qa)
   obtain ⟨t1, rfl⟩ := ra
   cases (show y = .non from qb)
   cases rb
   exact SeqAt.RcAt.int_none a t1
 | .int a, .bl b, n, x, y, u, v, A, oa, ob, qa, qb, ra, rb, hu => by
   cases (show x = .int a from qa)
   obtain ⟨t1, rfl⟩ := ra
   cases (show y = .bl b from qb)
   cases rb
   exact SeqAt.RcAt.int_bool a t1 b
 | .int a, .int b, n, x, y, u, v, A, oa, ob, qa, qb, ra, rb, hu => by
   cases (show x = .int a from qa)
   obtain ⟨t1, rfl⟩ := ra
   cases (show y = .int b from qb)
   obtain ⟨t2, rfl⟩ := rb
   exact SeqAt.RcAt.int_int a t1 b t2
 | .int a, .str b, n, x, y, u, v, A, oa, ob, qa, qb, ra, rb, hu => by
   cases (show x = .int a from qa)
   obtain ⟨t1, rfl⟩ := ra
   cases (show y = .str b from qb)
   obtain ⟨t2, rfl⟩ := rb
   exact SeqAt.RcAt.int_str a t1 b t2
 | .int a, .tup es, n, x, y, u, v, A, oa, ob, qa, qb, ra, rb, hu => by
   cases (show x = .int a from qa)
   obtain ⟨t1, rfl⟩ := ra
   obtain ⟨l2, ys, e2, h2, r2⟩ := qb
   subst e2
   cases rb
   obtain ⟨js, w2, p2, _⟩ := I.tuple (hF.tup h2)
   exact SeqAt.RcAt.int_tuple a t1 (show s.heap.IsTuple l2 js.toArray from p2) (by omega)
 | .int a, .lst es, n, x, y, u, v, A, oa, ob, qa, qb, ra, rb, hu => by
   cases (show x = .int a from qa)
   obtain ⟨t1, rfl⟩ := ra
   obtain ⟨l2, ys, e2, h2, r2⟩ := qb
   subst e2
   cases rb
   obtain ⟨js, w2, p2, _⟩ := I.list (hF.lst h2)
   exact SeqAt.RcAt.int_list a t1 p2.isList (by omega)
 | .str a, .non, n, x, y, u, v, A, oa, ob, qa, qb, ra, rb, hu => by
   cases (show x = .str a from qa)
   obtain ⟨t1, rfl⟩ := ra
   cases (show y = .non from qb)
   cases rb
   exact SeqAt.RcAt.str_none a t1
 | .str a, .bl b, n, x, y, u, v, A, oa, ob, qa, qb, ra, rb, hu => by
   cases (show x = .str a from qa)
   obtain ⟨t1, rfl⟩ := ra
   cases (show y = .bl b from qb)
   cases rb
   exact SeqAt.RcAt.str_bool a t1 b
 | .str a, .int b, n, x, y, u, v, A, oa, ob, qa, qb, ra, rb, hu => by
   cases (show x = .str a from qa)
   obtain ⟨t1, rfl⟩ := ra
   cases (show y = .int b from qb)
   obtain ⟨t2, rfl⟩ := rb
   exact SeqAt.RcAt.str_int a t1 b t2
 | .str a, .str b, n, x, y, u, v, A, oa, ob, qa, qb, ra, rb, hu => by
   cases (show x = .str a from qa)
   obtain ⟨t1, rfl⟩ := ra
   cases (show y = .str b from qb)
   obtain ⟨t2, rfl⟩ := rb
   exact SeqAt.RcAt.str_str a t1 b t2
 | .str a, .tup es, n, x, y, u, v, A, oa, ob, qa, qb, ra, rb, hu => by
   cases (show x = .str a from qa)
   obtain ⟨t1, rfl⟩ := ra
   obtain ⟨l2, ys, e2, h2, r2⟩ := qb
   subst e2
   cases rb
   obtain ⟨js, w2, p2, _⟩ := I.tuple (hF.tup h2)
   exact SeqAt.RcAt.str_tuple a t1 (show s.heap.IsTuple l2 js.toArray from p2) (by omega)
 | .str a, .lst es, n, x, y, u, v, A, oa, ob, qa, qb, ra, rb, hu => by
   cases (show x = .str a from qa)
   obtain ⟨t1, rfl⟩ := ra
   obtain ⟨l2, ys, e2, h2, r2⟩ := qb
   subst e2
   cases rb
   obtain ⟨js, w2, p2, _⟩ := I.list (hF.lst h2)
   exact SeqAt.RcAt.str_list a t1 p2.isList (by omega)
 | .tup ds, .non, n, x, y, u, v, A, oa, ob, qa, qb, ra, rb, hu => by
   obtain ⟨l1, xs, e1, h1, r1⟩ := qa
   subst e1
   cases ra
   obtain ⟨is, w1, p1, _⟩ := I.tuple (hF.tup h1)
   cases (show y = .non from qb)
   cases rb
   exact SeqAt.RcAt.tuple_none (show s.heap.IsTuple l1 is.toArray from p1) (by omega)
 | .tup ds, .bl b, n, x, y, u, v, A, oa, ob, qa, qb, ra, rb, hu => by
   obtain ⟨l1, xs, e1, h1, r1⟩ := qa
   subst e1
   cases ra
   obtain ⟨is, w1, p1, _⟩ := I.tuple (hF.tup h1)
   cases (show y = .bl b from qb)
   cases rb
   exact SeqAt.RcAt.tuple_bool b (show s.heap.IsTuple l1 is.toArray from p1) (by omega)
 | .tup ds, .int b, n, x, y, u, v, A, oa, ob, qa, qb, ra, rb, hu => by
   obtain ⟨l1, xs, e1, h1, r1⟩ := qa
   subst e1
   cases ra
   obtain ⟨is, w1, p1, _⟩ := I.tuple (hF.tup h1)
   cases (show y = .int b from qb)
   obtain ⟨t2, rfl⟩ := rb
   exact SeqAt.RcAt.tuple_int b t2 (show s.heap.IsTuple l1 is.toArray from p1) (by omega)
 | .tup ds, .str b, n, x, y, u, v, A, oa, ob, qa, qb, ra, rb, hu => by
   obtain ⟨l1, xs, e1, h1, r1⟩ := qa
   subst e1
   cases ra
   obtain ⟨is, w1, p1, _⟩ := I.tuple (hF.tup h1)
   cases (show y = .str b from qb)
   obtain ⟨t2, rfl⟩ := rb
   exact SeqAt.RcAt.tuple_str b t2 (show s.heap.IsTuple l1 is.toArray from p1) (by omega)
 | .tup ds, .tup es, n, x, y, u, v, A, oa, ob, qa, qb, ra, rb, hu => by
   obtain ⟨l1, xs, e1, h1, r1⟩ := qa
   subst e1
   cases ra
   obtain ⟨is, w1, p1, _⟩ := I.tuple (hF.tup h1)
   obtain ⟨l2, ys, e2, h2, r2⟩ := qb
   subst e2
   cases rb
   obtain ⟨js, w2, p2, _⟩ := I.tuple (hF.tup h2)
   have z1 := w1.length
   have z2 := w2.length
   have y1 := r1.length
   have y2 := r2.length
   cases n with
   | zero => exact absurd oa (by simp [okE])
   | succ n =>
    have oa' : iJ ds n = true := by simpa only [okE] using oa
    have ob' : iJ es n = true := by simpa only [okE] using ob
    have q := SeqAt.RcAt.tuples (A := A) (e := gO ds es) (show s.heap.IsTuple l1 is.toArray from p1) (show s.heap.IsTuple l2 js.toArray from p2) (by omega) (fun j h1 h2 => by
     obtain ⟨x', f1, g1⟩ := w1.atA h1
     obtain ⟨y', f2, g2⟩ := w2.atA h2
     obtain ⟨d1, k1, m1⟩ := r1.at f1
     obtain ⟨d2, k2, m2⟩ := r2.at f2
     have q := mT I hF ds j d1 k1 d2 (n := n) (A := A.in1) (dG oa' k1) (dG ob' k2) m1 m2 g1 g2 (by show A.units + 1 + n < cLine; omega)
     have e5 : gO ds es j = eqD d1 d2 := by simp only [gO, k1, k2]
     rw [e5]
     exact q
     )
    have ez : is.toArray.size = ds.length := by simp; omega
    have ez2 : js.toArray.size = es.length := by simp; omega
    rw [ez, ez2, uy _ (fun j a b h1 h2 => by simp only [gO, h1, h2])] at q
    exact q
 | .tup ds, .lst es, n, x, y, u, v, A, oa, ob, qa, qb, ra, rb, hu => by
   obtain ⟨l1, xs, e1, h1, r1⟩ := qa
   subst e1
   cases ra
   obtain ⟨is, w1, p1, _⟩ := I.tuple (hF.tup h1)
   obtain ⟨l2, ys, e2, h2, r2⟩ := qb
   subst e2
   cases rb
   obtain ⟨js, w2, p2, _⟩ := I.list (hF.lst h2)
   exact SeqAt.RcAt.tuple_list (show s.heap.IsTuple l1 is.toArray from p1) p2.isList (by omega)
 | .lst ds, .non, n, x, y, u, v, A, oa, ob, qa, qb, ra, rb, hu => by
   obtain ⟨l1, xs, e1, h1, r1⟩ := qa
   subst e1
   cases ra
   obtain ⟨is, w1, p1, _⟩ := I.list (hF.lst h1)
   cases (show y = .non from qb)
   cases rb
   exact SeqAt.RcAt.list_none p1.isList (by omega)
 | .lst ds, .bl b, n, x, y, u, v, A, oa, ob, qa, qb, ra, rb, hu => by
   obtain ⟨l1, xs, e1, h1, r1⟩ := qa
   subst e1
   cases ra
   obtain ⟨is, w1, p1, _⟩ := I.list (hF.lst h1)
   cases (show y = .bl b from qb)
   cases rb
   exact SeqAt.RcAt.list_bool b p1.isList (by omega)
 | .lst ds, .int b, n, x, y, u, v, A, oa, ob, qa, qb, ra, rb, hu => by
   obtain ⟨l1, xs, e1, h1, r1⟩ := qa
   subst e1
   cases ra
   obtain ⟨is, w1, p1, _⟩ := I.list (hF.lst h1)
   cases (show y = .int b from qb)
   obtain ⟨t2, rfl⟩ := rb
   exact SeqAt.RcAt.list_int b t2 p1.isList (by omega)
 | .lst ds, .str b, n, x, y, u, v, A, oa, ob, qa, qb, ra, rb, hu => by
   obtain ⟨l1, xs, e1, h1, r1⟩ := qa
   subst e1
   cases ra
   obtain ⟨is, w1, p1, _⟩ := I.list (hF.lst h1)
   cases (show y = .str b from qb)
   obtain ⟨t2, rfl⟩ := rb
   exact SeqAt.RcAt.list_str b t2 p1.isList (by omega)
 | .lst ds, .tup es, n, x, y, u, v, A, oa, ob, qa, qb, ra, rb, hu => by
   obtain ⟨l1, xs, e1, h1, r1⟩ := qa
   subst e1
   cases ra
   obtain ⟨is, w1, p1, _⟩ := I.list (hF.lst h1)
   obtain ⟨l2, ys, e2, h2, r2⟩ := qb
   subst e2
   cases rb
   obtain ⟨js, w2, p2, _⟩ := I.tuple (hF.tup h2)
   exact SeqAt.RcAt.list_tuple p1.isList (show s.heap.IsTuple l2 js.toArray from p2) (by omega)
 | .lst ds, .lst es, n, x, y, u, v, A, oa, ob, qa, qb, ra, rb, hu => by
   obtain ⟨l1, xs, e1, h1, r1⟩ := qa
   subst e1
   cases ra
   obtain ⟨is, w1, p1, _⟩ := I.list (hF.lst h1)
   obtain ⟨l2, ys, e2, h2, r2⟩ := qb
   subst e2
   cases rb
   obtain ⟨js, w2, p2, _⟩ := I.list (hF.lst h2)
   have z1 := w1.length
   have z2 := w2.length
   have y1 := r1.length
   have y2 := r2.length
   cases n with
   | zero => exact absurd oa (by simp [okE])
   | succ n =>
    have oa' : iJ ds n = true := by simpa only [okE] using oa
    have ob' : iJ es n = true := by simpa only [okE] using ob
    by_cases hl : ds.length = es.length
    ·have q := SeqAt.RcAt.lists (A := A) (e := gO ds es) p1.isList p2.isList (by simp; omega) (by omega) (fun j h1 h2 => by
      obtain ⟨x', f1, g1⟩ := w1.atA h1
      obtain ⟨y', f2, g2⟩ := w2.atA h2
      obtain ⟨d1, k1, m1⟩ := r1.at f1
      obtain ⟨d2, k2, m2⟩ := r2.at f2
      have q := mT I hF ds j d1 k1 d2 (n := n) (A := A.in1) (dG oa' k1) (dG ob' k2) m1 m2 g1 g2 (by show A.units + 1 + n < cLine; omega)
      have e5 : gO ds es j = eqD d1 d2 := by simp only [gO, k1, k2]
      rw [e5]
      exact q
      )
     have ez : is.toArray.size = ds.length := by simp; omega
     rw [ez, aB.all_eq (F := F) _ hl (fun j a b h1 h2 => by simp only [gO, h1, h2])] at q
     exact q
    ·rw [show eqD (.lst ds) (.lst es) = false from nK hl]
     exact SeqAt.RcAt.lists_lengths (A := A) p1.isList p2.isList (by simp; omega) (by omega)
 | .ins _ _, _, _, _, _, _, _, _, oa, _, _, _, _, _, _ => by simp [okE] at oa
 | _, .ins _ _, _, _, _, _, _, _, _, ob, _, _, _, _, _ => by simp [okE] at ob
theorem rcNeAt_D {pins : List (Addr × Obj)} {σ : St} {F H : Hp} {s : Shared} (I : Inv X pins σ H s) (hF : b9 F H) : ∀ (a b : Dat) {n : Nat} {x y : V} {u v : Value} {A : Around}, okE a n = true -> okE b n = true -> cA X.K F a x -> cA X.K F b y -> RelV x u -> RelV y v -> A.units + n < cLine -> SeqAt.RcNeAt A s u v (!eqD a b)
 | .non, .non, n, x, y, u, v, A, oa, ob, qa, qb, ra, rb, hu => by
   cases (show x = .non from qa)
   cases ra
   cases (show y = .non from qb)
   cases rb
   exact SeqAt.RcNeAt.none_none
 | .non, .bl b, n, x, y, u, v, A, oa, ob, qa, qb, ra, rb, hu => by
   cases (show x = .non from qa)
   cases ra
   cases (show y = .bl b from qb)
   cases rb
   exact SeqAt.RcNeAt.none_bool b
 | .non, .int b, n, x, y, u, v, A, oa, ob, qa, qb, ra, rb, hu => by
   cases (show x = .non from qa)
   cases ra
   cases (show y = .int b from qb)
   obtain ⟨t2, rfl⟩ := rb
   exact SeqAt.RcNeAt.none_int b t2
 | .non, .str b, n, x, y, u, v, A, oa, ob, qa, qb, ra, rb, hu => by
   cases (show x = .non from qa)
   cases ra
   cases (show y = .str b from qb)
   obtain ⟨t2, rfl⟩ := rb
   exact SeqAt.RcNeAt.none_str b t2
 | .non, .tup es, n, x, y, u, v, A, oa, ob, qa, qb, ra, rb, hu => by
   cases (show x = .non from qa)
   cases ra
   obtain ⟨l2, ys, e2, h2, r2⟩ := qb
   subst e2
   cases rb
   obtain ⟨js, w2, p2, _⟩ := I.tuple (hF.tup h2)
   exact SeqAt.RcNeAt.none_tuple (show s.heap.IsTuple l2 js.toArray from p2) (by omega)
 | .non, .lst es, n, x, y, u, v, A, oa, ob, qa, qb, ra, rb, hu => by
   cases (show x = .non from qa)
   cases ra
   obtain ⟨l2, ys, e2, h2, r2⟩ := qb
   subst e2
   cases rb
   obtain ⟨js, w2, p2, _⟩ := I.list (hF.lst h2)
   exact SeqAt.RcNeAt.none_list p2.isList (by omega)
 | .bl a, .non, n, x, y, u, v, A, oa, ob, qa, qb, ra, rb, hu => by
   cases (show x = .bl a from qa)
   cases ra
   cases (show y = .non from qb)
   cases rb
   exact SeqAt.RcNeAt.bool_none a
 | .bl a, .bl b, n, x, y, u, v, A, oa, ob, qa, qb, ra, rb, hu => by
   cases (show x = .bl a from qa)
   cases ra
   cases (show y = .bl b from qb)
   cases rb
   exact SeqAt.RcNeAt.bool_bool a b
 | .bl a, .int b, n, x, y, u, v, A, oa, ob, qa, qb, ra, rb, hu => by
   cases (show x = .bl a from qa)
   cases ra
   cases (show y = .int b from qb)
   obtain ⟨t2, rfl⟩ := rb
   exact SeqAt.RcNeAt.bool_int a b t2
 | .bl a, .str b, n, x, y, u, v, A, oa, ob, qa, qb, ra, rb, hu => by
   cases (show x = .bl a from qa)
   cases ra
   cases (show y = .str b from qb)
   obtain ⟨t2, rfl⟩ := rb
   exact SeqAt.RcNeAt.bool_str a b t2
 | .bl a, .tup es, n, x, y, u, v, A, oa, ob, qa, qb, ra, rb, hu => by
   cases (show x = .bl a from qa)
   cases ra
   obtain ⟨l2, ys, e2, h2, r2⟩ := qb
   subst e2
   cases rb
   obtain ⟨js, w2, p2, _⟩ := I.tuple (hF.tup h2)
   exact SeqAt.RcNeAt.bool_tuple a (show s.heap.IsTuple l2 js.toArray from p2) (by omega)
 | .bl a, .lst es, n, x, y, u, v, A, oa, ob, qa, qb, ra, rb, hu => by
   cases (show x = .bl a from qa)
   cases ra
   obtain ⟨l2, ys, e2, h2, r2⟩ := qb
   subst e2
   cases rb
   obtain ⟨js, w2, p2, _⟩ := I.list (hF.lst h2)
   exact SeqAt.RcNeAt.bool_list a p2.isList (by omega)
 | .int a, .non, n, x, y, u, v, A, oa, ob, qa, qb, ra, rb, hu => by
   cases (show x = .int a from qa)
   obtain ⟨t1, rfl⟩ := ra
   cases (show y = .non from qb)
   cases rb
   exact SeqAt.RcNeAt.int_none a t1
 | .int a, .bl b, n, x, y, u, v, A, oa, ob, qa, qb, ra, rb, hu => by
   cases (show x = .int a from qa)
   obtain ⟨t1, rfl⟩ := ra
   cases (show y = .bl b from qb)
   cases rb
   exact SeqAt.RcNeAt.int_bool a t1 b
 | .int a, .int b, n, x, y, u, v, A, oa, ob, qa, qb, ra, rb, hu => by
   cases (show x = .int a from qa)
   obtain ⟨t1, rfl⟩ := ra
   cases (show y = .int b from qb)
   obtain ⟨t2, rfl⟩ := rb
   exact SeqAt.RcNeAt.int_int a t1 b t2
 | .int a, .str b, n, x, y, u, v, A, oa, ob, qa, qb, ra, rb, hu => by
   cases (show x = .int a from qa)
   obtain ⟨t1, rfl⟩ := ra
   cases (show y = .str b from qb)
   obtain ⟨t2, rfl⟩ := rb
   exact SeqAt.RcNeAt.int_str a t1 b t2
 | .int a, .tup es, n, x, y, u, v, A, oa, ob, qa, qb, ra, rb, hu => by
   cases (show x = .int a from qa)
   obtain ⟨t1, rfl⟩ := ra
   obtain ⟨l2, ys, e2, h2, r2⟩ := qb
   subst e2
   cases rb
   obtain ⟨js, w2, p2, _⟩ := I.tuple (hF.tup h2)
   exact SeqAt.RcNeAt.int_tuple a t1 (show s.heap.IsTuple l2 js.toArray from p2) (by omega)
 | .int a, .lst es, n, x, y, u, v, A, oa, ob, qa, qb, ra, rb, hu => by
   cases (show x = .int a from qa)
   obtain ⟨t1, rfl⟩ := ra
   obtain ⟨l2, ys, e2, h2, r2⟩ := qb
   subst e2
   cases rb
   obtain ⟨js, w2, p2, _⟩ := I.list (hF.lst h2)
   exact SeqAt.RcNeAt.int_list a t1 p2.isList (by omega)
 | .str a, .non, n, x, y, u, v, A, oa, ob, qa, qb, ra, rb, hu => by
   cases (show x = .str a from qa)
   obtain ⟨t1, rfl⟩ := ra
   cases (show y = .non from qb)
   cases rb
   exact SeqAt.RcNeAt.str_none a t1
 | .str a, .bl b, n, x, y, u, v, A, oa, ob, qa, qb, ra, rb, hu => by
   cases (show x = .str a from qa)
   obtain ⟨t1, rfl⟩ := ra
   cases (show y = .bl b from qb)
   cases rb
   exact SeqAt.RcNeAt.str_bool a t1 b
 | .str a, .int b, n, x, y, u, v, A, oa, ob, qa, qb, ra, rb, hu => by
   cases (show x = .str a from qa)
   obtain ⟨t1, rfl⟩ := ra
   cases (show y = .int b from qb)
   obtain ⟨t2, rfl⟩ := rb
   exact SeqAt.RcNeAt.str_int a t1 b t2
 | .str a, .str b, n, x, y, u, v, A, oa, ob, qa, qb, ra, rb, hu => by
   cases (show x = .str a from qa)
   obtain ⟨t1, rfl⟩ := ra
   cases (show y = .str b from qb)
   obtain ⟨t2, rfl⟩ := rb
   exact SeqAt.RcNeAt.str_str a t1 b t2
 | .str a, .tup es, n, x, y, u, v, A, oa, ob, qa, qb, ra, rb, hu => by
   cases (show x = .str a from qa)
   obtain ⟨t1, rfl⟩ := ra
   obtain ⟨l2, ys, e2, h2, r2⟩ := qb
   subst e2
   cases rb
   obtain ⟨js, w2, p2, _⟩ := I.tuple (hF.tup h2)
   exact SeqAt.RcNeAt.str_tuple a t1 (show s.heap.IsTuple l2 js.toArray from p2) (by omega)
 | .str a, .lst es, n, x, y, u, v, A, oa, ob, qa, qb, ra, rb, hu => by
   cases (show x = .str a from qa)
   obtain ⟨t1, rfl⟩ := ra
   obtain ⟨l2, ys, e2, h2, r2⟩ := qb
   subst e2
   cases rb
   obtain ⟨js, w2, p2, _⟩ := I.list (hF.lst h2)
   exact SeqAt.RcNeAt.str_list a t1 p2.isList (by omega)
 | .tup ds, .non, n, x, y, u, v, A, oa, ob, qa, qb, ra, rb, hu => by
   obtain ⟨l1, xs, e1, h1, r1⟩ := qa
   subst e1
   cases ra
   obtain ⟨is, w1, p1, _⟩ := I.tuple (hF.tup h1)
   cases (show y = .non from qb)
   cases rb
   exact SeqAt.RcNeAt.tuple_none (show s.heap.IsTuple l1 is.toArray from p1) (by omega)
 | .tup ds, .bl b, n, x, y, u, v, A, oa, ob, qa, qb, ra, rb, hu => by
   obtain ⟨l1, xs, e1, h1, r1⟩ := qa
   subst e1
   cases ra
   obtain ⟨is, w1, p1, _⟩ := I.tuple (hF.tup h1)
   cases (show y = .bl b from qb)
   cases rb
   exact SeqAt.RcNeAt.tuple_bool b (show s.heap.IsTuple l1 is.toArray from p1) (by omega)
 | .tup ds, .int b, n, x, y, u, v, A, oa, ob, qa, qb, ra, rb, hu => by
   obtain ⟨l1, xs, e1, h1, r1⟩ := qa
   subst e1
   cases ra
   obtain ⟨is, w1, p1, _⟩ := I.tuple (hF.tup h1)
   cases (show y = .int b from qb)
   obtain ⟨t2, rfl⟩ := rb
   exact SeqAt.RcNeAt.tuple_int b t2 (show s.heap.IsTuple l1 is.toArray from p1) (by omega)
 | .tup ds, .str b, n, x, y, u, v, A, oa, ob, qa, qb, ra, rb, hu => by
   obtain ⟨l1, xs, e1, h1, r1⟩ := qa
   subst e1
   cases ra
   obtain ⟨is, w1, p1, _⟩ := I.tuple (hF.tup h1)
   cases (show y = .str b from qb)
   obtain ⟨t2, rfl⟩ := rb
   exact SeqAt.RcNeAt.tuple_str b t2 (show s.heap.IsTuple l1 is.toArray from p1) (by omega)
 | .tup ds, .tup es, n, x, y, u, v, A, oa, ob, qa, qb, ra, rb, hu => by
   obtain ⟨l1, xs, e1, h1, r1⟩ := qa
   subst e1
   cases ra
   obtain ⟨is, w1, p1, _⟩ := I.tuple (hF.tup h1)
   obtain ⟨l2, ys, e2, h2, r2⟩ := qb
   subst e2
   cases rb
   obtain ⟨js, w2, p2, _⟩ := I.tuple (hF.tup h2)
   have z1 := w1.length
   have z2 := w2.length
   have y1 := r1.length
   have y2 := r2.length
   cases n with
   | zero => exact absurd oa (by simp [okE])
   | succ n =>
    have oa' : iJ ds n = true := by simpa only [okE] using oa
    have ob' : iJ es n = true := by simpa only [okE] using ob
    have q := SeqAt.RcNeAt.tuples (A := A) (e := gO ds es) (show s.heap.IsTuple l1 is.toArray from p1) (show s.heap.IsTuple l2 js.toArray from p2) (by omega) (fun j h1 h2 => by
     obtain ⟨x', f1, g1⟩ := w1.atA h1
     obtain ⟨y', f2, g2⟩ := w2.atA h2
     obtain ⟨d1, k1, m1⟩ := r1.at f1
     obtain ⟨d2, k2, m2⟩ := r2.at f2
     have q := mT I hF ds j d1 k1 d2 (n := n) (A := A.in1) (dG oa' k1) (dG ob' k2) m1 m2 g1 g2 (by show A.units + 1 + n < cLine; omega)
     have e5 : gO ds es j = eqD d1 d2 := by simp only [gO, k1, k2]
     rw [e5]
     exact q
     )
    have ez : is.toArray.size = ds.length := by simp; omega
    have ez2 : js.toArray.size = es.length := by simp; omega
    rw [ez, ez2, uy _ (fun j a b h1 h2 => by simp only [gO, h1, h2])] at q
    exact q
 | .tup ds, .lst es, n, x, y, u, v, A, oa, ob, qa, qb, ra, rb, hu => by
   obtain ⟨l1, xs, e1, h1, r1⟩ := qa
   subst e1
   cases ra
   obtain ⟨is, w1, p1, _⟩ := I.tuple (hF.tup h1)
   obtain ⟨l2, ys, e2, h2, r2⟩ := qb
   subst e2
   cases rb
   obtain ⟨js, w2, p2, _⟩ := I.list (hF.lst h2)
   exact SeqAt.RcNeAt.tuple_list (show s.heap.IsTuple l1 is.toArray from p1) p2.isList (by omega)
 | .lst ds, .non, n, x, y, u, v, A, oa, ob, qa, qb, ra, rb, hu => by
   obtain ⟨l1, xs, e1, h1, r1⟩ := qa
   subst e1
   cases ra
   obtain ⟨is, w1, p1, _⟩ := I.list (hF.lst h1)
   cases (show y = .non from qb)
   cases rb
   exact SeqAt.RcNeAt.list_none p1.isList (by omega)
 | .lst ds, .bl b, n, x, y, u, v, A, oa, ob, qa, qb, ra, rb, hu => by
   obtain ⟨l1, xs, e1, h1, r1⟩ := qa
   subst e1
   cases ra
   obtain ⟨is, w1, p1, _⟩ := I.list (hF.lst h1)
   cases (show y = .bl b from qb)
   cases rb
   exact SeqAt.RcNeAt.list_bool b p1.isList (by omega)
 | .lst ds, .int b, n, x, y, u, v, A, oa, ob, qa, qb, ra, rb, hu => by
   obtain ⟨l1, xs, e1, h1, r1⟩ := qa
   subst e1
   cases ra
   obtain ⟨is, w1, p1, _⟩ := I.list (hF.lst h1)
   cases (show y = .int b from qb)
   obtain ⟨t2, rfl⟩ := rb
   exact SeqAt.RcNeAt.list_int b t2 p1.isList (by omega)
 | .lst ds, .str b, n, x, y, u, v, A, oa, ob, qa, qb, ra, rb, hu => by
   obtain ⟨l1, xs, e1, h1, r1⟩ := qa
   subst e1
   cases ra
   obtain ⟨is, w1, p1, _⟩ := I.list (hF.lst h1)
   cases (show y = .str b from qb)
   obtain ⟨t2, rfl⟩ := rb
   exact SeqAt.RcNeAt.list_str b t2 p1.isList (by omega)
 | .lst ds, .tup es, n, x, y, u, v, A, oa, ob, qa, qb, ra, rb, hu => by
   obtain ⟨l1, xs, e1, h1, r1⟩ := qa
   subst e1
   cases ra
   obtain ⟨is, w1, p1, _⟩ := I.list (hF.lst h1)
   obtain ⟨l2, ys, e2, h2, r2⟩ := qb
   subst e2
   cases rb
   obtain ⟨js, w2, p2, _⟩ := I.tuple (hF.tup h2)
   exact SeqAt.RcNeAt.list_tuple p1.isList (show s.heap.IsTuple l2 js.toArray from p2) (by omega)
 | .lst ds, .lst es, n, x, y, u, v, A, oa, ob, qa, qb, ra, rb, hu => by
   obtain ⟨l1, xs, e1, h1, r1⟩ := qa
   subst e1
   cases ra
   obtain ⟨is, w1, p1, _⟩ := I.list (hF.lst h1)
   obtain ⟨l2, ys, e2, h2, r2⟩ := qb
   subst e2
   cases rb
   obtain ⟨js, w2, p2, _⟩ := I.list (hF.lst h2)
   have z1 := w1.length
   have z2 := w2.length
   have y1 := r1.length
   have y2 := r2.length
   cases n with
   | zero => exact absurd oa (by simp [okE])
   | succ n =>
    have oa' : iJ ds n = true := by simpa only [okE] using oa
    have ob' : iJ es n = true := by simpa only [okE] using ob
    by_cases hl : ds.length = es.length
    ·have q := SeqAt.RcNeAt.lists (A := A) (e := gO ds es) p1.isList p2.isList (by simp; omega) (by omega) (fun j h1 h2 => by
      obtain ⟨x', f1, g1⟩ := w1.atA h1
      obtain ⟨y', f2, g2⟩ := w2.atA h2
      obtain ⟨d1, k1, m1⟩ := r1.at f1
      obtain ⟨d2, k2, m2⟩ := r2.at f2
      have q := mT I hF ds j d1 k1 d2 (n := n) (A := A.in1) (dG oa' k1) (dG ob' k2) m1 m2 g1 g2 (by show A.units + 1 + n < cLine; omega)
      have e5 : gO ds es j = eqD d1 d2 := by simp only [gO, k1, k2]
      rw [e5]
      exact q
      )
     have ez : is.toArray.size = ds.length := by simp; omega
     rw [ez, aB.all_eq (F := F) _ hl (fun j a b h1 h2 => by simp only [gO, h1, h2])] at q
     exact q
    ·rw [show eqD (.lst ds) (.lst es) = false from nK hl]
     exact SeqAt.RcNeAt.lists_lengths (A := A) p1.isList p2.isList (by simp; omega) (by omega)
 | .ins _ _, _, _, _, _, _, _, _, oa, _, _, _, _, _, _ => by simp [okE] at oa
 | _, .ins _ _, _, _, _, _, _, _, _, ob, _, _, _, _, _ => by simp [okE] at ob
end
section
variable {X : Cx} {K : PySem.W.Frag} {W : gI} {own ro : Bool}
theorem aP.blS {F H : Hp} {Q : VK} {pins : List (Addr × Obj)} {σ : St} {s : Shared} {b : Bool} (p : aP K W own F H (.ok (.bl b)) Q) (s1 : b9 F H) (I : Inv X pins σ H s) : EP X pins σ Q (.bool b) s := ⟨.bl b, H, I, rfl, p.bl s1⟩
theorem o_eq (hu : X.A.units + 64 < cLine) (hK : X.K = K := by rfl) : Op2 K W own X (compareOp .Eq) eqM := by
 subst hK
 intro pins s σ H x y v u Q I rx ry h
 obtain ⟨F, a, b, s1, qa, qb, p⟩ := h
 unfold eqM at p
 by_cases hc : (okE a 40 && okE b 40) = true
 ·rw [if_pos hc] at p
  simp only [Bool.and_eq_true] at hc
  exact rcAt_D I s1 a b hc.1 hc.2 qa qb rx ry (by omega) _ _ _ _ (p.blS s1 I)
 ·rw [if_neg hc] at p; exact p.stuck
theorem o_ne (hu : X.A.units + 64 < cLine) (hK : X.K = K := by rfl) : Op2 K W own X (compareOp .NotEq) neM := by
 subst hK
 intro pins s σ H x y v u Q I rx ry h
 obtain ⟨F, a, b, s1, qa, qb, p⟩ := h
 unfold neM at p
 by_cases hc : (okE a 40 && okE b 40) = true
 ·rw [if_pos hc] at p
  simp only [Bool.and_eq_true] at hc
  exact rcNeAt_D I s1 a b hc.1 hc.2 qa qb rx ry (by omega) _ _ _ _ (p.blS s1 I)
 ·rw [if_neg hc] at p; exact p.stuck
end
end L2
namespace L2
open PySem PySem.Spec PyProof.Rows
section
variable {X : Cx} {pins : List (Addr × Obj)} {σ : St} {H : Hp} {s : Shared} {h' : Heap}
theorem Inv.turnedT {t' : Nat} {ch : List Addr} {T : Addr} {xs : List V} (I : Inv X pins σ H s) (hf : ∀ b ∈ ch, AN X pins H b) (k : ∀ b o, b ∉ ch -> s.heap.get? b = some o -> h'.get? b = some o) (hT : s.heap.objs.size <= T)
  (new : xs.length <= sizeLine /\ ∃ its : List Value, Vals xs its /\ IsTup h' T its.toArray) : Inv X pins σ (upd H T (.tup xs)) { s with heap := h', toks := t' } := by
 have hTn : H T = none := I.hok.fresh hT
 have nit : ∀ b u, H b = some u -> b ∉ ch := fun b u e z => by rw [(hf b z).1] at e; cases e
 have old : ∀ {b : Addr} {o : Obj}, s.heap.get? b = some o -> b ≠ T := fun {b o} e => Nat.ne_of_lt (Nat.lt_of_lt_of_le (Heap.lt_size e) hT)
 refine I.step (g' := s.gens) (d' := s.drawn) (ch := ch) (fun b hb => ?_) (fun b o _ _ hc e _ => k b o hc e) (fun b o _ _ hc e _ => ⟨o.slots, k b o hc e⟩) (fun b o _ e n => by rw [aq (old e)]; exact n)
  (fun b o hc e => ⟨o, k b o hc e⟩) (fun b ys e => by rw [aq (aC e hTn)]; exact e) (fun b o u e => by rw [aq (aC e hTn)]; exact e) (fun b ps e => ⟨#[], by rw [aq (aC e hTn), e]; simp⟩) (fun m hm => ?_) (fun b u e => ?_) I.bare
 ·obtain ⟨f0, f1, f2, f3, f4, f5⟩ := hf b hb
  exact ⟨f3, f1, f4, f5⟩
 ·obtain ⟨o, es, ep, ho, r⟩ := hm
  exact ⟨o, es, ep, k _ o (fun z => (hf _ z).2.1 rfl) ho, r⟩
 ·by_cases hb : b = T
  ·subst hb
   rw [ar] at e
   cases e
   exact new
  ·rw [aq hb] at e
   refine (I.hok b u e).xV (fun c v hc q => k c v ?_ q) (fun c q => ?_) fun c ys q => ?_
   ·rcases hc with z | z
    ·rw [z]; exact nit b u e
    ·exact nit c _ z
   ·rw [aq (aC q hTn)]; exact q
   ·rw [aq (aC q hTn)]; exact q
theorem Inv.turnedL {t' : Nat} {ch : List Addr} (I : Inv X pins σ H s) (hf : ∀ b ∈ ch, AN X pins H b) (k : ∀ b o, b ∉ ch -> s.heap.get? b = some o -> h'.get? b = some o) : Inv X pins σ H { s with heap := h', toks := t' } := by
 have nit : ∀ b u, H b = some u -> b ∉ ch := fun b u e z => by rw [(hf b z).1] at e; cases e
 refine I.step (g' := s.gens) (d' := s.drawn) (ch := ch) (fun b hb => ?_) (fun b o _ _ hc e _ => k b o hc e) (fun b o _ _ hc e _ => ⟨o.slots, k b o hc e⟩) (fun b o _ e n => n)
  (fun b o hc e => ⟨o, k b o hc e⟩) (fun b ys e => e) (fun b o u e => e) (fun b ps e => ⟨#[], by rw [e]; simp⟩) (fun m hm => ?_) (fun b u e => ?_) I.bare
 ·obtain ⟨f0, f1, f2, f3, f4, f5⟩ := hf b hb
  exact ⟨f3, f1, f4, f5⟩
 ·obtain ⟨o, es, ep, ho, r⟩ := hm
  exact ⟨o, es, ep, k _ o (fun z => (hf _ z).2.1 rfl) ho, r⟩
 ·refine (I.hok b u e).xV (fun c v hc q => k c v ?_ q) (fun _ q => q) fun _ _ q => q
  rcases hc with z | z
  ·rw [z]; exact nit b u e
  ·exact nit c _ z
end
noncomputable def Ite (K : PySem.W.Frag) (a : Addr) : It :=
 ⟨fun i H => ∃ xs x, SqL K H a xs /\ xs[i]? = some x, fun i H x H' => ∃ T y, H T = none /\ x = .ref T /\ H' = upd H T (.tup [.int i, y]) /\ ∀ xs, SqL K H a xs -> xs[i]? = some y, fun i H => ∃ xs, SqL K H a xs /\ xs.length <= i⟩
theorem AW {P : Program} {w : World} {K : PySem.W.Frag} {elts : List Expr} {k : Nat} {pos : Pos} (a e it : Addr) (hei : e ≠ it) : Turn P w K (.Tuple elts k pos) (Ite K a) [e, it] e (fun i h => (∃ old, IsEnum h e it i old) /\ h.IsListIter it a i) where
 mem := by simp
 obj := fun i h st b hb => by
  obtain ⟨⟨old, he⟩, o, e1, c, d⟩ := st
  rcases List.mem_cons.mp hb with rfl | hb
  ·exact ⟨_, he, fun v z => by cases z⟩
  ·have : b = it := by simpa using hb
   subst this
   exact ⟨o, e1, fun v z => by rw [d] at z; cases z⟩
 keep := fun i h h' st kk => by
  obtain ⟨⟨old, he⟩, hit⟩ := st
  exact ⟨⟨old, kk e (by simp) _ he⟩, hit.at fun o x => kk it (by simp) o x⟩
 item := by
  intro X hP hw hK hc i pins s σ H E I hf st hg
  subst hP hw hK
  obtain ⟨⟨old, he⟩, hit⟩ := st
  obtain ⟨xs, x, hq, hx⟩ := hg
  obtain ⟨its, rv, p, hz⟩ := I.list hq
  obtain ⟨u, hu, ru⟩ := rv.get hx
  refine wpAny_pyNext_enum_item he hit p.isList (x := u) (by simpa using hu) hei fun h1 ho hit1 hT hsz hk => ?_
  refine ⟨_, rfl, wpAny_letOwnedTupleGo_enum ho fun h2 he2 hs2 => ?_⟩
  have hlt : e < s.heap.objs.size := Heap.lt_size he
  have hTe : s.heap.objs.size ≠ e := Nat.ne_of_gt hlt
  have I1 : Inv X pins σ (upd H s.heap.objs.size (.tup [.int i, x])) { s with heap := h2, toks := s.toks + 1 } := I.turnedT (ch := [e, it]) hf (fun b o hb q => by
    have h3 := hk b o (fun z => hb (by simp [z])) (fun z => hb (by simp [z])) q
    exact (hs2.2 b (fun z => hb (by simp [z]))).trans h3) (Nat.le_refl _) ⟨by show 2 <= sizeLine; decide, [.int i s.toks, u], .cons ⟨_, rfl⟩ (.cons ru .nil), ⟨_, (hs2.2 _ hTe).trans hT, rfl, 0, rfl⟩⟩
  refine ⟨.ref s.heap.objs.size, _, I1, rfl, ⟨s.heap.objs.size, x, I.hok.fresh (Nat.le_refl _), rfl, rfl, fun ys hy => by rw [I.zK hy hq]; exact hx⟩, ⟨⟨u, by simpa using he2⟩, hit1.at fun o y => (hs2.2 it hei.symm).trans y⟩, fun b hb => ?_⟩
  have hbn := (hf b hb).1
  have : b ≠ s.heap.objs.size := by
   rcases List.mem_cons.mp hb with rfl | hb
   ·exact hTe.symm
   ·have : b = it := by simpa using hb
    subst this
    obtain ⟨o, e1, _⟩ := hit
    exact Nat.ne_of_lt (Heap.lt_size e1)
  rw [aq this]
  exact hbn
 done := by
  intro X hP hw hK hc i pins s σ H E I hf st hg
  subst hP hw hK
  obtain ⟨⟨old, he⟩, hit⟩ := st
  obtain ⟨xs, hq, hx⟩ := hg
  obtain ⟨its, rv, p, hz⟩ := I.list hq
  have hl := rv.length
  exact wpAny_pyNext_enum_end (I.ok.hd hc) he hit p.isList (Array.getElem?_eq_none (by simp; omega)) fun h2 eb => ⟨rfl, I.turnedL (t' := s.toks) (ch := [e, it]) hf fun b o hb q => eb b o (fun z => hb (by simp [z])) q⟩
 self := fun _ _ _ _ _ st h => by
  obtain ⟨⟨old, he⟩, _⟩ := st
  exact wpAny_pyIter_enum he h
theorem lj : ∀ (ds : List Dat) (k i : Nat), (ji k ds)[i]? = (ds[i]?).map fun d => .tup [.int ((k + i : Nat) : Int), d]
 | [], k, i => by simp [ji]
 | d :: ds, k, 0 => by simp [ji]
 | d :: ds, k, i + 1 => by
  rw [ji, List.getElem?_cons_succ, lj ds (k + 1) i, List.getElem?_cons_succ]
  rw [show k + 1 + i = k + (i + 1) by omega]
theorem gx : ∀ (ds : List Dat) (k : Nat), (ji k ds).length = ds.length
 | [], _ => rfl
 | d :: ds, k => by rw [ji, List.length_cons, gx ds, List.length_cons]
theorem BN {K : PySem.W.Frag} {F : Hp} {a : Addr} {xs : List V} {ds : List Dat} (t : SqL K F a xs) (z : aB K F ds xs) : AK K F (Ite K a) (ji 0 ds) where
 go := fun i F' H' s1 s2 hi => ⟨xs, xs[i]'(by rw [z.length]; rw [gx] at hi; exact hi), s2.lst (s1.lst t), by rw [gx] at hi; simp [z.length, hi]⟩
 yl := fun i F' H' x H2 d s1 s2 hd hy => by
  obtain ⟨T, y, hT, ex, eH, hy⟩ := hy
  subst ex eH
  rw [lj] at hd
  cases hds : ds[i]? with
  | none => rw [hds] at hd; cases hd
  | some d' =>
   rw [hds] at hd
   simp at hd
   subst hd
   obtain ⟨v, e1, q⟩ := z.get hds
   have e2 := hy xs (s2.lst (s1.lst t))
   rw [e1] at e2
   cases e2
   refine ⟨upd F' T (.tup [.int i, y]), Step.lay s2 hT, T, _, rfl, SqT.of ar, ?_⟩
   exact ⟨.int i, [y], rfl, rfl, y, [], rfl, (q.mono s1).mono (b9.upd (s2.free hT)), rfl⟩
 st := fun F' H' s1 s2 => ⟨xs, s2.lst (s1.lst t), by rw [z.length, gx]; exact Nat.le_refl _⟩
section
variable {X : Cx} {K : PySem.W.Frag} {W : gI} {own ro : Bool} {e a b c : Expr} {es : List Expr} {x : Str} {pos p : Pos} {f fa fb fc : ak -> M Dat} {fr : ak -> M (List Dat)} {ft : ak -> M Bool}
noncomputable def iEnum (K : PySem.W.Frag) (tl : TE) : TI := fun σ H R => tl σ H fun x H1 => ∃ a, x = .ref a /\ (∃ xs, SqL K H1 a xs) /\ R (Ite K a) H1
theorem pi_enum {elts : List Expr} {k : Nat} {q : Pos} {tl : TE} (hg : Gl X "enumerate") (hm : X.mg "enumerate" = none) (hl : PE X a tl) (hs : starEach [a] X.env = [(false, eval a X.env)] := by rfl) :
  PI X (.Tuple elts k q) (.Call (.Name "enumerate" p) [a] [] pos) (iEnum X.K tl) := by
 intro pins s σ H R I h
 have ha : PA X [a] (ip tl AL) := aW hl eU hs
 refine Call_ (wD I hg hm boot_enumerate (PyProof.Rows.callWith_type1 (thn (ha pos pins s σ H (fun vs H1 => match vs with
  | [x] => ∃ a, x = .ref a /\ (∃ xs, SqL X.K H1 a xs) /\ R (Ite X.K a) H1
  | _ => False) I h) fun us s1 ⟨vs, H1, I1, r1, q1⟩ => ?_) hs rfl))
 match vs, r1, q1 with
 | [x], r1, ⟨l, e1, ⟨xs, hq⟩, q⟩ =>
  subst e1
  obtain ⟨u, rfl, ru⟩ := r1.one
  cases ru
  obtain ⟨its, rv, pl, hz⟩ := I1.list hq
  refine call_enumerate_list pl.isList fun h2 he hit hsz hk => ?_
  have I2 : Inv X pins σ H1 { s1 with heap := h2 } := I1.kept (t' := s1.toks) hk
  refine wpAny_pyIter_enum he ?_
  refine ⟨s1.heap.objs.size + 1, [s1.heap.objs.size + 1, s1.heap.objs.size], _, _, H1, rfl, I2, AW l _ _ (Nat.succ_ne_self _), ⟨⟨_, he⟩, hit⟩, fun b hb => ?_, q⟩
  have hb2 : s1.heap.objs.size <= b := by
   rcases List.mem_cons.mp hb with rfl | hb
   ·exact Nat.le_succ _
   ·have : b = s1.heap.objs.size := by simpa using hb
    exact Nat.le_of_eq this.symm
  exact I1.fpOk hb2 (I1.hok.fresh hb2)
theorem ri_enum {σ : St} {H : Hp} {R : It -> Hp -> Prop} (h : iD K W (wQ fa) σ H R) : iEnum K (tD K W false fa) σ H R := by
 obtain ⟨F, ρ, r, s, p⟩ := h
 refine cx r s (fun e he => ?_) fun d hd v F1 H1 s1 q1 => ?_
 ·have z : wQ fa ρ = .error e := by unfold wQ; rw [he]; rfl
  rw [z] at p; exact p
 ·have z : wQ fa ρ = (zO d).bind fun ds => .ok (ji 0 ds) := by unfold wQ; rw [hd]; rfl
  rw [z] at p
  cases d with
  | lst ds =>
   obtain ⟨b, xs, e, t, z⟩ := q1
   exact ⟨b, e, ⟨xs, s1.fh.lst t⟩, p _ F1 H1 s1 (BN t z)⟩
  | _ => exact (W.ns p).elim
theorem di_enum {elts : List Expr} {k : Nat} {q : Pos} (hm : X.mg "enumerate" = none) (hl : DE K W false X a fa) (hg : Gl X "enumerate" := by rfl) (hs : starEach [a] X.env = [(false, eval a X.env)] := by rfl) (hK : X.K = K := by rfl) :
  DI K W X (.Tuple elts k q) (.Call (.Name "enumerate" p) [a] [] pos) (wQ fa) := by
 subst hK
 exact (pi_enum hg hm hl hs).imp fun _ _ _ => ri_enum
theorem mU : PTs X [] (tDT K W vc) := fun pins s σ H Q I h => pts_nil pins s σ H Q I (by
 obtain ⟨F, ρ, r, s1, q⟩ := h
 exact q F H (Step.refl s1))
theorem iR : PGs X [] (iB []) := pgs_nil
theorem bq {i : Nat} {is : List Nat} (hN : X.N.Nodup) (h2 : PGs X es (iB is)) (hi : X.N[i]? = some x := by rfl) (hx : Loc X.env.scope x := by first | exact Or.inl rfl | exact Or.inr rfl) (hf : X.fn x = true \/ X.env.scope.names.lookup x = some .local := by first | exact .inl rfl | exact .inr rfl | assumption)
  (hs : (assignEach (.Name x p :: es) X.env).map (·.2) = assign (.Name x p) X.env :: (assignEach es X.env).map (·.2) := by rfl) : PGs X (.Name x p :: es) (iB (i :: is)) := zH (yh hN hi hx hf) h2 hs
theorem rR {k : Nat} {is : List Nat} (hc : X.calm = true) (h : PGs X es (iB is)) (hn : (assignEach es X.env).length = is.length := by rfl) (hst : (assignEach es X.env).findIdx? (·.1) = none := by rfl) (hK : X.K = K := by rfl) : DG K X (.Tuple es k pos) (.tp is) := by
 subst hK
 exact pg_tup hc h hn hst
theorem pe {ix : List (Option Nat)} : ∀ {is : List Nat}, (∀ i ∈ is, ix[i]? = some none) -> ∀ vs σ' H' (Q : St -> Hp -> Prop), iB is vs σ' H' Q -> iB is vs σ' H' fun σ2 H2 => Q σ2 H2 /\ ∀ (i : Nat) v, σ'[i]? = some (some v) -> (∃ j, ix[i]? = some (some j)) -> σ2[i]? = some (some v)
 | [], _, vs, σ', H', Q, ⟨e, q⟩ => ⟨e, q, fun _ _ h _ => h⟩
 | i :: is, hs, vs, σ', H', Q, ⟨v, r, e, q⟩ => by
  refine ⟨v, r, e, ?_⟩
  have := pe (ix := ix) (is := is) (fun j hj => hs j (by simp [hj])) r (σ'.set i (some v)) H' Q q
  have mono : ∀ {is : List Nat} {vs : List V} {σ1 : St} {H1 : Hp} {Q Q' : St -> Hp -> Prop}, (∀ σ2 H2, Q σ2 H2 -> Q' σ2 H2) -> iB is vs σ1 H1 Q -> iB is vs σ1 H1 Q' := by
   intro is
   induction is with
   | nil => rintro vs σ1 H1 Q Q' m ⟨e, q⟩; exact ⟨e, m _ _ q⟩
   | cons i is ih => rintro vs σ1 H1 Q Q' m ⟨v, r, e, q⟩; exact ⟨v, r, e, ih m q⟩
  refine mono (fun σ2 H2 ⟨q1, q2⟩ => ⟨q1, fun j w h ⟨l, hl⟩ => q2 j w ?_ ⟨l, hl⟩⟩) this
  have : i ≠ j := by rintro rfl; rw [hs i (by simp)] at hl; cases hl
  rw [List.getElem?_set_ne this]
  exact h
theorem wC {ix : List (Option Nat)} {is : List Nat} (h : ∀ i ∈ is, ix[i]? = some none) : A8 ix (gP K (.tp is)) := fun x σ' H' Q ⟨a, xs, e, t, l, q⟩ => ⟨a, xs, e, t, l, pe h xs σ' H' Q q⟩
theorem qM {N' : List Str} {sc : Scope} {L : Addr} {cs : List (Str × Addr)} {s : Shared} {H : Hp} {fp : List Addr} {i : Nat} (hN : N'.Nodup) (hi : N'[i]? = some x := by rfl) (hx : Loc (ck X N' sc L cs s H fp).env.scope x := by first | exact Or.inl rfl | exact Or.inr rfl)
  (hf : (ck X N' sc L cs s H fp).fn x = true \/ (ck X N' sc L cs s H fp).env.scope.names.lookup x = some .local := by first | exact .inl rfl | exact .inr rfl | assumption) : DG K (ck X N' sc L cs s H fp) (.Name x pos) (.nm i) := pg_c hN hi hx hf
variable {sc : Scope} {tg elt iter : Expr} {ifs : List Expr} {fi : ak -> M (List Dat)} {pt : Pat} {fe : ak -> M Dat} {spos py : Pos}
theorem jR (N' : List Str) (ix : List (Option Nat)) (hi : DI K W X tg iter fi) (hg : ∀ L cs s H fp, DG K (ck X N' sc L cs s H fp) tg pt) (hl : A8 ix (gP K pt))
  (ht : ∀ L cs s H fp, PTs (ck X N' sc L cs s H fp) ifs (tDT K W ft)) (he : ∀ L cs s H fp, DE K W false (ck X N' sc L cs s H fp) elt fe) (hc : X.calm = true := by rfl)
  (ok : cv X.N X.env.scope N' sc ix = true := by rfl) (hk : sc.kind = .function := by rfl) (hs : ∀ x, foldedSetIterable iter X.env x = pure x := by intro _; rfl) :
  DE K W true X (.ListComp elt [⟨tg, iter, ifs, 0⟩] sc pos) (mS fi ix pt ft fe) := (pe_comp N' ix hc hi hg hl ht he ok hk hs).imp fun _ _ _ => rd_comp
theorem ds_setI {OL O : List Nat} {i : Nat} {q r : Pos} {fk : ak -> M Dat} (he : DE K W false X e f) (hk : DE K W false X b fk) (ho : i ∈ O := by decide) (hN : X.N[i]? = some x := by rfl) (hv : Vis X.env.scope x := by first | exact Or.inl rfl | exact Or.inr (Or.inl rfl) | exact Or.inr (Or.inr rfl)) (hd : (x == ("__debug__" : Str)) = false := by decide) (hcd : (x == ("__classdict__" : Str)) = false := by decide)
  (ha : ∀ v, assign (.Subscript (.Name x p) b q) X.env v = (do
   let ov <- holding [v] (eval (.Name x p) X.env)
   let iv <- holding [v, ov] (eval b X.env)
   standAt q
   holding [v, ov, iv] (setItem ov iv v)
   release [v, ov, iv] []) := by intro _; rfl) (hs : swapsWithSole [.Subscript (.Name x p) b q] e r.line X.env = pure false := by rfl) (hw : swappedStores [.Subscript (.Name x p) b q] e X.env = pure none := by rfl)
  (h1 : (assignEach [.Subscript (.Name x p) b q] X.env).map (·.2) = [assign (.Subscript (.Name x p) b q) X.env] := by rfl) :
  DS K W ro X OL O O (.Assign [.Subscript (.Name x p) b q] e r) (ya i fk f) := fun F0 H0 => (Bh he (pg_sub (pv i hN hv hd hcd) hk set_list ha) hs hw h1).imp fun _ _ _ => rs_setI ho
theorem ds_unpB {OL O : List Nat} {pt : Pat} {tg : Expr} (he : DE K W false X e f) (hg : DG K X tg pt) (n : ∀ i ∈ pt.names, i ∉ O := by decide) (hs : swapsWithSole [tg] e pos.line X.env = pure false := by rfl) (hw : swappedStores [tg] e X.env = pure none := by rfl)
  (h1 : (assignEach [tg] X.env).map (·.2) = [assign tg X.env] := by rfl) : DS K W ro X OL O O (.Assign [tg] e pos) (y0 O pt f) := fun F0 H0 => (Bh he hg hs hw h1).imp fun _ _ _ => rs_unpB n
noncomputable def spF (K : PySem.W.Frag) (ro : Bool) (g : List Dat -> M Dat) (n : Nat) : Sp := fun vs H Q _ => ∃ F ds, b9 F H /\ aB K F ds vs /\ ds.length = n /\ aP K Wno ro F H (g ds) Q
theorem tw {nN n : Nat} {g : ak -> M Flo} {ds : List Dat} (h : ds.length ≠ n) : dS nN n g ds = stk := by unfold dS; rw [if_neg h]
theorem aL {k nN n : Nat} {fad : Addr} {fd : FuncData} {ps : List Str} {g : ak -> M Flo} (F : bJ X.prog X.w X.K X.mg X.base CX0 k fad fd ps (spF K ro (dS nN n g) n)) (hr : ka k X.A) (hm : X.mg x = some (.ref fad)) (hk : PySem.W.keepIn X.K (.ref fad) = true) (hb : Binds X.K fd ps [])
  (ha : DA K Wno X (e :: es) fr) (hg : Gl X x := by rfl) (hdb : (x == ("__debug__" : Str)) = false := by decide) (hst : starEach (e :: es) X.env = (false, eval e X.env) :: starEach es X.env := by rfl) (hpl : (backTo pos (starEach es X.env)).any (·.1) = false := by rfl) :
  DE K Wno ro X (.Call (.Name x p) (e :: es) [] pos) (fL (dS nN n g) fr) := by
 refine PE.imp (yi F hr hg hm hk hb .nil yj ha hdb hst hpl) fun σ H Q h => ?_
 obtain ⟨F, ρ, r, s, p⟩ := rd_L h
 refine ⟨F, ρ, r, s, ?_⟩
 cases e1 : fr ρ with
 | error z => rw [e1] at p; exact p
 | ok ds =>
  rw [e1] at p
  intro vs F' H' st q
  obtain ⟨F1, es1, s1, q1, z⟩ := p vs F' H' st q
  show spF K ro (dS nN n g) n (vs ++ []) H' Q E0
  rw [List.append_nil]
  by_cases hl : es1.length = n
  ·exact ⟨F1, es1, s1, q1, hl, z⟩
  ·rw [tw hl] at z
   exact aP.stuck z
end
section
variable {P : Program} {w : World} {K : PySem.W.Frag} {mg : Str -> Option Value} {base : Heap}
theorem vo {N : List Str} {vs : List V} {ds : List Dat} {i : Nat} {d : Dat} {F : Hp} (q : aB K F ds vs) (h : (ds.map some ++ List.replicate (N.length - ds.length) none)[i]? = some (some d)) : ∃ v, (start N vs)[i]? = some (some v) /\ cA K F d v := by
 have hi : i < ds.length := by
  by_cases hi : i < ds.length
  ·exact hi
  ·rw [List.getElem?_append_right (by simpa using hi), List.getElem?_replicate] at h
   split at h <;> cases h
 rw [List.getElem?_append_left (by simpa using hi), List.getElem?_map] at h
 cases e : ds[i]? with
 | none => rw [e] at h; cases h
 | some d' =>
  rw [e] at h
  cases h
  obtain ⟨v, e1, q1⟩ := q.get e
  refine ⟨v, ?_, q1⟩
  unfold start
  rw [List.getElem?_append_left (by rw [List.length_map, q.length]; exact hi), List.getElem?_map, e1]
  rfl
theorem pN {x qual : Str} {st : Stmt} {f : Addr} {fd : FuncData} {N ps : List Str} {k : Nat} {O' : List Nat} (F : Fun K x qual st f fd) (S : aR N ps (af st)) (ro : Bool) (g : ak -> M Flo)
  (hb : ∀ (cdv : Value) (A : Around) (outer : List Env) (s : Shared) (H : Hp) (E : XK), ka k (A.deeper (envOfC qual (af st) s.heap.objs.size f cdv)) ->
   DSs K Wno ro (Cc CX0 P w K mg base N qual (af st) f cdv A outer s H E).nox [] [] O' (aG st) g) : bJ P w K mg base CX0 (k + 1) f fd ps (spF K ro (dS N.length ps.length g) ps.length) := by
 have hpl : ps.length <= N.length := by have := congrArg List.length S.pre; rw [List.length_take] at this; omega
 refine F.okX S (fun vs H Q E ⟨F, ds, s, q, l, p⟩ => by rw [q.length, l]) fun cdv A outer s H vs Q E hr ⟨F1, ds, s1, q, l, p⟩ => ⟨_, hb cdv A outer s H E hr F1 H, F1, F1, ds.map some ++ List.replicate (N.length - ds.length) none, ?_, ?_⟩
 ·refine ⟨Step.refl s1, b9.refl _, ?_, fun i d e _ => vo q e, (fun i d e h => nomatch h), (fun i j ds es a h => nomatch h)⟩
  unfold start
  rw [List.length_append, List.length_append, List.length_map, List.length_map, List.length_replicate, List.length_replicate, q.length]
 ·have e1 : dS N.length ps.length g ds = (g (ds.map some ++ List.replicate (N.length - ds.length) none)).bind fun fl => match fl with
   | .nx _ => .ok .non
   | .rt d => .ok d
   | _ => stk := by
    unfold dS
    exact if_pos l
  rw [e1] at p
  cases e2 : g (ds.map some ++ List.replicate (N.length - ds.length) none) with
  | error z => rw [e2] at p; exact p
  | ok fl =>
   rw [e2] at p
   cases fl with
   | nx ρ => exact fun σ F H r => p .non F H r.st (by cases ro <;> rfl)
   | rt d => exact fun v F H st q => p v F H st q
   | bk ρ => exact aP.stuck p
   | ct ρ => exact aP.stuck p
noncomputable def Ae (K : PySem.W.Frag) : Sp := fun vs H Q _ => ∃ (a : Addr) (ns : List Int), vs = [.ref a] /\ SqL K H a (ns.map V.int) /\ ns.length <= 63 /\ ∀ H', Q (.bl true) H'
theorem sD {F : Hp} : ∀ is : List Int, aB K F (is.map Dat.int) (is.map V.int)
 | [] => rfl
 | i :: is => ⟨.int i, is.map V.int, rfl, rfl, sD is⟩
theorem law_ok {k : Nat} {f : Addr} {fd : FuncData} {x : Str} {ro : Bool} {mlaw : Nat -> List Dat -> M Dat} (F : ∀ n, bJ P w K mg base CX0 k f fd [x] (spF K ro (mlaw n) 1)) (h : ∀ ns : List Int, ns.length <= 63 -> ∃ n, mlaw n [.lst (ns.map .int)] = .ok (.bl true)) : bJ P w K mg base CX0 k f fd [x] (Ae K) := by
 refine ⟨fun vs H Q E ⟨a, ns, e, _⟩ => by rw [e]; rfl, fun A outer s H args us vs Q E hr he hb hv ⟨a, ns, e, hq, hl, q⟩ => ?_⟩
 obtain ⟨n, hn⟩ := h ns hl
 refine (F n).run A outer s H args us vs Q E hr he hb hv ⟨H, [.lst (ns.map .int)], b9.refl _, ⟨.ref a, [], e, ⟨a, _, rfl, hq, sD ns⟩, rfl⟩, rfl, ?_⟩
 rw [hn]
 intro v F' H' st z
 have : v = .bl true := by cases ro <;> exact z
 rw [this]
 exact q H'
end
end L2
namespace L2
open PySem PySem.Spec PyProof.Rows
structure Kit (K : PySem.W.Frag) : Prop where
 kJ : PySem.W.kitOne K (.type "int") (.type "int") = some true
 jd : PySem.W.kitOne K (.type "bool") (.type "int") = some true
 j9 : PySem.W.kitOne K (.type "list") (.type "int") = some false
 gY : PySem.W.kitOne K (.type "tuple") (.type "int") = some false
 kH : PySem.W.kitOne K (.type "str") (.type "int") = some false
 dX : PySem.W.kitOne K (.type "NoneType") (.type "int") = some false
 jb : PySem.W.kitOne K (.type "int") (.type "bool") = some false
 hW : PySem.W.kitOne K (.type "bool") (.type "bool") = some true
 hI : PySem.W.kitOne K (.type "list") (.type "bool") = some false
 gb : PySem.W.kitOne K (.type "tuple") (.type "bool") = some false
 j7 : PySem.W.kitOne K (.type "str") (.type "bool") = some false
 du : PySem.W.kitOne K (.type "NoneType") (.type "bool") = some false
 ja : PySem.W.kitOne K (.type "int") (.type "list") = some false
 hV : PySem.W.kitOne K (.type "bool") (.type "list") = some false
 hG : PySem.W.kitOne K (.type "list") (.type "list") = some true
 g9 : PySem.W.kitOne K (.type "tuple") (.type "list") = some false
 j6 : PySem.W.kitOne K (.type "str") (.type "list") = some false
 dq : PySem.W.kitOne K (.type "NoneType") (.type "list") = some false
 hU : PySem.W.kitOne K (.type "int") (.type "tuple") = some false
 gd : PySem.W.kitOne K (.type "bool") (.type "tuple") = some false
 gc : PySem.W.kitOne K (.type "list") (.type "tuple") = some false
 fq : PySem.W.kitOne K (.type "tuple") (.type "tuple") = some true
 gZ : PySem.W.kitOne K (.type "str") (.type "tuple") = some false
 cY : PySem.W.kitOne K (.type "NoneType") (.type "tuple") = some false
 kI : PySem.W.kitOne K (.type "int") (.type "str") = some false
 jc : PySem.W.kitOne K (.type "bool") (.type "str") = some false
 j8 : PySem.W.kitOne K (.type "list") (.type "str") = some false
 gX : PySem.W.kitOne K (.type "tuple") (.type "str") = some false
 kG : PySem.W.kitOne K (.type "str") (.type "str") = some true
 dW : PySem.W.kitOne K (.type "NoneType") (.type "str") = some false
section
variable {X : Cx} {K : PySem.W.Frag} {W : gI} {own ro : Bool} {e a b c : Expr} {es : List Expr} {x : Str} {pos p p2 : Pos} {f fa fb fc : ak -> M Dat} {fr : ak -> M (List Dat)} {ft : ak -> M Bool}
theorem BP {pins : List (Addr × Obj)} {σ : St} {F H : Hp} {s : Shared} {T : String} {d : Dat} {x : V} {u : Value} {bi bb bl bt bs bn : Bool} {Q : Value -> Shared -> Prop} (I : Inv X pins σ H s) (hF : b9 F H) (q : cA X.K F d x) (r : RelV x u)
  (hi : PySem.W.kitOne X.K (.type "int") (.type T) = some bi) (hb : PySem.W.kitOne X.K (.type "bool") (.type T) = some bb) (hl : PySem.W.kitOne X.K (.type "list") (.type T) = some bl) (ht : PySem.W.kitOne X.K (.type "tuple") (.type T) = some bt)
  (hs : PySem.W.kitOne X.K (.type "str") (.type T) = some bs) (hn : PySem.W.kitOne X.K (.type "NoneType") (.type T) = some bn)
  (h : ∀ k tk, (match d with | .int _ => k = bi | .bl _ => k = bb | .lst _ => k = bl | .tup _ => k = bt | .str _ => k = bs | .non => k = bn | .ins _ _ => False) -> Q (.bool k) { s with toks := tk }) (no : ∀ C fs, d ≠ .ins C fs) :
  wpAny (model X.prog X.w) X.A (call (.builtin "isinstance") [u, .type T]) Q X.xe s := by
 cases d with
 | non => cases (show x = .non from q); cases r; exact PySem.W.kia_one PySem.W.kitx_none I.kIn True.intro hn (fun z => nomatch z) fun tk => h _ tk rfl
 | bl y => cases (show x = .bl y from q); cases r; exact PySem.W.kia_one PySem.W.kitx_bool I.kIn True.intro hb (fun z => nomatch z) fun tk => h _ tk rfl
 | int i => cases (show x = .int i from q); obtain ⟨t, rfl⟩ := r; exact PySem.W.kia_one PySem.W.kitx_int I.kIn True.intro hi (fun z => nomatch z) fun tk => h _ tk rfl
 | str y => cases (show x = .str y from q); obtain ⟨t, rfl⟩ := r; exact PySem.W.kia_one PySem.W.kitx_str I.kIn True.intro hs (fun z => nomatch z) fun tk => h _ tk rfl
 | lst ds =>
  obtain ⟨l, xs, e, t, _⟩ := q
  subst e
  cases r
  obtain ⟨its, _, pl, _⟩ := I.list (hF.lst t)
  obtain ⟨o, h1, h2, _⟩ := pl.isList
  exact PySem.W.kia_one PySem.W.kitx_list I.kIn ⟨o, h1, h2⟩ hl (fun z => nomatch z) fun tk => h _ tk rfl
 | tup ds =>
  obtain ⟨l, xs, e, t, _⟩ := q
  subst e
  cases r
  obtain ⟨its, _, pl, _⟩ := I.tuple (hF.tup t)
  obtain ⟨o, h1, h2, _⟩ := pl
  exact PySem.W.kia_one PySem.W.kitx_tuple I.kIn ⟨o, h1, h2⟩ ht (fun z => nomatch z) fun tk => h _ tk rfl
 | ins C fs => exact absurd rfl (no C fs)
theorem wX {T : String} {y : Str} {g : Dat -> M Dat} (hc : eR X (.builtin "isinstance") (fun xs H Q => ∃ v, xs = [v, .ty T] /\ rD1 K W own g v H Q)) (hm : X.mg "isinstance" = none) (hmT : X.mg y = none) (hvT : bootBuiltins y = some (.type T)) (ha : DE K W false X a fa)
  (hg : Gl X "isinstance" := by rfl) (hgT : Gl X y := by rfl) (hn : y ≠ "__name__" := by decide) (hd : (y == ("__debug__" : Str)) = false := by decide)
  (hst : starEach [a, .Name y p2] X.env = [(false, eval a X.env), (false, eval (.Name y p2) X.env)] := by rfl) (hst2 : starEach [.Name y p2] X.env = [(false, eval (.Name y p2) X.env)] := by rfl) (hpl : (backTo pos (starEach [.Name y p2] X.env)).any (·.1) = false := by rfl) :
  DE K W own X (.Call (.Name "isinstance" p) [a, .Name y p2] [] pos) (f1 g fa) :=
 (g4 hc hg hm boot_isinstance (aW ha (aW (Bp (pos := p2) hgT hmT hvT hn hd) eU hst2) (by rw [hst, hst2])) (by decide) (by decide) (by rw [hst, hst2]) hpl).imp fun σ H Q h => by
  obtain ⟨F, ρ, r, s, q⟩ := rd_1 h
  refine ⟨F, ρ, r, s, ?_⟩
  cases e1 : fa ρ with
  | error z => rw [e1] at q; exact q
  | ok d => rw [e1] at q; exact fun v F' H' st z => ⟨v, rfl, q v F' H' st z⟩
theorem Cy (kit : Kit K) (hK : X.K = K := by rfl) : eR X (.builtin "isinstance") (fun xs H Q => ∃ v, xs = [v, .ty "int"] /\ rD1 K W own nF v H Q) := by
 subst hK
 intro pins s σ H xs us Q I r h
 obtain ⟨v, rfl, F, d, s1, q, p⟩ := h
 obtain ⟨u, w, rfl, ru, rw'⟩ := r.two
 cases (show w = Value.type "int" from rw')
 by_cases hi : ∃ C fs, d = .ins C fs
 ·obtain ⟨C, fs, rfl⟩ := hi
  exact aP.stuck p
 ·refine BP I s1 q ru kit.kJ kit.jd kit.j9 kit.gY kit.kH kit.dX (fun k tk hk => ⟨.bl k, H, I.tok tk, rfl, ?_⟩) (fun C fs e => hi ⟨C, fs, e⟩)
  cases d <;> first | (have hk' : k = _ := hk; subst hk'; exact aP.bl (own := own) p s1) | exact absurd ⟨_, _, rfl⟩ hi
theorem sE (kit : Kit K) (hm : X.mg "isinstance" = none) (hmT : X.mg "int" = none) (ha : DE K W false X a fa) (hK : X.K = K := by rfl)
  (hg : Gl X "isinstance" := by rfl) (hgT : Gl X "int" := by rfl)
  (hst : starEach [a, .Name "int" p2] X.env = [(false, eval a X.env), (false, eval (.Name "int" p2) X.env)] := by rfl) (hst2 : starEach [.Name "int" p2] X.env = [(false, eval (.Name "int" p2) X.env)] := by rfl) (hpl : (backTo pos (starEach [.Name "int" p2] X.env)).any (·.1) = false := by rfl) :
  DE K W own X (.Call (.Name "isinstance" p) [a, .Name "int" p2] [] pos) (f1 nF fa) := wX (Cy kit hK) hm hmT (by decide +kernel) ha hg hgT (by decide) (by decide) hst hst2 hpl
theorem AG (kit : Kit K) (hK : X.K = K := by rfl) : eR X (.builtin "isinstance") (fun xs H Q => ∃ v, xs = [v, .ty "bool"] /\ rD1 K W own l7 v H Q) := by
 subst hK
 intro pins s σ H xs us Q I r h
 obtain ⟨v, rfl, F, d, s1, q, p⟩ := h
 obtain ⟨u, w, rfl, ru, rw'⟩ := r.two
 cases (show w = Value.type "bool" from rw')
 by_cases hi : ∃ C fs, d = .ins C fs
 ·obtain ⟨C, fs, rfl⟩ := hi
  exact aP.stuck p
 ·refine BP I s1 q ru kit.jb kit.hW kit.hI kit.gb kit.j7 kit.du (fun k tk hk => ⟨.bl k, H, I.tok tk, rfl, ?_⟩) (fun C fs e => hi ⟨C, fs, e⟩)
  cases d <;> first | (have hk' : k = _ := hk; subst hk'; exact aP.bl (own := own) p s1) | exact absurd ⟨_, _, rfl⟩ hi
theorem qO (kit : Kit K) (hm : X.mg "isinstance" = none) (hmT : X.mg "bool" = none) (ha : DE K W false X a fa) (hK : X.K = K := by rfl)
  (hg : Gl X "isinstance" := by rfl) (hgT : Gl X "bool" := by rfl)
  (hst : starEach [a, .Name "bool" p2] X.env = [(false, eval a X.env), (false, eval (.Name "bool" p2) X.env)] := by rfl) (hst2 : starEach [.Name "bool" p2] X.env = [(false, eval (.Name "bool" p2) X.env)] := by rfl) (hpl : (backTo pos (starEach [.Name "bool" p2] X.env)).any (·.1) = false := by rfl) :
  DE K W own X (.Call (.Name "isinstance" p) [a, .Name "bool" p2] [] pos) (f1 l7 fa) := wX (AG kit hK) hm hmT (by decide +kernel) ha hg hgT (by decide) (by decide) hst hst2 hpl
theorem AF (kit : Kit K) (hK : X.K = K := by rfl) : eR X (.builtin "isinstance") (fun xs H Q => ∃ v, xs = [v, .ty "list"] /\ rD1 K W own gk v H Q) := by
 subst hK
 intro pins s σ H xs us Q I r h
 obtain ⟨v, rfl, F, d, s1, q, p⟩ := h
 obtain ⟨u, w, rfl, ru, rw'⟩ := r.two
 cases (show w = Value.type "list" from rw')
 by_cases hi : ∃ C fs, d = .ins C fs
 ·obtain ⟨C, fs, rfl⟩ := hi
  exact aP.stuck p
 ·refine BP I s1 q ru kit.ja kit.hV kit.hG kit.g9 kit.j6 kit.dq (fun k tk hk => ⟨.bl k, H, I.tok tk, rfl, ?_⟩) (fun C fs e => hi ⟨C, fs, e⟩)
  cases d <;> first | (have hk' : k = _ := hk; subst hk'; exact aP.bl (own := own) p s1) | exact absurd ⟨_, _, rfl⟩ hi
theorem mV (kit : Kit K) (hm : X.mg "isinstance" = none) (hmT : X.mg "list" = none) (ha : DE K W false X a fa) (hK : X.K = K := by rfl)
  (hg : Gl X "isinstance" := by rfl) (hgT : Gl X "list" := by rfl)
  (hst : starEach [a, .Name "list" p2] X.env = [(false, eval a X.env), (false, eval (.Name "list" p2) X.env)] := by rfl) (hst2 : starEach [.Name "list" p2] X.env = [(false, eval (.Name "list" p2) X.env)] := by rfl) (hpl : (backTo pos (starEach [.Name "list" p2] X.env)).any (·.1) = false := by rfl) :
  DE K W own X (.Call (.Name "isinstance" p) [a, .Name "list" p2] [] pos) (f1 gk fa) := wX (AF kit hK) hm hmT (by decide +kernel) ha hg hgT (by decide) (by decide) hst hst2 hpl
theorem yP (kit : Kit K) (hK : X.K = K := by rfl) : eR X (.builtin "isinstance") (fun xs H Q => ∃ v, xs = [v, .ty "tuple"] /\ rD1 K W own sq v H Q) := by
 subst hK
 intro pins s σ H xs us Q I r h
 obtain ⟨v, rfl, F, d, s1, q, p⟩ := h
 obtain ⟨u, w, rfl, ru, rw'⟩ := r.two
 cases (show w = Value.type "tuple" from rw')
 by_cases hi : ∃ C fs, d = .ins C fs
 ·obtain ⟨C, fs, rfl⟩ := hi
  exact aP.stuck p
 ·refine BP I s1 q ru kit.hU kit.gd kit.gc kit.fq kit.gZ kit.cY (fun k tk hk => ⟨.bl k, H, I.tok tk, rfl, ?_⟩) (fun C fs e => hi ⟨C, fs, e⟩)
  cases d <;> first | (have hk' : k = _ := hk; subst hk'; exact aP.bl (own := own) p s1) | exact absurd ⟨_, _, rfl⟩ hi
theorem de_isi_tuple (kit : Kit K) (hm : X.mg "isinstance" = none) (hmT : X.mg "tuple" = none) (ha : DE K W false X a fa) (hK : X.K = K := by rfl)
  (hg : Gl X "isinstance" := by rfl) (hgT : Gl X "tuple" := by rfl)
  (hst : starEach [a, .Name "tuple" p2] X.env = [(false, eval a X.env), (false, eval (.Name "tuple" p2) X.env)] := by rfl) (hst2 : starEach [.Name "tuple" p2] X.env = [(false, eval (.Name "tuple" p2) X.env)] := by rfl) (hpl : (backTo pos (starEach [.Name "tuple" p2] X.env)).any (·.1) = false := by rfl) :
  DE K W own X (.Call (.Name "isinstance" p) [a, .Name "tuple" p2] [] pos) (f1 sq fa) := wX (yP kit hK) hm hmT (by decide +kernel) ha hg hgT (by decide) (by decide) hst hst2 hpl
theorem Vals.of_get : ∀ {xs : List V} {us : List Value}, xs.length = us.length -> (∀ (i : Nat) v u, xs[i]? = some v -> us[i]? = some u -> RelV v u) -> Vals xs us
 | [], [], _, _ => .nil
 | [], _ :: _, h, _ => by simp at h
 | _ :: _, [], h, _ => by simp at h
 | x :: xs, u :: us, h, q => .cons (q 0 x u rfl rfl) (Vals.of_get (by simpa using h) fun i v w h1 h2 => q (i + 1) v w (by simpa using h1) (by simpa using h2))
end
section
variable {K : PySem.W.Frag} {W : gI} {ro : Bool} {F0 H0 FB F H : Hp} {OL O O' O2 : List Nat} {D : Ends} {σ : St} {ρ : ak} {g h : ak -> M Flo} {f fk : ak -> M Dat}
theorem popD_ok {ds : List Dat} {k : Dat} {d : Dat} {es : List Dat} (h : Bk ds k = .ok (d, es)) : ∃ i j, k = .int i /\ ds.length <= sizeLine /\ ixN ds.length i = some j /\ ds[j]? = some d /\ es = ds.eraseIdx j := by
 unfold Bk at h
 cases k with
 | int i =>
  simp only [asI, az] at h
  split at h
  ·cases h
  ·rename_i hs
   cases hj : ixN ds.length i with
   | none => rw [hj] at h; cases h
   | some j =>
    rw [hj] at h
    simp only at h
    cases hd : ds[j]? with
    | none => rw [hd] at h; cases h
    | some d' =>
     rw [hd] at h
     cases h
     exact ⟨i, j, rfl, by omega, hj, hd, rfl⟩
 | _ => cases h
theorem popD_err {ds : List Dat} {k : Dat} {e : Err} (h : Bk ds k = .error e) : e = .stuck := by
 unfold Bk at h
 cases k with
 | int i =>
  simp only [asI, az] at h
  split at h
  ·cases h; rfl
  ·cases hj : ixN ds.length i with
   | none => rw [hj] at h; cases h; rfl
   | some j =>
    rw [hj] at h
    simp only at h
    cases hd : ds[j]? with
    | none => rw [hd] at h; cases h; rfl
    | some d' => rw [hd] at h; cases h
 | _ => cases h; rfl
noncomputable def tPopE (K : PySem.W.Frag) (i : Nat) (tk : TE) : TE := tBM K "list" rPopAt (tVar i) (ip tk AL)
theorem pop_run {i : Nat} {R : VK} (r : Rep K F0 H0 FB O F H σ ρ) (hi : i ∈ O) {ds : List Dat} (hl : jB ρ i = .ok ds) (hE : ∀ e, fk ρ = .error e -> W.p e F0 H0)
  (hO : ∀ k, fk ρ = .ok k -> (∀ e, Bk ds k = .error e -> False) /\ ∀ d es, Bk ds k = .ok (d, es) -> ∀ v F1 H1, Rep K F0 H0 FB O F1 H1 σ (ρ.set i (some (.lst es))) -> cA K F1 d v -> R v H1) : tPopE K i (tD K W false fk) σ H R := by
 obtain ⟨a, xs, e2, ha, z⟩ := r.BH hi (lU hl)
 refine ⟨.ref a, e2, sY ha, ?_⟩
 refine cx r.nB r.iI (fun e he => W.mono (hE e he) (r.freeze (O2 := []) (by simp)).st) fun k hk w F1 H1 s1 q => ?_
 obtain ⟨h1, h2⟩ := hO k hk
 cases hp : Bk ds k with
 | error e => exact (h1 e hp).elim
 | ok de =>
  obtain ⟨d, es⟩ := de
  obtain ⟨m, j, rfl, hz, hj, hd, rfl⟩ := popD_ok hp
  obtain ⟨x1, x2, x3, x4⟩ := yA hj
  obtain ⟨y, e3, qy⟩ := z.get hd
  have hs := sizeLine_eq
  refine ⟨a, xs, m, j, y, rfl, by rw [show w = .int m from q], s1.hh _ _ ha, by omega, by omega, by rw [z.length]; exact x1, e3, ?_⟩
  exact h2 d _ hp y _ _ ((r.mf s1).write hi (lU hl) e2 (aB.eraseIdx j (z.mono (r.lS s1)))) (qy.mono (r.lS s1))
theorem rs_popU {i : Nat} {pt : Pat} (hi : i ∈ O) (n : ∀ i ∈ pt.names, i ∉ O) (t : tS K W ro F0 H0 OL O O (Bb i pt fk) D σ H) : AM (tPopE K i (tD K W false fk)) (gP K pt) D σ H := by
 obtain ⟨FB, F, ρ, r, p⟩ := t
 unfold Bb at p
 cases hl : jB ρ i with
 | error e => have := qz hl; subst this; exact p.stuck (by rw [hl]; rfl)
 | ok ds =>
  rw [hl, az] at p
  refine pop_run r hi hl (fun e he => p.err (by rw [he]; rfl)) fun k hk => ?_
  rw [hk, az] at p
  refine ⟨fun e he => by have := popD_err he; subst this; exact p.stuck (by rw [he]; rfl), fun d es2 hp v F1 H1 r1 q => ?_⟩
  rw [hp, az] at p
  cases e : gy pt d (ρ.set i (some (.lst es2))) with
  | error x => have := nW e; subst this; exact p.stuck (by simp only [e]; rfl)
  | ok ρ' =>
   simp only [e, az] at p
   exact BY r1 n q e fun σ' r' => p σ' F1 H1 r'
end
section
variable {X : Cx} {K : PySem.W.Frag} {W : gI} {own ro : Bool} {e a b c : Expr} {x y : Str} {pos p p2 p3 q r t u : Pos} {f fk : ak -> M Dat} {OL O : List Nat}
theorem pe_pop {j : Nat} {tk : TE} (hk : PE X e tk) (hN : X.N[j]? = some y) (hv : Vis X.env.scope y) (hd : (y == ("__debug__" : Str)) = false) (hcd : (y == ("__classdict__" : Str)) = false)
  (hst : starEach [e] X.env = [(false, eval e X.env)]) (hbase : attributeBase (.Name y p) "pop" X.env (eval (.Name y p) X.env) = eval (.Name y p) X.env) (hfew : ((backTo q (starEach [e] X.env)).all (fun x => !x.1) && (backToKw q (keywordEach [] X.env)).all (fun x => x.1.isSome) && decide ([e].length + ([] : List Keyword).length + (if ([] : List Keyword).isEmpty then 0 else 1) < 30)) = true) (hplain : (backTo q (starEach [] X.env)).any (·.1) = false) (hline : (t.endLine == q.line) = true) :
  PE X (.Call (.Attribute (.Name y p) "pop" t) [e] [] q) (tPopE X.K j tk) := pe_bm PySem.F.plainAttrs_list PySem.F.slot_list_pop PySem.F.type_list_pop mt_popAt (pv j hN hv hd hcd) (aW hk eU hst) hbase hfew hline hst hplain
theorem ds_popU {i : Nat} {pt : Pat} {tg : Expr} (hg : DG K X tg pt) (hk : DE K W false X e fk) (ho : i ∈ O := by decide) (n : ∀ i ∈ pt.names, i ∉ O := by decide) (hN : X.N[i]? = some y := by rfl) (hv : Vis X.env.scope y := by first | exact Or.inl rfl | exact Or.inr (Or.inl rfl) | exact Or.inr (Or.inr rfl)) (hd : (y == ("__debug__" : Str)) = false := by decide) (hcd : (y == ("__classdict__" : Str)) = false := by decide) (hK : X.K = K := by rfl)
  (hst : starEach [e] X.env = [(false, eval e X.env)] := by rfl) (hbase : attributeBase (.Name y p) "pop" X.env (eval (.Name y p) X.env) = eval (.Name y p) X.env := by rfl) (hfew : ((backTo q (starEach [e] X.env)).all (fun x => !x.1) && (backToKw q (keywordEach [] X.env)).all (fun x => x.1.isSome) && decide ([e].length + ([] : List Keyword).length + (if ([] : List Keyword).isEmpty then 0 else 1) < 30)) = true := by rfl) (hplain : (backTo q (starEach [] X.env)).any (·.1) = false := by rfl) (hline : (t.endLine == q.line) = true := by rfl) (hs : swapsWithSole [tg] (.Call (.Attribute (.Name y p) "pop" t) [e] [] q) pos.line X.env = pure false := by rfl) (hw : swappedStores [tg] (.Call (.Attribute (.Name y p) "pop" t) [e] [] q) X.env = pure none := by rfl)
  (h1 : (assignEach [tg] X.env).map (·.2) = [assign tg X.env] := by rfl) : DS K W ro X OL O O (.Assign [tg] (.Call (.Attribute (.Name y p) "pop" t) [e] [] q) pos) (Bb i pt fk) := fun F0 H0 => by
 subst hK
 exact (Bh (pe_pop hk hN hv hd hcd hst hbase hfew hplain hline) hg hs hw h1).imp fun _ _ _ => rs_popU ho n
end
end L2
namespace L2
open PySem PySem.Spec PyProof.Rows
section
variable {X : Cx} {es : List Expr} {x : Str} {p : Pos}
theorem nL {N' : List Str} {sc : Scope} {L : Addr} {cs : List (Str × Addr)} {s : Shared} {H : Hp} {fp : List Addr} {i : Nat} {is : List Nat} (hN : N'.Nodup) (h2 : PGs (ck X N' sc L cs s H fp) es (iB is)) (hi : N'[i]? = some x := by rfl) (hx : Loc (ck X N' sc L cs s H fp).env.scope x := by first | exact Or.inl rfl | exact Or.inr rfl)
  (hf : (ck X N' sc L cs s H fp).fn x = true \/ (ck X N' sc L cs s H fp).env.scope.names.lookup x = some .local := by first | exact .inl rfl | exact .inr rfl | assumption)
  (hs : (assignEach (.Name x p :: es) (ck X N' sc L cs s H fp).env).map (·.2) = assign (.Name x p) (ck X N' sc L cs s H fp).env :: (assignEach es (ck X N' sc L cs s H fp).env).map (·.2) := by rfl) : PGs (ck X N' sc L cs s H fp) (.Name x p :: es) (iB (i :: is)) := zH (pg_c hN hi hx hf) h2 hs
end
end L2
namespace L2
open PySem PySem.Spec PyProof.Rows
open PySem.W in
noncomputable def fj {α : Type} (lt : Nat -> Nat -> Bool) : KasT α -> α
 | .ret a => a
 | .ask i j k => fj lt (k (lt i j))
section
open PySem.W
variable {α β : Type} {lt : Nat -> Nat -> Bool}
theorem j5 (f : α -> KasT β) : ∀ t : KasT α, fj lt (t.bind f) = fj lt (f (fj lt t))
 | .ret _ => rfl
 | .ask i j k => j5 f (k (lt i j))
variable {key : Nat -> Int} {p : Array Nat}
noncomputable def kAt (key : Nat -> Int) (p : Array Nat) (i : Nat) : Int := key (p.getD i 0)
noncomputable def Up (key : Nat -> Int) (p : Array Nat) (k : Nat) : Prop := ∀ i j, i <= j -> j < k -> kAt key p i <= kAt key p j
noncomputable def Down (key : Nat -> Int) (p : Array Nat) (k : Nat) : Prop := ∀ i j, i <= j -> j < k -> kAt key p j <= kAt key p i
theorem l5 {p q : Array Nat} {i j : Nat} (h : p[i]? = q[j]?) : kAt key p i = kAt key q j := by
 unfold kAt
 rw [Array.getD_eq_getD_getElem?, Array.getD_eq_getD_getElem?, h]
theorem qG {i j : Nat} (hj : j <= p.size) (k : Nat) : kAt key (kas_rev p i j) k = if i <= k /\ k < j then kAt key p (i + j - 1 - k) else kAt key p k := by
 have e := getElem?_mirror_all (i := i) hj k
 unfold kas_rev
 split
 ·rename_i h; rw [if_pos h] at e; exact l5 e
 ·rename_i h; rw [if_neg h] at e; exact l5 e
theorem kAt_bub {src d : Nat} (hs : src < p.size) (hd : d <= src) (k : Nat) : kAt key (bubble p src d) k = if k = src - d then kAt key p src else if src - d < k /\ k <= src then kAt key p (k - 1) else kAt key p k := by
 have e := getElem?_bubble hs d hd k
 split
 ·rename_i h; rw [if_pos h] at e; exact l5 e
 ·rename_i h
  rw [if_neg h] at e
  split
  ·rename_i h2; rw [if_pos h2] at e; exact l5 e
  ·rename_i h2; rw [if_neg h2] at e; exact l5 e
theorem jw {i j : Nat} : (kas_rev p i j).size = p.size := mirror_size _ _ _ _
theorem gM {i j : Nat} : (kas_rev p i j).Perm p := mirror_perm _ _ _ _
noncomputable def ltK (key : Nat -> Int) (i j : Nat) : Bool := decide (key i < key j)
theorem CJ (p : Array Nat) : ∀ (f n : Nat), 1 <= n -> Up key p n -> n <= fj (ltK key) (kas_asc p f n) /\ fj (ltK key) (kas_asc p f n) <= n + f /\ Up key p (fj (ltK key) (kas_asc p f n)) /\
  (fj (ltK key) (kas_asc p f n) < n + f -> kAt key p (fj (ltK key) (kas_asc p f n)) < kAt key p (fj (ltK key) (kas_asc p f n) - 1))
 | 0, n, h1, h => ⟨Nat.le_refl _, Nat.le_refl _, h, fun z => absurd z (Nat.lt_irrefl _)⟩
 | f + 1, n, h1, h => by
  have e : fj (ltK key) (kas_asc p (f + 1) n) = if kAt key p n < kAt key p (n - 1) then n else fj (ltK key) (kas_asc p f (n + 1)) := by
   show fj (ltK key) (if ltK key (p.getD n 0) (p.getD (n - 1) 0) = true then KasT.ret n else kas_asc p f (n + 1)) = _
   by_cases hc : kAt key p n < kAt key p (n - 1)
   ·rw [if_pos (show ltK key (p.getD n 0) (p.getD (n - 1) 0) = true from decide_eq_true hc), if_pos hc]; rfl
   ·rw [if_neg (show ¬ ltK key (p.getD n 0) (p.getD (n - 1) 0) = true from fun z => hc (of_decide_eq_true z)), if_neg hc]
  rw [e]
  by_cases hc : kAt key p n < kAt key p (n - 1)
  ·rw [if_pos hc]
   exact ⟨Nat.le_refl _, by omega, h, fun _ => hc⟩
  ·rw [if_neg hc]
   obtain ⟨a1, a2, a3, a4⟩ := CJ p f (n + 1) (by omega) (fun i j hij hj => by
    by_cases hjn : j < n
    ·exact h i j hij hjn
    ·have : j = n := by omega
     subst this
     by_cases hin : i = j
     ·rw [hin]; exact Int.le_refl _
     ·have := h i (j - 1) (by omega) (by omega)
      omega)
   exact ⟨by omega, by omega, a3, fun z => a4 (by omega)⟩
noncomputable def Alike (key : Nat -> Int) (p : Array Nat) (n q : Nat) : Prop := ∀ i, n - (q + 1) <= i -> i < n -> kAt key p i = kAt key p (n - 1)
theorem CL {n : Nat} : Alike key p (n + 1) 0 := fun i h1 h2 => by rw [show i = n + 1 - 1 by omega]
theorem vH {n q : Nat} (hn : n <= p.size) (ha : Alike key p n q) (hq : q + 1 <= n) (k : Nat) : kAt key (kas_rev p (n - (q + 1)) n) k = kAt key p k := by
 rw [qG hn]
 split
 ·rename_i h
  rw [ha _ (by omega) (by omega), ha k h.1 h.2]
 ·rfl
theorem uD : ∀ (f : Nat) (p : Array Nat) (n q : Nat), 1 <= n -> q + 1 <= n -> n + f <= p.size -> Down key p n -> Alike key p n q -> ∀ p' n' q', fj (ltK key) (kas_desc f p n q) = (p', n', q') ->
  p'.Perm p /\ p'.size = p.size /\ n <= n' /\ n' <= n + f /\ q' + 1 <= n' /\ Down key p' n' /\ Alike key p' n' q'
 | 0, p, n, q, h1, hq, hz, hd, ha, p', n', q', e => by
  cases e
  exact ⟨Array.Perm.refl _, rfl, Nat.le_refl _, Nat.le_refl _, hq, hd, ha⟩
 | f + 1, p, n, q, h1, hq, hz, hd, ha, p', n', q', e => by
  have e0 : fj (ltK key) (kas_desc (f + 1) p n q) = if kAt key p n < kAt key p (n - 1) then (if q > 0 then fj (ltK key) (kas_desc f (kas_rev p (n - (q + 1)) n) (n + 1) 0) else fj (ltK key) (kas_desc f p (n + 1) 0))
    else if kAt key p (n - 1) < kAt key p n then (p, n, q) else fj (ltK key) (kas_desc f p (n + 1) (q + 1)) := by
   show fj (ltK key) (if ltK key (p.getD n 0) (p.getD (n - 1) 0) = true then (if q > 0 then kas_desc f (kas_rev p (n - (q + 1)) n) (n + 1) 0 else kas_desc f p (n + 1) 0)
    else KasT.ask (p.getD (n - 1) 0) (p.getD n 0) fun d => if d = true then .ret (p, n, q) else kas_desc f p (n + 1) (q + 1)) = _
   by_cases hc : kAt key p n < kAt key p (n - 1)
   ·rw [if_pos (show ltK key (p.getD n 0) (p.getD (n - 1) 0) = true from decide_eq_true hc), if_pos hc]
    by_cases hq0 : q > 0
    ·rw [if_pos hq0, if_pos hq0]
    ·rw [if_neg hq0, if_neg hq0]
   ·rw [if_neg (show ¬ ltK key (p.getD n 0) (p.getD (n - 1) 0) = true from fun z => hc (of_decide_eq_true z)), if_neg hc]
    show fj (ltK key) (if ltK key (p.getD (n - 1) 0) (p.getD n 0) = true then KasT.ret (p, n, q) else kas_desc f p (n + 1) (q + 1)) = _
    by_cases hc2 : kAt key p (n - 1) < kAt key p n
    ·rw [if_pos (show ltK key (p.getD (n - 1) 0) (p.getD n 0) = true from decide_eq_true hc2), if_pos hc2]; rfl
    ·rw [if_neg (show ¬ ltK key (p.getD (n - 1) 0) (p.getD n 0) = true from fun z => hc2 (of_decide_eq_true z)), if_neg hc2]
  rw [e0] at e
  have down1 : ∀ {r : Array Nat}, (∀ k, kAt key r k = kAt key p k) -> kAt key p n <= kAt key p (n - 1) -> Down key r (n + 1) := fun {r} hr hle i j hij hj => by
   rw [hr, hr]
   by_cases hjn : j < n
   ·exact hd i j hij hjn
   ·have : j = n := by omega
    subst this
    by_cases hin : i = j
    ·rw [hin]; exact Int.le_refl _
    ·have := hd i (j - 1) (by omega) (by omega)
     omega
  by_cases hc : kAt key p n < kAt key p (n - 1)
  ·rw [if_pos hc] at e
   by_cases hq0 : q > 0
   ·rw [if_pos hq0] at e
    have hr := vH (key := key) (p := p) (n := n) (q := q) (by omega) ha hq
    obtain ⟨b1, b2, b3, b4, b5, b6, b7⟩ := uD f _ (n + 1) 0 (by omega) (by omega) (by rw [jw]; omega) (down1 hr (by omega)) CL p' n' q' e
    exact ⟨b1.trans gM, by rw [b2, jw], by omega, by omega, b5, b6, b7⟩
   ·rw [if_neg hq0] at e
    obtain ⟨b1, b2, b3, b4, b5, b6, b7⟩ := uD f _ (n + 1) 0 (by omega) (by omega) (by omega) (down1 (fun _ => rfl) (by omega)) CL p' n' q' e
    exact ⟨b1, b2, by omega, by omega, b5, b6, b7⟩
  ·rw [if_neg hc] at e
   by_cases hc2 : kAt key p (n - 1) < kAt key p n
   ·rw [if_pos hc2] at e
    cases e
    exact ⟨Array.Perm.refl _, rfl, Nat.le_refl _, by omega, hq, hd, ha⟩
   ·rw [if_neg hc2] at e
    obtain ⟨b1, b2, b3, b4, b5, b6, b7⟩ := uD f _ (n + 1) (q + 1) (by omega) (by omega) (by omega) (down1 (fun _ => rfl) (by omega)) (fun i h1 h2 => by
     show kAt key p i = kAt key p (n + 1 - 1)
     rw [Nat.add_sub_cancel]
     by_cases hin : i = n
     ·rw [hin]
     ·have := ha i (by omega) (by omega)
      omega) p' n' q' e
    exact ⟨b1, b2, by omega, by omega, b5, b6, b7⟩
theorem zw {n nrem : Nat} (h1 : 1 <= n) (hn : n <= nrem) (hz : nrem <= p.size) (hd : Down key p n) : ∀ m p', fj (ltK key) (kas_tail3 n nrem p) = (m, p') -> p'.Perm p /\ p'.size = p.size /\ 1 <= m /\ m <= nrem /\ Up key p' m := by
 intro m p' e
 unfold kas_tail3 at e
 rw [j5] at e
 cases e
 have hu : Up key (kas_rev p 0 n) n := fun i j hij hj => by
  rw [qG (by omega), qG (by omega), if_pos ⟨Nat.zero_le _, by omega⟩, if_pos ⟨Nat.zero_le _, by omega⟩]
  exact hd _ _ (by omega) (by omega)
 obtain ⟨a1, a2, a3, _⟩ := CJ (key := key) (kas_rev p 0 n) (nrem - n) n h1 hu
 exact ⟨gM, jw, by omega, by omega, a3⟩
theorem qN {n nrem : Nat} (h1 : 1 <= n) (hn : n + 1 <= nrem) (hz : nrem <= p.size) (hall : ∀ i, i < n -> kAt key p i = kAt key p (n - 1)) (hlt : kAt key p n < kAt key p (n - 1)) : ∀ m p', fj (ltK key) (kas_descPart n nrem p) = (m, p') -> p'.Perm p /\ p'.size = p.size /\ 1 <= m /\ m <= nrem /\ Up key p' m := by
 intro m p' e
 unfold kas_descPart at e
 rw [j5] at e
 obtain ⟨r, n2, q2⟩ : ∃ r n2 q2, fj (ltK key) (kas_desc (nrem - (n + 1)) p (n + 1) 0) = (r, n2, q2) := ⟨_, _, _, rfl⟩
 obtain ⟨q2, er⟩ := q2
 rw [er] at e
 obtain ⟨b1, b2, b3, b4, b5, b6, b7⟩ := uD (key := key) (nrem - (n + 1)) p (n + 1) 0 (by omega) (by omega) (by omega) (fun i j hij hj => by
  by_cases hjn : j < n
  ·rw [hall i (by omega), hall j hjn]; exact Int.le_refl _
  ·have : j = n := by omega
   subst this
   by_cases hin : i = j
   ·rw [hin]; exact Int.le_refl _
   ·rw [hall i (by omega)]; omega) CL r n2 q2 er
 by_cases hq : q2 > 0
 ·simp only [if_pos hq] at e
  have hr := vH (key := key) (p := r) (n := n2) (q := q2) (by omega) b7 b5
  obtain ⟨c1, c2, c3, c4, c5⟩ := zw (key := key) (p := kas_rev r (n2 - (q2 + 1)) n2) (n := n2) (nrem := nrem) (by omega) (by omega) (by rw [jw]; omega) (fun i j hij hj => by rw [hr, hr]; exact b6 i j hij hj) m p' e
  exact ⟨c1.trans (gM.trans b1), by rw [c2, jw, b2], c3, c4, c5⟩
 ·simp only [if_neg hq] at e
  obtain ⟨c1, c2, c3, c4, c5⟩ := zw (key := key) (p := r) (n := n2) (nrem := nrem) (by omega) (by omega) (by omega) b6 m p' e
  exact ⟨c1.trans b1, by rw [c2, b2], c3, c4, c5⟩
theorem count_ok {nrem : Nat} (h1 : 1 <= nrem) (hz : nrem <= p.size) : ∀ m p', fj (ltK key) (kas_count nrem p) = (m, p') -> p'.Perm p /\ p'.size = p.size /\ 1 <= m /\ m <= nrem /\ Up key p' m := by
 intro m p' e
 unfold kas_count at e
 rw [j5] at e
 obtain ⟨a1, a2, a3, a4⟩ := CJ (key := key) p (nrem - 1) 1 (Nat.le_refl _) (fun i j hij hj => by rw [show i = j by omega]; exact Int.le_refl _)
 obtain ⟨n, en⟩ : ∃ n, fj (ltK key) (kas_asc p (nrem - 1) 1) = n := ⟨_, rfl⟩
 rw [en] at e a1 a2 a3 a4
 by_cases hn : (n == nrem) = true
 ·simp only [if_pos hn] at e
  cases e
  exact ⟨Array.Perm.refl _, rfl, a1, by omega, a3⟩
 ·simp only [if_neg hn] at e
  have hn' : n ≠ nrem := fun z => hn (by simp [z])
  have hlt := a4 (by omega)
  by_cases h2 : n > 1
  ·simp only [if_pos h2] at e
   have e' : fj (ltK key) (if ltK key (p.getD 0 0) (p.getD (n - 1) 0) = true then KasT.ret (n, p) else kas_descPart n nrem (kas_rev p 0 n)) = (m, p') := e
   by_cases hc : kAt key p 0 < kAt key p (n - 1)
   ·rw [if_pos (show ltK key (p.getD 0 0) (p.getD (n - 1) 0) = true from decide_eq_true hc)] at e'
    cases e'
    exact ⟨Array.Perm.refl _, rfl, a1, by omega, a3⟩
   ·rw [if_neg (show ¬ ltK key (p.getD 0 0) (p.getD (n - 1) 0) = true from fun z => hc (of_decide_eq_true z))] at e'
    have all : ∀ i, i < n -> kAt key p i = kAt key p (n - 1) := fun i hi => by
     have x1 := a3 0 i (by omega) hi
     have x2 := a3 i (n - 1) (by omega) (by omega)
     omega
    have hr : ∀ i, i < n -> kAt key (kas_rev p 0 n) i = kAt key p (n - 1) := fun i hi => by
     rw [qG (by omega), if_pos ⟨Nat.zero_le _, hi⟩]
     exact all _ (by omega)
    obtain ⟨c1, c2, c3, c4, c5⟩ := qN (key := key) (p := kas_rev p 0 n) (n := n) (nrem := nrem) a1 (by omega) (by rw [jw]; omega) (fun i hi => by rw [hr i hi, hr (n - 1) (by omega)]) (by
     rw [hr (n - 1) (by omega), qG (by omega), if_neg (by omega)]
     exact hlt) m p' e'
    exact ⟨c1.trans gM, by rw [c2, jw], c3, c4, c5⟩
  ·simp only [if_neg h2] at e
   have : n = 1 := by omega
   subst this
   exact qN (key := key) (Nat.le_refl _) (by omega) hz (fun i hi => by rw [show i = 1 - 1 by omega]) hlt m p' e
theorem tK {k : Nat} (hu : Up key p k) : ∀ (f l r : Nat), r <= k -> r - l <= f -> l <= r -> (∀ i, i < l -> kAt key p i <= kAt key p k) -> (∀ i, r <= i -> i < k -> kAt key p k < kAt key p i) ->
  fj (ltK key) (kas_place p k f l r) <= k /\ (∀ i, i < fj (ltK key) (kas_place p k f l r) -> kAt key p i <= kAt key p k) /\ ∀ i, fj (ltK key) (kas_place p k f l r) <= i -> i < k -> kAt key p k < kAt key p i
 | 0, l, r, hr, hf, hlr, h1, h2 => by
  have : l = r := by omega
  subst this
  exact ⟨hr, h1, h2⟩
 | f + 1, l, r, hr, hf, hlr, h1, h2 => by
  by_cases hge : l >= r
  ·have : l = r := by omega
   subst this
   have e : fj (ltK key) (kas_place p k (f + 1) l l) = l := by
    show fj (ltK key) (if l >= l then KasT.ret l else _) = l
    rw [if_pos hge]; rfl
   rw [e]
   exact ⟨hr, h1, h2⟩
  ·have e : fj (ltK key) (kas_place p k (f + 1) l r) = if kAt key p k < kAt key p ((l + r) / 2) then fj (ltK key) (kas_place p k f l ((l + r) / 2)) else fj (ltK key) (kas_place p k f ((l + r) / 2 + 1) r) := by
    show fj (ltK key) (if l >= r then KasT.ret l else .ask (p.getD k 0) (p.getD ((l + r) / 2) 0) fun c => if c = true then kas_place p k f l ((l + r) / 2) else kas_place p k f ((l + r) / 2 + 1) r) = _
    rw [if_neg hge]
    show fj (ltK key) (if ltK key (p.getD k 0) (p.getD ((l + r) / 2) 0) = true then kas_place p k f l ((l + r) / 2) else kas_place p k f ((l + r) / 2 + 1) r) = _
    by_cases hc : kAt key p k < kAt key p ((l + r) / 2)
    ·rw [if_pos (show ltK key (p.getD k 0) (p.getD ((l + r) / 2) 0) = true from decide_eq_true hc), if_pos hc]
    ·rw [if_neg (show ¬ ltK key (p.getD k 0) (p.getD ((l + r) / 2) 0) = true from fun z => hc (of_decide_eq_true z)), if_neg hc]
   rw [e]
   by_cases hc : kAt key p k < kAt key p ((l + r) / 2)
   ·rw [if_pos hc]
    exact tK hu f l ((l + r) / 2) (by omega) (by omega) (by omega) h1 fun i hi hik => by
     have := hu ((l + r) / 2) i hi hik
     omega
   ·rw [if_neg hc]
    exact tK hu f ((l + r) / 2 + 1) r hr (by omega) (by omega) (fun i hi => by
     have := hu i ((l + r) / 2) (by omega) (by omega)
     omega) h2
theorem bin_ok : ∀ (f : Nat) (p : Array Nat) (k : Nat), k + f <= p.size -> Up key p k -> (fj (ltK key) (kas_bin f p k)).Perm p /\ Up key (fj (ltK key) (kas_bin f p k)) (k + f)
 | 0, p, k, hz, hu => ⟨Array.Perm.refl _, hu⟩
 | f + 1, p, k, hz, hu => by
  have e : fj (ltK key) (kas_bin (f + 1) p k) = fj (ltK key) (kas_bin f (bubble p k (k - fj (ltK key) (kas_place p k k 0 k))) (k + 1)) := by
   show fj (ltK key) ((kas_place p k k 0 k).bind fun l => kas_bin f (bubble p k (k - l)) (k + 1)) = _
   rw [j5]
  rw [e]
  obtain ⟨a1, a2, a3⟩ := tK hu k 0 k (Nat.le_refl _) (by omega) (Nat.zero_le _) (fun i hi => absurd hi (Nat.not_lt_zero _)) (fun i h1 h2 => by omega)
  obtain ⟨l, el⟩ : ∃ l, fj (ltK key) (kas_place p k k 0 k) = l := ⟨_, rfl⟩
  rw [el] at a1 a2 a3 ⊢
  have hb := kAt_bub (key := key) (p := p) (src := k) (d := k - l) (by omega) (by omega)
  obtain ⟨c1, c2⟩ := bin_ok f (bubble p k (k - l)) (k + 1) (by rw [bubble_size]; omega) (fun i j hij hj => by
   have e1 : k - (k - l) = l := by omega
   rw [hb, hb, e1]
   by_cases hi : i = l
   ·rw [if_pos hi]
    by_cases hj2 : j = l
    ·rw [if_pos hj2]; exact Int.le_refl _
    ·rw [if_neg hj2, if_pos (by omega)]
     have := a3 (j - 1) (by omega) (by omega)
     omega
   ·rw [if_neg hi]
    by_cases hj2 : j = l
    ·rw [if_pos hj2, if_neg (by omega)]
     exact a2 i (by omega)
    ·rw [if_neg hj2]
     by_cases hi2 : l < i /\ i <= k
     ·rw [if_pos hi2, if_pos (by omega)]
      exact hu _ _ (by omega) (by omega)
     ·rw [if_neg hi2]
      by_cases hj3 : l < j /\ j <= k
      ·rw [if_pos hj3]
       exact hu _ _ (by omega) (by omega)
      ·rw [if_neg hj3]
       exact hu _ _ (by omega) (by omega))
  exact ⟨c1.trans (bubble_perm _ _ _), by rw [show k + (f + 1) = k + 1 + f by omega]; exact c2⟩
theorem xW {n : Nat} (h1 : 1 <= n) : (fj (ltK key) (kas_sort n)).toList.Perm (List.range n) /\ Up key (fj (ltK key) (kas_sort n)) n := by
 unfold kas_sort
 rw [j5]
 obtain ⟨m, p', er⟩ : ∃ m p', fj (ltK key) (kas_count n (List.toArray (List.range n))) = (m, p') := ⟨_, _, rfl⟩
 rw [er]
 obtain ⟨b1, b2, b3, b4, b5⟩ := count_ok (key := key) (p := List.toArray (List.range n)) h1 (by simp) m p' er
 have hsz : p'.size = n := by rw [b2]; simp
 by_cases hm : m < n
 ·simp only [if_pos hm]
  have em : max m 1 = m := by omega
  rw [em]
  obtain ⟨c1, c2⟩ := bin_ok (key := key) (n - m) p' m (by omega) b5
  refine ⟨?_, by rw [show m + (n - m) = n by omega] at c2; exact c2⟩
  have := Array.perm_iff_toList_perm.mp (c1.trans b1)
  simpa using this
 ·simp only [if_neg hm]
  have : m = n := by omega
  subst this
  refine ⟨?_, b5⟩
  have := Array.perm_iff_toList_perm.mp b1
  show p'.toList.Perm _
  simpa using this
end
end L2
namespace L2
open PySem PySem.Spec PyProof.Rows
section
open PySem.W
variable {α β : Type} {n : Nat}
noncomputable def A9 (n : Nat) (R : α -> Prop) : KasT α -> Prop
 | .ret a => R a
 | .ask i j k => i < n /\ j < n /\ ∀ b, A9 n R (k b)
theorem jo {R : α -> Prop} {S : β -> Prop} {f : α -> KasT β} (hf : ∀ a, R a -> A9 n S (f a)) : ∀ t : KasT α, A9 n R t -> A9 n S (t.bind f)
 | .ret a, h => hf a h
 | .ask i j k, h => ⟨h.1, h.2.1, fun b => jo hf (k b) (h.2.2 b)⟩
theorem so {lt : Nat -> Nat -> Bool} {R : α -> Prop} {cmp : Nat -> Nat -> (Bool -> Shared -> Prop) -> Shared -> Prop} {s : Shared} (ha : ∀ i j (C : Bool -> Shared -> Prop), i < n -> j < n -> C (lt i j) s -> cmp i j C s) {Q : α -> Shared -> Prop} : ∀ t : KasT α, A9 n R t -> Q (fj lt t) s -> t.kasWp cmp Q s
 | .ret _, _, h => h
 | .ask i j k, r, h => ha i j _ r.1 r.2.1 (so ha (k (lt i j)) (r.2.2 _) h)
noncomputable def InB (n : Nat) (p : Array Nat) : Prop := ∀ x, p.getD x 0 < n
theorem lV {p q : Array Nat} (h0 : 0 < n) (hp : InB n p) (h : q.Perm p) : InB n q := fun x => by
 rw [Array.getD_eq_getD_getElem?]
 cases e : q[x]? with
 | none => exact h0
 | some v =>
  have hv : v ∈ q.toList := by
   rw [<- Array.getElem?_toList] at e
   exact List.mem_of_getElem? e
  have hv2 : v ∈ p.toList := (Array.perm_iff_toList_perm.mp h).mem_iff.mp hv
  obtain ⟨y, hy, ey⟩ := List.getElem_of_mem hv2
  have := hp y
  rw [Array.getD_eq_getD_getElem?, <- Array.getElem?_toList, List.getElem?_eq_getElem hy, ey] at this
  exact this
variable {p : Array Nat}
theorem uU (hp : InB n p) : ∀ f m, A9 n (fun _ => True) (kas_asc p f m)
 | 0, _ => trivial
 | f + 1, m => ⟨hp _, hp _, fun b => by
  (try dsimp only)
  split
  ·trivial
  ·exact uU hp f (m + 1)⟩
theorem nY (h0 : 0 < n) : ∀ (f : Nat) (p : Array Nat) (m q : Nat), InB n p -> A9 n (fun r => InB n r.1) (kas_desc f p m q)
 | 0, p, _, _, hp => hp
 | f + 1, p, m, q, hp => ⟨hp _, hp _, fun b => by
  (try dsimp only)
  split
  ·split
   ·exact nY h0 f _ _ _ (lV h0 hp gM)
   ·exact nY h0 f _ _ _ hp
  ·refine ⟨hp _, hp _, fun c => ?_⟩
   (try dsimp only)
   split
   ·exact hp
   ·exact nY h0 f _ _ _ hp⟩
theorem sO (h0 : 0 < n) (hp : InB n p) (m r : Nat) : A9 n (fun r => InB n r.2) (kas_tail3 m r p) := by
 unfold kas_tail3
 refine jo (n := n) (R := fun _ => True) (f := fun k => KasT.ret (k, kas_rev p 0 m)) (fun a _ => ?_) _ (uU (lV h0 hp gM) _ _)
 exact lV h0 hp gM
theorem nX (h0 : 0 < n) (hp : InB n p) (m r : Nat) : A9 n (fun r => InB n r.2) (kas_descPart m r p) := by
 refine jo (R := fun r => InB n r.1) (fun a ha => ?_) _ (nY h0 _ _ _ _ hp)
 (try dsimp only)
 split
 ·exact sO h0 (lV h0 ha gM) _ _
 ·exact sO h0 ha _ _
theorem AI (h0 : 0 < n) (hp : InB n p) (r : Nat) : A9 n (fun r => InB n r.2) (kas_count r p) := by
 refine jo (R := fun _ => True) (fun a _ => ?_) _ (uU hp _ _)
 (try dsimp only)
 split
 ·exact hp
 ·split
  ·refine ⟨hp _, hp _, fun b => ?_⟩
   (try dsimp only)
   split
   ·exact hp
   ·exact nX h0 (lV h0 hp gM) _ _
  ·exact nX h0 hp _ _
theorem oX (hp : InB n p) (k : Nat) : ∀ f l r, A9 n (fun _ => True) (kas_place p k f l r)
 | 0, _, _ => trivial
 | f + 1, l, r => by
  show A9 n (fun _ => True) (if l >= r then KasT.ret l else _)
  split
  ·trivial
  ·refine ⟨hp _, hp _, fun b => ?_⟩
   (try dsimp only)
   split
   ·exact oX hp k f _ _
   ·exact oX hp k f _ _
theorem A6 (h0 : 0 < n) : ∀ (f : Nat) (p : Array Nat) (k : Nat), InB n p -> A9 n (fun _ => True) (kas_bin f p k)
 | 0, _, _, _ => trivial
 | f + 1, p, k, hp => jo (R := fun _ => True) (fun l _ => A6 h0 f _ _ (lV h0 hp (bubble_perm _ _ _))) _ (oX hp k _ _ _)
theorem CI (h0 : 0 < n) : A9 n (fun _ => True) (kas_sort n) := by
 refine jo (R := fun r => InB n r.2) (fun a ha => ?_) _ (AI h0 (fun x => ?_) _)
 ·(try dsimp only)
  split
  ·exact A6 h0 _ _ _ ha
  ·trivial
 ·rw [Array.getD_eq_getD_getElem?]
  simp only [List.getElem?_toArray]
  cases e : (List.range n)[x]? with
  | none => exact h0
  | some v => exact List.mem_range.mp (List.mem_of_getElem? e)
end
section
open PySem.W
variable {prog : Program} {w : World} {A : Around} {E : Value -> Shared -> Prop} {s : Shared} {key : Nat -> Int}
noncomputable def oy (key : Nat -> Int) (vs : List Value) : List Value := if vs.length < 2 then vs else (fj (ltK key) (kas_sort vs.length)).toList.map fun i => vs.getD i Value.none
noncomputable def Asks (prog : Program) (w : World) (A : Around) (key : Nat -> Int) (vs : List Value) (s' : Shared) : Prop :=
 wpAny (model prog w) A (keyKind' vs.toArray) (fun κ s2 => s2 = s' /\ ∀ i j (C : Bool -> Shared -> Prop), i < vs.length -> j < vs.length -> C (ltK key i j) s' -> kas_ask prog w A κ vs i j C s') (fun _ _ => False) s'
theorem BI {a : Addr} {vs : List Value} {n : Nat} {P : PySem.Fin -> Shared -> Prop} (ho : s.heap.get? a = some (seqObj "list" vs.toArray n)) (h64 : vs.length < 64)
  (hk : 2 <= vs.length -> ∀ h1 : Heap, (∀ b o, b ≠ a -> s.heap.get? b = some o -> h1.get? b = some o) -> Asks prog w A key vs { s with heap := h1 })
  (h : ∀ (h' : Heap) (c : Nat), (∀ b o, b ≠ a -> s.heap.get? b = some o -> h'.get? b = some o) -> h'.get? a = some (seqObj "list" (oy key vs).toArray c) -> P (.done (.ret .none)) { s with heap := h' }) :
  wpAny (model prog w) A (Builtin.«list.sort» ⟨[.ref a], []⟩) P E s := by
 have hlt : a < s.heap.objs.size := Heap.lt_size ho
 have hline := sizeLine_eq
 obtain ⟨e1, ho1⟩ : ∃ e1, (s.heap.update a (Obj.mapSeq fun _ => (#[] : Array Value))).get? a = some (seqObj "list" #[] e1) := ⟨_, get?_update_seq ho fun _ => #[]⟩
 rw [list_sort_plain]
 refine wpAny_bind (listItems_at ho rfl (wpAny_bind (listUpdate_at ho rfl (wpAny_bind (seqEpoch_at ho1 rfl (wpAny_bind (wpAny_newTuple (wpAny_bind (wpAny_newList (wpAny_holding ?_) (Nat.zero_le _))) (by show vs.length <= _; omega))))) (by rw [List.size_toArray]; omega) (Nat.zero_le _))))
 have hkeep : ∀ b o, b ≠ a -> s.heap.get? b = some o -> (((s.heap.update a (Obj.mapSeq fun _ => (#[] : Array Value))).push (seqObj "tuple" vs.toArray 0)).push (seqObj "list" #[] 0)).get? b = some o := fun b o hb q =>
  Heap.get?_push_of_some _ (Heap.get?_push_of_some _ ((Heap.get?_update_other _ _ (Ne.symm hb)).trans q))
 have ho6 : (((s.heap.update a (Obj.mapSeq fun _ => (#[] : Array Value))).push (seqObj "tuple" vs.toArray 0)).push (seqObj "list" #[] 0)).get? a = some (seqObj "list" #[] e1) := Heap.get?_push_of_some _ (Heap.get?_push_of_some _ ho1)
 show wpAny (model prog w) A _ P E { s with heap := ((s.heap.update a (Obj.mapSeq fun _ => (#[] : Array Value))).push (seqObj "tuple" vs.toArray 0)).push (seqObj "list" #[] 0) }
 dsimp only
 have fin : ∀ (out : List Value), out = oy key vs -> P (.done (.ret .none)) { s with heap := (((s.heap.update a (Obj.mapSeq fun _ => (#[] : Array Value))).push (seqObj "tuple" vs.toArray 0)).push (seqObj "list" #[] 0)).update a (Obj.mapSeq fun _ => out.toArray) } := fun out eo => by
  subst eo
  exact h _ _ (fun b o hb q => (Heap.get?_update_other _ _ (Ne.symm hb)).trans (hkeep b o hb q)) (get?_update_seq ho6 fun _ => (oy key vs).toArray)
 by_cases h2 : vs.toArray.size < 2
 ·rw [if_pos h2, if_pos h2]
  refine wpAny_bind (wpAny_pure ?_)
  rw [StateT.run_pure]
  refine wpAny_bind (wpAny_pure ?_)
  dsimp only
  have h2' : vs.length < 2 := by simpa using h2
  have eo : (arrOf (SortSt.mk' general' (vs.toArray.zip vs.toArray) #[] 7 none)).map (·.2) = vs.toArray := by
   show (vs.toArray.zip vs.toArray).map (·.2) = vs.toArray
   apply Array.toList_inj.mp
   simp only [Array.toList_map, Array.toList_zip]
   exact List.map_snd_zip (Nat.le_refl _)
  rw [eo]
  refine wpAny_bind (seqEpoch_at ho6 rfl (wpAny_bind (listUpdate_at ho6 rfl ?_ (Nat.zero_le _) (by show vs.length <= _; omega))))
  have e3 : failedOf (SortSt.mk' general' (vs.toArray.zip vs.toArray) #[] 7 none) = none := rfl
  simp only [e3, bne_self_eq_false, Bool.false_eq_true, if_false]
  exact wpAny_pure (fin vs (by unfold oy; rw [if_pos h2']))
 ·rw [if_neg h2, if_neg h2]
  have h2' : 2 <= vs.length := by rw [List.size_toArray] at h2; omega
  refine wpAny_bind (wpAny_mono (hk h2' _ hkeep) (fun κ s0 ⟨es, ask⟩ => ?_) fun _ _ x => x.elim)
  subst es
  refine wpAny_bind (wpAny_mono (kat_run (ks := vs) (vs := vs) (Q := fun st' s' => s' = { s with heap := ((s.heap.update a (Obj.mapSeq fun _ => (#[] : Array Value))).push (seqObj "tuple" vs.toArray 0)).push (seqObj "list" #[] 0) } /\ (arrOf st').map (·.2) = (oy key vs).toArray /\ failedOf st' = none)
   (G := fun p s' => s' = { s with heap := ((s.heap.update a (Obj.mapSeq fun _ => (#[] : Array Value))).push (seqObj "tuple" vs.toArray 0)).push (seqObj "list" #[] 0) } /\ p = fj (ltK key) (kas_sort vs.length)) rfl h2' h64 (fun p st' s' _ har hf hg => ⟨hg.1, ?_, hf⟩) (so (n := vs.length) (R := fun _ => True) (fun i j C hi hj hc => ask i j C hi hj hc) _ (CI (by omega)) ⟨rfl, rfl⟩)) (fun r s' hr => ?_) fun _ _ x => x)
  ·rw [kat_snds rfl har, hg.2]
   unfold oy
   rw [if_neg (by omega)]
  ·obtain ⟨⟨⟩, st'⟩ := r
   obtain ⟨es, eo, ef⟩ := hr
   have es : s' = _ := es
   subst es
   have eo : (arrOf st').map (·.2) = (oy key vs).toArray := eo
   have ef : failedOf st' = none := ef
   dsimp only
   rw [eo]
   have hol : (oy key vs).length = vs.length := by
    unfold oy
    split
    ·rfl
    ·rw [List.length_map, (xW (key := key) (n := vs.length) (by omega)).1.length_eq, List.length_range]
   refine wpAny_bind (seqEpoch_at ho6 rfl (wpAny_bind (listUpdate_at ho6 rfl ?_ (Nat.zero_le _) (by show (oy key vs).length <= _; omega))))
   simp only [ef, bne_self_eq_false, Bool.false_eq_true, if_false]
   exact wpAny_pure (fin _ rfl)
theorem Af {l : Addr} {vs : List Value} {Q : Value -> Shared -> Prop} (hl : s.heap.IsList l vs.toArray) (h64 : vs.length < 64)
  (hk : 2 <= vs.length -> ∀ h1 : Heap, (∀ b o, s.heap.get? b = some o -> h1.get? b = some o) -> Asks prog w A.in1.in1 key vs { s with heap := h1 })
  (h : ∀ (h' : Heap) (D : Addr) (c : Nat), s.heap.objs.size <= D -> (∀ b o, s.heap.get? b = some o -> h'.get? b = some o) -> h'.get? D = some (seqObj "list" (oy key vs).toArray c) -> Q (.ref D) { s with heap := h' }) :
  wpAny (model prog w) A (call (.builtin "sorted") [.ref l]) Q E s := by
 have hline := sizeLine_eq
 refine Calls.call_function_entry kind_sorted plain_sorted entry_sorted (args_sorted1 _) ?_
 unfold Builtin.«sorted»
 refine wpAny_bind (m := checkCount "sorted" 1 1 _) (wpAny_pure (wpAny_bind (collect_list hl (wpAny_bind (wpAny_newList ?_ (by omega))) (by omega))))
 have hz : ((s.heap.push (seqObj "list" #[] 0)).update s.heap.objs.size (Obj.mapSeq (· ++ vs.toArray))).objs.size = s.heap.objs.size + 1 := by rw [Heap.size_update, size_push']
 have hD : (((s.heap.push (seqObj "list" #[] 0)).update s.heap.objs.size (Obj.mapSeq (· ++ vs.toArray))).push (seqObj "list" vs.toArray 0)).get? (s.heap.objs.size + 1) = some (seqObj "list" vs.toArray 0) := by rw [<- hz]; exact Heap.get?_push_size _ rfl
 have hkeep : ∀ b o, s.heap.get? b = some o -> (((s.heap.push (seqObj "list" #[] 0)).update s.heap.objs.size (Obj.mapSeq (· ++ vs.toArray))).push (seqObj "list" vs.toArray 0)).get? b = some o := fun b o q =>
  Heap.get?_push_of_some _ ((Heap.get?_update_other _ _ (Nat.ne_of_gt (Heap.lt_size q))).trans (Heap.get?_push_of_some _ q))
 show wpAny _ _ _ _ _ { s with heap := ((s.heap.push (seqObj "list" #[] 0)).update s.heap.objs.size (Obj.mapSeq (· ++ vs.toArray))).push (seqObj "list" vs.toArray 0) }
 rw [hz]
 have hnD : ∀ b o, s.heap.get? b = some o -> b ≠ s.heap.objs.size + 1 := fun b o q => Nat.ne_of_lt (Nat.lt_succ_of_lt (Heap.lt_size q))
 refine wpAny_bind (wpAny_holding (wpAny_call_entry slot_list_sort ⟨_, hD, rfl⟩ entry_list_sort (BI hD h64 (fun h2 h1 hk1 => hk h2 h1 fun b o q => hk1 b o (hnD b o q) (hkeep b o q)) fun h' c k' e' => ⟨_, rfl, ?_⟩) (args_list_sort _)))
 exact wpAny_pure ⟨_, rfl, h h' _ c (Nat.le_succ _) (fun b o q => k' b o (hnD b o q) (hkeep b o q)) e'⟩
end
end L2
namespace L2
open PySem PySem.Spec PyProof.Rows
noncomputable def insL {α : Type} (lt : α -> α -> Bool) (x : α) : List α -> List α
 | [] => [x]
 | y :: ys => if lt y x = true then y :: insL lt x ys else x :: y :: ys
noncomputable def nE {α : Type} (lt : α -> α -> Bool) : List α -> List α
 | [] => []
 | x :: xs => insL lt x (nE lt xs)
noncomputable def ltZ (a b : Int) : Bool := decide (a < b)
noncomputable def qB : List Int -> List Int -> Bool
 | [], [] => false
 | [], _ :: _ => true
 | _ :: _, [] => false
 | a :: as, b :: bs => if a = b then qB as bs else decide (a < b)
noncomputable def tupZ (t : List Int) : Dat := .tup (t.map .int)
noncomputable def tupD : Dat -> M (List Int)
 | .tup ds => dY ds
 | _ => stk
noncomputable def lY : List Dat -> M (List (List Int))
 | [] => .ok []
 | d :: ds => (tupD d).bind fun t => (lY ds).bind fun r => .ok (t :: r)
noncomputable def vq (ds : List Dat) : M Dat := if ds.length < 64 then (match dY ds with
 | .ok is => .ok (.lst ((nE ltZ is).map .int))
 | .error _ => (lY ds).bind fun ts => if (ts.all fun t => !t.isEmpty) = true then .ok (.lst ((nE qB ts).map tupZ)) else stk) else stk
noncomputable def mh : List Dat -> M Dat
 | [.lst ds] => vq ds
 | _ => stk
section
variable {α : Type} {lt : α -> α -> Bool}
structure Ord (lt : α -> α -> Bool) : Prop where
 irr : ∀ a, lt a a = false
 tr : ∀ a b c, lt a b = true -> lt b c = true -> lt a c = true
 tot : ∀ a b, lt a b = false -> lt b a = false -> a = b
theorem ordZ : Ord ltZ := ⟨fun a => by simp [ltZ], fun a b c h1 h2 => by simp [ltZ] at *; omega, fun a b h1 h2 => by simp [ltZ] at *; omega⟩
theorem Bw : Ord qB := by
 refine ⟨fun a => ?_, fun a b c => ?_, fun a b => ?_⟩
 ·induction a with
  | nil => rfl
  | cons x xs ih => simp [qB, ih]
 ·induction a generalizing b c with
  | nil =>
   cases b with
   | nil => intro h; simp [qB] at h
   | cons y ys =>
    intro _ h2
    cases c with
    | nil => simp [qB] at h2
    | cons z zs => rfl
  | cons x xs ih =>
   intro h1 h2
   cases b with
   | nil => simp [qB] at h1
   | cons y ys =>
    cases c with
    | nil => simp [qB] at h2
    | cons z zs =>
     simp only [qB] at h1 h2 ⊢
     by_cases e1 : x = y
     ·subst e1
      rw [if_pos rfl] at h1
      by_cases e2 : x = z
      ·rw [if_pos e2] at h2 ⊢; exact ih _ _ h1 h2
      ·rw [if_neg e2] at h2 ⊢; exact h2
     ·rw [if_neg e1] at h1
      have h1' : x < y := of_decide_eq_true h1
      by_cases e2 : y = z
      ·subst e2
       rw [if_neg e1]; exact h1
      ·rw [if_neg e2] at h2
       have h2' : y < z := of_decide_eq_true h2
       rw [if_neg (by omega)]
       exact decide_eq_true (by omega)
 ·induction a generalizing b with
  | nil =>
   cases b with
   | nil => intros; rfl
   | cons y ys => intro h; simp [qB] at h
  | cons x xs ih =>
   cases b with
   | nil => intro _ h; simp [qB] at h
   | cons y ys =>
    intro h1 h2
    simp only [qB] at h1 h2
    by_cases e1 : x = y
    ·subst e1
     rw [if_pos rfl] at h1 h2
     rw [ih _ h1 h2]
    ·rw [if_neg e1] at h1
     rw [if_neg (fun z => e1 z.symm)] at h2
     have h1' := of_decide_eq_false h1
     have h2' := of_decide_eq_false h2
     omega
theorem qJ (x : α) : ∀ l : List α, (insL lt x l).Perm (x :: l)
 | [] => List.Perm.refl _
 | y :: ys => by
  rw [insL]
  split
  ·exact ((qJ x ys).cons y).trans (List.Perm.swap x y ys)
  ·exact List.Perm.refl _
theorem oK : ∀ l : List α, (nE lt l).Perm l
 | [] => List.Perm.refl _
 | x :: xs => (qJ x _).trans ((oK xs).cons x)
theorem Ord.le_trans (o : Ord lt) {a b c : α} (h1 : lt b a = false) (h2 : lt c b = false) : lt c a = false := by
 cases h : lt c a with
 | false => rfl
 | true =>
  cases h3 : lt b c with
  | true => rw [o.tr b c a h3 h] at h1; cases h1
  | false =>
   have := o.tot c b h2 h3
   subst this
   rw [h] at h1; cases h1
theorem Ord.asym (o : Ord lt) {a b : α} (h : lt a b = true) : lt b a = false := by
 cases h2 : lt b a with
 | false => rfl
 | true => have := o.tr a b a h h2; rw [o.irr] at this; cases this
theorem qI (o : Ord lt) (x : α) : ∀ l : List α, l.Pairwise (fun a b => lt b a = false) -> (insL lt x l).Pairwise (fun a b => lt b a = false)
 | [], _ => by simp [insL]
 | y :: ys, h => by
  rw [insL]
  rw [List.pairwise_cons] at h
  split
  ·rename_i hc
   rw [List.pairwise_cons]
   refine ⟨fun b hb => ?_, qI o x ys h.2⟩
   rcases List.mem_cons.mp ((qJ x ys).mem_iff.mp hb) with e | e
   ·rw [e]; exact o.asym hc
   ·exact h.1 b e
  ·rename_i hc
   have hc' : lt y x = false := by simpa using hc
   rw [List.pairwise_cons, List.pairwise_cons]
   refine ⟨fun b hb => ?_, h⟩
   rcases List.mem_cons.mp hb with e | e
   ·rw [e]; exact hc'
   ·exact o.le_trans hc' (h.1 b e)
theorem l6 (o : Ord lt) : ∀ l : List α, (nE lt l).Pairwise (fun a b => lt b a = false)
 | [] => List.Pairwise.nil
 | x :: xs => qI o x _ (l6 o xs)
theorem qm (o : Ord lt) : ∀ {l m : List α}, l.Perm m -> l.Pairwise (fun a b => lt b a = false) -> m.Pairwise (fun a b => lt b a = false) -> l = m
 | [], m, h, _, _ => (List.Perm.nil_eq h)
 | a :: l, m, h, h1, h2 => by
  cases m with
  | nil => exact absurd h.symm (by simp)
  | cons b m =>
   rw [List.pairwise_cons] at h1 h2
   have e : a = b := by
    rcases List.mem_cons.mp (h.mem_iff.mp List.mem_cons_self) with e | e
    ·exact e
    ·rcases List.mem_cons.mp (h.mem_iff.mpr List.mem_cons_self) with e2 | e2
     ·exact e2.symm
     ·exact o.tot a b (h2.1 a e) (h1.1 b e2)
   subst e
   rw [qm o (List.Perm.cons_inv h) h1.2 h2.2]
end
section
open PySem.W
variable {α : Type} {lt : α -> α -> Bool}
theorem getD_get {l : List α} {i : Nat} {d : α} (h : i < l.length) : l.getD i d = l[i] := by simp [h]
noncomputable def rk (lt : α -> α -> Bool) (zs : List α) (d : α) (i : Nat) : Int := ((zs.filter fun z => lt z (zs.getD i d)).length : Int)
theorem filter_lt {p q : α -> Bool} (h : ∀ z, p z = true -> q z = true) : ∀ l : List α, (l.filter p).length <= (l.filter q).length /\ ((∃ z ∈ l, p z = false /\ q z = true) -> (l.filter p).length < (l.filter q).length)
 | [] => ⟨Nat.le_refl _, fun ⟨_, h, _⟩ => nomatch h⟩
 | x :: xs => by
  obtain ⟨i1, i2⟩ := filter_lt h xs
  cases hp : p x with
  | true =>
   have hq := h x hp
   rw [List.filter_cons_of_pos hp, List.filter_cons_of_pos hq]
   refine ⟨by simp; exact i1, fun ⟨z, hz, e1, e2⟩ => ?_⟩
   rcases List.mem_cons.mp hz with e | e
   ·rw [e, hp] at e1; cases e1
   ·have := i2 ⟨z, e, e1, e2⟩
    simp; exact this
  | false =>
   rw [List.filter_cons_of_neg (by simp [hp])]
   cases hq : q x with
   | true =>
    rw [List.filter_cons_of_pos hq]
    exact ⟨by simp; omega, fun _ => by simp; omega⟩
   | false =>
    rw [List.filter_cons_of_neg (by simp [hq])]
    refine ⟨i1, fun ⟨z, hz, e1, e2⟩ => ?_⟩
    rcases List.mem_cons.mp hz with e | e
    ·rw [e, hq] at e2; cases e2
    ·exact i2 ⟨z, e, e1, e2⟩
theorem rk_lt (o : Ord lt) {zs : List α} {d : α} {i j : Nat} (hi : i < zs.length) (hj : j < zs.length) : ltK (rk lt zs d) i j = lt (zs.getD i d) (zs.getD j d) := by
 unfold ltK rk
 have gi : zs.getD i d ∈ zs := by rw [getD_get hi]; exact List.getElem_mem hi
 have gj : zs.getD j d ∈ zs := by rw [getD_get hj]; exact List.getElem_mem hj
 cases h : lt (zs.getD i d) (zs.getD j d) with
 | true =>
  refine decide_eq_true ?_
  have := (filter_lt (p := fun z => lt z (zs.getD i d)) (q := fun z => lt z (zs.getD j d)) (fun z hz => o.tr _ _ _ hz h) zs).2 ⟨_, gi, o.irr _, h⟩
  omega
 | false =>
  refine decide_eq_false ?_
  have := (filter_lt (p := fun z => lt z (zs.getD j d)) (q := fun z => lt z (zs.getD i d)) (fun z hz => by
   cases h3 : lt z (zs.getD i d) with
   | true => rfl
   | false =>
    have e := o.le_trans h h3
    rw [hz] at e; cases e) zs).1
  omega
theorem Bv (o : Ord lt) (zs : List α) (d : α) (h2 : 2 <= zs.length) : (fj (ltK (rk lt zs d)) (kas_sort zs.length)).toList.map (fun i => zs.getD i d) = nE lt zs := by
 obtain ⟨h1, hu⟩ := xW (key := rk lt zs d) (n := zs.length) (by omega)
 refine qm o ?_ ?_ (l6 o zs)
 ·refine (h1.map _).trans ?_
  have : (List.range zs.length).map (fun i => zs.getD i d) = zs := by
   apply List.ext_getElem
   ·simp
   ·intro i h3 h4
    simp [h4]
  rw [this]
  exact (oK zs).symm
 ·rw [List.pairwise_map, List.pairwise_iff_getElem]
  intro i j hi hj hij
  have hn : (fj (ltK (rk lt zs d)) (kas_sort zs.length)).toList.length = zs.length := by rw [h1.length_eq, List.length_range]
  have inr : ∀ k (hk : k < (fj (ltK (rk lt zs d)) (kas_sort zs.length)).toList.length), (fj (ltK (rk lt zs d)) (kas_sort zs.length)).toList[k] < zs.length := fun k hk => List.mem_range.mp (h1.mem_iff.mp (List.getElem_mem hk))
  have := hu i j (by omega) (by omega)
  unfold kAt at this
  have g : ∀ k (hk : k < (fj (ltK (rk lt zs d)) (kas_sort zs.length)).toList.length), (fj (ltK (rk lt zs d)) (kas_sort zs.length)).getD k 0 = (fj (ltK (rk lt zs d)) (kas_sort zs.length)).toList[k] := fun k hk => by
   rw [Array.getD_eq_getD_getElem?, <- Array.getElem?_toList, List.getElem?_eq_getElem hk]; rfl
  rw [g i hi, g j hj] at this
  rw [<- rk_lt o (inr j hj) (inr i hi)]
  exact decide_eq_false (by omega)
theorem yB : ∀ {zs : List α}, zs.length < 2 -> nE lt zs = zs
 | [], _ => rfl
 | [x], _ => rfl
 | _ :: _ :: _, h => by simp at h; omega
variable {X : Cx} {K : PySem.W.Frag} {W : gI} {own : Bool}
theorem vals_map {xs : List V} {us : List Value} (r : Vals xs us) (ps : List Nat) (hp : ∀ i ∈ ps, i < xs.length) : Vals (ps.map fun i => xs.getD i .non) (ps.map fun i => us.getD i .none) := by
 refine Vals.of_get (by simp) fun k v u h1 h2 => ?_
 rw [List.getElem?_map] at h1 h2
 cases e : ps[k]? with
 | none => rw [e] at h1; cases h1
 | some i =>
  rw [e] at h1 h2
  simp only [Option.map_some, Option.some.injEq] at h1 h2
  have hi := hp i (List.mem_of_getElem? e)
  have hl := r.length
  obtain ⟨u', e1, q⟩ := r.get (i := i) (x := xs[i]) (by simp [hi])
  rw [getD_get hi] at h1
  rw [List.getD_eq_getElem?_getD, e1] at h2
  rw [<- h1, <- h2]
  exact q
theorem zB (o : Ord lt) {pins : List (Addr × Obj)} {σ : St} {F H : Hp} {s : Shared} {Q : VK} {a : Addr} {xs : List V} {zs : List α} {d0 : α} {enc : α -> Dat} (I : Inv X pins σ H s) (hF : b9 F H) (t : SqL X.K F a xs) (r : aB X.K F (zs.map enc) xs) (h64 : zs.length < 64)
  (hk : ∀ its : List Value, Vals xs its -> 2 <= its.length -> ∀ h1 : Heap, (∀ b o, s.heap.get? b = some o -> h1.get? b = some o) -> Asks X.prog X.w X.A.in1.in1 (rk lt zs d0) its { s with heap := h1 })
  (p : aP X.K W true F H (.ok (.lst ((nE lt zs).map enc))) Q) : wpAny (model X.prog X.w) X.A (call (.builtin "sorted") [.ref a]) (EP X pins σ Q) X.xe s := by
 obtain ⟨its, rv, pl, hz⟩ := I.list (hF.lst t)
 have l1 := rv.length
 have l2 := r.length
 rw [List.length_map] at l2
 refine Af (key := rk lt zs d0) pl.isList (by omega) (fun h2 h1 kp => hk its rv h2 h1 kp) fun h' D c hD kp e => ?_
 have key : ∃ ys, ys.length <= sizeLine /\ Vals ys (oy (rk lt zs d0) its) /\ aB X.K F ((nE lt zs).map enc) ys := by
  unfold oy
  by_cases h2 : its.length < 2
  ·rw [if_pos h2, yB (by omega)]
   exact ⟨xs, hz, rv, r⟩
  ·rw [if_neg h2, show its.length = zs.length by omega]
   obtain ⟨h1, _⟩ := xW (key := rk lt zs d0) (n := zs.length) (by omega)
   have inr : ∀ i ∈ (fj (ltK (rk lt zs d0)) (kas_sort zs.length)).toList, i < xs.length := fun i hi => by
    have := List.mem_range.mp (h1.mem_iff.mp hi); omega
   refine ⟨(fj (ltK (rk lt zs d0)) (kas_sort zs.length)).toList.map fun i => xs.getD i .non, ?_, vals_map rv _ inr, ?_⟩
   ·rw [List.length_map, h1.length_eq, List.length_range]; omega
   ·rw [<- Bv o zs d0 (by omega), List.map_map]
    refine aB.of_get (by simp) fun k dd v g1 g2 => ?_
    rw [List.getElem?_map] at g1 g2
    cases ek : (fj (ltK (rk lt zs d0)) (kas_sort zs.length)).toList[k]? with
    | none => rw [ek] at g1; cases g1
    | some i =>
     rw [ek] at g1 g2
     simp only [Option.map_some, Option.some.injEq, Function.comp] at g1 g2
     have hi := inr i (List.mem_of_getElem? ek)
     obtain ⟨w, e1, q⟩ := r.get (i := i) (d := enc (zs[i]'(by omega))) (by simp [show i < zs.length by omega])
     rw [getD_get (show i < zs.length by omega)] at g1
     rw [List.getD_eq_getElem?_getD, e1] at g2
     rw [<- g1, <- g2]
     exact q
 obtain ⟨ys, hy1, hy2, hy3⟩ := key
 have I1 : Inv X pins σ (upd H D (.lst ys)) { s with heap := h' } := I.laid (t' := s.toks) kp hD (show eP X.prog X.w _ h' D (.lst ys) from ⟨hy1, _, c, hy2, e⟩)
 exact ⟨.ref D, _, I1, rfl, p.lst hF hy3 (I.hok.fresh hD)⟩
theorem rk_ints (is : List Int) (i j : Nat) (hi : i < is.length) (hj : j < is.length) : ltK (rk ltZ is 0) i j = decide (is.getD i 0 < is.getD j 0) := rk_lt ordZ hi hj
theorem CH {prog : Program} {w : World} {A : Around} {s' : Shared} {its : List Value} {is : List Int} (hi : IntsAre its is) (h2 : 2 <= its.length) : Asks prog w A (rk ltZ is 0) its s' := by
 have hl := hi.length
 obtain ⟨v1, v2, rest, rfl⟩ : ∃ v1 v2 rest, its = v1 :: v2 :: rest := by
  match its, h2 with
  | v1 :: v2 :: rest, _ => exact ⟨v1, v2, rest, rfl⟩
 unfold Asks
 rw [keyKind_ints hi]
 refine wpAny_pure ⟨rfl, fun i j C h1 h2 hc => ?_⟩
 unfold kas_ask
 obtain ⟨t1, e1⟩ := ints_at hi i h1
 obtain ⟨t2, e2⟩ := ints_at hi j h2
 rw [e1, e2]
 rw [rk_ints is i j (by omega) (by omega)] at hc
 exact kat_lt_int hc
where
 ints_at {vs : List Value} {ns : List Int} (h : IntsAre vs ns) (i : Nat) (hi : i < vs.length) : ∃ t, vs.getD i Value.none = .int (ns.getD i 0) t := by
  induction h generalizing i with
  | nil => simp at hi
  | cons n t r ih =>
   cases i with
   | zero => exact ⟨t, rfl⟩
   | succ i => obtain ⟨t', e⟩ := ih i (by simpa using hi); exact ⟨t', by simpa using e⟩
noncomputable def lexF (f : Bool) : List Int -> List Int -> Bool
 | a :: as, b :: bs => if a = b then lexF f as bs else decide (a < b)
 | _, _ => f
theorem zL : ∀ as bs : List Int, lexF (decide (as.length < bs.length)) as bs = qB as bs
 | [], [] => rfl
 | [], _ :: _ => by simp [lexF, qB]
 | _ :: _, [] => by simp [lexF, qB]
 | a :: as, b :: bs => by
  have := zL as bs
  simp only [lexF, qB, List.length_cons, Nat.add_lt_add_iff_right]
  rw [this]
theorem qD {prog : Program} {w : World} {A : Around} {s' : Shared} {f : Bool} {Q : Bool -> Shared -> Prop} : ∀ {us vs : List Value} {as bs : List Int} (i : Nat), IntsAre us as -> IntsAre vs bs -> Q (lexF f as bs) s' -> KatLex prog w A true f Q (us.zip vs) i s'
 | _, _, _, bs, _, .nil, _, h => kat_nil (by cases bs <;> exact h)
 | _, _, _, _, _, .cons a t r, .nil, h => kat_nil h
 | _, _, _, _, i, .cons a t r, .cons b u r', h => by
  show KatLex prog w A true f Q ((.int a t, .int b u) :: (_ : List (Value × Value))) i s'
  refine kat_cons (SeqAt.EqAt.int_int a t b u _ _ _ _ ?_)
  by_cases e : a = b
  ·rw [show (a == b) = true by simpa using e]
   rw [lexF, if_pos e] at h
   exact kat_yes (qD (i + 1) r r' h)
  ·rw [show (a == b) = false by simpa using e]
   rw [lexF, if_neg e] at h
   refine kat_no ?_
   cases hb : (true && i == 0) with
   | true => exact oneLt_int h
   | false => exact kat_one _ _ (lt_int h)
theorem CG {pins : List (Addr × Obj)} {σ : St} {F H : Hp} {s : Shared} {A : Around} {xs : List V} {ts : List (List Int)} {its : List Value} {h1 : Heap} (I : Inv X pins σ H s) (hF : b9 F H) (r : aB X.K F (ts.map tupZ) xs) (hne : (ts.all fun t => !t.isEmpty) = true) (rv : Vals xs its) (h2 : 2 <= its.length)
  (kp : ∀ b o, s.heap.get? b = some o -> h1.get? b = some o) : Asks X.prog X.w A (rk qB ts []) its { s with heap := h1 } := by
 have l1 := rv.length
 have l2 := r.length
 rw [List.length_map] at l2
 have at_ : ∀ i, i < its.length -> ∃ (l : Addr) (ob : Obj) (us : List Value) (n : Nat), its.getD i Value.none = .ref l /\ h1.get? l = some ob /\ ob.cls = .type "tuple" /\ ob.data = .seq us.toArray n /\ IntsAre us (ts.getD i []) := fun i hi => by
  obtain ⟨v, e1, l, ys, e2, tq, rr⟩ := r.get (i := i) (d := tupZ (ts[i]'(by omega))) (by simp [show i < ts.length by omega])
  subst e2
  obtain ⟨u, e3, ru⟩ := rv.get e1
  cases ru
  obtain ⟨us, ru, pl, _⟩ := I.tuple (hF.tup tq)
  obtain ⟨ob, h3, h4, n, h5⟩ := pl
  have e4 : ys = (ts[i]'(by omega)).map V.int := l8 rr (nG _)
  rw [e4] at ru
  exact ⟨l, ob, us, n, by rw [List.getD_eq_getElem?_getD, e3]; rfl, kp _ _ h3, h4, h5, by rw [getD_get (show i < ts.length by omega)]; exact intsAre_of ru⟩
 have tups : ∀ (k : Nat), k <= its.length -> ∃ fs, KatTups h1 (its.drop (its.length - k)) fs /\ fs.length = k /\ ∀ v ∈ fs, ∃ i t, v = Value.int i t := by
  intro k
  induction k with
  | zero => intro _; exact ⟨[], by rw [Nat.sub_zero, List.drop_length]; exact KatTups.nil, rfl, fun _ h => nomatch h⟩
  | succ k ih =>
   intro hk
   obtain ⟨fs, q1, q2, q3⟩ := ih (by omega)
   have hi : its.length - (k + 1) < its.length := by omega
   obtain ⟨l, ob, us, n, e1, e2, e3, e4, e5⟩ := at_ _ hi
   have hn : (ts.getD (its.length - (k + 1)) []) ≠ [] := by
    rw [getD_get (show its.length - (k + 1) < ts.length by omega)]
    have := List.all_eq_true.mp hne _ (List.getElem_mem (show its.length - (k + 1) < ts.length by omega))
    simpa using this
   obtain ⟨z, ez⟩ : ∃ z, ts.getD (its.length - (k + 1)) [] = z := ⟨_, rfl⟩
   rw [ez] at e5 hn
   obtain ⟨f, fr, ef, hf⟩ : ∃ f fr, us = f :: fr /\ ∃ i t, f = Value.int i t := by
    cases e5 with
    | nil => exact absurd rfl hn
    | cons m t r => exact ⟨_, _, rfl, _, _, rfl⟩
   refine ⟨f :: fs, ?_, by simp [q2], fun v hv => ?_⟩
   ·rw [List.drop_eq_getElem_cons hi]
    rw [show its.length - (k + 1) + 1 = its.length - k by omega]
    rw [getD_get hi] at e1
    rw [e1]
    exact KatTups.cons e2 e3 e4 (by rw [ef]; rfl) q1
   ·rcases List.mem_cons.mp hv with e | e
    ·rw [e]; exact hf
    ·exact q3 v e
 obtain ⟨fs, q1, q2, q3⟩ := tups its.length (Nat.le_refl _)
 rw [Nat.sub_self, List.drop_zero] at q1
 unfold Asks
 refine kat_kind (s := { s with heap := h1 }) (T := .type "int") q1 (by omega) (fun v hv => ?_) rfl ⟨rfl, fun i j C hi hj hc => ?_⟩
 ·obtain ⟨i, t, e⟩ := q3 v hv
  rw [e]
  exact Looks.of_pure rfl
 ·unfold kas_ask
  obtain ⟨x1, o1, us, n1, e1, g1, _, d1, a1⟩ := at_ i hi
  obtain ⟨x2, o2, vs, n2, e2, g2, _, d2, a2⟩ := at_ j hj
  rw [e1, e2]
  rw [rk_lt Bw (show i < ts.length by omega) (show j < ts.length by omega)] at hc
  refine kat_lt (s := { s with heap := h1 }) g1 d1 g2 d2 (qD 0 a1 a2 ?_)
  rw [List.size_toArray, List.size_toArray, a1.length, a2.length, zL]
  exact hc
theorem zv {F : Hp} {d : Dat} {t : List Int} (h : tupD d = .ok t) : d = tupZ t := by
 cases d with
 | tup ds =>
  have : ∀ {ds : List Dat} {t : List Int}, dY ds = .ok t -> ds = t.map .int := by
   intro ds
   induction ds with
   | nil => intro t h; cases h; rfl
   | cons d ds ih =>
    intro t h
    cases d with
    | int i =>
     cases e : dY ds with
     | error x => simp only [dY, asI, az, e, jY] at h; cases h
     | ok r =>
      simp only [dY, asI, az, e] at h
      cases h
      rw [ih e]
      rfl
    | _ => cases h
  unfold tupZ
  rw [this h]
 | _ => cases h
theorem BS : ∀ {ds : List Dat} {t : List Int}, dY ds = .ok t -> ds = t.map .int := fun {ds t} h => by
 have := zv (F := fun _ => none) (d := .tup ds) (t := t) h
 unfold tupZ at this
 injection this
theorem vh : ∀ {ds : List Dat} {ts : List (List Int)}, lY ds = .ok ts -> ds = ts.map tupZ
 | [], _, h => by cases h; rfl
 | d :: ds, ts, h => by
  cases e : tupD d with
  | error x => simp only [lY, e, jY] at h; cases h
  | ok t =>
   cases e2 : lY ds with
   | error x => simp only [lY, e, az, e2, jY] at h; cases h
   | ok r =>
    simp only [lY, e, az, e2] at h
    cases h
    rw [zv (F := fun _ => none) e, vh e2]
    rfl
theorem vj : ∀ {ds : List Dat} {e : Err}, lY ds = .error e -> e = .stuck
 | [], _, h => by cases h
 | d :: ds, e, h => by
  cases e1 : tupD d with
  | error x =>
   simp only [lY, e1, jY] at h
   cases h
   cases d with
   | tup ds => exact nH e1
   | _ => cases e1; rfl
  | ok t =>
   cases e2 : lY ds with
   | error x => simp only [lY, e1, az, e2, jY] at h; cases h; exact vj e2
   | ok r => simp only [lY, e1, az, e2] at h; cases h
theorem A2 (hK : X.K = K := by rfl) : v8 K W true X (.builtin "sorted") mh := by
 subst hK
 intro pins s σ H xs us Q I rr h
 obtain ⟨F, d, x, s1, e, q, p⟩ := tM (fun ds => by match ds with | [d] => exact .inl ⟨d, rfl⟩ | [] => exact .inr rfl | a :: b :: c => exact .inr (by cases a <;> rfl)) h
 subst e
 obtain ⟨u, rfl, ru⟩ := rr.one
 cases d with
 | lst ds =>
  obtain ⟨a, ys, e1, t, r⟩ := q
  subst e1
  cases ru
  have p' : aP X.K W true F H (vq ds) Q := p
  unfold vq at p'
  by_cases h64 : ds.length < 64
  ·rw [if_pos h64] at p'
   cases ei : dY ds with
   | ok is =>
    rw [ei] at p'
    have ed := BS ei
    subst ed
    refine zB ordZ (d0 := 0) I s1 t r (by simpa using h64) (fun its rv h2 h1 kp => ?_) p'
    have e2 : ys = is.map V.int := l8 r ei
    subst e2
    exact CH (intsAre_of rv) h2
   | error z =>
    rw [ei] at p'
    have p2 : aP X.K W true F H ((lY ds).bind fun ts => if (ts.all fun t => !t.isEmpty) = true then .ok (.lst ((nE qB ts).map tupZ)) else stk) Q := p'
    cases et : lY ds with
    | error z2 => rw [et] at p2; have := vj et; subst this; exact aP.stuck p2
    | ok ts =>
     rw [et] at p2
     have ed := vh et
     subst ed
     have p3 : aP X.K W true F H (if (ts.all fun t => !t.isEmpty) = true then .ok (.lst ((nE qB ts).map tupZ)) else stk) Q := p2
     by_cases hne : (ts.all fun t => !t.isEmpty) = true
     ·rw [if_pos hne] at p3
      exact zB Bw (d0 := []) I s1 t r (by simpa using h64) (fun its rv h2 h1 kp => CG I s1 r hne rv h2 kp) p3
     ·rw [if_neg hne] at p3
      exact aP.stuck p3
  ·rw [if_neg h64] at p'
   exact aP.stuck p'
 | _ => exact aP.stuck p
end
end L2
namespace L2
open PySem PySem.Spec PyProof.Rows
noncomputable def cX (n d : Nat) : Option Int -> Nat
 | none => d
 | some v => if v < 0 then (v + (n : Int)).toNat else min v.toNat n
noncomputable def cutL {α : Type} (xs : List α) (lo hi : Option Int) : List α := (xs.drop (cX xs.length 0 lo)).take (cX xs.length xs.length hi - cX xs.length 0 lo)
noncomputable def zC : Dat -> Option Int -> Option Int -> M Dat
 | .lst ds, lo, hi => .ok (.lst (cutL ds lo hi))
 | .tup ds, lo, hi => if (decide (cX ds.length 0 lo = 0) && decide (cX ds.length ds.length hi = ds.length)) = true then stk else .ok (.tup (cutL ds lo hi))
 | _, _, _ => stk
noncomputable def pNone : ak -> M (Option Int) := fun _ => .ok none
noncomputable def yk (f : ak -> M Dat) : ak -> M (Option Int) := fun ρ => (f ρ).bind fun d => (asI d).bind fun i => .ok (some i)
noncomputable def fSl (g : Dat -> Option Int -> Option Int -> M Dat) (fa : ak -> M Dat) (fl fu : ak -> M (Option Int)) : ak -> M Dat := fun ρ => (fa ρ).bind fun a => (fl ρ).bind fun l => (fu ρ).bind fun u => g a l u
section
variable {X : Cx} {K : PySem.W.Frag} {W : gI} {own ro : Bool} {e a b c d : Expr} {lo hi : Option Expr} {es : List Expr} {x y : Str} {pos p p2 p3 q r t u : Pos} {f fa fb fc fd' fk : ak -> M Dat} {fl fu : ak -> M (Option Int)} {OL O : List Nat}
noncomputable def tDO (K : PySem.W.Frag) (W : gI) (f : ak -> M (Option Int)) : TO := fun σ H Q => ∃ F ρ, p9 K F σ ρ /\ b9 F H /\ (match f ρ with
 | .ok o => ∀ F' H', Step F H F' H' -> Q o H'
 | .error e => W.p e F H)
theorem B3 {σ : St} {ρ : ak} {F H : Hp} {R : Option Int -> Hp -> Prop} (r : p9 K F σ ρ) (s : b9 F H) (hE : ∀ e, fl ρ = .error e -> W.p e F H) (hO : ∀ o, fl ρ = .ok o -> ∀ F1 H1, Step F H F1 H1 -> R o H1) : tDO K W fl σ H R := by
 refine ⟨F, ρ, r, s, ?_⟩
 cases e : fl ρ with
 | ok d => exact hO d e
 | error x => exact hE x e
noncomputable abbrev DP (K : PySem.W.Frag) (W : gI) (X : Cx) (e : Option Expr) (f : ak -> M (Option Int)) : Prop := PO X e (tDO K W f)
theorem PO.imp {t t' : TO} (h : PO X lo t) (q : ∀ σ H Q, t' σ H Q -> t σ H Q) : PO X lo t' := fun pins s σ H Q I z => h pins s σ H Q I (q σ H Q z)
theorem dp_none : DP K W X none pNone := po_none.imp fun σ H Q ⟨F, ρ, r, s, p⟩ => p F H (Step.refl s)
theorem dp_some (h : DE K W false X e f) : DP K W X (some e) (yk f) := (po_some h).imp fun σ H Q ⟨F, ρ, r, s, p⟩ => by
 refine cx r s (fun e he => ?_) fun d hd v F1 H1 s1 q1 => ?_
 ·have z : yk f ρ = .error e := by unfold yk; rw [he]; rfl
  rw [z] at p; exact p
 ·have z : yk f ρ = (asI d).bind fun i => .ok (some i) := by unfold yk; rw [hd]; rfl
  rw [z] at p
  cases d with
  | int i => exact ⟨i, q1, p F1 H1 s1⟩
  | _ => exact (W.ns p).elim
noncomputable def rDS (K : PySem.W.Frag) (W : gI) (own : Bool) (g : Dat -> Option Int -> Option Int -> M Dat) : V -> Option Int -> Option Int -> Hp -> VK -> Prop := fun x lo hi H Q => ∃ F a, b9 F H /\ cA K F a x /\ aP K W own F H (g a lo hi) Q
theorem rd_sl {g : Dat -> Option Int -> Option Int -> M Dat} {σ : St} {H : Hp} {Q : VK} (h : tD K W own (fSl g fa fl fu) σ H Q) : tSl (rDS K W own g) (tD K W false fa) (tDO K W fl) (tDO K W fu) σ H Q := by
 obtain ⟨F, ρ, r, s, p⟩ := h
 refine cx r s (fun e he => p.err (by unfold fSl; rw [he]; rfl)) fun a ha x F1 H1 s1 q1 => ?_
 refine B3 (r.mono s1.ff) s1.fh (fun e he => (p.step s1).err (by unfold fSl; rw [ha]; show (fl ρ).bind _ = _; rw [he]; rfl)) fun l hl F2 H2 s2 => ?_
 refine B3 ((r.mono s1.ff).mono s2.ff) s2.fh (fun e he => (p.step (s1.trans s2)).err (by unfold fSl; rw [ha]; show (fl ρ).bind _ = _; rw [hl]; show (fu ρ).bind _ = _; rw [he]; rfl)) fun u hu F3 H3 s3 => ?_
 refine ⟨F3, a, s3.fh, cA.mono (s2.trans s3).ff q1, ?_⟩
 have e : fSl g fa fl fu ρ = g a l u := by unfold fSl; rw [ha]; show (fl ρ).bind _ = _; rw [hl]; show (fu ρ).bind _ = _; rw [hu]; rfl
 rw [e] at p
 exact p.step ((s1.trans s2).trans s3)
theorem de_sl {g : Dat -> Option Int -> Option Int -> M Dat} (hr : SlR X (rDS K W own g)) (ha : DE K W false X a fa) (hl : DP K W X lo fl) (hu : DP K W X hi fu) : DE K W own X (.Subscript a (.Slice lo hi none p2) pos) (fSl g fa fl fu) := (pe_slice hr ha hl hu).imp fun _ _ _ => rd_sl
theorem A4 (n d : Nat) (o : Option Int) : cX n d o = HT.sIx n d o := by cases o <;> rfl
theorem aB.cut {F : Hp} {ds : List Dat} {xs : List V} {l u : Option Int} (h : aB K F ds xs) : aB K F (cutL ds l u) (cutV xs l u) := by
 unfold cutL cutV
 rw [A4, A4, h.length]
 exact aB.take _ (aB.drop _ h)
theorem x_sl (hK : X.K = K := by rfl) : SlR X (rDS K W true zC) := by
 subst hK
 intro pins s σ H x v vl vu lo hi sl Q I rx hs pl pu h
 refine (SlR.or sl_list sl_tup) pins s σ H x v vl vu lo hi sl Q I rx hs pl pu ?_
 obtain ⟨F, a, s1, qa, p⟩ := h
 cases a with
 | lst ds =>
  obtain ⟨l, xs, e, t, z⟩ := qa
  exact .inl ⟨l, xs, e, s1.lst t, fun r hr => aP.lst p s1 z.cut hr⟩
 | tup ds =>
  obtain ⟨l, xs, e, t, z⟩ := qa
  have p' : aP X.K W true F H (if (decide (cX ds.length 0 lo = 0) && decide (cX ds.length ds.length hi = ds.length)) = true then stk else .ok (.tup (cutL ds lo hi))) Q := p
  by_cases hc : (decide (cX ds.length 0 lo = 0) && decide (cX ds.length ds.length hi = ds.length)) = true
  ·rw [if_pos hc] at p'; exact p'.stuck
  ·rw [if_neg hc] at p'
   refine .inr ⟨l, xs, e, s1.tup t, fun hw => hc ?_, fun r hr => aP.tup p' s1 z.cut hr⟩
   rw [A4, A4, <- z.length]
   simp only [Bool.and_eq_true, decide_eq_true_eq]
   exact hw
 | _ => exact aP.stuck p
end
section
variable {ρ : ak} {fa fb fc fd' : ak -> M Dat} {fl fu : ak -> M (Option Int)}
@[simp] theorem e_pNone : pNone ρ = .ok none := id rfl
@[simp] theorem e_pSome : yk fa ρ = (fa ρ).bind fun d => (asI d).bind fun i => .ok (some i) := id rfl
@[simp] theorem e_slF (k : Dat -> Option Int -> Option Int -> M Dat) : fSl k fa fl fu ρ = (fa ρ).bind fun a => (fl ρ).bind fun l => (fu ρ).bind fun u => k a l u := id rfl
@[simp] theorem e_pow {i j : Int} (h0 : 0 <= j) (h1 : j <= 1000000) (h2 : i.natAbs < 2 ^ 64) : Bi (.int i) (.int j) = .ok (.int (i ^ j.toNat)) := by
 show (if (decide (0 <= j) && decide (j <= 1000000) && decide (i.natAbs < 2 ^ 64)) = true then _ else _) = _
 rw [if_pos (by simp only [Bool.and_eq_true, decide_eq_true_eq]; exact ⟨⟨h0, h1⟩, h2⟩)]
@[simp] theorem e_eqII (i j : Int) : eqM (.int i) (.int j) = .ok (.bl (decide (i = j))) := by
 show Except.ok (Dat.bl (i == j)) = _
 rw [show (i == j) = decide (i = j) from rfl]
@[simp] theorem e_neII (i j : Int) : neM (.int i) (.int j) = .ok (.bl (!decide (i = j))) := by
 show Except.ok (Dat.bl (!(i == j))) = _
 rw [show (i == j) = decide (i = j) from rfl]
end
end L2
namespace L2
open PySem PySem.Spec PyProof.Rows
section
variable {X : Cx} {K : PySem.W.Frag} {W : gI} {own ro : Bool} {e a b c d : Expr} {st : Option Expr} {te : TE} {tp : TO} {es : List Expr} {x y : Str} {pos p p2 p3 p4 q r t u : Pos} {f fa fb fc fk : ak -> M Dat} {fp : ak -> M (Option Int)} {OL O : List Nat}
end
end L2
namespace L2
open PySem PySem.Spec PyProof.Rows
noncomputable def uT (Cs : List Addr) (x : Str) : Dat -> M Dat
 | .ins C fs => if Cs.contains C = true then (match fs.lookup x with
  | some d => .ok d
  | none => stk) else stk
 | _ => stk
noncomputable def isC (C : Addr) (m : Str) : Dat -> Bool
 | .ins D fs => (D == C) && (fs.lookup m).isNone
 | _ => false
noncomputable def oR (C : Addr) (m : Str) (g : List Dat -> M Dat) (fo : ak -> M Dat) (fr : ak -> M (List Dat)) : ak -> M Dat := fun ρ => (fo ρ).bind fun o => if isC C m o = true then (fr ρ).bind fun as => g (o :: as) else stk
noncomputable def lh (C C2 : Addr) (m : Str) (g g2 : List Dat -> M Dat) (fo : ak -> M Dat) (fr : ak -> M (List Dat)) : ak -> M Dat := fun ρ => (fo ρ).bind fun o => if isC C m o = true then (fr ρ).bind fun as => g (o :: as) else if isC C2 m o = true then (fr ρ).bind fun as => g2 (o :: as) else stk
noncomputable def newR (C : Addr) (g : List Dat -> M Dat) : List Dat -> M Dat
 | [d] => (g [d]).bind fun r => .ok (.ins C [("gaps", r)])
 | _ => stk
noncomputable def twoL : Dat -> Dat -> Bool
 | .lst xs, .lst ys => decide (xs.length = ys.length)
 | _, _ => false
noncomputable def newP (C : Addr) (g : List Dat -> M Dat) : List Dat -> M Dat
 | [d, e] => (g [d]).bind fun r => (g [e]).bind fun r2 => if twoL r r2 = true then .ok (.ins C [("gaps", r), ("beside", r2)]) else stk
 | _ => stk
noncomputable def sStk : ak -> M Flo := fun _ => stk
section
variable {X : Cx} {K : PySem.W.Frag} {W : gI} {own ro : Bool} {e o a b c d : Expr} {es : List Expr} {x y m : Str} {pos p p2 apos : Pos} {f fa fo : ak -> M Dat} {fr : ak -> M (List Dat)} {OL O O' : List Nat} {C C2 : Addr} {Cs : List Addr}
theorem ds_stk {st : Stmt} : DS K W ro X OL O O' st sStk := fun F0 H0 pins s σ H D I h => by
 obtain ⟨FB, F, ρ, r, p⟩ := h
 exact p.stuck rfl
theorem o6.at {F : Hp} {x : Str} : ∀ {gs : List (Str × Dat)} {fs : List (Str × V)}, o6 K F gs fs -> (∀ d, gs.lookup x = some d -> ∃ v, fs.lookup x = some v /\ cA K F d v) /\ (gs.lookup x = none -> fs.lookup x = none)
 | [], fs, h => by cases (show fs = [] from h); exact ⟨fun d h => by simp at h, fun _ => rfl⟩
 | (g, d) :: gs, fs, h => by
  obtain ⟨v, r, rfl, h1, h2⟩ := h
  have ih := o6.at (x := x) h2
  rw [List.lookup_cons, List.lookup_cons]
  cases e : x == g with
  | true => exact ⟨fun d' h' => by cases h'; exact ⟨v, rfl, h1⟩, fun h' => by cases h'⟩
  | false => exact ih
theorem C9 (hC : ∀ C ∈ Cs, Cls K C /\ kr K C y) (he : DE K W false X e fa) (hb : attributeBase e y X.env (eval e X.env) = eval e X.env := by rfl) (hK : X.K = K := by rfl) : DE K W false X (.Attribute e y pos) (f1 (uT Cs y) fa) := by
 subst hK
 refine (Bt he hb).imp fun σ H Q h => ?_
 obtain ⟨F, ρ, r, s, p⟩ := h
 refine cx r s (fun e he => p.err (by unfold f1; rw [he]; rfl)) fun a ha x F1 H1 s1 q1 => ?_
 have ez : f1 (uT Cs y) fa ρ = uT Cs y a := by unfold f1; rw [ha]; rfl
 rw [ez] at p
 cases a with
 | ins C gs =>
  obtain ⟨l, dx, fs, e1, ea, df⟩ := q1
  have p' : aP X.K W false F H (if Cs.contains C = true then (match gs.lookup y with
   | some d => .ok d
   | none => stk) else stk) Q := p
  by_cases hc : Cs.contains C = true
  ·rw [if_pos hc] at p'
   obtain ⟨h1, h2⟩ := hC C (by simpa using hc)
   cases hl : gs.lookup y with
   | none => rw [hl] at p'; exact aP.stuck p'
   | some d =>
    rw [hl] at p'
    obtain ⟨v, hv, hd⟩ := df.at.1 d hl
    exact ⟨l, C, dx, fs, v, e1, s1.fh _ _ ea, h1, h2, hv, (p'.step s1) v F1 H1 (Step.refl s1.fh) hd⟩
  ·rw [if_neg hc] at p'; exact aP.stuck p'
 | _ => exact aP.stuck p
theorem PE.or {t1 t2 : TE} (h1 : PE X e t1) (h2 : PE X e t2) : PE X e (fun σ H Q => t1 σ H Q \/ t2 σ H Q) := fun pins s σ H Q I h => h.elim (h1 pins s σ H Q I) (h2 pins s σ H Q I)
theorem rd_meth {nN n : Nat} {g : ak -> M Flo} {σ : St} {H : Hp} {Q : VK} (h : tD K Wno ro (oR C m (dS nN n g) fo fr) σ H Q) : tMeth C m (spF K ro (dS nN n g) n) [] E0 (tD K Wno false fo) (tDA K Wno fr) σ H Q := by
 obtain ⟨F, ρ, r, s, p⟩ := h
 refine cx r s (fun e he => p.err (by unfold oR; rw [he]; rfl)) fun o ho x F1 H1 s1 q1 => ?_
 have ez : oR C m (dS nN n g) fo fr ρ = if isC C m o = true then (fr ρ).bind fun as => dS nN n g (o :: as) else stk := by unfold oR; rw [ho]; rfl
 rw [ez] at p
 by_cases hc : isC C m o = true
 ·rw [if_pos hc] at p
  cases o with
  | ins D gs =>
   obtain ⟨l, dx, fs, e1, ea, df⟩ := id q1
   have hc' : ((D == C) && (gs.lookup m).isNone) = true := hc
   rw [Bool.and_eq_true] at hc'
   obtain ⟨hD, hn⟩ := hc'
   have hD : D = C := by simpa using hD
   subst hD
   refine ⟨l, dx, fs, e1, s1.fh _ _ ea, df.at.2 (by simpa using hn), ?_⟩
   have p := p.step s1
   refine q9 (r.mono s1.ff) s1.fh (fun e he => p.err (by rw [he]; rfl)) fun as has vs F2 H2 s2 qs => ?_
   rw [has] at p
   have p : aP K Wno ro F1 H1 (dS nN n g (.ins D gs :: as)) Q := p
   have p := p.step s2
   show spF K ro (dS nN n g) n (x :: (vs ++ [])) H2 Q E0
   rw [List.append_nil]
   by_cases hl : (Dat.ins D gs :: as).length = n
   ·exact ⟨F2, .ins D gs :: as, s2.fh, ⟨x, vs, rfl, cA.mono s2.ff q1, qs⟩, hl, p⟩
   ·rw [tw hl] at p
    exact aP.stuck p
  | _ => cases hc
 ·rw [if_neg hc] at p; exact aP.stuck p
theorem rd_meth2 {nN n nN2 n2 : Nat} {g g2 : ak -> M Flo} {σ : St} {H : Hp} {Q : VK} (h : tD K Wno ro (lh C C2 m (dS nN n g) (dS nN2 n2 g2) fo fr) σ H Q) :
  tD K Wno ro (oR C m (dS nN n g) fo fr) σ H Q \/ tD K Wno ro (oR C2 m (dS nN2 n2 g2) fo fr) σ H Q := by
 obtain ⟨F, ρ, r, s, p⟩ := h
 cases ho : fo ρ with
 | error e =>
  refine .inl ⟨F, ρ, r, s, ?_⟩
  have e1 : lh C C2 m (dS nN n g) (dS nN2 n2 g2) fo fr ρ = .error e := by unfold lh; rw [ho]; rfl
  have e2 : oR C m (dS nN n g) fo fr ρ = .error e := by unfold oR; rw [ho]; rfl
  rw [e1] at p; rw [e2]; exact p
 | ok o =>
  have e1 : lh C C2 m (dS nN n g) (dS nN2 n2 g2) fo fr ρ = if isC C m o = true then (fr ρ).bind fun as => dS nN n g (o :: as) else if isC C2 m o = true then (fr ρ).bind fun as => dS nN2 n2 g2 (o :: as) else stk := by unfold lh; rw [ho]; rfl
  have e2 : oR C m (dS nN n g) fo fr ρ = if isC C m o = true then (fr ρ).bind fun as => dS nN n g (o :: as) else stk := by unfold oR; rw [ho]; rfl
  have e3 : oR C2 m (dS nN2 n2 g2) fo fr ρ = if isC C2 m o = true then (fr ρ).bind fun as => dS nN2 n2 g2 (o :: as) else stk := by unfold oR; rw [ho]; rfl
  rw [e1] at p
  by_cases hc : isC C m o = true
  ·rw [if_pos hc] at p e2
   exact .inl ⟨F, ρ, r, s, by rw [e2]; exact p⟩
  ·rw [if_neg hc] at p
   exact .inr ⟨F, ρ, r, s, by rw [e3]; exact p⟩
noncomputable def MethEq (X : Cx) (o : Expr) (m : Str) (apos : Pos) (es : List Expr) (pos : Pos) (pl : Sem Bool) : Prop := eval (.Call (.Attribute o m apos) es [] pos) X.env = (do let ov <- eval o X.env; standAt apos.atName; let (f, first) <- holding [ov] (getMethod ov m pl); callWith pos f first (backTo pos (starEach es X.env)) (backToKw pos (keywordEach [] X.env)))
section
variable {k nN n nN2 n2 : Nat} {fad fad2 : Addr} {fd fd2 : FuncData} {ps : List Str} {g g2 : ak -> M Flo} {pl : Sem Bool}
theorem zI (c : Cls X.K C) (M : Meth X.K C m fad) (F : bJ X.prog X.w X.K X.mg X.base CX0 k fad fd ps (spF X.K ro (dS nN n g) n)) (hr : ka k X.A) (hb : Binds X.K fd ps []) (ho : DE X.K Wno false X o fo) (ha : DA X.K Wno X (e :: es) fr)
  (hst : starEach (e :: es) X.env = (false, eval e X.env) :: starEach es X.env) (hpl : (backTo pos (starEach es X.env)).any (·.1) = false) (ht : MethEq X o m apos (e :: es) pos pl) : DE X.K Wno ro X (.Call (.Attribute o m apos) (e :: es) [] pos) (oR C m (dS nN n g) fo fr) :=
 (pe_meth (pl := pl) ho c M F hr hb .nil yj ha hst hpl ht).imp fun _ _ _ => rd_meth
theorem de_meth2 {k2 : Nat} {ps2 : List Str} (c : Cls K C) (M : Meth K C m fad) (F : bJ X.prog X.w X.K X.mg X.base CX0 k fad fd ps (spF K ro (dS nN n g) n)) (hr : ka k X.A) (hb : Binds X.K fd ps [])
  (c2 : Cls K C2) (M2 : Meth K C2 m fad2) (F2 : bJ X.prog X.w X.K X.mg X.base CX0 k2 fad2 fd2 ps2 (spF K ro (dS nN2 n2 g2) n2)) (hr2 : ka k2 X.A) (hb2 : Binds X.K fd2 ps2 []) (ho : DE K Wno false X o fo) (ha : DA K Wno X (e :: es) fr)
  (hK : X.K = K := by rfl) (hst : starEach (e :: es) X.env = (false, eval e X.env) :: starEach es X.env := by rfl) (hpl : (backTo pos (starEach es X.env)).any (·.1) = false := by rfl) (ht : MethEq X o m apos (e :: es) pos pl := by rfl) :
  DE K Wno ro X (.Call (.Attribute o m apos) (e :: es) [] pos) (lh C C2 m (dS nN n g) (dS nN2 n2 g2) fo fr) := by
 subst hK
 exact (PE.or (zI c M F hr hb ho ha hst hpl ht) (zI c2 M2 F2 hr2 hb2 ho ha hst hpl ht)).imp fun _ _ _ => rd_meth2
end
noncomputable def spI1 (K : PySem.W.Frag) (C : Addr) (g : List Dat -> M Dat) : Sp := fun vs H Q _ => ∃ p dx v F d, vs = [.ref p, v] /\ H p = some (.ins C dx []) /\ F p = none /\ b9 F H /\ cA K F d v /\ (match g [d] with
 | .ok r => ∀ w F' H', b9 F F' -> b9 F' H' -> F' p = none -> (∀ b o, F' b = some o -> F b = some o \/ H b = none) -> (∀ c o, H c = some o -> c ≠ p -> H' c = some o) -> H' p = some (.ins C dx [("gaps", w)]) -> cA K F' r w -> Q .non H'
 | .error e => Wno.p e F H)
noncomputable def spI2 (K : PySem.W.Frag) (C : Addr) (g : List Dat -> M Dat) : Sp := fun vs H Q _ => ∃ p dx v v2 F d d2, vs = [.ref p, v, v2] /\ H p = some (.ins C dx []) /\ F p = none /\ b9 F H /\ cA K F d v /\ cA K F d2 v2 /\ (match (g [d]).bind fun r => (g [d2]).bind fun r2 => if twoL r r2 = true then .ok (r, r2) else stk with
 | .ok (r, r2) => ∀ w w2 F' H', b9 F F' -> b9 F' H' -> F' p = none -> (∀ b o, F' b = some o -> F b = some o \/ H b = none) -> (∀ c o, H c = some o -> c ≠ p -> H' c = some o) -> H' p = some (.ins C dx [("gaps", w), ("beside", w2)]) -> cA K F' r w -> cA K F' r2 w2 -> Q .non H'
 | .error e => Wno.p e F H)
theorem Step.born {F H F' H' : Hp} {x dx : Addr} {fs : List (Str × V)} (s : b9 F H) (hx : H x = none) (hdx : H dx = none) (hne : dx ≠ x) (h1 : b9 F F') (h2 : b9 F' H') (h3 : F' x = none) (h4 : ∀ b o, F' b = some o -> F b = some o \/ upd (upd H dx (.own x)) x (.ins C dx []) b = none)
  (h5 : ∀ c o, upd (upd H dx (.own x)) x (.ins C dx []) c = some o -> c ≠ x -> H' c = some o) (h6 : H' x = some (.ins C dx fs)) : Step F H (upd F' x (.ins C dx fs)) H' where
 ff := h1.trans (b9.upd h3)
 hh := fun c o e => by
  have hc : c ≠ x := fun h => by rw [h, hx] at e; cases e
  have hd : c ≠ dx := fun h => by rw [h, hdx] at e; cases e
  exact h5 c o (by rw [aq hc, aq hd]; exact e) hc
 fh := fun c o e => by
  by_cases hc : c = x
  ·subst hc; rw [ar] at e; rw [h6]; exact e
  ·rw [aq hc] at e; exact h2 _ _ e
 nw := fun c o e => by
  by_cases hc : c = x
  ·subst hc; exact .inr hx
  ·rw [aq hc] at e
   rcases h4 c o e with z | z
   ·exact .inl z
   ·refine .inr ?_
    by_cases hd : c = dx
    ·subst hd; exact hdx
    ·rw [aq hc, aq hd] at z; exact z
theorem de_newR {k : Nat} {fI : Addr} {fdI : FuncData} {g : List Dat -> M Dat} {ps : List Str} (Mk' : Mk X.K C fI) (FI : bJ X.prog X.w X.K X.mg X.base CX0 k fI fdI ps (spI1 K C g)) (hr : ka (k + 1) X.A) (hm : X.mg x = some (.ref C)) (hb : Binds X.K fdI ps [])
  (ha : DA K Wno X [e] fr) (hg : Gl X x := by rfl) (hdb : (x == ("__debug__" : Str)) = false := by decide) (hst : starEach [e] X.env = (false, eval e X.env) :: starEach [] X.env := by rfl) (hpl : (backTo pos (starEach [] X.env)).any (·.1) = false := by rfl) :
  DE K Wno false X (.Call (.Name x p) [e] [] pos) (fL (newR C g) fr) := by
 refine PE.imp (Br Mk' FI hr hg hm hb .nil yj ha hdb hst hpl) fun σ H Q h => ?_
 obtain ⟨F, ρ, r, s, p⟩ := rd_L h
 refine ⟨F, ρ, r, s, ?_⟩
 cases e1 : fr ρ with
 | error z => rw [e1] at p; exact p
 | ok ds =>
  rw [e1] at p
  intro vs F1 H1 st q
  obtain ⟨F2, es1, s1, q1, z⟩ := p vs F1 H1 st q
  rcases es1 with _ | ⟨d, _ | ⟨_, _⟩⟩
  ·exact aP.stuck z
  rotate_left
  ·exact aP.stuck z
  ·obtain ⟨v, vs', rfl, qd, hn⟩ := q1
   cases (show vs' = [] from hn)
   intro x dx hx hdx hne
   refine ⟨x, dx, v, F2, d, rfl, ar, s1.free hx, fun c o e => ?_, qd, ?_⟩
   ·have hc : c ≠ x := fun h => by rw [h, s1.free hx] at e; cases e
    have hd : c ≠ dx := fun h => by rw [h, s1.free hdx] at e; cases e
    rw [aq hc, aq hd]; exact s1 _ _ e
   ·have z : aP K Wno false F2 H1 ((g [d]).bind fun r => .ok (.ins C [("gaps", r)])) Q := z
    cases hgd : g [d] with
    | error e => rw [hgd] at z; exact False.elim z
    | ok r =>
     rw [hgd] at z
     intro w F' H' h1 h2 h3 h4 h5 h6 h7
     refine ⟨rfl, z (.ref x) (upd F' x (.ins C dx [("gaps", w)])) H' (Step.born s1 hx hdx hne h1 h2 h3 h4 h5 h6) ?_⟩
     exact ⟨x, dx, _, rfl, ar, w, [], rfl, cA.mono (b9.upd h3) h7, rfl⟩
theorem de_newP {k : Nat} {fI : Addr} {fdI : FuncData} {g : List Dat -> M Dat} {ps : List Str} (Mk' : Mk X.K C fI) (FI : bJ X.prog X.w X.K X.mg X.base CX0 k fI fdI ps (spI2 K C g)) (hr : ka (k + 1) X.A) (hm : X.mg x = some (.ref C)) (hb : Binds X.K fdI ps [])
  (ha : DA K Wno X [e, a] fr) (hg : Gl X x := by rfl) (hdb : (x == ("__debug__" : Str)) = false := by decide) (hst : starEach [e, a] X.env = (false, eval e X.env) :: starEach [a] X.env := by rfl) (hpl : (backTo pos (starEach [a] X.env)).any (·.1) = false := by rfl) :
  DE K Wno false X (.Call (.Name x p) [e, a] [] pos) (fL (newP C g) fr) := by
 refine PE.imp (Br Mk' FI hr hg hm hb .nil yj ha hdb hst hpl) fun σ H Q h => ?_
 obtain ⟨F, ρ, r, s, p⟩ := rd_L h
 refine ⟨F, ρ, r, s, ?_⟩
 cases e1 : fr ρ with
 | error z => rw [e1] at p; exact p
 | ok ds =>
  rw [e1] at p
  intro vs F1 H1 st q
  obtain ⟨F2, es1, s1, q1, z⟩ := p vs F1 H1 st q
  rcases es1 with _ | ⟨d, _ | ⟨d2, _ | ⟨_, _⟩⟩⟩
  ·exact aP.stuck z
  ·exact aP.stuck z
  rotate_left
  ·exact aP.stuck z
  ·obtain ⟨v, vs', rfl, qd, v2, vs2, rfl, qd2, hn⟩ := q1
   cases (show vs2 = [] from hn)
   intro x dx hx hdx hne
   refine ⟨x, dx, v, v2, F2, d, d2, rfl, ar, s1.free hx, fun c o e => ?_, qd, qd2, ?_⟩
   ·have hc : c ≠ x := fun h => by rw [h, s1.free hx] at e; cases e
    have hd : c ≠ dx := fun h => by rw [h, s1.free hdx] at e; cases e
    rw [aq hc, aq hd]; exact s1 _ _ e
   ·have z : aP K Wno false F2 H1 ((g [d]).bind fun r => (g [d2]).bind fun r2 => if twoL r r2 = true then .ok (.ins C [("gaps", r), ("beside", r2)]) else stk) Q := z
    cases hgd : g [d] with
    | error e => rw [hgd] at z; exact False.elim z
    | ok r =>
     rw [hgd, az] at z
     cases hgd2 : g [d2] with
     | error e => rw [hgd2] at z; exact False.elim z
     | ok r2 =>
      rw [hgd2, az] at z
      by_cases ht : twoL r r2 = true
      ·rw [if_pos ht] at z
       rw [az, az, if_pos ht]
       intro w w2 F' H' h1 h2 h3 h4 h5 h6 h7 h8
       refine ⟨rfl, z (.ref x) (upd F' x (.ins C dx [("gaps", w), ("beside", w2)])) H' (Step.born s1 hx hdx hne h1 h2 h3 h4 h5 h6) ?_⟩
       exact ⟨x, dx, _, rfl, ar, w, _, rfl, cA.mono (b9.upd h3) h7, w2, [], rfl, cA.mono (b9.upd h3) h8, rfl⟩
      ·rw [if_neg ht] at z; exact aP.stuck z
end
end L2
namespace L2
open PySem PySem.Spec PyProof.Rows
end L2
namespace L2
open PySem PySem.Spec PyProof.Rows
end L2
namespace L2
open PySem PySem.Spec PyProof.Rows
end L2
namespace L2
open PySem PySem.Spec PyProof.Rows
section
variable {X : Cx} {K : PySem.W.Frag} {W : gI} {own ro : Bool}
open Classical in
end
end L2
namespace L2
open PySem PySem.Spec PyProof.Rows
noncomputable abbrev ZRec (h : Heap) (z p q : Addr) (m k : Value) : Prop := h.get? z = some { cls := .type "zip", dict := none, data := .fields #[m, k, .bool false, .ref p, .ref q], slots := #[] }
structure Zs (z p q u v l m : Addr) (r k a b : Value) (i j : Nat) (xs ys : Array Value) (h : Heap) : Prop where
 me : ZRec h z p q r k
 its : IsPair h p (.ref u) (.ref v)
 own : IsPair h q a b
 one : h.IsListIter u l i
 two : h.IsListIter v m j
 xl : h.IsList l xs
 yl : h.IsList m ys
noncomputable def Off (z q u v : Addr) (h h' : Heap) : Prop := ∀ c o, c ≠ z -> c ≠ q -> c ≠ u -> c ≠ v -> h.get? c = some o -> h'.get? c = some o
section
variable {z p q u v l m : Addr} {r k a b : Value} {i j n : Nat} {xs ys : Array Value} {h h' g : Heap}
theorem Off.refl : Off z q u v h h := fun _ _ _ _ _ _ e => e
theorem Off.then (A : Off z q u v h h') (B : Off z q u v h' g) : Off z q u v h g := fun c o a b d e x => B c o a b d e (A c o a b d e x)
end
inductive Mem : Value -> Prop
 | no : Mem .none
 | was (a : Int) (t : Tok) : Mem (.int a t)
end L2
namespace L2
open PySem PySem.Spec PyProof.Rows
inductive Laid2 : Hp -> List (V × V) -> List V -> Hp -> Prop
 | nil {G : Hp} : Laid2 G [] [] G
 | cons {G G' : Hp} {T : Addr} {x y : V} {ps : List (V × V)} {vs : List V} : G T = none -> Laid2 (upd G T (.tup [x, y])) ps vs G' -> Laid2 G ((x, y) :: ps) (.ref T :: vs) G'
end L2
namespace L2
open PySem PySem.Spec PyProof.Rows
end L2
namespace L2
open PySem PySem.Spec PyProof.Rows
structure Owns (K : PySem.W.Frag) (F G H : Hp) (ds : List Dat) (vs : List V) : Prop where
 len : vs.length = ds.length
 get : ∀ (k : Nat) (d : Dat), ds[k]? = some d -> ∃ a xs es, vs[k]? = some (.ref a) /\ d = .lst es /\ H a = some (.lst xs) /\ F a = none /\ G a = none /\ aB K F es xs
 ap : ∀ (j k : Nat) (a : Addr), vs[j]? = some (.ref a) -> vs[k]? = some (.ref a) -> j = k
section
variable {K : PySem.W.Frag} {F G H F' H' : Hp} {ds : List Dat} {vs : List V}
theorem Owns.back {G' : Hp} (o : Owns K F G H ds vs) (s : b9 G' G) : Owns K F G' H ds vs where
 len := o.len
 get := fun k d e => by
  obtain ⟨a, xs, es, h1, h2, h3, h4, h5, h6⟩ := o.get k d e
  exact ⟨a, xs, es, h1, h2, h3, h4, s.free h5, h6⟩
 ap := o.ap
end
noncomputable def rowAt (rs : List Dat) (a : Int) : M (Nat × List Dat) := match ixN rs.length a with
 | some j => (match rs[j]? with
  | some (.lst es) => .ok (j, es)
  | _ => .error .stuck)
 | none => .error .stuck
noncomputable def setRow (rs : List Dat) (je : Nat × List Dat) (b : Int) (x : Dat) : M (List Dat) := match ixN je.2.length b with
 | some k => .ok (rs.set je.1 (.lst (je.2.set k x)))
 | none => .error .stuck
noncomputable def rows3 (i : Nat) (rs : List Dat) (x : Dat) (je : Nat × List Dat) (fB : ak -> M Dat) (ρ : ak) : M Flo := (fB (ρ.set i none)).bind fun b => (asI b).bind fun b => (setRow rs je b x).bind fun rs' => .ok (.nx (ρ.set i (some (.lst rs'))))
noncomputable def iq (i : Nat) (rs : List Dat) (x : Dat) (fA fB : ak -> M Dat) (ρ : ak) : M Flo := (fA (ρ.set i none)).bind fun a => (asI a).bind fun a => (rowAt rs a).bind fun je => rows3 i rs x je fB ρ
end L2
namespace L2
open PySem PySem.Spec PyProof.Rows
end L2
namespace L2
open PySem PySem.Spec PyProof.Rows
structure Ys (z p q u v l m : Addr) (r k a b : Value) (i j : Nat) (xs ys : Array Value) (h : Heap) : Prop where
 me : ZRec h z p q r k
 its : IsPair h p (.ref u) (.ref v)
 own : IsPair h q a b
 one : h.IsTupleIter u l i
 two : h.IsTupleIter v m j
 xl : h.IsTuple l xs
 yl : h.IsTuple m ys
end L2
namespace L2
open PySem PySem.Spec PyProof.Rows
structure RepR (K : PySem.W.Frag) (F0 H0 FB : Hp) (i : Nat) (a : Addr) (ys : List V) (rs : List Dat) (F H : Hp) (σ : St) (ρ : ak) : Prop where
 r : Rep K F0 H0 FB [] F H σ ρ
 sl : σ[i]? = some (some (.ref a))
 hp : H a = some (.lst ys)
 fa : F a = none
 ha : H0 a = none
 nm : ∀ m : Nat, ys[m]? ≠ some (.ref a)
 ow : Owns K F H0 H rs ys
section
variable {K : PySem.W.Frag} {F0 H0 FB F H F1 H1 : Hp} {i : Nat} {a : Addr} {ys : List V} {rs : List Dat} {σ : St} {ρ : ak}
theorem RepR.base {FB' : Hp} (h : RepR K F0 H0 FB i a ys rs F H σ ρ) (s : b9 FB' FB) : RepR K F0 H0 FB' i a ys rs F H σ ρ := ⟨h.r.base s, h.sl, h.hp, h.fa, h.ha, h.nm, h.ow⟩
end
end L2
namespace L2
open PySem PySem.Spec PyProof.Rows
section
variable {κ : Type} [DecidableEq κ]
noncomputable def dropK (kvs : List (κ × V)) (k : κ) : List (κ × V) := kvs.filter fun kv => decide (kv.1 ≠ k)
theorem v7.getD {o : Option V} {u : Option Value} {d : V} {d' : Value} (r : v7 o u) (rd : RelV d d') : RelV (o.getD d) (u.getD d') := by
 cases o with
 | none => cases u with
  | none => exact rd
  | some _ => exact (show False from r).elim
 | some _ => cases u with
  | none => exact (show False from r).elim
  | some _ => exact r
theorem KV.drop {kvs : List (κ × V)} {vs : List (κ × Value)} (r : KV kvs vs) (k : κ) : KV (dropK kvs k) (without vs k) := by
 unfold KV at r ⊢
 unfold dropK without
 induction r with
 | nil => exact .nil
 | @cons p q ps qs h t ih =>
  obtain ⟨h1, h2⟩ := h
  rw [List.filter_cons, List.filter_cons]
  by_cases e : p.1 = k
  ·have a : ¬ decide (p.1 ≠ k) = true := by simp [e]
   have b : ¬ decide (q.1 ≠ k) = true := by simp [h1.symm.trans e]
   rw [if_neg a, if_neg b]; exact ih
  ·have e' : ¬ q.1 = k := fun z => e (h1.trans z)
   have a : decide (p.1 ≠ k) = true := by simp [e]
   have b : decide (q.1 ≠ k) = true := by simp [e']
   rw [if_pos a, if_pos b]; exact .cons ⟨h1, h2⟩ ih
theorem KV.length {kvs : List (κ × V)} {vs : List (κ × Value)} (r : KV kvs vs) : kvs.length = vs.length := Paired.length r
end
structure M1 (X : Cx) (o : Expr) (m : Str) (apos : Pos) (e : Expr) (cpos : Pos) : Prop where
 base : attributeBase o m X.env (eval o X.env) = eval o X.env
 few : ((backTo cpos (starEach [e] X.env)).all (fun x => !x.1) && (backToKw cpos (keywordEach [] X.env)).all (fun x => x.1.isSome)
  && decide (([e] : List Expr).length + ([] : List Keyword).length + (if ([] : List Keyword).isEmpty then 0 else 1) < 30)) = true
 line : (apos.endLine == cpos.line) = true
 trees : backTo cpos (starEach [e] X.env) = [(false, eval e X.env)]
structure M2 (X : Cx) (o : Expr) (m : Str) (apos : Pos) (e f : Expr) (cpos : Pos) : Prop where
 base : attributeBase o m X.env (eval o X.env) = eval o X.env
 few : ((backTo cpos (starEach [e, f] X.env)).all (fun x => !x.1) && (backToKw cpos (keywordEach [] X.env)).all (fun x => x.1.isSome)
  && decide (([e, f] : List Expr).length + ([] : List Keyword).length + (if ([] : List Keyword).isEmpty then 0 else 1) < 30)) = true
 line : (apos.endLine == cpos.line) = true
 trees : backTo cpos (starEach [e, f] X.env) = [(false, eval e X.env), (false, eval f X.env)]
end L2
namespace L2
open PySem PySem.Spec PyProof.Rows
noncomputable def keysI (ks : List Int) : List (Key × V) := ks.map fun k => (Sum.inl k, .bl true)
structure RepK (K : PySem.W.Frag) (F0 H0 FB : Hp) (i : Nat) (a : Addr) (ks : List Int) (F H : Hp) (σ : St) (ρ : ak) : Prop where
 r : Rep K F0 H0 FB [] F H σ ρ
 sl : σ[i]? = some (some (.ref a))
 hp : H a = some (.dK (keysI ks))
 fa : F a = none
 ha : H0 a = none
end L2
namespace L2
open PySem PySem.Spec PyProof.Rows
structure ExA (h : Heap) (e : Addr) (C : Value) (dx hd : Option Addr) : Prop where
 ob : ∃ oe vs, h.get? e = some oe /\ oe.cls = C /\ oe.dict = dx /\ oe.data = .fields vs /\ vs[1]? = some (hd.elim Value.none Value.ref)
 tb : ∀ T, hd = some T -> T ≠ e /\ ∃ oT ts, h.get? T = some oT /\ oT.data = .fields ts /\ ts[3]? = some .none
theorem dictMapF (f : Array Value -> Array Value) (o : Obj) : (o.mapFields f).dict = o.dict := by
 obtain ⟨c, d, dt, sl⟩ := o
 cases dt <;> rfl
theorem size3 {l : List Value} (h : 3 < l.length) : 3 < l.toArray.size := by rw [List.size_toArray]; exact h
section
variable {M : Model} {A : Around} {E : Value -> Shared -> Prop} {s : Shared}
theorem mkEntry {hv fv lv : Value} {pl : List Value} {Q : Value -> Shared -> Prop} (hp : IsPlace pl) (h : ∀ (o : Obj) (ts : Array Value), o.data = .fields ts -> 3 < ts.size -> o.isFreed = false -> Q (.ref s.heap.objs.size) { s with heap := s.heap.push o }) :
  wpAny M A (EntryCells.newEntry hv fv .none lv .none pl) Q E s := by
 unfold EntryCells.newEntry newFields
 refine wpAny_newObj_type (h _ _ rfl (size3 ?_) ?_) (hp.sizeOk5 _ _ _ _ _)
 ·simp
 ·exact Obj.isFreed_of_fields rfl
structure Left (fs : List Addr) (e : Addr) (hd : Option Addr) (h h' : Heap) : Prop where
 keep : ∀ b o, h.get? b = some o -> b ∉ fs -> b ≠ e -> (∀ T, hd = some T -> b ≠ T) -> h'.get? b = some o
 slot : ∀ b o, h.get? b = some o -> b ∈ fs -> ∃ sl, h'.get? b = some { o with slots := sl }
 size : h.objs.size <= h'.objs.size
theorem entry_at {base : Heap} {env : Env} {outer : List Env} {L e : Addr} {C : Value} {dx : Option Addr} {oe : Obj} {vs : Array Value} {hv : Value} {bn : Bool} {Q : Unit -> Shared -> Prop}
  (hfr : A.frames = some (env :: outer)) (hl : s.heap.FunFrames base (env :: outer)) (hf : env.frame = some L) (he : s.heap.get? e = some oe) (hc : oe.cls = C) (hdx : oe.dict = dx) (hd : oe.data = .fields vs) (hs : 1 < vs.size)
  (h : ∀ h' T, ExA h' e C dx (some T) -> s.heap.objs.size <= T -> Left (frs (env :: outer)) e none s.heap h' -> Q () { s with heap := h' }) :
  wpAny M A (frameOf env >>= fun a => entryPlaceOf L bn >>= fun pl => EntryCells.newEntry hv a .none (rawInt L) .none pl >>= fun b => setField (.ref e) 1 b) (fun _ s' => wpAny M A (setFlight (.ref e) none) Q E s') E s := by
 have nfr : ∀ b o, b ∈ frs (env :: outer) -> s.heap.get? b = some o -> ∀ vs, o.data ≠ .fields vs := fun b o hm q => by
  obtain ⟨_, o', ho', n⟩ := hl.mem hm
  rw [q] at ho'
  cases ho'
  exact n
 have hne : e ∉ frs (env :: outer) := fun hm => nfr e oe hm he vs hd
 refine wpAny_bind (wpAny_frameOf_fun hfr hl hf fun h1 x1 => ?_)
 obtain ⟨z1, z2, z3⟩ := x1
 refine wpAny_bind (wpAny_entryPlaceOf fun pl hp => ?_)
 refine wpAny_bind (mkEntry hp fun o ts ho h3 hfo => ?_)
 have e1 : h1.get? e = some oe := by rw [z2 e hne]; exact he
 have n1 : h1.objs.size ≠ e := fun z => absurd (Heap.lt_size e1) (by rw [z]; exact Nat.lt_irrefl _)
 have e2 : (h1.push o).get? e = some oe := Heap.get?_push_of_some o e1
 have t2 : (h1.push o).get? h1.objs.size = some o := Heap.get?_push_size h1 hfo
 refine wpAny_setField e2 hd hs ?_
 have d3 := Obj.data_mapFields hd (·.setIfInBounds 1 (Value.ref h1.objs.size))
 have e3 := Heap.get?_update_self (h := h1.push o) (Obj.mapFields (·.setIfInBounds 1 (Value.ref h1.objs.size))) e2 (Obj.isFreed_of_fields d3)
 have t3 : ((h1.push o).update e (Obj.mapFields (·.setIfInBounds 1 (Value.ref h1.objs.size)))).get? h1.objs.size = some o := by
  rw [Heap.get?_update_other _ _ (Ne.symm n1)]
  exact t2
 unfold setFlight
 refine wpAny_bind (wpAny_field e3 d3 (x := .ref h1.objs.size) (by simp [hs]) ?_)
 rw [if_pos (by simp)]
 refine wpAny_setField t3 ho h3 ?_
 have dT := Obj.data_mapFields ho (·.setIfInBounds 3 ((none : Option Addr).elim Value.none fun f => rawInt f))
 refine h _ h1.objs.size ⟨⟨_, _, by rw [Heap.get?_update_other _ _ n1]; exact e3, by rw [Obj.cls_mapFields]; exact hc, by rw [dictMapF]; exact hdx, d3, by simp [hs]⟩, fun T hT => ?_⟩ (by rw [z1]; exact Nat.le_refl _) ⟨fun b o' q hb hbe _ => ?_, fun b o' q hb => ?_, ?_⟩
 ·cases hT
  exact ⟨n1, _, _, Heap.get?_update_self _ t3 (Obj.isFreed_of_fields dT), dT, by simp [h3]⟩
 ·have q1 : h1.get? b = some o' := by rw [z2 b hb]; exact q
  have nb : h1.objs.size ≠ b := fun z => absurd (Heap.lt_size q1) (by rw [z]; exact Nat.lt_irrefl _)
  rw [Heap.get?_update_other _ _ nb, Heap.get?_update_other _ _ (Ne.symm hbe)]
  exact Heap.get?_push_of_some o q1
 ·obtain ⟨sl, q1⟩ := z3 b o' q
  have nb : h1.objs.size ≠ b := fun z => absurd (Heap.lt_size q1) (by rw [z]; exact Nat.lt_irrefl _)
  have nbe : e ≠ b := fun z => hne (z ▸ hb)
  refine ⟨sl, ?_⟩
  rw [Heap.get?_update_other _ _ nb, Heap.get?_update_other _ _ nbe]
  exact Heap.get?_push_of_some o q1
 ·rw [Heap.size_update, Heap.size_update, Heap.size_push, z1]
  exact Nat.le_succ _
theorem leave2 {base : Heap} {env : Env} {outer : List Env} {L e : Addr} {C : Value} {dx hd : Option Addr} {Q : Unit -> Shared -> Prop}
  (hfr : A.frames = some (env :: outer)) (hl : s.heap.FunFrames base (env :: outer)) (hf : env.frame = some L) (x : ExA s.heap e C dx hd)
  (h : ∀ h' T, ExA h' e C dx (some T) -> s.heap.objs.size <= T -> Left (frs (env :: outer)) e hd s.heap h' -> Q () { s with heap := h' }) : wpAny M A (noteFrame (.ref e) env) (fun _ s' => wpAny M A (setFlight (.ref e) none) Q E s') E s := by
 obtain ⟨oe, vs, he, hc, hdx, hdt, h1⟩ := x.ob
 have hs : 1 < vs.size := (Array.getElem?_eq_some_iff.mp h1).1
 unfold noteFrame
 simp only [hf]
 cases hd with
 | none =>
  refine wpAny_bind (wpAny_field he hdt h1 ?_)
  rw [if_neg (by decide)]
  exact entry_at hfr hl hf he hc hdx hdt hs fun h' T a b c => h h' T a b c
 | some T =>
  obtain ⟨nTe, oT, ts, hT, hdT, h3⟩ := x.tb T rfl
  have hs3 : 3 < ts.size := (Array.getElem?_eq_some_iff.mp h3).1
  refine wpAny_bind (wpAny_field he hdt h1 ?_)
  rw [if_pos (by simp)]
  refine wpAny_bind (wpAny_field (x := .none) hT hdT h3 ?_)
  rw [if_neg (by simp [rawInt])]
  refine wpAny_bind (wpAny_setField hT hdT hs3 ?_)
  have oth : ∀ b, b ≠ T -> (s.heap.update T (Obj.mapFields (·.setIfInBounds 3 Value.none))).get? b = s.heap.get? b := fun b hb => Heap.get?_update_other _ _ (Ne.symm hb)
  have nT : ∀ b o, s.heap.get? b = some o -> (∀ vs, o.data ≠ .fields vs) -> b ≠ T := fun b o q n z => by
   subst z
   rw [hT] at q
   cases q
   exact n ts hdT
  refine entry_at hfr (hl.of_keeps fun b o q n => ⟨o, by rw [oth b (nT b o q n)]; exact q, rfl⟩) hf (by rw [oth e (Ne.symm nTe)]; exact he) hc hdx hdt hs fun h' T' a b c => ?_
  refine h h' T' a (by rw [Heap.size_update] at b; exact b) ⟨fun b' o q hb hbe hbT => c.keep b' o (by rw [oth b' (hbT T rfl)]; exact q) hb hbe (fun _ z => nomatch z), fun b' o q hb => ?_, ?_⟩
  ·obtain ⟨_, o', ho', n⟩ := hl.mem hb
   rw [q] at ho'
   cases ho'
   exact c.slot b' o (by rw [oth b' (nT b' o q n)]; exact q) hb
  ·have := c.size
   rw [Heap.size_update] at this
   exact this
theorem leave_at {base : Heap} {env : Env} {outer : List Env} {L e : Addr} {C : Value} {dx hd : Option Addr} {Q : Unit -> Shared -> Prop}
  (hfr : A.frames = some (env :: outer)) (hl : s.heap.FunFrames base (env :: outer)) (hf : env.frame = some L) (x : ExA s.heap e C dx hd)
  (h : ∀ h' T, ExA h' e C dx (some T) -> s.heap.objs.size <= T -> Left (frs (env :: outer)) e hd s.heap h' -> Q () { s with heap := h' }) : wpAny M A (leaving env (.ref e)) Q E s := by
 unfold leaving
 exact wpAny_bind (leave2 hfr hl hf x h)
end
end L2
namespace L2
open PySem PySem.Spec PyProof.Rows
structure CXs (P : Program) (w : World) (outer : List Env) (H : Hp) (s : Shared) (E : XK) (a T : Addr) (C : Value) (dx : Option Addr) (H' : Hp) (s' : Shared) : Prop where
 ex : ExA s'.heap a C dx (some T)
 na : s.heap.get? a = none
 nT : s.heap.get? T = none
 fa : H' a = none
 fT : H' T = none
 os : s'.os = s.os
 bare : AllBare s'.gens
 un : Un (frs outer) [] H H' s.heap s'.heap
 hok : HOk P w H' s'.heap
 want : E C dx H'
noncomputable def CXd (P : Program) (w : World) : CXT := fun outer H s E e s' => ∃ (a T : Addr) (C : Value) (dx : Option Addr) (H' : Hp), e = .ref a /\ CXs P w outer H s E a T C dx H' s'
theorem get_none {h : Heap} {a : Addr} (z : h.objs.size <= a) : h.get? a = none := by
 cases e : h.get? a with
 | none => rfl
 | some o => exact absurd (Heap.lt_size e) (Nat.not_lt.mpr z)
theorem Inv.zt {X : Cx} {pins : List (Addr × Obj)} {σ : St} {H : Hp} {s : Shared} {a : Addr} (I : Inv X pins σ H s) (hx : X.ex = []) (e : s.heap.get? a = none) : X.s₀.heap.get? a = none := by
 cases q : X.s₀.heap.get? a with
 | none => rfl
 | some o =>
  obtain ⟨o', z⟩ := I.base.there a o q (by rw [hx]; exact fun z => nomatch z)
  rw [e] at z
  cases z
theorem eP.is {P : Program} {w : World} {H : Hp} {h : Heap} {a : Addr} {o : HO} (x : eP P w H h a o) : ∃ u, h.get? a = some u := by
 cases o with
 | lst xs => obtain ⟨_, _, _, _, e⟩ := x; exact ⟨_, e⟩
 | tup xs => obtain ⟨_, _, _, ob, e, _⟩ := x; exact ⟨_, e⟩
 | dK kvs => obtain ⟨_, _, _, _, o, _, _, e, _⟩ := x; exact ⟨_, e⟩
 | dT kvs => obtain ⟨_, _, _, _, o, _, _, e, _⟩ := x; exact ⟨_, e⟩
 | set S n => obtain ⟨o, _, _, _, e, _⟩ := x; exact ⟨_, e⟩
 | ins C dx fs => obtain ⟨_, _, _, e, _⟩ := x; exact ⟨_, e⟩
 | own y => exact x
 | xd fs => obtain ⟨_, ⟨_, _, _, e, _⟩, _⟩ := x; exact ⟨_, e⟩
 | rng lo hi => obtain ⟨_, _, _, e⟩ := x; exact ⟨_, e⟩
 | frz ob u => obtain ⟨e, _⟩ := x; exact ⟨_, e⟩
 | tbl ps => exact ⟨_, show h.get? a = some _ from x⟩
 | met f y => exact ⟨_, show h.get? a = some _ from x⟩
 | ext φ => obtain ⟨_, e, _⟩ := x; exact e
section
variable {P : Program} {w : World} {K : PySem.W.Frag} {mg : Str -> Option Value} {base : Heap} {N : List Str} {qual : Str} {scope : Scope} {f : Addr} {cd : Value} {A : Around} {outer : List Env} {s : Shared} {H : Hp} {E : XK}
theorem xe_of {pins : List (Addr × Obj)} {σ : St} {H' : Hp} {s' : Shared} {a : Addr} {C : Value} {dx hd : Option Addr} (J : Inv (Cc (CXd P w) P w K mg base N qual scope f cd A outer s H E) pins σ H' s') (x : ExA s'.heap a C dx hd)
  (na : s.heap.get? a = none) (nT : ∀ T, hd = some T -> s.heap.get? T = none /\ H' T = none) (fa : H' a = none) (q : E C dx H') : (Cc (CXd P w) P w K mg base N qual scope f cd A outer s H E).xe (.ref a) s' := by
 have e0 := J.env0
 have hfs : ∀ b ∈ frs (envOfC qual scope s.heap.objs.size f cd :: outer), H' b = none := e0.frf
 have old : ∀ b o, s.heap.get? b = some o -> b ≠ a /\ (∀ T, hd = some T -> b ≠ T) /\ b < s.heap.objs.size := fun b o e => by
  have hb := Heap.lt_size e
  exact ⟨fun z => (by subst z; rw [e] at na; cases na), fun T hT z => (by subst z; have := (nT _ hT).1; rw [e] at this; cases this), hb⟩
 have infs : ∀ b, b < s.heap.objs.size -> b ∈ frs (envOfC qual scope s.heap.objs.size f cd :: outer) -> b ∈ frs outer := fun b hb hm => by
  rcases List.mem_filterMap.mp hm with ⟨v, hv, e⟩
  rcases List.mem_cons.mp hv with z | z
  ·subst z
   have : s.heap.objs.size = b := by simpa [envOfC] using e
   omega
  ·exact List.mem_filterMap.mpr ⟨v, z, e⟩
 have outfs : ∀ b, b ∈ frs outer -> b ∈ frs (envOfC qual scope s.heap.objs.size f cd :: outer) := fun b hm => by
  rcases List.mem_filterMap.mp hm with ⟨v, hv, e⟩
  exact List.mem_filterMap.mpr ⟨v, List.mem_cons_of_mem _ hv, e⟩
 have base' : Un (frs outer) [] H H' s.heap s'.heap := J.base
 show wpAny (model P w) (A.deeper (envOfC qual scope s.heap.objs.size f cd)) (leaving (envOfC qual scope s.heap.objs.size f cd) (.ref a)) (fun _ s'' => CXd P w outer H s E (.ref a) s'') (fun e' s'' => CXd P w outer H s E e' s'') s'
 refine leave_at (base := base) e0.frames e0.wM rfl x fun h' T x' hT lf => ⟨a, T, C, dx, H', rfl, x', na, get_none (Nat.le_trans (show s.heap.objs.size <= s'.heap.objs.size from J.sz) hT), fa, ?_, J.os, J.bare, ?_, ?_, q⟩
 ·exact J.hok.fresh hT
 ·have xV : ∀ b o, s.heap.get? b = some o -> ∀ o', s'.heap.get? b = some o' -> b ∉ frs outer -> h'.get? b = some o' := fun b o e o' e' hb => by
   obtain ⟨z1, z2, z3⟩ := old b o e
   exact lf.keep b o' e' (fun z => hb (infs b z3 z)) z1 z2
  refine ⟨fun b o e n hb hx => xV b o e o (base'.keep b o e n hb hx) hb, fun b o e n hb hx => ?_, base'.free, fun b o e hx => ?_, base'.tups, base'.frzs, base'.tbls⟩
  ·obtain ⟨sl, e1⟩ := base'.slot b o e n hb hx
   obtain ⟨sl2, e2⟩ := lf.slot b _ e1 (outfs b hb)
   exact ⟨sl2, e2⟩
  ·obtain ⟨o', e1⟩ := base'.there b o e hx
   by_cases hb : b ∈ frs outer
   ·obtain ⟨sl, e2⟩ := lf.slot b o' e1 (outfs b hb)
    exact ⟨_, e2⟩
   ·exact ⟨o', xV b o e o' e1 hb⟩
 ·intro b o e
  refine (J.hok b o e).xV (fun c u hc e1 => ?_) (fun _ z => z) fun _ _ z => z
  have hcn : H' c ≠ none := by
   rcases hc with z | z
   ·rw [z, e]; exact fun z => nomatch z
   ·rw [z]; exact fun z => nomatch z
  exact lf.keep c u e1 (fun z => hcn (hfs c z)) (fun z => hcn (by rw [z]; exact fa)) fun T hT z => hcn (by rw [z]; exact (nT T hT).2)
end
end L2
namespace L2
open PySem PySem.Spec PyProof.Rows
end L2
namespace L2
open PySem PySem.Spec PyProof.Rows
noncomputable def WE (K : PySem.W.Frag) (E : XK) : gI where
 p := fun e F H => match e with
  | .stuck => False
  | .exc C fs => ∀ F' H', Step F H F' H' -> match fs with
   | [] => E (.ref C) none H'
   | fs => ∀ d gs, F' d = some (.xd gs) -> o6 K F' fs gs -> E (.ref C) (some d) H'
 mono := fun {e F H F' H'} h s => by
  cases e with
  | stuck => exact h
  | exc C fs => exact fun F2 H2 s2 => h F2 H2 (s.trans s2)
 ns := fun h => h
noncomputable def noX {α : Type} : M α -> M α
 | .ok d => .ok d
 | .error _ => .error .stuck
@[simp] theorem noX_ok {α : Type} (d : α) : noX (.ok d : M α) = .ok d := id rfl
noncomputable def fNoX {α : Type} (f : ak -> M α) : ak -> M α := fun ρ => noX (f ρ)
@[simp] theorem e_fNoX {α : Type} (f : ak -> M α) (ρ : ak) : fNoX f ρ = noX (f ρ) := id rfl
section
variable {K : PySem.W.Frag} {W : gI} {X : Cx} {own ro : Bool} {OL O O' : List Nat}
theorem zV {st : List Stmt} {g : ak -> M Flo} (h : DSs K Wno ro X.nox OL O O' st g) : DSs K W ro X OL O O' st (fNoX g) := fun F0 H0 => PSs.imp (PSs.nox (h F0 H0)) fun D σ H ⟨FB, F, ρ, r, p⟩ => by
 refine ⟨FB, F, ρ, r, ?_⟩
 have p : jq K W ro F0 H0 FB OL O' D (noX (g ρ)) := p
 unfold jq at p ⊢
 cases e : g ρ with
 | ok fl =>
  rw [e] at p
  cases fl <;> exact p
 | error x => rw [e] at p; exact (W.ns p).elim
end
noncomputable def spX (K : PySem.W.Frag) (ro : Bool) (g : List Dat -> M Dat) (n : Nat) : Sp := fun vs H Q E => ∃ F ds, b9 F H /\ aB K F ds vs /\ ds.length = n /\ aP K (WE K E) ro F H (g ds) Q
section
variable {P : Program} {w : World} {K : PySem.W.Frag} {mg : Str -> Option Value} {base : Heap}
theorem fn_X {x qual : Str} {st : Stmt} {f : Addr} {fd : FuncData} {N ps : List Str} {k : Nat} {O' : List Nat} (F : Fun K x qual st f fd) (S : aR N ps (af st)) (ro : Bool) (g : ak -> M Flo)
  (hb : ∀ (cdv : Value) (A : Around) (outer : List Env) (s : Shared) (H : Hp) (E : XK), ka k (A.deeper (envOfC qual (af st) s.heap.objs.size f cdv)) ->
   DSs K (WE K E) ro (Cc (CXd P w) P w K mg base N qual (af st) f cdv A outer s H E) [] [] O' (aG st) g) : bJ P w K mg base (CXd P w) (k + 1) f fd ps (spX K ro (dS N.length ps.length g) ps.length) := by
 obtain ⟨oc, od, kV, doc, pm, an, cdv, ct, osl, rfl, lk, hcd⟩ := F.ex
 refine fn_of lk hcd S (fun vs H Q E ⟨F, ds, s, q, l, p⟩ => by rw [q.length, l]) fun A outer s H vs Q E hr ⟨F1, ds, s1, q, l, p⟩ => ⟨_, hb cdv A outer s H E hr F1 H, F1, F1, ds.map some ++ List.replicate (N.length - ds.length) none, ?_, ?_⟩
 ·refine ⟨Step.refl s1, b9.refl _, ?_, fun i d e _ => vo q e, (fun i d e h => nomatch h), (fun i j ds es a h => nomatch h)⟩
  unfold start
  rw [List.length_append, List.length_append, List.length_map, List.length_map, List.length_replicate, List.length_replicate, q.length]
 ·have e1 : dS N.length ps.length g ds = (g (ds.map some ++ List.replicate (N.length - ds.length) none)).bind fun fl => match fl with
   | .nx _ => .ok .non
   | .rt d => .ok d
   | _ => stk := by
    unfold dS
    exact if_pos l
  rw [e1] at p
  cases e2 : g (ds.map some ++ List.replicate (N.length - ds.length) none) with
  | error z => rw [e2] at p; exact p
  | ok fl =>
   rw [e2] at p
   cases fl with
   | nx ρ => exact fun σ F H r => p .non F H r.st (by cases ro <;> rfl)
   | rt d => exact fun v F H st q => p v F H st q
   | bk ρ => exact aP.stuck p
   | ct ρ => exact aP.stuck p
end
end L2
namespace L2
open PySem PySem.Spec PyProof.Rows
section
variable {X : Cx} {pins : List (Addr × Obj)} {σ : St} {H : Hp} {s : Shared} {a : Addr} {C : Value} {dx hd : Option Addr}
structure Apart (X : Cx) (pins : List (Addr × Obj)) (H : Hp) (s : Shared) (a : Addr) (hd : Option Addr) : Prop where
 na : X.s₀.heap.get? a = none
 fa : H a = none
 pa : ∀ p ∈ X.pn ++ pins, p.1 ≠ a
 nT : ∀ T, hd = some T -> X.s₀.heap.get? T = none /\ H T = none /\ ∀ p ∈ X.pn ++ pins, p.1 ≠ T
theorem Inv.left {h' : Heap} (I : Inv X pins σ H s) (hx : X.ex = []) (x : ExA s.heap a C dx hd) (ap : Apart X pins H s a hd) (lf : Left (frs X.stack) a hd s.heap h') : Inv X pins σ H { s with heap := h' } := by
 have e0 := I.env0
 obtain ⟨oe, vs, he, _, _, hdt, _⟩ := x.ob
 have nof : ∀ b o, s.heap.get? b = some o -> (∀ vs, o.data ≠ .fields vs) -> b ≠ a /\ ∀ T, hd = some T -> b ≠ T := fun b o e n => by
  refine ⟨fun z => ?_, fun T hT z => ?_⟩
  ·subst z
   rw [he] at e
   cases e
   exact n vs hdt
  ·subst z
   obtain ⟨_, oT, ts, h1, h2, _⟩ := x.tb _ hT
   rw [h1] at e
   cases e
   exact n ts h2
 have stk : ∀ b ∈ frs X.stack, H b = none := e0.frf
 have any : ∀ b o, s.heap.get? b = some o -> (∀ vs, o.data ≠ .fields vs) -> ∃ sl, h'.get? b = some { o with slots := sl } := fun b o e n => by
  obtain ⟨z1, z2⟩ := nof b o e n
  by_cases hb : b ∈ frs X.stack
  ·exact lf.slot b o e hb
  ·exact ⟨o.slots, lf.keep b o e hb z1 z2⟩
 have old : ∀ b o, X.s₀.heap.get? b = some o -> b ≠ a /\ ∀ T, hd = some T -> b ≠ T := fun b o e =>
  ⟨fun z => (by subst z; rw [ap.na] at e; cases e), fun T hT z => (by subst z; rw [(ap.nT _ hT).1] at e; cases e)⟩
 have up : s.heap.UpToSlots h' := any
 have loc0 : X.s₀.heap.get? X.env.locals = none := get_none I.ok.above
 have out : ∀ b, b ≠ X.env.locals -> b ∉ X.fs -> b ∉ frs X.stack := fun b h1 h2 h3 => by
  rcases List.mem_cons.mp (I.sg b h3) with z | z
  ·exact h1 z
  ·exact h2 z
 have cel : ∀ c v, s.heap.IsCell c v -> h'.IsCell c v := fun c v ⟨o, h1, h2⟩ => by
  obtain ⟨sl, z⟩ := any c o h1 (fun vs q => by rw [h2] at q; cases q)
  exact ⟨_, z, h2⟩
 refine ⟨I.ok, I.os, I.bare, ?_, ?_, fun x c e => ?_, I.free, I.freeC, fun p hp => ?_, ?_, I.len⟩
 ·have go : ∀ b o, X.s₀.heap.get? b = some o -> ∀ o', s.heap.get? b = some o' -> ∃ sl, h'.get? b = some { o' with slots := sl } := fun b o e o' e' => by
   obtain ⟨z1, z2⟩ := old b o e
   by_cases hb : b ∈ frs X.stack
   ·exact lf.slot b o' e' hb
   ·exact ⟨o'.slots, lf.keep b o' e' hb z1 z2⟩
  refine ⟨fun b o e n hb hx' => ?_, fun b o e n hb hx' => ?_, I.base.free, fun b o e hx' => ?_, I.base.tups, I.base.frzs, I.base.tbls⟩
  ·obtain ⟨z1, z2⟩ := old b o e
   exact lf.keep b o (I.base.keep b o e n hb hx') (out b (fun z => by rw [z, loc0] at e; cases e) hb) z1 z2
  ·obtain ⟨sl, e1⟩ := I.base.slot b o e n hb hx'
   obtain ⟨sl2, e2⟩ := go b o e _ e1
   exact ⟨sl2, e2⟩
  ·obtain ⟨o', e1⟩ := I.base.there b o e hx'
   obtain ⟨sl2, e2⟩ := go b o e _ e1
   exact ⟨_, e2⟩
 ·obtain ⟨m, hn, hl⟩ := I.loc
  refine ⟨m, up.ns hn, fun i x v e1 e2 e3 => ?_⟩
  obtain ⟨u, r, lk⟩ := hl i x v e1 e2 e3
  refine ⟨u, r, ?_⟩
  rcases lk with z | ⟨z, c, c1, c2⟩
  ·exact .inl z
  ·exact .inr ⟨z, c, c1, cel c _ c2⟩
 ·obtain ⟨v, z⟩ := I.cell x c e
  exact ⟨v, cel c v z⟩
 ·obtain ⟨p1, p2, p3, p4, p5⟩ := I.pin p hp
  exact ⟨lf.keep p.1 p.2 p1 (out p.1 p3 p4) (ap.pa p hp) fun T hT => (ap.nT T hT).2.2 p hp, p2, p3, p4, p5⟩
 ·intro b o e
  refine (I.hok b o e).xV (fun c u hc e1 => ?_) (fun _ z => z) fun _ _ z => z
  have hcn : H c ≠ none := by
   rcases hc with z | z
   ·rw [z, e]; exact fun z => nomatch z
   ·rw [z]; exact fun z => nomatch z
  exact lf.keep c u e1 (fun z => hcn (stk c z)) (fun z => hcn (by rw [z]; exact ap.fa)) fun T hT z => hcn (by rw [z]; exact (ap.nT T hT).2.1)
end
noncomputable def PEat (X : Cx) (pins : List (Addr × Obj)) (σ : St) (e : Expr) (t : TE) : Prop := ∀ (s : Shared) (H : Hp) (Q : VK), Inv X pins σ H s -> t σ H Q -> wpAny (model X.prog X.w) X.A (eval e X.env) (EP X pins σ Q) X.xe s
noncomputable def PSat (X : Cx) (pins : List (Addr × Obj)) (σ : St) (st : Stmt) (t : TS) : Prop := ∀ (s : Shared) (H : Hp) (D : Ends), Inv X pins σ H s -> t D σ H -> wpAny (model X.prog X.w) X.A (exec st X.env) (SP X pins D) X.xe s
noncomputable def PSsAt (X : Cx) (pins : List (Addr × Obj)) (σ : St) (st : List Stmt) (t : TS) : Prop := ∀ (s : Shared) (H : Hp) (D : Ends), Inv X pins σ H s -> t D σ H -> wpAny (model X.prog X.w) X.A (execs st X.env) (SP X pins D) X.xe s
noncomputable def lX (CX : CXT) (X : Cx) (pins : List (Addr × Obj)) (σ : St) (E : XK) : Prop := ∀ (H : Hp) (s : Shared) (e : Value) (s' : Shared), Inv X pins σ H s -> CX X.stack H s E e s' -> X.xe e s'
section
variable {X : Cx} {pins : List (Addr × Obj)} {σ : St} {st : Stmt} {t u : TS} {pos : Pos}
theorem at_one (h : PSat X pins σ st t) : PSsAt X pins σ [st] t := fun s H D I q => by
 refine wpAny_execs_cons (thn (h s H D I q) fun f s1 z => ?_)
 cases f with
 | next => exact wpAny_execs_nil z
 | _ => exact z
theorem at_set {i : Nat} {x : Str} {e : Expr} {te : TE} {pos' : Pos} (hN : X.N.Nodup) (hi : X.N[i]? = some x) (hx : Loc X.env.scope x) (he : PEat X pins σ e te) (hs : swapsWith e (some (.Name x pos')) pos.line X.env = pure false := by rfl) (hf : X.fn x = true \/ X.env.scope.names.lookup x = some .local := by first | exact .inl rfl | exact .inr rfl | assumption) :
  PSat X pins σ (.Assign [.Name x pos'] e pos) (AM te (oO i)) := fun s H D I q =>
 wpAny_Assign_Name (thn (he s H _ I q) fun v s1 ⟨y, H1, I1, r1, q1⟩ => ny I1 hN hi hx r1 (fun s2 I2 => ⟨_, H1, I2, q1⟩) hf) hs
end
section
variable {X : Cx} {pins : List (Addr × Obj)} {σ : St} {CX : CXT} {k : Nat} {f C : Addr} {fd : FuncData} {ps : List Str} {sp : Sp} {dvs : List V} {ds : List Value} {E : XK} {x m : Str} {p pos apos : Pos} {e o : Expr} {es : List Expr} {ta : TE} {t : TA}
theorem at_run {H : Hp} {s : Shared} {Q : VK} {us : List Value} {vs : List V} (F : bJ X.prog X.w X.K X.mg X.base CX k f fd ps sp) (hr : ka k X.A) (hb : Binds X.K fd ps ds) (hd : Vals dvs ds) (hx : lX CX X pins σ E)
  (I : Inv X pins σ H s) (r : Vals vs us) (h : sp (vs ++ dvs) H Q E) : wpAny (model X.prog X.w) X.A (call (.ref f) us) (EP X pins σ Q) X.xe s := by
 have v2 := r.append hd
 refine wpAny_call (codeAny_mono (F.run _ _ s H ⟨us, []⟩ _ _ Q E hr I.env0 (hb s us I.kIn (v2.length.symm.trans (F.len _ _ _ _ h))) v2 h) fun z s' hq => ?_)
 cases z with
 | error e => exact hx H s e s' I hq
 | ok fl =>
  cases fl with
  | ret u => exact I.after hq
  | _ => exact False.elim hq
theorem at_call (F : bJ X.prog X.w X.K X.mg X.base CX k f fd ps sp) (hx : lX CX X pins σ E) (hr : ka k X.A) (hm : X.mg x = some (.ref f)) (hk : PySem.W.keepIn X.K (.ref f) = true) (hb : Binds X.K fd ps ds) (hd : Vals dvs ds) (ha : PA X (e :: es) t) (hg : Gl X x := by rfl)
  (hdb : (x == ("__debug__" : Str)) = false := by decide) (he : starEach (e :: es) X.env = (false, eval e X.env) :: starEach es X.env := by rfl) (hpl : (backTo pos (starEach es X.env)).any (·.1) = false := by rfl) :
  PEat X pins σ (.Call (.Name x p) (e :: es) [] pos) (tCall sp dvs E t) := fun s H Q I q =>
 wpAny_Call_Name_kw (iK I hg hm (PySem.W.callWith_K (h₀ := X.base) I.ok.mod.kin hk (thn (ha pos pins s σ H _ I q) fun us s1 ⟨vs, H1, I1, r, q1⟩ => ⟨I1.kIn, at_run F hr hb hd hx I1 r q1⟩) he hpl) hdb)
end
end L2
namespace L2
open PySem PySem.Spec PyProof.Rows
section
variable {X : Cx} {pins : List (Addr × Obj)} {σ : St} {H : Hp} {s : Shared}
theorem Inv.names {h' : Heap} {m : Str -> Option Value} {σ' : St} (I : Inv X pins σ H s) (hn : h'.Ns X.env.locals m) (hs : Heap.SameBut X.env.locals s.heap h') (hl : σ'.length = X.N.length)
  (hv : ∀ (i : Nat) (x : Str) (v : V), X.N[i]? = some x -> σ'[i]? = some (some v) -> Vis X.env.scope x -> ∃ u, RelV v u /\ Look X.env s.heap m x u) : Inv X pins σ' H { s with heap := h' } := by
 have far : ∀ b o, X.s₀.heap.get? b = some o -> b ≠ X.env.locals := fun b o e z => by
  subst z
  exact absurd (Heap.lt_size e) (Nat.not_lt.mpr I.ok.above)
 have cel : ∀ x c v, X.env.cells.lookup x = some c -> s.heap.IsCell c v -> h'.IsCell c v := fun x c v e z => z.sameBut hs (I.cne x c e)
 refine ⟨I.ok, I.os, I.bare, ⟨fun b o e n hb hx => ?_, fun b o e n hb hx => ?_, I.base.free, fun b o e hx => ?_, I.base.tups, I.base.frzs, I.base.tbls⟩, ⟨m, hn, fun i x v e1 e2 e3 => ?_⟩, fun x c e => ?_, I.free, I.freeC, fun p hp => ?_, fun b o e => ?_, hl⟩
 ·show h'.get? b = _
  rw [hs.2 b (far b o e)]; exact I.base.keep b o e n hb hx
 ·obtain ⟨sl, z⟩ := I.base.slot b o e n hb hx
  refine ⟨sl, ?_⟩
  show h'.get? b = _
  rw [hs.2 b (far b o e)]; exact z
 ·obtain ⟨o', z⟩ := I.base.there b o e hx
  refine ⟨o', ?_⟩
  show h'.get? b = _
  rw [hs.2 b (far b o e)]; exact z
 ·obtain ⟨u, r, lk⟩ := hv i x v e1 e2 e3
  refine ⟨u, r, ?_⟩
  rcases lk with z | ⟨z, c, c1, c2⟩
  ·exact .inl z
  ·exact .inr ⟨z, c, c1, cel x c _ c1 c2⟩
 ·obtain ⟨v, z⟩ := I.cell x c e
  exact ⟨v, cel x c v e z⟩
 ·obtain ⟨p1, p2, p3, p4, p5⟩ := I.pin p hp
  refine ⟨?_, p2, p3, p4, p5⟩
  show h'.get? p.1 = _
  rw [hs.2 p.1 p3]; exact p1
 ·refine (I.hok b o e).xV (fun c u hc e1 => ?_) (fun _ z => z) fun _ _ z => z
  show h'.get? c = _
  rw [hs.2 c fun z => ?_]
  ·exact e1
  ·rcases hc with y | y
   ·rw [<- y, z, I.free] at e; cases e
   ·rw [z, I.free] at y; cases y
theorem uo {M : Model} {A : Around} {E : Value -> Shared -> Prop} {i : Nat} {x : Str} {pos : Pos} {Q : Unit -> Shared -> Prop} (I : Inv X pins σ H s) (hN : X.N.Nodup) (hi : X.N[i]? = some x) (hk : X.env.scope.names.lookup x = some .local)
  (h : ∀ s', Inv X pins (σ.set i none) H s' -> Q () s') : wpAny M A (do bindName X.env x .none; unbindBehindTheSuite X.env x pos) Q E s := by
 have hcls : (X.env.scope.kind == .class || (X.env.scope.kind == .module && X.env.locals != X.env.globals)) = false := by rw [I.ok.kind]; rfl
 have hil : i < σ.length := by rw [I.len]; exact (List.getElem?_eq_some_iff.mp hi).1
 refine wpAny_bind (wpAny_bindName (ny I hN hi (.inl hk) (v := .non) rfl (fun s1 I1 => ?_) (.inr hk)))
 unfold unbindBehindTheSuite
 refine wpAny_onRaise ?_
 obtain ⟨m, hn, hl⟩ := id I1.loc
 obtain ⟨u, _, lk⟩ := hl i x .non hi (by rw [List.getElem?_set_self hil]) (.inl hk)
 have hmx : m x = some u := by
  rcases lk with z | ⟨z, _⟩
  ·exact z.2
  ·have hkk : X.env.kindOf x = some .local := hk
   rw [hkk] at z
   rcases z with z | z <;> cases z
 refine wpAny_unbindName_local hk hn hmx hcls fun h' u' hn' hs => h _ (I1.names hn' hs (by rw [List.length_set]; exact I.len) fun j y v e1 e2 e3 => ?_)
 have hij : i ≠ j := fun z => by
  subst z
  rw [List.getElem?_set_self hil] at e2
  cases e2
 rw [List.getElem?_set_ne hij] at e2
 obtain ⟨w, r, lk⟩ := hl j y v e1 (by rw [List.getElem?_set_ne hij]; exact e2) e3
 refine ⟨w, r, ?_⟩
 rcases lk with ⟨z1, z2⟩ | z
 ·have hyx : y ≠ x := fun z => hij (u7 hN hi (z ▸ e1))
  exact .inl ⟨z1, by simp [hyx, z2]⟩
 ·exact .inr z
end
end L2
namespace L2
open PySem PySem.Spec PyProof.Rows
noncomputable def xH (K : PySem.W.Frag) (C : Addr) (bmB : List Value) : Prop := ∀ h : Heap, K.In h -> ∃ tl N nm qn bs hdct sn sub ab col dd k0 k1 k2 k3 k5 newId, h.get? C = some (excClassObj nm qn C N bs tl hdct sn sub ab col dd k0 k1 k2 k3 k5 newId) /\ OwnTail h bmB tl
noncomputable abbrev Cx.hand (X : Cx) (a : Addr) (oe : Obj) : Cx := { X with A := X.A.mark (some (.ref a)), calm := false, xe := fun _ _ => False, pn := (a, oe) :: X.pn }
section
variable {X : Cx} {pins : List (Addr × Obj)} {σ : St} {H : Hp} {s : Shared} {a T : Addr} {C : Value} {dx : Option Addr} {oe : Obj}
theorem Inv.hand {vs : Array Value} (I : Inv X pins σ H s) (he : s.heap.get? a = some oe) (hd : oe.data = .fields vs) (na : X.s₀.heap.get? a = none) (fa : H a = none) : Inv (X.hand a oe) pins σ H s := by
 have ok := I.ok
 refine ⟨⟨ok.mod, ok.kind, ok.glob, ok.blt, ok.above, ok.inj, ok.has, ok.cab, (fun z => nomatch z), ok.frames, ok.stk, ok.exf, ok.bs, ok.bsz, ok.noex, ok.exfs, ok.wM, ok.frf⟩, I.os, I.bare, I.base, I.loc, I.cell, I.free, I.freeC, fun p hp => ?_, I.hok, I.len⟩
 rcases List.mem_cons.mp (show p ∈ (a, oe) :: (X.pn ++ pins) from hp) with z | z
 ·subst z
  refine ⟨he, fa, fun z => ?_, fun hm => ?_, fun v z => ?_⟩
  ·obtain ⟨m, ⟨o, es, ep, h1, h2, _⟩, _⟩ := I.loc
   have z : a = X.env.locals := z
   rw [<- z, he] at h1
   cases h1
   rw [hd] at h2
   cases h2
  ·obtain ⟨_, o, h1, _⟩ := ok.wM.mem hm
   have h1 : X.s₀.heap.get? a = some o := h1
   rw [na] at h1
   cases h1
  ·have z : oe.data = .cell v := z
   rw [hd] at z
   cases z
 ·exact I.pin p z
theorem Inv.zu (J : Inv (X.hand a oe) pins σ H s) (ok : X.Ok) : Inv X pins σ H s :=
 ⟨ok, J.os, J.bare, J.base, J.loc, J.cell, J.free, J.freeC, fun p hp => J.pin p (List.mem_cons_of_mem _ hp), J.hok, J.len⟩
theorem BZ {M : Model} {A : Around} {E : Value -> Shared -> Prop} {base : Heap} {l : List Env} {Q : Unit -> Shared -> Prop} (hl : s.heap.FunFrames base l) (x : ExA s.heap a C dx (some T))
  (h : ∀ h', ExA h' a C dx (some T) -> Left (frs l) a (some T) s.heap h' -> h'.get? a = s.heap.get? a -> Q () { s with heap := h' }) : wpAny M A (setFlight (.ref a) none) Q E s := by
 obtain ⟨o, vs, he, hc, hdx, hdt, h1⟩ := x.ob
 obtain ⟨nT, oT, ts, hT, hdT, h3⟩ := x.tb T rfl
 have hs3 : 3 < ts.size := (Array.getElem?_eq_some_iff.mp h3).1
 unfold setFlight
 refine wpAny_bind (wpAny_field he hdt (x := .ref T) h1 ?_)
 rw [if_pos (by simp)]
 refine wpAny_setField hT hdT hs3 ?_
 have oth : ∀ b, b ≠ T -> (s.heap.update T (Obj.mapFields (·.setIfInBounds 3 ((none : Option Addr).elim Value.none fun f => rawInt f)))).get? b = s.heap.get? b := fun b hb => Heap.get?_update_other _ _ (Ne.symm hb)
 have dT := Obj.data_mapFields hdT (·.setIfInBounds 3 ((none : Option Addr).elim Value.none fun f => rawInt f))
 refine h _ ⟨⟨o, vs, by rw [oth a (Ne.symm nT)]; exact he, hc, hdx, hdt, h1⟩, fun T' hT' => ?_⟩ ⟨fun b o' q _ _ hb => by rw [oth b (hb T rfl)]; exact q, fun b o' q hb => ?_, ?_⟩ (oth a (Ne.symm nT))
 ·cases hT'
  exact ⟨nT, _, _, Heap.get?_update_self _ hT (Obj.isFreed_of_fields dT), dT, by simp [hs3]⟩
 ·obtain ⟨_, o2, ho2, n⟩ := hl.mem hb
  have hbT : b ≠ T := fun z => by
   subst z
   rw [hT] at ho2
   cases ho2
   exact n ts hdT
  exact ⟨o'.slots, by rw [oth b hbT]; exact q⟩
 ·rw [Heap.size_update]
  exact Nat.le_refl _
end
noncomputable def Ends.less (D : Ends) (i : Nat) : Ends := { nx := fun σ H => D.nx (σ.set i none) H, rt := D.rt, bk := fun σ H => D.bk (σ.set i none) H, ct := fun σ H => D.ct (σ.set i none) H }
section
variable {X : Cx} {pins : List (Addr × Obj)} {σ : St} {H : Hp} {s : Shared} {a T C : Addr} {dx : Option Addr} {c n : Str} {i : Nat} {np pos : Pos} {b₀ : Stmt} {suite : List Stmt} {ts : TS} {D : Ends} {bmB : List Value}
theorem CF (I : Inv X pins σ H s) (x : ExA s.heap a (.ref C) dx (some T)) (ap : Apart X pins H s a (some T)) (hex : X.ex = []) (hC : xH X.K C bmB) (hB : bmB.contains (.type "BaseException") = true)
  (hg : Gl X c) (hm : X.mg c = some (.ref C)) (hN : X.N.Nodup) (hi : X.N[i]? = some n) (hk : X.env.scope.names.lookup n = some .local)
  (hs : ∀ oe : Obj, oe.cls = .ref C -> oe.dict = dx -> (∃ vs, oe.data = .fields vs) -> PSs (X.hand a oe) (b₀ :: suite) ts) (q : ts (D.less i) (σ.set i (some (.ref a))) H) (hdb : (c == ("__debug__" : Str)) = false := by decide) :
  wpAny (model X.prog X.w) X.A (handleBy (.ref a) X.env [.ExceptHandler (some (.Name c np)) (some n) (b₀ :: suite) pos]) (SP X pins D) X.xe s := by
 obtain ⟨oe, vs, he, hcl, hdx, hdt, h1⟩ := x.ob
 have J := I.hand he hdt ap.na ap.fa
 refine wpAny_handleBy_cons (codeAny_handlers_test (iK (X := X.hand a oe) J hg hm ?_ hdb)) (by intro z; cases z)
 obtain ⟨tl, N, nm, qn, bs, hdct, sn, sub, ab, col, dd, k0, k1, k2, k3, k5, newId, o1, o4⟩ := hC _ I.kIn
 have e0 := I.env0
 obtain ⟨hh, gg, d, tk, os⟩ := s
 refine wpAny_excMatches_sub_self o1 he hcl (o4.hasType hB) (codeAny_handlers_suite_as ?_)
 refine BZ (base := X.base) (l := X.stack) e0.wM x fun h' x' lf ea => ?_
 have I2 := I.left hex x ap lf
 have he2 : h'.get? a = some oe := by rw [ea]; exact he
 have J2 := I2.hand he2 hdt ap.na ap.fa
 refine ny (X := X.hand a oe) J2 hN hi (.inl hk) (v := .ref a) rfl (fun s3 J3 => ?_) (.inr hk)
 refine wpAny_mono (hs oe hcl hdx ⟨vs, hdt⟩ pins s3 _ H (D.less i) J3 q) (fun f s4 z => ?_) fun _ _ z => z.elim
 cases f with
 | next =>
  obtain ⟨σ', H', J4, q4⟩ := z
  exact uo (J4.zu I.ok) hN hi hk fun s5 I5 => ⟨_, H', I5, q4⟩
 | brk =>
  obtain ⟨σ', H', J4, q4⟩ := z
  exact uo (J4.zu I.ok) hN hi hk fun s5 I5 => ⟨_, H', I5, q4⟩
 | cont =>
  obtain ⟨σ', H', J4, q4⟩ := z
  exact uo (J4.zu I.ok) hN hi hk fun s5 I5 => ⟨_, H', I5, q4⟩
 | ret u =>
  obtain ⟨v, σ', H', J4, r, q4⟩ := z
  exact uo (J4.zu I.ok) hN hi hk fun s5 I5 => ⟨v, _, H', I5, r, q4⟩
end
end L2
namespace L2
open PySem PySem.Spec PyProof.Rows
noncomputable def EH (i : Nat) (C : Addr) (ts : Addr -> Option Addr -> TS) (D : Ends) (σ : St) : XK := fun Cv dx H' => Cv = .ref C /\ ∀ a, H' a = none -> ts a dx (D.less i) (σ.set i (some (.ref a))) H'
noncomputable def tTry (tb : XK -> TS) (i : Nat) (C : Addr) (ts : Addr -> Option Addr -> TS) : TS := fun D σ H => tb (EH i C ts D σ) D σ H
section
variable {X : Cx} {C : Addr} {c n : Str} {i : Nat} {np hpos pos : Pos} {b₀ : Stmt} {body suite : List Stmt} {ts : Addr -> Option Addr -> TS} {tb : XK -> TS} {bmB : List Value}
theorem ps_try (hb : ∀ (pins : List (Addr × Obj)) (σ : St) (E : XK) (xe : Value -> Shared -> Prop), lX (CXd X.prog X.w) (X.v9 xe) pins σ E -> PSsAt (X.v9 xe) pins σ body (tb E))
  (hs : ∀ (a : Addr) (oe : Obj), oe.cls = .ref C -> (∃ vs, oe.data = .fields vs) -> PSs (X.hand a oe) (b₀ :: suite) (ts a oe.dict))
  (hC : xH X.K C bmB) (hB : bmB.contains (.type "BaseException") = true) (hm : X.mg c = some (.ref C)) (hN : X.N.Nodup) (hi : X.N[i]? = some n := by rfl) (hk : X.env.scope.names.lookup n = some .local := by rfl)
  (hg : Gl X c := by rfl) (hex : X.ex = [] := by rfl) (hstk : X.stack = X.env :: X.outer := by rfl) (hfr : X.env.frame = some X.env.locals := by rfl) (hdb : (c == ("__debug__" : Str)) = false := by decide) :
  PS X (.Try body [.ExceptHandler (some (.Name c np)) (some n) (b₀ :: suite) hpos] [] [] pos) (tTry tb i C ts) := by
 intro pins s σ H D I h
 refine wpAny_Try_except (thn (hb pins σ (EH i C ts D σ) (fun e s₁ => wpAny (model X.prog X.w) X.A (noteFrame e X.env) (fun _ s₂ => wpAny (model X.prog X.w) X.A (setFlight e none) (fun _ s₃ => wpAny (model X.prog X.w) X.A (handleBy e X.env [.ExceptHandler (some (.Name c np)) (some n) (b₀ :: suite) hpos]) (SP X pins D) X.xe s₃) X.xe s₂) X.xe s₁) ?_ s H D (I.v9 _) h) fun f s1 z => ?_)
 ·rintro H1 s1 e s' I1' ⟨a, T, Cv, dx, H', rfl, z⟩
  have I1 := I1'.kC
  obtain ⟨rfl, q⟩ := z.want
  have J : Inv X pins σ H' s' := I1.call' z.os z.un z.hok z.bare (fun _ h => nomatch h)
  have off : ∀ b, s1.heap.get? b = none -> ∀ p ∈ X.pn ++ pins, p.1 ≠ b := fun b e p hp w => by
   have := (I1.pin p hp).1
   rw [w, e] at this
   cases this
  have ap : Apart X pins H' s' a (some T) := ⟨I1.zt hex z.na, z.fa, off a z.na, fun T' hT => by cases hT; exact ⟨I1.zt hex z.nT, z.fT, off T z.nT⟩⟩
  have e0 := J.env0
  have f1 := e0.frames
  have f2 := e0.wM
  rw [hstk] at f1 f2
  refine leave2 (base := X.base) f1 f2 hfr z.ex fun h' T2 x' hT lf => ?_
  rw [<- hstk] at lf
  have I2 := J.left hex z.ex ap lf
  have ap2 : Apart X pins H' { s' with heap := h' } a (some T2) := ⟨ap.na, ap.fa, ap.pa, fun T' hT' => by
   cases hT'
   refine ⟨get_none (Nat.le_trans J.sz hT), J.hok.fresh hT, fun p hp w => ?_⟩
   have := Heap.lt_size (J.pin p hp).1
   rw [w] at this
   exact absurd this (Nat.not_lt.mpr hT)⟩
  exact CF I2 x' ap2 hex hC hB hg hm hN hi hk (fun oe h1 h2 h3 => by rw [<- h2]; exact hs a oe h1 h3) (q a z.fa) hdb
 ·have z := SP.kC z
  cases f with
  | next => exact wpAny_execs_nil z
  | _ => exact z
end
end L2
namespace L2
open PySem PySem.Spec PyProof.Rows
end L2
namespace L2
open PySem PySem.Spec PyProof.Rows
section
open PySem.W
variable {prog : Program} {w : World} {A : Around} {E : Value -> Shared -> Prop} {h : Heap} {g : Array GenState} {d : Drawn} {t : Nat} {os : OsState} {a C : Addr} {oe : Obj} {od : Option Obj} {K : Frag} {bmB : List Value} {B : String}
theorem xcls_by {tk : Tok} {Q : Value -> Shared -> Prop} (FB : ExcAttrBase B bmB) (kX : K.In h) (I : W.InstAt h a oe C od) (e1 : findIn K (.ref C) "__getattribute__" = some (some (.builtin "BaseException.__getattribute__")))
  (e3 : findIn K (.ref C) "__getattr__" = some none)
  (hq : ∀ R : Result -> Shared -> Prop, R (.ok (.ret (.ref C))) ⟨h, g, d, t, os⟩ -> codeAny (model prog w) A (.call (.builtin "BaseException.__getattribute__") ⟨[.ref a, .str "__class__" tk], []⟩) R ⟨h, g, d, t, os⟩) (q : Q (.ref C) ⟨h, g, d, t, os⟩) :
  wpAny (model prog w) A (getAttrBy (.ref a) (.str "__class__" tk) false) Q E ⟨h, g, d, t, os⟩ := by
 have m0 := I.type (M := model prog w)
 have m1 := looks_findIn (M := model prog w) kX e1
 have L2 := looks_findIn (M := model prog w) kX e3
 have b3 := FB.ga.bind (.ref a)
 have nx : (Value.builtin "BaseException.__getattribute__" == Value.builtin "object.__getattribute__") = false := by decide +kernel
 unfold getAttrBy
 repeat (any_goals (first | assumption | with_reducible refine m0.at ?_ | with_reducible refine m1.at ?_ | with_reducible refine L2.at ?_ | wp_step))
 all_goals (refine hq _ ?_)
 repeat (any_goals (first | wp_step | assumption))
theorem sf {M : Model} {nameV : Value} {Q : Unit -> Shared -> Prop} (kX : K.In h) (I : W.InstAt h a oe C od) (hb : mroIn K C (.type "BaseException") = some true) (hq : Q () ⟨h, g, d, t, os⟩) :
  wpAny M A (checkBuiltinCall "BaseException.__getattribute__" ⟨[.ref a, nameV], []⟩) Q E ⟨h, g, d, t, os⟩ := by
 have kd : builtinKind "BaseException.__getattribute__" = some .slot := by decide +kernel
 have hs : splitId "BaseException.__getattribute__" = some ("BaseException", "__getattribute__") := by decide +kernel
 have m0 := I.type (M := M)
 have m1 := looks_mroIn (M := M) kX hb
 have ag := F.args_bexc_ga (.ref a) nameV
 simp only [checkBuiltinCall, hs, kd]
 refine wpAny_bind ?_
 unfold isInstance
 repeat (first | with_reducible refine m0.at ?_ | with_reducible refine m1.at ?_ | wp_step)
 exact hq
theorem Ab {tk : Tok} {Q : Fin -> Shared -> Prop} (kX : K.In h) (I : W.InstAt h a oe C od) (e2 : findIn K (.ref C) "__class__" = some (some (.builtin "object.__class__"))) (hm : mroIn K C (.type "object") = some true) (hq : Q (.done (.ret (.ref C))) ⟨h, g, d, t, os⟩) :
  wpAny (model prog w) A (Builtin.«object.__getattribute__» ⟨[.ref a, .str "__class__" tk], []⟩) Q E ⟨h, g, d, t, os⟩ := by
 have tc : Shared.TypeIs ⟨h, g, d, t, os⟩ (.builtin "object.__class__") "getset_descriptor" := F.typeOf_object_class
 have m0 := I.type (M := model prog w)
 have m1 := looks_findIn (M := model prog w) kX e2
 have p5 := F.typeOf_object_class
 have p6 := F.slot_gs_get.lookup
 have p7 := F.slot_gs_set.lookup
 repeat (any_goals (first | assumption | with_reducible refine m0.at ?_ | with_reducible refine m1.at ?_ | wp_step))
 refine W.class_get (s := ⟨h, g, d, t, os⟩) kX I hm ?_
 repeat (any_goals (first | wp_step | assumption))
theorem AQ {Q : Option Value -> Shared -> Prop} (FB : ExcAttrBase B bmB) (kX : K.In h) (I : W.InstAt h a oe C od) (e1 : findIn K (.ref C) "__getattribute__" = some (some (.builtin "BaseException.__getattribute__"))) (e2 : findIn K (.ref C) "__class__" = some (some (.builtin "object.__class__"))) (e3 : findIn K (.ref C) "__getattr__" = some none)
  (hb : mroIn K C (.type "BaseException") = some true) (hm : mroIn K C (.type "object") = some true) (hq : Q (some (.ref C)) ⟨h, g, d, t + 1, os⟩) : wpAny (model prog w) A (getAttr? (.ref a) "__class__") Q E ⟨h, g, d, t, os⟩ := by
 unfold getAttr? getAttrBy?
 refine wpAny_bind (wpAny_mkText (wpAny_bind (wpAny_attempt (xcls_by FB kX I e1 e3 (fun R hR => codeAny_call_builtin FB.ga.plain F.entry_bexc_ga (sf kX I hb (Ab kX I e2 hm hR))) ?_))))
 exact wpAny_pure hq
structure XIsi (K : Frag) (C : Addr) : Prop where
 ga : findIn K (.ref C) "__getattribute__" = some (some (.builtin "BaseException.__getattribute__"))
 cl : findIn K (.ref C) "__class__" = some (some (.builtin "object.__class__"))
 gt : findIn K (.ref C) "__getattr__" = some none
 bs : mroIn K C (.type "BaseException") = some true
 ob : mroIn K C (.type "object") = some true
 is : ∃ cd, clsIn K C = some cd
theorem pW (FB : ExcAttrBase B bmB) (Z : XIsi K C) : KitX K (.ref a) (.ref C) (fun h => W.InstAt h a oe C od) where
 ty := fun _ _ _ I => I.type
 it := fun _ _ X _ => by
  obtain ⟨cd, hc⟩ := Z.is
  unfold clsIn at hc
  split at hc
  ·next ho =>
   intro A' Q' E' s' k q
   unfold isType loadHead
   refine wpAny_bind (wpAny_loadPart (k C _ (X C _ ho)) ?_)
   exact wpAny_pure q
  ·cases hc
 ne := fun hh tq d1 is n1 s1 X htp => by
  obtain ⟨cd, hc⟩ := Z.is
  refine Bool.eq_false_iff.mpr (fun q => ?_)
  have e : C = tq := Value.ref.inj (beq_iff_eq.mp q)
  subst e
  unfold clsIn at hc
  split at hc
  ·next ho =>
   cases (X C _ ho).symm.trans htp
  ·cases hc
 ca := fun {_ _ _ _ _ s} X I k => by
  obtain ⟨h, g, d, t, os⟩ := s
  exact AQ FB X I Z.ga Z.cl Z.gt Z.bs Z.ob k
end
theorem tx : ∀ {ys : List Addr} {its : List Value}, Vals (ys.map V.ref) its -> its = ys.map Value.ref
 | [], _, .nil => rfl
 | y :: ys, _, .cons r rs => by rw [tx rs, show _ = Value.ref y from r]; rfl
section
variable {X : Cx} {C a : Addr} {oe : Obj} {B : String} {bmB : List Value}
theorem Cz (FB : ExcAttrBase B bmB) (Z : XIsi X.K C) (hc : oe.cls = .ref C) (hd : ∃ vs, oe.data = .fields vs) (hn : oe.dict = none) : eR (X.hand a oe) (.builtin "isinstance") (fun xs H Q => ∃ v b, xs = [.ref a, v] /\
  ((∃ c, RelV v c /\ (∀ u, RelV v u -> u = c) /\ PySem.W.kitOne X.K (.ref C) c = some b) \/ ∃ (tp : Addr) (ys : List Addr), v = .ref tp /\ H tp = some (.tup (ys.map V.ref)) /\ PySem.W.kitAny X.K (.ref C) (ys.map Value.ref) = some b) /\ Q (.bl b) H) := by
 intro pins s σ H xs us Q I r h
 obtain ⟨v, b, rfl, h1, q⟩ := h
 obtain ⟨u, w, rfl, ru, rw'⟩ := r.two
 cases (show u = Value.ref a from ru)
 have pa := (I.pin (a, oe) (List.mem_cons_self ..)).1
 obtain ⟨vs, hdt⟩ := hd
 have J : PySem.W.InstAt s.heap a oe C none := ⟨pa, hc, by unfold PySem.W.notCls; rw [hdt], by rw [hn]; trivial⟩
 rcases h1 with ⟨c, rc, uniq, e⟩ | ⟨tp, ys, rfl, ht, e⟩
 ·cases uniq w rw'
  exact PySem.W.kia_one (pW FB Z) I.kIn J e (fun z => nomatch z) fun tk => ⟨.bl b, H, I.tok tk, rfl, q⟩
 ·cases (show w = Value.ref tp from rw')
  obtain ⟨_, its, rv, ob, z1, z2⟩ := (show eP X.prog X.w H s.heap tp (.tup (ys.map V.ref)) from I.hok tp _ ht)
  obtain ⟨z3, n, z4⟩ := z2
  have ei : its = ys.map Value.ref := tx rv
  subst ei
  obtain ⟨oc, odd, odt, osl⟩ := ob
  have z5 : oc = Value.type "tuple" := z3
  have z6 : odt = .seq (ys.map Value.ref).toArray n := z4
  subst z5 z6
  exact PySem.W.kia_tup (pW FB Z) I.kIn J z1 e (fun z => nomatch z) fun tk => ⟨.bl b, H, I.tok tk, rfl, q⟩
end
end L2
namespace L2
open PySem PySem.Spec PyProof.Rows
noncomputable def tIsiX (i : Nat) (a : Addr) (b : Bool) : TE := fun σ H Q => σ[i]? = some (some (.ref a)) /\ Q (.bl b) H
noncomputable def tIsiT (i : Nat) (a : Addr) (ys : List Addr) (b : Bool) : TE := fun σ H Q => σ[i]? = some (some (.ref a)) /\ ∀ p, H p = none -> Q (.bl b) (upd H p (.tup (ys.map V.ref)))
section
variable {X : Cx} {C a D : Addr} {oe : Obj} {B : String} {bmB : List Value} {i : Nat} {n x y T : Str} {p p1 p2 pos : Pos} {b : Bool}
theorem pe_isiO (FB : ExcAttrBase B bmB) (Z : XIsi X.K C) (hc : oe.cls = .ref C) (hd : ∃ vs, oe.data = .fields vs) (hn : oe.dict = none) (hm : X.mg "isinstance" = none) (hD : X.mg y = some (.ref D)) (hb : PySem.W.kitOne X.K (.ref C) (.ref D) = some b)
  (hN : X.N[i]? = some n := by rfl) (hv : Vis X.env.scope n := by first | exact Or.inl rfl | exact Or.inr (Or.inl rfl) | exact Or.inr (Or.inr rfl)) (hd1 : (n == ("__debug__" : Str)) = false := by decide) (hd2 : (n == ("__classdict__" : Str)) = false := by decide)
  (hg : Gl (X.hand a oe) "isinstance" := by rfl) (hgD : Gl (X.hand a oe) y := by rfl) (hd3 : (y == ("__debug__" : Str)) = false := by decide)
  (hst : starEach [.Name n p1, .Name y p2] X.env = [(false, eval (.Name n p1) X.env), (false, eval (.Name y p2) X.env)] := by rfl) (hst2 : starEach [.Name y p2] X.env = [(false, eval (.Name y p2) X.env)] := by rfl) (hpl : (backTo pos (starEach [.Name y p2] X.env)).any (·.1) = false := by rfl) :
  PE (X.hand a oe) (.Call (.Name "isinstance" p) [.Name n p1, .Name y p2] [] pos) (tIsiX i a b) := by
 have vD : PE (X.hand a oe) (.Name y p2) (tC (.ref D)) := fun pins s σ H Q I h => iK I hgD hD ⟨.ref D, H, I, rfl, h⟩ hd3
 refine PE.imp (g4 (X := X.hand a oe) (Cz FB Z hc hd hn) hg hm boot_isinstance (aW (pv i hN hv hd1 hd2) (aW vD eU hst2) (by rw [hst, hst2])) (by decide) (by decide) (by rw [hst, hst2]) hpl) fun σ H Q h => ?_
 obtain ⟨e1, q⟩ := h
 exact ⟨.ref a, e1, .ref D, b, rfl, .inl ⟨.ref D, rfl, fun u hu => hu, hb⟩, q⟩
end
noncomputable def B0 (ys : List Addr) : TA := fun _ H Q => Q (ys.map V.ref) H
section
variable {X : Cx} {C a D : Addr} {oe : Obj} {B : String} {bmB : List Value} {i : Nat} {n x y : Str} {T : String} {p p1 p2 pos : Pos} {b : Bool} {ys : List Addr} {es : List Expr}
theorem pa_refs0 : PA X [] (B0 []) := eU
theorem mn (hr : PA X es (B0 ys)) (hD : X.mg y = some (.ref D)) (hg : Gl X y := by rfl) (hd : (y == ("__debug__" : Str)) = false := by decide) (hs : starEach (.Name y p :: es) X.env = (false, eval (.Name y p) X.env) :: starEach es X.env := by rfl) : PA X (.Name y p :: es) (B0 (D :: ys)) :=
 fun ps pins s σ H Q I h => aW (Bs (v := .ref D) hg hD rfl hd) hr hs ps pins s σ H Q I h
theorem pe_isiB (FB : ExcAttrBase B bmB) (Z : XIsi X.K C) (hc : oe.cls = .ref C) (hd : ∃ vs, oe.data = .fields vs) (hn : oe.dict = none) (hm : X.mg "isinstance" = none) (hmT : X.mg y = none) (hvT : bootBuiltins y = some (.type T)) (hb : PySem.W.kitOne X.K (.ref C) (.type T) = some b)
  (hN : X.N[i]? = some n := by rfl) (hv : Vis X.env.scope n := by first | exact Or.inl rfl | exact Or.inr (Or.inl rfl) | exact Or.inr (Or.inr rfl)) (hd1 : (n == ("__debug__" : Str)) = false := by decide) (hd2 : (n == ("__classdict__" : Str)) = false := by decide)
  (hg : Gl (X.hand a oe) "isinstance" := by rfl) (hgT : Gl (X.hand a oe) y := by rfl) (hy : y ≠ "__name__" := by decide) (hd3 : (y == ("__debug__" : Str)) = false := by decide)
  (hst : starEach [.Name n p1, .Name y p2] X.env = [(false, eval (.Name n p1) X.env), (false, eval (.Name y p2) X.env)] := by rfl) (hst2 : starEach [.Name y p2] X.env = [(false, eval (.Name y p2) X.env)] := by rfl) (hpl : (backTo pos (starEach [.Name y p2] X.env)).any (·.1) = false := by rfl) :
  PE (X.hand a oe) (.Call (.Name "isinstance" p) [.Name n p1, .Name y p2] [] pos) (tIsiX i a b) := by
 refine PE.imp (g4 (X := X.hand a oe) (Cz FB Z hc hd hn) hg hm boot_isinstance (aW (pv i hN hv hd1 hd2) (aW (Bp (X := X.hand a oe) (pos := p2) hgT hmT hvT hy hd3) eU hst2) (by rw [hst, hst2])) (by decide) (by decide) (by rw [hst, hst2]) hpl) fun σ H Q h => ?_
 obtain ⟨e1, q⟩ := h
 exact ⟨.ref a, e1, .ty T, b, rfl, .inl ⟨.type T, rfl, fun u hu => hu, hb⟩, q⟩
theorem pe_isiT {j} (FB : ExcAttrBase B bmB) (Z : XIsi X.K C) (hc : oe.cls = .ref C) (hd : ∃ vs, oe.data = .fields vs) (hn : oe.dict = none) (hm : X.mg "isinstance" = none) (hT : PA (X.hand a oe) es (B0 ys)) (hl : ys.length <= sizeLine) (hb : PySem.W.kitAny X.K (.ref C) (ys.map Value.ref) = some b)
  (hN : X.N[i]? = some n := by rfl) (hv : Vis X.env.scope n := by first | exact Or.inl rfl | exact Or.inr (Or.inl rfl) | exact Or.inr (Or.inr rfl)) (hd1 : (n == ("__debug__" : Str)) = false := by decide) (hd2 : (n == ("__classdict__" : Str)) = false := by decide)
  (hg : Gl (X.hand a oe) "isinstance" := by rfl)
  (hst : starEach [.Name n p1, .Tuple es j p2] X.env = [(false, eval (.Name n p1) X.env), (false, eval (.Tuple es j p2) X.env)] := by rfl) (hst2 : starEach [.Tuple es j p2] X.env = [(false, eval (.Tuple es j p2) X.env)] := by rfl) (hpl : (backTo pos (starEach [.Tuple es j p2] X.env)).any (·.1) = false := by rfl) :
  PE (X.hand a oe) (.Call (.Name "isinstance" p) [.Name n p1, .Tuple es j p2] [] pos) (tIsiT i a ys b) := by
 refine PE.imp (g4 (X := X.hand a oe) (Cz FB Z hc hd hn) hg hm boot_isinstance (aW (pv i hN hv hd1 hd2) (aW (Bq hT) eU hst2) (by rw [hst, hst2])) (by decide) (by decide) (by rw [hst, hst2]) hpl) fun σ H Q h => ?_
 obtain ⟨e1, q⟩ := h
 exact ⟨.ref a, e1, by rw [List.length_map]; exact hl, fun tp htp => ⟨.ref tp, b, rfl, .inr ⟨tp, ys, rfl, ar, hb⟩, q tp htp⟩⟩
end
end L2
namespace L2
open PySem PySem.Spec PyProof.Rows
noncomputable def DEat (K : PySem.W.Frag) (E : XK) (own : Bool) (X : Cx) (pins : List (Addr × Obj)) (σ : St) (e : Expr) (f : ak -> M Dat) : Prop := PEat X pins σ e (tD K (WE K E) own f)
noncomputable def DSat (K : PySem.W.Frag) (E : XK) (ro : Bool) (X : Cx) (OL O O' : List Nat) (pins : List (Addr × Obj)) (σ : St) (st : List Stmt) (g : ak -> M Flo) : Prop := ∀ F0 H0, PSsAt X pins σ st (tS K (WE K E) ro F0 H0 OL O O' g)
theorem PEat.imp {X : Cx} {pins : List (Addr × Obj)} {σ : St} {e : Expr} {t u : TE} (h : PEat X pins σ e t) (k : ∀ H Q, u σ H Q -> t σ H Q) : PEat X pins σ e u := fun s H Q I q => h s H Q I (k H Q q)
theorem PSat.imp {X : Cx} {pins : List (Addr × Obj)} {σ : St} {st : Stmt} {t u : TS} (h : PSat X pins σ st t) (k : ∀ D H, u D σ H -> t D σ H) : PSat X pins σ st u := fun s H D I q => h s H D I (k D H q)
section
variable {X : Cx} {pins : List (Addr × Obj)} {σ : St} {K : PySem.W.Frag} {ro : Bool} {x : Str} {e : Expr} {es : List Expr} {fr : ak -> M (List Dat)} {p pos : Pos} {E : XK} {CX : CXT}
theorem dea_call {k nN n : Nat} {fad : Addr} {fd : FuncData} {ps : List Str} {g : ak -> M Flo} (F : bJ X.prog X.w X.K X.mg X.base CX k fad fd ps (spX K ro (dS nN n g) n)) (hx : lX CX X pins σ E) (hr : ka k X.A) (hm : X.mg x = some (.ref fad)) (hk : PySem.W.keepIn X.K (.ref fad) = true) (hb : Binds X.K fd ps [])
  (ha : DA K (WE K E) X (e :: es) fr) (hg : Gl X x := by rfl) (hdb : (x == ("__debug__" : Str)) = false := by decide) (hst : starEach (e :: es) X.env = (false, eval e X.env) :: starEach es X.env := by rfl) (hpl : (backTo pos (starEach es X.env)).any (·.1) = false := by rfl) :
  DEat K E ro X pins σ (.Call (.Name x p) (e :: es) [] pos) (fL (dS nN n g) fr) := by
 refine PEat.imp (at_call F hx hr hm hk hb .nil ha hg hdb hst hpl) fun H Q h => ?_
 obtain ⟨F, ρ, r, s, p⟩ := rd_L h
 refine ⟨F, ρ, r, s, ?_⟩
 cases e1 : fr ρ with
 | error z => rw [e1] at p; exact p
 | ok ds =>
  rw [e1] at p
  intro vs F' H' st q
  obtain ⟨F1, es1, s1, q1, z⟩ := p vs F' H' st q
  show spX K ro (dS nN n g) n (vs ++ []) H' Q E
  rw [List.append_nil]
  by_cases hl : es1.length = n
  ·exact ⟨F1, es1, s1, q1, hl, z⟩
  ·rw [tw hl] at z
   exact aP.stuck z
end
section
variable {X : Cx} {pins : List (Addr × Obj)} {σ : St} {K : PySem.W.Frag} {ro own : Bool} {OL O : List Nat} {E : XK} {e : Expr} {f : ak -> M Dat} {pos : Pos}
theorem dsa_set {i : Nat} {x : Str} {pos' : Pos} (hN : X.N.Nodup) (h : DEat K E own X pins σ e f) (hi : X.N[i]? = some x := by rfl) (hx : Loc X.env.scope x := by first | exact Or.inl rfl | exact Or.inr rfl) (hs : swapsWith e (some (.Name x pos')) pos.line X.env = pure false := by rfl) (hf : X.fn x = true \/ X.env.scope.names.lookup x = some .local := by first | exact .inl rfl | exact .inr rfl | assumption) :
  DSat K E ro X OL O (aft own i O) pins σ [.Assign [.Name x pos'] e pos] (aX O i f) := fun F0 H0 => at_one (PSat.imp (at_set hN hi hx h hs hf) fun D H z => Bd z)
end
end L2
namespace L2
open PySem PySem.Spec PyProof.Rows
end L2
namespace L2
open PySem PySem.Spec PyProof.Rows
theorem Rep.back {K : PySem.W.Frag} {F0 H0 F1 H1 FB F H : Hp} {O : List Nat} {σ : St} {ρ : ak} (r : Rep K F1 H1 FB O F H σ ρ) (s : Step F0 H0 F1 H1) : Rep K F0 H0 FB O F H σ ρ :=
 ⟨s.trans r.st, r.fb, r.len, r.fz, fun i d e h => let ⟨v, z, q⟩ := r.ow i d e h; ⟨v, z, q.back s.hh⟩, r.ap⟩
end L2
namespace L2
open PySem PySem.Spec PyProof.Rows
noncomputable abbrev xArgs (vs : List Value) : Obj := { cls := .type "tuple", data := .seq vs.toArray }
noncomputable abbrev AR (C t : Addr) : Obj := { cls := .ref C, data := .fields #[.ref t, .none, .none, .none, .bool false, .none] }
noncomputable abbrev sW (h : Heap) (C : Addr) (vs : List Value) : Heap := (h.push (xArgs vs)).push (AR C h.objs.size)
section
variable {prog : Program} {w : World} {A : Around} {E : Value -> Shared -> Prop} {h : Heap} {g : Array GenState} {d : Drawn} {t : Nat} {os : OsState}
variable {nm q : Str} {C N fI : Addr} {bs tl bmB us : List Value} {hdct ab : Bool} {sn : List Str} {sub : List Value} {col : Option Bool} {dd : Option Addr} {k0 k1 k2 k3 k5 : Option Value} {B newId initId : String} {mN : Str -> Option Value} {oI : Obj}
theorem pZ {b : Addr} {o : Obj} (e : h.get? b = some o) : (sW h C us).get? b = some o := Heap.get?_push_of_some _ (Heap.get?_push_of_some _ e)
theorem vf : (sW h C us).get? (h.objs.size + 1) = some (AR C h.objs.size) := by
 have z := Heap.get?_push_size (h.push (xArgs us)) (o := AR C h.objs.size) rfl
 rwa [Heap.size_push] at z
theorem x_type (F : ExcBaseFacts B newId initId bmB) (T : OwnTail h bmB tl) (hC : h.get? C = some (excClassObj nm q C N bs tl hdct sn sub ab col dd k0 k1 k2 k3 k5 newId)) (on : h.Ns N mN) (hi : mN "__init__" = some (.ref fI))
  (ho : h.get? fI = some oI) (hcl : oI.cls = .type "function") (hl : us.length <= sizeLine) {Q : Fin -> Shared -> Prop}
  (z : wpAny (model prog w) A (call (.ref fI) (.ref (h.objs.size + 1) :: us)) (fun r s' => r = .none /\ Q (.done (.ret (.ref (h.objs.size + 1)))) s') E ⟨sW h C us, g, d, t, os⟩) :
  wpAny (model prog w) A (Builtin.«type.__call__» ⟨.ref C :: us, []⟩) Q E ⟨h, g, d, t, os⟩ := by
 have k : ∀ b o, h.get? b = some o -> (sW h C us).get? b = some o := fun b o e => pZ e
 have oC := k _ _ hC
 have me : (Value.ref C :: tl).contains (.ref C) = true := by simp
 have nw : (sW h C us).get? (h.objs.size + 1) = some (AR C h.objs.size) := vf
 repeat (first | with_reducible refine wpAny_madeBy_exc hC ?_ | with_reducible refine wpAny_loadPart_at hC ?_ | wp_step)
 refine codeAny_call_builtin_code (Code.quiet_builtin _ F.quiet) (wpAny_check_new_subT F T hC (codeAny_exc_new_subT F T hC ?_ hl))
 show wpAny _ _ _ _ _ (⟨sW h C us, g, d, t, os⟩ : Shared)
 unfold isInstance
 repeat (first | (with_reducible refine wpAny_isSubtype_exc oC ?_; rw [me]) | with_reducible refine wpAny_loadPart_at nw ?_ | wp_step)
 refine wpAny_typeLookup_tail oC (on.keeps k) (T.keeps k) F.mroIs F.init.lookup ?_
 rw [hi]
 unfold bindSpecial
 refine wpAny_holding (wpAny_bind (wpAny_bind (wpAny_typeOf (T := "function") ⟨_, k _ _ ho, hcl⟩ ?_)))
 rw [if_pos (by decide)]
 refine wpAny_pure (wpAny_bind (thn z fun r s' y => ?_))
 obtain ⟨e, y⟩ := y
 subst e
 wp_walk
 exact y
theorem x_call (F : ExcBaseFacts B newId initId bmB) (T : OwnTail h bmB tl) (hC : h.get? C = some (excClassObj nm q C N bs tl hdct sn sub ab col dd k0 k1 k2 k3 k5 newId)) (on : h.Ns N mN) (hi : mN "__init__" = some (.ref fI))
  (ho : h.get? fI = some oI) (hcl : oI.cls = .type "function") (hl : us.length <= sizeLine) {Q : Value -> Shared -> Prop}
  (z : wpAny (model prog w) (A.under (.builtin "type.__call__" ⟨.ref C :: us, []⟩)) (call (.ref fI) (.ref (h.objs.size + 1) :: us)) (fun r s' => r = .none /\ Q (.ref (h.objs.size + 1)) s') E ⟨sW h C us, g, d, t, os⟩) :
  wpAny (model prog w) A (call (.ref C) us) Q E ⟨h, g, d, t, os⟩ := by
 have l1 := tc_lookup
 have l2 := tc_bind (.ref C)
 have ty : (⟨h, g, d, t, os⟩ : Shared).TypeIs (.ref C) "type" := ⟨_, hC, rfl⟩
 refine wpAny_call (codeAny_of_tree ?_)
 show wpAny _ _ (callAny (.ref C) _) _ _ _
 repeat (any_goals (first | assumption | with_reducible refine wpAny_loadPart_at hC ?_ | wp_step))
 exact ⟨rfl, codeAny_call_builtin_at (Code.quiet_builtin _ (by decide +kernel)) entry_typeCall (wpAny_check_type_call_sub hC (x_type F T hC on hi ho hcl hl z))⟩
end
theorem ns_some {K : PySem.W.Frag} {h : Heap} {N : Addr} {m : Str -> Option Value} {n : Str} {v : Value} (X : K.In h) (G : h.Ns N m) (e : PySem.W.nsIn K N n = some (some v)) : m n = some v := by
 obtain ⟨o, es, ep, g1, g2, _, g3⟩ := G
 unfold PySem.W.nsIn at e
 cases q : K.lookup N with
 | none => rw [q] at e; cases e
 | some ob =>
  have z := X _ _ q
  rw [g1] at z
  cases z
  obtain ⟨c, d, dt, sl⟩ := o
  cases (show dt = .dict es ep from g2)
  rw [q] at e
  dsimp only at e
  cases f : es.toList.find? (·.key.isStr n) with
  | none => rw [f] at e; dsimp only at e; split at e <;> cases e
  | some en =>
   rw [f] at e
   cases e
   rw [<- g3]
   unfold nsFind findBy
   rw [<- Array.find?_toList, f]
   rfl
noncomputable def nJ (K : PySem.W.Frag) (C : Addr) (bmB : List Value) (newId : String) (f : Addr) : Bool := match K.lookup C with
 | some ⟨.type "type", _, .cls cd, sl⟩ => (match cd.mro, sl.toList with
  | .ref C' :: tl, [_, _, _, _, some (.builtin n), _] => (n == newId && C' == C && !cd.hasDel) && (PySem.W.nsOkIn K cd.ns && PySem.W.tailIn K bmB tl) && (PySem.W.nsIn K cd.ns "__init__" == some (some (.ref f)))
  | _, _ => false)
 | _ => false
theorem uw {K : PySem.W.Frag} {h : Heap} {C f : Addr} {bmB : List Value} {newId : String} (X : K.In h) (q : nJ K C bmB newId f = true) :
  ∃ tl N nm qn bs hdct sn sub ab col dd k0 k1 k2 k3 k5 mN, h.get? C = some (excClassObj nm qn C N bs tl hdct sn sub ab col dd k0 k1 k2 k3 k5 newId) /\ h.Ns N mN /\ mN "__init__" = some (.ref f) /\ OwnTail h bmB tl := by
 unfold nJ at q
 split at q
 next dd cd sl ho =>
  split at q
  next C' tl k0 k1 k2 k3 n k5 hm hs =>
   obtain ⟨c1, c2, mro, c4, c5, c6, c7, c8, c9, c10, del⟩ := cd
   obtain ⟨l⟩ := sl
   simp only [Bool.and_eq_true] at q
   obtain ⟨⟨⟨⟨a2, a1⟩, a3⟩, a5, a4⟩, a6⟩ := q
   have b1 : C' = C := beq_iff_eq.mp a1
   have b2 : n = newId := beq_iff_eq.mp a2
   have b3 : del = false := by cases del <;> first | rfl | cases a3
   have b4 : mro = Value.ref C' :: tl := hm
   have b5 : l = [k0, k1, k2, k3, some (.builtin n), k5] := hs
   subst b1 b2 b3 b4 b5
   exact ⟨tl, c4, c1, c5, c2, c6, c7, c8, c9, c10, dd, k0, k1, k2, k3, k5, _, X _ _ ho, .of_isNs (PySem.W.isNs_of_in X a5), ns_some X (.of_isNs (PySem.W.isNs_of_in X a5)) (beq_iff_eq.mp a6), PySem.W.tail_of_in X a4⟩
  next => cases q
 next => cases q
theorem xnamed2 {K : PySem.W.Frag} {C f : Addr} {bmB : List Value} {newId : String} (q : nJ K C bmB newId f = true) : xH K C bmB := fun _ X => by
 obtain ⟨tl, N, nm, qn, bs, hdct, sn, sub, ab, col, dd, k0, k1, k2, k3, k5, mN, o1, o2, o3, o4⟩ := uw X q
 exact ⟨tl, N, nm, qn, bs, hdct, sn, sub, ab, col, dd, k0, k1, k2, k3, k5, newId, o1, o4⟩
end L2
namespace L2
open PySem PySem.Spec PyProof.Rows
noncomputable def q0 : List Value -> Bool
 | .ref _ :: r => q0 r
 | [.type a, .type b, .type c, .type d] => a == "ValueError" && b == "Exception" && c == "BaseException" && d == "object"
 | _ => false
theorem AS (me : Value) : ∀ {l : List Value}, q0 l = true -> refuseLoop me "__setattr__" l = pure ()
 | .ref _ :: _, e => by rw [refuseLoop_ref]; exact AS me e
 | [.type a, .type b, .type c, .type d], e => by
  simp only [q0, Bool.and_eq_true, beq_iff_eq] at e
  obtain ⟨⟨⟨rfl, rfl⟩, rfl⟩, rfl⟩ := e
  exact PySem.F.store_ValueError.passes me
theorem ve_obj : ∀ {l : List Value}, q0 l = true -> l.contains (.type "object") = true
 | .ref _ :: r, e => by rw [List.contains_cons, ve_obj (l := r) e, Bool.or_true]
 | [.type a, .type b, .type c, .type d], e => by
  simp only [q0, Bool.and_eq_true, beq_iff_eq] at e
  obtain ⟨⟨⟨rfl, rfl⟩, rfl⟩, rfl⟩ := e
  decide +kernel
structure xI (K : PySem.W.Frag) (C : Addr) (f : Str) : Prop where
 sa : PySem.W.findIn K (.ref C) "__setattr__" = some (some (.builtin "object.__setattr__"))
 no : PySem.W.findIn K (.ref C) f = some none
 cd : ((PySem.W.clsIn K C).any fun cd => q0 cd.mro && cd.hasDict) = true
section
open PySem.W
variable {prog : Program} {w : World} {A : Around} {E : Value -> Shared -> Prop} {s : Shared} {a C : Addr} {oe : Obj} {od : Option Obj} {K : Frag} {f : Str} {v : Value}
theorem x_open {tk : Tok} {R : Result -> Shared -> Prop} (X : K.In s.heap) (I : W.InstAt s.heap a oe C od) (Z : xI K C f)
  (z : ∀ b, wpAny (model prog w) A.in1 (Builtin.ObjectAttr.storeInOwnDict (.ref a) (.ref C) (.str f tk) f v b)
   (fun fin s' => match fin with | .done y => R (.ok y) s' | .again c' => c'.quiet = true /\ codeAny (model prog w) A c' R s') (fun e s' => R (.error e) s') s) :
  codeAny (model prog w) A (.call (.builtin "object.__setattr__") ⟨[.ref a, .str f tk, v], []⟩) R s := by
 have SF := PySem.F.store_object
 obtain ⟨cd, hc, ho⟩ := any_some Z.cd
 rw [Bool.and_eq_true] at ho
 have ne : cd.mro.isEmpty = false := by cases q : cd.mro with | nil => rw [q] at ho; cases ho.1 | cons _ _ => rfl
 have up : Looks (model prog w) s.heap (isInstance (.ref a) (.type "object")) true := I.type.andThen (looks_mroIn X (by unfold mroIn; rw [hc, Option.bind_some, if_neg (by rw [ne]; decide), ve_obj ho.1]))
 refine codeAny_call_builtin SF.slot.plain SF.entry (@check_slot (model prog w) _ _ s "object.__setattr__" "object" "__setattr__" (.ref a) [.str f tk, v] [] _ SF.kind SF.split up (SF.args (.ref a) (.str f tk) v) ?_)
 rw [osa_eq, refuse_eq]
 have hm : Looks (model prog w) s.heap (mroOf (.ref C)) cd.mro := (looks_clsIn X hc).andThen .now
 refine wpAny_bind (wpAny_bind (I.type.here (wpAny_bind (hm.here ?_))))
 rw [AS _ ho.1]
 exact wpAny_pure (wpAny_bind (I.type.here (wpAny_bind ((looks_findIn X Z.no).here (wpAny_bind (wpAny_pure (z _)))))))
theorem x_set1 {vs : Array Value} {Q : Unit -> Shared -> Prop} (X : K.In s.heap) (Z : xI K C f) (he : s.heap.get? a = some ⟨.ref C, none, .fields vs, #[]⟩)
  (z : ∀ h', h'.get? a = some ⟨.ref C, some s.heap.objs.size, .fields vs, #[]⟩ -> h'.Ns1 s.heap.objs.size (fun y => if y = f then some v else none) -> (∀ b o, b ≠ a -> s.heap.get? b = some o -> h'.get? b = some o) -> Q () { s with heap := h', toks := s.toks + 2 }) :
  wpAny (model prog w) A (setAttr (.ref a) f v) Q E s := by
 have I : W.InstAt s.heap a ⟨.ref C, none, .fields vs, #[]⟩ C none := ⟨he, rfl, rfl, trivial⟩
 refine set_plain X I Z.sa (x_open (s := { s with toks := s.toks + 1 }) X I Z fun b => ?_)
 obtain ⟨cd, hc, ho⟩ := any_some Z.cd
 rw [Bool.and_eq_true] at ho
 refine wpAny_bind (wpAny_pure (wpAny_bind (wpAny_bind (wpAny_loadPart he (wpAny_bind (Looks.here (s := { s with toks := s.toks + 1 }) (looks_clsIn X hc) ?_))))))
 rw [ho.2]
 have ne : a ≠ s.heap.objs.size := Nat.ne_of_lt (Heap.lt_size he)
 have h1 : (s.heap.push emptyDict).get? a = some ⟨.ref C, none, .fields vs, #[]⟩ := Heap.get?_push_of_some _ he
 refine wpAny_bind (wpAny_alloc' (wpAny_bind (wpAny_update' h1 (wpAny_pure ?_))))
 have h2 : ((s.heap.push emptyDict).update a fun o => { o with dict := some s.heap.objs.size }).get? s.heap.objs.size = some emptyDict := by
  rw [Heap.get?_update_other _ _ ne]; exact Heap.get?_push_size s.heap rfl
 have h3 : ((s.heap.push emptyDict).update a fun o => { o with dict := some s.heap.objs.size }).get? a = some ⟨.ref C, some s.heap.objs.size, .fields vs, #[]⟩ := Heap.get?_update_self _ h1 rfl
 refine wpAny_bind (wpAny_pure (wpAny_bind (wpAny_nsSet1 (m := fun _ => none) (Heap.Ns1.of_empty ⟨emptyDict, #[], _, h2, rfl, (fun e he => absurd he (by simp)), fun _ => rfl⟩) fun h' n1 sb => ?_)))
 obtain ⟨oD, esD, epD, c1, c2, c3⟩ := n1.count (Within.cons f v Within.nil)
 refine wpAny_bind (wpAny_lookBehind c1 (by rw [c2]; exact pastItsLine_dict (Nat.le_trans c3 (by rw [List.length_cons, List.length_nil, sizeLine_eq]; omega))) (wpAny_pure ?_))
 exact z h' ((sb.2 a ne).trans h3) n1 fun b o hb q => (sb.2 b (Nat.ne_of_lt (Heap.lt_size q))).trans (by rw [Heap.get?_update_other _ _ (Ne.symm hb)]; exact Heap.get?_push_of_some _ q)
theorem x_set2 {vs : Array Value} {dx : Addr} {mA : Str -> Option Value} {ns : List Str} {Q : Unit -> Shared -> Prop} (X : K.In s.heap) (Z : xI K C f) (he : s.heap.get? a = some ⟨.ref C, some dx, .fields vs, #[]⟩) (hd : s.heap.Ns1 dx mA) (hw : Within mA ns) (hl : ns.length <= 1000)
  (z : ∀ h', h'.Ns1 dx (fun y => if y = f then some v else mA y) -> Heap.SameBut dx s.heap h' -> Q () { s with heap := h', toks := s.toks + 2 }) :
  wpAny (model prog w) A (setAttr (.ref a) f v) Q E s := by
 obtain ⟨ob, es, ep, d1, d2⟩ := id hd
 have I : W.InstAt s.heap a ⟨.ref C, some dx, .fields vs, #[]⟩ C (some ob) := ⟨he, rfl, rfl, d1⟩
 refine set_plain X I Z.sa (x_open (s := { s with toks := s.toks + 1 }) X I Z fun b => ?_)
 obtain ⟨cd, hc, ho⟩ := any_some Z.cd
 rw [Bool.and_eq_true] at ho
 refine wpAny_bind (wpAny_pure (wpAny_bind (wpAny_bind (wpAny_loadPart he (wpAny_bind (Looks.here (s := { s with toks := s.toks + 1 }) (looks_clsIn X hc) ?_))))))
 rw [ho.2]
 refine wpAny_pure (a := some dx) (wpAny_bind (wpAny_pure (wpAny_bind (wpAny_nsSet1 (s := { s with toks := s.toks + 1 }) hd fun h' n1 sb => ?_))))
 obtain ⟨oD, esD, epD, c1, c2, c3⟩ := n1.count (Within.cons f v hw)
 refine wpAny_bind (wpAny_lookBehind c1 (by rw [c2]; exact pastItsLine_dict (Nat.le_trans c3 (by rw [List.length_cons, sizeLine_eq]; omega))) (wpAny_pure ?_))
 exact z h' n1 sb
end
end L2
namespace L2
open PySem PySem.Spec PyProof.Rows
section
open PySem.W
variable {prog : Program} {w : World} {A : Around} {E : Value -> Shared -> Prop} {s : Shared} {a C : Addr} {oe od : Obj} {K : Frag} {f : Str} {v : Value} {B : String} {bmB : List Value}
theorem xI.hd (Z : xI K C f) : hasDictIn K C = true := by
 obtain ⟨cd, hc, ho⟩ := any_some Z.cd
 rw [Bool.and_eq_true] at ho
 unfold hasDictIn
 rw [hc]
 exact ho.2
theorem x_ga {tk : Tok} {Q : Fin -> Shared -> Prop} (X : K.In s.heap) (I : W.InstAt s.heap a oe C (some od)) (Y : xI K C f) (hl : lookIn f od = some (some v)) (q : Q (.done (.ret v)) s) :
  wpAny (model prog w) A (Builtin.«object.__getattribute__» ⟨[.ref a, .str f tk], []⟩) Q E s := by
 have m0 := I.type (M := model prog w)
 have m1 := looks_find (M := model prog w) X I (findObj_own Y.hd Y.no rfl hl)
 unfold Builtin.«object.__getattribute__»
 exact wpAny_bind (wpAny_pure (wpAny_bind (wpAny_pure (wpAny_bind (m0.here (wpAny_bind (m1.here (wpAny_pure q))))))))
theorem x_get {ex : Bool} {Q : Value -> Shared -> Prop} (FB : ExcAttrBase B bmB) (X : K.In s.heap) (I : W.InstAt s.heap a oe C (some od)) (Z : XIsi K C) (Y : xI K C f) (hl : lookIn f od = some (some v)) (hh : handedIn v = true) (q : Q v { s with toks := s.toks + 1 }) :
  wpAny (model prog w) A (getAttr (.ref a) f ex) Q E s := by
 obtain ⟨h, g, d, t, os⟩ := s
 have m0 := I.type (M := model prog w)
 have m1 := looks_findIn (M := model prog w) X Z.ga
 have m2 := looks_findIn (M := model prog w) X Z.gt
 have b3 := FB.ga.bind (.ref a)
 have nx : (Value.builtin "BaseException.__getattribute__" == Value.builtin "object.__getattribute__") = false := by decide +kernel
 have run : ∀ {A' : Around} (R : Result -> Shared -> Prop), R (.ok (.ret v)) ⟨h, g, d, t + 1, os⟩ -> codeAny (model prog w) A' (.call (.builtin "BaseException.__getattribute__") ⟨[.ref a, .str f t], []⟩) R ⟨h, g, d, t + 1, os⟩ := fun {A'} R hR =>
  codeAny_call_builtin FB.ga.plain F.entry_bexc_ga (sf X I Z.bs (x_ga (s := ⟨h, g, d, t + 1, os⟩) X I Y hl hR))
 have ho := handedOut_of hh
 unfold getAttr getAttrBy
 refine wpAny_bind (wpAny_mkText ?_)
 repeat (any_goals (first | assumption | with_reducible refine m0.at ?_ | with_reducible refine m1.at ?_ | with_reducible refine m2.at ?_ | wp_step))
 rw [show (ex && onTheHeap (Value.builtin "BaseException.__getattribute__")) = false by rw [show onTheHeap (Value.builtin "BaseException.__getattribute__") = false from rfl, Bool.and_false], if_neg Bool.false_ne_true]
 repeat (any_goals (first | assumption | wp_step))
 all_goals (refine run _ ?_)
 repeat (any_goals (first | wp_step | assumption))
 all_goals (first | (rw [ho]; exact wpAny_pure q) | exact q)
end
noncomputable def XO (a C : Addr) (dx : Option Addr) : HO := .ext fun h => ∃ vs : Array Value, vs[1]? = some .none /\ h.get? a = some ⟨.ref C, dx, .fields vs, #[]⟩
noncomputable def XD (d : Addr) (fs : List (Str × V)) : HO := .ext fun h => ∃ mA, h.Ns1 d mA /\ (∀ f, v7 (fs.lookup f) (mA f)) /\ PySem.Within mA (fs.map (·.1))
section
variable {P : Program} {w : World} {H : Hp} {h : Heap} {a C d : Addr} {dx : Option Addr} {fs : List (Str × V)}
theorem xo_ok {vs : Array Value} (h1 : vs[1]? = some .none) (e : h.get? a = some ⟨.ref C, dx, .fields vs, #[]⟩) : eP P w H h a (XO a C dx) := ⟨⟨vs, h1, e⟩, ⟨_, e⟩, fun _ _ ⟨vs, q, e⟩ k => ⟨vs, q, k _ e⟩⟩
theorem xd_ok {mA : Str -> Option Value} (n : h.Ns1 d mA) (r : ∀ f, v7 (fs.lookup f) (mA f)) (wi : PySem.Within mA (fs.map (·.1))) : eP P w H h d (XD d fs) :=
 ⟨⟨mA, n, r, wi⟩, (let ⟨o, _, _, e, _⟩ := n; ⟨o, e⟩), fun _ _ ⟨m, q, z⟩ k => ⟨m, q.at k, z⟩⟩
theorem zo (x : eP P w H h a (XO a C dx)) : ∃ vs : Array Value, vs[1]? = some .none /\ h.get? a = some ⟨.ref C, dx, .fields vs, #[]⟩ := x.1
theorem AO (x : eP P w H h d (XD d fs)) : ∃ mA, h.Ns1 d mA /\ (∀ f, v7 (fs.lookup f) (mA f)) /\ PySem.Within mA (fs.map (·.1)) := x.1
end
section
variable {X : Cx} {pins : List (Addr × Obj)} {σ : St} {H H' : Hp} {s : Shared} {h' : Heap}
theorem Inv.turn {t' : Nat} (I : Inv X pins σ H s) (S : Addr -> Prop) (k : ∀ b o, ¬ S b -> s.heap.get? b = some o -> h'.get? b = some o) (same : ∀ b, ¬ S b -> H' b = H b)
  (mine : ∀ b, S b -> (∃ φ, H b = some (.ext φ)) \/ s.heap.get? b = none) (there : ∀ b o, S b -> s.heap.get? b = some o -> ∃ o', h'.get? b = some o') (new : ∀ b o, S b -> H' b = some o -> eP X.prog X.w H' h' b o) :
  Inv X pins σ H' { s with heap := h', toks := t' } := by
 have out : ∀ b u, H b = some u -> (∀ φ, u ≠ .ext φ) -> ¬ S b := fun b u e n z => by
  rcases mine b z with ⟨φ, q⟩ | q
  ·rw [e] at q; cases q; exact n φ rfl
  ·obtain ⟨o, r⟩ := (I.hok b u e).is
   rw [r] at q; cases q
 have off : ∀ b o, s.heap.get? b = some o -> H b = none -> ¬ S b := fun b o e n z => by
  rcases mine b z with ⟨φ, q⟩ | q
  ·rw [n] at q; cases q
  ·rw [e] at q; cases q
 refine I.un ⟨fun b o e n _ _ => k b o (off b o e n) e, fun b o e n _ _ => ⟨o.slots, k b o (off b o e n) e⟩, fun b o e n _ => by rw [same b (off b o e n)]; exact n, fun b o e _ => ?_, fun b xs e => ?_, fun b o u e => ?_, fun b ps e => ?_⟩ fun b u e => ?_
 ·by_cases z : S b
  ·exact there b o z e
  ·exact ⟨o, k b o z e⟩
 ·rw [same b (out b _ e fun _ z => nomatch z)]; exact e
 ·rw [same b (out b _ e fun _ z => nomatch z)]; exact e
 ·exact ⟨#[], by rw [same b (out b _ e fun _ z => nomatch z), Array.append_empty]; exact e⟩
 ·by_cases z : S b
  ·exact new b u z e
  ·rw [same b z] at e
   refine (I.hok b u e).xV (fun c v hc q => k c v ?_ q) (fun c q => ?_) fun c xs q => ?_
   ·rcases hc with rfl | hc
    ·exact z
    ·exact out c _ hc fun _ z => nomatch z
   ·rw [same c (out c _ q fun _ z => nomatch z)]; exact q
   ·rw [same c (out c _ q fun _ z => nomatch z)]; exact q
end
section
variable {X : Cx} {pins : List (Addr × Obj)} {σ : St} {H : Hp} {s : Shared} {A : Around} {E : Value -> Shared -> Prop} {a C d : Addr} {f : Str} {y : V} {u : Value}
theorem xset1_ok {Q : Unit -> Shared -> Prop} (I : Inv X pins σ H s) (e : H a = some (XO a C none)) (Z : xI X.K C f) (ry : RelV y u)
  (z : ∀ d s', H d = none -> d ≠ a -> Inv X pins σ (upd (upd H d (XD d [(f, y)])) a (XO a C (some d))) s' -> Q () s') : wpAny (model X.prog X.w) A (setAttr (.ref a) f u) Q E s := by
 obtain ⟨vs, v1, he⟩ := zo (I.hok a _ e)
 have fr := I.hok.fresh (Nat.le_refl s.heap.objs.size)
 have ne : s.heap.objs.size ≠ a := fun q => by rw [q, e] at fr; cases fr
 refine x_set1 I.kIn Z he fun h' e1 n1 k => z s.heap.objs.size _ fr ne ?_
 refine I.turn (fun b => b = a \/ b = s.heap.objs.size) (fun b o nb q => k b o (fun r => nb (.inl r)) q) (fun b nb => by rw [aq fun r => nb (.inl r), aq fun r => nb (.inr r)]) (fun b hb => ?_) (fun b o hb q => ?_) fun b o hb q => ?_
 ·rcases hb with rfl | rfl
  ·exact .inl ⟨_, e⟩
  ·exact .inr (get_none (Nat.le_refl _))
 ·rcases hb with rfl | rfl
  ·exact ⟨_, e1⟩
  ·rw [get_none (Nat.le_refl _)] at q; cases q
 ·rcases hb with rfl | rfl
  ·rw [ar] at q; cases q
   exact xo_ok v1 e1
  ·rw [aq ne, ar] at q; cases q
   refine xd_ok n1 (fun g => ?_) fun g hg => ?_
   ·show v7 (List.lookup g [(f, y)]) (if g = f then some u else none)
    rw [List.lookup_cons]
    by_cases hf : g = f
    ·rw [if_pos hf, show (g == f) = true from beq_iff_eq.mpr hf]; exact ry
    ·rw [if_neg hf, show (g == f) = false from beq_eq_false_iff_ne.mpr hf]; trivial
   ·by_cases hf : g = f
    ·exact List.mem_cons.mpr (.inl hf)
    ·exact absurd (show (if g = f then some u else none) = none from if_neg hf) hg
theorem xset2_ok {fs : List (Str × V)} {Q : Unit -> Shared -> Prop} (I : Inv X pins σ H s) (e : H a = some (XO a C (some d))) (e2 : H d = some (XD d fs)) (ne : d ≠ a) (hl : fs.length <= 900) (Z : xI X.K C f) (ry : RelV y u)
  (z : ∀ s', Inv X pins σ (upd H d (XD d (rA f y fs))) s' -> Q () s') : wpAny (model X.prog X.w) A (setAttr (.ref a) f u) Q E s := by
 obtain ⟨vs, v1, he⟩ := zo (I.hok a _ e)
 obtain ⟨mA, n, r, wi⟩ := AO (I.hok d _ e2)
 refine x_set2 I.kIn Z he n wi (by rw [List.length_map]; omega) fun h' n1 sb => z _ ?_
 refine I.turn (fun b => b = d) (fun b o nb q => (sb.2 b nb).trans q) (fun b nb => aq nb) (fun b hb => by subst hb; exact .inl ⟨_, e2⟩) (fun b o hb q => by subst hb; obtain ⟨o', _, _, e', _⟩ := n1; exact ⟨o', e'⟩) fun b o hb q => ?_
 subst hb
 rw [ar] at q; cases q
 refine xd_ok n1 (fun g => ?_) fun g hg => ?_
 ·show v7 ((rA f y fs).lookup g) (if g = f then some u else mA g)
  rw [mw]
  by_cases q : g = f
  ·rw [if_pos q, if_pos q]; exact ry
  ·rw [if_neg q, if_neg q]; exact r g
 ·by_cases q : g = f
  ·rw [q]; exact (kU f y fs).1
  ·exact (kU f y fs).2 g (wi g fun y' => hg ((if_neg q).trans y'))
end
end L2
namespace L2
open PySem PySem.Spec PyProof.Rows
noncomputable def sX1 (C : Addr) (ta tv : TE) (f : Str) : TS := fun D σ H => tv σ H fun y H1 => ta σ H1 fun x H2 => ∃ a, x = .ref a /\ H2 a = some (XO a C none) /\ ∀ d, H2 d = none -> d ≠ a -> D.nx σ (upd (upd H2 d (XD d [(f, y)])) a (XO a C (some d)))
noncomputable def sX2 (C : Addr) (ta tv : TE) (f : Str) : TS := fun D σ H => tv σ H fun y H1 => ta σ H1 fun x H2 => ∃ a d fs, x = .ref a /\ H2 a = some (XO a C (some d)) /\ H2 d = some (XD d fs) /\ d ≠ a /\ fs.length <= 900 /\ D.nx σ (upd H2 d (XD d (rA f y fs)))
section
variable {X : Cx} {C : Addr} {o value : Expr} {f : Str} {ta tv : TE} {pos pos' : Pos}
theorem ps_x1 (ha : PE X o ta) (hv : PE X value tv) (Z : xI X.K C f) (hs : swapsWith value (some (.Attribute o f pos')) pos.line X.env = pure false := by rfl) : PS X (.Assign [.Attribute o f pos'] value pos) (sX1 C ta tv f) := by
 intro pins s σ H D I h
 refine plainObj_wpAny_Assign_Attribute (thn (hv pins s σ H _ I h) fun u s1 ⟨y, H1, I1, ry, q⟩ => thn (ha pins s1 σ H1 _ I1 q) fun ov s2 ⟨x, H2, I2, rx, a, ex, ea, q2⟩ => ?_) hs
 subst ex
 cases (show ov = Value.ref a from rx)
 exact xset1_ok I2 ea Z ry fun d s3 h1 h2 I3 => ⟨σ, _, I3, q2 d h1 h2⟩
theorem ps_x2 (ha : PE X o ta) (hv : PE X value tv) (Z : xI X.K C f) (hs : swapsWith value (some (.Attribute o f pos')) pos.line X.env = pure false := by rfl) : PS X (.Assign [.Attribute o f pos'] value pos) (sX2 C ta tv f) := by
 intro pins s σ H D I h
 refine plainObj_wpAny_Assign_Attribute (thn (hv pins s σ H _ I h) fun u s1 ⟨y, H1, I1, ry, q⟩ => thn (ha pins s1 σ H1 _ I1 q) fun ov s2 ⟨x, H2, I2, rx, a, d, fs, ex, ea, ed, ne, hl, q2⟩ => ?_) hs
 subst ex
 cases (show ov = Value.ref a from rx)
 exact xset2_ok I2 ea ed ne hl Z ry fun s3 I3 => ⟨σ, _, I3, q2⟩
end
noncomputable def spX2 (C : Addr) (f1 f2 : Str) : Sp := fun vs H Q _ => ∃ a v1 v2, vs = [.ref a, v1, v2] /\ H a = some (XO a C none) /\ ∀ d, H d = none -> d ≠ a -> Q .non (upd (upd H d (XD d [(f1, v1), (f2, v2)])) a (XO a C (some d)))
theorem upd_mid {H : Hp} {a d : Addr} {x y z : HO} (h : d ≠ a) : upd (upd (upd H d x) a y) d z = upd (upd H d z) a y := by
 funext b
 by_cases hd : b = d
 ·subst hd; rw [ar, aq h, ar]
 ·rw [aq hd]
  by_cases ha : b = a
  ·subst ha; rw [ar, ar]
  ·rw [aq ha, aq ha, aq hd, aq hd]
theorem upd_low {H : Hp} {a d : Addr} {x y z : HO} : upd (upd (upd H a x) d y) a z = upd (upd H d y) a z := by
 funext b
 by_cases ha : b = a
 ·subst ha; rw [ar, ar]
 ·rw [aq ha, aq ha]
  by_cases hd : b = d
  ·subst hd; rw [ar, ar]
  ·rw [aq hd, aq hd, aq ha]
theorem fn_at {K : PySem.W.Frag} {h : Heap} {f : Addr} (X : K.In h) (e : PySem.W.typeIn K (.ref f) = some (.type "function")) : ∃ o, h.get? f = some o /\ o.cls = .type "function" := by
 unfold PySem.W.typeIn at e
 cases q : K.lookup f with
 | none => simp only [q] at e; cases e
 | some o =>
  simp only [q] at e
  exact ⟨o, X _ _ q, by simpa using e⟩
section
variable {X : Cx} {pins : List (Addr × Obj)} {σ : St} {H : Hp} {s : Shared} {k : Nat} {f C : Addr} {fd : FuncData} {ps : List Str} {f1 f2 : Str} {us : List Value} {v1 v2 : V} {B newId initId : String} {bmB : List Value}
theorem new_x (FB : ExcBaseFacts B newId initId bmB) (hC : nJ X.K C bmB newId f = true) (hf : PySem.W.typeIn X.K (.ref f) = some (.type "function")) (F : bJ X.prog X.w X.K X.mg X.base CX0 k f fd ps (spX2 C f1 f2)) (hr : ka (k + 1) X.A) (hb : Binds X.K fd ps [])
  (I : Inv X pins σ H s) (r : Vals [v1, v2] us) : wpAny (model X.prog X.w) X.A (call (.ref C) us) (fun v s' => ∃ a d, v = .ref a /\ s.heap.objs.size <= a /\ H a = none /\ H d = none /\ d ≠ a /\ Inv X pins σ (upd (upd H d (XD d [(f1, v1), (f2, v2)])) a (XO a C (some d))) s') X.xe s := by
 obtain ⟨tl, N, nm, qn, bs, hdct, sn, sub, ab, col, dd, k0, k1, k2, k3, k5, mN, o1, o2, o3, o4⟩ := uw I.kIn hC
 obtain ⟨oI, i1, i2⟩ := fn_at I.kIn hf
 obtain ⟨hh, gg, dr, tk, os⟩ := s
 have hz := sizeLine_eq
 have hl : us.length <= sizeLine := by rw [<- r.length]; show 2 <= sizeLine; omega
 refine x_call FB o4 o1 o2 o3 i1 i2 hl ?_
 have nw : (sW hh C us).get? (hh.objs.size + 1) = some (AR C hh.objs.size) := vf
 have J : Inv X pins σ (upd H (hh.objs.size + 1) (XO (hh.objs.size + 1) C none)) { (⟨hh, gg, dr, tk, os⟩ : Shared) with heap := sW hh C us, toks := tk } :=
  I.laid (fun b u q => pZ q) (Nat.le_succ _) (xo_ok (vs := #[.ref hh.objs.size, .none, .none, .none, .bool false, .none]) rfl nw)
 have fa : H (hh.objs.size + 1) = none := I.hok.fresh (Nat.le_succ _)
 have w : Vals [V.ref (hh.objs.size + 1), v1, v2] (Value.ref (hh.objs.size + 1) :: us ++ []) := by rw [List.append_nil]; exact .cons rfl r
 have q : spX2 C f1 f2 [V.ref (hh.objs.size + 1), v1, v2] (upd H (hh.objs.size + 1) (XO (hh.objs.size + 1) C none)) (fun v H2 => v = .non /\ ∃ d, H d = none /\ d ≠ hh.objs.size + 1 /\ H2 = upd (upd H d (XD d [(f1, v1), (f2, v2)])) (hh.objs.size + 1) (XO (hh.objs.size + 1) C (some d))) (fun _ _ _ => False) :=
  ⟨_, v1, v2, rfl, ar, fun d hd ne => ⟨rfl, d, by rw [aq ne] at hd; exact hd, ne, upd_low⟩⟩
 have n : (Value.ref (hh.objs.size + 1) :: us ++ []).length = ps.length := w.length.symm.trans (F.len _ _ _ _ q)
 refine wpAny_call (codeAny_mono (F.run _ X.stack _ _ ⟨.ref (hh.objs.size + 1) :: us, []⟩ _ _ _ (fun _ _ _ => False) (hr.make C us []) (J.env0.make C us []) (hb _ (.ref (hh.objs.size + 1) :: us) J.kIn n) w q) fun z s' hq => ?_)
 cases z with
 | error e => exact (show False from hq).elim
 | ok fl =>
  cases fl with
  | ret u =>
   obtain ⟨v, H', J3, rv, ev, d, h1, h2, h3⟩ := J.after hq
   subst ev h3
   exact ⟨rv, _, d, rfl, Nat.le_succ _, fa, h1, h2, J3⟩
  | _ => exact False.elim hq
end
theorem xJ {M : Model} {A : Around} {E : Value -> Shared -> Prop} {env : Env} {nm q : Str} {C N : Addr} {bs tl : List Value} {hdct : Bool} {sn : List Str} {sub : List Value} {ab : Bool} {col : Option Bool} {dd : Option Addr} {k0 k1 k2 k3 k5 : Option Value} {newId : String}
  {s : Shared} {x : Sem Value} {Q : Flow -> Shared -> Prop} (hB : tl.contains (.type "BaseException") = true) (hh : A.handled = none)
  (z : wpAny M A x (fun v s₁ => ∃ e oe, v = .ref e /\ s₁.heap.get? C = some (excClassObj nm q C N bs tl hdct sn sub ab col dd k0 k1 k2 k3 k5 newId) /\ s₁.heap.get? e = some oe /\ oe.cls = .ref C /\ (∃ vs, oe.data = .fields vs /\ vs[1]? = some .none) /\ E (.ref e) s₁) E s) :
  wpAny M A (raiseStmt env (some x) none) Q E s := by
 have cB : (Value.ref C :: tl).contains (.type "BaseException") = true := by rw [List.contains_cons, hB, Bool.or_true]
 unfold raiseStmt
 refine wpAny_bind (thn z fun v s₁ h₁ => ?_)
 obtain ⟨e, oe, rfl, hC, he, hc, ⟨vs, hd, hv1⟩, hE⟩ := h₁
 obtain ⟨oc, odi, oda, osl⟩ := oe
 dsimp only at hc hd
 subst hc hd
 obtain ⟨hp, g, d, tk, os⟩ := s₁
 repeat (first | (with_reducible refine wpAny_isSubtype_exc hC ?_; rw [cB]) | with_reducible refine wpAny_loadPart_at he ?_ | with_reducible refine wpAny_loadPart_at hC ?_ | wp_step)
 rw [hv1]
 refine wpAny_pure ?_
 rw [if_neg (by decide)]
 exact wpAny_pure (wpAny_raiseNew_none hh hE)
noncomputable def XEq2 (X : Cx) (E : XK) (C : Addr) : Prop := ∀ (pins : List (Addr × Obj)) (σ : St) (H : Hp) (s' : Shared) (a d : Addr), Inv X pins σ H s' -> ExA s'.heap a (.ref C) (some d) none -> X.s₀.heap.get? a = none -> H a = none -> E (.ref C) (some d) H -> X.xe (.ref a) s'
noncomputable def tRaise2 (t : TA) (C : Addr) (f1 f2 : Str) (E : XK) : TS := fun _ σ H => t σ H fun vs H1 => ∃ v1 v2, vs = [v1, v2] /\ ∀ d, H1 d = none -> E (.ref C) (some d) (upd H1 d (.xd [(f1, v1), (f2, v2)]))
section
variable {X : Cx} {E : XK} {C f : Addr} {x : Str} {e1 e2 : Expr} {t : TA} {np cpos pos : Pos} {k : Nat} {fd : FuncData} {ps : List Str} {f1 f2 : Str} {B newId initId : String} {bmB : List Value}
theorem Bg (FB : ExcBaseFacts B newId initId bmB) (hx : XEq2 X E C) (hC : nJ X.K C bmB newId f = true) (hf : PySem.W.typeIn X.K (.ref f) = some (.type "function")) (hk : PySem.W.keepIn X.K (.ref C) = true) (F : bJ X.prog X.w X.K X.mg X.base CX0 k f fd ps (spX2 C f1 f2)) (hr : ka (k + 1) X.A) (hb : Binds X.K fd ps [])
  (hm : X.mg x = some (.ref C)) (ha : PA X [e1, e2] t) (hg : Gl X x := by rfl) (hdb : (x == ("__debug__" : Str)) = false := by decide) (hst : starEach [e1, e2] X.env = (false, eval e1 X.env) :: starEach [e2] X.env := by rfl) (hpl : (backTo cpos (starEach [e2] X.env)).any (·.1) = false := by rfl) :
  PS X (.Raise (some (.Call (.Name x np) [e1, e2] [] cpos)) none pos) (tRaise2 t C f1 f2 E) := by
 intro pins s σ H D I h
 obtain ⟨tl, N, nm, qn, bs, hdct, sn, sub, ab, col, dd, k0, k1, k2, k3, k5, mN, o1, o2, o3, o4⟩ := uw I.mod.kin hC
 rw [arm_exec_Raise]
 refine wpAny_bind (wpAny_standAt (xJ (C := C) (nm := nm) (q := qn) (N := N) (bs := bs) (tl := tl) (hdct := hdct) (sn := sn) (sub := sub) (ab := ab) (col := col) (dd := dd) (k0 := k0) (k1 := k1) (k2 := k2) (k3 := k3) (k5 := k5) (newId := newId) (o4.hasType FB.hasBase) hr.hd (wpAny_bind (thn ?_ fun v s₃ h₃ => wpAny_bind (wpAny_standAt (wpAny_pure h₃))))))
 refine wpAny_Call_Name_kw (iK I hg hm (PySem.W.callWith_K (h₀ := X.base) I.ok.mod.kin hk (thn (ha cpos pins s σ H _ I h) fun us s1 ⟨vs, H1, I1, r, q1⟩ => ⟨I1.kIn, ?_⟩) hst hpl) hdb)
 obtain ⟨v1, v2, rfl, q1⟩ := q1
 refine thn (new_x FB hC hf F hr hb I1 r) fun v s2 ⟨a, d, ev, hn, fa, fd', ne, J⟩ => ?_
 subst ev
 obtain ⟨vs, w1, he⟩ := zo (J.hok a _ ar)
 have dd' : upd (upd H1 d (XD d [(f1, v1), (f2, v2)])) a (XO a C (some d)) d = some (XD d [(f1, v1), (f2, v2)]) := by rw [aq ne]; exact ar
 have J2 : Inv X pins σ (upd H1 d (.xd [(f1, v1), (f2, v2)])) { s2 with heap := s2.heap, toks := s2.toks } := by
  refine J.turn (fun b => b = a \/ b = d) (fun b o _ q => q) (fun b nb => ?_) (fun b hb => ?_) (fun b o _ q => ⟨o, q⟩) fun b o hb q => ?_
  ·rw [aq fun z => nb (.inr z), aq fun z => nb (.inl z), aq fun z => nb (.inr z)]
  ·rcases hb with rfl | rfl
   ·exact .inl ⟨_, ar⟩
   ·exact .inl ⟨_, dd'⟩
  ·rcases hb with rfl | rfl
   ·rw [aq (Ne.symm ne), fa] at q; cases q
   ·rw [ar] at q; cases q
    obtain ⟨mA, n1, n2, _⟩ := AO (J.hok _ _ dd')
    exact ⟨mA, n1, n2⟩
 refine ⟨a, _, rfl, J.bk _ _ o1, he, rfl, ⟨vs, rfl, w1⟩, hx pins σ _ s2 a d J2 ⟨⟨_, vs, he, rfl, rfl, rfl, w1⟩, fun T hT => nomatch hT⟩ (get_none (Nat.le_trans I1.sz hn)) (by rw [aq (Ne.symm ne)]; exact fa) (q1 d fd')⟩
end
section
variable {P : Program} {w : World} {K : PySem.W.Frag} {mg : Str -> Option Value} {base : Heap} {N : List Str} {qual : Str} {scope : Scope} {f : Addr} {cd : Value} {A : Around} {outer : List Env} {s : Shared} {H : Hp} {E : XK} {C : Addr}
theorem xeqD2 : XEq2 (Cc (CXd P w) P w K mg base N qual scope f cd A outer s H E) E C := fun _ _ _ _ _ _ J x na fa q => xe_of J x na (fun T hT => nomatch hT) fa q
end
noncomputable def xRes (C : Addr) (f1 f2 : Str) : List Dat -> M Flo
 | [a, b] => .error (.exc C [(f1, a), (f2, b)])
 | _ => .error .stuck
noncomputable def Ai (C : Addr) (f1 f2 : Str) (fr : ak -> M (List Dat)) : ak -> M Flo := fun ρ => (fr ρ).bind (xRes C f1 f2)
@[simp] theorem e_sExc2 (C : Addr) (f1 f2 : Str) (fr : ak -> M (List Dat)) (ρ : ak) : Ai C f1 f2 fr ρ = (fr ρ).bind (xRes C f1 f2) := id rfl
@[simp] theorem e_xRes (C : Addr) (f1 f2 : Str) (a b : Dat) : xRes C f1 f2 [a, b] = .error (.exc C [(f1, a), (f2, b)]) := id rfl
section
variable {K : PySem.W.Frag} {X : Cx} {ro : Bool} {OL O O' : List Nat} {E : XK} {C f : Addr} {x : Str} {e1 e2 : Expr} {fr : ak -> M (List Dat)} {np cpos pos : Pos} {k : Nat} {fd : FuncData} {ps : List Str} {f1 f2 : Str} {B newId initId : String} {bmB : List Value}
theorem C7 (FB : ExcBaseFacts B newId initId bmB) (hx : XEq2 X E C) (hC : nJ X.K C bmB newId f = true) (hf : PySem.W.typeIn X.K (.ref f) = some (.type "function")) (hk : PySem.W.keepIn X.K (.ref C) = true) (F : bJ X.prog X.w X.K X.mg X.base CX0 k f fd ps (spX2 C f1 f2)) (hr : ka (k + 1) X.A) (hb : Binds X.K fd ps [])
  (hm : X.mg x = some (.ref C)) (ha : DA K (WE K E) X [e1, e2] fr) (hg : Gl X x := by rfl) (hdb : (x == ("__debug__" : Str)) = false := by decide) (hst : starEach [e1, e2] X.env = (false, eval e1 X.env) :: starEach [e2] X.env := by rfl) (hpl : (backTo cpos (starEach [e2] X.env)).any (·.1) = false := by rfl) :
  DS K (WE K E) ro X OL O O' (.Raise (some (.Call (.Name x np) [e1, e2] [] cpos)) none pos) (Ai C f1 f2 fr) := fun F0 H0 => PS.imp (Bg FB hx hC hf hk F hr hb hm ha hg hdb hst hpl) fun D σ H ⟨FB', F, ρ, r, p⟩ => by
 have rf := r.freeze (O2 := []) (by simp)
 refine q9 r.nB r.iI (fun e he => p.pO rf.st (by unfold Ai; rw [he]; rfl)) fun ds hd vs F1 H1 s1 q => ?_
 have ez : Ai C f1 f2 fr ρ = xRes C f1 f2 ds := by unfold Ai; rw [hd]; rfl
 rw [ez] at p
 rcases ds with _ | ⟨a, _ | ⟨b, _ | ⟨_, _⟩⟩⟩
 ·exact ((WE K E).ns p).elim
 ·exact ((WE K E).ns p).elim
 rotate_left
 ·exact ((WE K E).ns p).elim
 ·obtain ⟨w1, vs1, rfl, q1, w2, vs2, rfl, q2, hn⟩ := q
  cases (show vs2 = [] from hn)
  refine ⟨w1, w2, rfl, fun d hd' => ?_⟩
  have st := rf.st.trans s1
  have nf : F1 d = none := s1.fh.free hd'
  have ff : b9 F1 (upd F1 d (.xd [(f1, w1), (f2, w2)])) := b9.upd nf
  have st2 : Step F1 H1 (upd F1 d (.xd [(f1, w1), (f2, w2)])) (upd H1 d (.xd [(f1, w1), (f2, w2)])) := by
   refine ⟨ff, fun c o e => by rw [aq (aC e hd')]; exact e, fun c o e => ?_, fun c o e => ?_⟩
   ·by_cases hc : c = d
    ·subst hc; rw [ar] at e ⊢; exact e
    ·rw [aq hc] at e ⊢; exact s1.fh c o e
   ·by_cases hc : c = d
    ·subst hc; exact .inr hd'
    ·rw [aq hc] at e; exact .inl e
  exact p _ _ (st.trans st2) d _ ar ⟨w1, _, rfl, cA.mono ff q1, w2, [], rfl, cA.mono ff q2, rfl⟩
end
end L2
namespace L2
open PySem PySem.Spec PyProof.Rows
noncomputable def xT (i : Nat) (a d : Addr) (f : Str) : TE := fun σ H Q => σ[i]? = some (some (.ref a)) /\ ∃ gs v, H d = some (.xd gs) /\ gs.lookup f = some v /\ Q v H
section
variable {X : Cx} {C a d : Addr} {oe : Obj} {B : String} {bmB : List Value} {i : Nat} {n f : Str} {p1 pos : Pos}
theorem Bo (FB : ExcAttrBase B bmB) (Z : XIsi X.K C) (Y : xI X.K C f) (hc : oe.cls = .ref C) (hd : ∃ vs, oe.data = .fields vs) (hx : oe.dict = some d)
  (hN : X.N[i]? = some n := by rfl) (hv : Vis X.env.scope n := by first | exact Or.inl rfl | exact Or.inr (Or.inl rfl) | exact Or.inr (Or.inr rfl)) (hd1 : (n == ("__debug__" : Str)) = false := by decide) (hd2 : (n == ("__classdict__" : Str)) = false := by decide)
  (hb : attributeBase (.Name n p1) f X.env (eval (.Name n p1) X.env) = eval (.Name n p1) X.env := by rfl) : PE (X.hand a oe) (.Attribute (.Name n p1) f pos) (xT i a d f) := by
 intro pins s σ H Q I h
 obtain ⟨e1, gs, v, hg, hl, q⟩ := h
 refine zf (env := (X.hand a oe).env) hb (thn (pv (X := X.hand a oe) i hN hv hd1 hd2 pins s σ H (fun x H1 => x = .ref a /\ H1 = H) I ⟨.ref a, e1, rfl, rfl⟩) fun u s1 ⟨x, H1, I1, rx, ex, eH⟩ => ?_)
 subst ex eH
 cases (show u = Value.ref a from rx)
 have pa := (I1.pin (a, oe) (List.mem_cons_self ..)).1
 obtain ⟨mA, n1, r⟩ := (show eP X.prog X.w H1 s1.heap d (.xd gs) from I1.hok d _ hg)
 obtain ⟨od, ho, hlk⟩ := qA n1
 obtain ⟨u', hu, ru⟩ := v7.some_of (v := v) (o := mA f) (by rw [<- hl]; exact r f)
 obtain ⟨vs, hdt⟩ := hd
 have J : PySem.W.InstAt s1.heap a oe C (some od) := ⟨pa, hc, by unfold PySem.W.notCls; rw [hdt], by rw [hx]; exact ho⟩
 exact x_get FB I1.kIn J Z Y (by rw [hlk, hu]) (qK ru) ⟨v, H1, I1.tok _, ru, q⟩
end
noncomputable def qf (O : List Nat) (C : Addr) (fb : ak -> M Flo) (fx : List (Str × Dat) -> ak -> M ak) : ak -> M Flo := fun ρ => match fb (erase O ρ) with
 | .ok fl => .ok fl
 | .error (.exc C' (f :: fs)) => if C' = C then (fx (f :: fs) ρ).bind fun ρ' => .ok (.nx ρ') else .error .stuck
 | .error _ => .error .stuck
theorem wV {O : List Nat} {C : Addr} {fb : ak -> M Flo} {fx : List (Str × Dat) -> ak -> M ak} {ρ : ak} {fl : Flo} (h : fb (erase O ρ) = .ok fl) : qf O C fb fx ρ = .ok fl := by unfold qf; rw [h]
theorem sA {O : List Nat} {C : Addr} {fb : ak -> M Flo} {fx : List (Str × Dat) -> ak -> M ak} {ρ : ak} {f : Str × Dat} {fs : List (Str × Dat)} (h : fb (erase O ρ) = .error (.exc C (f :: fs))) : qf O C fb fx ρ = (fx (f :: fs) ρ).bind fun ρ' => .ok (.nx ρ') := by unfold qf; rw [h]; exact if_pos rfl
section
variable {K : PySem.W.Frag} {ro : Bool} {F0 H0 : Hp} {OL O : List Nat} {D : Ends} {σ : St} {H : Hp} {C : Addr} {i : Nat} {fb : ak -> M Flo} {fx : List (Str × Dat) -> ak -> M ak} {ts : Addr -> Option Addr -> TS}
theorem rs_tryF (hS : ∀ (a d : Addr) (gs : List (Str × V)) (fs : List (Str × Dat)) (FB F H : Hp) (ρ : ak), Rep K F0 H0 FB O F H σ ρ -> F d = some (.xd gs) -> o6 K F fs gs -> jq K Wno ro F0 H0 FB OL O D ((fx fs ρ).bind fun ρ' => .ok (.nx ρ')) -> ts a (some d) (D.less i) (σ.set i (some (.ref a))) H)
  (t : tS K Wno ro F0 H0 OL O O (qf O C fb fx) D σ H) : tTry (fun E D σ H => ∃ F1 H1, tS K (WE K E) ro F1 H1 OL [] O fb D σ H) i C ts D σ H := by
 obtain ⟨FB, F, ρ, r, p⟩ := t
 have re := r.nA
 refine ⟨F, H, FB, F, erase O ρ, ⟨Step.refl r.st.fh, r.fb, re.len, fun m d e _ => re.sl m d e, (fun m d e h => nomatch h), (fun m n d1 d2 c h => nomatch h)⟩, ?_⟩
 cases e : fb (erase O ρ) with
 | ok fl =>
  rw [wV e] at p
  cases fl with
  | nx ρ' => exact fun σ' F' H' r' => p σ' F' H' (r'.back r.st)
  | rt d => exact fun v F' H' s' q => p v F' H' (r.st.trans s') (q.back r.st.hh)
  | bk ρ' => exact fun σ' F' H' r' => p σ' F' H' (r'.back r.st)
  | ct ρ' => exact fun σ' F' H' r' => p σ' F' H' (r'.back r.st)
 | error x =>
  cases x with
  | stuck => exact p.stuck (by unfold qf; rw [e])
  | exc C' fs =>
   cases fs with
   | nil => exact p.stuck (by unfold qf; rw [e])
   | cons f fs =>
    by_cases hc : C' = C
    ·subst hc
     rw [sA e] at p
     exact fun F' H' s' d gs hd df => ⟨rfl, fun a _ => hS a d gs _ FB F' H' ρ (r.step s') hd df p⟩
    ·exact p.stuck (by unfold qf; rw [e]; exact if_neg hc)
end
section
variable {X : Cx} {K : PySem.W.Frag} {ro : Bool} {OL O : List Nat} {C : Addr} {c n : Str} {i : Nat} {np hpos pos : Pos} {b₀ : Stmt} {body suite : List Stmt} {ts : Addr -> Option Addr -> TS} {bmB : List Value} {fb : ak -> M Flo} {fx : List (Str × Dat) -> ak -> M ak}
theorem ds_tryF (hb : ∀ (pins : List (Addr × Obj)) (σ : St) (E : XK) (xe : Value -> Shared -> Prop), lX (CXd X.prog X.w) (X.v9 xe) pins σ E -> DSat K E ro (X.v9 xe) OL [] O pins σ body fb)
  (hs : ∀ (a : Addr) (oe : Obj), oe.cls = .ref C -> (∃ vs, oe.data = .fields vs) -> PSs (X.hand a oe) (b₀ :: suite) (ts a oe.dict))
  (hS : ∀ (F0 H0 : Hp) (D : Ends) (σ : St) (a d : Addr) (gs : List (Str × V)) (fs : List (Str × Dat)) (FB F H : Hp) (ρ : ak), σ.length = X.N.length -> Rep K F0 H0 FB O F H σ ρ -> F d = some (.xd gs) -> o6 K F fs gs -> jq K Wno ro F0 H0 FB OL O D ((fx fs ρ).bind fun ρ' => .ok (.nx ρ')) -> ts a (some d) (D.less i) (σ.set i (some (.ref a))) H)
  (hC : xH X.K C bmB) (hB : bmB.contains (.type "BaseException") = true) (hm : X.mg c = some (.ref C)) (hN : X.N.Nodup) (hi : X.N[i]? = some n := by rfl) (hk : X.env.scope.names.lookup n = some .local := by rfl)
  (hg : Gl X c := by rfl) (hex : X.ex = [] := by rfl) (hstk : X.stack = X.env :: X.outer := by rfl) (hfr : X.env.frame = some X.env.locals := by rfl) (hdb : (c == ("__debug__" : Str)) = false := by decide) :
  DS K Wno ro X OL O O (.Try body [.ExceptHandler (some (.Name c np)) (some n) (b₀ :: suite) hpos] [] [] pos) (qf O C fb fx) := fun F0 H0 pins s σ H D I z =>
 ps_try (tb := fun E D σ H => ∃ F1 H1, tS K (WE K E) ro F1 H1 OL [] O fb D σ H) (fun pins σ E xe hp s H D I ⟨F1, H1, q⟩ => hb pins σ E xe hp F1 H1 s H D I q) hs hC hB hm hN hi hk hg hex hstk hfr hdb pins s σ H D I (rs_tryF (fun a d gs fs FB F H ρ r h1 h2 p => hS F0 H0 D σ a d gs fs FB F H ρ I.len r h1 h2 p) z)
end
end L2
namespace L2
open PySem PySem.Spec PyProof.Rows
section
variable {K : PySem.W.Frag} {W : gI} {X : Cx} {ro : Bool} {OL O O' : List Nat}
theorem ps_nox {st : Stmt} {t : TS} (h : PS X.nox st t) : PS X st t := fun pins s σ H D I z => wpAny_mono (h pins s σ H D (I.v9 _) z) (fun _ _ q => q.kC) fun _ _ y => (show False from y).elim
theorem pX {st : Stmt} {g : ak -> M Flo} (h : DS K Wno ro X.nox OL O O' st g) : DS K W ro X OL O O' st (fNoX g) := fun F0 H0 => PS.imp (ps_nox (h F0 H0)) fun D σ H ⟨FB, F, ρ, r, p⟩ => by
 refine ⟨FB, F, ρ, r, ?_⟩
 have p : jq K W ro F0 H0 FB OL O' D (noX (g ρ)) := p
 unfold jq at p ⊢
 cases e : g ρ with
 | ok fl =>
  rw [e] at p
  cases fl <;> exact p
 | error x => rw [e] at p; exact (W.ns p).elim
end
structure XMk (K : PySem.W.Frag) (mg : Str -> Option Value) (x : Str) (C f : Addr) : Prop where
 mg : mg x = some (.ref C)
 ex : nJ K C [.type "ValueError", .type "Exception", .type "BaseException", .type "object"] "ValueError.__new__" f = true
 fn : PySem.W.typeIn K (.ref f) = some (.type "function")
 kp : PySem.W.keepIn K (.ref C) = true
structure XTry (K : PySem.W.Frag) (mg : Str -> Option Value) (x : Str) (C : Addr) : Prop where
 mg : mg x = some (.ref C)
 nm : xH K C [.type "ValueError", .type "Exception", .type "BaseException", .type "object"]
 isi : XIsi K C
end L2
namespace L2
open PySem PySem.Spec PyProof.Rows
end L2
namespace L2
open PySem PySem.Spec PyProof.Rows
noncomputable def zQ : Dat -> M Dat
 | .str _ => .ok (.bl true)
 | .ins _ _ => stk
 | _ => .ok (.bl false)
section
variable {X : Cx} {K : PySem.W.Frag} {W : gI} {own : Bool} {a : Expr} {fa : ak -> M Dat} {pos p p2 : Pos}
theorem Cw (kit : Kit K) (hK : X.K = K := by rfl) : eR X (.builtin "isinstance") (fun xs H Q => ∃ v, xs = [v, .ty "str"] /\ rD1 K W own zQ v H Q) := by
 subst hK
 intro pins s σ H xs us Q I r h
 obtain ⟨v, rfl, F, d, s1, q, p⟩ := h
 obtain ⟨u, w, rfl, ru, rw'⟩ := r.two
 cases (show w = Value.type "str" from rw')
 by_cases hi : ∃ C fs, d = .ins C fs
 ·obtain ⟨C, fs, rfl⟩ := hi
  exact aP.stuck p
 ·refine BP I s1 q ru kit.kI kit.jc kit.j8 kit.gX kit.kG kit.dW (fun k tk hk => ⟨.bl k, H, I.tok tk, rfl, ?_⟩) (fun C fs e => hi ⟨C, fs, e⟩)
  cases d <;> first | (have hk' : k = _ := hk; subst hk'; exact aP.bl (own := own) p s1) | exact absurd ⟨_, _, rfl⟩ hi
theorem de_isi_str (kit : Kit K) (hm : X.mg "isinstance" = none) (hmT : X.mg "str" = none) (ha : DE K W false X a fa) (hK : X.K = K := by rfl)
  (hg : Gl X "isinstance" := by rfl) (hgT : Gl X "str" := by rfl)
  (hst : starEach [a, .Name "str" p2] X.env = [(false, eval a X.env), (false, eval (.Name "str" p2) X.env)] := by rfl) (hst2 : starEach [.Name "str" p2] X.env = [(false, eval (.Name "str" p2) X.env)] := by rfl) (hpl : (backTo pos (starEach [.Name "str" p2] X.env)).any (·.1) = false := by rfl) :
  DE K W own X (.Call (.Name "isinstance" p) [a, .Name "str" p2] [] pos) (f1 zQ fa) := wX (Cw kit hK) hm hmT (by decide +kernel) ha hg hgT (by decide) (by decide) hst hst2 hpl
end
end L2
namespace L2
open PySem PySem.Spec PyProof.Rows
noncomputable def rIsi (K : PySem.W.Frag) (C a : Addr) (R : Hp -> Prop) : List V -> Hp -> VK -> Prop := fun xs H Q => R H /\ ∃ v b, xs = [.ref a, v] /\
  ((∃ c, RelV v c /\ (∀ u, RelV v u -> u = c) /\ PySem.W.kitOne K (.ref C) c = some b) \/ ∃ (tp : Addr) (ys : List Addr), v = .ref tp /\ H tp = some (.tup (ys.map V.ref)) /\ PySem.W.kitAny K (.ref C) (ys.map Value.ref) = some b) /\ Q (.bl b) H
noncomputable def XDk (d : Addr) : Hp -> Prop := fun H => ∃ gs, H d = some (.xd gs)
noncomputable def vn (i : Nat) (a : Addr) (R : Hp -> Prop) (b : Bool) : TE := fun σ H Q => σ[i]? = some (some (.ref a)) /\ R H /\ Q (.bl b) H
noncomputable def zx (i : Nat) (a : Addr) (R : Hp -> Prop) (ys : List Addr) (b : Bool) : TE := fun σ H Q => σ[i]? = some (some (.ref a)) /\ ∀ p, H p = none -> R (upd H p (.tup (ys.map V.ref))) /\ Q (.bl b) (upd H p (.tup (ys.map V.ref)))
section
variable {X : Cx} {C a d D : Addr} {oe : Obj} {B : String} {bmB : List Value} {R : Hp -> Prop}
theorem CA (FB : ExcAttrBase B bmB) (Z : XIsi X.K C) (hc : oe.cls = .ref C) (hd : ∃ vs, oe.data = .fields vs) (hx : oe.dict = some d) : eR (X.hand a oe) (.builtin "isinstance") (rIsi X.K C a (XDk d)) := by
 intro pins s σ H xs us Q I r h
 obtain ⟨⟨gs, hg⟩, v, b, rfl, h1, q⟩ := h
 obtain ⟨u, w, rfl, ru, rw'⟩ := r.two
 cases (show u = Value.ref a from ru)
 have pa := (I.pin (a, oe) (List.mem_cons_self ..)).1
 obtain ⟨vs, hdt⟩ := hd
 obtain ⟨mA, ⟨od, es, ep, ho, hrest⟩, _⟩ := (show eP X.prog X.w H s.heap d (.xd gs) from I.hok d _ hg)
 have J : PySem.W.InstAt s.heap a oe C (some od) := ⟨pa, hc, by unfold PySem.W.notCls; rw [hdt], by rw [hx]; exact ho⟩
 rcases h1 with ⟨c, rc, uniq, e⟩ | ⟨tp, ys, rfl, ht, e⟩
 ·cases uniq w rw'
  exact PySem.W.kia_one (pW FB Z) I.kIn J e (fun z => nomatch z) fun tk => ⟨.bl b, H, I.tok tk, rfl, q⟩
 ·cases (show w = Value.ref tp from rw')
  obtain ⟨_, its, rv, ob, z1, z2⟩ := (show eP X.prog X.w H s.heap tp (.tup (ys.map V.ref)) from I.hok tp _ ht)
  obtain ⟨z3, n, z4⟩ := z2
  have ei : its = ys.map Value.ref := tx rv
  subst ei
  obtain ⟨oc, odd, odt, osl⟩ := ob
  have z5 : oc = Value.type "tuple" := z3
  have z6 : odt = .seq (ys.map Value.ref).toArray n := z4
  subst z5 z6
  exact PySem.W.kia_tup (pW FB Z) I.kIn J z1 e (fun z => nomatch z) fun tk => ⟨.bl b, H, I.tok tk, rfl, q⟩
end
section
variable {X : Cx} {C a D : Addr} {oe : Obj} {R : Hp -> Prop} {i : Nat} {n y : Str} {T : String} {p p1 p2 pos : Pos} {b : Bool} {ys : List Addr} {es : List Expr}
theorem pe_isO (hcr : eR (X.hand a oe) (.builtin "isinstance") (rIsi X.K C a R)) (hm : X.mg "isinstance" = none) (hD : X.mg y = some (.ref D)) (hb : PySem.W.kitOne X.K (.ref C) (.ref D) = some b)
  (hN : X.N[i]? = some n := by rfl) (hv : Vis X.env.scope n := by first | exact Or.inl rfl | exact Or.inr (Or.inl rfl) | exact Or.inr (Or.inr rfl)) (hd1 : (n == ("__debug__" : Str)) = false := by decide) (hd2 : (n == ("__classdict__" : Str)) = false := by decide)
  (hg : Gl (X.hand a oe) "isinstance" := by rfl) (hgD : Gl (X.hand a oe) y := by rfl) (hd3 : (y == ("__debug__" : Str)) = false := by decide)
  (hst : starEach [.Name n p1, .Name y p2] X.env = [(false, eval (.Name n p1) X.env), (false, eval (.Name y p2) X.env)] := by rfl) (hst2 : starEach [.Name y p2] X.env = [(false, eval (.Name y p2) X.env)] := by rfl) (hpl : (backTo pos (starEach [.Name y p2] X.env)).any (·.1) = false := by rfl) :
  PE (X.hand a oe) (.Call (.Name "isinstance" p) [.Name n p1, .Name y p2] [] pos) (vn i a R b) := by
 have vD : PE (X.hand a oe) (.Name y p2) (tC (.ref D)) := fun pins s σ H Q I h => iK I hgD hD ⟨.ref D, H, I, rfl, h⟩ hd3
 refine PE.imp (g4 (X := X.hand a oe) hcr hg hm boot_isinstance (aW (pv i hN hv hd1 hd2) (aW vD eU hst2) (by rw [hst, hst2])) (by decide) (by decide) (by rw [hst, hst2]) hpl) fun σ H Q h => ?_
 obtain ⟨e1, hR, q⟩ := h
 exact ⟨.ref a, e1, hR, .ref D, b, rfl, .inl ⟨.ref D, rfl, fun u hu => hu, hb⟩, q⟩
theorem pe_isB (hcr : eR (X.hand a oe) (.builtin "isinstance") (rIsi X.K C a R)) (hm : X.mg "isinstance" = none) (hmT : X.mg y = none) (hvT : bootBuiltins y = some (.type T)) (hb : PySem.W.kitOne X.K (.ref C) (.type T) = some b)
  (hN : X.N[i]? = some n := by rfl) (hv : Vis X.env.scope n := by first | exact Or.inl rfl | exact Or.inr (Or.inl rfl) | exact Or.inr (Or.inr rfl)) (hd1 : (n == ("__debug__" : Str)) = false := by decide) (hd2 : (n == ("__classdict__" : Str)) = false := by decide)
  (hg : Gl (X.hand a oe) "isinstance" := by rfl) (hgT : Gl (X.hand a oe) y := by rfl) (hy : y ≠ "__name__" := by decide) (hd3 : (y == ("__debug__" : Str)) = false := by decide)
  (hst : starEach [.Name n p1, .Name y p2] X.env = [(false, eval (.Name n p1) X.env), (false, eval (.Name y p2) X.env)] := by rfl) (hst2 : starEach [.Name y p2] X.env = [(false, eval (.Name y p2) X.env)] := by rfl) (hpl : (backTo pos (starEach [.Name y p2] X.env)).any (·.1) = false := by rfl) :
  PE (X.hand a oe) (.Call (.Name "isinstance" p) [.Name n p1, .Name y p2] [] pos) (vn i a R b) := by
 refine PE.imp (g4 (X := X.hand a oe) hcr hg hm boot_isinstance (aW (pv i hN hv hd1 hd2) (aW (Bp (X := X.hand a oe) (pos := p2) hgT hmT hvT hy hd3) eU hst2) (by rw [hst, hst2])) (by decide) (by decide) (by rw [hst, hst2]) hpl) fun σ H Q h => ?_
 obtain ⟨e1, hR, q⟩ := h
 exact ⟨.ref a, e1, hR, .ty T, b, rfl, .inl ⟨.type T, rfl, fun u hu => hu, hb⟩, q⟩
theorem pe_isT {j} (hcr : eR (X.hand a oe) (.builtin "isinstance") (rIsi X.K C a R)) (hm : X.mg "isinstance" = none) (hT : PA (X.hand a oe) es (B0 ys)) (hl : ys.length <= sizeLine) (hb : PySem.W.kitAny X.K (.ref C) (ys.map Value.ref) = some b)
  (hN : X.N[i]? = some n := by rfl) (hv : Vis X.env.scope n := by first | exact Or.inl rfl | exact Or.inr (Or.inl rfl) | exact Or.inr (Or.inr rfl)) (hd1 : (n == ("__debug__" : Str)) = false := by decide) (hd2 : (n == ("__classdict__" : Str)) = false := by decide)
  (hg : Gl (X.hand a oe) "isinstance" := by rfl)
  (hst : starEach [.Name n p1, .Tuple es j p2] X.env = [(false, eval (.Name n p1) X.env), (false, eval (.Tuple es j p2) X.env)] := by rfl) (hst2 : starEach [.Tuple es j p2] X.env = [(false, eval (.Tuple es j p2) X.env)] := by rfl) (hpl : (backTo pos (starEach [.Tuple es j p2] X.env)).any (·.1) = false := by rfl) :
  PE (X.hand a oe) (.Call (.Name "isinstance" p) [.Name n p1, .Tuple es j p2] [] pos) (zx i a R ys b) := by
 refine PE.imp (g4 (X := X.hand a oe) hcr hg hm boot_isinstance (aW (pv i hN hv hd1 hd2) (aW (Bq hT) eU hst2) (by rw [hst, hst2])) (by decide) (by decide) (by rw [hst, hst2]) hpl) fun σ H Q h => ?_
 obtain ⟨e1, q⟩ := h
 exact ⟨.ref a, e1, by rw [List.length_map]; exact hl, fun tp htp => ⟨(q tp htp).1, .ref tp, b, rfl, .inr ⟨tp, ys, rfl, ar, hb⟩, (q tp htp).2⟩⟩
end
noncomputable def zq (i j : Nat) (f1 f2 : Str) (b1 b2 b3 : Bool) : List (Str × Dat) -> ak -> M ak := fun fs ρ => match fs.lookup f1, fs.lookup f2 with
 | some a, some b => .ok ((ρ.set j (some (.lst [a, b, .bl b1, .bl b2, .bl b3]))).set i none)
 | _, _ => .error .stuck
section
variable {K : PySem.W.Frag} {ro : Bool} {F0 H0 FB F H : Hp} {OL O : List Nat} {D : Ends} {σ : St} {ρ : ak} {i j : Nat} {a d : Addr} {gs : List (Str × V)} {fs : List (Str × Dat)} {f1 f2 : Str} {b1 b2 b3 : Bool} {ys : List Addr}
theorem Rep.toldG {ds : List Dat} {vs : List V} {l : Addr} {H' : Hp} (r : Rep K F0 H0 FB O F H σ ρ) (hij : i ≠ j) (hi : i < σ.length) (hj : j < σ.length) (hiO : i ∉ O) (hjO : j ∉ O) (st : Step F H (upd F l (.lst vs)) H') (hl : F l = none) (df : aB K F ds vs) :
  Rep K F0 H0 FB O (upd F l (.lst vs)) H' (((σ.set i (some (.ref a))).set j (some (.ref l))).set i none) ((ρ.set j (some (.lst ds))).set i none) := by
 have ff : b9 F (upd F l (.lst vs)) := b9.upd hl
 have r2 := r.step st
 have out : ∀ m, m ≠ i -> m ≠ j -> (((σ.set i (some (.ref a))).set j (some (.ref l))).set i none)[m]? = σ[m]? := fun m h1 h2 => by
  rw [List.getElem?_set_ne (Ne.symm h1), List.getElem?_set_ne (Ne.symm h2), List.getElem?_set_ne (Ne.symm h1)]
 have outR : ∀ m, m ≠ i -> m ≠ j -> ((ρ.set j (some (.lst ds))).set i none)[m]? = ρ[m]? := fun m h1 h2 => by
  rw [List.getElem?_set_ne (Ne.symm h1), List.getElem?_set_ne (Ne.symm h2)]
 have noi : ∀ dd, ((ρ.set j (some (.lst ds))).set i none)[i]? ≠ some (some dd) := fun dd e => by
  rw [List.getElem?_set_self (by rw [List.length_set, r.len]; exact hi)] at e
  cases e
 refine ⟨r2.st, r2.fb, by simp only [List.length_set]; exact r.len, fun m dd e hm => ?_, fun m dd e hm => ?_, fun m n d1 d2 c hm hn e1 e2 e3 e4 => ?_⟩
 ·by_cases h1 : m = i
  ·subst h1; exact (noi _ e).elim
  ·by_cases h2 : m = j
   ·subst h2
    rw [List.getElem?_set_ne (Ne.symm h1), List.getElem?_set_self (by rw [r.len]; exact hj)] at e
    cases e
    refine ⟨.ref l, by rw [List.getElem?_set_ne (Ne.symm h1), List.getElem?_set_self (by rw [List.length_set]; exact hj)], l, vs, rfl, SqL.of ar, aB.mono ff df⟩
   ·rw [outR m h1 h2] at e
    rw [out m h1 h2]
    exact r2.fz m dd e hm
 ·have h1 : m ≠ i := fun z => hiO (z ▸ hm)
  have h2 : m ≠ j := fun z => hjO (z ▸ hm)
  rw [outR m h1 h2] at e
  rw [out m h1 h2]
  exact r2.ow m dd e hm
 ·have h1 : m ≠ i := fun z => hiO (z ▸ hm)
  have h2 : m ≠ j := fun z => hjO (z ▸ hm)
  have h3 : n ≠ i := fun z => hiO (z ▸ hn)
  have h4 : n ≠ j := fun z => hjO (z ▸ hn)
  rw [outR m h1 h2] at e1
  rw [outR n h3 h4] at e2
  rw [out m h1 h2] at e3
  rw [out n h3 h4] at e4
  exact r2.ap m n d1 d2 c hm hn e1 e2 e3 e4
theorem step_app {l p : Addr} {xs : List V} {y : V} {tp : HO} (fh : b9 F H) (hl : H l = none) (hp : H p = none) (hne : p ≠ l) : Step F H (upd F l (.lst (xs ++ [y]))) (upd (upd (upd H l (.lst xs)) p tp) l (.lst (xs ++ [y]))) := by
 have hh : b9 H (upd (upd (upd H l (.lst xs)) p tp) l (.lst (xs ++ [y]))) := fun c o e => by
  rw [aq (aC e hl), aq (aC e hp), aq (aC e hl)]; exact e
 refine ⟨b9.upd (fh.free hl), hh, fun c o e => ?_, fun c o e => ?_⟩
 ·by_cases hc : c = l
  ·subst hc; rw [ar] at e ⊢; exact e
  ·rw [aq hc] at e; exact hh c o (fh c o e)
 ·by_cases hc : c = l
  ·subst hc; exact .inr hl
  ·rw [aq hc] at e; exact .inl e
theorem rs_told5 (r : Rep K F0 H0 FB O F H σ ρ) (hd : F d = some (.xd gs)) (df : o6 K F fs gs) (hij : i ≠ j) (hi : i < σ.length) (hj : j < σ.length) (hiO : i ∉ O) (hjO : j ∉ O) (q : jq K Wno ro F0 H0 FB OL O D ((zq i j f1 f2 b1 b2 b3 fs ρ).bind fun ρ' => .ok (.nx ρ'))) :
  tSeq (AM (tLst (ip (xT i a d f1) (ip (xT i a d f2) (ip (vn i a (XDk d) b1) (ip (vn i a (XDk d) b2) AL))))) (oO j)) (B2 (tBM K "list" qg (tVar j) (ip (zx i a (XDk d) ys b3) AL))) (D.less i) (σ.set i (some (.ref a))) H := by
 have hz := sizeLine_eq
 have hH : H d = some (.xd gs) := r.st.fh d _ hd
 have e1 : (σ.set i (some (.ref a)))[i]? = some (some (.ref a)) := by rw [List.getElem?_set_self hi]
 unfold zq at q
 cases h1 : fs.lookup f1 with
 | none => rw [h1] at q; exact (Wno.ns q).elim
 | some x1 =>
  cases h2 : fs.lookup f2 with
  | none => rw [h1, h2] at q; exact (Wno.ns q).elim
  | some x2 =>
   rw [h1, h2] at q
   obtain ⟨v1, g1, q1⟩ := df.at.1 x1 h1
   obtain ⟨v2, g2, q2⟩ := df.at.1 x2 h2
   refine ⟨e1, gs, v1, hH, g1, e1, gs, v2, hH, g2, e1, ⟨gs, hH⟩, e1, ⟨gs, hH⟩, by show 4 <= sizeLine; omega, fun l hl => ?_⟩
   have e2 : ((σ.set i (some (.ref a))).set j (some (.ref l)))[j]? = some (some (.ref l)) := by rw [List.getElem?_set_self (by rw [List.length_set]; exact hj)]
   have e3 : ((σ.set i (some (.ref a))).set j (some (.ref l)))[i]? = some (some (.ref a)) := by rw [List.getElem?_set_ne (Ne.symm hij)]; exact e1
   refine ⟨.ref l, e2, sY ar, e3, fun p hp => ?_⟩
   have nlp : l ≠ p := fun z => by subst z; rw [ar] at hp; cases hp
   have hpH : H p = none := by rw [aq (Ne.symm nlp)] at hp; exact hp
   have ndl : d ≠ l := aC hH hl
   have ndp : d ≠ p := aC hH hpH
   refine ⟨⟨gs, by rw [aq ndp, aq ndl]; exact hH⟩, l, [v1, v2, .bl b1, .bl b2], .bl b3, rfl, rfl, by rw [aq nlp]; exact ar, by show 4 < sizeLine; omega, ?_⟩
   exact q _ _ _ (r.toldG hij hi hj hiO hjO (step_app (xs := [v1, v2, .bl b1, .bl b2]) r.st.fh hl hpH (Ne.symm nlp)) (r.st.fh.free hl) ⟨v1, _, rfl, q1, v2, _, rfl, q2, _, _, rfl, rfl, _, _, rfl, rfl, _, _, rfl, rfl, rfl⟩)
end
end L2
namespace L2
open PySem PySem.Spec PyProof.Rows
noncomputable def tsTold5 (K : PySem.W.Frag) (i j : Nat) (f1 f2 : Str) (b1 b2 b3 : Bool) (ys : List Addr) (a : Addr) : Option Addr -> TS
 | none => B1
 | some d => tSeq (AM (tLst (ip (xT i a d f1) (ip (xT i a d f2) (ip (vn i a (XDk d) b1) (ip (vn i a (XDk d) b2) AL))))) (oO j)) (B2 (tBM K "list" qg (tVar j) (ip (zx i a (XDk d) ys b3) AL)))
section
variable {X : Cx} {K : PySem.W.Frag} {ro : Bool} {OL O : List Nat} {C A1 : Addr} {c n to f1 f2 y1 y2 : Str} {T2 : String} {i j : Nat} {np hpos pos : Pos} {body suite : List Stmt} {fb : ak -> M Flo} {b₀ : Stmt} {b1 b2 b3 : Bool} {ys : List Addr}
theorem ds_told5 (hb : ∀ (pins : List (Addr × Obj)) (σ : St) (E : XK) (xe : Value -> Shared -> Prop), lX (CXd X.prog X.w) (X.v9 xe) pins σ E -> DSat K E ro (X.v9 xe) OL [] O pins σ body fb)
  (Z : XTry X.K X.mg c C) (hN : X.N.Nodup)
  (hs : ∀ (a d : Addr) (oe : Obj), oe.cls = .ref C -> (∃ vs, oe.data = .fields vs) -> oe.dict = some d -> PSs (X.hand a oe) (b₀ :: suite) (tSeq (AM (tLst (ip (xT i a d f1) (ip (xT i a d f2) (ip (vn i a (XDk d) b1) (ip (vn i a (XDk d) b2) AL))))) (oO j)) (B2 (tBM K "list" qg (tVar j) (ip (zx i a (XDk d) ys b3) AL)))))
  (hij : i ≠ j := by decide) (hiO : i ∉ O := by decide) (hjO : j ∉ O := by decide) (hi : X.N[i]? = some n := by rfl) (hj : X.N[j]? = some to := by rfl) (hk : X.env.scope.names.lookup n = some .local := by rfl)
  (hg : Gl X c := by rfl) (hex : X.ex = [] := by rfl) (hstk : X.stack = X.env :: X.outer := by rfl) (hfr : X.env.frame = some X.env.locals := by rfl) (hdb : (c == ("__debug__" : Str)) = false := by decide) :
  DS K Wno ro X OL O O (.Try body [.ExceptHandler (some (.Name c np)) (some n) (b₀ :: suite) hpos] [] [] pos) (qf O C fb (zq i j f1 f2 b1 b2 b3)) := by
 refine ds_tryF (ts := fun a dx => tsTold5 K i j f1 f2 b1 b2 b3 ys a dx) hb (fun a oe hc hd => ?_) (fun F0 H0 D σ a d gs fs FB F H ρ hl r h1 h2 p => rs_told5 r h1 h2 hij ?_ ?_ hiO hjO p) Z.nm (by decide +kernel) Z.mg hN hi hk hg hex hstk hfr hdb
 ·cases hx : oe.dict with
  | none => exact qj
  | some d => exact hs a d oe hc hd hx
 ·rw [hl]; exact (List.getElem?_eq_some_iff.mp hi).1
 ·rw [hl]; exact (List.getElem?_eq_some_iff.mp hj).1
end
noncomputable def tu (i : Nat) : ak -> M Flo := fun ρ => .ok (.nx (ρ.set i none))
@[simp] theorem e_sForget (i : Nat) (ρ : ak) : tu i ρ = .ok (.nx (ρ.set i none)) := id rfl
noncomputable def B5 (i : Nat) (C : Addr) (f : Str) : TE := fun σ H Q => ∃ a d fs v, σ[i]? = some (some (.ref a)) /\ H a = some (XO a C (some d)) /\ H d = some (XD d fs) /\ fs.lookup f = some v /\ Q v H
noncomputable def tMakeX (C : Addr) (f1 f2 : Str) (t : TA) : TE := fun σ H Q => t σ H fun vs H1 => ∃ v1 v2, vs = [v1, v2] /\ ∀ a d, H1 a = none -> H1 d = none -> d ≠ a -> Q (.ref a) (upd (upd H1 d (XD d [(f1, v1), (f2, v2)])) a (XO a C (some d)))
section
variable {X : Cx} {C f : Addr} {x n g f1 f2 : Str} {e1 e2 : Expr} {t : TA} {np cpos pos p1 : Pos} {k i : Nat} {fd : FuncData} {ps : List Str} {B newId initId : String} {bmB : List Value}
theorem pe_makeX (FB : ExcBaseFacts B newId initId bmB) (hC : nJ X.K C bmB newId f = true) (hf : PySem.W.typeIn X.K (.ref f) = some (.type "function")) (hk : PySem.W.keepIn X.K (.ref C) = true) (F : bJ X.prog X.w X.K X.mg X.base CX0 k f fd ps (spX2 C f1 f2)) (hr : ka (k + 1) X.A) (hb : Binds X.K fd ps [])
  (hm : X.mg x = some (.ref C)) (ha : PA X [e1, e2] t) (hg : Gl X x := by rfl) (hdb : (x == ("__debug__" : Str)) = false := by decide) (hst : starEach [e1, e2] X.env = (false, eval e1 X.env) :: starEach [e2] X.env := by rfl) (hpl : (backTo cpos (starEach [e2] X.env)).any (·.1) = false := by rfl) :
  PE X (.Call (.Name x np) [e1, e2] [] cpos) (tMakeX C f1 f2 t) := by
 intro pins s σ H Q I h
 refine wpAny_Call_Name_kw (iK I hg hm (PySem.W.callWith_K (h₀ := X.base) I.ok.mod.kin hk (thn (ha cpos pins s σ H _ I h) fun us s1 ⟨vs, H1, I1, r, q1⟩ => ⟨I1.kIn, ?_⟩) hst hpl) hdb)
 obtain ⟨v1, v2, rfl, q1⟩ := q1
 exact thn (new_x FB hC hf F hr hb I1 r) fun v s2 ⟨a, d, ev, hn, fa, fd', ne, J⟩ => ⟨.ref a, _, J, ev, q1 a d fa fd' ne⟩
theorem zJ {B : String} {bmB : List Value} (FB : ExcAttrBase B bmB) (Z : XIsi X.K C) (Y : xI X.K C g) (hN : X.N[i]? = some n := by rfl) (hv : Vis X.env.scope n := by first | exact Or.inl rfl | exact Or.inr (Or.inl rfl) | exact Or.inr (Or.inr rfl)) (hd1 : (n == ("__debug__" : Str)) = false := by decide) (hd2 : (n == ("__classdict__" : Str)) = false := by decide)
  (hb : attributeBase (.Name n p1) g X.env (eval (.Name n p1) X.env) = eval (.Name n p1) X.env := by rfl) : PE X (.Attribute (.Name n p1) g pos) (B5 i C g) := by
 intro pins s σ H Q I h
 obtain ⟨a, d, fs, v, e1, ea, ed, hl, q⟩ := h
 refine zf hb (thn (pv i hN hv hd1 hd2 pins s σ H (fun x H1 => x = .ref a /\ H1 = H) I ⟨.ref a, e1, rfl, rfl⟩) fun u s1 ⟨x, H1, I1, rx, ex, eH⟩ => ?_)
 subst ex eH
 cases (show u = Value.ref a from rx)
 obtain ⟨vs, _, pa⟩ := zo (I1.hok a _ ea)
 obtain ⟨mA, n1, r, _⟩ := AO (I1.hok d _ ed)
 obtain ⟨od, ho, hlk⟩ := qA n1
 obtain ⟨u', hu, ru⟩ := v7.some_of (v := v) (o := mA g) (by rw [<- hl]; exact r g)
 have J : PySem.W.InstAt s1.heap a ⟨.ref C, some d, .fields vs, #[]⟩ C (some od) := ⟨pa, rfl, rfl, ho⟩
 exact x_get FB I1.kIn J Z Y (by rw [hlk, hu]) (qK ru) ⟨v, H1, I1.tok _, ru, q⟩
end
section
variable {X : Cx} {K : PySem.W.Frag} {W : gI} {ro : Bool} {OL O' : List Nat} {C : Addr} {f1 f2 : Str} {i : Nat} {m1 m2 : Int} {s1 s2 : Stmt} {rest : List Stmt} {g : ak -> M Flo}
theorem ds_made2 (h1 : PS X s1 (AM (tMakeX C f1 f2 (ip (tC (.int m1)) (ip (tC (.int m2)) AL))) (oO i))) (h2 : PS X s2 (tIfS (tOr (AZ (tOp rNe (B5 i C f1) (tC (.int m1)))) (AZ (tOp rNe (B5 i C f2) (tC (.int m2))))) B1 tNext))
  (hrest : DSs K W ro X OL [] O' rest g) {n : Str} (hNi : X.N[i]? = some n := by rfl) (hne : (f2 == f1) = false := by decide) : DSs K W ro X OL [] O' (s1 :: s2 :: rest) (bR (tu i) g) := fun F0 H0 pins s σ H D I z => by
 refine jx h1 (jx h2 (hrest F0 H0)) pins s σ H D I ?_
 obtain ⟨FB, F, ρ, r, p⟩ := z
 have hl := I.len
 have hi : i < X.N.length := (List.getElem?_eq_some_iff.mp hNi).1
 refine ⟨.int m1, .int m2, rfl, fun a d ha hd ne => ?_⟩
 have e1 : (σ.set i (some (.ref a)))[i]? = some (some (.ref a)) := by rw [List.getElem?_set_self (by rw [hl]; exact hi)]
 have ed : upd (upd H d (XD d [(f1, .int m1), (f2, .int m2)])) a (XO a C (some d)) d = some (XD d [(f1, .int m1), (f2, .int m2)]) := by rw [aq ne]; exact ar
 refine ⟨a, d, _, .int m1, e1, ar, ed, by rw [List.lookup_cons, beq_self_eq_true], rfl, false, by simp, ?_⟩
 refine ⟨a, d, _, .int m2, e1, ar, ed, by rw [List.lookup_cons, hne, List.lookup_cons, beq_self_eq_true], rfl, false, by simp, ?_⟩
 have hh : b9 H (upd (upd H d (XD d [(f1, .int m1), (f2, .int m2)])) a (XO a C (some d))) := fun c o e => by
  rw [aq (aC e ha), aq (aC e hd)]; exact e
 have st : Step F H F (upd (upd H d (XD d [(f1, .int m1), (f2, .int m2)])) a (XO a C (some d))) := ⟨b9.refl F, hh, fun c o e => hh c o (r.st.fh c o e), fun c o e => .inl e⟩
 have r2 := r.step st
 have ez : bR (tu i) g ρ = g (ρ.set i none) := rfl
 rw [ez] at p
 refine ⟨FB, F, ρ.set i none, ⟨r2.st, r2.fb, by simp only [List.length_set]; exact r.len, fun m dd e _ => ?_, (fun m dd e h => nomatch h), (fun m n d1 d2 c h => nomatch h)⟩, p⟩
 have hmi : i ≠ m := fun z => by
  subst z
  rw [List.getElem?_set_self (by rw [r.len, hl]; exact hi)] at e
  cases e
 rw [List.getElem?_set_ne hmi] at e
 obtain ⟨v, h1, h2⟩ := r2.fz m dd e (by simp)
 exact ⟨v, by rw [List.getElem?_set_ne hmi]; exact h1, h2⟩
end
end L2
namespace Ru
open PySem L2 PyProof.Rows
noncomputable def jX (CR CP CN : Addr) (n : Nat) : ak -> M Flo :=
 sIf (fB (f2 gtD (fL zM (a9 (aj 0) aT)) (fC (.int 0))))
   (aX [] 2 (f2 ixD (aj 0) (f2 o7 (aj 1) (fL zM (a9 (aj 0) aT)))))
   gW
noncomputable def jO (CR CP CN : Addr) (n : Nat) : ak -> M Flo :=
 (bR (aX [] 2 (aj 1))
  (bR (jX CR CP CN n)
  (bR (aX [] 3 (f2 o7 (f2 rh (f2 lF (f2 lF (aj 2) (f2 rh (f2 rh (fC (.int 7919)) (aj 1)) (aj 1))) (aj 1)) (fC (.int 982451653))) (fC (.int 2305843009213693951))))
  (iH (f2 m5 (f2 o7 (f2 rh (aj 3) (fC (.int 1000003))) (fC (.int 1152921504606846883))) (fC (.int 8)))))))
noncomputable def aA (CR CP CN : Addr) (n : Nat) : List Dat -> M Dat := dS 4 2 (jO CR CP CN n)
noncomputable def eW (CR CP CN : Addr) (n : Nat) : ak -> M Flo :=
 (iH (f2 ixD (fL gB (a9 (fC (.int 1)) (a9 (fC (.int 1)) (a9 (fC (.int 100)) (a9 (f2 Bi (fC (.int 10)) (fC (.int 5))) aT))))) (f2 o7 (fL (aA CR CP CN n) (a9 (aj 0) (a9 (fC (.int 99)) aT))) (fC (.int 4)))))
noncomputable def bz (CR CP CN : Addr) (n : Nat) : List Dat -> M Dat := dS 1 1 (eW CR CP CN n)
noncomputable def gS (CR CP CN : Addr) (n : Nat) : ak -> M Flo :=
 (bR (aX [4, 6] 8 (fL (aA CR CP CN n) (a9 (aj 0) (a9 (f2 lF (f2 lF (aj 1) (f2 rh (aj 5) (aj 2))) (aj 7)) aT))))
  (ku [4, 6] 6 (f2 lF (f2 rh (f2 o7 (aj 8) (fC (.int 6))) (aj 3)) (f2 o7 (f2 m5 (aj 8) (fC (.int 6))) (aj 3)))))
noncomputable def k4 (CR CP CN : Addr) (n : Nat) : ak -> M Flo :=
 (bR (aX [4] 6 (fL gB aT))
  (bR (vb [4, 6] (yE zE (a9 (aj 2) aT)) (.nm 7) (gS CR CP CN n))
  (ku [4] 4 (aj 6))))
noncomputable def mQ (CR CP CN : Addr) (n : Nat) : ak -> M Flo :=
 (bR (aX [] 4 (fL gB aT))
  (bR (vb [4] (yE zE (a9 (aj 2) aT)) (.nm 5) (k4 CR CP CN n))
  (iH (aj 4))))
noncomputable def fY (CR CP CN : Addr) (n : Nat) : List Dat -> M Dat := dS 9 4 (mQ CR CP CN n)
noncomputable def fZ (CR CP CN : Addr) (n : Nat) : ak -> M Flo :=
 sIf (fB (f2 eqM (f2 o7 (fL (aA CR CP CN n) (a9 (aj 0) (a9 (fC (.int 1)) aT))) (fC (.int 2))) (fC (.int 1))))
   (aX [] 3 (fL (fY CR CP CN n) (a9 (aj 0) (a9 (fC (.int 50)) (a9 (aj 2) (a9 (aj 1) aT))))))
   gW
noncomputable def fF (CR CP CN : Addr) (n : Nat) : ak -> M Flo :=
 (bR (aX [] 2 (f2 lF (fC (.int 1)) (f2 o7 (fL (aA CR CP CN n) (a9 (aj 0) (a9 (fC (.int 0)) aT))) (fC (.int 6)))))
  (bR (aX [] 3 (fC .non))
  (bR (fZ CR CP CN n)
  (iH (fL ir (a9 (fL (fY CR CP CN n) (a9 (aj 0) (a9 (fC (.int 4)) (a9 (aj 2) (a9 (aj 1) aT))))) (a9 (aj 3) aT)))))))
noncomputable def bS (CR CP CN : Addr) (n : Nat) : List Dat -> M Dat := dS 4 2 (fF CR CP CN n)
noncomputable def jL (CR CP CN : Addr) (n : Nat) : ak -> M Flo :=
 (iH (mS (fIt (aj 0)) [none] (.nm 0) vc (fL wA (a9 (aj 0) aT))))
noncomputable def fw (CR CP CN : Addr) (n : Nat) : List Dat -> M Dat := dS 1 1 (jL CR CP CN n)
noncomputable def sJ (CR CP CN : Addr) (n : Nat) : ak -> M Flo :=
 sIf (fOr (Az (ur (f1 nF (aj 0)))) (ur (f1 l7 (aj 0))))
   (iH (fC (.bl false)))
   gW
noncomputable def uq (CR CP CN : Addr) (n : Nat) : ak -> M Flo :=
 (bR (sJ CR CP CN n)
  (iH (ki leD leD (fC (.int 0)) (aj 0) (fC (.int 1000000)))))
noncomputable def jA (CR CP CN : Addr) (n : Nat) : List Dat -> M Dat := dS 1 1 (uq CR CP CN n)
noncomputable def la (CR CP CN : Addr) (n : Nat) : ak -> M Flo :=
 (iH (uv (f1 gk (aj 0)) (uv (f2 eqM (fL zM (a9 (aj 0) aT)) (aj 1)) (fL allD (a9 (mS (fIt (aj 0)) [none] (.nm 0) vc (fL (jA CR CP CN n) (a9 (aj 0) aT))) aT)))))
noncomputable def dv (CR CP CN : Addr) (n : Nat) : List Dat -> M Dat := dS 2 2 (la CR CP CN n)
noncomputable def kq (CR CP CN : Addr) (n : Nat) : ak -> M Flo :=
 sIf (Az (fB (ki leD leD (fC (.int 1)) (aj 1) (fC (.int 6)))))
   sStk
   gW
noncomputable def ko (CR CP CN : Addr) (n : Nat) : ak -> M Flo :=
 sIf (Az (ur (fL allD (a9 (mS (fIt (aj 0)) [none, some 1] (.nm 0) vc (fL (dv CR CP CN n) (a9 (aj 0) (a9 (aj 1) aT)))) aT))))
   sStk
   gW
noncomputable def iP (CR CP CN : Addr) (n : Nat) : ak -> M Flo :=
 (bR (aX [] 1 (fL zM (a9 (aj 0) aT)))
  (bR (kq CR CP CN n)
  (bR (ko CR CP CN n)
  (iH (fL (fw CR CP CN n) (a9 (aj 0) aT))))))
noncomputable def aD (CR CP CN : Addr) (n : Nat) : List Dat -> M Dat := dS 2 1 (iP CR CP CN n)
noncomputable def jW (CR CP CN : Addr) (n : Nat) : ak -> M Flo :=
 sIf (fB (f2 isND (f2 ixD (aj 0) (fC (.int 1))) (fC .non)))
   (iH (fL (newR CR (aD CR CP CN n)) (a9 (f2 ixD (aj 0) (fC (.int 0))) aT)))
   gW
noncomputable def jN (CR CP CN : Addr) (n : Nat) : ak -> M Flo :=
 (bR (jW CR CP CN n)
  (iH (fL (newP CP (aD CR CP CN n)) (a9 (f2 ixD (aj 0) (fC (.int 0))) (a9 (f2 ixD (aj 0) (fC (.int 1))) aT)))))
noncomputable def eN (CR CP CN : Addr) (n : Nat) : List Dat -> M Dat := dS 1 1 (jN CR CP CN n)
noncomputable def eA (CR CP CN : Addr) (n : Nat) : ak -> M Flo :=
 sIf (fB (f2 eqM (f2 o7 (fL (aA CR CP CN n) (a9 (aj 0) (a9 (fC (.int 3)) aT))) (fC (.int 8))) (fC (.int 5))))
   (aX [] 4 (aj 2))
   gW
noncomputable def eB (CR CP CN : Addr) (n : Nat) : ak -> M Flo :=
 (bR (aX [5] 7 (fL (aA CR CP CN n) (a9 (aj 0) (a9 (f2 lF (fC (.int 100)) (aj 6)) aT))))
  (bR (aX [5] 8 (f2 o7 (f2 m5 (aj 7) (fC (.int 16))) (f2 rh (f2 rh (fC (.int 25)) (aj 3)) (f2 lF (aj 6) (fC (.int 1))))))
  (bR (aX [5] 9 (f2 ixD (fL gB (a9 (f2 Bi (fC (.int 10)) (fC (.int 9))) (a9 (f2 rh (f2 rh (fC (.int 100)) (aj 3)) (aj 4)) (a9 (f2 rh (f2 rh (fC (.int 12)) (aj 3)) (aj 4)) (a9 (f2 rh (fC (.int 3)) (aj 3)) aT))))) (f2 m5 (f2 o7 (aj 7) (fC (.int 16))) (fC (.int 5)))))
  (bR (aX [5] 10 (fL minD (a9 (f2 Bi (fC (.int 10)) (fC (.int 9))) (a9 (f2 lF (aj 8) (aj 9)) aT))))
  (bR (aX [5] 11 (fL minD (a9 (f2 Bi (fC (.int 10)) (fC (.int 9))) (a9 (f2 lF (aj 8) (f2 o7 (f2 m5 (aj 7) (fC (.int 1000))) (f2 rh (fC (.int 20)) (aj 3)))) aT))))
  (bR (aX [5] 12 (f2 ixD (fL gB (a9 (f2 o7 (f2 m5 (aj 7) (fC (.int 7))) (fC (.int 10))) (a9 (f2 o7 (f2 m5 (aj 7) (fC (.int 7))) (f2 lF (f2 Bi (fC (.int 10)) (fC (.int 9))) (fC (.int 1)))) aT))) (f2 o7 (f2 m5 (aj 7) (fC (.int 3))) (fC (.int 2)))))
  (ku [5] 5 (fL ir (a9 (f2 o7 (f2 m5 (aj 7) (fC (.int 11))) (fL zM (a9 (f2 ixD (aj 1) (fC (.int 0))) aT))) (a9 (aj 8) (a9 (aj 10) (a9 (aj 11) (a9 (aj 12) aT)))))))))))))
noncomputable def iQ (CR CP CN : Addr) (n : Nat) : ak -> M Flo :=
 (bR (aX [] 4 (f2 o7 (fL (aA CR CP CN n) (a9 (aj 0) (a9 (fC (.int 2)) aT))) (f2 lF (f2 m5 (aj 2) (fC (.int 4))) (fC (.int 1)))))
  (bR (eA CR CP CN n)
  (bR (aX [] 5 (fL gB aT))
  (bR (vb [5] (yE zE (a9 (aj 4) aT)) (.nm 6) (eB CR CP CN n))
  (iH (aj 5))))))
noncomputable def d8 (CR CP CN : Addr) (n : Nat) : List Dat -> M Dat := dS 13 4 (iQ CR CP CN n)
noncomputable def dN (CR CP CN : Addr) (n : Nat) : ak -> M Flo :=
 sIf (fOr (fB (f2 neM (f2 o7 (fL (aA CR CP CN n) (a9 (aj 0) (a9 (fC (.int 98)) aT))) (fC (.int 8))) (fC (.int 3)))) (fB (f2 eqM (aj 1) (fL gB aT))))
   (iH (fL ir (a9 (aj 1) (a9 (aj 2) aT))))
   gW
noncomputable def dP (CR CP CN : Addr) (n : Nat) : ak -> M Flo :=
 (ku [4] 4 (fL ir (a9 (aj 5) (a9 (aj 6) (a9 (fL minD (a9 (aj 7) (a9 (f2 lF (aj 6) (aj 3)) aT))) (a9 (aj 8) (a9 (aj 9) aT)))))))
noncomputable def dO (CR CP CN : Addr) (n : Nat) : ak -> M Flo :=
 (ku [11] 11 (fL ir (a9 (aj 5) (a9 (f2 lF (aj 6) (aj 10)) (a9 (f2 lF (aj 7) (aj 10)) (a9 (fL minD (a9 (f2 Bi (fC (.int 10)) (fC (.int 9))) (a9 (f2 lF (aj 8) (aj 10)) aT))) (a9 (aj 9) aT)))))))
noncomputable def dA (CR CP CN : Addr) (n : Nat) : ak -> M Flo :=
 (bR (dN CR CP CN n)
  (bR (aX [] 3 (f2 rh (fC (.int 300)) (fL (bz CR CP CN n) (a9 (aj 0) aT))))
  (bR (aX [] 4 (fL gB aT))
  (bR (vb [4] (fIt (aj 1)) (.tp [5, 6, 7, 8, 9]) (dP CR CP CN n))
  (bR (aX [] 10 (f2 subD (f2 Bi (fC (.int 10)) (fC (.int 9))) (fL maxD (a9 (mS (fIt (aj 4)) [none] (.nm 0) vc (f2 ixD (aj 0) (fC (.int 2)))) aT))))
  (bR (aX [] 11 (fL gB aT))
  (bR (vb [11] (fIt (aj 4)) (.tp [5, 6, 7, 8, 9]) (dO CR CP CN n))
  (iH (fL ir (a9 (aj 11) (a9 (mS (fIt (aj 2)) [none, none, some 10] (.tp [0, 1]) (fB (f2 leD (f2 lF (aj 1) (aj 2)) (f2 Bi (fC (.int 10)) (fC (.int 9))))) (fL ir (a9 (f2 lF (aj 0) (aj 2)) (a9 (f2 lF (aj 1) (aj 2)) aT)))) aT)))))))))))
noncomputable def bc (CR CP CN : Addr) (n : Nat) : List Dat -> M Dat := dS 12 3 (dA CR CP CN n)
noncomputable def fg (CR CP CN : Addr) (n : Nat) : ak -> M Bool :=
 (fB (f2 gtD (fL zM (a9 (aj 3) aT)) (fC (.int 0))))
noncomputable def gR (CR CP CN : Addr) (n : Nat) : ak -> M Flo :=
 (bR (rz false 6 (fL (aA CR CP CN n) (a9 (aj 0) (a9 (f2 lF (fC (.int 180)) (fL zM (a9 (aj 3) aT))) aT))))
  (bR (rz false 7 (f2 rh (f2 o7 (f2 m5 (aj 6) (fC (.int 64))) (fL minD (a9 (fL zM (a9 (aj 3) aT)) (a9 (fC (.int 3)) aT)))) (fL intD (a9 (f2 eqM (f2 o7 (aj 6) (fC (.int 4))) (fC (.int 0))) aT))))
  (bR (Bb 3 (.tp [8, 9]) (aj 7))
  (ku [3, 4] 4 (fL ir (a9 (aj 9) (a9 (f2 o7 (f2 m5 (aj 6) (fC (.int 4096))) (aj 5)) aT)))))))
noncomputable def mP (CR CP CN : Addr) (n : Nat) : ak -> M Flo :=
 (bR (aX [] 3 (fL mh (a9 (mS (yE zE (a9 (fL zM (a9 (aj 2) aT)) aT)) [none, some 2] (.nm 0) vc (fL ir (a9 (f2 ixD (f2 ixD (aj 1) (aj 0)) (fC (.int 1))) (a9 (aj 0) aT)))) aT)))
  (bR (aX [3] 4 (fL gB aT))
  (bR (aX [3, 4] 5 (f2 subD (fC (.int 2)) (fL intD (a9 (f2 isND (f2 ixD (aj 1) (fC (.int 1))) (fC .non)) aT))))
  (bR (dR (fg CR CP CN n) (gR CR CP CN n) n)
  (iH (aj 4))))))
noncomputable def fX (CR CP CN : Addr) (n : Nat) : List Dat -> M Dat := dS 10 3 (mP CR CP CN n)
noncomputable def dc (CR CP CN : Addr) (n : Nat) : ak -> M Flo :=
 sIf (fB (ki leD ltD (aj 3) (aj 1) (aj 4)))
   (bR (aX [] 1 (aj 4))
  (aX [] 2 (fC (.bl true))))
   gW
noncomputable def bh (CR CP CN : Addr) (n : Nat) : ak -> M Flo :=
 (dc CR CP CN n)
noncomputable def bD (CR CP CN : Addr) (n : Nat) : ak -> M Bool :=
 (ur (aj 2))
noncomputable def dg (CR CP CN : Addr) (n : Nat) : ak -> M Flo :=
 (bR (aX [] 2 (fC (.bl false)))
  (vb [] (fIt (aj 0)) (.tp [3, 4]) (bh CR CP CN n)))
noncomputable def gE (CR CP CN : Addr) (n : Nat) : ak -> M Flo :=
 (bR (aX [] 2 (fC (.bl true)))
  (bR (dR (bD CR CP CN n) (dg CR CP CN n) n)
  (iH (aj 1))))
noncomputable def cZ (CR CP CN : Addr) (n : Nat) : List Dat -> M Dat := dS 5 2 (gE CR CP CN n)
noncomputable def iV (CR CP CN : Addr) (n : Nat) : ak -> M Flo :=
 sIf (fB (f2 eqM (f2 ixD (aj 2) (fC (.int 1))) (f2 ixD (aj 3) (fC (.int 1)))))
   (iH (f2 ixD (f2 ixD (f2 ixD (aj 0) (fC (.int 0))) (aj 4)) (aj 5)))
   gW
noncomputable def iz (CR CP CN : Addr) (n : Nat) : ak -> M Flo :=
 (bR (aX [] 4 (f2 ixD (f2 ixD (aj 1) (f2 ixD (aj 2) (fC (.int 0)))) (fC (.int 0))))
  (bR (aX [] 5 (f2 ixD (f2 ixD (aj 1) (f2 ixD (aj 3) (fC (.int 0)))) (fC (.int 0))))
  (bR (iV CR CP CN n)
  (iH (f2 ixD (f2 ixD (f2 ixD (aj 0) (fC (.int 1))) (aj 4)) (aj 5))))))
noncomputable def eV (CR CP CN : Addr) (n : Nat) : List Dat -> M Dat := dS 6 4 (iz CR CP CN n)
noncomputable def g7 (CR CP CN : Addr) (n : Nat) : ak -> M Flo :=
 (rz false 7 (fL maxD (a9 (aj 7) (a9 (f2 lF (f2 ixD (aj 4) (aj 8)) (fL (eV CR CP CN n) (a9 (aj 0) (a9 (aj 1) (a9 (f2 ixD (aj 3) (aj 8)) (a9 (f2 ixD (aj 3) (aj 5)) aT)))))) aT))))
noncomputable def iU (CR CP CN : Addr) (n : Nat) : ak -> M Flo :=
 sIf (fB (f2 gtD (aj 7) (f2 ixD (aj 6) (fC (.int 2)))))
   (iH (fL ir (a9 (f2 ixD (f2 ixD (aj 3) (aj 5)) (fC (.int 0))) (a9 (aj 7) aT))))
   gW
noncomputable def g6 (CR CP CN : Addr) (n : Nat) : ak -> M Flo :=
 (bR (aX [4] 6 (f2 ixD (aj 1) (f2 ixD (f2 ixD (aj 3) (aj 5)) (fC (.int 0)))))
  (bR (aX [4] 7 (f2 ixD (aj 6) (fC (.int 1))))
  (bR (vb [4] (yE zE (a9 (aj 5) aT)) (.nm 8) (g7 CR CP CN n))
  (bR (aX [4] 7 (fL (cZ CR CP CN n) (a9 (aj 2) (a9 (aj 7) aT))))
  (bR (iU CR CP CN n)
  (ku [4] 4 (aj 7)))))))
noncomputable def iy (CR CP CN : Addr) (n : Nat) : ak -> M Flo :=
 (bR (aX [] 4 (fL gB aT))
  (bR (vb [4] (yE zE (a9 (fL zM (a9 (aj 3) aT)) aT)) (.nm 5) (g6 CR CP CN n))
  (iH (aj 4))))
noncomputable def dz (CR CP CN : Addr) (n : Nat) : List Dat -> M Dat := dS 9 4 (iy CR CP CN n)
noncomputable def oN (CR CP CN : Addr) (n : Nat) : ak -> M Flo :=
 (iH (mS (fIt (aj 1)) [none, none, some 0] (.tp [0, 1]) vc (fL ir (a9 (f2 ixD (f2 ixD (aj 2) (aj 0)) (fC (.int 0))) (a9 (aj 1) aT)))))
noncomputable def jh (CR CP CN : Addr) (n : Nat) : List Dat -> M Dat := dS 2 2 (oN CR CP CN n)
noncomputable def cw (CR CP CN : Addr) (n : Nat) : ak -> M Flo :=
 sIf (fAnd (ur (aj 1)) (fB (f2 leD (aj 2) (f2 ixD (f2 ixD (aj 1) (f1 negD (fC (.int 1)))) (fC (.int 1))))))
   (ya 1 (f1 negD (fC (.int 1))) (fL ir (a9 (f2 ixD (f2 ixD (aj 1) (f1 negD (fC (.int 1)))) (fC (.int 0))) (a9 (fL maxD (a9 (aj 3) (a9 (f2 ixD (f2 ixD (aj 1) (f1 negD (fC (.int 1)))) (fC (.int 1))) aT))) aT))))
   (ku [1] 1 (fL ir (a9 (aj 2) (a9 (aj 3) aT))))
noncomputable def bF (CR CP CN : Addr) (n : Nat) : ak -> M Flo :=
 (cw CR CP CN n)
noncomputable def fE (CR CP CN : Addr) (n : Nat) : ak -> M Flo :=
 (bR (aX [] 1 (fL gB aT))
  (bR (vb [1] (fIt (fL mh (a9 (aj 0) aT))) (.tp [2, 3]) (bF CR CP CN n))
  (iH (aj 1))))
noncomputable def bY (CR CP CN : Addr) (n : Nat) : List Dat -> M Dat := dS 4 1 (fE CR CP CN n)
noncomputable def nU (CR CP CN : Addr) (n : Nat) : ak -> M Flo :=
 sIf (fB (ki leD ltD (aj 2) (aj 1) (aj 3)))
   (iH (aj 3))
   gW
noncomputable def jZ (CR CP CN : Addr) (n : Nat) : ak -> M Flo :=
 (nU CR CP CN n)
noncomputable def jK (CR CP CN : Addr) (n : Nat) : ak -> M Flo :=
 (bR (vb [] (fIt (fL (bY CR CP CN n) (a9 (aj 0) aT))) (.tp [2, 3]) (jZ CR CP CN n))
  (iH (aj 1)))
noncomputable def fW (CR CP CN : Addr) (n : Nat) : List Dat -> M Dat := dS 4 2 (jK CR CP CN n)
noncomputable def jQ (CR CP CN : Addr) (n : Nat) : ak -> M Flo :=
 (iH (f2 ixD (f2 ixD (f1 (uT [CR, CP] "gaps") (aj 0)) (f2 ixD (aj 1) (fC (.int 0)))) (f2 ixD (aj 2) (fC (.int 0)))))
noncomputable def cO (CR CP CN : Addr) (n : Nat) : List Dat -> M Dat := dS 3 3 (jQ CR CP CN n)
noncomputable def iA (CR CP CN : Addr) (n : Nat) : ak -> M Flo :=
 (bR (aX [] 3 (fIte (fB (f2 eqM (f2 ixD (aj 1) (fC (.int 1))) (f2 ixD (aj 2) (fC (.int 1))))) (f1 (uT [CR, CP] "gaps") (aj 0)) (f1 (uT [CP] "beside") (aj 0))))
  (iH (f2 ixD (f2 ixD (aj 3) (f2 ixD (aj 1) (fC (.int 0)))) (f2 ixD (aj 2) (fC (.int 0))))))
noncomputable def cG (CR CP CN : Addr) (n : Nat) : List Dat -> M Dat := dS 4 3 (iA CR CP CN n)
noncomputable def mO (CR CP CN : Addr) (n : Nat) : ak -> M Flo :=
 (iH (mS (yE zE (a9 (aj 3) aT)) [none, some 0, some 1, some 2, some 3] (.nm 0) vc (f2 lF (f2 ixD (aj 3) (aj 0)) (lh CR CP "apart" (cO CR CP CN n) (cG CR CP CN n) (aj 1) (a9 (f2 ixD (aj 2) (aj 0)) (a9 (f2 ixD (aj 2) (aj 4)) aT))))))
noncomputable def hX (CR CP CN : Addr) (n : Nat) : List Dat -> M Dat := dS 4 4 (mO CR CP CN n)
noncomputable def lE (CR CP CN : Addr) (n : Nat) : ak -> M Flo :=
 sIf (fB (f2 gtD (aj 9) (f2 ixD (aj 8) (fC (.int 2)))))
   (Ai CN "flight" "time" (a9 (f2 ixD (aj 7) (fC (.int 0))) (a9 (aj 9) aT)))
   gW
noncomputable def eY (CR CP CN : Addr) (n : Nat) : ak -> M Flo :=
 (bR (fNoX (aX [5] 8 (f2 ixD (aj 1) (f2 ixD (aj 7) (fC (.int 0))))))
  (bR (fNoX (rz false 9 (fL (fW CR CP CN n) (a9 (aj 2) (a9 (fL maxD (a9 (f2 lF (fL gB (a9 (f2 ixD (aj 8) (fC (.int 1))) aT)) (fL (hX CR CP CN n) (a9 (aj 0) (a9 (aj 4) (a9 (aj 5) (a9 (aj 6) aT)))))) aT)) aT)))))
  (bR (lE CR CP CN n)
  (fNoX (ku [5] 5 (aj 9))))))
noncomputable def lW (CR CP CN : Addr) (n : Nat) : ak -> M Flo :=
 (bR (fNoX (aX [] 4 (fL (jh CR CP CN n) (a9 (aj 1) (a9 (aj 3) aT)))))
  (bR (fNoX (aX [] 5 (fL gB aT)))
  (bR (vb [5] (wQ (aj 3)) (.tp [6, 7]) (eY CR CP CN n))
  (fNoX (iH (aj 5))))))
noncomputable def dH (CR CP CN : Addr) (n : Nat) : List Dat -> M Dat := dS 10 4 (lW CR CP CN n)
noncomputable def lb (CR CP CN : Addr) (n : Nat) : ak -> M Flo :=
 (iH (uv (f1 nF (aj 0)) (f1 notD (f1 l7 (aj 0)))))
noncomputable def bL (CR CP CN : Addr) (n : Nat) : List Dat -> M Dat := dS 1 1 (lb CR CP CN n)
noncomputable def gQ (CR CP CN : Addr) (n : Nat) : ak -> M Flo :=
 qf [4] CN (aX [] 4 (fL (dH CR CP CN n) (a9 (aj 0) (a9 (aj 1) (a9 (aj 2) (a9 (aj 3) aT)))))) (zq 6 5 "flight" "time" true true false)
noncomputable def jV (CR CP CN : Addr) (n : Nat) : ak -> M Flo :=
 sIf (fB (f2 eqM (aj 5) (fL gB aT)))
   (iH (aj 4))
   gW
noncomputable def nV (CR CP CN : Addr) (n : Nat) : ak -> M Flo :=
 sIf (fOr (fB (f2 neM (fSl zC (aj 5) (yk (fC (.int 2))) pNone) (fL gB (a9 (fC (.bl true)) (a9 (fC (.bl true)) (a9 (fC (.bl false)) aT)))))) (fOr (Az (ur (fL (bL CR CP CN n) (a9 (f2 ixD (aj 5) (fC (.int 0))) aT)))) (Az (ur (fL (bL CR CP CN n) (a9 (f2 ixD (aj 5) (fC (.int 1))) aT))))))
   (vG (fC .non))
   gW
noncomputable def jM (CR CP CN : Addr) (n : Nat) : ak -> M Flo :=
 (bR (aX [] 4 (fL gB aT))
  (bR (aX [4] 5 (fL gB aT))
  (bR (gQ CR CP CN n)
  (bR (jV CR CP CN n)
  (bR (nV CR CP CN n)
  (vG (fL ir (a9 (f2 ixD (aj 5) (fC (.int 0))) (a9 (f2 ixD (aj 5) (fC (.int 1))) aT)))))))))
noncomputable def dw (CR CP CN : Addr) (n : Nat) : List Dat -> M Dat := dS 7 4 (jM CR CP CN n)
noncomputable def fO (CR CP CN : Addr) (n : Nat) : ak -> M Flo :=
 sIf (fB (f2 eqM (f2 o7 (fL (aA CR CP CN n) (a9 (aj 0) (a9 (fC (.int 151)) aT))) (fC (.int 8))) (fC (.int 5))))
   (aX [] 2 (fC (.int 20)))
   gW
noncomputable def ie (CR CP CN : Addr) (n : Nat) : ak -> M Flo :=
 (bR (aX [3] 5 (fL (aA CR CP CN n) (a9 (aj 0) (a9 (f2 lF (fC (.int 152)) (aj 4)) aT))))
  (bR (aX [3] 6 (f2 o7 (f2 m5 (aj 5) (fC (.int 9))) (f2 rh (fC (.int 150)) (aj 1))))
  (ku [3] 3 (fL ir (a9 (aj 6) (a9 (f2 lF (f2 lF (aj 6) (fC (.int 1))) (f2 rh (f2 o7 (aj 5) (fC (.int 9))) (aj 1))) aT))))))
noncomputable def jP (CR CP CN : Addr) (n : Nat) : ak -> M Flo :=
 (bR (aX [] 2 (f2 o7 (fL (aA CR CP CN n) (a9 (aj 0) (a9 (fC (.int 150)) aT))) (fC (.int 5))))
  (bR (fO CR CP CN n)
  (bR (aX [] 3 (fL gB aT))
  (bR (vb [3] (yE zE (a9 (aj 2) aT)) (.nm 4) (ie CR CP CN n))
  (iH (aj 3))))))
noncomputable def dI (CR CP CN : Addr) (n : Nat) : List Dat -> M Dat := dS 7 2 (jP CR CP CN n)
noncomputable def yO (CR CP CN : Addr) (n : Nat) : ak -> M Flo :=
 sIf (fOr (fB (f2 neM (aj 10) (aj 8))) (fB (f2 neM (aj 9) (fL gB (a9 (aj 5) (a9 (aj 6) (a9 (aj 7) aT)))))))
   (iH (fC (.bl false)))
   gW
noncomputable def Cu (CR CP CN : Addr) (n : Nat) : ak -> M Flo :=
 sIf (fOr (Az (ur (f1 gk (aj 10)))) (fB (f2 neM (fL zM (a9 (mS (fIt (aj 10)) [none] (.nm 0) (ur (fL (bL CR CP CN n) (a9 (aj 0) aT))) (aj 0)) aT)) (fL zM (a9 (aj 8) aT)))))
   (iH (fC (.bl false)))
   gW
noncomputable def yN (CR CP CN : Addr) (n : Nat) : ak -> M Flo :=
 sIf (ur (f1 gk (aj 8)))
   (bR (Cu CR CP CN n)
  (bR (ku [10] 10 (fC (.int 0)))
  gW))
   gW
noncomputable def g_law (CR CP CN : Addr) (n : Nat) : ak -> M Flo :=
 (bR (tu 1)
  (bR (aX [] 2 (fL (bz CR CP CN n) (a9 (aj 0) aT)))
  (bR (aX [] 3 (fL (bS CR CP CN n) (a9 (aj 0) (a9 (aj 2) aT))))
  (bR (aX [] 4 (fL (eN CR CP CN n) (a9 (aj 3) aT)))
  (bR (aX [] 5 (fL (d8 CR CP CN n) (a9 (aj 0) (a9 (aj 3) (a9 (fC (.int 40)) (a9 (aj 2) aT))))))
  (bR (y0 [] (.tp [5, 6]) (fL (bc CR CP CN n) (a9 (aj 0) (a9 (aj 5) (a9 (fL (dI CR CP CN n) (a9 (aj 0) (a9 (aj 2) aT))) aT)))))
  (bR (aX [] 7 (fL (fX CR CP CN n) (a9 (aj 0) (a9 (aj 3) (a9 (aj 5) aT)))))
  (bR (aX [] 8 (fL (dz CR CP CN n) (a9 (aj 3) (a9 (aj 5) (a9 (aj 6) (a9 (aj 7) aT))))))
  (bR (aX [] 9 (fL gB (a9 (fL wA (a9 (aj 5) aT)) (a9 (fL wA (a9 (aj 6) aT)) (a9 (fL wA (a9 (aj 7) aT)) aT)))))
  (bR (aX [] 10 (fL (dw CR CP CN n) (a9 (aj 4) (a9 (f2 ixD (aj 9) (fC (.int 0))) (a9 (f2 ixD (aj 9) (fC (.int 1))) (a9 (f2 ixD (aj 9) (fC (.int 2))) aT))))))
  (bR (yO CR CP CN n)
  (bR (yN CR CP CN n)
  (iH (f2 eqM (fL (dw CR CP CN n) (a9 (aj 4) (a9 (f2 ixD (aj 9) (fC (.int 0))) (a9 (f2 ixD (aj 9) (fC (.int 1))) (a9 (f2 ixD (aj 9) (fC (.int 2))) aT))))) (aj 8)))))))))))))))
noncomputable def BG (CR CP CN : Addr) (n : Nat) : List Dat -> M Dat := dS 11 1 (g_law CR CP CN n)
noncomputable def top (i : Nat) : Stmt := PySem.Challenge.pw_wakeorder_k22_earliest_times.main.body.getD i (.Pass ⟨0, 0, 0, 0⟩)
noncomputable abbrev bu : Stmt := top 28
noncomputable abbrev cE : Stmt := top 37
noncomputable abbrev eK : Stmt := top 30
noncomputable abbrev bP : Stmt := top 31
noncomputable abbrev cL : Stmt := top 23
noncomputable abbrev jv : Stmt := top 21
noncomputable abbrev di : Stmt := top 22
noncomputable abbrev bK : Stmt := top 24
noncomputable abbrev eJ : Stmt := top 32
noncomputable abbrev cu : Stmt := top 34
noncomputable abbrev bQ : Stmt := top 39
noncomputable abbrev eI : Stmt := top 36
noncomputable abbrev bE : Stmt := top 38
noncomputable abbrev dk : Stmt := top 33
noncomputable abbrev dj : Stmt := top 40
noncomputable abbrev fS : Stmt := top 15
noncomputable abbrev ba : Stmt := top 12
noncomputable abbrev eE : Stmt := top 13
noncomputable abbrev cN : Stmt := inClass (top 25) 3
noncomputable abbrev dn : Stmt := inClass (top 26) 2
noncomputable abbrev eF : Stmt := top 16
noncomputable abbrev fQ : Stmt := top 17
noncomputable abbrev cD : Stmt := top 29
noncomputable abbrev eG : Stmt := top 41
noncomputable abbrev cM : Stmt := top 35
noncomputable abbrev Ah : Stmt := top 42
noncomputable abbrev s_nR : Stmt := inClass (top 25) 0
noncomputable abbrev s_nP : Stmt := inClass (top 26) 0
noncomputable abbrev vF : Stmt := inClass (top 4) 0
structure Zs (K : PySem.W.Frag) (mg : Str -> Option Value) (CR CP CN AStripError ANoPlace ANoPlan ANoRow ANoRules ANoSheet ANotFree ATooMany : Addr) : Prop where
 mI_StripError : mg "StripError" = some (.ref AStripError)
 mI_NoPlace : mg "NoPlace" = some (.ref ANoPlace)
 mI_NoPlan : mg "NoPlan" = some (.ref ANoPlan)
 mI_NoRow : mg "NoRow" = some (.ref ANoRow)
 mI_NoRules : mg "NoRules" = some (.ref ANoRules)
 mI_NoSheet : mg "NoSheet" = some (.ref ANoSheet)
 mI_NotFree : mg "NotFree" = some (.ref ANotFree)
 mI_TooMany : mg "TooMany" = some (.ref ATooMany)
 kO_CN_StripError : PySem.W.kitOne K (.ref CN) (.ref AStripError) = some true
 kB_CN_ValueError : PySem.W.kitOne K (.ref CN) (.type "ValueError") = some true
 kT_CN : PySem.W.kitAny K (.ref CN) ([ANoPlace, ANoPlan, ANoRow, ANoRules, ANoSheet, ANotFree, ATooMany].map Value.ref) = some false
 xCN : XTry K mg "NoTime" CN
 aCN_flight : xI K CN "flight"
 aCN_time : xI K CN "time"
 kR : Kls K mg "Rules" CR
 kP : Kls K mg "Pair" CP
 zU : ∀ C ∈ [CR, CP], Cls K C /\ kr K C "gaps"
 Aw : ∀ C ∈ [CP], Cls K C /\ kr K C "beside"
 g8 : mg "ValueError" = none
 Aa : mg "all" = none
 se : mg "bool" = none
 gU : mg "enumerate" = none
 ve : mg "int" = none
 aS : mg "isinstance" = none
 kA : mg "len" = none
 kz : mg "list" = none
 vd : mg "max" = none
 sR : mg "min" = none
 gz : mg "range" = none
 lR : mg "sorted" = none
 dZ : ∃ t, mg "GREATEST_GAP" = some (.int 1000000 t)
 gm : ∃ t, mg "MOST_KINDS" = some (.int 6 t)
 kit : Kit K
theorem sc_nCN : aR ["self", "flight", "time"] ["self", "flight", "time"] (af vF) := ⟨rfl, rfl, rfl, by decide +kernel, rfl, by decide +kernel, by decide +kernel⟩
theorem okn_CN {P : Program} {w : World} {K : PySem.W.Frag} {mg : Str -> Option Value} {base : Heap} {C f : Addr} {fd : FuncData} (N : Fun K "__init__" "NoTime.__init__" vF f fd) (z1 : xI K C "flight") (z2 : xI K C "time") : bJ P w K mg base CX0 1 f fd ["self", "flight", "time"] (spX2 C "flight" "time") := by
 refine N.okX sc_nCN (fun vs H Q E h => ?_) (fun cdv A outer s H vs Q E hr h => ?_)
 ·obtain ⟨a, v1, v2, rfl, _⟩ := h
  rfl
 ·obtain ⟨a, v1, v2, rfl, ha, q⟩ := h
  refine ⟨_, jx (ps_x1 (pv 0) (pv 1) z1) (qi (ps_x2 (pv 0) (pv 2) z2)), ?_⟩
  refine ⟨v1, rfl, _, rfl, a, rfl, ha, fun d hd hne => ⟨v2, rfl, _, rfl, a, d, [("flight", v1)], rfl, ar, by rw [aq hne]; exact ar, hne, (by show 1 <= 900; decide), ?_⟩⟩
  rw [upd_mid hne]
  exact q d hd hne
theorem iw : aR ["_law_script", "_law_k", "_law_cell", "_law_number"] ["_law_script", "_law_k"] (af bu) := ⟨rfl, rfl, rfl, by decide +kernel, rfl, by decide +kernel, by decide +kernel⟩
theorem vY {n : Nat} {P : Program} {w : World} {K : PySem.W.Frag} {mg : Str -> Option Value} {base : Heap} {CR CP CN AStripError ANoPlace ANoPlan ANoRow ANoRules ANoSheet ANotFree ATooMany : Addr} (Z : Zs K mg CR CP CN AStripError ANoPlace ANoPlan ANoRow ANoRules ANoSheet ANotFree ATooMany) {aw : Addr} {ax : FuncData} (aa : Def K mg "_law_draw" bu ["_law_script", "_law_k"] aw ax) : bJ P w K mg base CX0 1 aw ax ["_law_script", "_law_k"] (spF K false (aA CR CP CN n) 2) :=
 pN (O' := []) aa.fn iw false (jO CR CP CN n) fun cdv A outer s H E hr =>
  (ah (av (i := 2) (own := false) iw.nd (ao 1))
  (ah (jj (fM o_gt (aZ pT Z.kA PySem.boot_len (a8 (ao 0) ai)) ae)
   (aF (av (i := 2) (own := false) iw.nd (aN dh (ao 0) (aE gA (ao 1) (aZ pT Z.kA PySem.boot_len (a8 (ao 0) ai))))))
   eX)
  (ah (av (i := 3) (own := false) iw.nd (aE gA (aE kx (aJ (aE gh (aJ (aE gh (ao 2) (aE kx (aE kx ae (ao 1)) (ao 1)))) (ao 1))) ae) ae))
  (aF (bN (aE jf (aE gA (aE kx (ao 3) ae) ae) ae))))))
theorem tm : aR ["_law_script"] ["_law_script"] (af cE) := ⟨rfl, rfl, rfl, by decide +kernel, rfl, by decide +kernel, by decide +kernel⟩
theorem tP {n : Nat} {P : Program} {w : World} {K : PySem.W.Frag} {mg : Str -> Option Value} {base : Heap} {CR CP CN AStripError ANoPlace ANoPlan ANoRow ANoRules ANoSheet ANotFree ATooMany : Addr} (Z : Zs K mg CR CP CN AStripError ANoPlace ANoPlan ANoRow ANoRules ANoSheet ANotFree ATooMany) {aw : Addr} {ax : FuncData} (aa : Def K mg "_law_draw" bu ["_law_script", "_law_k"] aw ax) (au : bJ P w K mg base CX0 1 aw ax ["_law_script", "_law_k"] (spF K false (aA CR CP CN n) 2)) {bo : Addr} {cb : FuncData} (b8 : Def K mg "_law_scale" cE ["_law_script"] bo cb) : bJ P w K mg base CX0 2 bo cb ["_law_script"] (spF K false (bz CR CP CN n) 1) :=
 pN (O' := []) b8.fn tm false (eW CR CP CN n) fun cdv A outer s H E hr =>
  (aF (bN (aN dh (aJ (ee (a8 ae (a8 ae (a8 ae (a8 (aE wt ae ae) ai)))))) (aE gA (aL au hr aa.mg aa.fn.kp aa.bd (a8 (ao 0) (a8 ae ai))) ae))))
theorem eT : aR ["_law_script", "_law_by", "_law_kinds", "_law_scale_here", "_law_rows", "_law_one", "_law_row", "_law_other", "_law_number"] ["_law_script", "_law_by", "_law_kinds", "_law_scale_here"] (af eK) := ⟨rfl, rfl, rfl, by decide +kernel, rfl, by decide +kernel, by decide +kernel⟩
theorem vX {n : Nat} {P : Program} {w : World} {K : PySem.W.Frag} {mg : Str -> Option Value} {base : Heap} {CR CP CN AStripError ANoPlace ANoPlan ANoRow ANoRules ANoSheet ANotFree ATooMany : Addr} (Z : Zs K mg CR CP CN AStripError ANoPlace ANoPlan ANoRow ANoRules ANoSheet ANotFree ATooMany) {aw : Addr} {ax : FuncData} (aa : Def K mg "_law_draw" bu ["_law_script", "_law_k"] aw ax) (au : bJ P w K mg base CX0 1 aw ax ["_law_script", "_law_k"] (spF K false (aA CR CP CN n) 2)) {cV : Addr} {gw : FuncData} (bV : Def K mg "_law_gaps" eK ["_law_script", "_law_by", "_law_kinds", "_law_scale_here"] cV gw) : bJ P w K mg base CX0 2 cV gw ["_law_script", "_law_by", "_law_kinds", "_law_scale_here"] (spF K false (fY CR CP CN n) 4) :=
 pN (O' := []) bV.fn eT false (mQ CR CP CN n) fun cdv A outer s H E hr =>
  (ah (av (i := 4) (own := true) eT.nd (ee ai))
  (ah (kj (pt := .nm 5) (ll Z.gz (a8 (ao 2) ai)) (AD eT.nd)
   (ah (av (i := 6) (own := true) eT.nd (ee ai))
  (bW (O2 := [4, 6]) (ah (kj (pt := .nm 7) (ll Z.gz (a8 (ao 2) ai)) (AD eT.nd)
   (ah (av (i := 8) (own := false) eT.nd (aL au hr aa.mg aa.fn.kp aa.bd (a8 (ao 0) (a8 (aJ (aE gh (aJ (aE gh (ao 1) (aE kx (ao 5) (ao 2)))) (ao 7))) ai))))
  (aF (i7 (i := 6) (aJ (aE gh (aE kx (aE gA (ao 8) ae) (ao 3)) (aE gA (aE jf (ao 8) ae) (ao 3))))))))
  (bW (O2 := [4]) (aF (i7 (i := 4) (ao 6))))))))
  (bW (O2 := []) (aF (bN (ao 4))))))
theorem eh : aR ["_law_script", "_law_scale_here", "_law_kinds", "_law_beside"] ["_law_script", "_law_scale_here"] (af bP) := ⟨rfl, rfl, rfl, by decide +kernel, rfl, by decide +kernel, by decide +kernel⟩
theorem pF {n : Nat} {P : Program} {w : World} {K : PySem.W.Frag} {mg : Str -> Option Value} {base : Heap} {CR CP CN AStripError ANoPlace ANoPlan ANoRow ANoRules ANoSheet ANotFree ATooMany : Addr} (Z : Zs K mg CR CP CN AStripError ANoPlace ANoPlan ANoRow ANoRules ANoSheet ANotFree ATooMany) {cV : Addr} {gw : FuncData} (bV : Def K mg "_law_gaps" eK ["_law_script", "_law_by", "_law_kinds", "_law_scale_here"] cV gw) (iE : bJ P w K mg base CX0 2 cV gw ["_law_script", "_law_by", "_law_kinds", "_law_scale_here"] (spF K false (fY CR CP CN n) 4)) {aw : Addr} {ax : FuncData} (aa : Def K mg "_law_draw" bu ["_law_script", "_law_k"] aw ax) (au : bJ P w K mg base CX0 1 aw ax ["_law_script", "_law_k"] (spF K false (aA CR CP CN n) 2)) {bf : Addr} {d6 : FuncData} (bB : Def K mg "_law_rules_of" bP ["_law_script", "_law_scale_here"] bf d6) : bJ P w K mg base CX0 3 bf d6 ["_law_script", "_law_scale_here"] (spF K false (bS CR CP CN n) 2) :=
 pN (O' := []) bB.fn eh false (fF CR CP CN n) fun cdv A outer s H E hr =>
  (ah (av (i := 2) (own := false) eh.nd (aJ (aE gh ae (aE gA (aL au (hr.mono (by decide)) aa.mg aa.fn.kp aa.bd (a8 (ao 0) (a8 ae ai))) ae))))
  (ah (av (i := 3) (own := false) eh.nd zX)
  (ah (jj (fM (o_eq hr.units) (aE gA (aL au (hr.mono (by decide)) aa.mg aa.fn.kp aa.bd (a8 (ao 0) (a8 ae ai))) ae) ae)
   (aF (av (i := 3) (own := false) eh.nd (aL iE hr bV.mg bV.fn.kp bV.bd (a8 (ao 0) (a8 ae (a8 (ao 2) (a8 (ao 1) ai)))))))
   eX)
  (aF (bN (i8 (a8 (aL iE hr bV.mg bV.fn.kp bV.bd (a8 (ao 0) (a8 ae (a8 (ao 2) (a8 (ao 1) ai))))) (a8 (ao 3) ai))))))))
theorem rp : aR ["rows"] ["rows"] (af cL) := ⟨rfl, rfl, rfl, by decide +kernel, rfl, by decide +kernel, by decide +kernel⟩
theorem rE {n : Nat} {P : Program} {w : World} {K : PySem.W.Frag} {mg : Str -> Option Value} {base : Heap} {CR CP CN AStripError ANoPlace ANoPlan ANoRow ANoRules ANoSheet ANotFree ATooMany : Addr} (Z : Zs K mg CR CP CN AStripError ANoPlace ANoPlan ANoRow ANoRules ANoSheet ANotFree ATooMany) {bG : Addr} {e6 : FuncData} (cm : Def K mg "copied_rows" cL ["rows"] bG e6) : bJ P w K mg base CX0 1 bG e6 ["rows"] (spF K false (fw CR CP CN n) 1) :=
 pN (O' := []) cm.fn rp false (jL CR CP CN n) fun cdv A outer s H E hr =>
  (aF (bN (aJ (jR ["row"] [none] (kl (ao 0)) (fun _ _ _ _ _ => qM (by decide +kernel)) (eO rfl) (fun _ _ _ _ _ => mU) (fun _ _ _ _ _ => (aJ (jk A3 Z.kz PyProof.Rows.boot_list (a8 (ao 0) ai))))))))
theorem Ba : aR ["number"] ["number"] (af jv) := ⟨rfl, rfl, rfl, by decide +kernel, rfl, by decide +kernel, by decide +kernel⟩
theorem By {n : Nat} {P : Program} {w : World} {K : PySem.W.Frag} {mg : Str -> Option Value} {base : Heap} {CR CP CN AStripError ANoPlace ANoPlan ANoRow ANoRules ANoSheet ANotFree ATooMany : Addr} (Z : Zs K mg CR CP CN AStripError ANoPlace ANoPlan ANoRow ANoRules ANoSheet ANotFree ATooMany) {gN : Addr} {lg : FuncData} (iF : Def K mg "is_gap" jv ["number"] gN lg) : bJ P w K mg base CX0 1 gN lg ["number"] (spF K false (jA CR CP CN n) 1) :=
 pN (O' := []) iF.fn Ba false (uq CR CP CN n) fun cdv A outer s H E hr =>
  (ah (jj (PW.pt (AB (sC (m7 (sE Z.kit Z.aS Z.ve (ao 0)))) (wW (m7 (qO Z.kit Z.aS Z.se (ao 0))))))
   (aF (bN uE))
   eX)
  (aF (bN (de_chain o_le o_le ae (ao 0) (C8 Z.dZ)))))
theorem tf : aR ["row", "kinds"] ["row", "kinds"] (af di) := ⟨rfl, rfl, rfl, by decide +kernel, rfl, by decide +kernel, by decide +kernel⟩
theorem tN {n : Nat} {P : Program} {w : World} {K : PySem.W.Frag} {mg : Str -> Option Value} {base : Heap} {CR CP CN AStripError ANoPlace ANoPlan ANoRow ANoRules ANoSheet ANotFree ATooMany : Addr} (Z : Zs K mg CR CP CN AStripError ANoPlace ANoPlan ANoRow ANoRules ANoSheet ANotFree ATooMany) {gN : Addr} {lg : FuncData} (iF : Def K mg "is_gap" jv ["number"] gN lg) (r6 : bJ P w K mg base CX0 1 gN lg ["number"] (spF K false (jA CR CP CN n) 1)) {cf : Addr} {fG : FuncData} (cH : Def K mg "is_gap_row" di ["row", "kinds"] cf fG) : bJ P w K mg base CX0 2 cf fG ["row", "kinds"] (spF K false (dv CR CP CN n) 2) :=
 pN (O' := []) cH.fn tf false (la CR CP CN n) fun cdv A outer s H E hr =>
  (aF (bN (Ca (mV Z.kit Z.aS Z.kz (ao 0)) (Ca (zY (o_eq hr.units) (aZ pT Z.kA PySem.boot_len (a8 (ao 0) ai)) (ao 1)) (de_one (aZ (c_all rfl) Z.Aa boot_all (a8 (aJ (jR ["number"] [none] (kl (ao 0)) (fun _ _ _ _ _ => qM (by decide +kernel)) (eO rfl) (fun _ _ _ _ _ => mU) (fun _ _ _ _ _ => (aL r6 hr iF.mg iF.fn.kp iF.bd (a8 (ao 0) ai))))) ai)))))))
theorem kF : aR ["rows", "kinds"] ["rows"] (af bK) := ⟨rfl, rfl, rfl, by decide +kernel, rfl, by decide +kernel, by decide +kernel⟩
theorem qo {n : Nat} {P : Program} {w : World} {K : PySem.W.Frag} {mg : Str -> Option Value} {base : Heap} {CR CP CN AStripError ANoPlace ANoPlan ANoRow ANoRules ANoSheet ANotFree ATooMany : Addr} (Z : Zs K mg CR CP CN AStripError ANoPlace ANoPlan ANoRow ANoRules ANoSheet ANotFree ATooMany) {bG : Addr} {e6 : FuncData} (cm : Def K mg "copied_rows" cL ["rows"] bG e6) (iY : bJ P w K mg base CX0 1 bG e6 ["rows"] (spF K false (fw CR CP CN n) 1)) {cf : Addr} {fG : FuncData} (cH : Def K mg "is_gap_row" di ["row", "kinds"] cf fG) (kb : bJ P w K mg base CX0 2 cf fG ["row", "kinds"] (spF K false (dv CR CP CN n) 2)) {aQ : Addr} {bA : FuncData} (aH : Def K mg "checked_rows" bK ["rows"] aQ bA) : bJ P w K mg base CX0 3 aQ bA ["rows"] (spF K false (aD CR CP CN n) 1) :=
 pN (O' := []) aH.fn kF false (iP CR CP CN n) fun cdv A outer s H E hr =>
  (ah (av (i := 1) (own := false) kF.nd (aZ pT Z.kA PySem.boot_len (a8 (ao 0) ai)))
  (ah (jj (sC (uB o_le o_le ae (ao 1) (C8 Z.gm)))
   (aF ds_stk)
   eX)
  (ah (jj (sC (m7 (aZ (c_all rfl) Z.Aa boot_all (a8 (aJ (jR ["row", "kinds"] [none, some 1] (kl (ao 0)) (fun _ _ _ _ _ => qM (by decide +kernel)) (eO rfl) (fun _ _ _ _ _ => mU) (fun _ _ _ _ _ => (aL kb hr cH.mg cH.fn.kp cH.bd (a8 (ao 0) (a8 (ao 1) ai)))))) ai))))
   (aF ds_stk)
   eX)
  (aF (bN (aL iY (hr.mono (by decide)) cm.mg cm.fn.kp cm.bd (a8 (ao 0) ai)))))))
theorem sc_nR : aR ["self", "gaps"] ["self", "gaps"] (af s_nR) := ⟨rfl, rfl, rfl, by decide +kernel, rfl, by decide +kernel, by decide +kernel⟩
theorem okn_R {n : Nat} {P : Program} {w : World} {K : PySem.W.Frag} {mg : Str -> Option Value} {base : Heap} {CR CP CN : Addr} {C aQ f : Addr} {bA fd : FuncData} (aH : Def K mg "checked_rows" bK ["rows"] aQ bA) (OK : bJ P w K mg base CX0 3 aQ bA ["rows"] (spF K false (aD CR CP CN n) 1))
  (N : Fun K "__init__" "Rules.__init__" s_nR f fd) (cl : Cls K C) (na : kr K C "gaps") : bJ P w K mg base CX0 4 f fd ["self", "gaps"] (spI1 K C (aD CR CP CN n)) := by
 refine N.okX sc_nR (fun vs H Q E h => ?_) (fun cdv A outer s H vs Q E hr h => ?_)
 ·obtain ⟨p, dx, v, F, d, rfl, _⟩ := h
  rfl
 ·obtain ⟨p, dx, v, F, d, rfl, hp, hF, s1, qd, q⟩ := h
  refine ⟨_, qi (ps_fld (pv 0) (yi OK hr (by rfl) aH.mg aH.fn.kp aH.bd .nil yj (aW (pv 1) eU)) rfl), ?_⟩
  refine ⟨v, rfl, F, [d], s1, ⟨v, [], rfl, qd, rfl⟩, rfl, ?_⟩
  skip
  cases hg : aD CR CP CN n [d] with
  | error e => rw [hg] at q; exact q
  | ok r =>
   rw [hg] at q
   intro u F' H' st qw
   have hF1 : F' p = none := by
    cases hz : F' p with
    | none => rfl
    | some o =>
     rcases st.nw p o hz with z | z
     ·rw [hF] at z; cases z
     ·rw [hp] at z; cases z
   refine ⟨_, rfl, p, C, dx, [], rfl, st.hh _ _ hp, cl, na, (by show 0 < 1000; decide), ?_⟩
   refine q u F' _ st.ff (fun c o e => ?_) hF1 st.nw (fun c o e hc => by rw [aq hc]; exact st.hh _ _ e) ar qw
   have hc : c ≠ p := fun z => by rw [z, hF1] at e; cases e
   rw [aq hc]
   exact st.fh _ _ e
theorem putGB (a b : V) : rA ("beside" : Str) b [(("gaps" : Str), a)] = [(("gaps" : Str), a), (("beside" : Str), b)] := by
 show (if ("gaps" : Str) = "beside" then _ else (("gaps" : Str), a) :: rA "beside" b []) = _
 rw [if_neg (by decide +kernel)]
 rfl
theorem sc_nP : aR ["self", "gaps", "beside"] ["self", "gaps", "beside"] (af s_nP) := ⟨rfl, rfl, rfl, by decide +kernel, rfl, by decide +kernel, by decide +kernel⟩
theorem okn_P {n : Nat} {P : Program} {w : World} {K : PySem.W.Frag} {mg : Str -> Option Value} {base : Heap} {CR CP CN : Addr} {aQ f fR : Addr} {bA fd fdR : FuncData} {mc : Value} (aH : Def K mg "checked_rows" bK ["rows"] aQ bA) (OK : bJ P w K mg base CX0 3 aQ bA ["rows"] (spF K false (aD CR CP CN n) 1))
  (S : Stat K CR mc "__init__" fR) (bI : Binds K fdR ["self", "gaps"] []) (FI : bJ P w K mg base CX0 4 fR fdR ["self", "gaps"] (spI1 K CP (aD CR CP CN n))) (mR : mg "Rules" = some (.ref CR)) (zl : mg "len" = none)
  (N : Fun K "__init__" "Pair.__init__" s_nP f fd) (cl : Cls K CP) (na : kr K CP "gaps") (nb : kr K CP "beside") : bJ P w K mg base CX0 5 f fd ["self", "gaps", "beside"] (spI2 K CP (aD CR CP CN n)) := by
 refine N.okX sc_nP (fun vs H Q E h => ?_) (fun cdv A outer s H vs Q E hr h => ?_)
 ·obtain ⟨p, dx, v, v2, F, d, d2, rfl, _⟩ := h
  rfl
 ·obtain ⟨p, dx, v, v2, F, d, d2, rfl, hp, hF, s1, qd, qd2, q⟩ := h
  refine ⟨_, jx (yc (pe_cmeth S (by rfl) mR FI hr bI .nil yj (aW (pv 0) (aW (pv 1) eU))))
   (jx (ps_fld (pv 0) (yi OK (hr.mono (by decide)) (by rfl) aH.mg aH.fn.kp aH.bd .nil yj (aW (pv 2) eU)) rfl)
   (qi (ps_if (tB op_ne (g4 lD (by rfl) zl PySem.boot_len (aW (Bt (pv 0) rfl) eU)) (g4 lD (by rfl) zl PySem.boot_len (aW (Bt (pv 0) rfl) eU)) (wu _)) qj yb))), ?_⟩
  refine ⟨_, rfl, _, rfl, p, dx, v, F, d, rfl, hp, hF, s1, qd, ?_⟩
  cases hg : aD CR CP CN n [d] with
  | error e => rw [hg] at q; exact q
  | ok r =>
   rw [hg, az] at q
   intro u F1 H1 a1 a2 a3 a4 a5 a6 a7
   refine ⟨v2, rfl, F1, [d2], a2, ⟨v2, [], rfl, cA.mono a1 qd2, rfl⟩, rfl, ?_⟩
   skip
   cases hg2 : aD CR CP CN n [d2] with
   | error e => rw [hg2] at q; exact False.elim q
   | ok r2 =>
    rw [hg2, az] at q
    intro u2 F2 H2 st qw
    by_cases ht : twoL r r2 = true
    ·rw [if_pos ht] at q
     have hF2 : F2 p = none := by
      cases hz : F2 p with
      | none => rfl
      | some o =>
       rcases st.nw p o hz with z | z
       ·rw [a3] at z; cases z
       ·rw [a6] at z; cases z
     refine ⟨_, rfl, p, CP, dx, _, rfl, st.hh _ _ a6, cl, nb, (by show 1 < 1000; decide), ?_⟩
     rw [putGB]
     have s3 : b9 F2 (upd H2 p (.ins CP dx [("gaps", u), ("beside", u2)])) := fun c o e => by
      have hc : c ≠ p := fun z => by rw [z, hF2] at e; cases e
      rw [aq hc]
      exact st.fh _ _ e
     cases r with
     | lst xs =>
      cases r2 with
      | lst ys =>
       have hl : xs.length = ys.length := of_decide_eq_true ht
       obtain ⟨g1, xs1, e1, t1, z1⟩ := cA.mono st.ff a7
       obtain ⟨g2, xs2, e2, t2, z2⟩ := id qw
       refine ⟨_, rfl, p, CP, dx, _, _, rfl, ar, cl, nb, rfl, g2, _, by rw [e2], .inl (s3.lst t2), _, rfl, p, CP, dx, _, _, rfl, ar, cl, na, rfl, g1, _, by rw [e1], .inl (s3.lst t1), rfl, _, rfl, ?_⟩
       refine iteNS (by rw [z1.length, z2.length, hl]) ?_
       refine q u u2 F2 _ (a1.trans st.ff) s3 hF2 (fun b o e => ?_) (fun c o e hc => by rw [aq hc]; exact st.hh _ _ (a5 c o e hc)) ar (cA.mono st.ff a7) qw
       rcases st.nw b o e with z | z
       ·exact a4 b o z
       ·refine .inr ?_
        cases hz : H b with
        | none => rfl
        | some o' =>
         by_cases hb : b = p
         ·subst hb; rw [hF2] at e; cases e
         ·rw [a5 b o' hz hb] at z; cases z
      | _ => cases ht
     | _ => cases ht
    ·rw [if_neg ht] at q; exact False.elim q
theorem vE : aR ["_law_rules"] ["_law_rules"] (af eJ) := ⟨rfl, rfl, rfl, by decide +kernel, rfl, by decide +kernel, by decide +kernel⟩
theorem vW {n : Nat} {P : Program} {w : World} {K : PySem.W.Frag} {mg : Str -> Option Value} {base : Heap} {CR CP CN AStripError ANoPlace ANoPlan ANoRow ANoRules ANoSheet ANotFree ATooMany : Addr} (Z : Zs K mg CR CP CN AStripError ANoPlace ANoPlan ANoRow ANoRules ANoSheet ANotFree ATooMany) {f_nP : Addr} {fd_nP : FuncData} (N_P : Mth K CP "__init__" "Pair.__init__" s_nP ["self", "gaps", "beside"] f_nP fd_nP) (OKN_P : bJ P w K mg base CX0 5 f_nP fd_nP ["self", "gaps", "beside"] (spI2 K CP (aD CR CP CN n))) {f_nR : Addr} {fd_nR : FuncData} (N_R : Mth K CR "__init__" "Rules.__init__" s_nR ["self", "gaps"] f_nR fd_nR) (OKN_R : bJ P w K mg base CX0 4 f_nR fd_nR ["self", "gaps"] (spI1 K CR (aD CR CP CN n))) {cU : Addr} {gv : FuncData} (dF : Def K mg "_law_made" eJ ["_law_rules"] cU gv) : bJ P w K mg base CX0 7 cU gv ["_law_rules"] (spF K false (eN CR CP CN n) 1) :=
 pN (O' := []) dF.fn vE false (jN CR CP CN n) fun cdv A outer s H E hr =>
  (ah (jj (fM o_isN (aN dh (ao 0) ae) zX)
   (aF (bN (de_newR ⟨Z.kR.mks, N_R.mt.at_, N_R.mt.fn, Z.kR.kp⟩ OKN_R (hr.mono (by decide)) Z.kR.mg N_R.bd (a8 (aN dh (ao 0) ae) ai))))
   eX)
  (aF (bN (de_newP ⟨Z.kP.mks, N_P.mt.at_, N_P.mt.fn, Z.kP.kp⟩ OKN_P hr Z.kP.mg N_P.bd (a8 (aN dh (ao 0) ae) (a8 (aN dh (ao 0) ae) ai))))))
theorem aO : aR ["_law_script", "_law_rules", "_law_most", "_law_scale_here", "_law_many", "_law_flights_here", "_law_k", "_law_number", "_law_first", "_law_wide", "_law_last", "_law_due", "_law_price"] ["_law_script", "_law_rules", "_law_most", "_law_scale_here"] (af cu) := ⟨rfl, rfl, rfl, by decide +kernel, rfl, by decide +kernel, by decide +kernel⟩
theorem qp {n : Nat} {P : Program} {w : World} {K : PySem.W.Frag} {mg : Str -> Option Value} {base : Heap} {CR CP CN AStripError ANoPlace ANoPlan ANoRow ANoRules ANoSheet ANotFree ATooMany : Addr} (Z : Zs K mg CR CP CN AStripError ANoPlace ANoPlan ANoRow ANoRules ANoSheet ANotFree ATooMany) {aw : Addr} {ax : FuncData} (aa : Def K mg "_law_draw" bu ["_law_script", "_law_k"] aw ax) (au : bJ P w K mg base CX0 1 aw ax ["_law_script", "_law_k"] (spF K false (aA CR CP CN n) 2)) {bw : Addr} {dB : FuncData} (bO : Def K mg "_law_flights" cu ["_law_script", "_law_rules", "_law_most", "_law_scale_here"] bw dB) : bJ P w K mg base CX0 2 bw dB ["_law_script", "_law_rules", "_law_most", "_law_scale_here"] (spF K false (d8 CR CP CN n) 4) :=
 pN (O' := []) bO.fn aO false (iQ CR CP CN n) fun cdv A outer s H E hr =>
  (ah (av (i := 4) (own := false) aO.nd (aE gA (aL au hr aa.mg aa.fn.kp aa.bd (a8 (ao 0) (a8 ae ai))) (aJ (aE gh (aE jf (ao 2) ae) ae))))
  (ah (jj (fM (o_eq hr.units) (aE gA (aL au hr aa.mg aa.fn.kp aa.bd (a8 (ao 0) (a8 ae ai))) ae) ae)
   (aF (av (i := 4) (own := false) aO.nd (ao 2)))
   eX)
  (ah (av (i := 5) (own := true) aO.nd (ee ai))
  (ah (kj (pt := .nm 6) (ll Z.gz (a8 (ao 4) ai)) (AD aO.nd)
   (ah (av (i := 7) (own := false) aO.nd (aL au hr aa.mg aa.fn.kp aa.bd (a8 (ao 0) (a8 (aJ (aE gh ae (ao 6))) ai))))
  (ah (av (i := 8) (own := false) aO.nd (aE gA (aE jf (ao 7) ae) (aE kx (aE kx ae (ao 3)) (aJ (aE gh (ao 6) ae)))))
  (ah (av (i := 9) (own := false) aO.nd (aN dh (aJ (ee (a8 (aE wt ae ae) (a8 (aE kx (aE kx ae (ao 3)) (ao 4)) (a8 (aE kx (aE kx ae (ao 3)) (ao 4)) (a8 (aE kx ae (ao 3)) ai)))))) (aE jf (aE gA (ao 7) ae) ae)))
  (ah (av (i := 10) (own := false) aO.nd (aZ (Ct rfl) Z.sR boot_min (a8 (aE wt ae ae) (a8 (aJ (aE gh (ao 8) (ao 9))) ai))))
  (ah (av (i := 11) (own := false) aO.nd (aZ (Ct rfl) Z.sR boot_min (a8 (aE wt ae ae) (a8 (aJ (aE gh (ao 8) (aE gA (aE jf (ao 7) ae) (aE kx ae (ao 3))))) ai))))
  (ah (av (i := 12) (own := false) aO.nd (aN dh (aJ (ee (a8 (aE gA (aE jf (ao 7) ae) ae) (a8 (aE gA (aE jf (ao 7) ae) (aJ (aE gh (aE wt ae ae) ae))) ai)))) (aE gA (aE jf (ao 7) ae) ae)))
  (aF (i7 (i := 5) (i8 (a8 (aE gA (aE jf (ao 7) ae) (aZ pT Z.kA PySem.boot_len (a8 (aN dh (ao 1) ae) ai))) (a8 (ao 8) (a8 (ao 10) (a8 (ao 11) (a8 (ao 12) ai)))))))))))))))
  (bW (O2 := []) (aF (bN (ao 5))))))))
theorem ay : aR ["_law_script", "_law_flights_here", "_law_closed_here", "_law_wide", "_law_some", "_law_kind", "_law_first", "_law_last", "_law_due", "_law_price", "_law_by", "_law_moved"] ["_law_script", "_law_flights_here", "_law_closed_here"] (af bQ) := ⟨rfl, rfl, rfl, by decide +kernel, rfl, by decide +kernel, by decide +kernel⟩
theorem pG {n : Nat} {P : Program} {w : World} {K : PySem.W.Frag} {mg : Str -> Option Value} {base : Heap} {CR CP CN AStripError ANoPlace ANoPlan ANoRow ANoRules ANoSheet ANotFree ATooMany : Addr} (Z : Zs K mg CR CP CN AStripError ANoPlace ANoPlan ANoRow ANoRules ANoSheet ANotFree ATooMany) {bo : Addr} {cb : FuncData} (b8 : Def K mg "_law_scale" cE ["_law_script"] bo cb) (dQ : bJ P w K mg base CX0 2 bo cb ["_law_script"] (spF K false (bz CR CP CN n) 1)) {aw : Addr} {ax : FuncData} (aa : Def K mg "_law_draw" bu ["_law_script", "_law_k"] aw ax) (au : bJ P w K mg base CX0 1 aw ax ["_law_script", "_law_k"] (spF K false (aA CR CP CN n) 2)) {bg : Addr} {d7 : FuncData} (bC : Def K mg "_law_moved_up" bQ ["_law_script", "_law_flights_here", "_law_closed_here"] bg d7) : bJ P w K mg base CX0 3 bg d7 ["_law_script", "_law_flights_here", "_law_closed_here"] (spF K false (bc CR CP CN n) 3) :=
 pN (O' := []) bC.fn ay false (dA CR CP CN n) fun cdv A outer s H E hr =>
  (ah (jj (PW.pt (AB (fM (o_ne hr.units) (aE gA (aL au (hr.mono (by decide)) aa.mg aa.fn.kp aa.bd (a8 (ao 0) (a8 ae ai))) ae) ae) (wW (fM (o_eq hr.units) (ao 1) (aJ (ee ai))))))
   (aF (bN (i8 (a8 (ao 1) (a8 (ao 2) ai)))))
   eX)
  (ah (av (i := 3) (own := false) ay.nd (aE kx ae (aL dQ hr b8.mg b8.fn.kp b8.bd (a8 (ao 0) ai))))
  (ah (av (i := 4) (own := true) ay.nd (ee ai))
  (ah (kj (pt := .tp [5, 6, 7, 8, 9]) (kl (ao 1)) (rR rfl (bq (i := 5) ay.nd (bq (i := 6) ay.nd (bq (i := 7) ay.nd (bq (i := 8) ay.nd (bq (i := 9) ay.nd iR))))))
   (aF (i7 (i := 4) (i8 (a8 (ao 5) (a8 (ao 6) (a8 (aZ (Ct rfl) Z.sR boot_min (a8 (ao 7) (a8 (aJ (aE gh (ao 6) (ao 3))) ai))) (a8 (ao 8) (a8 (ao 9) ai)))))))))
  (bW (O2 := []) (ah (av (i := 10) (own := false) ay.nd (aE o_sub (aE wt ae ae) (aZ (c_max rfl) Z.vd boot_max (a8 (aJ (jR ["_law_flight"] [none] (kl (ao 4)) (fun _ _ _ _ _ => qM (by decide +kernel)) (eO rfl) (fun _ _ _ _ _ => mU) (fun _ _ _ _ _ => (aN dh (ao 0) ae)))) ai))))
  (ah (av (i := 11) (own := true) ay.nd (ee ai))
  (ah (kj (pt := .tp [5, 6, 7, 8, 9]) (kl (ao 4)) (rR rfl (bq (i := 5) ay.nd (bq (i := 6) ay.nd (bq (i := 7) ay.nd (bq (i := 8) ay.nd (bq (i := 9) ay.nd iR))))))
   (aF (i7 (i := 11) (i8 (a8 (ao 5) (a8 (aJ (aE gh (ao 6) (ao 10))) (a8 (aJ (aE gh (ao 7) (ao 10))) (a8 (aZ (Ct rfl) Z.sR boot_min (a8 (aE wt ae ae) (a8 (aJ (aE gh (ao 8) (ao 10))) ai))) (a8 (ao 9) ai)))))))))
  (bW (O2 := []) (aF (bN (i8 (a8 (ao 11) (a8 (aJ (jR ["_law_start", "_law_stop", "_law_by"] [none, none, some 10] (kl (ao 2)) (fun _ _ _ _ _ => rR rfl (nL (i := 0) (by decide +kernel) (nL (i := 1) (by decide +kernel) iR))) (wC (by decide)) (fun _ _ _ _ _ => Be (fM o_le (aJ (aE gh (ao 1) (ao 2))) (aE wt ae ae))) (fun _ _ _ _ _ => (i8 (a8 (aJ (aE gh (ao 0) (ao 2))) (a8 (aJ (aE gh (ao 1) (ao 2))) ai)))))) ai))))))))))))))
theorem cC : aR ["_law_script", "_law_rules", "_law_flights_here", "_law_left", "_law_pairs", "_law_strips", "_law_number", "_law_at", "_law_first", "_law_k"] ["_law_script", "_law_rules", "_law_flights_here"] (af eI) := ⟨rfl, rfl, rfl, by decide +kernel, rfl, by decide +kernel, by decide +kernel⟩
theorem vV {n : Nat} {P : Program} {w : World} {K : PySem.W.Frag} {mg : Str -> Option Value} {base : Heap} {CR CP CN AStripError ANoPlace ANoPlan ANoRow ANoRules ANoSheet ANotFree ATooMany : Addr} (Z : Zs K mg CR CP CN AStripError ANoPlace ANoPlan ANoRow ANoRules ANoSheet ANotFree ATooMany) {aw : Addr} {ax : FuncData} (aa : Def K mg "_law_draw" bu ["_law_script", "_law_k"] aw ax) (au : bJ P w K mg base CX0 1 aw ax ["_law_script", "_law_k"] (spF K false (aA CR CP CN n) 2)) {cT : Addr} {gu : FuncData} (dE : Def K mg "_law_plan" eI ["_law_script", "_law_rules", "_law_flights_here"] cT gu) : bJ P w K mg base CX0 2 cT gu ["_law_script", "_law_rules", "_law_flights_here"] (spF K false (fX CR CP CN n) 3) :=
 pN (O' := []) dE.fn cC false (mP CR CP CN n) fun cdv A outer s H E hr =>
  (ah (av (i := 3) (own := true) cC.nd (aZ A2 Z.lR boot_sorted (a8 (aJ (jR ["_law_k", "_law_flights_here"] [none, some 2] (ll Z.gz (a8 (aZ pT Z.kA PySem.boot_len (a8 (ao 2) ai)) ai)) (fun _ _ _ _ _ => qM (by decide +kernel)) (eO rfl) (fun _ _ _ _ _ => mU) (fun _ _ _ _ _ => (i8 (a8 (aN dh (aN dh (ao 1) (ao 0)) ae) (a8 (ao 0) ai)))))) ai)))
  (ah (av (i := 4) (own := true) cC.nd (ee ai))
  (bW (O2 := [3, 4]) (ah (av (i := 5) (own := false) cC.nd (aE o_sub ae (jk c_int Z.ve PyProof.Rows.boot_int (a8 (zY o_isN (aN dh (ao 1) ae) zX) ai))))
  (ah (zW (m := n) (fM o_gt (aZ pT Z.kA PySem.boot_len (a8 (ao 3) ai)) ae)
   (ah (uC (i := 6) (own := false) cC.nd (aL au hr aa.mg aa.fn.kp aa.bd (a8 (ao 0) (a8 (aJ (aE gh ae (aZ pT Z.kA PySem.boot_len (a8 (ao 3) ai)))) ai))))
  (ah (uC (i := 7) (own := false) cC.nd (aE kx (aE gA (aE jf (ao 6) ae) (aZ (Ct rfl) Z.sR boot_min (a8 (aZ pT Z.kA PySem.boot_len (a8 (ao 3) ai)) (a8 ae ai)))) (jk c_int Z.ve PyProof.Rows.boot_int (a8 (zY (o_eq hr.units) (aE gA (ao 6) ae) ae) ai))))
  (ah (ds_popU (i := 3) (rR rfl (bq (i := 8) cC.nd (bq (i := 9) cC.nd iR))) (ao 7))
  (aF (i7 (i := 4) (i8 (a8 (ao 9) (a8 (aE gA (aE jf (ao 6) ae) (ao 5)) ai)))))))))
  (bW (O2 := []) (aF (bN (ao 4)))))))))
theorem br : aR ["_law_closed_here", "_law_time", "_law_moved", "_law_start", "_law_stop"] ["_law_closed_here", "_law_time"] (af bE) := ⟨rfl, rfl, rfl, by decide +kernel, rfl, by decide +kernel, by decide +kernel⟩
theorem oz {n : Nat} {P : Program} {w : World} {K : PySem.W.Frag} {mg : Str -> Option Value} {base : Heap} {CR CP CN AStripError ANoPlace ANoPlan ANoRow ANoRules ANoSheet ANotFree ATooMany : Addr} (Z : Zs K mg CR CP CN AStripError ANoPlace ANoPlan ANoRow ANoRules ANoSheet ANotFree ATooMany) {aY : Addr} {cy : FuncData} (bp : Def K mg "_law_open_from" bE ["_law_closed_here", "_law_time"] aY cy) : bJ P w K mg base CX0 1 aY cy ["_law_closed_here", "_law_time"] (spF K false (cZ CR CP CN n) 2) :=
 pN (O' := []) bp.fn br false (gE CR CP CN n) fun cdv A outer s H E hr =>
  (ah (av (i := 2) (own := false) br.nd uE)
  (ah (zW (m := n) (m7 (ao 2))
   (ah (av (i := 2) (own := false) br.nd uE)
  (aF (kj (pt := .tp [3, 4]) (kl (ao 0)) (rR rfl (bq (i := 3) br.nd (bq (i := 4) br.nd iR)))
   (aF (jj (uB o_le o_lt (ao 3) (ao 1) (ao 4))
   (ah (av (i := 1) (own := false) br.nd (ao 4))
  (aF (av (i := 2) (own := false) br.nd uE)))
   eX))))))
  (aF (bN (ao 1)))))
theorem ju : aR ["_law_rules", "_law_flights_here", "_law_one", "_law_other", "_law_here", "_law_there"] ["_law_rules", "_law_flights_here", "_law_one", "_law_other"] (af dk) := ⟨rfl, rfl, rfl, by decide +kernel, rfl, by decide +kernel, by decide +kernel⟩
theorem tR {n : Nat} {P : Program} {w : World} {K : PySem.W.Frag} {mg : Str -> Option Value} {base : Heap} {CR CP CN AStripError ANoPlace ANoPlan ANoRow ANoRules ANoSheet ANotFree ATooMany : Addr} (Z : Zs K mg CR CP CN AStripError ANoPlace ANoPlan ANoRow ANoRules ANoSheet ANotFree ATooMany) {cj : Addr} {fJ : FuncData} (cJ : Def K mg "_law_apart" dk ["_law_rules", "_law_flights_here", "_law_one", "_law_other"] cj fJ) : bJ P w K mg base CX0 1 cj fJ ["_law_rules", "_law_flights_here", "_law_one", "_law_other"] (spF K false (eV CR CP CN n) 4) :=
 pN (O' := []) cJ.fn ju false (iz CR CP CN n) fun cdv A outer s H E hr =>
  (ah (av (i := 4) (own := false) ju.nd (aN dh (aN dh (ao 1) (aN dh (ao 2) ae)) ae))
  (ah (av (i := 5) (own := false) ju.nd (aN dh (aN dh (ao 1) (aN dh (ao 3) ae)) ae))
  (ah (jj (fM (o_eq hr.units) (aN dh (ao 2) ae) (aN dh (ao 3) ae))
   (aF (bN (aN dh (aN dh (aN dh (ao 0) ae) (ao 4)) (ao 5))))
   eX)
  (aF (bN (aN dh (aN dh (aN dh (ao 0) ae) (ao 4)) (ao 5)))))))
theorem bX : aR ["_law_rules", "_law_flights_here", "_law_closed_here", "_law_plan_here", "_law_times", "_law_place", "_law_flight", "_law_time", "_law_ahead"] ["_law_rules", "_law_flights_here", "_law_closed_here", "_law_plan_here"] (af dj) := ⟨rfl, rfl, rfl, by decide +kernel, rfl, by decide +kernel, by decide +kernel⟩
theorem tQ {n : Nat} {P : Program} {w : World} {K : PySem.W.Frag} {mg : Str -> Option Value} {base : Heap} {CR CP CN AStripError ANoPlace ANoPlan ANoRow ANoRules ANoSheet ANotFree ATooMany : Addr} (Z : Zs K mg CR CP CN AStripError ANoPlace ANoPlan ANoRow ANoRules ANoSheet ANotFree ATooMany) {aY : Addr} {cy : FuncData} (bp : Def K mg "_law_open_from" bE ["_law_closed_here", "_law_time"] aY cy) (g0 : bJ P w K mg base CX0 1 aY cy ["_law_closed_here", "_law_time"] (spF K false (cZ CR CP CN n) 2)) {cj : Addr} {fJ : FuncData} (cJ : Def K mg "_law_apart" dk ["_law_rules", "_law_flights_here", "_law_one", "_law_other"] cj fJ) (ke : bJ P w K mg base CX0 1 cj fJ ["_law_rules", "_law_flights_here", "_law_one", "_law_other"] (spF K false (eV CR CP CN n) 4)) {cg : Addr} {fH : FuncData} (cI : Def K mg "_law_least" dj ["_law_rules", "_law_flights_here", "_law_closed_here", "_law_plan_here"] cg fH) : bJ P w K mg base CX0 2 cg fH ["_law_rules", "_law_flights_here", "_law_closed_here", "_law_plan_here"] (spF K false (dz CR CP CN n) 4) :=
 pN (O' := []) cI.fn bX false (iy CR CP CN n) fun cdv A outer s H E hr =>
  (ah (av (i := 4) (own := true) bX.nd (ee ai))
  (ah (kj (pt := .nm 5) (ll Z.gz (a8 (aZ pT Z.kA PySem.boot_len (a8 (ao 3) ai)) ai)) (AD bX.nd)
   (ah (av (i := 6) (own := false) bX.nd (aN dh (ao 1) (aN dh (aN dh (ao 3) (ao 5)) ae)))
  (ah (av (i := 7) (own := false) bX.nd (aN dh (ao 6) ae))
  (ah (kj (pt := .nm 8) (ll Z.gz (a8 (ao 5) ai)) (AD bX.nd)
   (aF (uC (i := 7) (own := false) bX.nd (aZ (c_max rfl) Z.vd boot_max (a8 (ao 7) (a8 (aJ (aE gh (aN dh (ao 4) (ao 8)) (aL ke hr cJ.mg cJ.fn.kp cJ.bd (a8 (ao 0) (a8 (ao 1) (a8 (aN dh (ao 3) (ao 8)) (a8 (aN dh (ao 3) (ao 5)) ai))))))) ai))))))
  (ah (av (i := 7) (own := false) bX.nd (aL g0 hr bp.mg bp.fn.kp bp.bd (a8 (ao 2) (a8 (ao 7) ai))))
  (ah (jj (fM o_gt (ao 7) (aN dh (ao 6) ae))
   (bW (O2 := []) (aF (bN (i8 (a8 (aN dh (aN dh (ao 3) (ao 5)) ae) (a8 (ao 7) ai))))))
   eX)
  (aF (i7 (i := 4) (ao 7)))))))))
  (bW (O2 := []) (aF (bN (ao 4))))))
theorem xZ : aR ["flights", "plan"] ["flights", "plan"] (af fS) := ⟨rfl, rfl, rfl, by decide +kernel, rfl, by decide +kernel, by decide +kernel⟩
theorem yo {n : Nat} {P : Program} {w : World} {K : PySem.W.Frag} {mg : Str -> Option Value} {base : Heap} {CR CP CN AStripError ANoPlace ANoPlan ANoRow ANoRules ANoSheet ANotFree ATooMany : Addr} (Z : Zs K mg CR CP CN AStripError ANoPlace ANoPlan ANoRow ANoRules ANoSheet ANotFree ATooMany) {dM : Addr} {i6 : FuncData} (f6 : Def K mg "spots_of" fS ["flights", "plan"] dM i6) : bJ P w K mg base CX0 1 dM i6 ["flights", "plan"] (spF K false (jh CR CP CN n) 2) :=
 pN (O' := []) f6.fn xZ false (oN CR CP CN n) fun cdv A outer s H E hr =>
  (aF (bN (aJ (jR ["flight", "strip", "flights"] [none, none, some 0] (kl (ao 1)) (fun _ _ _ _ _ => rR rfl (nL (i := 0) (by decide +kernel) (nL (i := 1) (by decide +kernel) iR))) (wC (by decide)) (fun _ _ _ _ _ => mU) (fun _ _ _ _ _ => (i8 (a8 (aN dh (aN dh (ao 2) (ao 0)) ae) (a8 (ao 1) ai))))))))
theorem cK : aR ["closed", "joined", "start", "stop"] ["closed"] (af ba) := ⟨rfl, rfl, rfl, by decide +kernel, rfl, by decide +kernel, by decide +kernel⟩
theorem mq {n : Nat} {P : Program} {w : World} {K : PySem.W.Frag} {mg : Str -> Option Value} {base : Heap} {CR CP CN AStripError ANoPlace ANoPlan ANoRow ANoRules ANoSheet ANotFree ATooMany : Addr} (Z : Zs K mg CR CP CN AStripError ANoPlace ANoPlan ANoRow ANoRules ANoSheet ANotFree ATooMany) {aM : Addr} {bT : FuncData} (aU : Def K mg "joined_stretches" ba ["closed"] aM bT) : bJ P w K mg base CX0 1 aM bT ["closed"] (spF K false (bY CR CP CN n) 1) :=
 pN (O' := []) aU.fn cK false (fE CR CP CN n) fun cdv A outer s H E hr =>
  (ah (av (i := 1) (own := true) cK.nd (ee ai))
  (ah (kj (pt := .tp [2, 3]) (kl (aJ (aZ A2 Z.lR boot_sorted (a8 (ao 0) ai)))) (rR rfl (bq (i := 2) cK.nd (bq (i := 3) cK.nd iR)))
   (aF (jj (PW.pt (dw_and (m7 (ao 1)) (dw_and1 (fM o_le (ao 2) (aN dh (aN dh (ao 1) (de_un o_neg ae)) ae)))))
   (aF (ds_setI (i := 1) (i8 (a8 (aN dh (aN dh (ao 1) (de_un o_neg ae)) ae) (a8 (aZ (c_max rfl) Z.vd boot_max (a8 (ao 3) (a8 (aN dh (aN dh (ao 1) (de_un o_neg ae)) ae) ai))) ai))) (de_un o_neg ae)))
   (aF (i7 (i := 1) (i8 (a8 (ao 2) (a8 (ao 3) ai))))))))
  (bW (O2 := []) (aF (bN (ao 1))))))
theorem kE : aR ["closed", "time", "start", "stop"] ["closed", "time"] (af eE) := ⟨rfl, rfl, rfl, by decide +kernel, rfl, by decide +kernel, by decide +kernel⟩
theorem vS {n : Nat} {P : Program} {w : World} {K : PySem.W.Frag} {mg : Str -> Option Value} {base : Heap} {CR CP CN AStripError ANoPlace ANoPlan ANoRow ANoRules ANoSheet ANotFree ATooMany : Addr} (Z : Zs K mg CR CP CN AStripError ANoPlace ANoPlan ANoRow ANoRules ANoSheet ANotFree ATooMany) {aM : Addr} {bT : FuncData} (aU : Def K mg "joined_stretches" ba ["closed"] aM bT) (eQ : bJ P w K mg base CX0 1 aM bT ["closed"] (spF K false (bY CR CP CN n) 1)) {cQ : Addr} {gn : FuncData} (dC : Def K mg "next_open" eE ["closed", "time"] cQ gn) : bJ P w K mg base CX0 2 cQ gn ["closed", "time"] (spF K false (fW CR CP CN n) 2) :=
 pN (O' := []) dC.fn kE false (jK CR CP CN n) fun cdv A outer s H E hr =>
  (ah (kj (pt := .tp [2, 3]) (kl (aL eQ hr aU.mg aU.fn.kp aU.bd (a8 (ao 0) ai))) (rR rfl (bq (i := 2) kE.nd (bq (i := 3) kE.nd iR)))
   (aF (jj (uB o_le o_lt (ao 2) (ao 1) (ao 3))
   (aF (bN (ao 3)))
   eX)))
  (aF (bN (ao 1))))
theorem rq : aR ["self", "one", "other"] ["self", "one", "other"] (af cN) := ⟨rfl, rfl, rfl, by decide +kernel, rfl, by decide +kernel, by decide +kernel⟩
theorem rG {n : Nat} {P : Program} {w : World} {K : PySem.W.Frag} {mg : Str -> Option Value} {base : Heap} {CR CP CN AStripError ANoPlace ANoPlan ANoRow ANoRules ANoSheet ANotFree ATooMany : Addr} (Z : Zs K mg CR CP CN AStripError ANoPlace ANoPlan ANoRow ANoRules ANoSheet ANotFree ATooMany) {bx : Addr} {e9 : FuncData} (gT : Mth K CR "apart" "Rules.apart" cN ["self", "one", "other"] bx e9) : bJ P w K mg base CX0 1 bx e9 ["self", "one", "other"] (spF K false (cO CR CP CN n) 3) :=
 pN (O' := []) gT.fn rq false (jQ CR CP CN n) fun cdv A outer s H E hr =>
  (aF (bN (aN dh (aN dh (C9 (Cs := [CR, CP]) Z.zU (ao 0)) (aN dh (ao 1) ae)) (aN dh (ao 2) ae))))
theorem nz : aR ["self", "one", "other", "rows"] ["self", "one", "other"] (af dn) := ⟨rfl, rfl, rfl, by decide +kernel, rfl, by decide +kernel, by decide +kernel⟩
theorem tT {n : Nat} {P : Program} {w : World} {K : PySem.W.Frag} {mg : Str -> Option Value} {base : Heap} {CR CP CN AStripError ANoPlace ANoPlan ANoRow ANoRules ANoSheet ANotFree ATooMany : Addr} (Z : Zs K mg CR CP CN AStripError ANoPlace ANoPlan ANoRow ANoRules ANoSheet ANotFree ATooMany) {bM : Addr} {fK : FuncData} (iG : Mth K CP "apart" "Pair.apart" dn ["self", "one", "other"] bM fK) : bJ P w K mg base CX0 1 bM fK ["self", "one", "other"] (spF K false (cG CR CP CN n) 3) :=
 pN (O' := []) iG.fn nz false (iA CR CP CN n) fun cdv A outer s H E hr =>
  (ah (av (i := 3) (own := false) nz.nd (de_ite (fM (o_eq hr.units) (aN dh (ao 1) ae) (aN dh (ao 2) ae)) (C9 (Cs := [CR, CP]) Z.zU (ao 0)) (C9 (Cs := [CP]) Z.Aw (ao 0))))
  (aF (bN (aN dh (aN dh (ao 3) (aN dh (ao 1) ae)) (aN dh (ao 2) ae)))))
theorem vC : aR ["rules", "spots", "times", "place"] ["rules", "spots", "times", "place"] (af eF) := ⟨rfl, rfl, rfl, by decide +kernel, rfl, by decide +kernel, by decide +kernel⟩
theorem vT {n : Nat} {P : Program} {w : World} {K : PySem.W.Frag} {mg : Str -> Option Value} {base : Heap} {CR CP CN AStripError ANoPlace ANoPlan ANoRow ANoRules ANoSheet ANotFree ATooMany : Addr} (Z : Zs K mg CR CP CN AStripError ANoPlace ANoPlan ANoRow ANoRules ANoSheet ANotFree ATooMany) {bx : Addr} {e9 : FuncData} (nZ : Mth K CR "apart" "Rules.apart" cN ["self", "one", "other"] bx e9) (j0 : bJ P w K mg base CX0 1 bx e9 ["self", "one", "other"] (spF K false (cO CR CP CN n) 3)) {bM : Addr} {fK : FuncData} (o5 : Mth K CP "apart" "Pair.apart" dn ["self", "one", "other"] bM fK) (kf : bJ P w K mg base CX0 1 bM fK ["self", "one", "other"] (spF K false (cG CR CP CN n) 3)) {cR : Addr} {gp : FuncData} (dD : Def K mg "gap_times" eF ["rules", "spots", "times", "place"] cR gp) : bJ P w K mg base CX0 2 cR gp ["rules", "spots", "times", "place"] (spF K false (hX CR CP CN n) 4) :=
 pN (O' := []) dD.fn vC false (mO CR CP CN n) fun cdv A outer s H E hr =>
  (aF (bN (aJ (jR ["ahead", "rules", "spots", "times", "place"] [none, some 0, some 1, some 2, some 3] (ll Z.gz (a8 (ao 3) ai)) (fun _ _ _ _ _ => qM (by decide +kernel)) (eO rfl) (fun _ _ _ _ _ => mU) (fun _ _ _ _ _ => (aJ (aE gh (aN dh (ao 3) (ao 0)) (de_meth2 Z.kR.cl nZ.mt j0 hr nZ.bd Z.kP.cl o5.mt kf hr o5.bd (ao 1) (a8 (aN dh (ao 2) (ao 0)) (a8 (aN dh (ao 2) (ao 4)) ai))))))))))
theorem eD : aR ["rules", "flights", "closed", "plan", "spots", "times", "place", "entry", "flight", "time"] ["rules", "flights", "closed", "plan"] (af fQ) := ⟨rfl, rfl, rfl, by decide +kernel, rfl, by decide +kernel, by decide +kernel⟩
theorem yn {n : Nat} {P : Program} {w : World} {K : PySem.W.Frag} {mg : Str -> Option Value} {base : Heap} {CR CP CN AStripError ANoPlace ANoPlan ANoRow ANoRules ANoSheet ANotFree ATooMany : Addr} (Z : Zs K mg CR CP CN AStripError ANoPlace ANoPlan ANoRow ANoRules ANoSheet ANotFree ATooMany) {dM : Addr} {i6 : FuncData} (f6 : Def K mg "spots_of" fS ["flights", "plan"] dM i6) (nu : bJ P w K mg base CX0 1 dM i6 ["flights", "plan"] (spF K false (jh CR CP CN n) 2)) {cQ : Addr} {gn : FuncData} (dC : Def K mg "next_open" eE ["closed", "time"] cQ gn) (lM : bJ P w K mg base CX0 2 cQ gn ["closed", "time"] (spF K false (fW CR CP CN n) 2)) {cR : Addr} {gp : FuncData} (dD : Def K mg "gap_times" eF ["rules", "spots", "times", "place"] cR gp) (lN : bJ P w K mg base CX0 2 cR gp ["rules", "spots", "times", "place"] (spF K false (hX CR CP CN n) 4)) {nI : Addr} {wO : FuncData} (N_CN : Mth K CN "__init__" "NoTime.__init__" vF ["self", "flight", "time"] nI wO) (XCN : XMk K mg "NoTime" CN nI) (sP : bJ P w K mg base CX0 1 nI wO ["self", "flight", "time"] (spX2 CN "flight" "time")) {dJ : Addr} {i5 : FuncData} (eZ : Def K mg "times_of" fQ ["rules", "flights", "closed", "plan"] dJ i5) : bJ P w K mg base (CXd P w) 3 dJ i5 ["rules", "flights", "closed", "plan"] (spX K true (dH CR CP CN n) 4) :=
 fn_X (O' := []) eZ.fn eD true (lW CR CP CN n) fun cdv A outer s H E hr =>
  (ah (pX (av (i := 4) (own := false) eD.nd (aL nu (hr.mono (by decide)) f6.mg f6.fn.kp f6.bd (a8 (ao 1) (a8 (ao 3) ai)))))
  (ah (pX (av (i := 5) (own := true) eD.nd (ee ai)))
  (ah (kj (pt := .tp [6, 7]) (di_enum Z.gU (ao 3)) (rR rfl (bq (i := 6) eD.nd (bq (i := 7) eD.nd iR)))
   (ah (pX (av (i := 8) (own := false) eD.nd (aN dh (ao 1) (aN dh (ao 7) ae))))
  (ah (pX (uC (i := 9) (own := false) eD.nd (aL lM hr dC.mg dC.fn.kp dC.bd (a8 (ao 2) (a8 (aZ (c_max rfl) Z.vd boot_max (a8 (aJ (aE gh (aJ (ee (a8 (aN dh (ao 8) ae) ai))) (aL lN hr dD.mg dD.fn.kp dD.bd (a8 (ao 0) (a8 (ao 4) (a8 (ao 5) (a8 (ao 6) ai))))))) ai)) ai)))))
  (ah (jj (fM o_gt (ao 9) (aN dh (ao 8) ae))
   (bW (O2 := []) (aF (C7 PySem.F.excBase_ValueError xeqD2 XCN.ex XCN.fn XCN.kp sP (hr.mono (by decide)) N_CN.bd XCN.mg (a8 (aN dh (ao 7) ae) (a8 (ao 9) ai)))))
   eX)
  (zV (aF (i7 (i := 5) (ao 9))))))) (hp := PassesOwn.leaving))
  (zV (aF (C5 (i := 5)))))))
theorem tj : aR ["_law_found"] ["_law_found"] (af cD) := ⟨rfl, rfl, rfl, by decide +kernel, rfl, by decide +kernel, by decide +kernel⟩
theorem tO {n : Nat} {P : Program} {w : World} {K : PySem.W.Frag} {mg : Str -> Option Value} {base : Heap} {CR CP CN AStripError ANoPlace ANoPlan ANoRow ANoRules ANoSheet ANotFree ATooMany : Addr} (Z : Zs K mg CR CP CN AStripError ANoPlace ANoPlan ANoRow ANoRules ANoSheet ANotFree ATooMany) {bj : Addr} {bZ : FuncData} (aK : Def K mg "_law_whole" cD ["_law_found"] bj bZ) : bJ P w K mg base CX0 1 bj bZ ["_law_found"] (spF K false (bL CR CP CN n) 1) :=
 pN (O' := []) aK.fn tj false (lb CR CP CN n) fun cdv A outer s H E hr =>
  (aF (bN (Ca (sE Z.kit Z.aS Z.ve (ao 0)) (de_one (de_not (qO Z.kit Z.aS Z.se (ao 0)))))))
theorem eS : aR ["_law_made_here", "_law_flights_here", "_law_closed_here", "_law_plan_here", "_law_found", "_law_told_here", "e"] ["_law_made_here", "_law_flights_here", "_law_closed_here", "_law_plan_here"] (af eG) := ⟨rfl, rfl, rfl, by decide +kernel, rfl, by decide +kernel, by decide +kernel⟩
theorem vU {n : Nat} {P : Program} {w : World} {K : PySem.W.Frag} {mg : Str -> Option Value} {base : Heap} {CR CP CN AStripError ANoPlace ANoPlan ANoRow ANoRules ANoSheet ANotFree ATooMany : Addr} (Z : Zs K mg CR CP CN AStripError ANoPlace ANoPlan ANoRow ANoRules ANoSheet ANotFree ATooMany) {dJ : Addr} {i5 : FuncData} (eZ : Def K mg "times_of" fQ ["rules", "flights", "closed", "plan"] dJ i5) (nt : bJ P w K mg base (CXd P w) 3 dJ i5 ["rules", "flights", "closed", "plan"] (spX K true (dH CR CP CN n) 4)) {bj : Addr} {bZ : FuncData} (aK : Def K mg "_law_whole" cD ["_law_found"] bj bZ) (cW : bJ P w K mg base CX0 1 bj bZ ["_law_found"] (spF K false (bL CR CP CN n) 1)) {cS : Addr} {gq : FuncData} (bU : Def K mg "_law_told" eG ["_law_made_here", "_law_flights_here", "_law_closed_here", "_law_plan_here"] cS gq) : bJ P w K mg base CX0 4 cS gq ["_law_made_here", "_law_flights_here", "_law_closed_here", "_law_plan_here"] (spF K true (dw CR CP CN n) 4) :=
 pN (O' := []) bU.fn eS true (jM CR CP CN n) fun cdv A outer s H E hr =>
  (ah (av (i := 4) (own := true) eS.nd (ee ai))
  (ah (av (i := 5) (own := false) eS.nd (aJ (ee ai)))
  (ah (ds_told5 (i := 6) (j := 5) (ys := [ANoPlace, ANoPlan, ANoRow, ANoRules, ANoSheet, ANotFree, ATooMany]) (fun pins σ E xe hp => (dsa_set (own := true) eS.nd (dea_call nt hp hr eZ.mg eZ.fn.kp eZ.bd (a8 (ao 0) (a8 (ao 1) (a8 (ao 2) (a8 (ao 3) ai))))))) Z.xCN eS.nd (fun a d oe hc hd hx => jx (zG eS.nd rfl (.inl rfl) (pe_lst (aW (Bo PySem.F.attrBase_ValueError Z.xCN.isi Z.aCN_flight hc hd hx) (aW (Bo PySem.F.attrBase_ValueError Z.xCN.isi Z.aCN_time hc hd hx) (aW (pe_isO (CA PySem.F.attrBase_ValueError Z.xCN.isi hc hd hx) Z.aS Z.mI_StripError Z.kO_CN_StripError) (aW (pe_isB (CA PySem.F.attrBase_ValueError Z.xCN.isi hc hd hx) Z.aS Z.g8 (by decide +kernel) Z.kB_CN_ValueError) eU)))))) (qi (yc (pe_bm PySem.F.plainAttrs_list PySem.F.slot_list_append PySem.F.type_list_append wy (pv 5) (aW (pe_isT (CA PySem.F.attrBase_ValueError Z.xCN.isi hc hd hx) Z.aS (mn (mn (mn (mn (mn (mn (mn pa_refs0 Z.mI_TooMany) Z.mI_NotFree) Z.mI_NoSheet) Z.mI_NoRules) Z.mI_NoRow) Z.mI_NoPlan) Z.mI_NoPlace) (by show 7 <= sizeLine; rw [sizeLine_eq]; decide) Z.kT_CN) eU))))))
  (ah (jj (fM (o_eq hr.units) (ao 5) (aJ (ee ai)))
   (aF (C5 (i := 4)))
   (bW (O2 := []) eX))
  (ah (jj (PW.pt (AB (fM (o_ne hr.units) (aJ (de_sl x_sl (ao 5) (dp_some ae) dp_none)) (aJ (ee (a8 uE (a8 uE (a8 uE ai)))))) (AB (sC (m7 (aL cW (hr.mono (by decide)) aK.mg aK.fn.kp aK.bd (a8 (aN dh (ao 5) ae) ai)))) (wW (sC (m7 (aL cW (hr.mono (by decide)) aK.mg aK.fn.kp aK.bd (a8 (aN dh (ao 5) ae) ai))))))))
   (aF (C6 zX))
   eX)
  (aF (C6 (i8 (a8 (aN dh (ao 5) ae) (a8 (aN dh (ao 5) ae) ai))))))))))
theorem cq : aR ["_law_script", "_law_scale_here", "_law_many", "_law_closed_here", "_law_k", "_law_number", "_law_start"] ["_law_script", "_law_scale_here"] (af cM) := ⟨rfl, rfl, rfl, by decide +kernel, rfl, by decide +kernel, by decide +kernel⟩
theorem rF {n : Nat} {P : Program} {w : World} {K : PySem.W.Frag} {mg : Str -> Option Value} {base : Heap} {CR CP CN AStripError ANoPlace ANoPlan ANoRow ANoRules ANoSheet ANotFree ATooMany : Addr} (Z : Zs K mg CR CP CN AStripError ANoPlace ANoPlan ANoRow ANoRules ANoSheet ANotFree ATooMany) {aw : Addr} {ax : FuncData} (aa : Def K mg "_law_draw" bu ["_law_script", "_law_k"] aw ax) (au : bJ P w K mg base CX0 1 aw ax ["_law_script", "_law_k"] (spF K false (aA CR CP CN n) 2)) {bH : Addr} {e8 : FuncData} (cn : Def K mg "_law_closed" cM ["_law_script", "_law_scale_here"] bH e8) : bJ P w K mg base CX0 2 bH e8 ["_law_script", "_law_scale_here"] (spF K false (dI CR CP CN n) 2) :=
 pN (O' := []) cn.fn cq false (jP CR CP CN n) fun cdv A outer s H E hr =>
  (ah (av (i := 2) (own := false) cq.nd (aE gA (aL au hr aa.mg aa.fn.kp aa.bd (a8 (ao 0) (a8 ae ai))) ae))
  (ah (jj (fM (o_eq hr.units) (aE gA (aL au hr aa.mg aa.fn.kp aa.bd (a8 (ao 0) (a8 ae ai))) ae) ae)
   (aF (av (i := 2) (own := false) cq.nd ae))
   eX)
  (ah (av (i := 3) (own := true) cq.nd (ee ai))
  (ah (kj (pt := .nm 4) (ll Z.gz (a8 (ao 2) ai)) (AD cq.nd)
   (ah (av (i := 5) (own := false) cq.nd (aL au hr aa.mg aa.fn.kp aa.bd (a8 (ao 0) (a8 (aJ (aE gh ae (ao 4))) ai))))
  (ah (av (i := 6) (own := false) cq.nd (aE gA (aE jf (ao 5) ae) (aE kx ae (ao 1))))
  (aF (i7 (i := 3) (i8 (a8 (ao 6) (a8 (aJ (aE gh (aJ (aE gh (ao 6) ae)) (aE kx (aE gA (ao 5) ae) (ao 1)))) ai))))))))
  (bW (O2 := []) (aF (bN (ao 3))))))))
theorem kh : aR ["_law_script", "_law_one", "_law_scale_here", "_law_rules", "_law_made_here", "_law_flights_here", "_law_closed_here", "_law_plan_here", "_law_due", "_law_handed", "_law_found"] ["_law_script"] (af Ah) := ⟨rfl, rfl, rfl, by decide +kernel, rfl, by decide +kernel, by decide +kernel⟩
theorem ok_law {n : Nat} {P : Program} {w : World} {K : PySem.W.Frag} {mg : Str -> Option Value} {base : Heap} {CR CP CN AStripError ANoPlace ANoPlan ANoRow ANoRules ANoSheet ANotFree ATooMany : Addr} (Z : Zs K mg CR CP CN AStripError ANoPlace ANoPlan ANoRow ANoRules ANoSheet ANotFree ATooMany) {bo : Addr} {cb : FuncData} (b8 : Def K mg "_law_scale" cE ["_law_script"] bo cb) (dQ : bJ P w K mg base CX0 2 bo cb ["_law_script"] (spF K false (bz CR CP CN n) 1)) {bf : Addr} {d6 : FuncData} (bB : Def K mg "_law_rules_of" bP ["_law_script", "_law_scale_here"] bf d6) (gJ : bJ P w K mg base CX0 3 bf d6 ["_law_script", "_law_scale_here"] (spF K false (bS CR CP CN n) 2)) {cU : Addr} {gv : FuncData} (dF : Def K mg "_law_made" eJ ["_law_rules"] cU gv) (lP : bJ P w K mg base CX0 7 cU gv ["_law_rules"] (spF K false (eN CR CP CN n) 1)) {bw : Addr} {dB : FuncData} (bO : Def K mg "_law_flights" cu ["_law_script", "_law_rules", "_law_most", "_law_scale_here"] bw dB) (il : bJ P w K mg base CX0 2 bw dB ["_law_script", "_law_rules", "_law_most", "_law_scale_here"] (spF K false (d8 CR CP CN n) 4)) {bg : Addr} {d7 : FuncData} (bC : Def K mg "_law_moved_up" bQ ["_law_script", "_law_flights_here", "_law_closed_here"] bg d7) (gK : bJ P w K mg base CX0 3 bg d7 ["_law_script", "_law_flights_here", "_law_closed_here"] (spF K false (bc CR CP CN n) 3)) {cT : Addr} {gu : FuncData} (dE : Def K mg "_law_plan" eI ["_law_script", "_law_rules", "_law_flights_here"] cT gu) (lO : bJ P w K mg base CX0 2 cT gu ["_law_script", "_law_rules", "_law_flights_here"] (spF K false (fX CR CP CN n) 3)) {cg : Addr} {fH : FuncData} (cI : Def K mg "_law_least" dj ["_law_rules", "_law_flights_here", "_law_closed_here", "_law_plan_here"] cg fH) (kc : bJ P w K mg base CX0 2 cg fH ["_law_rules", "_law_flights_here", "_law_closed_here", "_law_plan_here"] (spF K false (dz CR CP CN n) 4)) {cS : Addr} {gq : FuncData} (bU : Def K mg "_law_told" eG ["_law_made_here", "_law_flights_here", "_law_closed_here", "_law_plan_here"] cS gq) (iC : bJ P w K mg base CX0 4 cS gq ["_law_made_here", "_law_flights_here", "_law_closed_here", "_law_plan_here"] (spF K true (dw CR CP CN n) 4)) {bH : Addr} {e8 : FuncData} (cn : Def K mg "_law_closed" cM ["_law_script", "_law_scale_here"] bH e8) (iZ : bJ P w K mg base CX0 2 bH e8 ["_law_script", "_law_scale_here"] (spF K false (dI CR CP CN n) 2)) {bj : Addr} {bZ : FuncData} (aK : Def K mg "_law_whole" cD ["_law_found"] bj bZ) (cW : bJ P w K mg base CX0 1 bj bZ ["_law_found"] (spF K false (bL CR CP CN n) 1)) {nI : Addr} {wO : FuncData} (N_CN : Mth K CN "__init__" "NoTime.__init__" vF ["self", "flight", "time"] nI wO) (XCN : XMk K mg "NoTime" CN nI) (sP : bJ P w K mg base CX0 1 nI wO ["self", "flight", "time"] (spX2 CN "flight" "time")) {Ay : Addr} {fd_law : FuncData} (D_law : Def K mg "law" Ah ["_law_script"] Ay fd_law) : bJ P w K mg base CX0 8 Ay fd_law ["_law_script"] (spF K false (BG CR CP CN n) 1) :=
 pN (O' := []) D_law.fn kh false (g_law CR CP CN n) fun cdv A outer s H E hr =>
  (ds_made2 (i := 1) (zG kh.nd rfl (.inl rfl) (pe_makeX PySem.F.excBase_ValueError XCN.ex XCN.fn XCN.kp sP (hr.mono (by decide)) N_CN.bd XCN.mg (aW vR (aW vR eU)))) (ps_if (PW.pt (pw_or (tB op_ne (zJ PySem.F.attrBase_ValueError Z.xCN.isi Z.aCN_flight) vR (wu _)) (pw_or1 (tB op_ne (zJ PySem.F.attrBase_ValueError Z.xCN.isi Z.aCN_time) vR (wu _))))) qj yb)
  (ah (av (i := 2) (own := false) kh.nd (aL dQ (hr.mono (by decide)) b8.mg b8.fn.kp b8.bd (a8 (ao 0) ai)))
  (ah (av (i := 3) (own := false) kh.nd (aL gJ (hr.mono (by decide)) bB.mg bB.fn.kp bB.bd (a8 (ao 0) (a8 (ao 2) ai))))
  (ah (av (i := 4) (own := false) kh.nd (aL lP hr dF.mg dF.fn.kp dF.bd (a8 (ao 3) ai)))
  (ah (av (i := 5) (own := false) kh.nd (aL il (hr.mono (by decide)) bO.mg bO.fn.kp bO.bd (a8 (ao 0) (a8 (ao 3) (a8 ae (a8 (ao 2) ai))))))
  (ah (ds_unpB (aL gK (hr.mono (by decide)) bC.mg bC.fn.kp bC.bd (a8 (ao 0) (a8 (ao 5) (a8 (aL iZ (hr.mono (by decide)) cn.mg cn.fn.kp cn.bd (a8 (ao 0) (a8 (ao 2) ai))) ai)))) (rR rfl (bq (i := 5) kh.nd (bq (i := 6) kh.nd iR))))
  (ah (av (i := 7) (own := false) kh.nd (aL lO (hr.mono (by decide)) dE.mg dE.fn.kp dE.bd (a8 (ao 0) (a8 (ao 3) (a8 (ao 5) ai)))))
  (ah (av (i := 8) (own := false) kh.nd (aL kc (hr.mono (by decide)) cI.mg cI.fn.kp cI.bd (a8 (ao 3) (a8 (ao 5) (a8 (ao 6) (a8 (ao 7) ai))))))
  (ah (av (i := 9) (own := false) kh.nd (aJ (ee (a8 (aJ (jk A3 Z.kz PyProof.Rows.boot_list (a8 (ao 5) ai))) (a8 (aJ (jk A3 Z.kz PyProof.Rows.boot_list (a8 (ao 6) ai))) (a8 (aJ (jk A3 Z.kz PyProof.Rows.boot_list (a8 (ao 7) ai))) ai))))))
  (ah (av (i := 10) (own := true) kh.nd (aL iC (hr.mono (by decide)) bU.mg bU.fn.kp bU.bd (a8 (ao 4) (a8 (aN dh (ao 9) ae) (a8 (aN dh (ao 9) ae) (a8 (aN dh (ao 9) ae) ai))))))
  (ah (jj (PW.pt (AB (fM (o_ne hr.units) (ao 10) (ao 8)) (wW (fM (o_ne hr.units) (ao 9) (aJ (ee (a8 (ao 5) (a8 (ao 6) (a8 (ao 7) ai)))))))))
   (bW (O2 := []) (aF (bN uE)))
   eX)
  (ah (jj (m7 (mV Z.kit Z.aS Z.kz (ao 8)))
   (ah (jj (PW.pt (AB (sC (m7 (mV Z.kit Z.aS Z.kz (ao 10)))) (wW (fM (o_ne hr.units) (aZ pT Z.kA PySem.boot_len (a8 (aJ (jR ["_law_time"] [none] (kl (ao 10)) (fun _ _ _ _ _ => qM (by decide +kernel)) (eO rfl) (fun _ _ _ _ _ => Be (m7 (aL cW (hr.mono (by decide)) aK.mg aK.fn.kp aK.bd (a8 (ao 0) ai)))) (fun _ _ _ _ _ => (ao 0)))) ai)) (aZ pT Z.kA PySem.boot_len (a8 (ao 8) ai))))))
   (bW (O2 := []) (aF (bN uE)))
   eX)
  (ah (i7 (i := 10) ae)
  (bW (O2 := []) eX)))
   (bW (O2 := []) eX))
  (aF (bN (zY (o_eq hr.units) (aJ (aL iC (hr.mono (by decide)) bU.mg bU.fn.kp bU.bd (a8 (ao 4) (a8 (aN dh (ao 9) ae) (a8 (aN dh (ao 9) ae) (a8 (aN dh (ao 9) ae) ai)))))) (ao 8))))))))))))))))
noncomputable abbrev dU := Int × Int
noncomputable def stD (p : dU) : Dat := .tup [.int p.1, .int p.2]
theorem vi : ∀ cs : List dU, lY (cs.map stD) = .ok (cs.map fun p => [p.1, p.2])
 | [] => rfl
 | p :: cs => by simp [lY, tupD, stD, dY, vi cs]
theorem vp (cs : List dU) (hl : cs.length < 64) : ∃ ss : List dU, mh [.lst (cs.map stD)] = .ok (.lst (ss.map stD)) /\ ss.Perm cs /\ ss.Pairwise (fun p q => p.1 <= q.1) := by
 cases hc : cs with
 | nil => exact ⟨[], by simp [mh, vq, dY, nE], List.Perm.refl _, List.Pairwise.nil⟩
 | cons p ps =>
  rw [<- hc]
  have hi : ∃ e, dY (cs.map stD) = .error e := ⟨.stuck, by rw [hc]; simp [dY, stD, asI]⟩
  obtain ⟨e, he⟩ := hi
  have hne : ((cs.map fun p => [p.1, p.2]).all fun t => !t.isEmpty) = true := by simp
  have es : mh [.lst (cs.map stD)] = .ok (.lst ((nE qB (cs.map fun p => [p.1, p.2])).map tupZ)) := by
   simp only [mh, vq, List.length_map, hl, if_true, he, vi, az, hne]
  have hp := oK (lt := qB) (cs.map fun p => [p.1, p.2])
  have hs := l6 Bw (cs.map fun p => [p.1, p.2])
  generalize nE qB (cs.map fun p => [p.1, p.2]) = L at *
  let back : List Int -> dU := fun l => (l.getD 0 0, l.getD 1 0)
  have hL : ∀ l ∈ L, ∃ p : dU, l = [p.1, p.2] := fun l h => by
   have := hp.mem_iff.mp h
   simp only [List.mem_map] at this
   obtain ⟨p, _, e⟩ := this
   exact ⟨p, e.symm⟩
  refine ⟨L.map back, ?_, ?_, ?_⟩
  ·rw [es, List.map_map]
   congr 2
   refine List.map_congr_left fun l h => ?_
   obtain ⟨p, rfl⟩ := hL l h
   rfl
  ·have := hp.map back
   rw [List.map_map] at this
   have e2 : List.map (back ∘ fun p => [p.1, p.2]) cs = cs := by
    rw [List.map_congr_left (g := id)]
    ·simp
    ·intro p _; rfl
   rwa [e2] at this
  ·rw [List.pairwise_map]
   refine hs.imp_of_mem fun {a b} ha hb h => ?_
   obtain ⟨p, rfl⟩ := hL a ha
   obtain ⟨q, rfl⟩ := hL b hb
   show p.1 <= q.1
   simp only [qB] at h
   by_cases e1 : q.1 = p.1
   ·omega
   ·rw [if_neg e1] at h
    have := of_decide_eq_false h
    omega
@[simp] theorem getI_c0 (a : Dat) (l : List Dat) : nv (a :: l) 0 = .ok a := by
 unfold nv atI ixN
 rw [if_pos (by omega), if_pos (by simp <;> omega)]
 rfl
@[simp] theorem getI_c1 (a b : Dat) (l : List Dat) : nv (a :: b :: l) 1 = .ok b := by
 unfold nv atI ixN
 rw [if_pos (by omega), if_pos (by simp <;> omega)]
 rfl
@[simp] theorem getI_c2 (a b c : Dat) (l : List Dat) : nv (a :: b :: c :: l) 2 = .ok c := by
 unfold nv atI ixN
 rw [if_pos (by omega), if_pos (by simp <;> omega)]
 rfl
@[simp] theorem getI_c3 (a b c d : Dat) (l : List Dat) : nv (a :: b :: c :: d :: l) 3 = .ok d := by
 unfold nv atI ixN
 rw [if_pos (by omega), if_pos (by simp <;> omega)]
 rfl
section
variable (CR CP CN : Addr)
theorem gF (n : Nat) (ns : List Int) (k : Int) (h0 : 0 <= k) (h1 : k < 1000000) : ∃ x, aA CR CP CN n [.lst (ns.map .int), .int k] = .ok (.int x) /\ 0 <= x := by
 have hk1 : -18446744073709551616 < 7919 * k := by omega
 have hk2 : 7919 * k < 18446744073709551616 := by omega
 have hk3 : -18446744073709551616 < k := by omega
 have hk4 : k < 18446744073709551616 := by omega
 by_cases hl : 0 < ns.length
 ·have hm0 : 0 <= k % (ns.length : Int) := Int.emod_nonneg _ (by omega)
  have hm1 : k % (ns.length : Int) < (ns.length : Int) := Int.emod_lt_of_pos _ (by omega)
  have hl' : (0 : Int) < ns.length := by omega
  have hne : ns ≠ [] := fun e => by rw [e] at hl; simp at hl
  refine ⟨(ns[(k % (ns.length : Int)).toNat]'(by omega) + 7919 * k * k + k) * 982451653 % 2305843009213693951 * 1000003 % 1152921504606846883 / 8, ?_, ?_⟩
  ·simp [aA, jO, jX, hl, hne, getI_int hm0 hm1, uA hl', hk1, hk2, hk3, hk4]
  ·exact Int.ediv_nonneg (Int.emod_nonneg _ (by decide)) (by decide)
 ·have hne : ns = [] := by cases ns with | nil => rfl | cons a b => simp at hl
  subst hne
  refine ⟨(k + 7919 * k * k + k) * 982451653 % 2305843009213693951 * 1000003 % 1152921504606846883 / 8, ?_, ?_⟩
  ·simp [aA, jO, jX, hk1, hk2, hk3, hk4]
  ·exact Int.ediv_nonneg (Int.emod_nonneg _ (by decide)) (by decide)
theorem zD (n : Nat) (ns : List Int) : ∃ s : Int, bz CR CP CN n [.lst (ns.map .int)] = .ok (.int s) /\ 1 <= s /\ s <= 100000 := by
 obtain ⟨x, e, hx⟩ := gF CR CP CN n ns 99 (by omega) (by omega)
 have h4 : x % 4 = 0 \/ x % 4 = 1 \/ x % 4 = 2 \/ x % 4 = 3 := by omega
 rcases h4 with h | h | h | h
 ·exact ⟨1, by simp [bz, eW, e, h], by omega, by omega⟩
 ·exact ⟨1, by simp [bz, eW, e, h], by omega, by omega⟩
 ·exact ⟨100, by simp [bz, eW, e, h], by omega, by omega⟩
 ·exact ⟨100000, by simp [bz, eW, e, h], by omega, by omega⟩
noncomputable def pb (r : List Int) : Dat := .lst (r.map .int)
noncomputable def aV (rows : List (List Int)) : Dat := .lst (rows.map pb)
noncomputable def r9 (k : Nat) (r : List Int) : Prop := r.length = k /\ ∀ x ∈ r, 0 <= x /\ x <= 1000000
noncomputable def eC (k : Nat) (rows : List (List Int)) : Prop := rows.length = k /\ ∀ r ∈ rows, r9 k r
theorem Aj {lo : Int} {m i : Nat} {d : Dat} (h : (cF lo m)[i]? = some d) : i < m /\ d = .int (lo + i) := by
 unfold cF at h
 rw [List.getElem?_map] at h
 obtain ⟨a, h1, h2⟩ := Option.map_eq_some_iff.mp h
 have hi := (List.getElem?_eq_some_iff.mp h1).1
 rw [List.length_range] at hi
 rw [List.getElem?_range hi] at h1
 cases h1
 exact ⟨hi, h2.symm⟩
theorem fV {m i : Nat} {d : Dat} (h : (cF 0 m)[i]? = some d) : i < m /\ d = .int i := by
 obtain ⟨h1, h2⟩ := Aj h
 exact ⟨h1, by rw [h2, Int.zero_add]⟩
theorem fU (lo : Int) (m : Nat) : (cF lo m).length = m := by unfold cF; simp
theorem gap_row (n : Nat) (ns : List Int) (b : Int) (k : Nat) (s : Int) (one : Nat) (rows : List Dat) (z7 z8 : Option Dat) (hb0 : 0 <= b) (hb1 : b <= 100) (hk : k <= 6) (hs0 : 1 <= s) (hs1 : s <= 100000) (ho : one < k) :
  ∃ (r : List Int) (z7' z8' : Option Dat), r9 k r /\ ky (.nm 7) (gS CR CP CN n) (cF 0 k) [some (.lst (ns.map .int)), some (.int b), some (.int k), some (.int s), some (.lst rows), some (.int one), some (.lst []), z7, z8] = .ok (.nx [some (.lst (ns.map .int)), some (.int b), some (.int k), some (.int s), some (.lst rows), some (.int one), some (pb r), z7', z8']) := by
 obtain ⟨ρ', e, r, z7', z8', rfl, h1, h2⟩ := g5 (p := .nm 7) (g := gS CR CP CN n)
  (fun i ρ => ∃ (r : List Int) (z7 z8 : Option Dat), ρ = [some (.lst (ns.map .int)), some (.int b), some (.int k), some (.int s), some (.lst rows), some (.int one), some (pb r), z7, z8] /\ r.length = i /\ ∀ x ∈ r, 0 <= x /\ x <= 1000000) (cF 0 k) 0 _ ⟨[], z7, z8, rfl, rfl, by simp⟩ (by
  rintro i d ρ hd ⟨r, z7, z8, rfl, hr1, hr2⟩
  obtain ⟨hi, rfl⟩ := fV hd
  have hm : (one : Int) * k <= 36 := by
   have : one * k <= 6 * 6 := Nat.mul_le_mul (by omega) hk
   exact_mod_cast this
  have hm0 : 0 <= (one : Int) * k := Int.mul_nonneg (by omega) (by omega)
  obtain ⟨x, e, hx⟩ := gF CR CP CN n ns (b + (one : Int) * k + (i : Int)) (by omega) (by omega)
  have hs' : 0 < s := by omega
  have ho1 : -18446744073709551616 < (one : Int) := by omega
  have ho2 : (one : Int) < 18446744073709551616 := by omega
  have q1 : -18446744073709551616 < x % 6 := by omega
  have q2 : x % 6 < 18446744073709551616 := by omega
  have hl : r.length < 16777216 := by omega
  refine ⟨_, by simp; rfl, ?_⟩
  refine ⟨_, .inl (by simp [gS, e, uA hs', ho1, ho2, q1, q2, hl, pb]; rfl), r ++ [x % 6 * s + x / 6 % s], some (.int (i : Int)), some (.int x), by simp [pb], by simp; omega, fun y hy => ?_⟩
  rcases List.mem_append.mp hy with z | z
  ·exact hr2 y z
  ·simp at z
   subst z
   have a1 : 0 <= x / 6 % s := Int.emod_nonneg _ (by omega)
   have a2 : x / 6 % s < s := Int.emod_lt_of_pos _ hs'
   have a3 : 0 <= x % 6 * s := Int.mul_nonneg (by omega) (by omega)
   have a4 : x % 6 * s <= 5 * 100000 := Int.le_trans (Int.mul_le_mul_of_nonneg_right (by omega) (by omega)) (Int.mul_le_mul_of_nonneg_left hs1 (by omega))
   omega)
 rw [Nat.zero_add, fU] at h1
 exact ⟨r, z7', z8', ⟨h1, h2⟩, e⟩
theorem BW (n : Nat) (ns : List Int) (b : Int) (k : Nat) (s : Int) (hb0 : 0 <= b) (hb1 : b <= 100) (hk : k <= 6) (hs0 : 1 <= s) (hs1 : s <= 100000) : ∃ rows, eC k rows /\ fY CR CP CN n [.lst (ns.map .int), .int b, .int k, .int s] = .ok (aV rows) := by
 have k1 : -4611686018427387904 <= (k : Int) := by omega
 have k2 : (k : Int) < 4611686018427387904 := by omega
 obtain ⟨ρ', e, rows, y5, y6, y7, y8, rfl, h1, h2⟩ := g5 (p := .nm 5) (g := k4 CR CP CN n)
  (fun i ρ => ∃ (rows : List (List Int)) (z5 z6 z7 z8 : Option Dat), ρ = [some (.lst (ns.map .int)), some (.int b), some (.int k), some (.int s), some (aV rows), z5, z6, z7, z8] /\ rows.length = i /\ ∀ r ∈ rows, r9 k r) (cF 0 k) 0 [some (.lst (ns.map .int)), some (.int b), some (.int k), some (.int s), some (.lst []), none, none, none, none] ⟨[], none, none, none, none, rfl, rfl, by simp⟩ (by
  rintro i d ρ hd ⟨rows, z5, z6, z7, z8, rfl, hr1, hr2⟩
  obtain ⟨hi, rfl⟩ := fV hd
  obtain ⟨r, z7', z8', hg, e⟩ := gap_row CR CP CN n ns b k s i (rows.map pb) z7 z8 hb0 hb1 hk hs0 hs1 hi
  have hl : rows.length < 16777216 := by omega
  refine ⟨_, by simp; rfl, ?_⟩
  refine ⟨_, .inl (by simp [k4, aV, k1, k2, e, hl]; rfl), rows ++ [r], some (.int i), some (pb r), z7', z8', by simp [aV], by simp; omega, fun y hy => ?_⟩
  rcases List.mem_append.mp hy with z | z
  ·exact hr2 y z
  ·simp at z; subst z; exact hg)
 rw [Nat.zero_add, fU] at h1
 exact ⟨rows, ⟨h1, h2⟩, by simp [fY, mQ, k1, k2, e]⟩
theorem rules_ok (n : Nat) (ns : List Int) (s : Int) (hs0 : 1 <= s) (hs1 : s <= 100000) : ∃ (k : Nat) (rows : List (List Int)) (o : Dat), 1 <= k /\ k <= 6 /\ eC k rows /\ (o = .non \/ ∃ iq, eC k iq /\ o = aV iq) /\ bS CR CP CN n [.lst (ns.map .int), .int s] = .ok (.tup [aV rows, o]) := by
 obtain ⟨x, e1, hx⟩ := gF CR CP CN n ns 0 (by omega) (by omega)
 obtain ⟨y, e2, hy⟩ := gF CR CP CN n ns 1 (by omega) (by omega)
 have hk0 : 0 <= x % 6 := by omega
 have hk : 1 + x % 6 = ((1 + (x % 6).toNat : Nat) : Int) := by omega
 obtain ⟨rows, g1, e3⟩ := BW CR CP CN n ns 4 (1 + (x % 6).toNat) s (by omega) (by omega) (by omega) hs0 hs1
 obtain ⟨iq, g2, e4⟩ := BW CR CP CN n ns 50 (1 + (x % 6).toNat) s (by omega) (by omega) (by omega) hs0 hs1
 rw [<- hk] at e3 e4
 by_cases h : y % 2 = 1
 ·exact ⟨1 + (x % 6).toNat, rows, aV iq, by omega, by omega, g1, .inr ⟨iq, g2, rfl⟩, by simp [bS, fF, fZ, e1, e2, e3, e4, h]⟩
 ·exact ⟨1 + (x % 6).toNat, rows, .non, by omega, by omega, g1, .inl rfl, by simp [bS, fF, fZ, e1, e2, e3, h]⟩
end
section
variable (CR CP CN : Addr)
theorem BQ (n : Nat) (x : Int) (h0 : 0 <= x) (h1 : x <= 1000000) : jA CR CP CN n [.int x] = .ok (.bl true) := by simp [jA, uq, sJ, h0, h1]
theorem uk (n : Nat) (k : Nat) (r : List Int) (hk : k <= 6) (h : r9 k r) : dv CR CP CN n [pb r, .int k] = .ok (.bl true) := by
 have hl : r.length <= 16777216 := by have := h.1; omega
 have hk' : k <= 16777216 := by omega
 have e : cz (.nm 0) vc (fL (jA CR CP CN n) (a9 (aj 0) aT)) [none] (r.map .int) = .ok ((r.map fun _ => true).map Dat.bl) := by
  have := jm (p := .nm 0) (fe := fL (jA CR CP CN n) (a9 (aj 0) aT)) (ρ0 := [none]) (fun _ => .bl true) (r.map .int) (fun d hd => by
   obtain ⟨x, hx, rfl⟩ := List.mem_map.mp hd
   exact ⟨[some (.int x)], by simp, by simp [BQ CR CP CN n x (h.2 x hx).1 (h.2 x hx).2]⟩)
  rw [this, List.map_map, List.map_map]
  rfl
 simp [dv, la, pb, e, hl, hk', h.1, -List.map_map]
theorem Ce (n : Nat) (rows : List (List Int)) (hl : rows.length <= 1000) : fw CR CP CN n [aV rows] = .ok (aV rows) := by
 have hl2 : rows.length <= 16777216 := by omega
 have e : cz (.nm 0) vc (fL wA (a9 (aj 0) aT)) [none] (rows.map pb) = .ok (rows.map pb) := by
  have := jm (p := .nm 0) (fe := fL wA (a9 (aj 0) aT)) (ρ0 := [none]) id (rows.map pb) (fun d hd => by
   obtain ⟨x, hx, rfl⟩ := List.mem_map.mp hd
   exact ⟨[some (pb x)], by simp, by simp [pb]⟩)
  rw [this, List.map_id]
 simp [fw, jL, aV, e, hl2]
theorem sI (n : Nat) (k : Nat) (rows : List (List Int)) (h1 : 1 <= k) (h6 : k <= 6) (h : eC k rows) : aD CR CP CN n [aV rows] = .ok (aV rows) := by
 have hl2 : rows.length <= 16777216 := by have := h.1; omega
 have e : cz (.nm 0) vc (fL (dv CR CP CN n) (a9 (aj 0) (a9 (aj 1) aT))) [none, some (.int rows.length)] (rows.map pb) = .ok ((rows.map fun _ => true).map Dat.bl) := by
  have := jm (p := .nm 0) (fe := fL (dv CR CP CN n) (a9 (aj 0) (a9 (aj 1) aT))) (ρ0 := [none, some (.int rows.length)]) (fun _ => .bl true) (rows.map pb) (fun d hd => by
   obtain ⟨x, hx, rfl⟩ := List.mem_map.mp hd
   exact ⟨[some (pb x), some (.int rows.length)], by simp, by simp [h.1, uk CR CP CN n k x h6 (h.2 x hx)]⟩)
  rw [this, List.map_map, List.map_map]
  rfl
 have a1 : (1 : Int) <= rows.length := by have := h.1; omega
 have a2 : (rows.length : Int) <= 6 := by have := h.1; omega
 have e3 := Ce CR CP CN n rows (by have := h.1; omega)
 simp only [aV] at e3
 simp [aD, iP, kq, ko, aV, e, e3, hl2, a1, a2, -List.map_map]
noncomputable def d9 (rows : List (List Int)) : Dat -> Dat
 | .non => .ins CR [("gaps", aV rows)]
 | o => .ins CP [("gaps", aV rows), ("beside", o)]
theorem made_ok (n : Nat) (k : Nat) (rows : List (List Int)) (o : Dat) (h1 : 1 <= k) (h6 : k <= 6) (h : eC k rows) (ho : o = .non \/ ∃ iq, eC k iq /\ o = aV iq) : eN CR CP CN n [.tup [aV rows, o]] = .ok (d9 CR CP rows o) := by
 have e1 := sI CR CP CN n k rows h1 h6 h
 rcases ho with rfl | ⟨iq, g2, rfl⟩
 ·simp [eN, jN, jW, newR, e1, d9]
 ·have e2 := sI CR CP CN n k iq h1 h6 g2
  have ht : twoL (aV rows) (aV iq) = true := by simp [twoL, aV, h.1, g2.1]
  have e3 : d9 CR CP rows (aV iq) = .ins CP [("gaps", aV rows), ("beside", aV iq)] := rfl
  rw [e3]
  have hr : aV iq = .lst (iq.map pb) := rfl
  simp [eN, jN, jW, newP, e1, e2, ht]
  rw [hr]
  have en : newP CP (aD CR CP CN n) [aV rows, aV iq] = .ok (.ins CP [("gaps", aV rows), ("beside", aV iq)]) := by simp [newP, e1, e2, ht]
  simp [<- hr, en]
theorem BX (rows : List (List Int)) (o : Dat) (ho : o = .non \/ ∃ iq, o = aV iq) : uT [CR, CP] "gaps" (d9 CR CP rows o) = .ok (aV rows) := by
 have h1 : ((("gaps" : Str) == ("gaps" : Str)) = true) := by decide +kernel
 rcases ho with rfl | ⟨iq, rfl⟩
 ·show (if ([CR, CP].contains CR) = true then (match List.lookup ("gaps" : Str) [(("gaps" : Str), aV rows)] with | some d => Except.ok d | none => stk) else stk) = _
  rw [if_pos (by simp), List.lookup_cons, h1]
 ·show (if ([CR, CP].contains CP) = true then (match List.lookup ("gaps" : Str) [(("gaps" : Str), aV rows), (("beside" : Str), aV iq)] with | some d => Except.ok d | none => stk) else stk) = _
  rw [if_pos (by simp), List.lookup_cons, h1]
end
structure Fli where
 kind : Int
 first : Int
 last : Int
 due : Int
 price : Int
noncomputable def flD (f : Fli) : Dat := .tup [.int f.kind, .int f.first, .int f.last, .int f.due, .int f.price]
structure rg (k : Nat) (f : Fli) : Prop where
 k0 : 0 <= f.kind
 k1 : f.kind < k
 f0 : 0 <= f.first
 f1 : f.first <= f.last
 l1 : f.last <= 1000000000
 d0 : 0 <= f.due
 d1 : f.due <= 1000000000
 p0 : 0 <= f.price
 p1 : f.price <= 1000000000
@[simp] theorem flatTop_f (d : Dat) : oQ false d = m4 d := by cases d <;> rfl
@[simp] theorem flatD_int (i : Int) : m4 (.int i) = true := by rw [m4] <;> simp
theorem qx (a b : Int) : jr a b <= a /\ jr a b <= b /\ (jr a b = a \/ jr a b = b) := by unfold jr; split <;> omega
section
variable (CR CP CN : Addr)
theorem Av (n : Nat) (ns : List Int) (k : Nat) (rows : List (List Int)) (o : Dat) (most s : Int) (many i : Nat) (fl : List Fli) (z6 z7 z8 z9 z10 z11 z12 : Option Dat) (hk : rows.length = k) (hk1 : 1 <= k) (hm : many <= 40) (hi : i < many) (hs0 : 1 <= s) (hs1 : s <= 100000) (hfl : fl.length <= 40) :
  ∃ (f : Fli) (y7 y8 y9 y10 y11 y12 : Option Dat), rg k f /\ eB CR CP CN n [some (.lst (ns.map .int)), some (.tup [aV rows, o]), some (.int most), some (.int s), some (.int many), some (.lst (fl.map flD)), some (.int i), z7, z8, z9, z10, z11, z12] = .ok (.nx [some (.lst (ns.map .int)), some (.tup [aV rows, o]), some (.int most), some (.int s), some (.int many), some (.lst ((fl ++ [f]).map flD)), some (.int i), y7, y8, y9, y10, y11, y12]) := by
 obtain ⟨x, e, hx⟩ := gF CR CP CN n ns (100 + (i : Int)) (by omega) (by omega)
 have p1 : 0 < 25 * s * ((i : Int) + 1) := Int.mul_pos (by omega) (by omega)
 have p2 : 25 * s * ((i : Int) + 1) <= 2500000 * 40 := Int.le_trans (Int.mul_le_mul_of_nonneg_right (by omega) (by omega)) (Int.mul_le_mul_of_nonneg_left (by omega) (by omega))
 have p3 : 0 < 20 * s := by omega
 have f0 : 0 <= x / 16 % (25 * s * ((i : Int) + 1)) := Int.emod_nonneg _ (by omega)
 have f1 : x / 16 % (25 * s * ((i : Int) + 1)) < 25 * s * ((i : Int) + 1) := Int.emod_lt_of_pos _ p1
 have d0 : 0 <= x / 1000 % (20 * s) := Int.emod_nonneg _ (by omega)
 have c1 : -18446744073709551616 < 25 * s := by omega
 have c2 : 25 * s < 18446744073709551616 := by omega
 have c3 : -18446744073709551616 < 100 * s := by omega
 have c4 : 100 * s < 18446744073709551616 := by omega
 have c5 : -18446744073709551616 < 12 * s := by omega
 have c6 : 12 * s < 18446744073709551616 := by omega
 have hk2 : (0 : Int) < rows.length := by omega
 have hfl2 : fl.length < 16777216 := by omega
 have hmp : (0 : Int) <= many := by omega
 generalize hF : x / 16 % (25 * s * ((i : Int) + 1)) = F at f0 f1
 generalize hDd : x / 1000 % (20 * s) = dd at d0
 have q4 : x % 16 / 5 = 0 \/ x % 16 / 5 = 1 \/ x % 16 / 5 = 2 \/ x % 16 / 5 = 3 := by omega
 have q2 : x / 3 % 2 = 0 \/ x / 3 % 2 = 1 := by omega
 obtain ⟨w, hw0, ew⟩ : ∃ w, 0 <= w /\ nv [.int 1000000000, .int (100 * s * many), .int (12 * s * many), .int (3 * s)] (x % 16 / 5) = .ok (.int w) := by
  rcases q4 with h | h | h | h
  ·exact ⟨1000000000, by omega, by rw [h]; simp⟩
  ·exact ⟨100 * s * many, Int.mul_nonneg (by omega) (by omega), by rw [h]; simp⟩
  ·exact ⟨12 * s * many, Int.mul_nonneg (by omega) (by omega), by rw [h]; simp⟩
  ·exact ⟨3 * s, by omega, by rw [h]; simp⟩
 obtain ⟨pr, hp0, hp1, ep⟩ : ∃ w, 0 <= w /\ w <= 1000000000 /\ nv [.int (x / 7 % 10), .int (x / 7 % 1000000001)] (x / 3 % 2) = .ok (.int w) := by
  rcases q2 with h | h
  ·exact ⟨x / 7 % 10, by omega, by omega, by rw [h]; simp⟩
  ·exact ⟨x / 7 % 1000000001, by omega, by omega, by rw [h]; simp⟩
 have kk0 : 0 <= x / 11 % (rows.length : Int) := Int.emod_nonneg _ (by omega)
 have kk1 : x / 11 % (rows.length : Int) < rows.length := Int.emod_lt_of_pos _ hk2
 have m1 := qx 1000000000 (F + w)
 have m2 := qx 1000000000 (F + dd)
 have g1 : x / 11 % (rows.length : Int) < (k : Int) := by omega
 have g2 : F <= jr 1000000000 (F + w) := by omega
 have g3 : 0 <= jr 1000000000 (F + dd) := by omega
 refine ⟨⟨x / 11 % (rows.length : Int), F, jr 1000000000 (F + w), jr 1000000000 (F + dd), pr⟩, some (.int x), some (.int F), some (.int w), some (.int (jr 1000000000 (F + w))), some (.int (jr 1000000000 (F + dd))), some (.int pr), ⟨kk0, g1, f0, g2, m1.1, g3, m2.1, hp0, hp1⟩, ?_⟩
 simp [eB, e, c1, c2, c3, c4, c5, c6, uA p1, uA p3, hF, hDd, ew, ep, uA hk2, hfl2, aV, flD]
theorem Au (n : Nat) (ns : List Int) (k : Nat) (rows : List (List Int)) (o : Dat) (most : Nat) (s : Int) (hk : rows.length = k) (hk1 : 1 <= k) (hm : most <= 40) (hs0 : 1 <= s) (hs1 : s <= 100000) :
  ∃ fl : List Fli, fl.length <= most /\ (∀ f ∈ fl, rg k f) /\ d8 CR CP CN n [.lst (ns.map .int), .tup [aV rows, o], .int most, .int s] = .ok (.lst (fl.map flD)) := by
 obtain ⟨x, e1, hx⟩ := gF CR CP CN n ns 2 (by omega) (by omega)
 obtain ⟨y, e2, hy⟩ := gF CR CP CN n ns 3 (by omega) (by omega)
 have hmp : 0 < (most : Int) / 4 + 1 := by omega
 have a0 : 0 <= x % ((most : Int) / 4 + 1) := Int.emod_nonneg _ (by omega)
 have a1 : x % ((most : Int) / 4 + 1) < (most : Int) / 4 + 1 := Int.emod_lt_of_pos _ hmp
 obtain ⟨many, hmany, em⟩ : ∃ many : Nat, many <= most /\ eA CR CP CN n [some (.lst (ns.map .int)), some (.tup [aV rows, o]), some (.int most), some (.int s), some (.int (x % ((most : Int) / 4 + 1))), none, none, none, none, none, none, none, none] = .ok (.nx [some (.lst (ns.map .int)), some (.tup [aV rows, o]), some (.int most), some (.int s), some (.int many), none, none, none, none, none, none, none, none]) := by
  by_cases h : y % 8 = 5
  ·exact ⟨most, by omega, by simp [eA, e2, h]⟩
  ·exact ⟨(x % ((most : Int) / 4 + 1)).toNat, by omega, by simp [eA, e2, h] <;> omega⟩
 have k1 : -4611686018427387904 <= (many : Int) := by omega
 have k2 : (many : Int) < 4611686018427387904 := by omega
 obtain ⟨ρ', e, fl, y6, y7, y8, y9, y10, y11, y12, rfl, h1, h2⟩ := g5 (p := .nm 6) (g := eB CR CP CN n)
  (fun i ρ => ∃ (fl : List Fli) (z6 z7 z8 z9 z10 z11 z12 : Option Dat), ρ = [some (.lst (ns.map .int)), some (.tup [aV rows, o]), some (.int most), some (.int s), some (.int many), some (.lst (fl.map flD)), z6, z7, z8, z9, z10, z11, z12] /\ fl.length = i /\ ∀ f ∈ fl, rg k f) (cF 0 many) 0 [some (.lst (ns.map .int)), some (.tup [aV rows, o]), some (.int most), some (.int s), some (.int many), some (.lst []), none, none, none, none, none, none, none] ⟨[], none, none, none, none, none, none, none, rfl, rfl, by simp⟩ (by
  rintro i d ρ hd ⟨fl, z6, z7, z8, z9, z10, z11, z12, rfl, hr1, hr2⟩
  obtain ⟨hi, rfl⟩ := fV hd
  obtain ⟨f, y7, y8, y9, y10, y11, y12, hg, e⟩ := Av CR CP CN n ns k rows o most s many i fl z6 z7 z8 z9 z10 z11 z12 hk hk1 (by omega) hi hs0 hs1 (by omega)
  refine ⟨_, by simp <;> rfl, _, .inl e, fl ++ [f], some (.int i), y7, y8, y9, y10, y11, y12, rfl, by simp; omega, fun y hy => ?_⟩
  rcases List.mem_append.mp hy with z | z
  ·exact hr2 y z
  ·simp at z; subst z; exact hg)
 rw [Nat.zero_add, fU] at h1
 exact ⟨fl, by omega, h2, by simp [d8, iQ, e1, uA hmp, em, k1, k2, e]⟩
end
theorem AA {α : Type} {l : List α} {i : Nat} (h : i < l.length) : (l[i] :: l.eraseIdx i).Perm l := by
 rw [List.eraseIdx_eq_take_drop_succ]
 have e : l.take i ++ l[i] :: l.drop (i + 1) = l := by rw [List.getElem_cons_drop, List.take_append_drop]
 have := (List.perm_middle (a := l[i]) (l₁ := l.take i) (l₂ := l.drop (i + 1))).symm
 rw [e] at this
 exact this
theorem ux (l : List dU) (j : Nat) : (l.map stD).eraseIdx j = (l.eraseIdx j).map stD := by
 rw [List.eraseIdx_eq_take_drop_succ, List.eraseIdx_eq_take_drop_succ]
 simp
theorem popD_st {ls : List dU} {k : Int} (h0 : 0 <= k) (h1 : k < ls.length) (hl : ls.length <= 16777216) : Bk (ls.map stD) (.int k) = .ok (stD (ls[k.toNat]'(by omega)), (ls.eraseIdx k.toNat).map stD) := by
 have hj : k.toNat < ls.length := by omega
 have hn : ¬ 16777216 < ls.length := by omega
 simp [Bk, ixN, h0, h1, hj, hn, ux]
section
variable (CR CP CN : Addr)
theorem sF (fl : List Fli) : ∀ ks : List Nat, (∀ k ∈ ks, k < fl.length) -> ∃ cs : List dU, cs.map (·.2) = ks.map (fun k : Nat => (k : Int)) /\ cz (.nm 0) vc (fL ir (a9 (f2 ixD (f2 ixD (aj 1) (aj 0)) (fC (.int 1))) (a9 (aj 0) aT))) [none, some (.lst (fl.map flD))] (ks.map fun k : Nat => Dat.int (k : Int)) = .ok (cs.map stD)
 | [], _ => ⟨[], rfl, rfl⟩
 | k :: ks, h => by
  obtain ⟨cs, h1, h2⟩ := sF fl ks fun x hx => h x (by simp [hx])
  have hk := h k (by simp)
  have e : nv (fl.map flD) (k : Int) = .ok (flD fl[k]) := by
   rw [jJ (by simpa using hk)]; simp
  refine ⟨((fl[k]).first, (k : Int)) :: cs, by simp [h1], ?_⟩
  rw [List.map_cons, cz]
  simp [e, flD, h2, stD]
theorem vP (n : Nat) (ns : List Int) (a1 a2 : Option Dat) (st : Int) (hs0 : 1 <= st) : ∀ (m : Nat) (left pairs : List dU) (z6 z7 z8 z9 : Option Dat), left.length < m -> left.length + pairs.length <= 1000 -> (∀ p ∈ pairs, 0 <= p.2 /\ p.2 < st) ->
  ∃ (qs : List dU) (y6 y7 y8 y9 : Option Dat), (qs.map (·.1)).Perm (pairs.map (·.1) ++ left.map (·.2)) /\ (∀ p ∈ qs, 0 <= p.2 /\ p.2 < st) /\
   dR (fg CR CP CN n) (gR CR CP CN n) m [some (.lst (ns.map .int)), a1, a2, some (.lst (left.map stD)), some (.lst (pairs.map stD)), some (.int st), z6, z7, z8, z9] = .ok (.nx [some (.lst (ns.map .int)), a1, a2, some (.lst []), some (.lst (qs.map stD)), some (.int st), y6, y7, y8, y9])
 | 0, left, pairs, z6, z7, z8, z9, h, _, _ => by omega
 | m + 1, left, pairs, z6, z7, z8, z9, h, hl, hp => by
  by_cases h0 : left.length = 0
  ·have : left = [] := List.length_eq_zero_iff.mp h0
   subst this
   exact ⟨pairs, z6, z7, z8, z9, by simp, hp, by rw [dR]; simp [fg]⟩
  ·obtain ⟨x, e, hx⟩ := gF CR CP CN n ns (180 + (left.length : Int)) (by omega) (by omega)
   have hpos : 0 < left.length := by omega
   have m1 := qx (left.length : Int) 3
   have hmz : 0 < jr (left.length : Int) 3 := by omega
   have b0 : 0 <= x / 64 % jr (left.length : Int) 3 := Int.emod_nonneg _ (by omega)
   have b1 : x / 64 % jr (left.length : Int) 3 < jr (left.length : Int) 3 := Int.emod_lt_of_pos _ hmz
   obtain ⟨at_, c0, c1, ec⟩ : ∃ at_ : Int, 0 <= at_ /\ at_ < left.length /\ rh (.int (x / 64 % jr (left.length : Int) 3)) (.int (b2z (decide (x % 4 = 0)))) = .ok (.int at_) := by
    by_cases hq : x % 4 = 0
    ·exact ⟨x / 64 % jr (left.length : Int) 3, b0, by omega, by simp [hq, b2z]⟩
    ·exact ⟨0, by omega, by omega, by simp [hq, b2z]⟩
   have ep := popD_st c0 c1 (by omega)
   have hst : 0 < st := by omega
   have r0 : 0 <= x / 4096 % st := Int.emod_nonneg _ (by omega)
   have r1 : x / 4096 % st < st := Int.emod_lt_of_pos _ hst
   have hpl : pairs.length < 16777216 := by omega
   have hat : at_.toNat < left.length := by omega
   generalize hpd : left[at_.toNat]'hat = pd at ep
   have hle := List.length_eraseIdx_of_lt hat
   obtain ⟨qs, y6, y7, y8, y9, hq1, hq2, hq3⟩ := vP n ns a1 a2 st hs0 m (left.eraseIdx at_.toNat) (pairs ++ [(pd.2, x / 4096 % st)]) (some (.int x)) (some (.int at_)) (some (.int pd.1)) (some (.int pd.2)) (by omega) (by simp; omega) (fun p hp' => by
    rcases List.mem_append.mp hp' with z | z
    ·exact hp p z
    ·simp at z; subst z; exact ⟨r0, r1⟩)
   refine ⟨qs, y6, y7, y8, y9, ?_, hq2, ?_⟩
   ·refine hq1.trans ?_
    rw [List.map_append, List.append_assoc]
    refine List.Perm.append_left _ ?_
    have := (AA hat).map (·.2)
    rw [hpd] at this
    simpa using this
   ·rw [dR]
    rw [List.map_append, List.map_cons, List.map_nil] at hq3
    simp only [stD] at hq3 ep
    have ht : fg CR CP CN n [some (.lst (ns.map .int)), a1, a2, some (.lst (left.map stD)), some (.lst (pairs.map stD)), some (.int st), z6, z7, z8, z9] = .ok true := by simp [fg, hpos]
    have hb : gR CR CP CN n [some (.lst (ns.map .int)), a1, a2, some (.lst (left.map stD)), some (.lst (pairs.map stD)), some (.int st), z6, z7, z8, z9] = .ok (.nx [some (.lst (ns.map .int)), a1, a2, some (.lst ((left.eraseIdx at_.toNat).map stD)), some (.lst (pairs.map stD ++ [.tup [.int pd.2, .int (x / 4096 % st)]])), some (.int st), some (.int x), some (.int at_), some (.int pd.1), some (.int pd.2)]) := by
     simp [gR, e, uA hmz, ec, ep, uA hst, hpl]
    rw [ht, az, if_pos rfl, hb, az]
    exact hq3
end
section
variable (CR CP CN : Addr)
theorem Bm (n : Nat) (ns : List Int) (rows : List (List Int)) (o : Dat) (fl : List Fli) (hf : fl.length <= 60) (hn : 64 <= n) : ∃ qs : List dU, (qs.map (·.1)).Perm ((List.range fl.length).map fun k : Nat => (k : Int)) /\ (∀ p ∈ qs, 0 <= p.2 /\ p.2 < 2) /\ (o = .non -> ∀ p ∈ qs, p.2 = 0) /\ fX CR CP CN n [.lst (ns.map .int), .tup [aV rows, o], .lst (fl.map flD)] = .ok (.lst (qs.map stD)) := by
 obtain ⟨cs, h1, h2⟩ := sF fl (List.range fl.length) (fun k hk => List.mem_range.mp hk)
 have hcl : cs.length = fl.length := by have := congrArg List.length h1; simpa using this
 obtain ⟨ss, e, hp, _⟩ := vp cs (by omega)
 obtain ⟨b, hb⟩ : ∃ b, isND o .non = .ok (.bl b) := by cases o <;> exact ⟨_, rfl⟩
 have hs0 : 1 <= (2 : Int) - b2z b := by cases b <;> decide
 have hs1 : (2 : Int) - b2z b <= 2 := by cases b <;> decide
 obtain ⟨qs, y6, y7, y8, y9, q1, q2, q3⟩ := vP CR CP CN n ns (some (.tup [aV rows, o])) (some (.lst (fl.map flD))) (2 - b2z b) hs0 n ss [] none none none none (by rw [hp.length_eq]; omega) (by rw [hp.length_eq]; simp; omega) (by simp)
 refine ⟨qs, ?_, fun p hp => ⟨(q2 p hp).1, by have := (q2 p hp).2; omega⟩, fun hon p hp => by subst hon; cases hb; have := q2 p hp; simp [b2z] at this; omega, ?_⟩
 ·refine q1.trans ?_
  rw [List.map_nil, List.nil_append, <- h1]
  exact hp.map _
 ·have k1 : -4611686018427387904 <= (fl.length : Int) := by omega
  have k2 : (fl.length : Int) < 4611686018427387904 := by omega
  have hl2 : fl.length <= 16777216 := by omega
  have er : cF 0 fl.length = (List.range fl.length).map fun k : Nat => Dat.int (k : Int) := by
   unfold cF
   exact List.map_congr_left fun k _ => by rw [Int.zero_add]
  rw [List.map_nil] at q3
  simp [fX, mP, k1, k2, er, h2, e, hb, hl2, q3, -e_isN]
end
noncomputable def flAt (fl : List Fli) (i : Int) : Fli := match fl[i.toNat]? with
 | some f => f
 | none => ⟨0, 0, 0, 0, 0⟩
theorem getFl {fl : List Fli} {i : Int} (h0 : 0 <= i) (h1 : i < fl.length) : nv (fl.map flD) i = .ok (flD (flAt fl i)) /\ flAt fl i ∈ fl := by
 have hj : i.toNat < fl.length := by omega
 have e : flAt fl i = fl[i.toNat] := by unfold flAt; rw [List.getElem?_eq_getElem hj]
 refine ⟨?_, by rw [e]; exact List.getElem_mem hj⟩
 have := jJ (ds := fl.map flD) (k := i.toNat) (by simpa using hj)
 rw [show ((i.toNat : Nat) : Int) = i by omega] at this
 rw [this, e]
 simp
noncomputable def Cov (cs : List dU) (t : Int) : Prop := ∃ p ∈ cs, p.1 <= t /\ t < p.2
noncomputable def lQ (cs : List dU) (t u : Int) : Prop := t <= u /\ ¬ Cov cs u /\ ∀ v, t <= v -> v < u -> Cov cs v
noncomputable def CQ (cs : List dU) (t u : Int) : Prop := u <= t /\ ¬ Cov cs u /\ ∀ v, u < v -> v <= t -> Cov cs v
theorem lQ.uniq {cs : List dU} {t u v : Int} (h : lQ cs t u) (k : lQ cs t v) : u = v := by
 rcases Int.lt_trichotomy u v with e | e | e
 ·exact absurd (k.2.2 u h.1 e) h.2.1
 ·exact e
 ·exact absurd (h.2.2 v k.1 e) k.2.1
theorem CQ.uniq {cs : List dU} {t u v : Int} (h : CQ cs t u) (k : CQ cs t v) : u = v := by
 rcases Int.lt_trichotomy u v with e | e | e
 ·exact absurd (h.2.2 v e k.1) k.2.1
 ·exact e
 ·exact absurd (k.2.2 u e h.1) h.2.1
theorem yM (t : Int) : ¬ Cov [] t := fun ⟨_, h, _⟩ => by simp at h
theorem uS {p : dU} {cs : List dU} {t : Int} : Cov (p :: cs) t ↔ (p.1 <= t /\ t < p.2) \/ Cov cs t := by
 constructor
 ·rintro ⟨q, h, h2⟩
  rcases List.mem_cons.mp h with e | e
  ·subst e; exact .inl h2
  ·exact .inr ⟨q, e, h2⟩
 ·rintro (h | ⟨q, h, h2⟩)
  ·exact ⟨p, by simp, h⟩
  ·exact ⟨q, by simp [h], h2⟩
theorem jl {as bs : List dU} {t : Int} : Cov (as ++ bs) t ↔ Cov as t \/ Cov bs t := by
 constructor
 ·rintro ⟨q, h, h2⟩
  rcases List.mem_append.mp h with e | e
  ·exact .inl ⟨q, e, h2⟩
  ·exact .inr ⟨q, e, h2⟩
 ·rintro (⟨q, h, h2⟩ | ⟨q, h, h2⟩)
  ·exact ⟨q, by simp [h], h2⟩
  ·exact ⟨q, by simp [h], h2⟩
theorem cov_perm {as bs : List dU} (h : as.Perm bs) {t : Int} : Cov as t ↔ Cov bs t := ⟨fun ⟨p, m, q⟩ => ⟨p, h.mem_iff.mp m, q⟩, fun ⟨p, m, q⟩ => ⟨p, h.mem_iff.mpr m, q⟩⟩
theorem yL {p : dU} {t : Int} : Cov [p] t ↔ p.1 <= t /\ t < p.2 := by rw [uS]; simp [yM]
theorem lj : ∀ (ds : List Dat) (k i : Nat) (d : Dat), (ji k ds)[i]? = some d -> ∃ e, ds[i]? = some e /\ d = .tup [.int ((k + i : Nat) : Int), e]
 | [], k, i, d, h => by simp [ji] at h
 | a :: ds, k, 0, d, h => by simp [ji] at h; exact ⟨a, by simp, by simp [<- h]⟩
 | a :: ds, k, i + 1, d, h => by
  simp [ji] at h
  obtain ⟨e, h1, h2⟩ := lj ds (k + 1) i d h
  exact ⟨e, by simpa using h1, by rw [h2, show k + 1 + i = k + (i + 1) by omega]⟩
theorem gx : ∀ (ds : List Dat) (k : Nat), (ji k ds).length = ds.length
 | [], k => rfl
 | a :: ds, k => by simp [ji, gx ds (k + 1)]
noncomputable def tAt (ts : List Int) (i : Nat) : Int := ts.getD i 0
noncomputable def qAt (qs : List dU) (i : Nat) : dU := qs.getD i (0, 0)
noncomputable def rwAt (rows : List (List Int)) (i : Int) : List Int := rows.getD i.toNat []
noncomputable def at2 (rows : List (List Int)) (i j : Int) : Int := (rwAt rows i).getD j.toNat 0
noncomputable def apS (rows r2 : List (List Int)) (a b : dU) : Int := if a.2 = b.2 then at2 rows a.1 b.1 else at2 r2 a.1 b.1
noncomputable def pz (fl : List Fli) (p : dU) : dU := ((flAt fl p.1).kind, p.2)
structure Wo where
 k : Nat
 rows : List (List Int)
 r2 : List (List Int)
 o : Dat
 fl : List Fli
 cs : List dU
 qs : List dU
structure Wo.Good (w : Wo) : Prop where
 k1 : 1 <= w.k
 k6 : w.k <= 6
 rows : eC w.k w.rows
 o : (w.o = .non /\ ∀ p ∈ w.qs, p.2 = 0) \/ (w.o = aV w.r2 /\ eC w.k w.r2)
 fl : ∀ f ∈ w.fl, rg w.k f
 fll : w.fl.length <= 60
 cs : ∀ p ∈ w.cs, p.1 < p.2
 csl : w.cs.length <= 20
 qs : ∀ p ∈ w.qs, 0 <= p.1 /\ p.1 < w.fl.length
 qsl : w.qs.length = w.fl.length
noncomputable def Wo.f (w : Wo) (i : Nat) : Fli := flAt w.fl (qAt w.qs i).1
noncomputable def Wo.ap (w : Wo) (j i : Nat) : Int := apS w.rows w.r2 (pz w.fl (qAt w.qs j)) (pz w.fl (qAt w.qs i))
noncomputable def Wo.ruD (w : Wo) : Dat := .tup [aV w.rows, w.o]
theorem getQ {qs : List dU} {i : Nat} (h : i < qs.length) : nv (qs.map stD) (i : Int) = .ok (stD (qAt qs i)) := by
 rw [jJ (by simpa using h)]
 simp [qAt, h]
theorem qh {qs : List dU} {i : Nat} (h : i < qs.length) : qAt qs i ∈ qs := by
 have : qAt qs i = qs[i] := by simp [qAt, h]
 rw [this]
 exact List.getElem_mem h
theorem getT {ts : List Int} {i : Nat} (h : i < ts.length) : nv (ts.map .int) (i : Int) = .ok (.int (tAt ts i)) := by
 rw [jJ (by simpa using h)]
 simp [tAt, h]
theorem getR {k : Nat} {rows : List (List Int)} (g : eC k rows) {i : Int} (h0 : 0 <= i) (h1 : i < k) : nv (rows.map pb) i = .ok (pb (rwAt rows i)) /\ r9 k (rwAt rows i) := by
 have hl := g.1
 have hj : i.toNat < rows.length := by omega
 have e : rwAt rows i = rows[i.toNat] := by simp [rwAt, hj]
 refine ⟨?_, by rw [e]; exact g.2 _ (List.getElem_mem hj)⟩
 have := jJ (ds := rows.map pb) (k := i.toNat) (by simpa using hj)
 rw [show ((i.toNat : Nat) : Int) = i by omega] at this
 rw [this, e]
 simp
theorem getA {k : Nat} {rows : List (List Int)} (g : eC k rows) {i j : Int} (h0 : 0 <= i) (h1 : i < k) (h2 : 0 <= j) (h3 : j < k) : nv ((rwAt rows i).map .int) j = .ok (.int (at2 rows i j)) /\ 0 <= at2 rows i j := by
 have gr := (getR g h0 h1).2
 have hl := gr.1
 have hj : j.toNat < (rwAt rows i).length := by omega
 have e : at2 rows i j = (rwAt rows i)[j.toNat] := by simp [at2, hj]
 refine ⟨?_, by rw [e]; exact (gr.2 _ (List.getElem_mem hj)).1⟩
 rw [getI_int h2 (by omega), e]
theorem Wo.Good.fAt {w : Wo} (hw : w.Good) {i : Nat} (h : i < w.qs.length) : nv (w.fl.map flD) (qAt w.qs i).1 = .ok (flD (w.f i)) /\ rg w.k (w.f i) := by
 obtain ⟨h0, h1⟩ := hw.qs _ (qh h)
 obtain ⟨e, m⟩ := getFl h0 h1
 exact ⟨e, hw.fl _ m⟩
section
variable (CR CP CN : Addr)
theorem apart_ok (n : Nat) {w : Wo} (hw : w.Good) {j i : Nat} (hj : j < w.qs.length) (hi : i < w.qs.length) : eV CR CP CN n [w.ruD, .lst (w.fl.map flD), stD (qAt w.qs j), stD (qAt w.qs i)] = .ok (.int (w.ap j i)) := by
 obtain ⟨ej, gj⟩ := hw.fAt hj
 obtain ⟨ei, gi⟩ := hw.fAt hi
 obtain ⟨r1, _⟩ := getR hw.rows gj.k0 gj.k1
 obtain ⟨r2, _⟩ := getA hw.rows gj.k0 gj.k1 gi.k0 gi.k1
 unfold Wo.f at *
 by_cases hs : (qAt w.qs j).2 = (qAt w.qs i).2
 ·simp [eV, iz, iV, Wo.ruD, stD, ej, ei, flD, hs, aV, r1, pb, r2, Wo.ap, apS, pz]
 ·rcases hw.o with ⟨_, h⟩ | ⟨ho, h⟩
  ·exact absurd ((h _ (qh hj)).trans (h _ (qh hi)).symm) hs
  ·obtain ⟨r3, _⟩ := getR h gj.k0 gj.k1
   obtain ⟨r4, _⟩ := getA h gj.k0 gj.k1 gi.k0 gi.k1
   simp [eV, iz, iV, Wo.ruD, stD, ej, ei, flD, hs, ho, aV, r3, pb, r4, Wo.ap, apS, pz]
end
section
variable (CR CP CN : Addr)
theorem Ck (n : Nat) (ns : List Int) (s : Int) (hs0 : 1 <= s) (hs1 : s <= 100000) : ∃ cs : List dU, cs.length <= 20 /\ (∀ p ∈ cs, 0 <= p.1 /\ p.1 < p.2) /\ dI CR CP CN n [.lst (ns.map .int), .int s] = .ok (.lst (cs.map stD)) := by
 obtain ⟨x, e1, hx⟩ := gF CR CP CN n ns 150 (by omega) (by omega)
 obtain ⟨y, e2, hy⟩ := gF CR CP CN n ns 151 (by omega) (by omega)
 obtain ⟨many, hmany, em⟩ : ∃ many : Nat, many <= 20 /\ fO CR CP CN n [some (.lst (ns.map .int)), some (.int s), some (.int (x % 5)), none, none, none, none] = .ok (.nx [some (.lst (ns.map .int)), some (.int s), some (.int many), none, none, none, none]) := by
  by_cases h : y % 8 = 5
  ·exact ⟨20, by omega, by simp [fO, e2, h]⟩
  ·exact ⟨(x % 5).toNat, by omega, by simp [fO, e2, h] <;> omega⟩
 have k1 : -4611686018427387904 <= (many : Int) := by omega
 have k2 : (many : Int) < 4611686018427387904 := by omega
 obtain ⟨ρ', e, cs, y4, y5, y6, rfl, h1, h2⟩ := g5 (p := .nm 4) (g := ie CR CP CN n)
  (fun i ρ => ∃ (cs : List dU) (z4 z5 z6 : Option Dat), ρ = [some (.lst (ns.map .int)), some (.int s), some (.int many), some (.lst (cs.map stD)), z4, z5, z6] /\ cs.length = i /\ ∀ p ∈ cs, 0 <= p.1 /\ p.1 < p.2) (cF 0 many) 0 [some (.lst (ns.map .int)), some (.int s), some (.int many), some (.lst []), none, none, none] ⟨[], none, none, none, rfl, rfl, by simp⟩ (by
  rintro i d ρ hd ⟨cs, z4, z5, z6, rfl, hr1, hr2⟩
  obtain ⟨hi, rfl⟩ := fV hd
  obtain ⟨x, ex, hx⟩ := gF CR CP CN n ns (152 + (i : Int)) (by omega) (by omega)
  have p1 : 0 < 150 * s := by omega
  have f0 : 0 <= x / 9 % (150 * s) := Int.emod_nonneg _ (by omega)
  have m0 : 0 <= x % 9 * s := Int.mul_nonneg (by omega) (by omega)
  have q1 : -18446744073709551616 < x % 9 := by omega
  have q2 : x % 9 < 18446744073709551616 := by omega
  have hl : cs.length < 16777216 := by omega
  refine ⟨_, by simp <;> rfl, [some (.lst (ns.map .int)), some (.int s), some (.int many), some (.lst ((cs ++ [(x / 9 % (150 * s), x / 9 % (150 * s) + 1 + x % 9 * s)]).map stD)), some (.int i), some (.int x), some (.int (x / 9 % (150 * s)))], .inl ?_, _, _, _, _, rfl, by simp; omega, fun y hy => ?_⟩
  ·simp [ie, ex, uA p1, q1, q2, hl, stD]
  ·rcases List.mem_append.mp hy with z | z
   ·exact hr2 y z
   ·simp at z; subst z; exact ⟨f0, by show x / 9 % (150 * s) < x / 9 % (150 * s) + 1 + x % 9 * s; omega⟩)
 rw [Nat.zero_add, fU] at h1
 exact ⟨cs, by omega, h2, by simp [dI, jP, e1, em, k1, k2, e]⟩
end
noncomputable def cnt (cs : List dU) (t : Int) : Nat := cs.countP fun p => decide (t < p.2)
theorem zZ {cs : List dU} {t u : Int} (h : t <= u) : cnt cs u <= cnt cs t := by
 unfold cnt
 exact List.countP_mono_left fun p _ hp => by simp at hp ⊢; omega
theorem cnt_lt : ∀ {cs : List dU} {p : dU} {t : Int}, p ∈ cs -> t < p.2 -> cnt cs p.2 < cnt cs t
 | [], p, t, hp, _ => by simp at hp
 | a :: cs, p, t, hp, ht => by
  have hm := zZ (cs := cs) (t := t) (u := p.2) (by omega)
  unfold cnt at *
  rw [List.countP_cons, List.countP_cons]
  rcases List.mem_cons.mp hp with e | e
  ·subst e
   simp [ht]
   omega
  ·have ih := cnt_lt (cs := cs) e ht
   unfold cnt at ih
   by_cases h1 : p.2 < a.2
   ·have : t < a.2 := by omega
    simp [h1, this]; omega
   ·by_cases h2 : t < a.2 <;> simp [h1, h2] <;> omega
section
variable (CR CP CN : Addr)
theorem ym (n : Nat) (all : List dU) (c : Option Dat) : ∀ (ds : List dU) (t : Int) (m : Bool) (z3 z4 : Option Dat), (∀ p ∈ ds, p ∈ all) -> ∃ (t' : Int) (m' : Bool) (y3 y4 : Option Dat), ky (.tp [3, 4]) (bh CR CP CN n) (ds.map stD) [c, some (.int t), some (.bl m), z3, z4] = .ok (.nx [c, some (.int t'), some (.bl m'), y3, y4]) /\ t <= t' /\ (∀ v, t <= v -> v < t' -> Cov all v) /\ (m' = false -> m = false /\ t' = t /\ ¬ Cov ds t) /\ (m' = true -> m = true \/ cnt all t' < cnt all t)
 | [], t, m, z3, z4, _ => ⟨t, m, z3, z4, rfl, Int.le_refl _, fun v h1 h2 => by omega, fun h => ⟨h, rfl, yM t⟩, fun h => .inl h⟩
 | p :: ds, t, m, z3, z4, hin => by
  have hb : gy (.tp [3, 4]) (stD p) [c, some (.int t), some (.bl m), z3, z4] = .ok [c, some (.int t), some (.bl m), some (.int p.1), some (.int p.2)] := by simp [stD]
  by_cases h : p.1 <= t /\ t < p.2
  ·have hg : bh CR CP CN n [c, some (.int t), some (.bl m), some (.int p.1), some (.int p.2)] = .ok (.nx [c, some (.int p.2), some (.bl true), some (.int p.1), some (.int p.2)]) := by simp [bh, dc, h.1, h.2]
   obtain ⟨t', m', y3, y4, e, h1, h2, h3, h4⟩ := ym n all c ds p.2 true (some (.int p.1)) (some (.int p.2)) fun q hq => hin q (by simp [hq])
   refine ⟨t', m', y3, y4, ?_, by omega, fun v a b => ?_, fun hm => absurd (h3 hm).1 (by simp), fun _ => .inr ?_⟩
   ·rw [List.map_cons, ky, hb, az, hg]; exact e
   ·by_cases hv : v < p.2
    ·exact ⟨p, hin p (by simp), by omega, hv⟩
    ·exact h2 v (by omega) b
   ·exact Nat.lt_of_le_of_lt (zZ h1) (cnt_lt (hin p (by simp)) h.2)
  ·have hg : bh CR CP CN n [c, some (.int t), some (.bl m), some (.int p.1), some (.int p.2)] = .ok (.nx [c, some (.int t), some (.bl m), some (.int p.1), some (.int p.2)]) := by
    by_cases h1 : p.1 <= t
    ·have h2 : ¬ t < p.2 := fun z => h ⟨h1, z⟩
     simp [bh, dc, h1, h2]
    ·simp [bh, dc, h1]
   obtain ⟨t', m', y3, y4, e, h1, h2, h3, h4⟩ := ym n all c ds t m (some (.int p.1)) (some (.int p.2)) fun q hq => hin q (by simp [hq])
   refine ⟨t', m', y3, y4, ?_, h1, h2, fun hm => ?_, h4⟩
   ·rw [List.map_cons, ky, hb, az, hg]; exact e
   ·obtain ⟨a, b, d⟩ := h3 hm
    exact ⟨a, b, fun z => (uS.mp z).elim h d⟩
theorem sk (n : Nat) (cs : List dU) : ∀ (m : Nat) (t : Int) (z3 z4 : Option Dat), cnt cs t + 1 < m -> ∃ (u : Int) (y3 y4 : Option Dat), lQ cs t u /\ dR (bD CR CP CN n) (dg CR CP CN n) m [some (.lst (cs.map stD)), some (.int t), some (.bl true), z3, z4] = .ok (.nx [some (.lst (cs.map stD)), some (.int u), some (.bl false), y3, y4])
 | 0, t, z3, z4, h => by omega
 | m + 1, t, z3, z4, h => by
  obtain ⟨t', m', y3, y4, e, h1, h2, h3, h4⟩ := ym CR CP CN n cs (some (.lst (cs.map stD))) cs t false z3 z4 fun q hq => hq
  have ht : bD CR CP CN n [some (.lst (cs.map stD)), some (.int t), some (.bl true), z3, z4] = .ok true := by simp [bD]
  have hb : dg CR CP CN n [some (.lst (cs.map stD)), some (.int t), some (.bl true), z3, z4] = .ok (.nx [some (.lst (cs.map stD)), some (.int t'), some (.bl m'), y3, y4]) := by simp [dg, e]
  cases m' with
  | false =>
   obtain ⟨_, e2, hn⟩ := h3 rfl
   subst e2
   refine ⟨t', y3, y4, ⟨Int.le_refl _, hn, fun v a b => by omega⟩, ?_⟩
   rw [dR, ht, az, if_pos rfl, hb, az]
   have ht2 : bD CR CP CN n [some (.lst (cs.map stD)), some (.int t'), some (.bl false), y3, y4] = .ok false := by simp [bD]
   cases m with
   | zero => omega
   | succ m =>
    show dR _ _ (m + 1) _ = _
    rw [dR, ht2, az, if_neg (by simp)]
  | true =>
   rcases h4 rfl with z | z
   ·cases z
   ·obtain ⟨u, w3, w4, hu, e2⟩ := sk n cs m t' y3 y4 (by omega)
    refine ⟨u, w3, w4, ⟨Int.le_trans h1 hu.1, hu.2.1, fun v a b => ?_⟩, ?_⟩
    ·by_cases hv : v < t'
     ·exact h2 v a hv
     ·exact hu.2.2 v (by omega) b
    ·rw [dR, ht, az, if_pos rfl, hb, az]
     exact e2
theorem from_ok (n : Nat) (cs : List dU) (t : Int) (hl : cs.length <= 20) (hn : 64 <= n) : ∃ u, lQ cs t u /\ cZ CR CP CN n [.lst (cs.map stD), .int t] = .ok (.int u) := by
 have hc : cnt cs t <= cs.length := List.countP_le_length
 obtain ⟨u, y3, y4, hu, e⟩ := sk CR CP CN n cs n t none none (by omega)
 exact ⟨u, hu, by simp [cZ, gE, e]⟩
end
theorem lookA1 (d : Dat) : List.lookup ("apart" : Str) [(("gaps" : Str), d)] = none := by
 rw [List.lookup_cons, show ((("apart" : Str) == ("gaps" : Str)) = false) from by decide +kernel]
 rfl
theorem lookA2 (d e : Dat) : List.lookup ("apart" : Str) [(("gaps" : Str), d), (("beside" : Str), e)] = none := by
 rw [List.lookup_cons, show ((("apart" : Str) == ("gaps" : Str)) = false) from by decide +kernel]
 show List.lookup ("apart" : Str) [(("beside" : Str), e)] = none
 rw [List.lookup_cons, show ((("apart" : Str) == ("beside" : Str)) = false) from by decide +kernel]
 rfl
section
variable (CR CP CN : Addr)
theorem CD (rows r2 : List (List Int)) : uT [CP] "beside" (d9 CR CP rows (aV r2)) = .ok (aV r2) := by
 have h1 : ((("beside" : Str) == ("gaps" : Str)) = false) := by decide +kernel
 have h2 : ((("beside" : Str) == ("beside" : Str)) = true) := by decide +kernel
 show (if ([CP].contains CP) = true then (match List.lookup ("beside" : Str) [(("gaps" : Str), aV rows), (("beside" : Str), aV r2)] with | some d => Except.ok d | none => stk) else stk) = _
 rw [if_pos (by simp), List.lookup_cons, h1]
 show (match List.lookup ("beside" : Str) [(("beside" : Str), aV r2)] with | some d => Except.ok d | none => stk) = _
 rw [List.lookup_cons, h2]
theorem meth_ok (n : Nat) (hne : CR ≠ CP) {w : Wo} (hw : w.Good) {j i : Nat} (hj : j < w.qs.length) (hi : i < w.qs.length) (fo f1 f2 : ak -> M Dat) (ρ : ak) (h0 : fo ρ = .ok (d9 CR CP w.rows w.o)) (h1 : f1 ρ = .ok (stD (pz w.fl (qAt w.qs j)))) (h2 : f2 ρ = .ok (stD (pz w.fl (qAt w.qs i)))) :
  lh CR CP "apart" (cO CR CP CN n) (cG CR CP CN n) fo (a9 f1 (a9 f2 aT)) ρ = .ok (.int (w.ap j i)) := by
 obtain ⟨ej, gj⟩ := hw.fAt hj
 obtain ⟨ei, gi⟩ := hw.fAt hi
 obtain ⟨r1, _⟩ := getR hw.rows gj.k0 gj.k1
 obtain ⟨r2, _⟩ := getA hw.rows gj.k0 gj.k1 gi.k0 gi.k1
 unfold Wo.f at *
 unfold lh
 rw [h0, az]
 rcases hw.o with ⟨ho, h⟩ | ⟨ho, h⟩
 ·have hs : (qAt w.qs j).2 = (qAt w.qs i).2 := (h _ (qh hj)).trans (h _ (qh hi)).symm
  have hc : isC CR "apart" (d9 CR CP w.rows w.o) = true := by
   rw [ho]
   show ((CR == CR) && (List.lookup ("apart" : Str) [(("gaps" : Str), aV w.rows)]).isNone) = true
   rw [lookA1]; simp
  have hg := BX CR CP w.rows w.o (.inl ho)
  rw [if_pos hc]
  simp [h1, h2, cO, jQ, hg, stD, pz, aV, r1, pb, r2, Wo.ap, apS, hs]
 ·have hc : isC CR "apart" (d9 CR CP w.rows w.o) = false := by
   rw [ho]
   show ((CP == CR) && (List.lookup ("apart" : Str) [(("gaps" : Str), aV w.rows), (("beside" : Str), aV w.r2)]).isNone) = false
   have : (CP == CR) = false := by simp; exact fun z => hne z.symm
   rw [this]; rfl
  have hc2 : isC CP "apart" (d9 CR CP w.rows w.o) = true := by
   rw [ho]
   show ((CP == CP) && (List.lookup ("apart" : Str) [(("gaps" : Str), aV w.rows), (("beside" : Str), aV w.r2)]).isNone) = true
   rw [lookA2]; simp
  have hg := BX CR CP w.rows w.o (.inr ⟨_, ho⟩)
  have hb : uT [CP] "beside" (d9 CR CP w.rows w.o) = .ok (aV w.r2) := by rw [ho]; exact CD CR CP w.rows w.r2
  obtain ⟨r3, _⟩ := getR h gj.k0 gj.k1
  obtain ⟨r4, _⟩ := getA h gj.k0 gj.k1 gi.k0 gi.k1
  rw [if_neg (by rw [hc]; simp), if_pos hc2]
  by_cases hs : (qAt w.qs j).2 = (qAt w.qs i).2
  ·simp [h1, h2, cG, iA, hg, hb, stD, pz, aV, r1, pb, r2, Wo.ap, apS, hs]
  ·simp [h1, h2, cG, iA, hg, hb, stD, pz, aV, r3, pb, r4, Wo.ap, apS, hs]
theorem zA (n : Nat) {w : Wo} (hw : w.Good) : jh CR CP CN n [.lst (w.fl.map flD), .lst (w.qs.map stD)] = .ok (.lst ((w.qs.map (pz w.fl)).map stD)) := by
 have hl : w.qs.length <= 16777216 := by have := hw.qsl; have := hw.fll; omega
 have e : ∀ qs : List dU, (∀ p ∈ qs, 0 <= p.1 /\ p.1 < w.fl.length) -> cz (.tp [0, 1]) vc (fL ir (a9 (f2 ixD (f2 ixD (aj 2) (aj 0)) (fC (.int 0))) (a9 (aj 1) aT))) [none, none, some (.lst (w.fl.map flD))] (qs.map stD) = .ok ((qs.map (pz w.fl)).map stD) := by
  intro qs
  induction qs with
  | nil => intro _; rfl
  | cons p qs ih =>
   intro h
   obtain ⟨h0, h1⟩ := h p (by simp)
   obtain ⟨e, _⟩ := getFl h0 h1
   have ih := ih fun q hq => h q (by simp [hq])
   rw [List.map_cons, cz]
   simp [e, flD, ih, pz, stD, -List.map_map]
 simp [jh, oN, hl, e w.qs hw.qs, -List.map_map]
theorem getS {w : Wo} {i : Nat} (h : i < w.qs.length) : nv ((w.qs.map (pz w.fl)).map stD) (i : Int) = .ok (stD (pz w.fl (qAt w.qs i))) := by
 rw [jJ (by simpa using h)]
 simp [qAt, h]
noncomputable def Wo.gapL (w : Wo) (ts : List Int) (i : Nat) : List Int := (List.range i).map fun j => tAt ts j + w.ap j i
theorem gap_ok (n : Nat) (hne : CR ≠ CP) {w : Wo} (hw : w.Good) (ts : List Int) {i : Nat} (hi : i < w.qs.length) (ht : i <= ts.length) : hX CR CP CN n [d9 CR CP w.rows w.o, .lst ((w.qs.map (pz w.fl)).map stD), .lst (ts.map .int), .int i] = .ok (.lst ((w.gapL ts i).map .int)) := by
 have hq := hw.qsl
 have hf := hw.fll
 have k1 : -4611686018427387904 <= (i : Int) := by omega
 have k2 : (i : Int) < 4611686018427387904 := by omega
 have hl : (cF 0 i).length <= 16777216 := by rw [fU]; omega
 have e : cz (.nm 0) vc (f2 lF (f2 ixD (aj 3) (aj 0)) (lh CR CP "apart" (cO CR CP CN n) (cG CR CP CN n) (aj 1) (a9 (f2 ixD (aj 2) (aj 0)) (a9 (f2 ixD (aj 2) (aj 4)) aT)))) [none, some (d9 CR CP w.rows w.o), some (.lst ((w.qs.map (pz w.fl)).map stD)), some (.lst (ts.map .int)), some (.int i)] (cF 0 i) = .ok ((w.gapL ts i).map .int) := by
  have := jm (p := .nm 0) (fe := f2 lF (f2 ixD (aj 3) (aj 0)) (lh CR CP "apart" (cO CR CP CN n) (cG CR CP CN n) (aj 1) (a9 (f2 ixD (aj 2) (aj 0)) (a9 (f2 ixD (aj 2) (aj 4)) aT)))) (ρ0 := [none, some (d9 CR CP w.rows w.o), some (.lst ((w.qs.map (pz w.fl)).map stD)), some (.lst (ts.map .int)), some (.int i)]) (fun d => match d with | .int j => .int (tAt ts j.toNat + w.ap j.toNat i) | d => d) (cF 0 i) (fun d hd => by
   obtain ⟨j, hj⟩ := List.getElem?_of_mem hd
   obtain ⟨hj, rfl⟩ := fV hj
   refine ⟨[some (.int j), some (d9 CR CP w.rows w.o), some (.lst ((w.qs.map (pz w.fl)).map stD)), some (.lst (ts.map .int)), some (.int i)], by simp, ?_⟩
   have em := meth_ok CR CP CN n hne hw (j := j) (i := i) (by omega) hi (aj 1) (f2 ixD (aj 2) (aj 0)) (f2 ixD (aj 2) (aj 4)) [some (.int j), some (d9 CR CP w.rows w.o), some (.lst ((w.qs.map (pz w.fl)).map stD)), some (.lst (ts.map .int)), some (.int i)] (by simp) (by simp [getS (w := w) (i := j) (by omega), -List.map_map]) (by simp [getS (w := w) hi, -List.map_map])
   have et := getT (ts := ts) (i := j) (by omega)
   rw [e_2, em]
   simp [et])
  rw [this, Wo.gapL]
  congr 1
  unfold cF
  rw [List.map_map, List.map_map]
  exact List.map_congr_left fun j _ => by simp
 simp [hX, mO, k1, k2, e, hl, -List.map_map]
end
theorem zS {p : Pat} {g : ak -> M Flo} (P : Nat -> ak -> Prop) (R : Dat -> Prop) : ∀ (ds : List Dat) (k : Nat) (ρ : ak), P k ρ ->
  (∀ (i : Nat) (d : Dat) (ρ : ak), ds[i]? = some d -> P (k + i) ρ -> ∃ ρ1, gy p d ρ = .ok ρ1 /\ ((∃ ρ2, g ρ1 = .ok (.nx ρ2) /\ P (k + i + 1) ρ2) \/ (∃ r, g ρ1 = .ok (.rt r) /\ R r))) ->
  (∃ ρ', ky p g ds ρ = .ok (.nx ρ') /\ P (k + ds.length) ρ') \/ (∃ r, ky p g ds ρ = .ok (.rt r) /\ R r)
 | [], k, ρ, h, _ => .inl ⟨ρ, rfl, h⟩
 | d :: ds, k, ρ, h, st => by
  obtain ⟨ρ1, e1, h1⟩ := st 0 d ρ rfl h
  rcases h1 with ⟨ρ2, e2, h2⟩ | ⟨r, e2, hr⟩
  ·have ih := zS P R ds (k + 1) ρ2 h2 fun i d' ρ he hp => by
    have := st (i + 1) d' ρ (by simpa using he) (by rw [show k + (i + 1) = k + 1 + i by omega]; exact hp)
    rw [show k + (i + 1) = k + 1 + i by omega] at this
    exact this
   have e : ky p g (d :: ds) ρ = ky p g ds ρ2 := by rw [ky, e1]; simp only [az, e2]
   rcases ih with ⟨ρ', e3, h3⟩ | ⟨r, e3, hr⟩
   ·exact .inl ⟨ρ', by rw [e]; exact e3, by rw [show k + (d :: ds).length = k + 1 + ds.length by simp; omega]; exact h3⟩
   ·exact .inr ⟨r, by rw [e]; exact e3, hr⟩
  ·exact .inr ⟨r, by rw [ky, e1]; simp only [az, e2], hr⟩
section
variable (CR CP CN : Addr)
theorem getC {cs : List dU} {i : Nat} (h : i < cs.length) : nv (cs.map stD) (i : Int) = .ok (.tup [.int (qAt cs i).1, .int (qAt cs i).2]) := getQ h
end
noncomputable def Wo.low (w : Wo) (ts : List Int) (i j : Nat) : Int := (List.range j).foldl (fun t l => j4 t (tAt ts l + w.ap l i)) (w.f i).first
theorem maxZ_le (a b : Int) : a <= j4 a b /\ b <= j4 a b /\ (j4 a b = a \/ j4 a b = b) := by unfold j4; split <;> omega
theorem Wo.ua (w : Wo) (ts : List Int) (i j : Nat) : w.low ts i (j + 1) = j4 (w.low ts i j) (tAt ts j + w.ap j i) := by
 unfold Wo.low
 rw [List.range_succ, List.foldl_append]
 rfl
theorem Wo.kL (w : Wo) {ts us : List Int} (i : Nat) : ∀ j, (∀ l, l < j -> tAt ts l = tAt us l) -> w.low ts i j = w.low us i j
 | 0, _ => rfl
 | j + 1, h => by rw [w.ua, w.ua, w.kL i j fun l hl => h l (by omega), h j (by omega)]
noncomputable def Wo.j3 (w : Wo) (ts : List Int) (i : Nat) : Prop := lQ w.cs (w.low ts i i) (tAt ts i) /\ tAt ts i <= (w.f i).last
noncomputable def Wo.Least (w : Wo) (ts : List Int) : Prop := ts.length = w.qs.length /\ ∀ i, i < w.qs.length -> w.j3 ts i
theorem xU {ts us : List Int} {i : Nat} (h : i < ts.length) : tAt (ts ++ us) i = tAt ts i := by
 unfold tAt
 rw [List.getD_eq_getElem?_getD, List.getD_eq_getElem?_getD, List.getElem?_append_left h]
theorem tAt_new (ts us : List Int) (t : Int) : tAt (ts ++ t :: us) ts.length = t := by
 unfold tAt
 rw [List.getD_eq_getElem?_getD, List.getElem?_append_right (Nat.le_refl _)]
 simp
theorem Wo.j3.app {w : Wo} {ts us : List Int} {i : Nat} (h : w.j3 ts i) (hi : i < ts.length) : w.j3 (ts ++ us) i := by
 unfold Wo.j3 at *
 rw [xU hi, w.kL (us := ts) i i fun l hl => xU (by omega)]
 exact h
section
variable (CR CP CN : Addr)
theorem low_loop (n : Nat) {w : Wo} (hw : w.Good) (ts : List Int) (i : Nat) (hi : i < w.qs.length) (ht : ts.length = i) (z8 : Option Dat) : ∃ y8, ky (.nm 8) (g7 CR CP CN n) (cF 0 i) [some w.ruD, some (.lst (w.fl.map flD)), some (.lst (w.cs.map stD)), some (.lst (w.qs.map stD)), some (.lst (ts.map .int)), some (.int i), some (flD (w.f i)), some (.int (w.f i).first), z8] = .ok (.nx [some w.ruD, some (.lst (w.fl.map flD)), some (.lst (w.cs.map stD)), some (.lst (w.qs.map stD)), some (.lst (ts.map .int)), some (.int i), some (flD (w.f i)), some (.int (w.low ts i i)), y8]) := by
 obtain ⟨ρ', e, y8, rfl⟩ := g5 (p := .nm 8) (g := g7 CR CP CN n)
  (fun j ρ => ∃ (z8 : Option Dat), ρ = [some w.ruD, some (.lst (w.fl.map flD)), some (.lst (w.cs.map stD)), some (.lst (w.qs.map stD)), some (.lst (ts.map .int)), some (.int i), some (flD (w.f i)), some (.int (w.low ts i j)), z8]) (cF 0 i) 0 _ ⟨z8, rfl⟩ (by
  rintro j d ρ hd ⟨z8, rfl⟩
  obtain ⟨hj, rfl⟩ := fV hd
  have ea := apart_ok CR CP CN n hw (j := j) (i := i) (by omega) hi
  have etj := getT (ts := ts) (i := j) (by omega)
  have eqj := getQ (qs := w.qs) (i := j) (by omega)
  have eqi := getQ (qs := w.qs) (i := i) (by omega)
  refine ⟨_, by simp <;> rfl, [some w.ruD, some (.lst (w.fl.map flD)), some (.lst (w.cs.map stD)), some (.lst (w.qs.map stD)), some (.lst (ts.map .int)), some (.int i), some (flD (w.f i)), some (.int (w.low ts i (0 + j + 1))), some (.int j)], .inl ?_, _, rfl⟩
  rw [w.ua, Nat.zero_add]
  simp [g7, ea, etj, eqj, eqi])
 rw [Nat.zero_add, fU] at e
 exact ⟨y8, e⟩
theorem least_ok (n : Nat) (hn : 64 <= n) {w : Wo} (hw : w.Good) : (∃ ts, w.Least ts /\ dz CR CP CN n [w.ruD, .lst (w.fl.map flD), .lst (w.cs.map stD), .lst (w.qs.map stD)] = .ok (.lst (ts.map .int))) \/ (∃ (i : Nat) (ts : List Int) (t : Int), i < w.qs.length /\ ts.length = i /\ (∀ j, j < i -> w.j3 ts j) /\ lQ w.cs (w.low ts i i) t /\ (w.f i).last < t /\ dz CR CP CN n [w.ruD, .lst (w.fl.map flD), .lst (w.cs.map stD), .lst (w.qs.map stD)] = .ok (.tup [.int (qAt w.qs i).1, .int t])) := by
 have hq := hw.qsl
 have hf := hw.fll
 have hc := hw.csl
 have k1 : -4611686018427387904 <= (w.qs.length : Int) := by omega
 have k2 : (w.qs.length : Int) < 4611686018427387904 := by omega
 rcases zS (p := .nm 5) (g := g6 CR CP CN n)
  (fun i ρ => ∃ (ts : List Int) (z5 z6 z7 z8 : Option Dat), ρ = [some w.ruD, some (.lst (w.fl.map flD)), some (.lst (w.cs.map stD)), some (.lst (w.qs.map stD)), some (.lst (ts.map .int)), z5, z6, z7, z8] /\ ts.length = i /\ ∀ j, j < i -> w.j3 ts j) (fun r => ∃ (i : Nat) (ts : List Int) (t : Int), i < w.qs.length /\ ts.length = i /\ (∀ j, j < i -> w.j3 ts j) /\ lQ w.cs (w.low ts i i) t /\ (w.f i).last < t /\ r = .tup [.int (qAt w.qs i).1, .int t]) (cF 0 w.qs.length) 0 [some w.ruD, some (.lst (w.fl.map flD)), some (.lst (w.cs.map stD)), some (.lst (w.qs.map stD)), some (.lst []), none, none, none, none] ⟨[], none, none, none, none, rfl, rfl, by simp⟩ (by
  rintro i d ρ hd ⟨ts, z5, z6, z7, z8, rfl, ht, hle⟩
  obtain ⟨hi, rfl⟩ := fV hd
  rw [Nat.zero_add] at ht hle
  refine ⟨[some w.ruD, some (.lst (w.fl.map flD)), some (.lst (w.cs.map stD)), some (.lst (w.qs.map stD)), some (.lst (ts.map .int)), some (.int i), z6, z7, z8], by simp, ?_⟩
  have eq := getC hi
  obtain ⟨ef, gf⟩ := hw.fAt hi
  obtain ⟨y8, el⟩ := low_loop CR CP CN n hw ts i hi ht z8
  obtain ⟨u, hu, eo⟩ := from_ok CR CP CN n w.cs (w.low ts i i) (by omega) hn
  have j1 : -4611686018427387904 <= (i : Int) := by omega
  have j2 : (i : Int) < 4611686018427387904 := by omega
  have hl : ts.length < 16777216 := by omega
  by_cases hlt : (w.f i).last < u
  ·refine .inr ⟨.tup [.int (qAt w.qs i).1, .int u], ?_, i, ts, u, hi, ht, hle, hu, hlt, rfl⟩
   simp only [flD] at ef el
   simp [g6, iU, eq, ef, j1, j2, el, eo, hlt]
  ·refine .inl ⟨[some w.ruD, some (.lst (w.fl.map flD)), some (.lst (w.cs.map stD)), some (.lst (w.qs.map stD)), some (.lst ((ts ++ [u]).map .int)), some (.int i), some (flD (w.f i)), some (.int u), y8], ?_, ts ++ [u], _, _, _, _, rfl, by simp; omega, fun j hj => ?_⟩
   ·simp only [flD] at ef el ⊢
    simp [g6, iU, eq, ef, j1, j2, el, eo, hlt, hl]
   ·by_cases hji : j = i
    ·subst hji
     unfold Wo.j3
     rw [w.kL (us := ts) j j fun l hl => xU (by omega)]
     have := tAt_new ts [] u
     rw [ht] at this
     rw [this]
     exact ⟨hu, by omega⟩
    ·exact (hle j (by omega)).app (by omega)) with ⟨ρ', e, ts, z5, z6, z7, z8, rfl, h1, h2⟩ | ⟨r, e, i, ts, t, h1, h2, h3, h4, h5, rfl⟩
 ·rw [Nat.zero_add, fU] at h1 h2
  exact .inl ⟨ts, ⟨h1, h2⟩, by simp [dz, iy, k1, k2, e]⟩
 ·exact .inr ⟨i, ts, t, h1, h2, h3, h4, h5, by simp [dz, iy, k1, k2, e]⟩
end
noncomputable def sQ (js : List dU) : Prop := js.Pairwise (fun p q => p.2 < q.1) /\ ∀ p ∈ js, p.1 < p.2
theorem zN (n : Nat) : ixN (n + 1) (-1) = some n := by unfold ixN; simp <;> omega
@[simp] theorem getI_last (ds : List Dat) (d : Dat) : nv (ds ++ [d]) (-1) = .ok d := by
 unfold nv atI
 rw [List.length_append, List.length_singleton, zN]
 simp
noncomputable def kg (js done : List dU) : Prop := sQ js /\ (∀ t, Cov js t ↔ Cov done t) /\ js.length <= done.length /\ ∀ j ∈ js, ∃ d ∈ done, d.1 = j.1
theorem kg.new {js done : List dU} {p : dU} (h : kg js done) (hp : p.1 < p.2) (hlt : ∀ x ∈ js, x.2 < p.1) : kg (js ++ [p]) (done ++ [p]) := by
 obtain ⟨⟨h1, h2⟩, h3, h4, h5⟩ := h
 refine ⟨⟨?_, ?_⟩, ?_, by simp; exact h4, ?_⟩
 ·rw [List.pairwise_append]
  exact ⟨h1, by simp, fun a ha b hb => by simp at hb; subst hb; exact hlt a ha⟩
 ·intro x hx
  rcases List.mem_append.mp hx with e | e
  ·exact h2 x e
  ·simp at e; subst e; exact hp
 ·intro t; rw [jl, jl, h3]
 ·intro j hj
  rcases List.mem_append.mp hj with e | e
  ·obtain ⟨d, m, z⟩ := h5 j e; exact ⟨d, by simp [m], z⟩
  ·simp at e; subst e; exact ⟨j, by simp, rfl⟩
theorem kg.more {js0 done : List dU} {q p : dU} (h : kg (js0 ++ [q]) done) (hp : p.1 < p.2) (h1 : q.1 <= p.1) (h2 : p.1 <= q.2) : kg (js0 ++ [(q.1, j4 p.2 q.2)]) (done ++ [p]) := by
 obtain ⟨⟨a1, a2⟩, a3, a4, a5⟩ := h
 have hq : q.1 < q.2 := a2 q (by simp)
 have hm1 : p.2 <= j4 p.2 q.2 := by unfold j4; split <;> omega
 have hm2 : q.2 <= j4 p.2 q.2 := by unfold j4; split <;> omega
 have hm3 : j4 p.2 q.2 = p.2 \/ j4 p.2 q.2 = q.2 := by unfold j4; split <;> omega
 rw [List.pairwise_append] at a1
 refine ⟨⟨?_, ?_⟩, ?_, by simp at a4 ⊢; omega, ?_⟩
 ·rw [List.pairwise_append]
  exact ⟨a1.1, by simp, fun a ha b hb => by simp at hb; subst hb; exact a1.2.2 a ha q (by simp)⟩
 ·intro x hx
  rcases List.mem_append.mp hx with e | e
  ·exact a2 x (by simp [e])
  ·simp at e; subst e; show q.1 < j4 p.2 q.2; omega
 ·intro t
  have := a3 t
  rw [jl, yL] at this
  rw [jl, jl, <- this, yL, yL]
  show Cov js0 t \/ q.1 <= t /\ t < j4 p.2 q.2 ↔ _
  constructor
  ·rintro (z | z)
   ·exact .inl (.inl z)
   ·by_cases e : t < q.2
    ·exact .inl (.inr ⟨z.1, e⟩)
    ·exact .inr (by omega)
  ·rintro ((z | z) | z)
   ·exact .inl z
   ·exact .inr (by omega)
   ·exact .inr (by omega)
 ·intro j hj
  rcases List.mem_append.mp hj with e | e
  ·obtain ⟨d, m, z⟩ := a5 j (by simp [e]); exact ⟨d, by simp [m], z⟩
  ·simp at e; subst e
   obtain ⟨d, m, z⟩ := a5 q (by simp)
   exact ⟨d, by simp [m], z⟩
theorem wN {g : ak -> M Flo} {c : Option Dat} {t : Int} (r : dU -> Dat) (hg : ∀ p : dU, g [c, some (.int t), some (.int p.1), some (.int p.2)] = if p.1 <= t /\ t < p.2 then .ok (.rt (r p)) else .ok (.nx [c, some (.int t), some (.int p.1), some (.int p.2)])) :
  ∀ (js : List dU) (z1 z2 : Option Dat), (∃ p ∈ js, (p.1 <= t /\ t < p.2) /\ ky (.tp [2, 3]) g (js.map stD) [c, some (.int t), z1, z2] = .ok (.rt (r p))) \/ (¬ Cov js t /\ ∃ z1' z2', ky (.tp [2, 3]) g (js.map stD) [c, some (.int t), z1, z2] = .ok (.nx [c, some (.int t), z1', z2']))
 | [], z1, z2 => .inr ⟨yM t, z1, z2, rfl⟩
 | p :: js, z1, z2 => by
  have hb : gy (.tp [2, 3]) (stD p) [c, some (.int t), z1, z2] = .ok [c, some (.int t), some (.int p.1), some (.int p.2)] := by simp [stD]
  by_cases h : p.1 <= t /\ t < p.2
  ·refine .inl ⟨p, by simp, h, ?_⟩
   rw [List.map_cons, ky, hb, az, hg, if_pos h]
   rfl
  ·have e : ky (.tp [2, 3]) g ((p :: js).map stD) [c, some (.int t), z1, z2] = ky (.tp [2, 3]) g (js.map stD) [c, some (.int t), some (.int p.1), some (.int p.2)] := by
    rw [List.map_cons, ky, hb, az, hg, if_neg h]
    rfl
   rcases wN r hg js (some (.int p.1)) (some (.int p.2)) with ⟨q, hq, h2, h3⟩ | ⟨h2, h3⟩
   ·exact .inl ⟨q, by simp [hq], h2, by rw [e]; exact h3⟩
   ·refine .inr ⟨fun z => ?_, by rw [e]; exact h3⟩
    rcases uS.mp z with z | z
    ·exact h z
    ·exact h2 z
theorem sQ.tri : ∀ {js : List dU}, sQ js -> ∀ p ∈ js, ∀ q ∈ js, p = q \/ p.2 < q.1 \/ q.2 < p.1
 | [], _, p, hp, _, _ => by simp at hp
 | a :: js, ⟨h1, h2⟩, p, hp, q, hq => by
  rw [List.pairwise_cons] at h1
  rcases List.mem_cons.mp hp with e | e <;> rcases List.mem_cons.mp hq with e2 | e2
  ·exact .inl (e.trans e2.symm)
  ·subst e; exact .inr (.inl (h1.1 q e2))
  ·subst e2; exact .inr (.inr (h1.1 p e))
  ·exact sQ.tri (js := js) ⟨h1.2, fun x hx => h2 x (by simp [hx])⟩ p e q e2
section
variable (CR CP CN : Addr)
theorem BL (n : Nat) (cs : List dU) (hl : cs.length < 64) (hs : ∀ p ∈ cs, p.1 < p.2) : ∃ js : List dU, bY CR CP CN n [.lst (cs.map stD)] = .ok (.lst (js.map stD)) /\ sQ js /\ (∀ t, Cov js t ↔ Cov cs t) /\ js.length <= cs.length := by
 obtain ⟨ss, e, hp, hw⟩ := vp cs hl
 have hlen : ss.length = cs.length := hp.length_eq
 have key := g5 (p := .tp [2, 3]) (g := bF CR CP CN n)
  (fun k ρ => ∃ js z1 z2, ρ = [some (.lst (cs.map stD)), some (.lst (js.map stD)), z1, z2] /\ kg js (ss.take k)) (ss.map stD) 0 [some (.lst (cs.map stD)), some (.lst []), none, none] ⟨[], none, none, rfl, ⟨by simp [sQ], fun t => Iff.rfl, by simp, by simp⟩⟩ (by
  rintro i d ρ hd ⟨js, z1, z2, rfl, hj⟩
  rw [List.getElem?_map] at hd
  obtain ⟨p, hpi, rfl⟩ := Option.map_eq_some_iff.mp hd
  obtain ⟨hi, hpe⟩ := List.getElem?_eq_some_iff.mp hpi
  have htk : ss.take (0 + i + 1) = ss.take (0 + i) ++ [p] := by rw [Nat.zero_add, List.take_succ, hpi]; rfl
  have hpp : p.1 < p.2 := hs p (hp.mem_iff.mp (List.mem_of_getElem? hpi))
  have hstart : ∀ j ∈ js, j.1 <= p.1 := fun j hjm => by
   obtain ⟨d, dm, de⟩ := hj.2.2.2 j hjm
   rw [Nat.zero_add] at dm
   obtain ⟨m, hm, hme⟩ := List.mem_take_iff_getElem.mp dm
   have := List.pairwise_iff_getElem.mp hw m i (by omega) hi (by omega)
   rw [hme, hpe] at this
   omega
  have hjl : js.length < 64 := by
   have := hj.2.2.1
   rw [List.length_take] at this
   omega
  refine ⟨_, by simp [stD]; rfl, ?_⟩
  rw [htk]
  rcases List.eq_nil_or_concat js with e0 | ⟨js0, q, e0⟩
  ·subst e0
   refine ⟨_, .inl (by simp [bF, cw]; rfl), [p], some (.int p.1), some (.int p.2), by simp [stD], by simpa using hj.new hpp (by simp)⟩
  ·rw [List.concat_eq_append] at e0
   subst e0
   by_cases hc : p.1 <= q.2
   ·refine ⟨_, .inl (by simp [bF, cw, stD, hc, m4, sy, zN]; rfl), js0 ++ [(q.1, j4 p.2 q.2)], some (.int p.1), some (.int p.2), ?_, hj.more hpp (hstart q (by simp)) hc⟩
    simp [stD]
   ·have hlt : ∀ x ∈ js0 ++ [q], x.2 < p.1 := fun x hx => by
     rcases List.mem_append.mp hx with e | e
     ·have h1 := (List.pairwise_append.mp hj.1.1).2.2 x e q (by simp)
      have h2 := hj.1.2 q (by simp)
      omega
     ·simp at e; subst e; omega
    simp at hjl
    have hjl2 : js0.length + 1 < 16777216 := by omega
    refine ⟨_, .inl (by simp [bF, cw, stD, hc, hjl2]; rfl), js0 ++ [q] ++ [p], some (.int p.1), some (.int p.2), by simp [stD], hj.new hpp hlt⟩)
 obtain ⟨ρ', e2, js, z1, z2, rfl, hj⟩ := key
 refine ⟨js, ?_, hj.1, fun t => ?_, ?_⟩
 ·simp [bY, fE, e, e2]
 ·rw [hj.2.1 t, Nat.zero_add, List.length_map, List.take_length]
  exact cov_perm hp
 ·have := hj.2.2.1
  rw [List.length_take, List.length_map] at this
  omega
theorem next_ok (n : Nat) (cs : List dU) (t : Int) (hl : cs.length < 64) (hs : ∀ p ∈ cs, p.1 < p.2) : ∃ u, fW CR CP CN n [.lst (cs.map stD), .int t] = .ok (.int u) /\ lQ cs t u := by
 obtain ⟨js, e, hj, hc, _⟩ := BL CR CP CN n cs hl hs
 rcases wN (g := jZ CR CP CN n) (c := some (.lst (cs.map stD))) (t := t) (fun p => .int p.2) (fun p => by by_cases h1 : p.1 <= t <;> by_cases h2 : t < p.2 <;> simp [jZ, nU, h1, h2]) js none none with ⟨p, hp, h, e2⟩ | ⟨h, z1, z2, e2⟩
 ·refine ⟨p.2, by simp [fW, jK, e, e2], by omega, fun z => ?_, fun v h1 h2 => (hc v).mp ⟨p, hp, by omega, h2⟩⟩
  obtain ⟨q, hq, h3⟩ := (hc _).mpr z
  rcases hj.tri p hp q hq with e | e | e
  ·subst e; omega
  ·omega
  ·have := hj.2 p hp; omega
 ·exact ⟨t, by simp [fW, jK, e, e2], Int.le_refl _, fun z => h ((hc t).mpr z), fun v h1 h2 => by omega⟩
end
theorem Wo.low_gapL (w : Wo) (ts : List Int) (i : Nat) : (w.gapL ts i).foldl j4 (w.f i).first = w.low ts i i := by
 unfold Wo.gapL Wo.low
 rw [List.foldl_map]
theorem zz {ts : List Int} {m i : Nat} (h : i < m) : tAt (ts.take m) i = tAt ts i := by
 unfold tAt
 rw [List.getD_eq_getElem?_getD, List.getD_eq_getElem?_getD, List.getElem?_take_of_lt h]
theorem vk {ts : List Int} {i : Nat} (h : i < ts.length) : ts.take (i + 1) = ts.take i ++ [tAt ts i] := by
 rw [List.take_add_one, List.getElem?_eq_getElem h]
 simp [tAt, h]
theorem zT {p : Pat} {g : ak -> M Flo} (x : Err) (P : Nat -> ak -> Prop) : ∀ (ds : List Dat) (k m : Nat) (ρ : ak), P k ρ -> m < ds.length ->
  (∀ (i : Nat) (d : Dat) (ρ : ak), i < m -> ds[i]? = some d -> P (k + i) ρ -> ∃ ρ1, gy p d ρ = .ok ρ1 /\ ∃ ρ2, g ρ1 = .ok (.nx ρ2) /\ P (k + i + 1) ρ2) ->
  (∀ (d : Dat) (ρ : ak), ds[m]? = some d -> P (k + m) ρ -> ∃ ρ1, gy p d ρ = .ok ρ1 /\ g ρ1 = .error x) -> ky p g ds ρ = .error x
 | [], _, _, _, _, h, _, _ => by simp at h
 | d :: ds, k, 0, ρ, h, _, _, er => by
  obtain ⟨ρ1, e1, e2⟩ := er d ρ rfl h
  rw [ky, e1, az, e2]
  rfl
 | d :: ds, k, m + 1, ρ, h, hm, st, er => by
  obtain ⟨ρ1, e1, ρ2, e2, h2⟩ := st 0 d ρ (by omega) rfl h
  have ih := zT (p := p) (g := g) x P ds (k + 1) m ρ2 h2 (by simpa using hm) (fun i d' ρ hi he hp => by
   have := st (i + 1) d' ρ (by omega) (by simpa using he) (by rw [show k + (i + 1) = k + 1 + i by omega]; exact hp)
   rw [show k + (i + 1) + 1 = k + 1 + i + 1 by omega] at this
   exact this) (fun d' ρ he hp => er d' ρ (by simpa using he) (by rw [show k + (m + 1) = k + 1 + m by omega]; exact hp))
  rw [ky, e1, az, e2]
  exact ih
section
variable (CR CP CN : Addr)
theorem oo (n : Nat) (hne : CR ≠ CP) {w : Wo} (hw : w.Good) (tk : List Int) {i : Nat} (hi : i < w.qs.length) (htk : tk.length = i) {u : Int} (hu : lQ w.cs (w.low tk i i) u) (z8 z9 : Option Dat) :
  eY CR CP CN n [some (d9 CR CP w.rows w.o), some (.lst (w.fl.map flD)), some (.lst (w.cs.map stD)), some (.lst (w.qs.map stD)), some (.lst ((w.qs.map (pz w.fl)).map stD)), some (.lst (tk.map .int)), some (.int i), some (.tup [.int (qAt w.qs i).1, .int (qAt w.qs i).2]), z8, z9] =
   if (w.f i).last < u then .error (.exc CN [("flight", .int (qAt w.qs i).1), ("time", .int u)]) else .ok (.nx [some (d9 CR CP w.rows w.o), some (.lst (w.fl.map flD)), some (.lst (w.cs.map stD)), some (.lst (w.qs.map stD)), some (.lst ((w.qs.map (pz w.fl)).map stD)), some (.lst ((tk ++ [u]).map .int)), some (.int i), some (.tup [.int (qAt w.qs i).1, .int (qAt w.qs i).2]), some (flD (w.f i)), some (.int u)]) := by
 have hq := hw.qsl
 have hf := hw.fll
 have hc := hw.csl
 obtain ⟨ef, gf⟩ := hw.fAt hi
 have eg := gap_ok CR CP CN n hne hw tk hi (by omega)
 have hgl : (w.gapL tk i).length = i := by simp [Wo.gapL]
 have eM : maxD [.lst (.int (w.f i).first :: (w.gapL tk i).map .int)] = .ok (.int (w.low tk i i)) := by
  show (dY (((w.f i).first :: w.gapL tk i).map .int)).bind maxL = _
  rw [nG, az, maxL, w.low_gapL]
 obtain ⟨u', eu, hu'⟩ := next_ok CR CP CN n w.cs (w.low tk i i) (by omega) hw.cs
 have hut := hu'.uniq hu
 subst hut
 have c1 : 1 + i <= 16777216 := by omega
 have c2 : i < 16777216 := by omega
 by_cases hlt : (w.f i).last < u'
 ·rw [if_pos hlt]
  simp only [flD] at ef ⊢
  simp [eY, lE, ef, eg, hgl, lF, c1, eM, eu, hlt, htk, c2, -C4, -List.map_map]
 ·rw [if_neg hlt]
  simp only [flD] at ef ⊢
  simp [eY, lE, ef, eg, hgl, lF, c1, eM, eu, hlt, htk, c2, -C4, -List.map_map]
theorem yG {qs : List dU} {i : Nat} {d : Dat} (hd : (ji 0 (qs.map stD))[i]? = some d) : i < qs.length /\ d = .tup [.int i, .tup [.int (qAt qs i).1, .int (qAt qs i).2]] := by
 obtain ⟨e, h1, rfl⟩ := lj _ _ _ _ hd
 have hi : i < qs.length := by simpa using (List.getElem?_eq_some_iff.mp h1).1
 refine ⟨hi, ?_⟩
 rw [List.getElem?_map, List.getElem?_eq_getElem hi] at h1
 simp at h1
 rw [<- h1]; simp [qAt, hi, stD]
theorem times_ok (n : Nat) (hne : CR ≠ CP) {w : Wo} (hw : w.Good) {ts : List Int} (hl : w.Least ts) : dH CR CP CN n [d9 CR CP w.rows w.o, .lst (w.fl.map flD), .lst (w.cs.map stD), .lst (w.qs.map stD)] = .ok (.lst (ts.map .int)) := by
 have hq := hw.qsl
 have hf := hw.fll
 have es := zA CR CP CN n hw
 have htl := hl.1
 obtain ⟨ρ', e, z6, z7, z8, z9, rfl⟩ := g5 (p := .tp [6, 7]) (g := eY CR CP CN n)
  (fun i ρ => ∃ (z6 z7 z8 z9 : Option Dat), ρ = [some (d9 CR CP w.rows w.o), some (.lst (w.fl.map flD)), some (.lst (w.cs.map stD)), some (.lst (w.qs.map stD)), some (.lst ((w.qs.map (pz w.fl)).map stD)), some (.lst ((ts.take i).map .int)), z6, z7, z8, z9]) (ji 0 (w.qs.map stD)) 0 [some (d9 CR CP w.rows w.o), some (.lst (w.fl.map flD)), some (.lst (w.cs.map stD)), some (.lst (w.qs.map stD)), some (.lst ((w.qs.map (pz w.fl)).map stD)), some (.lst []), none, none, none, none] ⟨none, none, none, none, rfl⟩ (by
  rintro i d ρ hd ⟨z6, z7, z8, z9, rfl⟩
  obtain ⟨hi, rfl⟩ := yG hd
  obtain ⟨hn, hlast⟩ := hl.2 i hi
  have e := oo CR CP CN n hne hw (ts.take i) hi (by rw [List.length_take]; omega) (u := tAt ts i) (by rw [w.kL (us := ts) i i fun l hl => zz hl]; exact hn) z8 z9
  rw [if_neg (by omega)] at e
  rw [Nat.zero_add, vk (by omega)]
  exact ⟨_, by simp <;> rfl, _, .inl e, _, _, _, _, rfl⟩)
 rw [Nat.zero_add, gx, List.length_map, <- htl, List.take_length] at e
 simp [dH, lW, es, e, -List.map_map]
theorem AY (n : Nat) (hne : CR ≠ CP) {w : Wo} (hw : w.Good) {ts : List Int} {i : Nat} {t : Int} (hi : i < w.qs.length) (ht : ts.length = i) (hle : ∀ j, j < i -> w.j3 ts j) (hn : lQ w.cs (w.low ts i i) t) (hlt : (w.f i).last < t) :
  dH CR CP CN n [d9 CR CP w.rows w.o, .lst (w.fl.map flD), .lst (w.cs.map stD), .lst (w.qs.map stD)] = .error (.exc CN [("flight", .int (qAt w.qs i).1), ("time", .int t)]) := by
 have hq := hw.qsl
 have hf := hw.fll
 have es := zA CR CP CN n hw
 have e := zT (p := .tp [6, 7]) (g := eY CR CP CN n) (.exc CN [("flight", .int (qAt w.qs i).1), ("time", .int t)])
  (fun i ρ => ∃ (z6 z7 z8 z9 : Option Dat), ρ = [some (d9 CR CP w.rows w.o), some (.lst (w.fl.map flD)), some (.lst (w.cs.map stD)), some (.lst (w.qs.map stD)), some (.lst ((w.qs.map (pz w.fl)).map stD)), some (.lst ((ts.take i).map .int)), z6, z7, z8, z9]) (ji 0 (w.qs.map stD)) 0 i [some (d9 CR CP w.rows w.o), some (.lst (w.fl.map flD)), some (.lst (w.cs.map stD)), some (.lst (w.qs.map stD)), some (.lst ((w.qs.map (pz w.fl)).map stD)), some (.lst []), none, none, none, none] ⟨none, none, none, none, rfl⟩ (by rw [gx, List.length_map]; exact hi) (by
  rintro j d ρ hj hd ⟨z6, z7, z8, z9, rfl⟩
  obtain ⟨hjq, rfl⟩ := yG hd
  obtain ⟨hn, hlast⟩ := hle j hj
  have e := oo CR CP CN n hne hw (ts.take j) hjq (by rw [List.length_take]; omega) (u := tAt ts j) (by rw [w.kL (us := ts) j j fun l hl => zz hl]; exact hn) z8 z9
  rw [if_neg (by omega)] at e
  rw [Nat.zero_add, vk (by omega)]
  exact ⟨_, by simp <;> rfl, _, e, _, _, _, _, rfl⟩) (by
  rintro d ρ hd ⟨z6, z7, z8, z9, rfl⟩
  obtain ⟨_, rfl⟩ := yG hd
  have e := oo CR CP CN n hne hw ts hi ht hn z8 z9
  rw [if_pos hlt] at e
  rw [Nat.zero_add, <- ht, List.take_length]
  rw [ht]
  exact ⟨_, by simp <;> rfl, e⟩)
 simp [dH, lW, es, e, -List.map_map]
end
theorem Bz (n : Nat) : ∀ cs : List dU, iJ (cs.map stD) (n + 1) = true
 | [] => by simp [iJ]
 | p :: cs => by simp [iJ, okE, stD, Bz n cs]
theorem yq (n : Nat) : ∀ cs : List Fli, iJ (cs.map flD) (n + 1) = true
 | [] => by simp [iJ]
 | p :: cs => by simp [iJ, okE, flD, yq n cs]
theorem C0 : ∀ cs : List dU, m6 (cs.map stD) (cs.map stD) = true
 | [] => by simp [m6]
 | p :: cs => by simp [m6, eqD, stD, C0 cs]
theorem C3 : ∀ cs : List Fli, m6 (cs.map flD) (cs.map flD) = true
 | [] => by simp [m6]
 | p :: cs => by simp [m6, eqD, flD, C3 cs]
theorem yp (n : Nat) : ∀ ts : List Int, iJ (ts.map .int) (n + 1) = true
 | [] => by simp [iJ]
 | p :: cs => by simp [iJ, okE, yp n cs]
theorem yF : ∀ cs : List Int, m6 (cs.map .int) (cs.map .int) = true
 | [] => by simp [m6]
 | p :: cs => by simp [m6, eqD, yF cs]
theorem ne_three (fl : List Fli) (cs qs : List dU) : neM (.lst [.lst (fl.map flD), .lst (cs.map stD), .lst (qs.map stD)]) (.lst [.lst (fl.map flD), .lst (cs.map stD), .lst (qs.map stD)]) = .ok (.bl false) := by
 have h : okE (.lst [.lst (fl.map flD), .lst (cs.map stD), .lst (qs.map stD)]) 40 = true := by simp [okE, iJ, yq, Bz]
 unfold neM
 rw [h]
 simp [eqD, m6, C3, C0]
theorem ne_times (ts : List Int) : neM (.lst (ts.map .int)) (.lst (ts.map .int)) = .ok (.bl false) := by
 have h : okE (.lst (ts.map .int)) 40 = true := by simp [okE, yp]
 unfold neM
 rw [h]
 simp [eqD, yF]
noncomputable def Fli.cut (f : Fli) (wd : Int) : Fli := { f with last := jr f.last (f.first + wd) }
noncomputable def Fli.up (f : Fli) (b : Int) : Fli := { f with first := f.first + b, last := f.last + b, due := jr 1000000000 (f.due + b) }
noncomputable def stUp (b : Int) (p : dU) : dU := (p.1 + b, p.2 + b)
section
variable (CR CP CN : Addr)
theorem cut_loop (n : Nat) (a0 a2 : Option Dat) (all : Option Dat) (wd : Int) (fl : List Fli) (hf : fl.length <= 60) (z5 z6 z7 z8 z9 z10 z11 : Option Dat) : ∃ y5 y6 y7 y8 y9, ky (.tp [5, 6, 7, 8, 9]) (dP CR CP CN n) (fl.map flD) [a0, all, a2, some (.int wd), some (.lst []), z5, z6, z7, z8, z9, z10, z11] = .ok (.nx [a0, all, a2, some (.int wd), some (.lst ((fl.map fun f => f.cut wd).map flD)), y5, y6, y7, y8, y9, z10, z11]) := by
 obtain ⟨ρ', e, y5, y6, y7, y8, y9, rfl⟩ := g5 (p := .tp [5, 6, 7, 8, 9]) (g := dP CR CP CN n)
  (fun i ρ => ∃ (z5 z6 z7 z8 z9 : Option Dat), ρ = [a0, all, a2, some (.int wd), some (.lst (((fl.take i).map fun f => f.cut wd).map flD)), z5, z6, z7, z8, z9, z10, z11]) (fl.map flD) 0 [a0, all, a2, some (.int wd), some (.lst []), z5, z6, z7, z8, z9, z10, z11] ⟨z5, z6, z7, z8, z9, rfl⟩ (by
  rintro i d ρ hd ⟨z5, z6, z7, z8, z9, rfl⟩
  rw [Nat.zero_add]
  have hi : i < fl.length := by simpa using (List.getElem?_eq_some_iff.mp hd).1
  rw [List.getElem?_map, List.getElem?_eq_getElem hi] at hd
  simp at hd
  subst hd
  have hl : (((fl.take i).map fun f => f.cut wd).map flD).length < 16777216 := by simp; omega
  have hn : ((fl.take (i + 1)).map fun f => f.cut wd).map flD = ((fl.take i).map fun f => f.cut wd).map flD ++ [flD (fl[i].cut wd)] := by
   rw [List.take_add_one, List.getElem?_eq_getElem hi, List.map_append, List.map_append]; rfl
  rw [hn]
  generalize ((fl.take i).map fun f => f.cut wd).map flD = acc at hl ⊢
  refine ⟨_, by simp [flD] <;> rfl, [a0, all, a2, some (.int wd), some (.lst (acc ++ [flD (fl[i].cut wd)])), some (.int fl[i].kind), some (.int fl[i].first), some (.int fl[i].last), some (.int fl[i].due), some (.int fl[i].price), z10, z11], .inl ?_, _, _, _, _, _, rfl⟩
  simp [dP, hl, flD, Fli.cut])
 rw [Nat.zero_add, List.length_map, List.take_length] at e
 exact ⟨y5, y6, y7, y8, y9, e⟩
theorem up_loop (n : Nat) (a0 a2 a3 a4 : Option Dat) (all : Option Dat) (b : Int) (fl : List Fli) (hf : fl.length <= 60) (z5 z6 z7 z8 z9 : Option Dat) : ∃ y5 y6 y7 y8 y9, ky (.tp [5, 6, 7, 8, 9]) (dO CR CP CN n) (fl.map flD) [a0, all, a2, a3, a4, z5, z6, z7, z8, z9, some (.int b), some (.lst [])] = .ok (.nx [a0, all, a2, a3, a4, y5, y6, y7, y8, y9, some (.int b), some (.lst ((fl.map fun f => f.up b).map flD))]) := by
 obtain ⟨ρ', e, y5, y6, y7, y8, y9, rfl⟩ := g5 (p := .tp [5, 6, 7, 8, 9]) (g := dO CR CP CN n)
  (fun i ρ => ∃ (z5 z6 z7 z8 z9 : Option Dat), ρ = [a0, all, a2, a3, a4, z5, z6, z7, z8, z9, some (.int b), some (.lst (((fl.take i).map fun f => f.up b).map flD))]) (fl.map flD) 0 [a0, all, a2, a3, a4, z5, z6, z7, z8, z9, some (.int b), some (.lst [])] ⟨z5, z6, z7, z8, z9, rfl⟩ (by
  rintro i d ρ hd ⟨z5, z6, z7, z8, z9, rfl⟩
  rw [Nat.zero_add]
  have hi : i < fl.length := by simpa using (List.getElem?_eq_some_iff.mp hd).1
  rw [List.getElem?_map, List.getElem?_eq_getElem hi] at hd
  simp at hd
  subst hd
  have hl : (((fl.take i).map fun f => f.up b).map flD).length < 16777216 := by simp; omega
  have hn : ((fl.take (i + 1)).map fun f => f.up b).map flD = ((fl.take i).map fun f => f.up b).map flD ++ [flD (fl[i].up b)] := by
   rw [List.take_add_one, List.getElem?_eq_getElem hi, List.map_append, List.map_append]; rfl
  rw [hn]
  generalize ((fl.take i).map fun f => f.up b).map flD = acc at hl ⊢
  refine ⟨_, by simp [flD] <;> rfl, [a0, all, a2, a3, a4, some (.int fl[i].kind), some (.int fl[i].first), some (.int fl[i].last), some (.int fl[i].due), some (.int fl[i].price), some (.int b), some (.lst (acc ++ [flD (fl[i].up b)]))], .inl ?_, _, _, _, _, _, rfl⟩
  simp [dO, hl, flD, Fli.up])
 rw [Nat.zero_add, List.length_map, List.take_length] at e
 exact ⟨y5, y6, y7, y8, y9, e⟩
theorem BF : ∀ (xs : List Int) (x : Int), x <= xs.foldl j4 x /\ (∀ y ∈ xs, y <= xs.foldl j4 x) /\ (xs.foldl j4 x = x \/ xs.foldl j4 x ∈ xs)
 | [], x => by simp
 | y :: ys, x => by
  obtain ⟨h1, h2, h3⟩ := BF ys (j4 x y)
  obtain ⟨a, b, c⟩ := maxZ_le x y
  rw [List.foldl_cons]
  refine ⟨Int.le_trans a h1, fun z hz => ?_, ?_⟩
  ·rcases List.mem_cons.mp hz with rfl | hz
   ·exact Int.le_trans b h1
   ·exact h2 z hz
  ·rcases h3 with h | h
   ·rw [h]
    rcases c with c | c
    ·exact .inl c
    ·exact .inr (by rw [c]; simp)
   ·exact .inr (List.mem_cons_of_mem _ h)
theorem Cg : ∀ fl : List Fli, cz (.nm 0) vc (f2 ixD (aj 0) (fC (.int 2))) [none] (fl.map flD) = .ok ((fl.map fun f => f.last).map .int) := fun fl => by
 have := jm (p := .nm 0) (fe := f2 ixD (aj 0) (fC (.int 2))) (ρ0 := [none]) (fun d => match d with | .tup (_ :: _ :: x :: _) => x | _ => .non) (fl.map flD) (fun d hd => by
  obtain ⟨f, _, rfl⟩ := List.mem_map.mp hd
  exact ⟨[some (flD f)], by simp, by simp [flD]⟩)
 rw [this]
 congr 1
 rw [List.map_map, List.map_map]
 exact List.map_congr_left fun f _ => rfl
theorem Cf (b : Int) : ∀ cs : List dU, cz (.tp [0, 1]) (fB (f2 leD (f2 lF (aj 1) (aj 2)) (f2 Bi (fC (.int 10)) (fC (.int 9))))) (fL ir (a9 (f2 lF (aj 0) (aj 2)) (a9 (f2 lF (aj 1) (aj 2)) aT))) [none, none, some (.int b)] (cs.map stD) = .ok (((cs.filter fun p => decide (p.2 + b <= 1000000000)).map (stUp b)).map stD)
 | [] => rfl
 | p :: cs => by
  have ih := Cf b cs
  rw [List.map_cons, cz]
  have hb : gy (.tp [0, 1]) (stD p) [none, none, some (.int b)] = .ok [some (.int p.1), some (.int p.2), some (.int b)] := by simp [stD]
  rw [hb, az]
  by_cases h : p.2 + b <= 1000000000
  ·rw [List.filter_cons_of_pos (by simpa using h)]
   simp [h, ih, stD, stUp]
  ·rw [List.filter_cons_of_neg (by simpa using h)]
   simp [h, ih]
theorem moved_ok (n : Nat) (ns : List Int) {w : Wo} (hw : w.Good) (h0 : ∀ p ∈ w.cs, 0 <= p.1) : ∃ (fl : List Fli) (cs : List dU), ({ w with fl := fl, cs := cs } : Wo).Good /\ bc CR CP CN n [.lst (ns.map .int), .lst (w.fl.map flD), .lst (w.cs.map stD)] = .ok (.tup [.lst (fl.map flD), .lst (cs.map stD)]) := by
 obtain ⟨x, ex, hx⟩ := gF CR CP CN n ns 98 (by omega) (by omega)
 obtain ⟨s, es, hs0, hs1⟩ := zD CR CP CN n ns
 have hf := hw.fll
 have hc := hw.csl
 have henil : eqM (.lst (w.fl.map flD)) (.lst []) = .ok (.bl (decide (w.fl = []))) := by
  cases h : w.fl with
  | nil => simp [eqM, okE, iJ, eqD, m6]
  | cons f fs =>
   have hk : okE (.lst ((f :: fs).map flD)) 40 = true := by simp [okE, iJ, flD, yq]
   unfold eqM
   rw [hk]
   simp [okE, iJ, eqD, m6]
 by_cases hm : x % 8 = 3
 ·cases hfl : w.fl with
  | nil =>
   refine ⟨w.fl, w.cs, hw, ?_⟩
   rw [hfl] at henil ⊢
   simp at henil
   simp [bc, dA, dN, ex, hm, henil]
  | cons f0 fs =>
   rw [<- hfl]
   obtain ⟨wd, hwd⟩ : ∃ wd, wd = 300 * s := ⟨_, rfl⟩
   obtain ⟨some', hso⟩ : ∃ some' : List Fli, some' = w.fl.map fun f => f.cut wd := ⟨_, rfl⟩
   have hsl : some'.length = w.fl.length := by rw [hso]; simp
   obtain ⟨M, hM⟩ : ∃ M : Int, M = (fs.map fun f => (f.cut wd).last).foldl j4 (f0.cut wd).last := ⟨_, rfl⟩
   have hmx := BF (fs.map fun f => (f.cut wd).last) (f0.cut wd).last
   rw [<- hM] at hmx
   have hle : ∀ f ∈ some', f.last <= M := by
    intro f hf
    rw [hso, hfl] at hf
    obtain ⟨g, hg, rfl⟩ := List.mem_map.mp hf
    rcases List.mem_cons.mp hg with rfl | hg
    ·exact hmx.1
    ·exact hmx.2.1 _ (List.mem_map_of_mem (f := fun f => (f.cut wd).last) hg)
   have good : ∀ f ∈ some', rg w.k f := by
    intro f hf
    rw [hso] at hf
    obtain ⟨g, hg, rfl⟩ := List.mem_map.mp hf
    have gg := hw.fl g hg
    obtain ⟨m1, m2, m3⟩ := qx g.last (g.first + wd)
    exact ⟨gg.k0, gg.k1, gg.f0, by show g.first <= jr g.last (g.first + wd); have := gg.f1; rcases m3 with m3 | m3 <;> rw [m3] <;> omega, by show jr g.last (g.first + wd) <= _; have := gg.l1; omega, gg.d0, gg.d1, gg.p0, gg.p1⟩
   have hMb : M <= 1000000000 := by
    have : ∃ f ∈ some', f.last = M := by
     rw [hso, hfl]
     rcases hmx.2.2 with h | h
     ·exact ⟨f0.cut wd, by simp, h.symm⟩
     ·obtain ⟨g, hg, e⟩ := List.mem_map.mp h
      exact ⟨g.cut wd, by simp; exact .inr ⟨g, hg, rfl⟩, e⟩
    obtain ⟨f, hf, e⟩ := this
    rw [<- e]
    exact (good f hf).l1
   refine ⟨some'.map fun f => f.up (1000000000 - M), (w.cs.filter fun p => decide (p.2 + (1000000000 - M) <= 1000000000)).map (stUp (1000000000 - M)), ⟨hw.k1, hw.k6, hw.rows, hw.o, fun f hf => ?_, by simp [hsl]; omega, fun p hp => ?_, ?_, fun p hp => by simpa [hsl] using hw.qs p hp, by simp [hsl]; exact hw.qsl⟩, ?_⟩
   ·obtain ⟨g, hg, rfl⟩ := List.mem_map.mp hf
    have gg := good g hg
    have hl := hle g hg
    obtain ⟨m1, m2, m3⟩ := qx 1000000000 (g.due + (1000000000 - M))
    refine ⟨gg.k0, gg.k1, ?_, ?_, ?_, ?_, ?_, gg.p0, gg.p1⟩
    ·show 0 <= g.first + (1000000000 - M); have := gg.f0; omega
    ·show g.first + (1000000000 - M) <= g.last + (1000000000 - M); have := gg.f1; omega
    ·show g.last + (1000000000 - M) <= 1000000000; omega
    ·show 0 <= jr 1000000000 (g.due + (1000000000 - M)); have := gg.d0; rcases m3 with m3 | m3 <;> rw [m3] <;> omega
    ·show jr 1000000000 (g.due + (1000000000 - M)) <= _; exact m1
   ·obtain ⟨q, hq, rfl⟩ := List.mem_map.mp hp
    have := hw.cs q (List.mem_filter.mp hq).1
    show q.1 + _ < q.2 + _
    omega
   ·rw [List.length_map]
    exact Nat.le_trans (List.length_filter_le _ _) hc
   ·obtain ⟨y5, y6, y7, y8, y9, e1⟩ := cut_loop CR CP CN n (some (.lst (ns.map .int))) (some (.lst (w.cs.map stD))) (some (.lst (w.fl.map flD))) wd w.fl hf none none none none none none none
    rw [<- hso] at e1
    have el := Cg some'
    have eM : maxD [.lst ((some'.map fun f => f.last).map .int)] = .ok (.int M) := by
     rw [hso, hfl, hM]
     show (dY (((f0.cut wd).last :: _).map .int)).bind maxL = _
     rw [List.map_map, nG, az, maxL]
     rfl
    obtain ⟨x5, x6, x7, x8, x9, e2⟩ := up_loop CR CP CN n (some (.lst (ns.map .int))) (some (.lst (w.cs.map stD))) (some (.int wd)) (some (.lst (some'.map flD))) (some (.lst (w.fl.map flD))) (1000000000 - M) some' (by omega) y5 y6 y7 y8 y9
    have e3 := Cf (1000000000 - M) w.cs
    have hd : ¬ w.fl = [] := by rw [hfl]; simp
    simp [hd] at henil
    have s1 : w.fl.length <= 16777216 := by omega
    have s2 : w.cs.length <= 16777216 := by omega
    have s3 : some'.length <= 16777216 := by omega
    rw [hwd] at e1 e2
    simp [bc, dA, dN, ex, hm, henil, es, e1, el, eM, e2, e3, s1, s2, s3, -C4, -List.map_map]
 ·exact ⟨w.fl, w.cs, hw, by simp [bc, dA, dN, ex, hm]⟩
end
section
variable (CR CP CN : Addr)
theorem set_up (ns : List Int) : ∃ (s : Int) (w : Wo) (fl0 : List Fli) (cs0 : List dU), w.Good /\ bz CR CP CN 64 [.lst (ns.map .int)] = .ok (.int s) /\ bS CR CP CN 64 [.lst (ns.map .int), .int s] = .ok w.ruD /\ eN CR CP CN 64 [w.ruD] = .ok (d9 CR CP w.rows w.o) /\ d8 CR CP CN 64 [.lst (ns.map .int), w.ruD, .int 40, .int s] = .ok (.lst (fl0.map flD)) /\ dI CR CP CN 64 [.lst (ns.map .int), .int s] = .ok (.lst (cs0.map stD)) /\ bc CR CP CN 64 [.lst (ns.map .int), .lst (fl0.map flD), .lst (cs0.map stD)] = .ok (.tup [.lst (w.fl.map flD), .lst (w.cs.map stD)]) /\ fX CR CP CN 64 [.lst (ns.map .int), w.ruD, .lst (w.fl.map flD)] = .ok (.lst (w.qs.map stD)) := by
 obtain ⟨s, es, hs0, hs1⟩ := zD CR CP CN 64 ns
 obtain ⟨k, rows, o, hk1, hk6, hr, ho, er⟩ := rules_ok CR CP CN 64 ns s hs0 hs1
 have em := made_ok CR CP CN 64 k rows o hk1 hk6 hr ho
 obtain ⟨fl0, hfl1, hfl2, ef⟩ := Au CR CP CN 64 ns k rows o 40 s hr.1 hk1 (by omega) hs0 hs1
 simp only [Int.cast_ofNat_Int] at ef
 obtain ⟨cs0, hc1, hc2, ec⟩ := Ck CR CP CN 64 ns s hs0 hs1
 obtain ⟨fl, cs, hgf, hlen, hcs, hcl, emv⟩ : ∃ (fl : List Fli) (cs : List dU), (∀ f ∈ fl, rg k f) /\ fl.length = fl0.length /\ (∀ p ∈ cs, p.1 < p.2) /\ cs.length <= 20 /\ bc CR CP CN 64 [.lst (ns.map .int), .lst (fl0.map flD), .lst (cs0.map stD)] = .ok (.tup [.lst (fl.map flD), .lst (cs.map stD)]) := by
  obtain ⟨qs, hq1, hq2, hq3, eq⟩ := Bm CR CP CN 64 ns rows o fl0 (by omega) (by omega)
  have hql : qs.length = fl0.length := by have := hq1.length_eq; simpa using this
  have hqb : ∀ p ∈ qs, 0 <= p.1 /\ p.1 < fl0.length := fun p hp => by
   have : p.1 ∈ qs.map (·.1) := List.mem_map_of_mem hp
   have := hq1.mem_iff.mp this
   obtain ⟨j, hj, e⟩ := List.mem_map.mp this
   have := List.mem_range.mp hj
   omega
  obtain ⟨r2, hor⟩ : ∃ r2, (o = .non /\ ∀ p ∈ qs, p.2 = 0) \/ (o = aV r2 /\ eC k r2) := by
   rcases ho with h | ⟨r2, h1, h2⟩
   ·exact ⟨[], .inl ⟨h, hq3 h⟩⟩
   ·exact ⟨r2, .inr ⟨h2, h1⟩⟩
  have hw0 : (⟨k, rows, r2, o, fl0, cs0, qs⟩ : Wo).Good := ⟨hk1, hk6, hr, hor, hfl2, by show fl0.length <= 60; omega, fun p hp => (hc2 p hp).2, hc1, hqb, hql⟩
  obtain ⟨fl, cs, hw, emv⟩ := moved_ok CR CP CN 64 ns hw0 fun p hp => (hc2 p hp).1
  have hwl : qs.length = fl.length := hw.qsl
  exact ⟨fl, cs, hw.fl, by omega, hw.cs, hw.csl, emv⟩
 obtain ⟨qs, hq1, hq2, hq3, eq⟩ := Bm CR CP CN 64 ns rows o fl (by omega) (by omega)
 have hql : qs.length = fl.length := by have := hq1.length_eq; simpa using this
 have hqb : ∀ p ∈ qs, 0 <= p.1 /\ p.1 < fl.length := fun p hp => by
  have : p.1 ∈ qs.map (·.1) := List.mem_map_of_mem hp
  have := hq1.mem_iff.mp this
  obtain ⟨j, hj, e⟩ := List.mem_map.mp this
  have := List.mem_range.mp hj
  omega
 obtain ⟨r2, hor⟩ : ∃ r2, (o = .non /\ ∀ p ∈ qs, p.2 = 0) \/ (o = aV r2 /\ eC k r2) := by
  rcases ho with h | ⟨r2, h1, h2⟩
  ·exact ⟨[], .inl ⟨h, hq3 h⟩⟩
  ·exact ⟨r2, .inr ⟨h2, h1⟩⟩
 obtain ⟨w, hwe⟩ : ∃ w : Wo, w = ⟨k, rows, r2, o, fl, cs, qs⟩ := ⟨_, rfl⟩
 have hw : w.Good := by rw [hwe]; exact ⟨hk1, hk6, hr, hor, hgf, by show fl.length <= 60; omega, hcs, hcl, hqb, hql⟩
 have e0 : (.tup [aV rows, o] : Dat) = w.ruD := by rw [hwe]; rfl
 have e1 : rows = w.rows := by rw [hwe]
 have e2 : o = w.o := by rw [hwe]
 have e3 : qs = w.qs := by rw [hwe]
 have e4 : fl = w.fl := by rw [hwe]
 have e5 : cs = w.cs := by rw [hwe]
 rw [e0] at er em ef eq
 rw [e1, e2] at em
 rw [e4, e5] at emv
 rw [e4, e3] at eq
 exact ⟨s, w, fl0, cs0, hw, es, er, em, ef, ec, emv, eq⟩
theorem told_ok (n : Nat) {a b c d : Dat} {ls : List Int} (e : dH CR CP CN n [a, b, c, d] = .ok (.lst (ls.map .int))) : dw CR CP CN n [a, b, c, d] = .ok (.lst (ls.map .int)) := by
 have enil : eqM (.lst []) (.lst []) = .ok (.bl true) := by simp [eqM, okE, iJ, eqD, m6]
 have e1 : gQ CR CP CN n [some a, some b, some c, some d, some (.lst []), some (.lst []), none] = .ok (.nx [some a, some b, some c, some d, some (.lst (ls.map .int)), some (.lst []), none]) :=
  wV (by simp [e])
 simp [dw, jM, e1, jV, enil, -List.map_map]
theorem zr (n : Nat) (x : Int) : bL CR CP CN n [.int x] = .ok (.bl true) := by simp [bL, lb]
theorem told_err (n : Nat) {a b c d : Dat} {f t : Int} (e : dH CR CP CN n [a, b, c, d] = .error (.exc CN [("flight", .int f), ("time", .int t)])) : dw CR CP CN n [a, b, c, d] = .ok (.tup [.int f, .int t]) := by
 have e1 : gQ CR CP CN n [some a, some b, some c, some d, some (.lst []), some (.lst []), none] = .ok (.nx [some a, some b, some c, some d, some (.lst []), some (.lst [.int f, .int t, .bl true, .bl true, .bl false]), none]) := by
  unfold gQ
  rw [sA (f := ("flight", .int f)) (fs := [("time", .int t)]) (by simp [e])]
  rfl
 have en : eqM (.lst [.int f, .int t, .bl true, .bl true, .bl false]) (.lst []) = .ok (.bl false) := by
  unfold eqM
  simp [okE, iJ, eqD, m6]
 have en2 : neM (.lst [.bl true, .bl true, .bl false]) (.lst [.bl true, .bl true, .bl false]) = .ok (.bl false) := by
  unfold neM
  simp [okE, iJ, eqD, m6]
 have es : zC (.lst [.int f, .int t, .bl true, .bl true, .bl false]) (some 2) none = .ok (.lst [.bl true, .bl true, .bl false]) := by
  simp [zC, cutL, cX]
 simp [dw, jM, e1, jV, en, nV, es, en2, zr, isL]
theorem eq_times (ts : List Int) : eqM (.lst (ts.map .int)) (.lst (ts.map .int)) = .ok (.bl true) := by
 have h : okE (.lst (ts.map .int)) 40 = true := by simp [okE, yp]
 unfold eqM
 rw [h]
 simp [eqD, yF]
theorem eq_two (f t : Int) : eqM (.tup [.int f, .int t]) (.tup [.int f, .int t]) = .ok (.bl true) /\ neM (.tup [.int f, .int t]) (.tup [.int f, .int t]) = .ok (.bl false) := by
 unfold eqM neM
 simp [okE, iJ, eqD, m6]
theorem law_true (hne : CR ≠ CP) : ∀ ns : List Int, ns.length <= 63 -> ∃ n, BG CR CP CN n [.lst (ns.map .int)] = .ok (.bl true) := by
 intro ns hns
 refine ⟨64, ?_⟩
 obtain ⟨s, w, fl0, cs0, hw, es, er, em, ef, ec, emv, eq⟩ := set_up CR CP CN ns
 have hq := hw.qsl
 have hf := hw.fll
 have hc := hw.csl
 have s1 : w.fl.length <= 16777216 := by omega
 have s2 : w.cs.length <= 16777216 := by omega
 have s3 : w.qs.length <= 16777216 := by omega
 have en3 := ne_three w.fl w.cs w.qs
 rcases least_ok CR CP CN 64 (by omega) hw with ⟨ts, hl, el⟩ | ⟨i, ts, t, h1, h2, h3, h4, h5, el⟩
 ·have et := times_ok CR CP CN 64 hne hw hl
  have etd := told_ok CR CP CN 64 et
  have hts := hl.1
  have ent := ne_times ts
  have eet := eq_times ts
  have ewh : cz (.nm 0) (ur (fL (bL CR CP CN 64) (a9 (aj 0) aT))) (aj 0) [none] (ts.map .int) = .ok (ts.map .int) := by
   have key : ∀ xs : List Int, cz (.nm 0) (ur (fL (bL CR CP CN 64) (a9 (aj 0) aT))) (aj 0) [none] (xs.map .int) = .ok (xs.map .int) := by
    intro xs
    induction xs with
    | nil => rfl
    | cons x xs ih => rw [List.map_cons, cz]; simp [zr, ih]
   exact key ts
  have s4 : ts.length <= 16777216 := by omega
  have s5 : ts.length < 16777216 := by omega
  simp [BG, g_law, es, er, em, ef, ec, emv, eq, el, s1, s2, s3, etd, yO, ent, en3, yN, gk, Cu, ewh, s4, s5, eet, -List.map_map]
 ·have et := AY CR CP CN 64 hne hw h1 h2 h3 h4 h5
  have etd := told_err CR CP CN 64 et
  obtain ⟨e2, e3⟩ := eq_two (qAt w.qs i).1 t
  simp [BG, g_law, es, er, em, ef, ec, emv, eq, el, s1, s2, s3, etd, yO, e3, en3, yN, gk, e2, -List.map_map]
end
theorem fin_mk {P : Program} {w : World} {K : PySem.W.Frag} {mg : Str -> Option Value} {st : Stmt} {ps : List Str} {f : Addr} {fd : FuncData} {k : Nat} (_ : Def K mg "law" st ps f fd) (hb : ∀ (s : Shared) (v : Value), BindsTo s fd ⟨[v], []⟩ [("_law_script", v)]) (h : ∀ base : Heap, bJ P w K mg base CX0 k f fd ["_law_script"] (Ae K)) : ∃ fd : FuncData, (∀ (s : Shared) (v : Value), BindsTo s fd ⟨[v], []⟩ [("_law_script", v)]) /\ ∀ base : Heap, K.In base -> base.Ns mainGlobals mg -> bJ P w K mg base CX0 k f fd ["_law_script"] (Ae K) := ⟨fd, hb, fun base _ _ => h base⟩
theorem all_mk {l : PySem.W.OpenLaw} {w : World} {K : PySem.W.Frag} {h : Heap} {mg : Str -> Option Value} {fa CR CP aw bo cV bf bG gN cf aQ cU bw bg cT aY cj cg dM aM cQ bx bM cR dJ bj cS bH Ay f_nR f_nP CN nI AStripError ANoPlace ANoPlan ANoRow ANoRules ANoSheet ANotFree ATooMany : Addr} {wc xG tW uX wb xF pH pU rH rZ BC CK tU uV qq qY wa xE qr qZ pI pV w9 xD oA oY tY uZ tX uY yt zm mr nc vZ xA rK sd tZ v3 w5 xB yr zi tV uW w6 xC rJ s9 od_law an_law od_nR an_nR od_nP an_nP od_nCN an_nCN : Option Addr} {vB t6 vA pB rl B8 t4 qc vz qe pC vy oq t8 t7 xY mj vv rn t9 vw xX t5 vx rm sl_law sl_nR sl_nP sl_nCN : Array (Option Value)} {wq wL xg vO px xo u3 ug uH tG nP uO wo wK xf vN pw xn pJ pL pP pD km pR rL rO rS rB m8 rW BD BK Cb Bl xt Cd u0 ue uF tE nM uM qt qE qP qk lB qS wm wJ xc vM pq xm qu qF qQ ql lC qT pK pM pQ pE kn pS wk wI xb vL pk xk oB oJ oS ou jn oW u5 ui uJ tI nR uQ u4 uh uI tH nQ uP yv yz yI yf qX yK mv mM mW ml ib n8 we wF wY vI pf xh rN rQ rV rD ma rY u6 uj uK tJ nS uR wg wG wZ vJ ph xi yu yy yH ye qW yJ u1 uf uG tF nO uN wj wH xa vK pj xj rM rP rT rC m9 rX oc_law kV_law dc_law pm_law cd_law ct_law oc_nR kV_nR dc_nR pm_nR cd_nR ct_nR oc_nP kV_nP dc_nP pm_nP cd_nP ct_nP oc_nCN kV_nCN dc_nCN pm_nCN cd_nCN ct_nCN : Value} {rj vm : Tok} (KX : K.In h) (G : h.Ns mainGlobals mg) (hfa : mg "law" = some (.ref fa))
  (CB : PySem.W.nsIn K mainGlobals "Rules" = some (some (.ref CR)))
  (yS : PySem.W.plainGet K CR Str.empty = true)
  (yV : PySem.W.hasDictIn K CR = true)
  (yR : PySem.W.plainOver K CR = true)
  (yQ : PySem.W.findIn K (.ref CR) "__setattr__" = some (some (.builtin "object.__setattr__")))
  (yT : PySem.W.makesIn K CR = true)
  (yU : PySem.W.keepIn K (.ref CR) = true)
  (yX : PySem.W.findIn K (.ref CR) "__class__" = some (some (.builtin "object.__class__")))
  (yW : PySem.W.mroIn K CR (.type "object") = some true)
  (nC : PySem.W.findIn K (.ref CR) "gaps" = some none)
  (qv : PySem.W.findIn K (.ref CR) "beside" = some none)
  (CC : PySem.W.nsIn K mainGlobals "Pair" = some (some (.ref CP)))
  (z0 : PySem.W.plainGet K CP Str.empty = true)
  (zc : PySem.W.hasDictIn K CP = true)
  (yZ : PySem.W.plainOver K CP = true)
  (yY : PySem.W.findIn K (.ref CP) "__setattr__" = some (some (.builtin "object.__setattr__")))
  (za : PySem.W.makesIn K CP = true)
  (zb : PySem.W.keepIn K (.ref CP) = true)
  (ze : PySem.W.findIn K (.ref CP) "__class__" = some (some (.builtin "object.__class__")))
  (zd : PySem.W.mroIn K CP (.type "object") = some true)
  (kK : PySem.W.findIn K (.ref CP) "gaps" = some none)
  (jz : PySem.W.findIn K (.ref CP) "beside" = some none)
  (o2 : PySem.W.specialIn K (.builtin "object.__class__") "__get__" = some (some (.builtin "getset_descriptor.__get__")))
  (o3 : PySem.W.takesIn K (.builtin "object.__class__") = some true)
  (x_ne : CR ≠ CP)
  (nr : PySem.W.nsIn K mainGlobals "_law_draw" = some (some (.ref aw)))
  (mE : K.lookup aw = some ⟨wq, wc, .func (PySem.W.fnOf "_law_draw" "_law_draw" (aI bu) (aG bu) (af bu) .none wL xg vO xG px xo), vB⟩)
  (n6 : PySem.W.codeIn K px "_law_draw" = true)
  (mL : PySem.W.keepIn K (.ref aw) = true)
  (lI : PySem.W.nsIn K mainGlobals "_law_scale" = some (some (.ref bo)))
  (kO : K.lookup bo = some ⟨u3, tW, .func (PySem.W.fnOf "_law_scale" "_law_scale" (aI cE) (aG cE) (af cE) .none ug uH tG uX nP uO), t6⟩)
  (lu : PySem.W.codeIn K nP "_law_scale" = true)
  (kZ : PySem.W.keepIn K (.ref bo) = true)
  (nq : PySem.W.nsIn K mainGlobals "_law_gaps" = some (some (.ref cV)))
  (mD : K.lookup cV = some ⟨wo, wb, .func (PySem.W.fnOf "_law_gaps" "_law_gaps" (aI eK) (aG eK) (af eK) .none wK xf vN xF pw xn), vA⟩)
  (n5 : PySem.W.codeIn K pw "_law_gaps" = true)
  (mK : PySem.W.keepIn K (.ref cV) = true)
  (ig : PySem.W.nsIn K mainGlobals "_law_rules_of" = some (some (.ref bf)))
  (hZ : K.lookup bf = some ⟨pJ, pH, .func (PySem.W.fnOf "_law_rules_of" "_law_rules_of" (aI bP) (aG bP) (af bP) .none pL pP pD pU km pR), pB⟩)
  (i9 : PySem.W.codeIn K km "_law_rules_of" = true)
  (i3 : PySem.W.keepIn K (.ref bf) = true)
  (k7 : PySem.W.nsIn K mainGlobals "copied_rows" = some (some (.ref bG)))
  (jC : K.lookup bG = some ⟨rL, rH, .func (PySem.W.fnOf "copied_rows" "copied_rows" (aI cL) (aG cL) (af cL) .none rO rS rB rZ m8 rW), rl⟩)
  (jS : PySem.W.codeIn K m8 "copied_rows" = true)
  (jF : PySem.W.keepIn K (.ref bG) = true)
  (v5 : PySem.W.nsIn K mainGlobals "is_gap" = some (some (.ref gN)))
  (uc : K.lookup gN = some ⟨BD, BC, .func (PySem.W.fnOf "is_gap" "is_gap" (aI jv) (aG jv) (af jv) .none BK Cb Bl CK xt Cd), B8⟩)
  (uL : PySem.W.codeIn K xt "is_gap" = true)
  (ud : PySem.W.keepIn K (.ref gN) = true)
  (lG : PySem.W.nsIn K mainGlobals "is_gap_row" = some (some (.ref cf)))
  (kM : K.lookup cf = some ⟨u0, tU, .func (PySem.W.fnOf "is_gap_row" "is_gap_row" (aI di) (aG di) (af di) .none ue uF tE uV nM uM), t4⟩)
  (lq : PySem.W.codeIn K nM "is_gap_row" = true)
  (kW : PySem.W.keepIn K (.ref cf) = true)
  (iW : PySem.W.nsIn K mainGlobals "checked_rows" = some (some (.ref aQ)))
  (iL : K.lookup aQ = some ⟨qt, qq, .func (PySem.W.fnOf "checked_rows" "checked_rows" (aI bK) (aG bK) (af bK) .none qE qP qk qY lB qS), qc⟩)
  (iS : PySem.W.codeIn K lB "checked_rows" = true)
  (iN : PySem.W.keepIn K (.ref aQ) = true)
  (nk : PySem.W.nsIn K mainGlobals "_law_made" = some (some (.ref cU)))
  (mC : K.lookup cU = some ⟨wm, wa, .func (PySem.W.fnOf "_law_made" "_law_made" (aI eJ) (aG eJ) (af eJ) .none wJ xc vM xE pq xm), vz⟩)
  (n4 : PySem.W.codeIn K pq "_law_made" = true)
  (mJ : PySem.W.keepIn K (.ref cU) = true)
  (iX : PySem.W.nsIn K mainGlobals "_law_flights" = some (some (.ref bw)))
  (iM : K.lookup bw = some ⟨qu, qr, .func (PySem.W.fnOf "_law_flights" "_law_flights" (aI cu) (aG cu) (af cu) .none qF qQ ql qZ lC qT), qe⟩)
  (iT : PySem.W.codeIn K lC "_law_flights" = true)
  (iO : PySem.W.keepIn K (.ref bw) = true)
  (ij : PySem.W.nsIn K mainGlobals "_law_moved_up" = some (some (.ref bg)))
  (i0 : K.lookup bg = some ⟨pK, pI, .func (PySem.W.fnOf "_law_moved_up" "_law_moved_up" (aI bQ) (aG bQ) (af bQ) .none pM pQ pE pV kn pS), pC⟩)
  (ia : PySem.W.codeIn K kn "_law_moved_up" = true)
  (i4 : PySem.W.keepIn K (.ref bg) = true)
  (nj : PySem.W.nsIn K mainGlobals "_law_plan" = some (some (.ref cT)))
  (mB : K.lookup cT = some ⟨wk, w9, .func (PySem.W.fnOf "_law_plan" "_law_plan" (aI eI) (aG eI) (af eI) .none wI xb vL xD pk xk), vy⟩)
  (n0 : PySem.W.codeIn K pk "_law_plan" = true)
  (mI : PySem.W.keepIn K (.ref cT) = true)
  (gH : PySem.W.nsIn K mainGlobals "_law_open_from" = some (some (.ref aY)))
  (gC : K.lookup aY = some ⟨oB, oA, .func (PySem.W.fnOf "_law_open_from" "_law_open_from" (aI bE) (aG bE) (af bE) .none oJ oS ou oY jn oW), oq⟩)
  (gG : PySem.W.codeIn K jn "_law_open_from" = true)
  (gD : PySem.W.keepIn K (.ref aY) = true)
  (lK : PySem.W.nsIn K mainGlobals "_law_apart" = some (some (.ref cj)))
  (kS : K.lookup cj = some ⟨u5, tY, .func (PySem.W.fnOf "_law_apart" "_law_apart" (aI dk) (aG dk) (af dk) .none ui uJ tI uZ nR uQ), t8⟩)
  (lz : PySem.W.codeIn K nR "_law_apart" = true)
  (l3 : PySem.W.keepIn K (.ref cj) = true)
  (lJ : PySem.W.nsIn K mainGlobals "_law_least" = some (some (.ref cg)))
  (kQ : K.lookup cg = some ⟨u4, tX, .func (PySem.W.fnOf "_law_least" "_law_least" (aI dj) (aG dj) (af dj) .none uh uI tH uY nQ uP), t7⟩)
  (lx : PySem.W.codeIn K nQ "_law_least" = true)
  (l0 : PySem.W.keepIn K (.ref cg) = true)
  (p8 : PySem.W.nsIn K mainGlobals "spots_of" = some (some (.ref dM)))
  (oF : K.lookup dM = some ⟨yv, yt, .func (PySem.W.fnOf "spots_of" "spots_of" (aI fS) (aG fS) (af fS) .none yz yI yf zm qX yK), xY⟩)
  (oV : PySem.W.codeIn K qX "spots_of" = true)
  (oH : PySem.W.keepIn K (.ref dM) = true)
  (fP : PySem.W.nsIn K mainGlobals "joined_stretches" = some (some (.ref aM)))
  (fy : K.lookup aM = some ⟨mv, mr, .func (PySem.W.fnOf "joined_stretches" "joined_stretches" (aI ba) (aG ba) (af ba) .none mM mW ml nc ib n8), mj⟩)
  (fN : PySem.W.codeIn K ib "joined_stretches" = true)
  (fD : PySem.W.keepIn K (.ref aM) = true)
  (ng : PySem.W.nsIn K mainGlobals "next_open" = some (some (.ref cQ)))
  (mx : K.lookup cQ = some ⟨we, vZ, .func (PySem.W.fnOf "next_open" "next_open" (aI eE) (aG eE) (af eE) .none wF wY vI xA pf xh), vv⟩)
  (mX : PySem.W.codeIn K pf "next_open" = true)
  (mF : PySem.W.keepIn K (.ref cQ) = true)
  (k9 : PySem.W.findIn K (.ref CR) "apart" = some (some (.ref bx)))
  (jI : PySem.W.isFn K (.ref bx) = true)
  (jE : K.lookup bx = some ⟨rN, rK, .func (PySem.W.fnOf "apart" "Rules.apart" (aI cN) (aG cN) (af cN) .none rQ rV rD sd ma rY), rn⟩)
  (jU : PySem.W.codeIn K ma "Rules.apart" = true)
  (jH : PySem.W.keepIn K (.ref bx) = true)
  (lL : PySem.W.findIn K (.ref CP) "apart" = some (some (.ref bM)))
  (l9 : PySem.W.isFn K (.ref bM) = true)
  (kT : K.lookup bM = some ⟨u6, tZ, .func (PySem.W.fnOf "apart" "Pair.apart" (aI dn) (aG dn) (af dn) .none uj uK tJ v3 nS uR), t9⟩)
  (lA : PySem.W.codeIn K nS "Pair.apart" = true)
  (l4 : PySem.W.keepIn K (.ref bM) = true)
  (nh : PySem.W.nsIn K mainGlobals "gap_times" = some (some (.ref cR)))
  (my : K.lookup cR = some ⟨wg, w5, .func (PySem.W.fnOf "gap_times" "gap_times" (aI eF) (aG eF) (af eF) .none wG wZ vJ xB ph xi), vw⟩)
  (mY : PySem.W.codeIn K ph "gap_times" = true)
  (mG : PySem.W.keepIn K (.ref cR) = true)
  (oZ : PySem.W.nsIn K mainGlobals "times_of" = some (some (.ref dJ)))
  (oE : K.lookup dJ = some ⟨yu, yr, .func (PySem.W.fnOf "times_of" "times_of" (aI fQ) (aG fQ) (af fQ) .none yy yH ye zi qW yJ), xX⟩)
  (oU : PySem.W.codeIn K qW "times_of" = true)
  (oG : PySem.W.keepIn K (.ref dJ) = true)
  (lH : PySem.W.nsIn K mainGlobals "_law_whole" = some (some (.ref bj)))
  (kN : K.lookup bj = some ⟨u1, tV, .func (PySem.W.fnOf "_law_whole" "_law_whole" (aI cD) (aG cD) (af cD) .none uf uG tF uW nO uN), t5⟩)
  (lr : PySem.W.codeIn K nO "_law_whole" = true)
  (kY : PySem.W.keepIn K (.ref bj) = true)
  (ni : PySem.W.nsIn K mainGlobals "_law_told" = some (some (.ref cS)))
  (mz : K.lookup cS = some ⟨wj, w6, .func (PySem.W.fnOf "_law_told" "_law_told" (aI eG) (aG eG) (af eG) .none wH xa vK xC pj xj), vx⟩)
  (mZ : PySem.W.codeIn K pj "_law_told" = true)
  (mH : PySem.W.keepIn K (.ref cS) = true)
  (k8 : PySem.W.nsIn K mainGlobals "_law_closed" = some (some (.ref bH)))
  (jD : K.lookup bH = some ⟨rM, rJ, .func (PySem.W.fnOf "_law_closed" "_law_closed" (aI cM) (aG cM) (af cM) .none rP rT rC s9 m9 rX), rm⟩)
  (jT : PySem.W.codeIn K m9 "_law_closed" = true)
  (jG : PySem.W.keepIn K (.ref bH) = true)
  (a_law : PySem.W.nsIn K mainGlobals "law" = some (some (.ref Ay)))
  (l_law : K.lookup Ay = some ⟨oc_law, od_law, .func (PySem.W.fnOf "law" "law" (aI Ah) (aG Ah) (af Ah) .none kV_law dc_law pm_law an_law cd_law ct_law), sl_law⟩)
  (d_law : PySem.W.codeIn K cd_law "law" = true)
  (k_law : PySem.W.keepIn K (.ref Ay) = true)
  (a_nR : PySem.W.findIn K (.ref CR) "__init__" = some (some (.ref f_nR)))
  (i_nR : PySem.W.isFn K (.ref f_nR) = true)
  (l_nR : K.lookup f_nR = some ⟨oc_nR, od_nR, .func (PySem.W.fnOf "__init__" "Rules.__init__" (aI s_nR) (aG s_nR) (af s_nR) .none kV_nR dc_nR pm_nR an_nR cd_nR ct_nR), sl_nR⟩)
  (d_nR : PySem.W.codeIn K cd_nR "Rules.__init__" = true)
  (k_nR : PySem.W.keepIn K (.ref f_nR) = true)
  (a_nP : PySem.W.findIn K (.ref CP) "__init__" = some (some (.ref f_nP)))
  (i_nP : PySem.W.isFn K (.ref f_nP) = true)
  (l_nP : K.lookup f_nP = some ⟨oc_nP, od_nP, .func (PySem.W.fnOf "__init__" "Pair.__init__" (aI s_nP) (aG s_nP) (af s_nP) .none kV_nP dc_nP pm_nP an_nP cd_nP ct_nP), sl_nP⟩)
  (d_nP : PySem.W.codeIn K cd_nP "Pair.__init__" = true)
  (k_nP : PySem.W.keepIn K (.ref f_nP) = true)
  (x_s1 : PySem.W.specialIn K (.ref CR) "__getattribute__" = some (some (.builtin "type.__getattribute__")))
  (x_s2 : PySem.W.readsIn K CR (.type "type") = true)
  (x_s3 : PySem.W.findCls K (.ref CR) (.type "type") "__init__" = some (.val (.ref f_nR)))
  (zp : PySem.W.nsIn K mainGlobals "NoTime" = some (some (.ref CN)))
  (a_nCN : PySem.W.findIn K (.ref CN) "__init__" = some (some (.ref nI)))
  (i_nCN : PySem.W.isFn K (.ref nI) = true)
  (l_nCN : K.lookup nI = some ⟨oc_nCN, od_nCN, .func (PySem.W.fnOf "__init__" "NoTime.__init__" (aI vF) (aG vF) (af vF) .none kV_nCN dc_nCN pm_nCN an_nCN cd_nCN ct_nCN), sl_nCN⟩)
  (d_nCN : PySem.W.codeIn K cd_nCN "NoTime.__init__" = true)
  (k_nCN : PySem.W.keepIn K (.ref nI) = true)
  (sT : nJ K CN [.type "ValueError", .type "Exception", .type "BaseException", .type "object"] "ValueError.__new__" nI = true)
  (xN : PySem.W.keepIn K (.ref CN) = true)
  (xQ : PySem.W.findIn K (.ref CN) "__getattribute__" = some (some (.builtin "BaseException.__getattribute__")))
  (xR : PySem.W.findIn K (.ref CN) "__class__" = some (some (.builtin "object.__class__")))
  (xP : PySem.W.findIn K (.ref CN) "__getattr__" = some none)
  (xS : PySem.W.mroIn K CN (.type "BaseException") = some true)
  (xM : PySem.W.mroIn K CN (.type "object") = some true)
  (xO : (PySem.W.clsIn K CN).isSome = true)
  (sS : PySem.W.findIn K (.ref CN) "__setattr__" = some (some (.builtin "object.__setattr__")))
  (sU : ((PySem.W.clsIn K CN).any fun cd => q0 cd.mro && cd.hasDict) = true)
  (kB : PySem.W.findIn K (.ref CN) "flight" = some none)
  (o9 : PySem.W.findIn K (.ref CN) "time" = some none)
  (jt : PySem.W.nsIn K mainGlobals "StripError" = some (some (.ref AStripError)))
  (om : PySem.W.nsIn K mainGlobals "NoPlace" = some (some (.ref ANoPlace)))
  (pY : PySem.W.nsIn K mainGlobals "NoPlan" = some (some (.ref ANoPlan)))
  (sV : PySem.W.nsIn K mainGlobals "NoRow" = some (some (.ref ANoRow)))
  (oj : PySem.W.nsIn K mainGlobals "NoRules" = some (some (.ref ANoRules)))
  (oi : PySem.W.nsIn K mainGlobals "NoSheet" = some (some (.ref ANoSheet)))
  (oh : PySem.W.nsIn K mainGlobals "NotFree" = some (some (.ref ANotFree)))
  (og : PySem.W.nsIn K mainGlobals "TooMany" = some (some (.ref ATooMany)))
  (f7 : PySem.W.kitOne K (.ref CN) (.ref AStripError) = some true)
  (f9 : PySem.W.kitOne K (.ref CN) (.type "ValueError") = some true)
  (xK : PySem.W.kitAny K (.ref CN) ([ANoPlace, ANoPlan, ANoRow, ANoRules, ANoSheet, ANotFree, ATooMany].map Value.ref) = some false)
  (g8 : PySem.W.nsIn K mainGlobals "ValueError" = some none)
  (Aa : PySem.W.nsIn K mainGlobals "all" = some none)
  (se : PySem.W.nsIn K mainGlobals "bool" = some none)
  (gU : PySem.W.nsIn K mainGlobals "enumerate" = some none)
  (ve : PySem.W.nsIn K mainGlobals "int" = some none)
  (aS : PySem.W.nsIn K mainGlobals "isinstance" = some none)
  (kA : PySem.W.nsIn K mainGlobals "len" = some none)
  (kz : PySem.W.nsIn K mainGlobals "list" = some none)
  (vd : PySem.W.nsIn K mainGlobals "max" = some none)
  (sR : PySem.W.nsIn K mainGlobals "min" = some none)
  (gz : PySem.W.nsIn K mainGlobals "range" = some none)
  (lR : PySem.W.nsIn K mainGlobals "sorted" = some none)
  (dZ : PySem.W.nsIn K mainGlobals "GREATEST_GAP" = some (some (.int 1000000 rj)))
  (gm : PySem.W.nsIn K mainGlobals "MOST_KINDS" = some (some (.int 6 vm)))
  (kJ : PySem.W.kitOne K (.type "int") (.type "int") = some true)
  (jd : PySem.W.kitOne K (.type "bool") (.type "int") = some true)
  (j9 : PySem.W.kitOne K (.type "list") (.type "int") = some false)
  (gY : PySem.W.kitOne K (.type "tuple") (.type "int") = some false)
  (kH : PySem.W.kitOne K (.type "str") (.type "int") = some false)
  (dX : PySem.W.kitOne K (.type "NoneType") (.type "int") = some false)
  (jb : PySem.W.kitOne K (.type "int") (.type "bool") = some false)
  (hW : PySem.W.kitOne K (.type "bool") (.type "bool") = some true)
  (hI : PySem.W.kitOne K (.type "list") (.type "bool") = some false)
  (gb : PySem.W.kitOne K (.type "tuple") (.type "bool") = some false)
  (j7 : PySem.W.kitOne K (.type "str") (.type "bool") = some false)
  (du : PySem.W.kitOne K (.type "NoneType") (.type "bool") = some false)
  (ja : PySem.W.kitOne K (.type "int") (.type "list") = some false)
  (hV : PySem.W.kitOne K (.type "bool") (.type "list") = some false)
  (hG : PySem.W.kitOne K (.type "list") (.type "list") = some true)
  (g9 : PySem.W.kitOne K (.type "tuple") (.type "list") = some false)
  (j6 : PySem.W.kitOne K (.type "str") (.type "list") = some false)
  (dq : PySem.W.kitOne K (.type "NoneType") (.type "list") = some false)
  (hU : PySem.W.kitOne K (.type "int") (.type "tuple") = some false)
  (gd : PySem.W.kitOne K (.type "bool") (.type "tuple") = some false)
  (gc : PySem.W.kitOne K (.type "list") (.type "tuple") = some false)
  (fq : PySem.W.kitOne K (.type "tuple") (.type "tuple") = some true)
  (gZ : PySem.W.kitOne K (.type "str") (.type "tuple") = some false)
  (cY : PySem.W.kitOne K (.type "NoneType") (.type "tuple") = some false)
  (kI : PySem.W.kitOne K (.type "int") (.type "str") = some false)
  (jc : PySem.W.kitOne K (.type "bool") (.type "str") = some false)
  (j8 : PySem.W.kitOne K (.type "list") (.type "str") = some false)
  (gX : PySem.W.kitOne K (.type "tuple") (.type "str") = some false)
  (kG : PySem.W.kitOne K (.type "str") (.type "str") = some true)
  (dW : PySem.W.kitOne K (.type "NoneType") (.type "str") = some false) :
  ∃ fd : FuncData, (∀ (s : Shared) (v : Value), BindsTo s fd ⟨[v], []⟩ [("_law_script", v)]) /\ ∀ base : Heap, K.In base -> base.Ns mainGlobals mg -> bJ l.prog w K mg base CX0 8 fa fd ["_law_script"] (Ae K) := by
 have e := hfa.symm.trans (PySem.W.mg_of KX G a_law)
 cases e
 have K_CR := kls_of (mg := mg) KX G CB yS yV yR yQ yT yU yX o2 o3 yW
 have K_CP := kls_of (mg := mg) KX G CC z0 zc yZ yY za zb ze o2 o3 zd
 have aa := da (mg := mg) (st := bu) (ps := ["_law_script", "_law_k"]) KX G nr mE n6 mL fun _ _ _ _ _ _ us hl => match us, hl with | [_, _], _ => rfl
 have b8 := da (mg := mg) (st := cE) (ps := ["_law_script"]) KX G lI kO lu kZ fun _ _ _ _ _ _ us hl => match us, hl with | [_], _ => rfl
 have bV := da (mg := mg) (st := eK) (ps := ["_law_script", "_law_by", "_law_kinds", "_law_scale_here"]) KX G nq mD n5 mK fun _ _ _ _ _ _ us hl => match us, hl with | [_, _, _, _], _ => rfl
 have bB := da (mg := mg) (st := bP) (ps := ["_law_script", "_law_scale_here"]) KX G ig hZ i9 i3 fun _ _ _ _ _ _ us hl => match us, hl with | [_, _], _ => rfl
 have cm := da (mg := mg) (st := cL) (ps := ["rows"]) KX G k7 jC jS jF fun _ _ _ _ _ _ us hl => match us, hl with | [_], _ => rfl
 have iF := da (mg := mg) (st := jv) (ps := ["number"]) KX G v5 uc uL ud fun _ _ _ _ _ _ us hl => match us, hl with | [_], _ => rfl
 have cH := da (mg := mg) (st := di) (ps := ["row", "kinds"]) KX G lG kM lq kW fun _ _ _ _ _ _ us hl => match us, hl with | [_, _], _ => rfl
 have aH := da (mg := mg) (st := bK) (ps := ["rows"]) KX G iW iL iS iN fun _ _ _ _ _ _ us hl => match us, hl with | [_], _ => rfl
 have dF := da (mg := mg) (st := eJ) (ps := ["_law_rules"]) KX G nk mC n4 mJ fun _ _ _ _ _ _ us hl => match us, hl with | [_], _ => rfl
 have bO := da (mg := mg) (st := cu) (ps := ["_law_script", "_law_rules", "_law_most", "_law_scale_here"]) KX G iX iM iT iO fun _ _ _ _ _ _ us hl => match us, hl with | [_, _, _, _], _ => rfl
 have bC := da (mg := mg) (st := bQ) (ps := ["_law_script", "_law_flights_here", "_law_closed_here"]) KX G ij i0 ia i4 fun _ _ _ _ _ _ us hl => match us, hl with | [_, _, _], _ => rfl
 have dE := da (mg := mg) (st := eI) (ps := ["_law_script", "_law_rules", "_law_flights_here"]) KX G nj mB n0 mI fun _ _ _ _ _ _ us hl => match us, hl with | [_, _, _], _ => rfl
 have bp := da (mg := mg) (st := bE) (ps := ["_law_closed_here", "_law_time"]) KX G gH gC gG gD fun _ _ _ _ _ _ us hl => match us, hl with | [_, _], _ => rfl
 have cJ := da (mg := mg) (st := dk) (ps := ["_law_rules", "_law_flights_here", "_law_one", "_law_other"]) KX G lK kS lz l3 fun _ _ _ _ _ _ us hl => match us, hl with | [_, _, _, _], _ => rfl
 have cI := da (mg := mg) (st := dj) (ps := ["_law_rules", "_law_flights_here", "_law_closed_here", "_law_plan_here"]) KX G lJ kQ lx l0 fun _ _ _ _ _ _ us hl => match us, hl with | [_, _, _, _], _ => rfl
 have f6 := da (mg := mg) (st := fS) (ps := ["flights", "plan"]) KX G p8 oF oV oH fun _ _ _ _ _ _ us hl => match us, hl with | [_, _], _ => rfl
 have aU := da (mg := mg) (st := ba) (ps := ["closed"]) KX G fP fy fN fD fun _ _ _ _ _ _ us hl => match us, hl with | [_], _ => rfl
 have dC := da (mg := mg) (st := eE) (ps := ["closed", "time"]) KX G ng mx mX mF fun _ _ _ _ _ _ us hl => match us, hl with | [_, _], _ => rfl
 have gT := wx (C := CR) (st := cN) (ps := ["self", "one", "other"]) k9 jI jE jU jH fun _ _ _ _ _ _ us hl => match us, hl with | [_, _, _], _ => rfl
 have iG := wx (C := CP) (st := dn) (ps := ["self", "one", "other"]) lL l9 kT lA l4 fun _ _ _ _ _ _ us hl => match us, hl with | [_, _, _], _ => rfl
 have dD := da (mg := mg) (st := eF) (ps := ["rules", "spots", "times", "place"]) KX G nh my mY mG fun _ _ _ _ _ _ us hl => match us, hl with | [_, _, _, _], _ => rfl
 have eZ := da (mg := mg) (st := fQ) (ps := ["rules", "flights", "closed", "plan"]) KX G oZ oE oU oG fun _ _ _ _ _ _ us hl => match us, hl with | [_, _, _, _], _ => rfl
 have aK := da (mg := mg) (st := cD) (ps := ["_law_found"]) KX G lH kN lr kY fun _ _ _ _ _ _ us hl => match us, hl with | [_], _ => rfl
 have bU := da (mg := mg) (st := eG) (ps := ["_law_made_here", "_law_flights_here", "_law_closed_here", "_law_plan_here"]) KX G ni mz mZ mH fun _ _ _ _ _ _ us hl => match us, hl with | [_, _, _, _], _ => rfl
 have cn := da (mg := mg) (st := cM) (ps := ["_law_script", "_law_scale_here"]) KX G k8 jD jT jG fun _ _ _ _ _ _ us hl => match us, hl with | [_, _], _ => rfl
 have D_law := da (mg := mg) (st := Ah) (ps := ["_law_script"]) KX G a_law l_law d_law k_law fun _ _ _ _ _ _ us hl => match us, hl with | [_], _ => rfl
 have nZ := gT
 have o5 := iG
 have N_R := wx (C := CR) (st := s_nR) (ps := ["self", "gaps"]) a_nR i_nR l_nR d_nR k_nR fun _ _ _ _ _ _ us hl => match us, hl with | [_, _], _ => rfl
 have N_P := wx (C := CP) (st := s_nP) (ps := ["self", "gaps", "beside"]) a_nP i_nP l_nP d_nP k_nP fun _ _ _ _ _ _ us hl => match us, hl with | [_, _, _], _ => rfl
 have N_CN := wx (C := CN) (st := vF) (ps := ["self", "flight", "time"]) a_nCN i_nCN l_nCN d_nCN k_nCN fun _ _ _ _ _ _ us hl => match us, hl with | [_, _, _], _ => rfl
 have XCN : XMk K mg "NoTime" CN nI := ⟨PySem.W.mg_of KX G zp, sT, beq_iff_eq.mp i_nCN, xN⟩
 have Z : Zs K mg CR CP CN AStripError ANoPlace ANoPlan ANoRow ANoRules ANoSheet ANotFree ATooMany := ⟨PySem.W.mg_of KX G jt, PySem.W.mg_of KX G om, PySem.W.mg_of KX G pY, PySem.W.mg_of KX G sV, PySem.W.mg_of KX G oj, PySem.W.mg_of KX G oi, PySem.W.mg_of KX G oh, PySem.W.mg_of KX G og, f7, f9, xK, ⟨PySem.W.mg_of KX G zp, xnamed2 sT, ⟨xQ, xR, xP, xS, xM, Option.isSome_iff_exists.mp xO⟩⟩, ⟨sS, kB, sU⟩, ⟨sS, o9, sU⟩, K_CR, K_CP, (by intro C h; simp only [List.mem_cons, List.not_mem_nil, or_false] at h; exact h.elim (fun e => by subst e; exact ⟨K_CR.cl, nC⟩) (fun e => by subst e; exact ⟨K_CP.cl, kK⟩)), (by intro C h; simp only [List.mem_cons, List.not_mem_nil, or_false] at h; subst h; exact ⟨K_CP.cl, jz⟩), PySem.W.mg_none_of KX G g8, PySem.W.mg_none_of KX G Aa, PySem.W.mg_none_of KX G se, PySem.W.mg_none_of KX G gU, PySem.W.mg_none_of KX G ve, PySem.W.mg_none_of KX G aS, PySem.W.mg_none_of KX G kA, PySem.W.mg_none_of KX G kz, PySem.W.mg_none_of KX G vd, PySem.W.mg_none_of KX G sR, PySem.W.mg_none_of KX G gz, PySem.W.mg_none_of KX G lR, ⟨_, PySem.W.mg_of KX G dZ⟩, ⟨_, PySem.W.mg_of KX G gm⟩, ⟨kJ, jd, j9, gY, kH, dX, jb, hW, hI, gb, j7, du, ja, hV, hG, g9, j6, dq, hU, gd, gc, fq, gZ, cY, kI, jc, j8, gX, kG, dW⟩⟩
 refine fin_mk D_law (fun s v => .of_eq rfl) fun base => law_ok (ro := false) (mlaw := BG CR CP CN) (fun n => ?_) (law_true CR CP CN x_ne)
 have sP := okn_CN (P := l.prog) (w := w) (base := base) (mg := mg) N_CN.fn Z.aCN_flight Z.aCN_time
 have au := vY (n := n) (P := l.prog) (w := w) (base := base) Z  aa
 have dQ := tP (n := n) (P := l.prog) (w := w) (base := base) Z aa au b8
 have iE := vX (n := n) (P := l.prog) (w := w) (base := base) Z aa au bV
 have gJ := pF (n := n) (P := l.prog) (w := w) (base := base) Z bV iE aa au bB
 have iY := rE (n := n) (P := l.prog) (w := w) (base := base) Z  cm
 have r6 := By (n := n) (P := l.prog) (w := w) (base := base) Z  iF
 have kb := tN (n := n) (P := l.prog) (w := w) (base := base) Z iF r6 cH
 have ik := qo (n := n) (P := l.prog) (w := w) (base := base) Z cm iY cH kb aH
 have OKN_R := okn_R (n := n) (P := l.prog) (w := w) (base := base) (CR := CR) (CP := CP) (CN := CN) (C := CR) aH ik N_R.fn K_CR.cl nC
 have OKN_RP := okn_R (n := n) (P := l.prog) (w := w) (base := base) (CR := CR) (CP := CP) (CN := CN) (C := CP) aH ik N_R.fn K_CP.cl kK
 have OKN_P := okn_P (n := n) (P := l.prog) (w := w) (base := base) (CR := CR) (CP := CP) (CN := CN) aH ik ⟨x_s1, x_s2, x_s3, k_nR⟩ N_R.bd OKN_RP K_CR.mg (PySem.W.mg_none_of KX G kA) N_P.fn K_CP.cl kK jz
 have lP := vW (n := n) (P := l.prog) (w := w) (base := base) Z N_P OKN_P N_R OKN_R dF
 have il := qp (n := n) (P := l.prog) (w := w) (base := base) Z aa au bO
 have gK := pG (n := n) (P := l.prog) (w := w) (base := base) Z b8 dQ aa au bC
 have lO := vV (n := n) (P := l.prog) (w := w) (base := base) Z aa au dE
 have g0 := oz (n := n) (P := l.prog) (w := w) (base := base) Z  bp
 have ke := tR (n := n) (P := l.prog) (w := w) (base := base) Z  cJ
 have kc := tQ (n := n) (P := l.prog) (w := w) (base := base) Z bp g0 cJ ke cI
 have nu := yo (n := n) (P := l.prog) (w := w) (base := base) Z  f6
 have eQ := mq (n := n) (P := l.prog) (w := w) (base := base) Z  aU
 have lM := vS (n := n) (P := l.prog) (w := w) (base := base) Z aU eQ dC
 have j0 := rG (n := n) (P := l.prog) (w := w) (base := base) Z  gT
 have kf := tT (n := n) (P := l.prog) (w := w) (base := base) Z  iG
 have lN := vT (n := n) (P := l.prog) (w := w) (base := base) Z nZ j0 o5 kf dD
 have nt := yn (n := n) (P := l.prog) (w := w) (base := base) Z f6 nu dC lM dD lN N_CN XCN sP eZ
 have cW := tO (n := n) (P := l.prog) (w := w) (base := base) Z  aK
 have iC := vU (n := n) (P := l.prog) (w := w) (base := base) Z eZ nt aK cW bU
 have iZ := rF (n := n) (P := l.prog) (w := w) (base := base) Z aa au cn
 have OK_law := ok_law (n := n) (P := l.prog) (w := w) (base := base) Z b8 dQ bB gJ dF lP bO il bC gK dE lO cI kc bU iC cn iZ aK cW N_CN XCN sP D_law
 exact OK_law
theorem walk {l : PySem.W.OpenLaw} {q : Program} {loose : List Str} {XP : (Str -> Option Value) -> Heap -> Prop} {YP : World -> Heap -> Prop} {d : DefRec} {K : Params -> PySem.W.Frag} (hn : l.most = some 63) (hdf : d.params.defaults = [])
  (hY : ∀ (w : World) (h : Heap), YP w h -> (K w.params).In h)
  (F : ∀ (w : World) (mg : Str -> Option Value) (fa : Addr) (h : Heap), (K w.params).In h -> h.Ns mainGlobals mg -> mg d.name = some (.ref fa) ->
   ∃ fd : FuncData, (∀ (s : Shared) (u : Value), BindsTo s fd ⟨[u], []⟩ [("_law_script", u)]) /\ ∀ base : Heap, (K w.params).In base -> base.Ns mainGlobals mg -> bJ l.prog w (K w.params) mg base CX0 8 fa fd ["_law_script"] (Ae (K w.params))) :
  PySem.W.WalkO q loose XP YP l.row.toRowW d [] (fun f vs => PySem.call f vs) :=
 L2.walk_of (n := 63) (k := 8) (x := "_law_script") (CX := fun _ => CX0) (sp := fun w => Ae (K w.params)) hn (by decide) hdf ⟨rfl, by decide, by decide⟩ hY F (fun _ _ a ns hl _ hS => ⟨a, ns, rfl, hS, hl, fun _ => rfl⟩) fun _ _ _ _ _ z => z
end Ru
open PySem PySem.W PyProof.Rows
noncomputable def _root_.PySem.W.Fast.tw7627500371097894729 : Nat := 0
noncomputable def _root_.PySem.W.Fast.tw7640598291430179862 : Nat := 0
noncomputable def _root_.PySem.W.Fast.tw11518860750539629757 : Nat := 0
noncomputable def _root_.PySem.W.Fast.tw2439035553110848422 : Nat := 0
noncomputable def _root_.PySem.W.Fast.tw4024964640038708439 : Nat := 0
noncomputable def _root_.PySem.W.Fast.tw7901846090711898994 : Nat := 0
noncomputable def _root_.PySem.W.Fast.tw5186077642437101597 : Nat := 0
noncomputable def _root_.PySem.W.Fast.tw4898167967892419724 : Nat := 0
noncomputable def _root_.PySem.W.Fast.tw8963221358081527789 : Nat := 0
noncomputable def _root_.PySem.W.Fast.tw6722171327570265814 : Nat := 0
noncomputable def _root_.PySem.W.Fast.tw4409102316600820468 : Nat := 0
noncomputable def _root_.PySem.W.Fast.tw3511114090792121003 : Nat := 0
noncomputable def _root_.PySem.W.Fast.tw1078933454464626919 : Nat := 0
noncomputable def _root_.PySem.W.Fast.tw17585516751487578486 : Nat := 0
noncomputable def _root_.PySem.W.Fast.tw5738842223324906102 : Nat := 0
noncomputable def _root_.PySem.W.Fast.tw14389928307548845521 : Nat := 0
noncomputable def _root_.PySem.W.Fast.tw5790747224209425027 : Nat := 0
noncomputable def _root_.PySem.W.Fast.tw6108585353568565030 : Nat := 0
noncomputable def _root_.PySem.W.Fast.tw16585050898284303993 : Nat := 0
noncomputable def _root_.PySem.W.Fast.tw18289790279252261858 : Nat := 0
noncomputable def _root_.PySem.W.Fast.tw4520888452251729624 : Nat := 0
noncomputable def _root_.PySem.W.Fast.tw17301087683989165563 : Nat := 0
noncomputable def _root_.PySem.W.Fast.tw11264786284881067762 : Nat := 0
noncomputable def _root_.PySem.W.Fast.tw7293143334680217682 : Nat := 0
noncomputable def _root_.PySem.W.Fast.tw6554744552933865744 : Nat := 0
noncomputable def _root_.PySem.W.Fast.tw5803819539281573505 : Nat := 0
noncomputable def _root_.PySem.W.Fast.tw16352729920866563822 : Nat := 0
noncomputable def _root_.PySem.W.Fast.tw9075162702695028470 : Nat := 0
noncomputable def _root_.PySem.W.Fast.tw11160498396411524683 : Nat := 0
noncomputable def _root_.PySem.W.Fast.tw12428558823919140771 : Nat := 0
noncomputable def _root_.PySem.W.Fast.tw9919759261350519138 : Nat := 0
noncomputable def _root_.PySem.W.Fast.tw3621745439126347034 : Nat := 0
noncomputable def _root_.PySem.W.Fast.tw11988565929914802907 : Nat := 0
noncomputable def _root_.PySem.W.Fast.tw4901477634198766606 : Nat := 0
noncomputable def _root_.PySem.W.Fast.tw5877722475438757417 : Nat := 0
noncomputable def _root_.PySem.W.Fast.tw7887348841459462263 : Nat := 0
noncomputable def _root_.PySem.W.Fast.tw8572840227605164169 : Nat := 0
noncomputable def _root_.PySem.W.Fast.tw7421995092241335156 : Nat := 0
noncomputable def _root_.PySem.W.Fast.tw8260199441560050587 : Nat := 0
noncomputable def _root_.PySem.W.Fast.tw2850658035000205757 : Nat := 0
noncomputable def _root_.PySem.W.Fast.tw29269252144881540 : Nat := 0
noncomputable def _root_.PySem.W.Fast.tw14851638232753512566 : Nat := 0
noncomputable def _root_.PySem.W.Fast.tw12108476231471031230 : Nat := 0
noncomputable def _root_.PySem.W.Fast.tw4713697741457030253 : Nat := 0
noncomputable def _root_.PySem.W.Fast.tw1186106845180665875 : Nat := 0
noncomputable def _root_.PySem.W.Fast.tw8444152777221247632 : Nat := 0
noncomputable def _root_.PySem.W.Fast.tw18002201592770243908 : Nat := 0
noncomputable def _root_.PySem.W.Fast.tw13126347286971083670 : Nat := 0
noncomputable def _root_.PySem.W.Fast.tw2628876735205813692 : Nat := 0
noncomputable def _root_.PySem.W.Fast.tw13041519948898994679 : Nat := 0
noncomputable def _root_.PySem.W.Fast.tw11743219628060287289 : Nat := 0
noncomputable def _root_.PySem.W.Fast.tw8079992583365684803 : Nat := 0
noncomputable def _root_.PySem.W.Fast.tw5739300886240579869 : Nat := 0
noncomputable def _root_.PySem.W.Fast.tw10263677257905708618 : Nat := 0
noncomputable def _root_.PySem.W.Fast.tw14670434566633499396 : Nat := 0
noncomputable def _root_.PySem.W.Fast.tw2837336228390092683 : Nat := 0
noncomputable def _root_.PySem.W.Fast.tw3489508499219544799 : Nat := 0
noncomputable def _root_.PySem.W.Fast.tw16379420296668029310 : Nat := 0
noncomputable def _root_.PySem.W.Fast.tw15947421227209152113 : Nat := 0
noncomputable def _root_.PySem.W.Fast.tw3979761336173609739 : Nat := 0
noncomputable def _root_.PySem.W.Fast.tw10516701765701378472 : Nat := 0
noncomputable def _root_.PySem.W.Fast.tw11322147869807795444 : Nat := 0
noncomputable def _root_.PySem.W.Fast.tw15666274005292593564 : Nat := 0
noncomputable def _root_.PySem.W.Fast.tw11427125692369495043 : Nat := 0
noncomputable def _root_.PySem.W.Fast.tw4063185810700675650 : Nat := 0
noncomputable def _root_.PySem.W.Fast.tw16940072881625306542 : Nat := 0
noncomputable def _root_.PySem.W.Fast.tw10191905232276637308 : Nat := 0
noncomputable def _root_.PySem.W.Fast.tw114414783584534916 : Nat := 0
noncomputable def _root_.PySem.W.Fast.tw11681118617525036585 : Nat := 0
noncomputable def _root_.PySem.W.Fast.tw4466128477542590026 : Nat := 0
noncomputable def _root_.PySem.W.Fast.tw7301304410005802430 : Nat := 0
set_option maxRecDepth 100000 in
set_option maxHeartbeats 0 in
theorem PySem.Challenge.cw_wakeorder_k22_earliest_times_holds : PySem.Challenge.rw_wakeorder_k22_earliest_times.Holds := by
 w_on; o_law; k_head; (case hw => w_witness2)
 k_fill
 refine Ru.walk (l := PySem.Challenge.rw_wakeorder_k22_earliest_times) rfl rfl (fun w h Y => PySem.W.kIn_of Y) ?F
 case F =>
  intro w mg fa h KX G hmg
  refine' Ru.all_mk KX G hmg ?CB ?yS ?yV ?yR ?yQ ?yT ?yU ?yX ?yW ?nC ?qv ?CC ?z0 ?zc ?yZ ?yY ?za ?zb ?ze ?zd ?kK ?jz ?o2 ?o3 ?x_ne ?nr ?mE ?n6 ?mL ?lI ?kO ?lu ?kZ ?nq ?mD ?n5 ?mK ?ig ?hZ ?i9 ?i3 ?k7 ?jC ?jS ?jF ?v5 ?uc ?uL ?ud ?lG ?kM ?lq ?kW ?iW ?iL ?iS ?iN ?nk ?mC ?n4 ?mJ ?iX ?iM ?iT ?iO ?ij ?i0 ?ia ?i4 ?nj ?mB ?n0 ?mI ?gH ?gC ?gG ?gD ?lK ?kS ?lz ?l3 ?lJ ?kQ ?lx ?l0 ?p8 ?oF ?oV ?oH ?fP ?fy ?fN ?fD ?ng ?mx ?mX ?mF ?k9 ?jI ?jE ?jU ?jH ?lL ?l9 ?kT ?lA ?l4 ?nh ?my ?mY ?mG ?oZ ?oE ?oU ?oG ?lH ?kN ?lr ?kY ?ni ?mz ?mZ ?mH ?k8 ?jD ?jT ?jG ?a_law ?l_law ?d_law ?k_law ?a_nR ?i_nR ?l_nR ?d_nR ?k_nR ?a_nP ?i_nP ?l_nP ?d_nP ?k_nP ?x_s1 ?x_s2 ?x_s3 ?zp ?a_nCN ?i_nCN ?l_nCN ?d_nCN ?k_nCN ?sT ?xN ?xQ ?xR ?xP ?xS ?xM ?xO ?sS ?sU ?kB ?o9 ?jt ?om ?pY ?sV ?oj ?oi ?oh ?og ?f7 ?f9 ?xK ?g8 ?Aa ?se ?gU ?ve ?aS ?kA ?kz ?vd ?sR ?gz ?lR ?dZ ?gm ?kJ ?jd ?j9 ?gY ?kH ?dX ?jb ?hW ?hI ?gb ?j7 ?du ?ja ?hV ?hG ?g9 ?j6 ?dq ?hU ?gd ?gc ?fq ?gZ ?cY ?kI ?jc ?j8 ?gX ?kG ?dW
  (case CB => k_is)
  (case yS => k_is)
  (case yV => k_is)
  (case yR => k_is)
  (case yQ => k_is)
  (case yT => k_is)
  (case yU => k_is)
  (case yX => k_is)
  (case yW => k_is)
  (case nC => k_is)
  (case qv => k_is)
  (case CC => k_is)
  (case z0 => k_is)
  (case zc => k_is)
  (case yZ => k_is)
  (case yY => k_is)
  (case za => k_is)
  (case zb => k_is)
  (case ze => k_is)
  (case zd => k_is)
  (case kK => k_is)
  (case jz => k_is)
  (case o2 => k_is)
  (case o3 => k_is)
  (case x_ne => first | k_is | kernel_rfl | rfl | decide +kernel)
  (case nr => k_is)
  (case mE => k_is)
  (case n6 => k_is)
  (case mL => k_is)
  (case lI => k_is)
  (case kO => k_is)
  (case lu => k_is)
  (case kZ => k_is)
  (case nq => k_is)
  (case mD => k_is)
  (case n5 => k_is)
  (case mK => k_is)
  (case ig => k_is)
  (case hZ => k_is)
  (case i9 => k_is)
  (case i3 => k_is)
  (case k7 => k_is)
  (case jC => k_is)
  (case jS => k_is)
  (case jF => k_is)
  (case v5 => k_is)
  (case uc => k_is)
  (case uL => k_is)
  (case ud => k_is)
  (case lG => k_is)
  (case kM => k_is)
  (case lq => k_is)
  (case kW => k_is)
  (case iW => k_is)
  (case iL => k_is)
  (case iS => k_is)
  (case iN => k_is)
  (case nk => k_is)
  (case mC => k_is)
  (case n4 => k_is)
  (case mJ => k_is)
  (case iX => k_is)
  (case iM => k_is)
  (case iT => k_is)
  (case iO => k_is)
  (case ij => k_is)
  (case i0 => k_is)
  (case ia => k_is)
  (case i4 => k_is)
  (case nj => k_is)
  (case mB => k_is)
  (case n0 => k_is)
  (case mI => k_is)
  (case gH => k_is)
  (case gC => k_is)
  (case gG => k_is)
  (case gD => k_is)
  (case lK => k_is)
  (case kS => k_is)
  (case lz => k_is)
  (case l3 => k_is)
  (case lJ => k_is)
  (case kQ => k_is)
  (case lx => k_is)
  (case l0 => k_is)
  (case p8 => k_is)
  (case oF => k_is)
  (case oV => k_is)
  (case oH => k_is)
  (case fP => k_is)
  (case fy => k_is)
  (case fN => k_is)
  (case fD => k_is)
  (case ng => k_is)
  (case mx => k_is)
  (case mX => k_is)
  (case mF => k_is)
  (case k9 => k_is)
  (case jI => k_is)
  (case jE => k_is)
  (case jU => k_is)
  (case jH => k_is)
  (case lL => k_is)
  (case l9 => k_is)
  (case kT => k_is)
  (case lA => k_is)
  (case l4 => k_is)
  (case nh => k_is)
  (case my => k_is)
  (case mY => k_is)
  (case mG => k_is)
  (case oZ => k_is)
  (case oE => k_is)
  (case oU => k_is)
  (case oG => k_is)
  (case lH => k_is)
  (case kN => k_is)
  (case lr => k_is)
  (case kY => k_is)
  (case ni => k_is)
  (case mz => k_is)
  (case mZ => k_is)
  (case mH => k_is)
  (case k8 => k_is)
  (case jD => k_is)
  (case jT => k_is)
  (case jG => k_is)
  (case a_law => k_is)
  (case l_law => k_is)
  (case d_law => k_is)
  (case k_law => k_is)
  (case a_nR => k_is)
  (case i_nR => k_is)
  (case l_nR => k_is)
  (case d_nR => k_is)
  (case k_nR => k_is)
  (case a_nP => k_is)
  (case i_nP => k_is)
  (case l_nP => k_is)
  (case d_nP => k_is)
  (case k_nP => k_is)
  (case x_s1 => first | k_is | kernel_rfl | rfl | decide +kernel)
  (case x_s2 => first | k_is | kernel_rfl | rfl | decide +kernel)
  (case x_s3 => first | k_is | kernel_rfl | rfl | decide +kernel)
  (case zp => first | k_is | kernel_rfl | rfl | decide +kernel)
  (case a_nCN => k_is)
  (case i_nCN => k_is)
  (case l_nCN => k_is)
  (case d_nCN => k_is)
  (case k_nCN => k_is)
  (case sT => first | k_is | kernel_rfl | rfl | decide +kernel)
  (case xN => first | k_is | kernel_rfl | rfl | decide +kernel)
  (case xQ => first | k_is | kernel_rfl | rfl | decide +kernel)
  (case xR => first | k_is | kernel_rfl | rfl | decide +kernel)
  (case xP => first | k_is | kernel_rfl | rfl | decide +kernel)
  (case xS => first | k_is | kernel_rfl | rfl | decide +kernel)
  (case xM => first | k_is | kernel_rfl | rfl | decide +kernel)
  (case xO => first | k_is | kernel_rfl | rfl | decide +kernel)
  (case sS => first | k_is | kernel_rfl | rfl | decide +kernel)
  (case sU => first | k_is | kernel_rfl | rfl | decide +kernel)
  (case kB => first | k_is | kernel_rfl | rfl | decide +kernel)
  (case o9 => first | k_is | kernel_rfl | rfl | decide +kernel)
  (case jt => first | k_is | kernel_rfl | rfl | decide +kernel)
  (case om => first | k_is | kernel_rfl | rfl | decide +kernel)
  (case pY => first | k_is | kernel_rfl | rfl | decide +kernel)
  (case sV => first | k_is | kernel_rfl | rfl | decide +kernel)
  (case oj => first | k_is | kernel_rfl | rfl | decide +kernel)
  (case oi => first | k_is | kernel_rfl | rfl | decide +kernel)
  (case oh => first | k_is | kernel_rfl | rfl | decide +kernel)
  (case og => first | k_is | kernel_rfl | rfl | decide +kernel)
  (case f7 => first | k_is | kernel_rfl | rfl | decide +kernel)
  (case f9 => first | k_is | kernel_rfl | rfl | decide +kernel)
  (case xK => first | k_is | kernel_rfl | rfl | decide +kernel)
  (case g8 => k_is)
  (case Aa => k_is)
  (case se => k_is)
  (case gU => k_is)
  (case ve => k_is)
  (case aS => k_is)
  (case kA => k_is)
  (case kz => k_is)
  (case vd => k_is)
  (case sR => k_is)
  (case gz => k_is)
  (case lR => k_is)
  (case dZ => k_is)
  (case gm => k_is)
  (case kJ => first | k_is | kernel_rfl | rfl | decide +kernel)
  (case jd => first | k_is | kernel_rfl | rfl | decide +kernel)
  (case j9 => first | k_is | kernel_rfl | rfl | decide +kernel)
  (case gY => first | k_is | kernel_rfl | rfl | decide +kernel)
  (case kH => first | k_is | kernel_rfl | rfl | decide +kernel)
  (case dX => first | k_is | kernel_rfl | rfl | decide +kernel)
  (case jb => first | k_is | kernel_rfl | rfl | decide +kernel)
  (case hW => first | k_is | kernel_rfl | rfl | decide +kernel)
  (case hI => first | k_is | kernel_rfl | rfl | decide +kernel)
  (case gb => first | k_is | kernel_rfl | rfl | decide +kernel)
  (case j7 => first | k_is | kernel_rfl | rfl | decide +kernel)
  (case du => first | k_is | kernel_rfl | rfl | decide +kernel)
  (case ja => first | k_is | kernel_rfl | rfl | decide +kernel)
  (case hV => first | k_is | kernel_rfl | rfl | decide +kernel)
  (case hG => first | k_is | kernel_rfl | rfl | decide +kernel)
  (case g9 => first | k_is | kernel_rfl | rfl | decide +kernel)
  (case j6 => first | k_is | kernel_rfl | rfl | decide +kernel)
  (case dq => first | k_is | kernel_rfl | rfl | decide +kernel)
  (case hU => first | k_is | kernel_rfl | rfl | decide +kernel)
  (case gd => first | k_is | kernel_rfl | rfl | decide +kernel)
  (case gc => first | k_is | kernel_rfl | rfl | decide +kernel)
  (case fq => first | k_is | kernel_rfl | rfl | decide +kernel)
  (case gZ => first | k_is | kernel_rfl | rfl | decide +kernel)
  (case cY => first | k_is | kernel_rfl | rfl | decide +kernel)
  (case kI => first | k_is | kernel_rfl | rfl | decide +kernel)
  (case jc => first | k_is | kernel_rfl | rfl | decide +kernel)
  (case j8 => first | k_is | kernel_rfl | rfl | decide +kernel)
  (case gX => first | k_is | kernel_rfl | rfl | decide +kernel)
  (case kG => first | k_is | kernel_rfl | rfl | decide +kernel)
  (case dW => first | k_is | kernel_rfl | rfl | decide +kernel)
