import PyProof.Rows.All
import Wide.All
import OpenK.AllK
import Wide.FinOn
import Lean
import PyProof.EqAt
import PyProof.EqKinds
import PyProof.NeKinds
import PyProof.TupleCall
import PySem.Challenge.RW_wakeorder_k50_labels_along_plans
set_option Elab.async false
set_option linter.all false
set_option maxRecDepth 100000
namespace L2
open PySem PySem.Spec PyProof.Rows
noncomputable abbrev Key := Sum Int Str
noncomputable def keyIs : Key -> Value -> Bool
  | .inl k, v => Value.isInt k v
  | .inr x, v => Value.isStrOf x v
noncomputable def keyH (w : World) : Key -> Int
  | .inl k => hashInt k
  | .inr x => hashStr w x
theorem cT : ∀ {k : Key} {v : Value}, keyIs k v = true -> (∃ i t, k = Sum.inl i /\ v = Value.int i t) \/ (∃ x t, k = Sum.inr x /\ v = Value.str x t)
  | .inl i, v, h => by
    obtain ⟨t, e⟩ := Value.isInt_shape (k := i) (v := v) h
    exact .inl ⟨i, t, rfl, e⟩
  | .inr x, v, h => by
    obtain ⟨t, e⟩ := Value.isStrOf_shape (x := x) (v := v) h
    exact .inr ⟨x, t, rfl, e⟩
theorem key_ll (a b : Int) : decide ((Sum.inl a : Key) = Sum.inl b) = (a == b) := by
  by_cases e : a = b
  · subst e; simp
  · have h : ¬ (Sum.inl a : Key) = Sum.inl b := fun q => e (Sum.inl.inj q)
    rw [decide_eq_false h]
    exact (beq_eq_false_iff_ne.mpr e).symm
theorem key_rr (a b : Str) : decide ((Sum.inr a : Key) = Sum.inr b) = decide (a = b) := by
  by_cases e : a = b
  · subst e; simp
  · have h : ¬ (Sum.inr a : Key) = Sum.inr b := fun q => e (Sum.inr.inj q)
    rw [decide_eq_false h, decide_eq_false e]
theorem key_lr (a : Int) (b : Str) : decide ((Sum.inl a : Key) = Sum.inr b) = false := decide_eq_false (fun q => nomatch q)
theorem key_rl (a : Str) (b : Int) : decide ((Sum.inr a : Key) = Sum.inl b) = false := decide_eq_false (fun q => nomatch q)
noncomputable def zv (prog : Program) (w : World) : PySem.KeyKind prog w Key where
  is := keyIs
  hash := keyH w
  inj := fun v a b ha hb => by
    rcases cT ha with ⟨i, t, rfl, rfl⟩ | ⟨x, t, rfl, rfl⟩
    · rcases cT hb with ⟨j, u, rfl, e⟩ | ⟨y, u, rfl, e⟩
      · injection e with e1 _; rw [e1]
      · exact nomatch e
    · rcases cT hb with ⟨j, u, rfl, e⟩ | ⟨y, u, rfl, e⟩
      · exact nomatch e
      · injection e with e1 _; rw [e1]
  byValue := fun k v h => by
    rcases cT h with ⟨i, t, rfl, rfl⟩ | ⟨x, t, rfl, rfl⟩ <;> rfl
  pyHash := fun hv h => by
    rcases cT hv with ⟨i, t, rfl, rfl⟩ | ⟨x, t, rfl, rfl⟩
    · exact wpAny_pyHash_int h
    · exact wpAny_pyHash_str h
  eqBool := fun hu hv h => by
    rcases cT hu with ⟨i, t, rfl, rfl⟩ | ⟨x, t, rfl, rfl⟩
    · rcases cT hv with ⟨j, u, rfl, rfl⟩ | ⟨y, u, rfl, rfl⟩
      · rw [key_ll] at h; exact wpAny_eqBool_int h
      · rw [key_lr] at h; exact SeqAt.EqAt.int_str i t y u _ _ _ _ h
    · rcases cT hv with ⟨j, u, rfl, rfl⟩ | ⟨y, u, rfl, rfl⟩
      · rw [key_rl] at h; exact SeqAt.EqAt.str_int x t j u _ _ _ _ h
      · rw [key_rr] at h; exact wpAny_eqBool_str h
  «strs» := fun k x t v h => by
    rcases cT h with ⟨i, u, rfl, e⟩ | ⟨y, u, rfl, e⟩
    · exact nomatch e
    · injection e with e1 _
      subst e1
      cases v <;> rfl
end L2
namespace L2
open PySem PySem.Spec PyProof.Rows
inductive V where
  | non | bl (b : Bool) | int (i : Int) | str (x : Str) | byt (b : Array UInt8) | flt (b : UInt64) | ref (a : Addr) | ty (n : String)
  deriving DecidableEq
noncomputable def RelV : V -> Value -> Prop
  | .non, u => u = Value.none
  | .bl b, u => u = Value.bool b
  | .int i, u => ∃ t, u = Value.int i t
  | .str x, u => ∃ t, u = Value.str x t
  | .byt b, u => ∃ t, u = Value.bytes b t
  | .flt b, u => ∃ t, u = Value.float b t
  | .ref a, u => u = Value.ref a
  | .ty n, u => u = Value.type n
noncomputable abbrev Vals : List V -> List Value -> Prop := Paired RelV
theorem Vals.length {xs : List V} {us : List Value} (r : Vals xs us) : xs.length = us.length := Paired.length r
theorem Vals.get : ∀ {xs : List V} {us : List Value} {i : Nat} {x : V}, Vals xs us -> xs[i]? = some x -> ∃ u, us[i]? = some u /\ RelV x u
  | _, _, _, _, .nil, e => by simp at e
  | _, _, 0, _, .cons r _, e => by simp at e; subst e; exact ⟨_, rfl, r⟩
  | _, _, i + 1, x, .cons _ t, e => by
    obtain ⟨u, h1, h2⟩ := Vals.get (i := i) (x := x) t (by simpa using e)
    exact ⟨u, by simpa using h1, h2⟩
theorem Vals.set {x : V} {u : Value} (r : RelV x u) : ∀ {xs : List V} {us : List Value} (i : Nat), Vals xs us -> Vals (xs.set i x) (us.set i u)
  | _, _, _, .nil => .nil
  | _, _, 0, .cons _ t => .cons r t
  | _, _, i + 1, .cons q t => .cons q (Vals.set r i t)
theorem Vals.append : ∀ {xs ys : List V} {us ws : List Value}, Vals xs us -> Vals ys ws -> Vals (xs ++ ys) (us ++ ws)
  | _, _, _, _, .nil, s => s
  | _, _, _, _, .cons r t, s => .cons r (Vals.append t s)
theorem Vals.take : ∀ {xs : List V} {us : List Value} (n : Nat), Vals xs us -> Vals (xs.take n) (us.take n)
  | _, _, 0, _ => .nil
  | _, _, _ + 1, .nil => .nil
  | _, _, n + 1, .cons r t => .cons r (Vals.take n t)
noncomputable def RelO : Option V -> Option Value -> Prop
  | some v, some u => RelV v u
  | none, none => True
  | _, _ => False
noncomputable def KV {κ : Type} : List (κ × V) -> List (κ × Value) -> Prop := Paired fun (p : κ × V) (q : κ × Value) => p.1 = q.1 /\ RelV p.2 q.2
noncomputable def kV : Key -> V
  | .inl i => .int i
  | .inr x => .str x
inductive HO where
    | lst (xs : List V)
    | tup (xs : List V)
    | dK (kvs : List (Key × V)) | dT (kvs : List (List Key × V))
    | set (S : Int -> Bool) (n : Nat)
    | ins (C dx : Addr) (fs : List (Str × V))
    | own (x : Addr)
    | xd (fs : List (Str × V))
    | met (f x : Addr)
    | rng (lo hi : Int)
    | frz (o : Obj) (u : HO)
    | tbl (ps : Array Value)
    | ext (φ : Heap -> Prop)
noncomputable abbrev Hp := Addr -> Option HO
noncomputable def upd (H : Hp) (a : Addr) (o : HO) : Hp := fun b => if b = a then some o else H b
theorem aE {H : Hp} {a : Addr} {o : HO} : upd H a o a = some o := by unfold upd; rw [if_pos rfl]
theorem av {H : Hp} {a b : Addr} {o : HO} (h : b ≠ a) : upd H a o b = H b := by unfold upd; rw [if_neg h]
theorem aN {H : Hp} {a b : Addr} {o : HO} (h : H a = some o) (h' : H b = none) : a ≠ b := by
  intro e; subst e; rw [h] at h'; cases h'
section
variable (P : Program) (w : World)
noncomputable def jc (H : Hp) (h : Heap) (a : Addr) : HO -> Prop
  | .lst xs => xs.length <= sizeLine /\ ∃ (its : List Value) (n : Nat), Vals xs its /\ h.get? a = some { cls := .type "list", data := .seq its.toArray n }
  | .tup xs => xs.length <= sizeLine /\ ∃ its : List Value, Vals xs its /\ IsTup h a its.toArray
  | .dK kvs => kvs.length <= sizeLine /\ (a == sysModules) = false /\ ∃ vs, KV kvs vs /\ h.DictOf (zv P w) a vs
  | .dT kvs => kvs.length <= sizeLine /\ (a == sysModules) = false /\ ∃ xs : List (List Key × Addr × Value),
      Paired (fun (p : List Key × V) (q : List Key × Addr × Value) => p.1 = q.1 /\ H q.2.1 = some (.tup (p.1.map kV)) /\ RelV p.2 q.2.2) kvs xs /\
      ∃ o es ep, h.get? a = some o /\ o.ExactDict /\ o.data = .dict es ep /\ es.toList = xs.map (entryOfKey (tupleKind (zv P w))) /\ (xs.map (·.1)).Nodup
  | .set S n => h.SetOf (intKind P w) a S n
  | .ins C dx fs => H dx = some (.own a) /\ fs.length <= 1000 /\ dx ≠ a /\ h.get? a = some (PySem.W.instObj C dx) /\
      ∃ mA, h.Ns1 dx mA /\ (∀ f, RelO (fs.lookup f) (mA f)) /\ PySem.Within mA (fs.map (·.1))
  | .own _ => ∃ o, h.get? a = some o
  | .xd fs => ∃ mA, h.Ns1 a mA /\ ∀ f, RelO (fs.lookup f) (mA f)
  | .rng lo hi => ∃ t u v, h.get? a = some { cls := .type "range", data := .fields #[.int lo t, .int hi u, .int 1 v] }
  | .frz o u => h.get? a = some o /\ jc H h a u
  | .tbl ps => h.get? a = some { cls := .none, data := .fields ps }
  | .met f x => h.get? a = some (PySem.W.methodObj (.ref f) (.ref x))
  | .ext φ => φ h /\ (∃ o, h.get? a = some o) /\ ∀ h1 h2 : Heap, φ h1 -> (∀ o, h1.get? a = some o -> h2.get? a = some o) -> φ h2
noncomputable def HOk (H : Hp) (h : Heap) : Prop := ∀ a o, H a = some o -> jc P w H h a o
end
section
variable {P : Program} {w : World} {H H' : Hp} {h h' : Heap} {a : Addr} {o : HO}
theorem jc.lt (x : jc P w H h a o) : a < h.objs.size := by
  cases o with
  | lst xs => obtain ⟨_, _, _, _, e⟩ := x; exact Heap.lt_size e
  | tup xs => obtain ⟨_, _, _, p⟩ := x; exact p.lt
  | dK kvs => obtain ⟨_, _, _, _, o, _, _, e, _⟩ := x; exact Heap.lt_size e
  | dT kvs => obtain ⟨_, _, _, _, o, _, _, e, _⟩ := x; exact Heap.lt_size e
  | set S n => obtain ⟨o, _, _, _, e, _⟩ := x; exact Heap.lt_size e
  | ins C dx fs => obtain ⟨_, _, _, e, _⟩ := x; exact Heap.lt_size e
  | own y => obtain ⟨_, e⟩ := x; exact Heap.lt_size e
  | xd fs => obtain ⟨_, ⟨_, _, _, e, _⟩, _⟩ := x; exact Heap.lt_size e
  | rng lo hi => obtain ⟨_, _, _, e⟩ := x; exact Heap.lt_size e
  | frz ob u => obtain ⟨e, _⟩ := x; exact Heap.lt_size e
  | tbl ps => exact Heap.lt_size (show h.get? a = some _ from x)
  | met f y => exact Heap.lt_size (show h.get? a = some _ from x)
  | ext φ => obtain ⟨_, ⟨_, e⟩, _⟩ := x; exact Heap.lt_size e
theorem Paired.mapP {α β : Type} {F G : α -> β -> Prop} : ∀ {l₁ : List α} {l₂ : List β}, Paired F l₁ l₂ -> (∀ a b, F a b -> G a b) -> Paired G l₁ l₂
  | _, _, .nil, _ => .nil
  | _, _, .cons r t, f => .cons (f _ _ r) (Paired.mapP t f)
theorem jc.stay (x : jc P w H h a o) (k : ∀ b u, (b = a \/ H b = some (.own a)) -> h.get? b = some u -> h'.get? b = some u)
    (ho : ∀ b, H b = some (.own a) -> H' b = some (.own a)) (ht : ∀ b xs, H b = some (.tup xs) -> H' b = some (.tup xs)) : jc P w H' h' a o := by
  induction o with
  | lst xs => obtain ⟨z, its, n, r, e⟩ := x; exact ⟨z, its, n, r, k _ _ (.inl rfl) e⟩
  | tup xs => obtain ⟨z, its, r, ob, e, c⟩ := x; exact ⟨z, its, r, ob, k _ _ (.inl rfl) e, c⟩
  | dK kvs => obtain ⟨z, y, vs, r, ob, es, ep, e, c⟩ := x; exact ⟨z, y, vs, r, ob, es, ep, k _ _ (.inl rfl) e, c⟩
  | dT kvs =>
    obtain ⟨z, y, xs, r, ob, es, ep, e, c⟩ := x
    exact ⟨z, y, xs, Paired.mapP r fun p q z => ⟨z.1, ht _ _ z.2.1, z.2.2⟩, ob, es, ep, k _ _ (.inl rfl) e, c⟩
  | set S n => obtain ⟨ob, es, ep, t, e, c⟩ := x; exact ⟨ob, es, ep, t, k _ _ (.inl rfl) e, c⟩
  | ins C dx fs =>
    obtain ⟨d, z, ne, e, mA, ⟨od, es, ep, e2, c⟩, r⟩ := x
    exact ⟨ho _ d, z, ne, k _ _ (.inl rfl) e, mA, ⟨od, es, ep, k _ _ (.inr d) e2, c⟩, r⟩
  | own y => obtain ⟨ob, e⟩ := x; exact ⟨ob, k _ _ (.inl rfl) e⟩
  | xd fs => obtain ⟨mA, ⟨od, es, ep, e, c⟩, r⟩ := x; exact ⟨mA, ⟨od, es, ep, k _ _ (.inl rfl) e, c⟩, r⟩
  | rng lo hi => obtain ⟨t, u, v, e⟩ := x; exact ⟨t, u, v, k _ _ (.inl rfl) e⟩
  | frz ob u ih => obtain ⟨e, q⟩ := x; exact ⟨k _ _ (.inl rfl) e, ih q⟩
  | tbl ps =>
    have e : h.get? a = some { cls := .none, data := .fields ps } := x
    show h'.get? a = some { cls := .none, data := .fields ps }
    exact k a _ (.inl rfl) e
  | met f y =>
    have e : h.get? a = some (PySem.W.methodObj (.ref f) (.ref y)) := x
    show h'.get? a = some (PySem.W.methodObj (.ref f) (.ref y))
    exact k a _ (.inl rfl) e
  | ext φ => obtain ⟨p, ⟨o, e⟩, st⟩ := x; exact ⟨st _ _ p fun o q => k _ _ (.inl rfl) q, ⟨o, k _ _ (.inl rfl) e⟩, st⟩
theorem HOk.lt (x : HOk P w H h) (e : H a = some o) : a < h.objs.size := (x a o e).lt
theorem HOk.fresh (x : HOk P w H h) (e : h.objs.size <= a) : H a = none := by
  cases q : H a with
  | none => rfl
  | some u => exact absurd (Nat.lt_of_lt_of_le (x.lt q) e) (Nat.lt_irrefl _)
theorem HOk.kept (x : HOk P w H h) (k : ∀ b u, h.get? b = some u -> h'.get? b = some u) : HOk P w H h' := fun a o e =>
  (x a o e).stay (fun b u _ q => k b u q) (fun _ q => q) fun _ _ q => q
theorem HOk.laid (x : HOk P w H h) (k : ∀ b u, h.get? b = some u -> h'.get? b = some u) (hp : h.objs.size <= a) (new : jc P w (upd H a o) h' a o) : HOk P w (upd H a o) h' := fun b u e => by
  have hn := x.fresh hp
  by_cases hb : b = a
  · subst hb; rw [aE] at e; cases e; exact new
  · rw [av hb] at e
    exact (x b u e).stay (fun c v _ q => k c v q) (fun c q => by rw [av (aN q hn)]; exact q) fun c xs q => by rw [av (aN q hn)]; exact q
end
noncomputable def Rd (H : Hp) (a : Addr) (u : HO) : Prop := H a = some u \/ ∃ o, H a = some (.frz o u)
theorem Rd.ok {P : Program} {w : World} {H : Hp} {h : Heap} {a : Addr} {u : HO} (r : Rd H a u) (x : HOk P w H h) : jc P w H h a u := by
  rcases r with r | ⟨o, r⟩
  · exact x a u r
  · obtain ⟨_, q⟩ := x a _ r
    exact q
noncomputable def Mut : Option HO -> Prop
  | some (.lst _) => True
  | some (.dK _) => True
  | some (.dT _) => True
  | some (.set _ _) => True
  | some (.ins _ _ _) => True
  | some (.ext _) => True
  | _ => False
section
variable {P : Program} {w : World} {H : Hp} {h h' : Heap} {x e : Addr} {o' : HO}
theorem HOk.write (ok : HOk P w H h) (mu : Mut (H x)) (he : e = x \/ H e = some (.own x)) (k : ∀ b u, b ≠ e -> h.get? b = some u -> h'.get? b = some u) (heo : ∃ u, h'.get? e = some u)
    (new : jc P w (upd H x o') h' x o') : HOk P w (upd H x o') h' := fun b u q => by
  have nown : ∀ c y, H c = some (.own y) -> c ≠ x := fun c y r z => by subst z; rw [r] at mu; exact mu
  have ntup : ∀ c xs, H c = some (.tup xs) -> c ≠ x := fun c xs r z => by subst z; rw [r] at mu; exact mu
  by_cases hb : b = x
  · subst hb; rw [aE] at q; cases q; exact new
  · rw [av hb] at q
    by_cases hbe : b = e
    · have q' : H b = some (.own x) := by
        rcases he with z | z
        · exact absurd (hbe.trans z) hb
        · rw [hbe]; exact z
      rw [q] at q'; cases q'
      obtain ⟨v, hv⟩ := heo
      exact ⟨v, by rw [hbe]; exact hv⟩
    · refine (ok b u q).stay (fun c v hc r => k c v ?_ r) (fun c r => by rw [av (nown c b r)]; exact r) fun c xs r => by rw [av (ntup c xs r)]; exact r
      rcases hc with rfl | hc
      · exact hbe
      · rintro rfl
        rcases he with z | z
        · exact nown c b hc z
        · rw [hc] at z; cases z; exact hb rfl
end
structure Un (fs ex : List Addr) (H H' : Hp) (h h' : Heap) : Prop where
  keep : ∀ b o, h.get? b = some o -> H b = none -> b ∉ fs -> b ∉ ex -> h'.get? b = some o
  slot : ∀ b o, h.get? b = some o -> H b = none -> b ∈ fs -> b ∉ ex -> ∃ sl, h'.get? b = some { o with slots := sl }
  free : ∀ b o, h.get? b = some o -> H b = none -> b ∉ ex -> H' b = none
  there : ∀ b o, h.get? b = some o -> b ∉ ex -> ∃ o', h'.get? b = some o'
  tups : ∀ b xs, H b = some (.tup xs) -> H' b = some (.tup xs)
  frzs : ∀ b o u, H b = some (.frz o u) -> H' b = some (.frz o u)
  tbls : ∀ b ps, H b = some (.tbl ps) -> ∃ more, H' b = some (.tbl (ps ++ more))
section
variable {fs fs' ex ex' : List Addr} {H H1 H2 : Hp} {h h1 h2 h' : Heap} {a x e : Addr} {o : HO}
theorem Un.any (u : Un fs ex H H1 h h1) {b : Addr} {ob : Obj} (q : h.get? b = some ob) (n : H b = none) (hx : b ∉ ex) : ∃ sl, h1.get? b = some { ob with slots := sl } := by
  by_cases hb : b ∈ fs
  · exact u.slot b ob q n hb hx
  · exact ⟨ob.slots, u.keep b ob q n hb hx⟩
theorem Un.trans (a : Un fs ex H H1 h h1) (b : Un fs ex H1 H2 h1 h2) : Un fs ex H H2 h h2 where
  keep := fun c ob q n hc hx => b.keep c ob (a.keep c ob q n hc hx) (a.free c ob q n hx) hc hx
  slot := fun c ob q n hc hx => by
    obtain ⟨sl, e1⟩ := a.slot c ob q n hc hx
    obtain ⟨sl', e2⟩ := b.slot c _ e1 (a.free c ob q n hx) hc hx
    exact ⟨sl', e2⟩
  free := fun c ob q n hx => by
    obtain ⟨o', e1⟩ := a.there c ob q hx
    exact b.free c o' e1 (a.free c ob q n hx) hx
  there := fun c ob q hx => by
    obtain ⟨o', e1⟩ := a.there c ob q hx
    exact b.there c o' e1 hx
  tups := fun c xs q => b.tups c xs (a.tups c xs q)
  frzs := fun c ob xs q => b.frzs c ob xs (a.frzs c ob xs q)
  tbls := fun c ps q => by
    obtain ⟨m1, e1⟩ := a.tbls c ps q
    obtain ⟨m2, e2⟩ := b.tbls c _ e1
    exact ⟨m1 ++ m2, by rw [e2, Array.append_assoc]⟩
theorem Un.kept (k : ∀ b u, h.get? b = some u -> h'.get? b = some u) : Un fs ex H H h h' :=
  ⟨fun b ob q _ _ _ => k b ob q, fun b ob q _ _ _ => ⟨ob.slots, k b ob q⟩, fun _ _ _ n _ => n, fun b ob q _ => ⟨ob, k b ob q⟩, fun _ _ q => q, fun _ _ _ q => q, fun _ ps q => ⟨#[], by rw [q]; simp⟩⟩
theorem Un.refl : Un fs ex H H h h := Un.kept fun _ _ q => q
theorem Un.laid (k : ∀ b u, h.get? b = some u -> h'.get? b = some u) (hp : h.objs.size <= a) (hn : H a = none) : Un fs ex H (upd H a o) h h' where
  keep := fun b u q _ _ _ => k b u q
  slot := fun b u q _ _ _ => ⟨u.slots, k b u q⟩
  free := fun b u q n _ => by rw [av (Nat.ne_of_lt (Nat.lt_of_lt_of_le (Heap.lt_size q) hp))]; exact n
  there := fun b u q _ => ⟨u, k b u q⟩
  tups := fun b xs q => by rw [av (aN q hn)]; exact q
  frzs := fun b u xs q => by rw [av (aN q hn)]; exact q
  tbls := fun b ps q => ⟨#[], by rw [av (aN q hn), q]; simp⟩
theorem Un.write (mu : Mut (H x)) (he : e = x \/ H e = some (.own x)) (k : ∀ b u, b ≠ e -> h.get? b = some u -> h'.get? b = some u) (heo : ∃ u, h'.get? e = some u) : Un fs ex H (upd H x o) h h' := by
  have hx : ∀ b, H b = none -> b ≠ x := fun b n z => by subst z; rw [n] at mu; exact mu
  have hb : ∀ b, H b = none -> b ≠ e := fun b n z => by
    subst z
    rcases he with r | r
    · exact hx b n r
    · rw [n] at r; cases r
  have hm : ∀ b u, H b = some u -> ¬ Mut (some u) -> b ≠ x := fun b u q nm z => by subst z; rw [q] at mu; exact nm mu
  refine ⟨fun b u q n _ _ => k b u (hb b n) q, fun b u q n _ _ => ⟨u.slots, k b u (hb b n) q⟩, fun b u q n _ => by rw [av (hx b n)]; exact n, fun b u q _ => ?_,
    fun b xs q => by rw [av (hm b _ q fun z => z)]; exact q, fun b u xs q => by rw [av (hm b _ q fun z => z)]; exact q, fun b ps q => ⟨#[], by rw [av (hm b _ q fun z => z), q]; simp⟩⟩
  by_cases hbe : b = e
  · subst hbe; exact heo
  · exact ⟨u, k b u hbe q⟩
end
noncomputable def trk (h : Heap) (H : Hp) : List Addr := (List.range h.objs.size).filter fun a => (H a).isSome
noncomputable def hidT (h : Heap) (H : Hp) : Heap := PySem.W.hideAll h (trk h H)
theorem Cr (h : Heap) (H : Hp) : (hidT h H).objs.size = h.objs.size := PySem.W.hideAll_size _ _
theorem hidT_get {h : Heap} {H : Hp} {b : Addr} {o : Obj} (e : h.get? b = some o) (n : H b = none) : (hidT h H).get? b = some o :=
  PySem.W.hideAll_get _ e fun hm => by
    have q : (H b).isSome = true := (List.mem_filter.mp hm).2
    rw [n] at q; simp at q
theorem of_hidT {h : Heap} {H : Hp} {b : Addr} {o : Obj} (e : (hidT h H).get? b = some o) : h.get? b = some o /\ H b = none := by
  have e' : h.get? b = some o := PySem.W.of_hideAll (trk h H) e
  refine ⟨e', ?_⟩
  cases q : H b with
  | none => rfl
  | some x =>
    have hm : b ∈ trk h H := List.mem_filter.mpr ⟨List.mem_range.mpr (Heap.lt_size e'), by simp [q]⟩
    have z : (hidT h H).get? b = none := PySem.W.hideAll_none (trk h H) hm
    rw [z] at e; cases e
end L2
namespace L2
open PySem PySem.Spec PyProof.Rows
structure Mod (K : PySem.W.Frag) (mg : Str -> Option Value) (base : Heap) : Prop where
  kin : K.In base
  glob : base.Ns mainGlobals mg
  blt : ∃ mb, base.Ns builtinsNs mb /\ ∀ x : Str, x ≠ "__name__" -> mb x = bootBuiltins x
  nolimit : base.NoLimit
structure Cx where
  prog : Program
  w : World
  K : PySem.W.Frag
  mg : Str -> Option Value
  base : Heap
  A : Around
  N : List Str
  s₀ : Shared
  H₀ : Hp
  env : Env
  outer : List Env
  stack : List Env
  ex : List Addr
  fn : Str -> Bool
  calm : Bool
  pn : List (Addr × Obj)
  xe : Value -> Shared -> Prop
noncomputable def frs (l : List Env) : List Addr := l.filterMap (·.frame)
noncomputable abbrev Cx.fs (X : Cx) : List Addr := frs X.outer
noncomputable def Vis (sc : Scope) (x : Str) : Prop := sc.names.lookup x = some .local \/ sc.names.lookup x = some .cell \/ sc.names.lookup x = some .free
noncomputable def Loc (sc : Scope) (x : Str) : Prop := sc.names.lookup x = some .local \/ sc.names.lookup x = some .cell
noncomputable def Look (env : Env) (h : Heap) (m : Str -> Option Value) (x : Str) (u : Value) : Prop :=
  (env.kindOf x = some .local /\ m x = some u) \/ ((env.kindOf x = some .cell \/ env.kindOf x = some .free) /\ ∃ c, env.cells.lookup x = some c /\ h.IsCell c (some u))
structure Cx.Ok (X : Cx) : Prop where
  mod : Mod X.K X.mg X.base
  kind : X.env.scope.kind = .function
  glob : X.env.globals = mainGlobals
  blt : X.env.builtins = builtinsNs
  above : X.s₀.heap.objs.size <= X.env.locals
  inj : ∀ x y c, X.env.cells.lookup x = some c -> X.env.cells.lookup y = some c -> x = y
  has : ∀ x, (X.env.kindOf x = some .cell \/ X.env.kindOf x = some .free) -> ∃ c, X.env.cells.lookup x = some c
  cab : ∀ x c, X.fn x = true -> X.env.cells.lookup x = some c -> X.s₀.heap.objs.size <= c
  hd : X.calm = true -> X.A.handled = none
  frames : X.A.frames = some X.stack
  stk : X.stack = X.outer \/ (X.stack = X.env :: X.outer /\ X.env.frame = some X.env.locals)
  exf : ∀ b ∈ X.ex, b ≠ X.env.locals /\ ∀ x c, X.env.cells.lookup x = some c -> c ≠ b
  bs : ∀ b o, X.base.get? b = some o -> X.s₀.heap.get? b = some o /\ X.H₀ b = none
  bsz : X.base.objs.size <= X.s₀.heap.objs.size
  noex : ∀ b o, X.base.get? b = some o -> b ∉ X.ex
  exfs : ∀ b ∈ X.ex, b ∉ X.fs
  Bu : X.s₀.heap.FunFrames X.base X.outer
  frf : ∀ b ∈ X.fs, X.H₀ b = none
structure Inv (X : Cx) (pins : List (Addr × Obj)) (σ : List (Option V)) (H : Hp) (s : Shared) : Prop where
  ok : X.Ok
  os : s.os = X.s₀.os
  bare : AllBare s.gens
  base : Un X.fs X.ex X.H₀ H X.s₀.heap s.heap
  loc : ∃ m, s.heap.Ns X.env.locals m /\ ∀ (i : Nat) (x : Str) (v : V), X.N[i]? = some x -> σ[i]? = some (some v) -> Vis X.env.scope x -> ∃ u, RelV v u /\ Look X.env s.heap m x u
  cell : ∀ x c, X.env.cells.lookup x = some c -> ∃ v, s.heap.IsCell c v
  free : H X.env.locals = none
  freeC : ∀ x c, X.env.cells.lookup x = some c -> H c = none
  pin : ∀ p ∈ X.pn ++ pins, s.heap.get? p.1 = some p.2 /\ H p.1 = none /\ p.1 ≠ X.env.locals /\ p.1 ∉ X.fs /\ ∀ v, p.2.data ≠ .cell v
  hok : HOk X.prog X.w H s.heap
  len : σ.length = X.N.length
section
variable {X : Cx} {pins : List (Addr × Obj)} {σ : List (Option V)} {H H' : Hp} {s : Shared} {h' : Heap}
theorem Cx.Ok.nofr (ok : X.Ok) {b : Addr} {o : Obj} (e : X.base.get? b = some o) : b ∉ X.fs := fun hb => by
  have := (ok.Bu.mem hb).1
  rw [e] at this; cases this
theorem Inv.bs (I : Inv X pins σ H s) : ∀ b o, X.base.get? b = some o -> s.heap.get? b = some o /\ H b = none := fun b o e =>
  ⟨I.base.keep b o (I.ok.bs b o e).1 (I.ok.bs b o e).2 (I.ok.nofr e) (I.ok.noex b o e), I.base.free b o (I.ok.bs b o e).1 (I.ok.bs b o e).2 (I.ok.noex b o e)⟩
theorem Inv.bk (I : Inv X pins σ H s) : ∀ b o, X.base.get? b = some o -> s.heap.get? b = some o := fun b o e => (I.bs b o e).1
theorem Inv.mod (I : Inv X pins σ H s) : Mod X.K X.mg X.base := I.ok.mod
theorem Inv.kIn (I : Inv X pins σ H s) : X.K.In s.heap := I.ok.mod.kin.keeps I.bk
theorem Inv.lt (I : Inv X pins σ H s) : X.env.locals < s.heap.objs.size := let ⟨_, hn, _⟩ := I.loc; hn.lt
theorem Inv.sz (I : Inv X pins σ H s) : X.s₀.heap.objs.size <= s.heap.objs.size := Nat.le_trans I.ok.above (Nat.le_of_lt I.lt)
theorem Inv.nofs (I : Inv X pins σ H s) {a : Addr} (h : s.heap.objs.size <= a) : a ∉ X.fs := fun hb => by
  obtain ⟨_, o, ho, _⟩ := I.ok.Bu.mem hb
  exact absurd (Nat.lt_of_lt_of_le (Heap.lt_size ho) (Nat.le_trans I.sz h)) (Nat.lt_irrefl _)
theorem Inv.cne (I : Inv X pins σ H s) : ∀ x c, X.env.cells.lookup x = some c -> c ≠ X.env.locals := fun x c e z => by
  obtain ⟨v, o, ho, hd⟩ := I.cell x c e
  obtain ⟨m, ⟨o', es, ep, ho', hd', _⟩, _⟩ := I.loc
  rw [z, ho'] at ho; cases ho; rw [hd'] at hd; cases hd
theorem Inv.Bu (I : Inv X pins σ H s) : s.heap.FunFrames X.base X.outer := by
  have all : ∀ (l : List Env), (∀ b ∈ frs l, b ∈ X.fs) -> X.s₀.heap.FunFrames X.base l -> s.heap.FunFrames X.base l := by
    intro l
    induction l with
    | nil => intro _ _; trivial
    | cons env r ih =>
      intro hs hl
      obtain ⟨hk, ⟨L, o, hf, hn, ho, hd⟩, hr⟩ := hl
      have hL : L ∈ X.fs := hs L (by unfold frs; rw [List.filterMap_cons, hf]; exact List.mem_cons_self)
      obtain ⟨sl, e⟩ := I.base.slot L o ho (I.ok.frf L hL) hL fun z => I.ok.exfs L z hL
      exact ⟨hk, ⟨L, _, hf, hn, e, hd⟩, ih (fun b hb => hs b (by unfold frs; rw [List.filterMap_cons, hf]; exact List.mem_cons_of_mem _ hb)) hr⟩
  exact all X.outer (fun _ hb => hb) I.ok.Bu
theorem Inv.stack (I : Inv X pins σ H s) : s.heap.FunFrames X.base X.stack := by
  rcases I.ok.stk with e | ⟨e, hf⟩
  · rw [e]; exact I.Bu
  · rw [e]
    obtain ⟨m, hn, _⟩ := I.loc
    refine .cons (by rw [I.ok.kind]; decide) hf hn ?_ I.Bu
    exact Heap.get?_none_of_le (Nat.le_trans I.ok.bsz I.ok.above)
theorem Inv.x9 (I : Inv X pins σ H s) : ∀ b ∈ frs X.stack, b ∈ X.env.locals :: X.fs := fun b hb => by
  rcases I.ok.stk with e | ⟨e, hf⟩
  · rw [e] at hb; exact List.mem_cons_of_mem _ hb
  · rw [e] at hb
    unfold frs at hb
    rw [List.filterMap_cons, hf] at hb
    exact hb
theorem Inv.BA (I : Inv X pins σ H s) : ∀ b ∈ frs X.stack, H b = none := fun b hb => by
  rcases List.mem_cons.mp (I.x9 b hb) with e | hb
  · rw [e]; exact I.free
  · obtain ⟨_, o, ho, _⟩ := I.ok.Bu.mem hb
    exact I.base.free b o ho (I.ok.frf b hb) fun z => I.ok.exfs b z hb
theorem Inv.step {g' : Array GenState} {t' : Nat} {d' : Drawn} {ch : List Addr} (I : Inv X pins σ H s)
    (hch : ∀ b ∈ ch, (b ∈ X.ex \/ X.s₀.heap.objs.size <= b) /\ b ≠ X.env.locals /\ (∀ x c, X.env.cells.lookup x = some c -> c ≠ b) /\ ∀ p ∈ X.pn ++ pins, p.1 ≠ b)
    (keep : ∀ b o, b ≠ X.env.locals -> b ∉ X.fs -> b ∉ ch -> s.heap.get? b = some o -> H b = none -> h'.get? b = some o)
    (slot : ∀ b o, b ≠ X.env.locals -> b ∈ X.fs -> b ∉ ch -> s.heap.get? b = some o -> H b = none -> ∃ sl, h'.get? b = some { o with slots := sl }) (free : ∀ b o, b ∉ ch -> s.heap.get? b = some o -> H b = none -> H' b = none)
    (there : ∀ b o, b ∉ ch -> s.heap.get? b = some o -> ∃ o', h'.get? b = some o')
    (tups : ∀ b xs, H b = some (.tup xs) -> H' b = some (.tup xs)) (frzs : ∀ b o u, H b = some (.frz o u) -> H' b = some (.frz o u)) (tbls : ∀ b ps, H b = some (.tbl ps) -> ∃ more, H' b = some (.tbl (ps ++ more)))
    (ns : ∀ m, s.heap.Ns X.env.locals m -> h'.Ns X.env.locals m) (hok : HOk X.prog X.w H' h') (hg : AllBare g') :
    Inv X pins σ H' { s with heap := h', gens := g', drawn := d', toks := t' } := by
  have neL : ∀ b o, X.s₀.heap.get? b = some o -> b ≠ X.env.locals := fun b o e => Nat.ne_of_lt (Nat.lt_of_lt_of_le (Heap.lt_size e) I.ok.above)
  have neC : ∀ b o, X.s₀.heap.get? b = some o -> b ∉ X.ex -> b ∉ ch := fun b o e hx hb => by
    rcases (hch b hb).1 with z | z
    · exact hx z
    · exact absurd (Nat.lt_of_lt_of_le (Heap.lt_size e) z) (Nat.lt_irrefl _)
  have cellK : ∀ x c, X.env.cells.lookup x = some c -> ∀ v, s.heap.IsCell c v -> h'.IsCell c v := fun x c e v ⟨o, ho, hd⟩ => by
    have nch : c ∉ ch := fun z => (hch c z).2.2.1 x c e rfl
    by_cases hc : c ∈ X.fs
    · obtain ⟨sl, q⟩ := slot c o (I.cne x c e) hc nch ho (I.freeC x c e)
      exact ⟨_, q, hd⟩
    · exact ⟨o, keep c o (I.cne x c e) hc nch ho (I.freeC x c e), hd⟩
  refine ⟨I.ok, I.os, hg, ⟨fun b o e n hb hx => ?_, fun b o e n hb hx => ?_, fun b o e n hx => ?_, fun b o e hx => ?_, fun b xs e => tups b xs (I.base.tups b xs e), fun b o xs e => frzs b o xs (I.base.frzs b o xs e), fun b ps e => ?_⟩, ?_, fun x c e => ?_, ?_, fun x c e => ?_, fun p hp => ?_, hok, I.len⟩
  · exact keep b o (neL b o e) hb (neC b o e hx) (I.base.keep b o e n hb hx) (I.base.free b o e n hx)
  · obtain ⟨sl, e1⟩ := I.base.slot b o e n hb hx
    obtain ⟨sl', e2⟩ := slot b _ (neL b o e) hb (neC b o e hx) e1 (I.base.free b o e n hx)
    exact ⟨sl', e2⟩
  · obtain ⟨o', e1⟩ := I.base.there b o e hx
    exact free b o' (neC b o e hx) e1 (I.base.free b o e n hx)
  · obtain ⟨o', e1⟩ := I.base.there b o e hx
    exact there b o' (neC b o e hx) e1
  · obtain ⟨m1, e1⟩ := I.base.tbls b ps e
    obtain ⟨m2, e2⟩ := tbls b _ e1
    exact ⟨m1 ++ m2, by rw [e2, Array.append_assoc]⟩
  · obtain ⟨m, hn, hl⟩ := I.loc
    refine ⟨m, ns m hn, fun i x v e1 e2 e3 => ?_⟩
    obtain ⟨u, r, l⟩ := hl i x v e1 e2 e3
    refine ⟨u, r, ?_⟩
    rcases l with l | ⟨k, c, e, z⟩
    · exact .inl l
    · exact .inr ⟨k, c, e, cellK x c e _ z⟩
  · obtain ⟨v, z⟩ := I.cell x c e
    exact ⟨v, cellK x c e v z⟩
  · obtain ⟨m, ⟨o, _, _, ho, _⟩, _⟩ := I.loc
    exact free _ o (fun z => (hch _ z).2.1 rfl) ho I.free
  · obtain ⟨v, o, ho, hd⟩ := I.cell x c e
    exact free c o (fun z => (hch c z).2.2.1 x c e rfl) ho (I.freeC x c e)
  · obtain ⟨e, n, ne, nf, d⟩ := I.pin p hp
    have nch : p.1 ∉ ch := fun z => (hch p.1 z).2.2.2 p hp rfl
    exact ⟨keep p.1 p.2 ne nf nch e n, free p.1 p.2 nch e n, ne, nf, d⟩
theorem Inv.un {t' : Nat} (I : Inv X pins σ H s) (u : Un X.fs [] H H' s.heap h') (hok : HOk X.prog X.w H' h') : Inv X pins σ H' { s with heap := h', toks := t' } := by
  obtain ⟨m, ⟨o, es, ep, ho, r⟩, _⟩ := id I.loc
  obtain ⟨sl, hL⟩ := u.any ho I.free (by simp)
  exact I.step (g' := s.gens) (d' := s.drawn) (ch := []) (fun _ z => nomatch z) (fun b o _ hb _ e n => u.keep b o e n hb (by simp)) (fun b o _ hb _ e n => u.slot b o e n hb (by simp)) (fun b o _ e n => u.free b o e n (by simp)) (fun b o _ e => u.there b o e (by simp)) u.tups u.frzs u.tbls (fun m' hm => by
    obtain ⟨o', es', ep', ho', r'⟩ := hm
    rw [ho] at ho'; cases ho'
    exact ⟨_, es', ep', hL, r'⟩) hok I.bare
theorem Inv.call {g' : Array GenState} {t' : Nat} {d' : Drawn} {ch : List Addr} (I : Inv X pins σ H s) (u : Un (frs X.stack) ch H H' s.heap h') (hok : HOk X.prog X.w H' h') (hg : AllBare g')
    (hch : ∀ b ∈ ch, (b ∈ X.ex \/ X.s₀.heap.objs.size <= b) /\ b ≠ X.env.locals /\ (∀ x c, X.env.cells.lookup x = some c -> c ≠ b) /\ ∀ p ∈ X.pn ++ pins, p.1 ≠ b) :
    Inv X pins σ H' { s with heap := h', gens := g', drawn := d', toks := t' } := by
  obtain ⟨m, ⟨o, es, ep, ho, r⟩, _⟩ := id I.loc
  obtain ⟨sl, hL⟩ := u.any ho I.free fun z => (hch _ z).2.1 rfl
  exact I.step (ch := ch) hch (fun b o hL hb hc e n => u.keep b o e n (fun z => (List.mem_cons.mp (I.x9 b z)).elim hL hb) hc) (fun b o _ _ hc e n => u.any e n hc) (fun b o hc e n => u.free b o e n hc) (fun b o hc e => u.there b o e hc) u.tups u.frzs u.tbls (fun m' hm => by
    obtain ⟨o', es', ep', ho', r'⟩ := hm
    rw [ho] at ho'; cases ho'
    exact ⟨_, es', ep', hL, r'⟩) hok hg
theorem Inv.turned {t' : Nat} {it : Addr} (I : Inv X pins σ H s) (k : ∀ b o, b ≠ it -> s.heap.get? b = some o -> h'.get? b = some o) (hn : H it = none) (hL : it ≠ X.env.locals)
    (h1 : it ∈ X.ex \/ X.s₀.heap.objs.size <= it) (h2 : ∀ x c, X.env.cells.lookup x = some c -> c ≠ it) (h3 : ∀ p ∈ X.pn ++ pins, p.1 ≠ it) : Inv X pins σ H { s with heap := h', toks := t' } := by
  have nit : ∀ b u, H b = some u -> b ≠ it := fun b u e z => by rw [z, hn] at e; cases e
  refine I.step (g' := s.gens) (d' := s.drawn) (ch := [it]) (fun b hb => ?_) (fun b o _ _ hc e _ => k b o (fun z => hc (by simp [z])) e) (fun b o _ _ hc e _ => ⟨o.slots, k b o (fun z => hc (by simp [z])) e⟩) (fun _ _ _ _ n => n)
    (fun b o hc e => ⟨o, k b o (fun z => hc (by simp [z])) e⟩) (fun _ _ e => e) (fun _ _ _ e => e) (fun b ps e => ⟨#[], by rw [e]; simp⟩) (fun m hm => ?_) (fun b u e => ?_) I.bare
  · have e : b = it := by simpa using hb
    subst e
    exact ⟨h1, hL, h2, h3⟩
  · obtain ⟨o, es, ep, ho, r⟩ := hm
    exact ⟨o, es, ep, k _ o (Ne.symm hL) ho, r⟩
  · refine (I.hok b u e).stay (fun c v hc q => k c v ?_ q) (fun _ q => q) fun _ _ q => q
    rcases hc with z | z
    · rw [z]; exact nit b u e
    · exact nit c _ z
theorem Inv.tok (I : Inv X pins σ H s) (t : Nat) : Inv X pins σ H { s with toks := t } := I.un (h' := s.heap) (t' := t) Un.refl I.hok
theorem Inv.kept {t' : Nat} (I : Inv X pins σ H s) (k : ∀ b u, s.heap.get? b = some u -> h'.get? b = some u) : Inv X pins σ H { s with heap := h', toks := t' } := I.un (Un.kept k) (I.hok.kept k)
theorem Inv.laid {a : Addr} {o : HO} {t' : Nat} (I : Inv X pins σ H s) (k : ∀ b u, s.heap.get? b = some u -> h'.get? b = some u) (hp : s.heap.objs.size <= a) (new : jc X.prog X.w (upd H a o) h' a o) :
    Inv X pins σ (upd H a o) { s with heap := h', toks := t' } := I.un (Un.laid k hp (I.hok.fresh hp)) (I.hok.laid k hp new)
theorem Inv.write {x e : Addr} {o : HO} {t' : Nat} (I : Inv X pins σ H s) (mu : Mut (H x)) (he : e = x \/ H e = some (.own x)) (k : ∀ b u, b ≠ e -> s.heap.get? b = some u -> h'.get? b = some u) (heo : ∃ u, h'.get? e = some u)
    (new : jc X.prog X.w (upd H x o) h' x o) : Inv X pins σ (upd H x o) { s with heap := h', toks := t' } := I.un (Un.write mu he k heo) (I.hok.write mu he k heo new)
theorem Inv.weak {σ' : List (Option V)} (I : Inv X pins σ H s) (hl : σ'.length = σ.length) (w : ∀ (i : Nat) v, σ'[i]? = some (some v) -> σ[i]? = some (some v)) : Inv X pins σ' H s :=
  ⟨I.ok, I.os, I.bare, I.base, let ⟨m, hn, hl'⟩ := I.loc; ⟨m, hn, fun i x v e1 e2 e3 => hl' i x v e1 (w i v e2) e3⟩, I.cell, I.free, I.freeC, I.pin, I.hok, hl.trans I.len⟩
theorem Inv.vj {pins' : List (Addr × Obj)} (I : Inv X pins σ H s) (h : ∀ p ∈ pins', s.heap.get? p.1 = some p.2 /\ H p.1 = none /\ p.1 ≠ X.env.locals /\ p.1 ∉ X.fs /\ ∀ v, p.2.data ≠ .cell v) : Inv X pins' σ H s :=
  ⟨I.ok, I.os, I.bare, I.base, I.loc, I.cell, I.free, I.freeC, fun p hp => (List.mem_append.mp hp).elim (fun z => I.pin p (List.mem_append_left _ z)) (h p), I.hok, I.len⟩
theorem Ao {N : List Str} (hN : N.Nodup) {i j : Nat} {x : Str} (a : N[i]? = some x) (b : N[j]? = some x) : i = j := by
  obtain ⟨h1, e1⟩ := List.getElem?_eq_some_iff.mp a
  obtain ⟨h2, e2⟩ := List.getElem?_eq_some_iff.mp b
  exact (List.getElem_inj hN).mp (e1.trans e2.symm)
theorem x6 {M : Model} {A : Around} {E : Value -> Shared -> Prop} {i : Nat} {x : Str} {v : V} {u : Value} {Q : Unit -> Shared -> Prop} (I : Inv X pins σ H s) (hN : X.N.Nodup) (hi : X.N[i]? = some x) (hx : Loc X.env.scope x) (r : RelV v u)
    (h : ∀ s', Inv X pins (σ.set i (some v)) H s' -> (∃ a, Heap.SameBut a s.heap s'.heap /\ (a = X.env.locals \/ X.env.cells.lookup x = some a)) -> Q () s') (hf : X.fn x = true \/ X.env.scope.names.lookup x = some .local := by first | exact .inl rfl | exact .inr rfl | assumption) : wpAny M A (storeName X.env x u) Q E s := by
  obtain ⟨m, hn, hl⟩ := id I.loc
  have hcls : (X.env.scope.kind == .class || (X.env.scope.kind == .module && X.env.locals != X.env.globals)) = false := by rw [I.ok.kind]; rfl
  have hiσ : i < σ.length := by rw [I.len]; exact (List.getElem?_eq_some_iff.mp hi).1
  have cne := I.cne
  have tracked : ∀ {a : Addr} {h' : Heap}, (∃ o, s.heap.get? a = some o /\ H a = none) -> Heap.SameBut a s.heap h' -> HOk X.prog X.w H h' := fun {a h'} ha hs b ob e => by
    obtain ⟨_, _, hfree⟩ := ha
    refine (I.hok b ob e).stay (fun c w' hc q => (hs.2 c ?_).trans q) (fun _ q => q) fun _ _ q => q
    rintro rfl
    rcases hc with rfl | hc
    · rw [hfree] at e; cases e
    · rw [hfree] at hc; cases hc
  rcases hx with hk | hk
  · refine wpAny_storeName_local hk hn (fun h' hn' hs => ?_) hcls
    obtain ⟨oL, _, _, hoL, _⟩ := id hn
    refine h _ ⟨I.ok, I.os, I.bare, ⟨fun b o e n hb hx => ?_, fun b o e n hb hx => ?_, I.base.free, fun b o e hx => ?_, I.base.tups, I.base.frzs, I.base.tbls⟩, ⟨_, hn', fun j y v' e1 e2 e3 => ?_⟩, fun y c e => ?_, I.free, I.freeC, fun p hp => ?_, tracked ⟨oL, hoL, I.free⟩ hs, by simpa using I.len⟩ ⟨_, hs, .inl rfl⟩
    · exact (hs.2 b (Nat.ne_of_lt (Nat.lt_of_lt_of_le (Heap.lt_size e) I.ok.above))).trans (I.base.keep b o e n hb hx)
    · obtain ⟨sl, e1⟩ := I.base.slot b o e n hb hx
      exact ⟨sl, (hs.2 b (Nat.ne_of_lt (Nat.lt_of_lt_of_le (Heap.lt_size e) I.ok.above))).trans e1⟩
    · obtain ⟨o', e1⟩ := I.base.there b o e hx
      exact ⟨o', (hs.2 b (Nat.ne_of_lt (Nat.lt_of_lt_of_le (Heap.lt_size e) I.ok.above))).trans e1⟩
    · by_cases hj : j = i
      · subst hj
        rw [hi] at e1; cases e1
        rw [List.getElem?_set_self hiσ] at e2
        cases e2
        exact ⟨u, r, .inl ⟨hk, by simp⟩⟩
      · rw [List.getElem?_set_ne (Ne.symm hj)] at e2
        obtain ⟨u', r', q⟩ := hl j y v' e1 e2 e3
        refine ⟨u', r', ?_⟩
        rcases q with ⟨k, e⟩ | ⟨k, c, e, z⟩
        · refine .inl ⟨k, ?_⟩
          have : y ≠ x := fun e => hj (Ao hN e1 (e ▸ hi))
          simp [this, e]
        · exact .inr ⟨k, c, e, z.sameBut hs (cne y c e)⟩
    · obtain ⟨w', z⟩ := I.cell y c e
      exact ⟨w', z.sameBut hs (cne y c e)⟩
    · obtain ⟨e, n, ne, nf, d⟩ := I.pin p hp
      exact ⟨(hs.2 p.1 ne).trans e, n, ne, nf, d⟩
  · have hfn : X.fn x = true := by
      rcases hf with z | z
      · exact z
      · rw [z] at hk; cases hk
    obtain ⟨c, hc⟩ := I.ok.has x (.inl hk)
    obtain ⟨w', z⟩ := I.cell x c hc
    refine wpAny_storeName_cell I.ok.kind hk hc z (fun h' hc' hs => ?_)
    obtain ⟨oc, hoc, hocd⟩ := id z
    refine h { s with heap := h' } ⟨I.ok, I.os, I.bare, ⟨fun b o e n hb hx => ?_, fun b o e n hb hx => ?_, I.base.free, fun b o e hx => ?_, I.base.tups, I.base.frzs, I.base.tbls⟩, ⟨m, hn.sameBut hs (Ne.symm (cne x c hc)), fun j y v' e1 e2 e3 => ?_⟩, fun y c' e => ?_, I.free, I.freeC, fun p hp => ?_, tracked ⟨oc, hoc, I.freeC x c hc⟩ hs, by simpa using I.len⟩ ⟨c, hs, .inr hc⟩
    · exact (hs.2 b (Nat.ne_of_lt (Nat.lt_of_lt_of_le (Heap.lt_size e) (I.ok.cab x c hfn hc)))).trans (I.base.keep b o e n hb hx)
    · obtain ⟨sl, e1⟩ := I.base.slot b o e n hb hx
      exact ⟨sl, (hs.2 b (Nat.ne_of_lt (Nat.lt_of_lt_of_le (Heap.lt_size e) (I.ok.cab x c hfn hc)))).trans e1⟩
    · obtain ⟨o', e1⟩ := I.base.there b o e hx
      exact ⟨o', (hs.2 b (Nat.ne_of_lt (Nat.lt_of_lt_of_le (Heap.lt_size e) (I.ok.cab x c hfn hc)))).trans e1⟩
    · by_cases hj : j = i
      · subst hj
        rw [hi] at e1; cases e1
        rw [List.getElem?_set_self hiσ] at e2
        cases e2
        exact ⟨u, r, .inr ⟨.inl hk, c, hc, hc'⟩⟩
      · rw [List.getElem?_set_ne (Ne.symm hj)] at e2
        obtain ⟨u', r', q⟩ := hl j y v' e1 e2 e3
        refine ⟨u', r', ?_⟩
        rcases q with q | ⟨k, c', e, z'⟩
        · exact .inl q
        · refine .inr ⟨k, c', e, z'.sameBut hs ?_⟩
          rintro rfl
          exact hj (Ao hN e1 (I.ok.inj _ _ _ e hc ▸ hi))
    · by_cases hcc : c' = c
      · subst hcc; exact ⟨_, hc'⟩
      · obtain ⟨w2, z2⟩ := I.cell y c' e
        exact ⟨w2, z2.sameBut hs hcc⟩
    · obtain ⟨e, n, ne, nf, d⟩ := I.pin p hp
      refine ⟨(hs.2 p.1 ?_).trans e, n, ne, nf, d⟩
      intro q
      rw [q, hoc] at e
      have q' : oc = p.2 := Option.some.inj e
      exact d w' (by rw [<- q']; exact hocd)
theorem Ac {M : Model} {A : Around} {E : Value -> Shared -> Prop} {i : Nat} {x : Str} {v : V} {u : Value} {Q : Unit -> Shared -> Prop} (I : Inv X pins σ H s) (hN : X.N.Nodup) (hi : X.N[i]? = some x) (hx : Loc X.env.scope x) (r : RelV v u)
    (h : ∀ s', Inv X pins (σ.set i (some v)) H s' -> Q () s') (hf : X.fn x = true \/ X.env.scope.names.lookup x = some .local := by first | exact .inl rfl | exact .inr rfl | assumption) : wpAny M A (storeName X.env x u) Q E s :=
  x6 I hN hi hx r (fun s' I' _ => h s' I') hf
theorem Inv.call' {s' : Shared} {ch : List Addr} (I : Inv X pins σ H s) (ho : s'.os = s.os) (u : Un (frs X.stack) ch H H' s.heap s'.heap) (hok : HOk X.prog X.w H' s'.heap) (hg : AllBare s'.gens)
    (hch : ∀ b ∈ ch, (b ∈ X.ex \/ X.s₀.heap.objs.size <= b) /\ b ≠ X.env.locals /\ (∀ x c, X.env.cells.lookup x = some c -> c ≠ b) /\ ∀ p ∈ X.pn ++ pins, p.1 ≠ b) : Inv X pins σ H' s' := by
  obtain ⟨h', g', d', t', o'⟩ := s'
  have e : o' = s.os := ho
  subst e
  exact I.call (g' := g') (t' := t') (d' := d') u hok hg hch
end
noncomputable abbrev XK := Value -> Option Addr -> Hp -> Prop
noncomputable abbrev St := List (Option V)
noncomputable abbrev VK := V -> Hp -> Prop
noncomputable abbrev TE := St -> Hp -> VK -> Prop
noncomputable abbrev TT := St -> Hp -> (Bool -> Hp -> Prop) -> Prop
noncomputable abbrev TA := St -> Hp -> (List V -> Hp -> Prop) -> Prop
structure Ends where
  nx : St -> Hp -> Prop
  rt : VK
  bk : St -> Hp -> Prop := fun _ _ => False
  ct : St -> Hp -> Prop := fun _ _ => False
noncomputable abbrev TS := Ends -> St -> Hp -> Prop
noncomputable def EP (X : Cx) (pins : List (Addr × Obj)) (σ : St) (Q : VK) (u : Value) (s' : Shared) : Prop := ∃ v H', Inv X pins σ H' s' /\ RelV v u /\ Q v H'
noncomputable def TP (X : Cx) (pins : List (Addr × Obj)) (σ : St) (Q : Bool -> Hp -> Prop) (b : Bool) (s' : Shared) : Prop := ∃ H', Inv X pins σ H' s' /\ Q b H'
noncomputable def AP (X : Cx) (pins : List (Addr × Obj)) (σ : St) (Q : List V -> Hp -> Prop) (us : List Value) (s' : Shared) : Prop := ∃ vs H', Inv X pins σ H' s' /\ Vals vs us /\ Q vs H'
noncomputable def SP (X : Cx) (pins : List (Addr × Obj)) (D : Ends) (f : Flow) (s' : Shared) : Prop :=
  match f with
  | .next => ∃ σ' H', Inv X pins σ' H' s' /\ D.nx σ' H'
  | .brk => ∃ σ' H', Inv X pins σ' H' s' /\ D.bk σ' H'
  | .cont => ∃ σ' H', Inv X pins σ' H' s' /\ D.ct σ' H'
  | .ret u => ∃ v σ' H', Inv X pins σ' H' s' /\ RelV v u /\ D.rt v H'
noncomputable def PE (X : Cx) (e : Expr) (t : TE) : Prop :=
  ∀ (pins : List (Addr × Obj)) (s : Shared) (σ : St) (H : Hp) (Q : VK), Inv X pins σ H s -> t σ H Q -> wpAny (model X.prog X.w) X.A (eval e X.env) (EP X pins σ Q) X.xe s
noncomputable def PT (X : Cx) (e : Expr) (t : TT) : Prop :=
  ∀ (pins : List (Addr × Obj)) (s : Shared) (σ : St) (H : Hp) (Q : Bool -> Hp -> Prop), Inv X pins σ H s -> t σ H Q -> wpAny (model X.prog X.w) X.A (isTrue e X.env (eval e X.env)) (TP X pins σ Q) X.xe s
noncomputable def PW (X : Cx) (e : Expr) (t : TT) : Prop :=
  ∀ (whole : Sem Value) (pins : List (Addr × Obj)) (s : Shared) (σ : St) (H : Hp) (Q : Bool -> Hp -> Prop), Inv X pins σ H s -> t σ H Q -> wpAny (model X.prog X.w) X.A (isTrue e X.env whole) (TP X pins σ Q) X.xe s
theorem PW.pt {X : Cx} {e : Expr} {t : TT} (h : PW X e t) : PT X e t := h _
noncomputable def PA (X : Cx) (es : List Expr) (t : TA) : Prop :=
  ∀ (pos : Pos) (pins : List (Addr × Obj)) (s : Shared) (σ : St) (H : Hp) (Q : List V -> Hp -> Prop), Inv X pins σ H s -> t σ H Q -> wpAny (model X.prog X.w) X.A (spliced (backTo pos (starEach es X.env))) (AP X pins σ Q) X.xe s
noncomputable def PS (X : Cx) (st : Stmt) (t : TS) : Prop :=
  ∀ (pins : List (Addr × Obj)) (s : Shared) (σ : St) (H : Hp) (D : Ends), Inv X pins σ H s -> t D σ H -> wpAny (model X.prog X.w) X.A (exec st X.env) (SP X pins D) X.xe s
noncomputable def PSs (X : Cx) (st : List Stmt) (t : TS) : Prop :=
  ∀ (pins : List (Addr × Obj)) (s : Shared) (σ : St) (H : Hp) (D : Ends), Inv X pins σ H s -> t D σ H -> wpAny (model X.prog X.w) X.A (execs st X.env) (SP X pins D) X.xe s
theorem thn {α : Type} {t : Sem α} {Q Q' : α -> Shared -> Prop} {M : Model} {A : Around} {E : Value -> Shared -> Prop} {s : Shared} (h : wpAny M A t Q E s) (hQ : ∀ a s, Q a s -> Q' a s) : wpAny M A t Q' E s := wpAny_mono h hQ fun _ _ x => x
end L2
namespace L2
open PySem PySem.Spec PyProof.Rows
section
variable {X : Cx}
noncomputable def By (i : Nat) : TE := fun σ H Q => ∃ v, σ[i]? = some (some v) /\ Q v H
noncomputable def tC (v : V) : TE := fun _ H Q => Q v H
theorem pe_var {i : Nat} {x : Str} {pos : Pos} (hN : X.N[i]? = some x) (hv : Vis X.env.scope x) (hd : (x == ("__debug__" : Str)) = false := by decide) (hcd : (x == ("__classdict__" : Str)) = false := by decide) : PE X (.Name x pos) (By i) := by
  intro pins s σ H Q I h
  obtain ⟨v, e, h⟩ := h
  obtain ⟨m, hn, hl⟩ := I.loc
  obtain ⟨u, r, l⟩ := hl i x v hN e hv
  have fin : EP X pins σ Q u s := ⟨v, H, I, r, h⟩
  rcases l with ⟨hk, hm⟩ | ⟨hk, c, hc, hcell⟩
  · exact wpAny_Name (wpAny_loadName_local I.ok.kind hk hn hm fin) hd
  · rcases hk with hk | hk
    · exact wpAny_Name (wpAny_loadName_cell I.ok.kind hk hc hcell fin) hd
    · exact wpAny_Name (wpAny_loadName_free I.ok.kind hk hc hcell fin hcd) hd
theorem pe_int {i j pos} : PE X (.Constant (.int i) j pos) (tC (.int i)) := fun _ _ _ H _ I h => wpAny_Constant_int ⟨.int i, H, I.tok _, ⟨_, rfl⟩, h⟩
theorem pe_bl {b j pos} : PE X (.Constant (.bool b) j pos) (tC (.bl b)) := fun _ _ _ H _ I h => Constant_bool ⟨.bl b, H, I, rfl, h⟩
theorem pe_non {j pos} : PE X (.Constant .none j pos) (tC .non) := fun _ _ _ H _ I h => Constant_none ⟨.non, H, I, rfl, h⟩
noncomputable def Gl (X : Cx) (x : Str) : Prop := X.env.kindOf x = some .globalImplicit
theorem vH {E : Value -> Shared -> Prop} {pins : List (Addr × Obj)} {s : Shared} {σ : St} {H : Hp} {x : Str} {u : Value} {pos : Pos} {Q : Value -> Shared -> Prop} (I : Inv X pins σ H s) (hg : Gl X x) (hm : X.mg x = some u) (h : Q u s)
    (hd : (x == ("__debug__" : Str)) = false := by decide) : wpAny (model X.prog X.w) X.A (eval (.Name x pos) X.env) Q E s :=
  Calls.Name_function_global I.ok.kind hg (Calls.loadGlobal_global (by rw [I.ok.glob]; exact I.mod.glob.keeps I.bk) hm h) hd
theorem sm {E : Value -> Shared -> Prop} {pins : List (Addr × Obj)} {s : Shared} {σ : St} {H : Hp} {x : Str} {u : Value} {pos : Pos} {Q : Value -> Shared -> Prop} (I : Inv X pins σ H s) (hg : Gl X x) (hm : X.mg x = none) (hv : bootBuiltins x = some u) (h : Q u s)
    (hn : x ≠ "__name__" := by decide) (hd : (x == ("__debug__" : Str)) = false := by decide) : wpAny (model X.prog X.w) X.A (eval (.Name x pos) X.env) Q E s := by
  obtain ⟨mb, h1, h2⟩ := I.mod.blt
  exact Calls.Name_function_global I.ok.kind hg (Calls.loadGlobal_builtin (by rw [I.ok.glob]; exact I.mod.glob.keeps I.bk) hm (by rw [I.ok.blt]; exact h1.keeps I.bk) ((h2 x hn).trans hv) h) hd
theorem pe_glob {x : Str} {v : V} {u : Value} {pos : Pos} (hg : Gl X x) (hm : X.mg x = some u) (r : RelV v u) (hd : (x == ("__debug__" : Str)) = false := by decide) : PE X (.Name x pos) (tC v) :=
  fun _ _ _ H _ I h => vH I hg hm ⟨v, H, I, r, h⟩ hd
theorem pe_bltn {x : Str} {v : V} {u : Value} {pos : Pos} (hg : Gl X x) (hm : X.mg x = none) (hv : bootBuiltins x = some u) (r : RelV v u) (hn : x ≠ "__name__" := by decide) (hd : (x == ("__debug__" : Str)) = false := by decide) : PE X (.Name x pos) (tC v) :=
  fun _ _ _ H _ I h => sm I hg hm hv ⟨v, H, I, r, h⟩ hn hd
variable {a b : Expr} {ta tb : TE} {pos : Pos}
variable {tA tB' : TT} {rest : List Expr}
noncomputable def tAnd (t u : TT) : TT := fun σ H Q => t σ H fun c H1 => if c = true then u σ H1 Q else Q false H1
noncomputable def tOr (t u : TT) : TT := fun σ H Q => t σ H fun c H1 => if c = true then Q true H1 else u σ H1 Q
noncomputable def tNot (t : TT) : TT := fun σ H Q => t σ H fun c H1 => Q (!c) H1
theorem pw_and1 (ha : PT X a tA) : PW X (.BoolOp .And [a] pos) tA := by
  intro wh pins s σ H Q I h
  refine isTrue_and (thn (ha pins s σ H Q I h) fun c s1 e => ?_)
  cases c with
  | true => exact isTrue_and_nil e
  | false => exact e
theorem pw_or1 (ha : PT X a tA) : PW X (.BoolOp .Or [a] pos) tA := by
  intro wh pins s σ H Q I h
  refine isTrue_or (thn (ha pins s σ H Q I h) fun c s1 e => ?_)
  cases c with
  | false => exact isTrue_or_nil e
  | true => exact e
theorem pw_and (ha : PT X a tA) (hb : PW X (.BoolOp .And (b :: rest) pos) tB') : PW X (.BoolOp .And (a :: b :: rest) pos) (tAnd tA tB') := by
  intro wh pins s σ H Q I h
  refine isTrue_and (thn (ha pins s σ H _ I h) fun c s1 ⟨H1, I1, q1⟩ => ?_)
  cases c with
  | true => exact hb wh pins s1 σ H1 Q I1 q1
  | false => exact ⟨H1, I1, q1⟩
theorem pw_or (ha : PT X a tA) (hb : PW X (.BoolOp .Or (b :: rest) pos) tB') : PW X (.BoolOp .Or (a :: b :: rest) pos) (tOr tA tB') := by
  intro wh pins s σ H Q I h
  refine isTrue_or (thn (ha pins s σ H _ I h) fun c s1 ⟨H1, I1, q1⟩ => ?_)
  cases c with
  | true => exact ⟨H1, I1, q1⟩
  | false => exact hb wh pins s1 σ H1 Q I1 q1
theorem pt_not (ha : PT X a tA) : PT X (.UnaryOp .Not a pos) (tNot tA) := by
  intro pins s σ H Q I h
  exact isTrue_not (ha pins s σ H (fun c H1 => Q (!c) H1) I h)
noncomputable def tAndV (ta tb : TE) : TE := fun σ H Q => ta σ H fun x H1 => ∃ c, x = .bl c /\ if c = true then tb σ H1 Q else Q (.bl false) H1
noncomputable def tNotV (ta : TE) : TE := fun σ H Q => ta σ H fun x H1 => ∃ c, x = .bl c /\ Q (.bl (!c)) H1
theorem pe_one {op} {t : TE} (h : PE X a t) : PE X (.BoolOp op [a] pos) t := fun pins s σ H Q I hw => BoolOp_one (h pins s σ H Q I hw)
theorem pe_and (ha : PE X a ta) (hb : PE X (.BoolOp .And (b :: rest) pos) tb) : PE X (.BoolOp .And (a :: b :: rest) pos) (tAndV ta tb) := by
  intro pins s σ H Q I h
  refine BoolOp_and (thn (ha pins s σ H _ I h) fun v s1 ⟨x, H1, I1, r1, q1⟩ => ?_)
  obtain ⟨c, rfl, q1⟩ := q1
  cases r1
  refine wpAny_truthy_bool ?_
  cases c with
  | true => exact hb pins s1 σ H1 Q I1 q1
  | false => exact ⟨.bl false, H1, I1, rfl, q1⟩
theorem pe_not (ha : PE X a ta) : PE X (.UnaryOp .Not a pos) (tNotV ta) := by
  intro pins s σ H Q I h
  refine UnaryOp_ (thn (ha pins s σ H _ I h) fun v s1 ⟨x, H1, I1, r1, q1⟩ => ?_)
  obtain ⟨c, rfl, q1⟩ := q1
  cases r1
  exact not_of (wpAny_truthy_bool ⟨.bl (!c), H1, I1, rfl, q1⟩)
noncomputable def tIf (t : TT) (ta tb : TE) : TE := fun σ H Q => t σ H fun c H1 => if c = true then ta σ H1 Q else tb σ H1 Q
theorem pe_ifExp {c : Expr} (hc : PT X c tA) (ha : PE X a ta) (hb : PE X b tb) : PE X (.IfExp c a b pos) (tIf tA ta tb) := by
  intro pins s σ H Q I h
  refine wpAny_IfExp (thn (hc pins s σ H _ I h) fun d s1 ⟨H1, I1, q1⟩ => ?_)
  cases d with
  | true => exact ha pins s1 σ H1 Q I1 q1
  | false => exact hb pins s1 σ H1 Q I1 q1
end
end L2
namespace L2
open PySem PySem.Spec PyProof.Rows
noncomputable def SqL (K : PySem.W.Frag) (H : Hp) (a : Addr) (xs : List V) : Prop :=
  Rd H a (.lst xs) \/
    ∃ (o : Obj) (its : Array Value) (n : Nat), K.lookup a = some o /\ o.cls = .type "list" /\ o.dict = none /\ o.data = .seq its n /\ its.size <= sizeLine /\ Vals xs its.toList
noncomputable def SqT (K : PySem.W.Frag) (H : Hp) (a : Addr) (xs : List V) : Prop :=
  Rd H a (.tup xs) \/
    ∃ (o : Obj) (its : Array Value) (n : Nat), K.lookup a = some o /\ o.cls = .type "tuple" /\ o.data = .seq its n /\ its.size <= sizeLine /\ Vals xs its.toList
noncomputable def absV : Value -> Option V
  | .none => some .non
  | .bool b => some (.bl b)
  | .int i _ => some (.int i)
  | .str x _ => some (.str x)
  | .bytes b _ => some (.byt b)
  | .float b _ => some (.flt b)
  | .ref a => some (.ref a)
  | .type n => some (.ty n)
  | _ => none
theorem RelV.abs {x : V} {u : Value} (r : RelV x u) : absV u = some x := by
  cases x with
  | non => cases r; rfl
  | bl _ => cases r; rfl
  | int _ => obtain ⟨t, rfl⟩ := r; rfl
  | str _ => obtain ⟨t, rfl⟩ := r; rfl
  | byt _ => obtain ⟨t, rfl⟩ := r; rfl
  | flt _ => obtain ⟨t, rfl⟩ := r; rfl
  | ref _ => cases r; rfl
  | ty _ => cases r; rfl
theorem RelV.inj {x y : V} {u : Value} (r : RelV x u) (q : RelV y u) : x = y := Option.some.inj (r.abs.symm.trans q.abs)
theorem Vals.inj : ∀ {xs ys : List V} {us : List Value}, Vals xs us -> Vals ys us -> xs = ys
  | _, _, _, .nil, .nil => rfl
  | _, _, _, .cons r t, .cons r' t' => by rw [r.inj r', Vals.inj t t']
section
variable {X : Cx} {pins : List (Addr × Obj)} {σ : St} {H : Hp} {s : Shared} {a : Addr} {xs ys : List V}
theorem SqL.of {K : PySem.W.Frag} (h : H a = some (.lst xs)) : SqL K H a xs := .inl (.inl h)
theorem SqT.of {K : PySem.W.Frag} (h : H a = some (.tup xs)) : SqT K H a xs := .inl (.inl h)
theorem Inv.list (I : Inv X pins σ H s) (h : SqL X.K H a xs) : ∃ its : List Value, Vals xs its /\ PlainL s.heap a its.toArray /\ xs.length <= sizeLine := by
  rcases h with h | ⟨o, its, n, hk, hc, hd, hs, hz, r⟩
  · obtain ⟨z, its, n, r, e⟩ := h.ok I.hok
    exact ⟨its, r, ⟨_, n, e, rfl, rfl, rfl⟩, z⟩
  · refine ⟨its.toList, r, ⟨o, n, I.kIn a o hk, hc, hd, by simpa using hs⟩, ?_⟩
    have e := r.length
    simp only [Array.length_toList] at e
    omega
theorem Inv.tuple (I : Inv X pins σ H s) (h : SqT X.K H a xs) : ∃ its : List Value, Vals xs its /\ IsTup s.heap a its.toArray /\ xs.length <= sizeLine := by
  rcases h with h | ⟨o, its, n, hk, hc, hs, hz, r⟩
  · obtain ⟨z, its, r, p⟩ := h.ok I.hok
    exact ⟨its, r, p, z⟩
  · refine ⟨its.toList, r, ⟨o, I.kIn a o hk, hc, n, by simpa using hs⟩, ?_⟩
    have e := r.length
    simp only [Array.length_toList] at e
    omega
theorem Inv.rG (I : Inv X pins σ H s) (h : SqL X.K H a xs) (h' : SqL X.K H a ys) : xs = ys := by
  obtain ⟨its, r, ⟨o, n, e, _, _, d⟩, _⟩ := I.list h
  obtain ⟨its', r', ⟨o', n', e', _, _, d'⟩, _⟩ := I.list h'
  rw [e] at e'; cases e'
  rw [d] at d'
  injection d' with d1 _
  have : its = its' := by simpa using congrArg Array.toList d1
  subst this
  exact r.inj r'
theorem Inv.wZ (I : Inv X pins σ H s) (h : SqT X.K H a xs) (h' : SqT X.K H a ys) : xs = ys := by
  obtain ⟨its, r, ⟨o, e, _, n, d⟩, _⟩ := I.tuple h
  obtain ⟨its', r', ⟨o', e', _, n', d'⟩, _⟩ := I.tuple h'
  rw [e] at e'; cases e'
  rw [d] at d'
  injection d' with d1 _
  have : its = its' := by simpa using congrArg Array.toList d1
  subst this
  exact r.inj r'
end
noncomputable abbrev Cx.wish (X : Cx) (E : Value -> Shared -> Prop) : Cx := { X with xe := E }
noncomputable abbrev Cx.nox (X : Cx) : Cx := X.wish fun _ _ => False
theorem Cx.Ok.wish {X : Cx} (ok : X.Ok) (E : Value -> Shared -> Prop) : (X.wish E).Ok :=
  ⟨ok.mod, ok.kind, ok.glob, ok.blt, ok.above, ok.inj, ok.has, ok.cab, ok.hd, ok.frames, ok.stk, ok.exf, ok.bs, ok.bsz, ok.noex, ok.exfs, ok.Bu, ok.frf⟩
theorem Cx.Ok.qM {X : Cx} {E : Value -> Shared -> Prop} (ok : (X.wish E).Ok) : X.Ok :=
  ⟨ok.mod, ok.kind, ok.glob, ok.blt, ok.above, ok.inj, ok.has, ok.cab, ok.hd, ok.frames, ok.stk, ok.exf, ok.bs, ok.bsz, ok.noex, ok.exfs, ok.Bu, ok.frf⟩
section
variable {X : Cx} {pins : List (Addr × Obj)} {σ : St} {H : Hp} {s : Shared} {E : Value -> Shared -> Prop}
theorem Inv.wish (I : Inv X pins σ H s) (E : Value -> Shared -> Prop) : Inv (X.wish E) pins σ H s := ⟨I.ok.wish E, I.os, I.bare, I.base, I.loc, I.cell, I.free, I.freeC, I.pin, I.hok, I.len⟩
theorem Inv.qM (I : Inv (X.wish E) pins σ H s) : Inv X pins σ H s := ⟨I.ok.qM, I.os, I.bare, I.base, I.loc, I.cell, I.free, I.freeC, I.pin, I.hok, I.len⟩
theorem SP.qM {D : Ends} {f : Flow} {s' : Shared} (h : SP (X.wish E) pins D f s') : SP X pins D f s' := by
  cases f with
  | next => obtain ⟨σ', H', I, q⟩ := h; exact ⟨σ', H', I.qM, q⟩
  | brk => obtain ⟨σ', H', I, q⟩ := h; exact ⟨σ', H', I.qM, q⟩
  | cont => obtain ⟨σ', H', I, q⟩ := h; exact ⟨σ', H', I.qM, q⟩
  | ret u => obtain ⟨v, σ', H', I, r, q⟩ := h; exact ⟨v, σ', H', I.qM, r, q⟩
theorem PSs.nox {st : List Stmt} {t : TS} (h : PSs X.nox st t) : PSs X st t := fun pins s σ H D I hw =>
  wpAny_mono (h pins s σ H D (I.wish _) hw) (fun _ _ q => q.qM) fun _ _ z => False.elim z
end
section
variable {X : Cx} {st : Stmt} {rest : List Stmt} {t u : TS} {e : Expr} {te : TE} {pos : Pos}
noncomputable def tNext : TS := fun D σ H => D.nx σ H
noncomputable def tSeq (t u : TS) : TS := fun D σ H => t { D with nx := u D } σ H
theorem BL : PSs X [] tNext := fun _ _ σ H _ I h => wpAny_execs_nil ⟨σ, H, I, h⟩
theorem kn (h1 : PS X st t) (h2 : PSs X rest u) : PSs X (st :: rest) (tSeq t u) := by
  intro pins s σ H D I h
  refine wpAny_execs_cons (thn (h1 pins s σ H { D with nx := u D } I h) fun f s1 q => ?_)
  cases f with
  | next =>
    obtain ⟨σ', H', I', q⟩ := q
    exact h2 pins s1 σ' H' D I' q
  | ret v => exact q
  | brk => exact q
  | cont => exact q
theorem v9 (h1 : PS X st t) : PSs X [st] t := by
  intro pins s σ H D I h
  refine wpAny_execs_cons (thn (h1 pins s σ H D I h) fun f s1 q => ?_)
  cases f with
  | next => exact wpAny_execs_nil q
  | ret v => exact q
  | brk => exact q
  | cont => exact q
theorem Inv.quiet {pins : List (Addr × Obj)} {σ : St} {H : Hp} {s : Shared} (I : Inv X pins σ H s) : interactive X.env = false := by simp [interactive, I.ok.kind]
noncomputable def tDrop (te : TE) : TS := fun D σ H => te σ H fun _ H1 => D.nx σ H1
theorem zg (he : PE X e te) (hs : swapsWith e none pos.line X.env = pure false := by rfl) : PS X (.Expr e pos) (tDrop te) := by
  intro pins s σ H D I h
  exact wpAny_Expr_any (thn (he pins s σ H _ I h) fun v s1 ⟨x, H1, I1, r1, q1⟩ => ⟨σ, H1, I1, q1⟩) I.quiet hs
noncomputable def tRet (te : TE) : TS := fun D σ H => te σ H D.rt
theorem ps_ret (he : PE X e te) : PS X (.Return (some e) pos) (tRet te) := by
  intro pins s σ H D I h
  exact wpAny_Return_some (thn (he pins s σ H _ I h) fun v s1 ⟨x, H1, I1, r1, q1⟩ => ⟨x, σ, H1, I1, r1, q1⟩)
noncomputable def tIfS (c : TT) (t u : TS) : TS := fun D σ H => c σ H fun b H1 => if b = true then t D σ H1 else u D σ H1
theorem ps_if {c : Expr} {a b : List Stmt} {tc : TT} (hc : PT X c tc) (ha : PSs X a t) (hb : PSs X b u) : PS X (.If c a b pos) (tIfS tc t u) := by
  intro pins s σ H D I h
  refine wpAny_If (thn (hc pins s σ H _ I h) fun d s1 ⟨H1, I1, q1⟩ => ?_)
  cases d with
  | true => exact ha pins s1 σ H1 D I1 q1
  | false => exact hb pins s1 σ H1 D I1 q1
noncomputable def tNever : TS := fun _ _ _ => False
theorem BM {sts : List Stmt} : PSs X sts tNever := fun _ _ _ _ _ _ h => h.elim
end
noncomputable abbrev TG := V -> St -> Hp -> (St -> Hp -> Prop) -> Prop
noncomputable abbrev TGs := List V -> St -> Hp -> (St -> Hp -> Prop) -> Prop
noncomputable def PG (X : Cx) (target : Expr) (t : TG) : Prop :=
  ∀ (pins : List (Addr × Obj)) (s : Shared) (σ : St) (H : Hp) (v : V) (u : Value) (Q : St -> Hp -> Prop), Inv X pins σ H s -> RelV v u -> t v σ H Q ->
    wpAny (model X.prog X.w) X.A (assign target X.env u) (fun _ s' => ∃ σ' H', Inv X pins σ' H' s' /\ Q σ' H') X.xe s
noncomputable def PGs (X : Cx) (ts : List Expr) (t : TGs) : Prop :=
  ∀ (pins : List (Addr × Obj)) (s : Shared) (σ : St) (H : Hp) (vs : List V) (us : List Value) (Q : St -> Hp -> Prop), Inv X pins σ H s -> Vals vs us -> t vs σ H Q ->
    wpAny (model X.prog X.w) X.A (assignInOrder ((assignEach ts X.env).map (·.2)) us) (fun _ s' => ∃ σ' H', Inv X pins σ' H' s' /\ Q σ' H') X.xe s
noncomputable abbrev TSet := V -> V -> V -> Hp -> (Hp -> Prop) -> Prop
noncomputable def PSet (X : Cx) (t : TSet) : Prop :=
  ∀ (pins : List (Addr × Obj)) (s : Shared) (σ : St) (H : Hp) (o i v : V) (ov iv u : Value) (Q : Hp -> Prop), Inv X pins σ H s -> RelV o ov -> RelV i iv -> RelV v u -> t o i v H Q ->
    wpAny (model X.prog X.w) X.A (setItem ov iv u) (fun _ s' => ∃ H', Inv X pins σ H' s' /\ Q H') X.xe s
section
variable {X : Cx} {pos : Pos}
noncomputable def ye (i : Nat) : TG := fun v σ H Q => Q (σ.set i (some v)) H
theorem zi {i : Nat} {x : Str} (hN : X.N.Nodup) (hi : X.N[i]? = some x) (hx : Loc X.env.scope x) (hf : X.fn x = true \/ X.env.scope.names.lookup x = some .local := by first | exact .inl rfl | exact .inr rfl | assumption) : PG X (.Name x pos) (ye i) := by
  intro pins s σ H v u Q I r h
  exact wpAny_assign_Name (Ac I hN hi hx r (fun s' I' => ⟨_, H, I', h⟩) hf)
noncomputable def gNil : TGs := fun vs σ H Q => vs = [] /\ Q σ H
noncomputable def gCons (t : TG) (u : TGs) : TGs := fun vs σ H Q => ∃ v r, vs = v :: r /\ t v σ H fun σ' H' => u r σ' H' Q
theorem pgs_nil : PGs X [] gNil := by
  intro pins s σ H vs us Q I r h
  obtain ⟨e, h⟩ := h
  subst e
  cases r
  exact assignInOrder_nil ⟨σ, H, I, h⟩
theorem Al {e : Expr} {es : List Expr} {t : TG} {u : TGs} (h1 : PG X e t) (h2 : PGs X es u)
    (hs : (assignEach (e :: es) X.env).map (·.2) = assign e X.env :: (assignEach es X.env).map (·.2) := by rfl) : PGs X (e :: es) (gCons t u) := by
  intro pins s σ H vs us Q I r h
  obtain ⟨v, vr, e1, h⟩ := h
  subst e1
  cases r with
  | cons r rr =>
    rw [hs]
    refine assignInOrder_cons (thn (h1 pins s σ H _ _ _ I r h) fun _ s1 ⟨σ1, H1, I1, q1⟩ => ?_)
    exact h2 pins s1 σ1 H1 _ _ Q I1 rr q1
noncomputable def gTup (K : PySem.W.Frag) (n : Nat) (t : TGs) : TG := fun v σ H Q => ∃ a xs, v = .ref a /\ SqT K H a xs /\ xs.length = n /\ t xs σ H Q
theorem pg_tup {es : List Expr} {k : Nat} {t : TGs} {n : Nat} (hc : X.calm = true) (h : PGs X es t)
    (hn : (assignEach es X.env).length = n := by rfl) (hst : (assignEach es X.env).findIdx? (·.1) = none := by rfl) : PG X (.Tuple es k pos) (gTup X.K n t) := by
  intro pins s σ H v u Q I r hw
  obtain ⟨a, xs, e1, hq, hl, hw⟩ := hw
  subst e1
  cases r
  obtain ⟨its, rv, ht, hz⟩ := I.tuple hq
  refine assign_Tuple_tuple (I.ok.hd hc) ht (by simp [hn, <- hl, rv.length]) hst fun h' hx => ?_
  have I1 : Inv X pins σ H { s with heap := h' } := I.kept (t' := s.toks) fun b o e => hx b o (Nat.ne_of_lt (Heap.lt_size e)) e
  exact h pins _ σ H xs _ Q I1 (by simpa using rv) hw
noncomputable def gSub (to ti : TE) (t : TSet) : TG := fun v σ H Q => to σ H fun o H1 => ti σ H1 fun i H2 => t o i v H2 fun H3 => Q σ H3
theorem BQ {o i : Expr} {to ti : TE} {t : TSet} (ho : PE X o to) (hi : PE X i ti) (hs : PSet X t)
    (ha : ∀ v, assign (.Subscript o i pos) X.env v = (do
      let ov <- holding [v] (eval o X.env)
      let iv <- holding [v, ov] (eval i X.env)
      standAt pos
      holding [v, ov, iv] (setItem ov iv v)
      release [v, ov, iv] []) := by intro _; rfl) : PG X (.Subscript o i pos) (gSub to ti t) := by
  intro pins s σ H v u Q I r h
  rw [ha]
  refine wpAny_bind (wpAny_holding (thn (ho pins s σ H _ I h) fun ov s1 ⟨x, H1, I1, r1, q1⟩ => ?_))
  refine wpAny_bind (wpAny_holding (thn (hi pins s1 σ H1 _ I1 q1) fun iv s2 ⟨y, H2, I2, r2, q2⟩ => ?_))
  refine wpAny_bind (wpAny_standAt (wpAny_bind (wpAny_holding (thn (hs pins s2 σ H2 x y v ov iv u _ I2 r1 r2 r q2) fun _ s3 ⟨H3, I3, q3⟩ => ?_))))
  exact wpAny_release ⟨σ, H3, I3, q3⟩
noncomputable def tAsg (te : TE) (g : TG) : TS := fun D σ H => te σ H fun x H1 => g x σ H1 D.nx
theorem Ak {tg e : Expr} {te : TE} {g : TG} (he : PE X e te) (hg : PG X tg g) (hs : swapsWithSole [tg] e pos.line X.env = pure false := by rfl) (hw : swappedStores [tg] e X.env = pure none := by rfl)
    (h1 : (assignEach [tg] X.env).map (·.2) = [assign tg X.env] := by rfl) : PS X (.Assign [tg] e pos) (tAsg te g) := by
  intro pins s σ H D I h
  refine wpAny_Assign_stores (thn (he pins s σ H _ I h) fun v s1 ⟨x, H1, I1, r1, q1⟩ => ?_) hs hw
  rw [h1]
  exact thn (hg pins s1 σ H1 x v _ I1 r1 q1) fun _ s2 q => q
theorem ps_set {i : Nat} {x : Str} {e : Expr} {te : TE} {pos' : Pos} (hN : X.N.Nodup) (hi : X.N[i]? = some x) (hx : Loc X.env.scope x) (he : PE X e te) (hs : swapsWith e (some (.Name x pos')) pos.line X.env = pure false := by rfl) (hf : X.fn x = true \/ X.env.scope.names.lookup x = some .local := by first | exact .inl rfl | exact .inr rfl | assumption) :
    PS X (.Assign [.Name x pos'] e pos) (tAsg te (ye i)) := by
  intro pins s σ H D I h
  refine wpAny_Assign_Name (thn (he pins s σ H _ I h) fun v s1 ⟨y, H1, I1, r1, q1⟩ => ?_) hs
  exact Ac I1 hN hi hx r1 (fun s2 I2 => ⟨_, H1, I2, q1⟩) hf
end
section
variable {X : Cx} {pos : Pos}
noncomputable def tWhile (c : TT) (tb : TS) : TS := fun D σ H => ∃ W : Nat -> St -> Hp -> Prop, (∃ m, W m σ H) /\ ∀ m σ H, W m σ H ->
  c σ H fun b H1 => if b = true then ∃ N : St -> Hp -> Prop, (∀ σ' H', N σ' H' -> ∃ m', m' < m /\ W m' σ' H') /\ tb { D with nx := N, ct := N, bk := D.nx } σ H1 else D.nx σ H1
theorem ps_while {c : Expr} {body : List Stmt} {tc : TT} {tb : TS} (hp : PassesOwn (model X.prog X.w) X.A X.env X.xe) (hc : PT X c tc) (hb : PSs X body tb) : PS X (.While c body [] pos) (tWhile tc tb) := by
  intro pins s σ H D I h
  obtain ⟨W, ⟨m0, w0⟩, turn⟩ := h
  refine wpAny_While (codeAny_whileLoop (fun n s' => ∃ σ' H', Inv X pins σ' H' s' /\ W n σ' H') ?_ m0 ⟨σ, H, I, w0⟩)
  rintro n s1 ⟨σ1, H1, I1, w1⟩
  refine wpAny_passesOwn hp (thn (hc pins s1 σ1 H1 _ I1 (turn n σ1 H1 w1)) fun b s2 ⟨H2, I2, q2⟩ => ?_)
  cases b with
  | true =>
    obtain ⟨N, hN, q2⟩ := q2
    rw [if_pos rfl]
    refine wpAny_passesOwn hp (thn (hb pins s2 σ1 H2 _ I2 q2) fun f s3 q3 => ?_)
    cases f with
    | next =>
      obtain ⟨σ3, H3, I3, n3⟩ := q3
      obtain ⟨m', hm, w3⟩ := hN σ3 H3 n3
      exact ⟨m', hm, σ3, H3, I3, w3⟩
    | cont =>
      obtain ⟨σ3, H3, I3, n3⟩ := q3
      obtain ⟨m', hm, w3⟩ := hN σ3 H3 n3
      exact ⟨m', hm, σ3, H3, I3, w3⟩
    | brk => exact q3
    | ret v => exact q3
  | false =>
    rw [if_neg Bool.false_ne_true]
    exact wpAny_execs_nil ⟨σ1, H2, I2, q2⟩
end
structure It where
  go : Nat -> Hp -> Prop
  yld : Nat -> Hp -> V -> Hp -> Prop
  stop : Nat -> Hp -> Prop
noncomputable def Bs (X : Cx) (pins : List (Addr × Obj)) (H : Hp) (b : Addr) : Prop :=
  H b = none /\ b ≠ X.env.locals /\ b ∉ X.fs /\ (b ∈ X.ex \/ X.s₀.heap.objs.size <= b) /\ (∀ x c, X.env.cells.lookup x = some c -> c ≠ b) /\ ∀ p ∈ X.pn ++ pins, p.1 ≠ b
theorem Inv.fpOk {X : Cx} {pins : List (Addr × Obj)} {σ : St} {H H' : Hp} {s : Shared} {b : Addr} (I : Inv X pins σ H s) (hb : s.heap.objs.size <= b) (hn : H' b = none) : Bs X pins H' b := by
  refine ⟨hn, Nat.ne_of_gt (Nat.lt_of_lt_of_le I.lt hb), I.nofs hb, .inr (Nat.le_trans I.sz hb), fun x c e z => ?_, fun p hp z => ?_⟩
  · obtain ⟨v, q⟩ := I.cell x c e
    exact absurd (Nat.lt_of_lt_of_le q.lt (by rw [z]; exact hb)) (Nat.lt_irrefl _)
  · exact absurd (Nat.lt_of_lt_of_le (Heap.lt_size (I.pin p hp).1) (by rw [z]; exact hb)) (Nat.lt_irrefl _)
structure Turn (P : Program) (w : World) (K : PySem.W.Frag) (tg : Expr) (J : It) (fp : List Addr) (it : Addr) (tn : Nat -> Heap -> Prop) : Prop where
  mem : it ∈ fp
  obj : ∀ i h, tn i h -> ∀ b ∈ fp, ∃ o, h.get? b = some o /\ ∀ v, o.data ≠ .cell v
  keep : ∀ i h h', tn i h -> (∀ b ∈ fp, ∀ o, h.get? b = some o -> h'.get? b = some o) -> tn i h'
  item : ∀ (X : Cx), X.prog = P -> X.w = w -> X.K = K -> X.calm = true -> ∀ (i : Nat) (pins : List (Addr × Obj)) (s : Shared) (σ : St) (H : Hp) (E : Value -> Shared -> Prop), Inv X pins σ H s -> (∀ b ∈ fp, Bs X pins H b) -> tn i s.heap -> J.go i H ->
    wpAny (model P w) X.A (pyNext (.ref it)) (fun r s1 => ∃ u, r = some u /\
      wpAny (model P w) X.A (letOwnedTupleGo tg (.ref it) u) (fun _ s2 => ∃ x H', Inv X pins σ H' s2 /\ RelV x u /\ J.yld i H x H' /\ tn (i + 1) s2.heap /\ ∀ b ∈ fp, H' b = none) E s1) E s
  done : ∀ (X : Cx), X.prog = P -> X.w = w -> X.K = K -> X.calm = true -> ∀ (i : Nat) (pins : List (Addr × Obj)) (s : Shared) (σ : St) (H : Hp) (E : Value -> Shared -> Prop), Inv X pins σ H s -> (∀ b ∈ fp, Bs X pins H b) -> tn i s.heap -> J.stop i H ->
    wpAny (model P w) X.A (pyNext (.ref it)) (fun r s1 => r = none /\ Inv X pins σ H s1) E s
  self : ∀ (A : Around) (i : Nat) (s : Shared) (Q : Value -> Shared -> Prop) (E : Value -> Shared -> Prop), tn i s.heap -> Q (.ref it) s -> wpAny (model P w) A (pyIter (.ref it)) Q E s
noncomputable abbrev TI := St -> Hp -> (It -> Hp -> Prop) -> Prop
noncomputable def PIE (X : Cx) (pins : List (Addr × Obj)) (σ : St) (tg : Expr) (R : It -> Hp -> Prop) (itv : Value) (s2 : Shared) : Prop :=
  ∃ (it : Addr) (fp : List Addr) (tn : Nat -> Heap -> Prop) (J : It) (H' : Hp), itv = .ref it /\ Inv X pins σ H' s2 /\ Turn X.prog X.w X.K tg J fp it tn /\ tn 0 s2.heap /\ (∀ b ∈ fp, Bs X pins H' b) /\ R J H'
noncomputable def PI (X : Cx) (tg iter : Expr) (wi : TI) : Prop :=
  ∀ (pins : List (Addr × Obj)) (s : Shared) (σ : St) (H : Hp) (R : It -> Hp -> Prop), Inv X pins σ H s -> wi σ H R ->
    wpAny (model X.prog X.w) X.A (eval iter X.env) (fun v s1 => wpAny (model X.prog X.w) X.A (pyIter v) (PIE X pins σ tg R) X.xe s1) X.xe s
theorem go_of {M : Model} {A : Around} {E : Value -> Shared -> Prop} {s : Shared} {tg : Expr} {it : Addr} {u : Value} {o : Obj} {n : String} {vs : Array Value} {Q : Unit -> Shared -> Prop} (ho : s.heap.get? it = some o) (hc : o.cls = .type n) (hd : o.data = .fields vs)
    (hn : ["enumerate", "zip", "dict_itemiterator", "dict_reverseitemiterator", "odict_iterator", "itertools.zip_longest", "itertools.pairwise"].contains n = false) (hQ : Q () s) : wpAny M A (letOwnedTupleGo tg (.ref it) u) Q E s := by
  unfold letOwnedTupleGo
  cases tg <;> first
    | exact wpAny_pure hQ
    | (cases u <;> first
        | exact wpAny_pure hQ
        | (refine wpAny_bind (wpAny_load ho ?_)
           rw [hc, hd]
           show wpAny M A (if (["enumerate", "zip", "dict_itemiterator", "dict_reverseitemiterator", "odict_iterator", "itertools.zip_longest", "itertools.pairwise"].contains n && vs[0]? == some (rawInt _)) = true then _ else _) Q E s
           rw [if_neg (by intro h; rw [hn, Bool.false_and] at h; cases h)]
           exact wpAny_pure hQ))
noncomputable def Itl (K : PySem.W.Frag) (a : Addr) : It :=
  ⟨fun i H => ∃ xs x, SqL K H a xs /\ xs[i]? = some x, fun i H x H' => H' = H /\ ∀ xs, SqL K H a xs -> xs[i]? = some x, fun i H => ∃ xs, SqL K H a xs /\ xs.length <= i⟩
noncomputable def Itt (K : PySem.W.Frag) (a : Addr) : It :=
  ⟨fun i H => ∃ xs x, SqT K H a xs /\ xs[i]? = some x, fun i H x H' => H' = H /\ ∀ xs, SqT K H a xs -> xs[i]? = some x, fun i H => ∃ xs, SqT K H a xs /\ xs.length <= i⟩
noncomputable def Itr (lo : Int) (n : Nat) : It := ⟨fun i _ => i < n, fun i H x H' => H' = H /\ x = .int (lo + i), fun i _ => n <= i⟩
theorem Bw {P : Program} {w : World} {K : PySem.W.Frag} {tg : Expr} (a it : Addr) : Turn P w K tg (Itl K a) [it] it (fun i h => h.IsListIter it a i) where
  mem := by simp
  obj := fun i h st b hb => by
    have e : b = it := by simpa using hb
    subst e
    obtain ⟨o, e, c, d⟩ := st
    exact ⟨o, e, fun v z => by rw [d] at z; cases z⟩
  keep := fun i h h' st k => st.at fun o e => k it (by simp) o e
  item := by
    intro X hP hw hK hc i pins s σ H E I hf st hg
    subst hP hw hK
    obtain ⟨xs, x, hq, hx⟩ := hg
    obtain ⟨its, rv, p, hz⟩ := I.list hq
    obtain ⟨u, hu, ru⟩ := rv.get hx
    obtain ⟨f0, f1, f2, f3, f4, f5⟩ := hf it (by simp)
    refine wpAny_pyNext_list_item st p.isList (x := u) (by simpa using hu) fun h' st' sb => ?_
    have I1 : Inv X pins σ H { s with heap := h' } := I.turned (t' := s.toks) (fun b o hb e => (sb.2 b hb).trans e) f0 f1 f3 f4 f5
    obtain ⟨o, e, c, d⟩ := id st'
    exact ⟨u, rfl, go_of (s := { s with heap := h' }) e c d (by decide) ⟨x, H, I1, ru, ⟨rfl, fun ys hy => by rw [I.rG hy hq]; exact hx⟩, st', fun b hb => (hf b hb).1⟩⟩
  done := by
    intro X hP hw hK hc i pins s σ H E I hf st hg
    subst hP hw hK
    obtain ⟨xs, hq, hx⟩ := hg
    obtain ⟨its, rv, p, hz⟩ := I.list hq
    obtain ⟨f0, f1, f2, f3, f4, f5⟩ := hf it (by simp)
    have hl := rv.length
    exact wpAny_pyNext_list_end (I.ok.hd hc) st p.isList (by simp; omega) fun h' eb => ⟨rfl, I.turned (t' := s.toks) (fun b o hb e => eb b o hb e) f0 f1 f3 f4 f5⟩
  self := fun _ _ _ _ _ st h => wpAny_pyIter_listiter st h
theorem AM {P : Program} {w : World} {K : PySem.W.Frag} {tg : Expr} (a it : Addr) : Turn P w K tg (Itt K a) [it] it (fun i h => h.IsTupleIter it a i) where
  mem := by simp
  obj := fun i h st b hb => by
    have e : b = it := by simpa using hb
    subst e
    obtain ⟨o, e, c, d⟩ := st
    exact ⟨o, e, fun v z => by rw [d] at z; cases z⟩
  keep := fun i h h' st k => st.at fun o e => k it (by simp) o e
  item := by
    intro X hP hw hK hc i pins s σ H E I hf st hg
    subst hP hw hK
    obtain ⟨xs, x, hq, hx⟩ := hg
    obtain ⟨its, rv, p, hz⟩ := I.tuple hq
    obtain ⟨u, hu, ru⟩ := rv.get hx
    obtain ⟨f0, f1, f2, f3, f4, f5⟩ := hf it (by simp)
    refine wpAny_pyNext_tuple_item st (show s.heap.IsTuple a its.toArray from p) (x := u) (by simpa using hu) fun h' st' sb => ?_
    have I1 : Inv X pins σ H { s with heap := h' } := I.turned (t' := s.toks) (fun b o hb e => (sb.2 b hb).trans e) f0 f1 f3 f4 f5
    obtain ⟨o, e, c, d⟩ := id st'
    exact ⟨u, rfl, go_of (s := { s with heap := h' }) e c d (by decide) ⟨x, H, I1, ru, ⟨rfl, fun ys hy => by rw [I.wZ hy hq]; exact hx⟩, st', fun b hb => (hf b hb).1⟩⟩
  done := by
    intro X hP hw hK hc i pins s σ H E I hf st hg
    subst hP hw hK
    obtain ⟨xs, hq, hx⟩ := hg
    obtain ⟨its, rv, p, hz⟩ := I.tuple hq
    obtain ⟨f0, f1, f2, f3, f4, f5⟩ := hf it (by simp)
    have hl := rv.length
    exact wpAny_pyNext_tuple_end (I.ok.hd hc) st (show s.heap.IsTuple a its.toArray from p) (by simp; omega) fun h' eb => ⟨rfl, I.turned (t' := s.toks) (fun b o hb e => eb b o hb e) f0 f1 f3 f4 f5⟩
  self := fun _ _ _ _ _ st h => wpAny_pyIter_tupleiter st h
theorem AN {P : Program} {w : World} {K : PySem.W.Frag} {tg : Expr} (it : Addr) (lo : Int) (n : Nat) : Turn P w K tg (Itr lo n) [it] it (fun i h => IsRangeIter h it (lo + (i : Nat) * 1) ((n : Int) - (i : Nat)) 1) where
  mem := by simp
  obj := fun i h st b hb => by
    have e : b = it := by simpa using hb
    subst e
    exact ⟨_, st, fun v z => by
      have z' : Data.fields _ = Data.cell v := z
      cases z'⟩
  keep := fun i h h' st k => k it (by simp) _ st
  item := by
    intro X hP hw hK hc i pins s σ H E I hf st hg
    subst hP hw hK
    obtain ⟨f0, f1, f2, f3, f4, f5⟩ := hf it (by simp)
    have W := Walks.range (prog := X.prog) (w := X.w) (I.ok.hd hc) it lo 1 n
    refine W.item i s _ _ hg st fun v h' tk hv st' kk => ?_
    obtain ⟨t, rfl⟩ := hv
    have I1 : Inv X pins σ H { s with heap := h', toks := tk } := I.turned (fun b o hb e => kk b o (by simpa using hb) e) f0 f1 f3 f4 f5
    refine ⟨_, rfl, go_of (s := { s with heap := h', toks := tk }) (n := "range_iterator") st' rfl rfl (by decide) ⟨.int (lo + i), H, I1, ⟨t, ?_⟩, ⟨rfl, rfl⟩, st', fun b hb => (hf b hb).1⟩⟩
    rw [Int.mul_one]
  done := by
    intro X hP hw hK hc i pins s σ H E I hf st hg
    subst hP hw hK
    obtain ⟨f0, f1, f2, f3, f4, f5⟩ := hf it (by simp)
    exact wpAny_pyNext_range_end (I.ok.hd hc) st (by have : n <= i := hg; omega) fun h' eb => ⟨rfl, I.turned (t' := s.toks) (fun b o hb e => eb b o hb e) f0 f1 f3 f4 f5⟩
  self := fun _ _ _ _ _ st h => wpAny_pyIter_rangeiter st h
end L2
namespace L2
open PySem PySem.Spec PyProof.Rows
section
variable {X : Cx} {tg : Expr}
theorem range_it {pins : List (Addr × Obj)} {σ : St} {H : Hp} {s : Shared} {R : It -> Hp -> Prop} {E : Value -> Shared -> Prop} {lo hi : Int} {t u v : Tok} {tk : Nat} (I : Inv X pins σ H s) (h1 : -(2 ^ 62) <= lo) (h2 : lo < 2 ^ 62) (h3 : -(2 ^ 62) <= hi) (h4 : hi < 2 ^ 62)
    (q : R (Itr lo (hi - lo).toNat) H) : wpAny (model X.prog X.w) X.A (pyIter (.ref s.heap.objs.size)) (PIE X pins σ tg R) E { s with heap := s.heap.push { cls := .type "range", data := .fields #[.int lo t, .int hi u, .int 1 v] }, toks := tk } := by
  refine wpAny_pyIter_range (IsRange.new ..) (small_one h1 h2 h3 h4) ?_
  have I1 : Inv X pins σ H { s with heap := s.heap.push { cls := .type "range", data := .fields #[.int lo t, .int hi u, .int 1 v] }, toks := tk } := I.kept fun b o e => Heap.get?_push_of_some _ e
  refine ⟨(s.heap.push { cls := .type "range", data := .fields #[.int lo t, .int hi u, .int 1 v] }).objs.size, [(s.heap.push { cls := .type "range", data := .fields #[.int lo t, .int hi u, .int 1 v] }).objs.size], _, _, H, rfl,
    I1.kept (t' := tk) fun b o e => Heap.get?_push_of_some _ e, AN _ lo (hi - lo).toNat, ?_, fun b hb => ?_, q⟩
  · have e1 : lo + ((0 : Nat) : Int) * 1 = lo := by simp
    have e2 : (((hi - lo).toNat : Nat) : Int) - ((0 : Nat) : Int) = Builtin.Range.rangeSize lo hi 1 := by rw [rangeSize_one]; split <;> omega
    show IsRangeIter _ _ (lo + ((0 : Nat) : Int) * 1) ((((hi - lo).toNat : Nat) : Int) - ((0 : Nat) : Int)) 1
    rw [e1, e2]
    exact Heap.get?_push_size _ rfl
  · have e : b = (s.heap.push { cls := .type "range", data := .fields #[.int lo t, .int hi u, .int 1 v] }).objs.size := by simpa using hb
    subst e
    exact I1.fpOk (Nat.le_refl _) (I1.hok.fresh (Nat.le_refl _))
noncomputable def iRng1 (ta : TA) : TI := fun σ H R => ta σ H fun vs H1 => ∃ j : Int, vs = [.int j] /\ -(2 ^ 62) <= j /\ j < 2 ^ 62 /\ R (Itr 0 j.toNat) H1
theorem BP {a : Expr} {ta : TA} {p pos : Pos} (hg : Gl X "range") (hm : X.mg "range" = none) (ha : PA X [a] ta) (hs : starEach [a] X.env = [(false, eval a X.env)] := by rfl) : PI X tg (.Call (.Name "range" p) [a] [] pos) (iRng1 ta) := by
  intro pins s σ H R I h
  refine Call_ (sm I hg hm boot_range (PyProof.Rows.callWith_type1 (thn (ha pos pins s σ H _ I h) fun us s1 ⟨vs, H1, I1, r1, q1⟩ => ?_) hs rfl))
  obtain ⟨j, e, q1, q2, q⟩ := q1
  subst e
  cases r1 with
  | cons r rr =>
    cases rr
    obtain ⟨t, rfl⟩ := r
    exact call_range_1 (range_it I1 (by omega) (by omega) q1 q2 (by simpa using q))
noncomputable def tFor (wi : TI) (g : TG) (tb : TS) : TS := fun D σ H => wi σ H fun J H1 => ∃ W : Nat -> Nat -> St -> Hp -> Prop, (∃ m, W 0 m σ H1) /\ ∀ i m σ H, W i m σ H ->
  (J.stop i H /\ D.nx σ H) \/ (J.go i H /\ ∃ N : St -> Hp -> Prop, (∀ σ' H', N σ' H' -> ∃ m', m' < m /\ W (i + 1) m' σ' H') /\ ∀ x H', J.yld i H x H' -> g x σ H' fun σ2 H2 => tb { D with nx := N, ct := N, bk := D.nx } σ2 H2)
noncomputable def xw (fp : List Addr) (h : Heap) : List (Addr × Obj) := fp.filterMap fun b => (h.get? b).map fun o => (b, o)
theorem n4 {fp : List Addr} {h : Heap} {b : Addr} {o : Obj} (hb : b ∈ fp) (e : h.get? b = some o) : (b, o) ∈ xw fp h := List.mem_filterMap.mpr ⟨b, hb, by rw [e]; rfl⟩
theorem C1 {fp : List Addr} {h : Heap} {p : Addr × Obj} (hp : p ∈ xw fp h) : p.1 ∈ fp /\ h.get? p.1 = some p.2 := by
  obtain ⟨b, hb, e⟩ := List.mem_filterMap.mp hp
  cases q : h.get? b with
  | none => rw [q] at e; cases e
  | some o =>
    rw [q] at e
    have e' : (b, o) = p := Option.some.inj e
    subst e'
    exact ⟨hb, q⟩
theorem Inv.pinned {pins : List (Addr × Obj)} {σ : St} {H : Hp} {s : Shared} {fp : List Addr} (I : Inv X pins σ H s) (hf : ∀ b ∈ fp, Bs X pins H b) (ho : ∀ b ∈ fp, ∃ o, s.heap.get? b = some o /\ ∀ v, o.data ≠ .cell v) : Inv X (pins ++ xw fp s.heap) σ H s :=
  I.vj fun p hp => (List.mem_append.mp hp).elim (fun z => I.pin p (List.mem_append_right _ z)) fun z => by
    obtain ⟨hb, e⟩ := C1 z
    obtain ⟨f0, f1, f2, _⟩ := hf p.1 hb
    obtain ⟨o, e', d⟩ := ho p.1 hb
    rw [e] at e'; cases e'
    exact ⟨e, f0, f1, f2, d⟩
theorem Inv.uP {pins pl : List (Addr × Obj)} {σ : St} {H : Hp} {s : Shared} (I : Inv X (pins ++ pl) σ H s) : Inv X pins σ H s := I.vj fun p hp => I.pin p (List.mem_append_right _ (List.mem_append_left _ hp))
theorem ps_for {iter : Expr} {body : List Stmt} {wi : TI} {g : TG} {tb : TS} {pos : Pos} (hp : PassesOwn (model X.prog X.w) X.A X.env X.xe) (hc : X.calm = true) (hi : PI X tg iter wi) (hg : PG X tg g) (hb : PSs X body tb)
    (hs : ∀ x, foldedSetIterable iter X.env x = pure x := by intro _; rfl) : PS X (.For tg iter body [] pos) (tFor wi g tb) := by
  intro pins s σ H D I h
  refine wpAny_For (thn (hi pins s σ H _ I h) fun v s1 h1 => thn h1 fun itv s2 h2 => ?_) hs
  obtain ⟨it, fp, tn, J, H2, e, I2, T, st2, f2, W, ⟨m0, w0⟩, turn⟩ := h2
  subst e
  have stat : ∀ {H' : Hp}, (∀ b ∈ fp, H' b = none) -> ∀ b ∈ fp, Bs X pins H' b := fun hn b hb => ⟨hn b hb, (f2 b hb).2⟩
  refine codeAny_forLoop_any (fun n s' => ∃ i σ' H', Inv X pins σ' H' s' /\ tn i s'.heap /\ (∀ b ∈ fp, H' b = none) /\ W i n σ' H') ?_ m0 ⟨0, σ, H2, I2, st2, fun b hb => (f2 b hb).1, w0⟩
  rintro n s3 ⟨i, σ3, H3, I3, st3, fr3, w3⟩
  rcases turn i n σ3 H3 w3 with ⟨stop, qn⟩ | ⟨go, N, hN, step⟩
  · refine wpAny_passesOwn hp (thn (T.done X rfl rfl rfl hc i pins s3 σ3 H3 X.xe I3 (stat fr3) st3 stop) fun r s4 ⟨hr, I4⟩ => ?_)
    subst hr
    exact wpAny_execs_nil ⟨σ3, H3, I4, qn⟩
  · refine wpAny_passesOwn hp (thn (T.item X rfl rfl rfl hc i pins s3 σ3 H3 X.xe I3 (stat fr3) st3 go) fun r s4 ⟨u, hr, h4⟩ => ?_)
    subst hr
    refine wpAny_passesOwn hp (thn h4 fun _ s5 ⟨x, H5, I5, r5, y5, st5, fr5⟩ => ?_)
    have I5' := I5.pinned (stat fr5) (T.obj _ _ st5)
    refine wpAny_passesOwn hp (thn (hg _ s5 σ3 H5 x u _ I5' r5 (step x H5 y5)) fun _ s6 ⟨σ6, H6, I6, q6⟩ => ?_)
    refine wpAny_passesOwn hp (thn (hb _ s6 σ6 H6 _ I6 q6) fun f s7 q7 => ?_)
    have again : ∀ {σ7 : St} {H7 : Hp}, Inv X (pins ++ xw fp s5.heap) σ7 H7 s7 -> N σ7 H7 -> ∃ m, m < n /\ ∃ i σ' H', Inv X pins σ' H' s7 /\ tn i s7.heap /\ (∀ b ∈ fp, H' b = none) /\ W i m σ' H' := fun {σ7 H7} I7 n7 => by
      obtain ⟨m', hm, w7⟩ := hN σ7 H7 n7
      refine ⟨m', hm, i + 1, σ7, H7, I7.uP, T.keep _ _ _ st5 fun b hb o e => (I7.pin (b, o) (List.mem_append_right _ (List.mem_append_right _ (n4 hb e)))).1, fun b hb => ?_, w7⟩
      obtain ⟨o, e, d⟩ := T.obj _ _ st5 b hb
      exact (I7.pin (b, o) (List.mem_append_right _ (List.mem_append_right _ (n4 hb e)))).2.1
    cases f with
    | next => obtain ⟨σ7, H7, I7, n7⟩ := q7; exact again I7 n7
    | cont => obtain ⟨σ7, H7, I7, n7⟩ := q7; exact again I7 n7
    | brk => obtain ⟨σ7, H7, I7, q7⟩ := q7; exact ⟨σ7, H7, I7.uP, q7⟩
    | ret v => obtain ⟨x7, σ7, H7, I7, r7, q7⟩ := q7; exact ⟨x7, σ7, H7, I7.uP, r7, q7⟩
end
end L2
namespace L2
open PySem PySem.Spec PyProof.Rows
noncomputable abbrev R2 := V -> V -> Hp -> VK -> Prop
noncomputable def OpR (X : Cx) (f : Value -> Value -> Sem Value) (r : R2) : Prop :=
  ∀ (pins : List (Addr × Obj)) (s : Shared) (σ : St) (H : Hp) (x y : V) (v u : Value) (Q : VK), Inv X pins σ H s -> RelV x v -> RelV y u -> r x y H Q ->
    wpAny (model X.prog X.w) X.A (f v u) (EP X pins σ Q) X.xe s
noncomputable def UnR (X : Cx) (f : Value -> Sem Value) (r : V -> Hp -> VK -> Prop) : Prop :=
  ∀ (pins : List (Addr × Obj)) (s : Shared) (σ : St) (H : Hp) (x : V) (v : Value) (Q : VK), Inv X pins σ H s -> RelV x v -> r x H Q ->
    wpAny (model X.prog X.w) X.A (f v) (EP X pins σ Q) X.xe s
noncomputable def i5 (X : Cx) (f : Value) (r : List V -> Hp -> VK -> Prop) : Prop :=
  ∀ (pins : List (Addr × Obj)) (s : Shared) (σ : St) (H : Hp) (xs : List V) (us : List Value) (Q : VK), Inv X pins σ H s -> Vals xs us -> r xs H Q ->
    wpAny (model X.prog X.w) X.A (call f us) (EP X pins σ Q) X.xe s
noncomputable def TruR (X : Cx) (r : V -> Hp -> (Bool -> Hp -> Prop) -> Prop) : Prop :=
  ∀ (pins : List (Addr × Obj)) (s : Shared) (σ : St) (H : Hp) (x : V) (v : Value) (Q : Bool -> Hp -> Prop), Inv X pins σ H s -> RelV x v -> r x H Q ->
    wpAny (model X.prog X.w) X.A (truthy v) (TP X pins σ Q) X.xe s
noncomputable def tOp (r : R2) (ta tb : TE) : TE := fun σ H Q => ta σ H fun x H1 => tb σ H1 fun y H2 => r x y H2 Q
noncomputable def tUn (r : V -> Hp -> VK -> Prop) (ta : TE) : TE := fun σ H Q => ta σ H fun x H1 => r x H1 Q
noncomputable def rI (C : Int -> Int -> Prop) (g : Int -> Int -> V) : R2 := fun x y H Q => ∃ i j, x = .int i /\ y = .int j /\ C i j /\ Q (g i j) H
noncomputable def rI0 (g : Int -> Int -> V) : R2 := fun x y H Q => ∃ i j, x = .int i /\ y = .int j /\ Q (g i j) H
noncomputable def rU (g : Int -> V) : V -> Hp -> VK -> Prop := fun x H Q => ∃ i, x = .int i /\ Q (g i) H
section
variable {X : Cx} {a b c : Expr} {ta tb tc : TE} {pos : Pos}
theorem binT (ha : PE X a ta) (hb : PE X b tb) {pins : List (Addr × Obj)} {s : Shared} {σ : St} {H : Hp} {R : V -> V -> Hp -> Prop} (I : Inv X pins σ H s)
    (h : ta σ H fun x H1 => tb σ H1 fun y H2 => R x y H2) {Q : Value -> Shared -> Prop} {f : Value -> Value -> Sem Value}
    (hf : ∀ v u s2 x y H2, Inv X pins σ H2 s2 -> RelV x v -> RelV y u -> R x y H2 -> wpAny (model X.prog X.w) X.A (f v u) Q X.xe s2) :
    wpAny (model X.prog X.w) X.A (eval a X.env) (fun v s₁ => wpAny (model X.prog X.w) X.A (eval b X.env) (fun u s₂ => wpAny (model X.prog X.w) X.A (f v u) Q X.xe s₂) X.xe s₁) X.xe s := by
  refine thn (ha pins s σ H _ I h) fun v s1 ⟨x, H1, I1, r1, q1⟩ => ?_
  refine thn (hb pins s1 σ H1 _ I1 q1) fun u s2 ⟨y, H2, I2, r2, q2⟩ => ?_
  exact hf v u s2 x y H2 I2 r1 r2 q2
theorem pe_op {op : Operator} {r : R2} (ho : OpR X (binaryOp op) r) (ha : PE X a ta) (hb : PE X b tb) : PE X (.BinOp a op b pos) (tOp r ta tb) := by
  intro pins s σ H Q I h
  exact wpAny_BinOp (binT ha hb I h fun v u s2 x y H2 I2 rx ry q => ho pins s2 σ H2 x y v u Q I2 rx ry q)
theorem pe_un {op : UnaryOp} {r : V -> Hp -> VK -> Prop} (ho : UnR X (unaryOp op) r) (ha : PE X a ta) : PE X (.UnaryOp op a pos) (tUn r ta) := by
  intro pins s σ H Q I h
  exact UnaryOp_ (thn (ha pins s σ H _ I h) fun v s1 ⟨x, H1, I1, r1, q1⟩ => ho pins s1 σ H1 x v Q I1 r1 q1)
theorem opI {f : Value -> Value -> Sem Value} {C : Int -> Int -> Prop} {g : Int -> Int -> Int}
    (rule : ∀ (i j : Int) (t u : Tok) (s : Shared) (Q : Value -> Shared -> Prop) (E : Value -> Shared -> Prop), C i j -> Q (.int (g i j) s.toks) { s with toks := s.toks + 1 } -> wpAny (model X.prog X.w) X.A (f (.int i t) (.int j u)) Q E s) :
    OpR X f (rI C fun i j => .int (g i j)) := by
  intro pins s σ H x y v u Q I rx ry h
  obtain ⟨i, j, rfl, rfl, hc, q⟩ := h
  obtain ⟨t, rfl⟩ := rx
  obtain ⟨t', rfl⟩ := ry
  exact rule i j t t' s _ _ hc ⟨.int (g i j), H, I.tok _, ⟨_, rfl⟩, q⟩
theorem opI0 {f : Value -> Value -> Sem Value} {g : Int -> Int -> Int}
    (rule : ∀ (i j : Int) (t u : Tok) (s : Shared) (Q : Value -> Shared -> Prop) (E : Value -> Shared -> Prop), Q (.int (g i j) s.toks) { s with toks := s.toks + 1 } -> wpAny (model X.prog X.w) X.A (f (.int i t) (.int j u)) Q E s) :
    OpR X f (rI0 fun i j => .int (g i j)) := by
  intro pins s σ H x y v u Q I rx ry h
  obtain ⟨i, j, rfl, rfl, q⟩ := h
  obtain ⟨t, rfl⟩ := rx
  obtain ⟨t', rfl⟩ := ry
  exact rule i j t t' s _ _ ⟨.int (g i j), H, I.tok _, ⟨_, rfl⟩, q⟩
theorem opB0 {f : Value -> Value -> Sem Value} {g : Int -> Int -> Bool}
    (rule : ∀ (i j : Int) (t u : Tok) (s : Shared) (Q : Value -> Shared -> Prop) (E : Value -> Shared -> Prop), Q (.bool (g i j)) s -> wpAny (model X.prog X.w) X.A (f (.int i t) (.int j u)) Q E s) :
    OpR X f (rI0 fun i j => .bl (g i j)) := by
  intro pins s σ H x y v u Q I rx ry h
  obtain ⟨i, j, rfl, rfl, q⟩ := h
  obtain ⟨t, rfl⟩ := rx
  obtain ⟨t', rfl⟩ := ry
  exact rule i j t t' s _ _ ⟨.bl (g i j), H, I, rfl, q⟩
noncomputable def CPow (i j : Int) : Prop := 0 <= j /\ j <= 1000000 /\ i.natAbs < 2 ^ 64
noncomputable def CMul (i j : Int) : Prop := (-(2 ^ 64) < i /\ i < 2 ^ 64) \/ (-(2 ^ 64) < j /\ j < 2 ^ 64)
theorem CMul.ok {i j : Int} (h : CMul i j) : IntMulOk i j := by
  rcases h with ⟨h1, h2⟩ | ⟨h1, h2⟩
  · exact .of_left (intBits_le_64 h1 h2)
  · exact .of_right (intBits_le_64 h1 h2)
theorem op_add : OpR X (binaryOp .Add) (rI0 fun i j => .int (i + j)) := opI0 fun _ _ _ _ _ _ _ q => add_int q
theorem op_sub : OpR X (binaryOp .Sub) (rI0 fun i j => .int (i - j)) := opI0 fun _ _ _ _ _ _ _ q => sub_int q
theorem op_mul : OpR X (binaryOp .Mult) (rI CMul fun i j => .int (i * j)) := opI fun _ _ _ _ _ _ _ hc q => mul_int q hc.ok
theorem op_mod : OpR X (binaryOp .Mod) (rI (fun _ j => 0 < j) fun i j => .int (i % j)) := opI fun i j _ _ _ _ _ hc q => by
  have h1 : (0 : Int) < j := hc
  exact mod_int' (by omega) (by rw [Int.fmod_eq_emod_of_nonneg i (by omega)]; exact q)
theorem op_pow : OpR X (binaryOp .Pow) (rI CPow fun i j => .int (i ^ j.toNat)) := opI fun _ _ _ _ _ _ _ hc q => pow_int_small hc.1 hc.2.1 hc.2.2 q
theorem unI {f : Value -> Sem Value} {g : Int -> Int}
    (rule : ∀ (i : Int) (t : Tok) (s : Shared) (Q : Value -> Shared -> Prop) (E : Value -> Shared -> Prop), Q (.int (g i) s.toks) { s with toks := s.toks + 1 } -> wpAny (model X.prog X.w) X.A (f (.int i t)) Q E s) :
    UnR X f (rU fun i => .int (g i)) := by
  intro pins s σ H x v Q I rx h
  obtain ⟨i, rfl, q⟩ := h
  obtain ⟨t, rfl⟩ := rx
  exact rule i t s _ _ ⟨.int (g i), H, I.tok _, ⟨_, rfl⟩, q⟩
theorem un_neg : UnR X (unaryOp .USub) (rU fun i => .int (-i)) := unI fun _ _ _ _ _ q => neg_int q
end
noncomputable def scal : V -> V -> Bool
  | .non, .non => true | .non, .int _ => true | .int _, .non => true | .non, .bl _ => true | .bl _, .non => true | .non, .str _ => true | .str _, .non => true
  | .int _, .int _ => true | .bl _, .bl _ => true | .str _, .str _ => true | .byt _, .byt _ => true
  | .int _, .str _ => true | .str _, .int _ => true | .bl _, .str _ => true | .str _, .bl _ => true
  | _, _ => false
noncomputable def rNe : R2 := fun x y H Q => scal x y = true /\ Q (.bl (!decide (x = y))) H
theorem dec_int {i j : Int} : decide (V.int i = V.int j) = (i == j) := by
  rw [Bool.eq_iff_iff]
  simp
theorem dec_bl {i j : Bool} : decide (V.bl i = V.bl j) = (i == j) := by
  rw [Bool.eq_iff_iff]
  simp
theorem dec_str {i j : Str} : decide (V.str i = V.str j) = (i == j) := by
  rw [Bool.eq_iff_iff]
  simp
theorem dec_byt {i j : Array UInt8} : decide (V.byt i = V.byt j) = (i.toList == j.toList) := by
  rw [Bool.eq_iff_iff]
  cases i
  cases j
  simp
section
variable {X : Cx} {a b c : Expr} {ta tb tc : TE} {pos : Pos}
theorem i9 {pins : List (Addr × Obj)} {σ : St} {H : Hp} {s : Shared} {Q : VK} {k k' : Bool} (I : Inv X pins σ H s) (q : Q (.bl k) H) (e : k = k') : EP X pins σ Q (.bool k') s := by
  subst e
  exact ⟨.bl k, H, I, rfl, q⟩
theorem op_ne : OpR X (compareOp .NotEq) rNe := by
  intro pins s σ H x y v u Q I rx ry h
  obtain ⟨hs, q⟩ := h
  cases x with
  | non =>
    cases rx
    cases y with
    | non => cases ry; exact PySem.EqNone.ne_none_none (i9 I q (by simp))
    | bl j => cases ry; exact PySem.EqNone.ne_none_bool (i9 I q (by simp))
    | int j => obtain ⟨t', rfl⟩ := ry; exact PySem.EqNone.ne_none_int (i9 I q (by simp))
    | str j => obtain ⟨t', rfl⟩ := ry; exact PySem.EqNone.ne_none_str (i9 I q (by simp))
    | _ => exact absurd (show false = true from hs) Bool.false_ne_true
  | bl i =>
    cases rx
    cases y with
    | non => cases ry; exact PySem.EqNone.ne_bool_none (i9 I q (by simp))
    | bl j => cases ry; exact ne_bool (i9 I q (congrArg not dec_bl))
    | str j => obtain ⟨t', rfl⟩ := ry; exact PySem.EqMixed.ne_bool_str (i9 I q (by simp))
    | _ => exact absurd (show false = true from hs) Bool.false_ne_true
  | int i =>
    obtain ⟨t, rfl⟩ := rx
    cases y with
    | non => cases ry; exact PySem.EqNone.ne_int_none (i9 I q (by simp))
    | int j => obtain ⟨t', rfl⟩ := ry; exact ne_int (i9 I q (congrArg not dec_int))
    | str j => obtain ⟨t', rfl⟩ := ry; exact PySem.EqMixed.ne_int_str (i9 I q (by simp))
    | _ => exact absurd (show false = true from hs) Bool.false_ne_true
  | str i =>
    obtain ⟨t, rfl⟩ := rx
    cases y with
    | non => cases ry; exact PySem.EqNone.ne_str_none (i9 I q (by simp))
    | bl j => cases ry; exact PySem.EqMixed.ne_str_bool (i9 I q (by simp))
    | int j => obtain ⟨t', rfl⟩ := ry; exact PySem.EqMixed.ne_str_int (i9 I q (by simp))
    | str j => obtain ⟨t', rfl⟩ := ry; exact ne_str (i9 I q (congrArg not dec_str))
    | _ => exact absurd (show false = true from hs) Bool.false_ne_true
  | byt i =>
    obtain ⟨t, rfl⟩ := rx
    cases y with
    | byt j => obtain ⟨t', rfl⟩ := ry; exact PySem.W.ne_bytes (i9 I q (congrArg not dec_byt))
    | _ => exact absurd (show false = true from hs) Bool.false_ne_true
  | _ => cases y <;> exact absurd (show false = true from hs) Bool.false_ne_true
theorem op_lt : OpR X (compareOp .Lt) (rI0 fun i j => .bl (decide (i < j))) := opB0 fun _ _ _ _ _ _ _ q => lt_int q
theorem op_le : OpR X (compareOp .LtE) (rI0 fun i j => .bl (decide (i <= j))) := opB0 fun _ _ _ _ _ _ _ q => le_int q
theorem op_gt : OpR X (compareOp .Gt) (rI0 fun i j => .bl (decide (j < i))) := opB0 fun _ _ _ _ _ _ _ q => gt_int q
theorem op_isN : OpR X (compareOp .Is) (fun x y H Q => y = .non /\ Q (.bl (decide (x = .non))) H) := by
  intro pins s σ H x y v u Q I rx ry h
  obtain ⟨rfl, q⟩ := h
  cases ry
  refine is_none_gen (i9 I q ?_)
  cases x <;> first
    | (cases rx; rfl)
    | (obtain ⟨t, rfl⟩ := rx; rfl)
noncomputable def isObj : HO -> Bool
  | .lst _ => true
  | .ins _ _ _ => true
  | _ => false
theorem OpR.or {f : Value -> Value -> Sem Value} {r r' : R2} (h : OpR X f r) (h' : OpR X f r') : OpR X f (fun x y H Q => r x y H Q \/ r' x y H Q) := by
  intro pins s σ H x y v u Q I rx ry q
  rcases q with q | q
  · exact h pins s σ H x y v u Q I rx ry q
  · exact h' pins s σ H x y v u Q I rx ry q
theorem C5 (b : Expr) {op : CmpOp} (h : op ≠ .In := by decide) (h2 : op ≠ .NotIn := by decide) : behindInMarks op b = false := by
  have e1 : (op == CmpOp.In) = false := by cases op <;> first | rfl | exact absurd rfl h
  have e2 : (op == CmpOp.NotIn) = false := by cases op <;> first | rfl | exact absurd rfl h2
  cases b <;> simp [behindInMarks, e1, e2]
theorem pe_cmpR {op : CmpOp} {r : R2} (ho : OpR X (compareOp op) r) (ha : PE X a ta) (hb : PE X b tb) (hm : behindInMarks op b = false) : PE X (.Compare a [op] [b] pos) (tOp r ta tb) := by
  intro pins s σ H Q I h
  exact wpAny_Compare1 (binT ha hb I h fun v u s2 x y H2 I2 rx ry q => ho pins s2 σ H2 x y v u Q I2 rx ry q) hm
noncomputable def tTest (t : TE) : TT := fun σ H Q => t σ H fun x H' => ∃ k, x = .bl k /\ Q k H'
theorem BK {op : CmpOp} {r : R2} (ho : OpR X (compareOp op) r) (ha : PE X a ta) (hb : PE X b tb) (hm : behindInMarks op b = false) : PT X (.Compare a [op] [b] pos) (tTest (tOp r ta tb)) := by
  intro pins s σ H Q I h
  refine wpAny_isTrue_Compare1 (thn (ha pins s σ H _ I h) fun v s1 ⟨x, H1, I1, r1, q1⟩ => thn (hb pins s1 σ H1 _ I1 q1) fun u s2 ⟨y, H2, I2, r2, q2⟩ =>
    thn (ho pins s2 σ H2 x y v u _ I2 r1 r2 q2) fun c s3 ⟨z, H3, I3, r3, k, e, q3⟩ => ?_) hm
  subst e
  cases r3
  exact wpAny_truthy_bool ⟨H3, I3, q3⟩
noncomputable def Bz (r r' : R2) (ta tb tc : TE) : TE := fun σ H Q => ta σ H fun x H1 => tb σ H1 fun y H2 => r x y H2 fun z H3 => ∃ k, z = .bl k /\
  (if k = true then tc σ H3 fun w' H4 => r' y w' H4 Q else Q (.bl false) H3)
theorem pe_chain {op op' : CmpOp} {r r' : R2} (ho : OpR X (compareOp op) r) (ho' : OpR X (compareOp op') r') (ha : PE X a ta) (hb : PE X b tb) (hc : PE X c tc)
    (hm : lastMarks [op, op'] [b, c] = false := by with_unfolding_all rfl) : PE X (.Compare a [op, op'] [b, c] pos) (Bz r r' ta tb tc) := by
  intro pins s σ H Q I h
  refine Compare_chain (thn (ha pins s σ H _ I h) fun v s1 ⟨x, H1, I1, r1, q1⟩ => chain_link (thn (hb pins s1 σ H1 _ I1 q1) fun u s2 ⟨y, H2, I2, r2, q2⟩ =>
    thn (ho pins s2 σ H2 x y v u _ I2 r1 r2 q2) fun d s3 ⟨z, H3, I3, r3, k, e, q3⟩ => ?_)) hm
  subst e
  cases r3
  refine wpAny_truthy_bool ?_
  cases k with
  | false => exact ite_ff ⟨.bl false, H3, I3, rfl, q3⟩
  | true => exact ite_tt (chain_last (thn (hc pins s3 σ H3 _ I3 q3) fun w' s4 ⟨z', H4, I4, r4, q4⟩ => ho' pins s4 σ H4 y z' u w' Q I4 r2 r4 q4))
theorem pt_chain {op op' : CmpOp} {r r' : R2} (ho : OpR X (compareOp op) r) (ho' : OpR X (compareOp op') r') (ha : PE X a ta) (hb : PE X b tb) (hc : PE X c tc)
    (hm : lastMarks [op, op'] [b, c] = false := by with_unfolding_all rfl) : PT X (.Compare a [op, op'] [b, c] pos) (tTest (Bz r r' ta tb tc)) := by
  intro pins s σ H Q I h
  refine isTrue_chain (thn (ha pins s σ H _ I h) fun v s1 ⟨x, H1, I1, r1, q1⟩ => test_link (thn (hb pins s1 σ H1 _ I1 q1) fun u s2 ⟨y, H2, I2, r2, q2⟩ =>
    thn (ho pins s2 σ H2 x y v u _ I2 r1 r2 q2) fun d s3 ⟨z, H3, I3, r3, k, e, q3⟩ => ?_)) hm
  subst e
  cases r3
  refine wpAny_truthy_bool ?_
  cases k with
  | false =>
    obtain ⟨k', e', q'⟩ := q3
    cases e'
    exact ite_ff ⟨H3, I3, q'⟩
  | true =>
    refine ite_tt (test_last (thn (hc pins s3 σ H3 _ I3 q3) fun w' s4 ⟨z', H4, I4, r4, q4⟩ => thn (ho' pins s4 σ H4 y z' u w' _ I4 r2 r4 q4) fun d' s5 ⟨z2, H5, I5, r5, k2, e2, q5⟩ => ?_))
    subst e2
    cases r5
    exact wpAny_truthy_bool ⟨H5, I5, q5⟩
noncomputable def TruV (K : PySem.W.Frag) (x : V) (H : Hp) (k : Bool) : Prop :=
  match x with
  | .non => k = false
  | .bl b => k = b
  | .int i => k = (i != 0)
  | .str y => y.length <= sizeLine /\ k = ((y.length : Int) != 0)
  | .byt y => y.size <= sizeLine /\ k = ((y.size : Int) != 0)
  | .ref p => (∃ xs, SqL K H p xs /\ k = !xs.isEmpty) \/ (∃ xs, SqT K H p xs /\ k = !xs.isEmpty) \/ ∃ kvs, H p = some (.dK kvs) /\ k = !kvs.isEmpty
  | _ => False
theorem Ba {κ : Type} {kvs : List (κ × V)} {vs : List (κ × Value)} (r : KV kvs vs) : (!vs.isEmpty) = !kvs.isEmpty := by
  cases r <;> rfl
theorem uw {xs : List V} {its : List Value} (r : Vals xs its) : (!its.toArray.isEmpty) = !xs.isEmpty := by
  cases r <;> simp
theorem uq : (sizeLine : Nat) < 2 ^ 63 := by rw [sizeLine_eq]; decide
theorem tru_ok : TruR X (fun x H Q => ∃ k, TruV X.K x H k /\ Q k H) := by
  intro pins s σ H x v Q I rx h
  obtain ⟨k, e, q⟩ := h
  have hl := uq
  have hs : sizeLine = 16777216 := sizeLine_eq
  cases x with
  | non =>
    cases rx
    have e' : k = false := e
    subst e'
    exact truthy_none ⟨H, I, q⟩
  | bl b =>
    cases rx
    have e' : k = b := e
    subst e'
    exact wpAny_truthy_bool ⟨H, I, q⟩
  | int i =>
    obtain ⟨t, rfl⟩ := rx
    have e' : k = (i != 0) := e
    subst e'
    exact PySem.P.truthy_int ⟨H, I, q⟩
  | str y =>
    obtain ⟨t, rfl⟩ := rx
    obtain ⟨hy, e'⟩ : y.length <= sizeLine /\ k = ((y.length : Int) != 0) := e
    subst e'
    exact PySem.P.truthy_str (by omega) ⟨H, I.tok _, q⟩
  | byt y =>
    obtain ⟨t, rfl⟩ := rx
    obtain ⟨hy, e'⟩ : y.size <= sizeLine /\ k = ((y.size : Int) != 0) := e
    subst e'
    exact PySem.W.truthy_bytes (by omega) ⟨H, I.tok _, q⟩
  | ref p =>
    cases rx
    have e' : (∃ xs, SqL X.K H p xs /\ k = !xs.isEmpty) \/ (∃ xs, SqT X.K H p xs /\ k = !xs.isEmpty) \/ ∃ kvs, H p = some (.dK kvs) /\ k = !kvs.isEmpty := e
    rcases e' with ⟨xs, hx, e'⟩ | ⟨xs, hx, e'⟩ | ⟨kvs, hx, e'⟩
    · subst e'
      obtain ⟨its, r, pl, hz⟩ := I.list hx
      have hlen := r.length
      exact wpAny_truthy_list pl.isList (by simp only [List.size_toArray]; omega) ⟨H, I.tok _, by rw [uw r]; exact q⟩
    · subst e'
      obtain ⟨its, r, pl, hz⟩ := I.tuple hx
      have hlen := r.length
      exact truthy_tuple pl (by simp only [List.size_toArray]; omega) ⟨H, I.tok _, by rw [uw r]; exact q⟩
    · subst e'
      obtain ⟨hz, hS, vs, r, m⟩ : kvs.length <= sizeLine /\ (p == sysModules) = false /\ ∃ vs, KV kvs vs /\ s.heap.DictOf (zv X.prog X.w) p vs := I.hok p _ hx
      have hlen : kvs.length = vs.length := Paired.length r
      exact wpAny_truthy_dict hS m (by omega) ⟨H, I.tok _, by rw [Ba r]; exact q⟩
  | _ => exact (show False from e).elim
theorem pt_truth (ha : PE X a ta) (he : ∀ whole, isTrue a X.env whole = (do let v <- whole; standAt a.pos; holding [v] (truthy v))) :
    PT X a (fun σ H Q => ta σ H fun x H' => ∃ k, TruV X.K x H' k /\ Q k H') := by
  intro pins s σ H Q I h
  exact isTrue_plain (thn (ha pins s σ H _ I h) fun v s1 ⟨x, H1, I1, r1, q1⟩ => tru_ok pins s1 σ H1 x v Q I1 r1 q1) (he _)
theorem AZ : OpR X (binaryOp .Add) (fun x y H Q => ∃ i j, x = .str i /\ y = .str j /\ i.length + j.length <= sizeLine /\ Q (.str (i ++ j)) H) := by
  intro pins s σ H x y v u Q I rx ry h
  obtain ⟨i, j, rfl, rfl, hz, q⟩ := h
  obtain ⟨t, rfl⟩ := rx
  obtain ⟨t', rfl⟩ := ry
  exact add_str (fun t' tk => ⟨.str (i ++ j), H, I.tok _, ⟨_, rfl⟩, q⟩) hz
theorem vals1 {x : V} {us : List Value} (r : Vals [x] us) : ∃ u, us = [u] /\ RelV x u := by
  cases r with
  | cons r1 r2 => cases r2; exact ⟨_, rfl, r1⟩
theorem vals2 {x y : V} {us : List Value} (r : Vals [x, y] us) : ∃ u w', us = [u, w'] /\ RelV x u /\ RelV y w' := by
  cases r with
  | cons r1 r2 =>
    cases r2 with
    | cons r3 r4 => cases r4; exact ⟨_, _, rfl, r1, r3⟩
theorem CS (hc : X.calm = true) : i5 X (.builtin "max") (fun xs H Q => ∃ i j, xs = [.int i, .int j] /\ Q (.int (if j > i then j else i)) H) := by
  intro pins s σ H xs us Q I r h
  obtain ⟨i, j, rfl, q⟩ := h
  obtain ⟨u, w', rfl, ⟨t, rfl⟩, ⟨t', rfl⟩⟩ := vals2 r
  refine max_two_ints (I.ok.hd hc) fun h' tk k => ⟨_, H, I.kept k, ?_, q⟩
  by_cases hj : j > i
  · rw [if_pos hj, if_pos hj]; exact ⟨_, rfl⟩
  · rw [if_neg hj, if_neg hj]; exact ⟨_, rfl⟩
end
end L2
namespace L2
open PySem PySem.Spec PyProof.Rows
structure ObjM (h : Heap) (x dx C : Addr) (mA : Str -> Option Value) : Prop where
  obj : h.get? x = some (PySem.W.instObj C dx)
  ns : h.Ns1 dx mA
  ne : dx ≠ x
theorem Cc {h : Heap} {dx : Addr} {mA : Str -> Option Value} (n : h.Ns1 dx mA) : ∃ od, h.get? dx = some od /\ ∀ name, PySem.W.lookIn name od = some (mA name) := by
  obtain ⟨o, es, ep, ho, hd, hk, _, hm⟩ := n
  refine ⟨o, ho, fun name => ?_⟩
  have e := hm name
  unfold nsFind findBy at e
  rw [<- Array.find?_toList] at e
  unfold PySem.W.lookIn
  rw [hd]
  dsimp only
  split
  · rename_i y q
    rw [q] at e
    exact congrArg some e
  · rename_i q
    rw [q] at e
    have a : es.toList.any (·.refKey) = false := by
      rw [List.any_eq_false]
      intro y hy
      obtain ⟨z, t, hkey⟩ := hk y (Array.mem_toList_iff.mp hy)
      simp [DictEntry.refKey, hkey]
    have a' : ¬ es.toList.any (·.refKey) = true := by rw [a]; exact Bool.false_ne_true
    rw [if_neg a']
    exact congrArg some e
theorem ObjM.look {h : Heap} {x dx C : Addr} {mA : Str -> Option Value} (I : ObjM h x dx C mA) : ∃ od, PySem.W.InstAt h x (PySem.W.instObj C dx) C (some od) /\ ∀ name, PySem.W.lookIn name od = some (mA name) :=
  let ⟨od, ho, hl⟩ := Cc I.ns
  ⟨od, ⟨I.obj, rfl, rfl, ho⟩, hl⟩
section
variable {prog : Program} {w : World} {A : Around} {E : Value -> Shared -> Prop} {s : Shared} {K : PySem.W.Frag} {x dx C f : Addr} {mA : Str -> Option Value} {name : Str} {v : Value}
theorem get_map {expr : Bool} {Q : Value -> Shared -> Prop} (X : K.In s.heap) (I : ObjM s.heap x dx C mA) (hg : PySem.W.plainGet K C name = true) (hh : PySem.W.hasDictIn K C = true)
    (ha : PySem.W.findIn K (.ref C) name = some none) (hv : mA name = some v) (hv' : PySem.W.handedIn v = true) (h : Q v { s with toks := s.toks + 1 }) :
    wpAny (model prog w) A (getAttr (.ref x) name expr) Q E s := by
  obtain ⟨od, J, hl⟩ := I.look
  exact PySem.W.get_value X J (PySem.W.plainGet_of hg).1 (PySem.W.findObj_own hh ha rfl (by rw [hl, hv])) hv' h
theorem get_meth {pl : Sem Bool} {Q : Value × List Value -> Shared -> Prop} (X : K.In s.heap) (I : ObjM s.heap x dx C mA) (hg : PySem.W.plainGet K C name = true)
    (hf : PySem.W.findIn K (.ref C) name = some (some (.ref f))) (ht : PySem.W.isFn K (.ref f) = true) (hv : mA name = none) (h : Q (.ref f, [.ref x]) s) :
    wpAny (model prog w) A (getMethod (.ref x) name pl) Q E s := by
  obtain ⟨od, J, hl⟩ := I.look
  exact PySem.W.method_fn X J (PySem.W.plainGet_of hg).1 (PySem.W.plainGet_of hg).2 hf (beq_iff_eq.mp ht) (by show (PySem.W.lookIn name od).map (·.isSome) = some false; rw [hl, hv]; rfl) h
theorem set_map {ns : List Str} {Q : Unit -> Shared -> Prop} (X : K.In s.heap) (I : ObjM s.heap x dx C mA)
    (hs : PySem.W.findIn K (.ref C) "__setattr__" = some (some (.builtin "object.__setattr__"))) (hp : PySem.W.plainOver K C = true) (ht : PySem.W.takerIn K C name = some none) (hh : PySem.W.hasDictIn K C = true)
    (hw : PySem.Within mA ns) (hsz : ns.length <= sizeLine)
    (h : ∀ h', ObjM h' x dx C (fun y => if y = name then some v else mA y) -> Heap.SameBut dx s.heap h' -> Q () { s with heap := h', toks := s.toks + 2 }) :
    wpAny (model prog w) A (setAttr (.ref x) name v) Q E s := by
  obtain ⟨od, J, hl⟩ := I.look
  refine PySem.W.set_plain X J hs (PySem.W.osa_open (s := { s with toks := s.toks + 1 }) (r := none) X J hp ht fun b => ?_)
  obtain ⟨cd, hc, hd'⟩ := PySem.W.any_some hh
  have hx : s.heap.get? x = some ⟨.ref C, some dx, .plain, #[]⟩ := I.obj
  refine wpAny_bind (wpAny_pure (wpAny_bind (wpAny_bind (wpAny_loadPart hx (wpAny_bind (PySem.W.Looks.here (s := { s with toks := s.toks + 1 }) (PySem.W.looks_clsIn X hc) ?_))))))
  rw [hd']
  refine wpAny_pure (a := some dx) (wpAny_bind (wpAny_pure (wpAny_bind ?_)))
  refine wpAny_nsSet1 (s := { s with toks := s.toks + 1 }) I.ns fun h' hn2 hs2 => ?_
  obtain ⟨oD, esD, epD, hoD, hdD, hcD⟩ := hn2.count (PySem.Within.cons name v hw)
  refine wpAny_bind (wpAny_lookBehind hoD (by rw [hdD]; exact pastItsLine_dict (Nat.le_trans hcD (by rw [List.length_cons]; omega))) ?_)
  exact wpAny_pure (h _ ⟨(hs2.2 _ (Ne.symm I.ne)).trans I.obj, hn2, I.ne⟩ hs2)
theorem make_map {R : Result -> Shared -> Prop} {vs : List Value} {kw : List (Str × Value)} (X : K.In s.heap) (hm : PySem.W.makesIn K C = true)
    (hi : PySem.W.findIn K (.ref C) "__init__" = some (some (.ref f))) (hf : PySem.W.typeIn K (.ref f) = some (.type "function"))
    (h : codeAny (model prog w) (A.under (.builtin "type.__call__" ⟨.ref C :: vs, kw⟩)) (.call (.ref f) ⟨.ref (s.heap.objs.size + 1) :: vs, kw⟩) (PySem.W.InitBack (s.heap.objs.size + 1) R)
      { s with heap := (s.heap.push PySem.W.emptyDict).push (PySem.W.instObj C s.heap.objs.size) }) :
    codeAny (model prog w) A (.call (.ref C) ⟨vs, kw⟩) R s := by
  obtain ⟨hh, g, d, t, os⟩ := s
  exact PySem.W.make_core (PySem.W.makes_of X hm) (PySem.W.looks_findIn X hi) (fun self => PySem.W.bind_fn X self hf) (.inl rfl) h
end
noncomputable def wQ (f : Str) (v : V) : List (Str × V) -> List (Str × V)
  | [] => [(f, v)]
  | (g, x) :: r => if g = f then (g, v) :: r else (g, x) :: wQ f v r
theorem si (f g : Str) (v : V) : ∀ fs : List (Str × V), (wQ f v fs).lookup g = if g = f then some v else fs.lookup g
  | [] => by
    show List.lookup g [(f, v)] = _
    by_cases h : g = f
    · have hb : (g == f) = true := beq_iff_eq.mpr h
      simp only [List.lookup, hb, if_pos h]
    · have hb : (g == f) = false := beq_eq_false_iff_ne.mpr h
      simp only [List.lookup, hb, if_neg h]
  | (k, x) :: r => by
    have ih := si f g v r
    rw [show wQ f v ((k, x) :: r) = (if k = f then (k, v) :: r else (k, x) :: wQ f v r) from rfl]
    by_cases hk : k = f
    · rw [if_pos hk]
      by_cases h : g = k
      · have hb : (g == k) = true := beq_iff_eq.mpr h
        simp only [List.lookup, hb, if_pos (h.trans hk)]
      · have hb : (g == k) = false := beq_eq_false_iff_ne.mpr h
        simp only [List.lookup, hb, if_neg (fun e : g = f => h (e.trans hk.symm))]
    · rw [if_neg hk]
      by_cases h : g = k
      · have hb : (g == k) = true := beq_iff_eq.mpr h
        simp only [List.lookup, hb, if_neg (fun e : g = f => hk (h.symm.trans e))]
      · have hb : (g == k) = false := beq_eq_false_iff_ne.mpr h
        simp only [List.lookup, hb]
        exact ih
theorem so (f : Str) (v : V) : ∀ fs : List (Str × V), f ∈ (wQ f v fs).map (·.1) /\ ∀ g, g ∈ fs.map (·.1) -> g ∈ (wQ f v fs).map (·.1)
  | [] => ⟨by simp [wQ], fun g h => by simp at h⟩
  | (k, x) :: r => by
    obtain ⟨i1, i2⟩ := so f v r
    rw [show wQ f v ((k, x) :: r) = (if k = f then (k, v) :: r else (k, x) :: wQ f v r) from rfl]
    by_cases hk : k = f
    · rw [if_pos hk]
      subst hk
      exact ⟨by simp, fun g h => by simpa using h⟩
    · rw [if_neg hk]
      refine ⟨?_, fun g h => ?_⟩
      · rw [List.map_cons]
        exact List.mem_cons_of_mem _ i1
      · rw [List.map_cons] at h ⊢
        rcases List.mem_cons.mp h with e | e
        · exact List.mem_cons.mpr (.inl e)
        · exact List.mem_cons_of_mem _ (i2 g e)
theorem sk (f : Str) (v : V) : ∀ fs : List (Str × V), (wQ f v fs).length <= fs.length + 1
  | [] => by simp [wQ]
  | (k, x) :: r => by
    have ih := sk f v r
    rw [show wQ f v ((k, x) :: r) = (if k = f then (k, v) :: r else (k, x) :: wQ f v r) from rfl]
    by_cases hk : k = f
    · rw [if_pos hk, List.length_cons, List.length_cons]; omega
    · rw [if_neg hk, List.length_cons, List.length_cons]; omega
theorem RelO.some_of {v : V} {o : Option Value} (r : RelO (some v) o) : ∃ u, o = some u /\ RelV v u := by
  cases o with
  | none => exact (show False from r).elim
  | some u => exact ⟨u, rfl, r⟩
theorem RelO.none_of {o : Option Value} (r : RelO none o) : o = none := by
  cases o with
  | none => rfl
  | some u => exact (show False from r).elim
theorem Ct {v : V} {u : Value} (r : RelV v u) : PySem.W.handedIn u = true := by
  cases v with
  | non => cases (show u = Value.none from r); rfl
  | bl b => cases (show u = Value.bool b from r); rfl
  | int i => obtain ⟨t, e⟩ := (show ∃ t, u = Value.int i t from r); cases e; rfl
  | str x => obtain ⟨t, e⟩ := (show ∃ t, u = Value.str x t from r); cases e; rfl
  | byt b => obtain ⟨t, e⟩ := (show ∃ t, u = Value.bytes b t from r); cases e; rfl
  | flt b => obtain ⟨t, e⟩ := (show ∃ t, u = Value.float b t from r); cases e; rfl
  | ref a => cases (show u = Value.ref a from r); rfl
  | ty n => cases (show u = Value.type n from r); rfl
section
variable {P : Program} {w : World} {H H' : Hp} {h h' : Heap} {a C dx : Addr} {fs fs' : List (Str × V)}
theorem vR (hok : HOk P w H h) (e : H a = some (.ins C dx fs)) : ∃ mA, ObjM h a dx C mA /\ (∀ f, RelO (fs.lookup f) (mA f)) /\ PySem.Within mA (fs.map (·.1)) /\ fs.length <= 1000 /\ H dx = some (.own a) := by
  obtain ⟨d, z, ne, ob, mA, n, r, q⟩ := (show jc P w H h a (.ins C dx fs) from hok a _ e)
  exact ⟨mA, ⟨ob, n, ne⟩, r, q, z, d⟩
end
structure Cls (K : PySem.W.Frag) (C : Addr) : Prop where
  pg : PySem.W.plainGet K C Str.empty = true
  hd : PySem.W.hasDictIn K C = true
  po : PySem.W.plainOver K C = true
  sa : PySem.W.findIn K (.ref C) "__setattr__" = some (some (.builtin "object.__setattr__"))
theorem Cls.get {K : PySem.W.Frag} {C : Addr} (c : Cls K C) (f : Str) : PySem.W.plainGet K C f = true := c.pg
noncomputable def lx (K : PySem.W.Frag) (C : Addr) (f : Str) : Prop := PySem.W.findIn K (.ref C) f = some none
theorem lx.taker {K : PySem.W.Frag} {C : Addr} {f : Str} (n : lx K C f) : PySem.W.takerIn K C f = some none := by
  unfold PySem.W.takerIn
  rw [show PySem.W.findIn K (.ref C) f = some none from n]
  rfl
structure Con (K : PySem.W.Frag) (C : Addr) (f : Str) (v : V) (u : Value) : Prop where
  at_ : PySem.W.findIn K (.ref C) f = some (some u)
  rel : RelV v u
  get : PySem.W.specialIn K u "__get__" = some none
  cp : PySem.W.copiedNames.contains f = false
structure Meth (K : PySem.W.Frag) (C : Addr) (m : Str) (f : Addr) : Prop where
  at_ : PySem.W.findIn K (.ref C) m = some (some (.ref f))
  fn : PySem.W.isFn K (.ref f) = true
  kp : PySem.W.keepIn K (.ref f) = true
section
variable {X : Cx} {pins : List (Addr × Obj)} {σ : St} {H : Hp} {s : Shared} {a C dx : Addr} {fs : List (Str × V)} {f : Str} {v : V} {A : Around} {E : Value -> Shared -> Prop}
theorem Bc {b : Bool} {Q : Value -> Shared -> Prop} (I : Inv X pins σ H s) (e : H a = some (.ins C dx fs)) (c : Cls X.K C) (n : lx X.K C f) (l : fs.lookup f = some v)
    (h : ∀ u s', Inv X pins σ H s' -> RelV v u -> Q u s') : wpAny (model X.prog X.w) A (getAttr (.ref a) f b) Q E s := by
  obtain ⟨mA, O, r, _, _, _⟩ := vR I.hok e
  obtain ⟨u, hu, ru⟩ := RelO.some_of (v := v) (o := mA f) (by rw [<- l]; exact r f)
  exact get_map I.kIn O (c.get f) c.hd n hu (Ct ru) (h u _ (I.tok _) ru)
theorem qA {m : Str} {g : Addr} {pl : Sem Bool} {Q : Value × List Value -> Shared -> Prop} (I : Inv X pins σ H s) (e : H a = some (.ins C dx fs)) (c : Cls X.K C) (k : Meth X.K C m g) (l : fs.lookup m = none)
    (h : Q (.ref g, [.ref a]) s) : wpAny (model X.prog X.w) A (getMethod (.ref a) m pl) Q E s := by
  obtain ⟨mA, O, r, _, _, _⟩ := vR I.hok e
  have hn : mA m = none := RelO.none_of (by rw [<- l]; exact r m)
  exact get_meth I.kIn O (c.get m) k.at_ k.fn hn h
theorem AS {y : V} {u : Value} {Q : Unit -> Shared -> Prop} (I : Inv X pins σ H s) (e : H a = some (.ins C dx fs)) (c : Cls X.K C) (n : lx X.K C f) (hl : fs.length < 1000) (ry : RelV y u)
    (h : ∀ s', Inv X pins σ (upd H a (.ins C dx (wQ f y fs))) s' -> Q () s') : wpAny (model X.prog X.w) A (setAttr (.ref a) f u) Q E s := by
  obtain ⟨mA, O, r, wi, _, ho⟩ := vR I.hok e
  have hz : (fs.map (·.1)).length <= sizeLine := by rw [List.length_map, sizeLine_eq]; omega
  refine set_map I.kIn O c.sa c.po n.taker c.hd wi hz fun h' O' sb => h _ ?_
  have hd : ∃ o, h'.get? dx = some o := let ⟨o, _, _, e', _⟩ := O'.ns; ⟨o, e'⟩
  refine I.write (x := a) (e := dx) (by rw [e]; exact True.intro) (.inr ho) (fun b q hb z => (sb.2 b hb).trans z) hd ?_
  refine ⟨by rw [av O.ne]; exact ho, ?_, O.ne, O'.obj, _, O'.ns, fun g => ?_, fun g hg => ?_⟩
  · have := sk f y fs; omega
  · show RelO ((wQ f y fs).lookup g) (if g = f then some u else mA g)
    rw [si]
    by_cases q : g = f
    · rw [if_pos q, if_pos q]; exact ry
    · rw [if_neg q, if_neg q]; exact r g
  · by_cases q : g = f
    · rw [q]; exact (so f y fs).1
    · refine (so f y fs).2 g (wi g fun z => hg ?_)
      show (if g = f then some u else mA g) = none
      rw [if_neg q]; exact z
theorem Inv.made (I : Inv X pins σ H s) : Inv X pins σ (upd (upd H s.heap.objs.size (.own (s.heap.objs.size + 1))) (s.heap.objs.size + 1) (.ins C s.heap.objs.size []))
    { s with heap := (s.heap.push PySem.W.emptyDict).push (PySem.W.instObj C s.heap.objs.size) } := by
  have e1 : (s.heap.push PySem.W.emptyDict).get? s.heap.objs.size = some PySem.W.emptyDict := Heap.get?_push_size s.heap rfl
  have e2 : ((s.heap.push PySem.W.emptyDict).push (PySem.W.instObj C s.heap.objs.size)).get? (s.heap.objs.size + 1) = some (PySem.W.instObj C s.heap.objs.size) := by
    have := Heap.get?_push_size (s.heap.push PySem.W.emptyDict) (o := PySem.W.instObj C s.heap.objs.size) rfl
    rwa [Heap.size_push] at this
  have e3 : (s.heap.push PySem.W.emptyDict).Ns s.heap.objs.size (fun _ => none) := ⟨PySem.W.emptyDict, #[], _, e1, rfl, (fun e he => absurd he (by simp)), fun _ => rfl⟩
  have I1 := I.laid (a := s.heap.objs.size) (o := .own (s.heap.objs.size + 1)) (h' := s.heap.push PySem.W.emptyDict) (t' := s.toks) (fun b u q => Heap.get?_push_of_some _ q) (Nat.le_refl _) ⟨_, e1⟩
  refine I1.laid (a := s.heap.objs.size + 1) (o := .ins C s.heap.objs.size []) (t' := s.toks) (fun b u q => Heap.get?_push_of_some _ q) (Nat.le_of_eq (Heap.size_push _ _)) ?_
  have ne : s.heap.objs.size ≠ s.heap.objs.size + 1 := Nat.ne_of_lt (Nat.lt_succ_self _)
  refine ⟨by rw [av ne, aE], Nat.zero_le _, ne, e2, fun _ => none, (Heap.Ns1.of_empty e3).at fun o q => Heap.get?_push_of_some _ q, fun _ => True.intro, fun y hy => absurd rfl hy⟩
theorem attr_of {prog : Program} {w : World} {env : Env} {e : Expr} {f : Str} {pos : Pos} {s : Shared} {Q : Value -> Shared -> Prop} (hb : attributeBase e f env (eval e env) = eval e env)
    (h : wpAny (model prog w) A (eval e env) (fun o s₁ => wpAny (model prog w) A (getAttr o f true) Q E s₁) E s) : wpAny (model prog w) A (eval (.Attribute e f pos) env) Q E s :=
  Attribute_any_ h (by rw [arm_eval_Attribute, hb])
end
noncomputable def tFld (K : PySem.W.Frag) (ta : TE) (f : Str) : TE := fun σ H Q => ta σ H fun x H1 => ∃ a C dx fs v, x = .ref a /\ H1 a = some (.ins C dx fs) /\ Cls K C /\ lx K C f /\ fs.lookup f = some v /\ Q v H1
noncomputable def sFld (K : PySem.W.Frag) (ta tv : TE) (f : Str) : TS := fun D σ H => tv σ H fun y H1 => ta σ H1 fun x H2 => ∃ a C dx fs, x = .ref a /\ H2 a = some (.ins C dx fs) /\ Cls K C /\ lx K C f /\ fs.length < 1000 /\
  D.nx σ (upd H2 a (.ins C dx (wQ f y fs)))
section
variable {X : Cx} {o e value : Expr} {f : Str} {pos pos' tpos : Pos} {ta tv : TE}
theorem BS (he : PE X e ta) (hb : attributeBase e f X.env (eval e X.env) = eval e X.env) : PE X (.Attribute e f pos) (tFld X.K ta f) := by
  intro pins s σ H Q I h
  refine attr_of hb (thn (he pins s σ H _ I h) fun u s1 ⟨x, H1, I1, rx, a, C, dx, fs, v, ex, ea, c, n, l, q⟩ => ?_)
  subst ex
  obtain rfl : u = Value.ref a := rx
  exact Bc I1 ea c n l fun u' s2 I2 ru => ⟨v, H1, I2, ru, q⟩
theorem ps_fld (ha : PE X o ta) (hv : PE X value tv) (hs : swapsWith value (some (.Attribute o f pos')) pos.line X.env = pure false) : PS X (.Assign [.Attribute o f pos'] value pos) (sFld X.K ta tv f) := by
  intro pins s σ H D I h
  refine plainObj_wpAny_Assign_Attribute (thn (hv pins s σ H _ I h) fun u s1 ⟨y, H1, I1, ry, q⟩ => thn (ha pins s1 σ H1 _ I1 q) fun ov s2 ⟨x, H2, I2, rx, a, C, dx, fs, ex, ea, c, n, l, q2⟩ => ?_) hs
  subst ex
  obtain rfl : ov = Value.ref a := rx
  exact AS I2 ea c n l ry fun s3 I3 => ⟨σ, _, I3, q2⟩
theorem methcall_of {pl : Sem Bool} {m : Str} {apos : Pos} {args : List Expr} {pins : List (Addr × Obj)} {s : Shared} {σ : St} {H : Hp} {Q : Value -> Shared -> Prop} {te : TE} (he : PE X e te) (I : Inv X pins σ H s)
    (h : te σ H fun x H1 => ∃ a C dx fs g, x = .ref a /\ H1 a = some (.ins C dx fs) /\ Cls X.K C /\ Meth X.K C m g /\ fs.lookup m = none /\
      ∀ s1, Inv X pins σ H1 s1 -> wpAny (model X.prog X.w) X.A (callWith pos (.ref g) [.ref a] (backTo pos (starEach args X.env)) (backToKw pos (keywordEach [] X.env))) Q X.xe s1)
    (ht : eval (.Call (.Attribute e m apos) args [] pos) X.env = (do
      let ov <- eval e X.env
      standAt apos.atName
      let (f, first) <- holding [ov] (getMethod ov m pl)
      callWith pos f first (backTo pos (starEach args X.env)) (backToKw pos (keywordEach [] X.env)))) :
    wpAny (model X.prog X.w) X.A (eval (.Call (.Attribute e m apos) args [] pos) X.env) Q X.xe s := by
  refine PySem.W.methodCall_KW (pl := pl) (thn (he pins s σ H _ I h) fun u s1 ⟨x, H1, I1, rx, a, C, dx, fs, g, ex, ea, c, k, l, q⟩ => ?_) ht
  subst ex
  obtain rfl : u = Value.ref a := rx
  exact qA I1 ea c k l (q s1 I1)
end
section
variable {X : Cx} {pins : List (Addr × Obj)} {σ : St} {H : Hp} {s : Shared} {A : Around} {E : Value -> Shared -> Prop} {Q : Value -> Shared -> Prop} {c : Value} {b : Bool}
inductive AH (K : PySem.W.Frag) (H : Hp) : V -> Value -> Prop where
  | non : AH K H .non (.type "NoneType")
  | bl (x : Bool) : AH K H (.bl x) (.type "bool")
  | int (i : Int) : AH K H (.int i) (.type "int")
  | str (x : Str) : AH K H (.str x) (.type "str")
  | flt (x : UInt64) : AH K H (.flt x) (.type "float")
  | lst {a : Addr} {xs : List V} (e : H a = some (.lst xs)) : AH K H (.ref a) (.type "list")
  | frz {a : Addr} {o : Obj} {xs : List V} (e : H a = some (.frz o (.lst xs))) : AH K H (.ref a) (.type "list")
  | tup {a : Addr} {xs : List V} (e : H a = some (.tup xs)) : AH K H (.ref a) (.type "tuple")
  | dK {a : Addr} {kvs : List (Key × V)} (e : H a = some (.dK kvs)) : AH K H (.ref a) (.type "dict")
  | dT {a : Addr} {kvs : List (List Key × V)} (e : H a = some (.dT kvs)) : AH K H (.ref a) (.type "dict")
  | ins {a C dx : Addr} {fs : List (Str × V)} (e : H a = some (.ins C dx fs)) (cl : Cls K C) (ha : PySem.W.findIn K (.ref C) "__class__" = some (some (.builtin "object.__class__")))
      (hn : PySem.W.specialIn K (.builtin "object.__class__") "__get__" = some (some (.builtin "getset_descriptor.__get__"))) (htk : PySem.W.takesIn K (.builtin "object.__class__") = some true)
      (hm : PySem.W.mroIn K C (.type "object") = some true) : AH K H (.ref a) (.ref C)
theorem Cn {x : V} {u t : Value} (I : Inv X pins σ H s) (rx : RelV x u) (ty : AH X.K H x t) (e : PySem.W.kitOne X.K t c = some b) (h : ∀ tk, Q (.bool b) { s with toks := tk }) :
    wpAny (model X.prog X.w) A (call (.builtin "isinstance") [u, c]) Q E s := by
  cases ty with
  | non => cases (show u = Value.none from rx); exact PySem.W.kia_one PySem.W.kitx_none I.kIn True.intro e (fun z => nomatch z) h
  | bl y => cases (show u = Value.bool y from rx); exact PySem.W.kia_one PySem.W.kitx_bool I.kIn True.intro e (fun z => nomatch z) h
  | int i => obtain ⟨t, q⟩ := (show ∃ t, u = Value.int i t from rx); cases q; exact PySem.W.kia_one PySem.W.kitx_int I.kIn True.intro e (fun z => nomatch z) h
  | str y => obtain ⟨t, q⟩ := (show ∃ t, u = Value.str y t from rx); cases q; exact PySem.W.kia_one PySem.W.kitx_str I.kIn True.intro e (fun z => nomatch z) h
  | flt y => obtain ⟨t, q⟩ := (show ∃ t, u = Value.float y t from rx); cases q; exact PySem.W.kia_one PySem.W.kitx_float I.kIn True.intro e (fun z => nomatch z) h
  | @lst a xs ea =>
    cases (show u = Value.ref a from rx)
    obtain ⟨_, _, n, _, h1⟩ := (show jc X.prog X.w H s.heap a (.lst xs) from I.hok a _ ea)
    exact PySem.W.kia_one PySem.W.kitx_list I.kIn ⟨_, h1, rfl⟩ e (fun z => nomatch z) h
  | @frz a ob xs ea =>
    cases (show u = Value.ref a from rx)
    obtain ⟨_, _, _, n, _, h1⟩ := (show jc X.prog X.w H s.heap a (.frz ob (.lst xs)) from I.hok a _ ea)
    exact PySem.W.kia_one PySem.W.kitx_list I.kIn ⟨_, h1, rfl⟩ e (fun z => nomatch z) h
  | @tup a xs ea =>
    cases (show u = Value.ref a from rx)
    obtain ⟨_, _, _, p⟩ := (show jc X.prog X.w H s.heap a (.tup xs) from I.hok a _ ea)
    obtain ⟨o, h1, h2, _⟩ := p
    exact PySem.W.kia_one PySem.W.kitx_tuple I.kIn ⟨o, h1, h2⟩ e (fun z => nomatch z) h
  | @dK a kvs ea =>
    cases (show u = Value.ref a from rx)
    obtain ⟨_, _, vs, _, p⟩ := (show jc X.prog X.w H s.heap a (.dK kvs) from I.hok a _ ea)
    obtain ⟨o, es, ep, h1, h2, _⟩ := p
    exact PySem.W.kia_one PySem.W.kitx_dict I.kIn ⟨o, h1, h2.1⟩ e (fun z => nomatch z) h
  | @dT a kvs ea =>
    cases (show u = Value.ref a from rx)
    obtain ⟨_, _, xs, _, o, es, ep, h1, h2, _⟩ := (show jc X.prog X.w H s.heap a (.dT kvs) from I.hok a _ ea)
    exact PySem.W.kia_one PySem.W.kitx_dict I.kIn ⟨o, h1, h2.1⟩ e (fun z => nomatch z) h
  | @ins a C dx fs ea cl ha hn htk hm =>
    cases (show u = Value.ref a from rx)
    obtain ⟨mA, O, _⟩ := vR I.hok ea
    obtain ⟨od, J, _⟩ := O.look
    exact PySem.W.kia_one (PySem.W.kitx_own (cl.get _) cl.hd ha hn htk hm) I.kIn J e (fun z => nomatch z) h
end
end L2
namespace L2
open PySem PySem.Spec PyProof.Rows
structure mO (k : Nat) (A : Around) : Prop where
  hd : A.handled = none
  dp : A.depth + 3 * k + 5 < recursionLimit
  un : A.units + 16 * k + 200 < cLine
theorem mO.mono {j k : Nat} {A : Around} (r : mO k A) (h : j <= k) : mO j A := ⟨r.hd, by have := r.dp; omega, by have := r.un; omega⟩
theorem mO.deeper {k : Nat} {A : Around} (r : mO (k + 1) A) (env : Env) : mO k (A.deeper env) :=
  ⟨r.hd, by have := r.dp; show A.depth + 1 + 3 * k + 5 < _; omega, by have := r.un; show A.units + 3 + 16 * k + 200 < _; omega⟩
theorem B4 {A : Around} {C : Addr} {us : List Value} {kw : List (Str × Value)} : (A.under (.builtin "type.__call__" ⟨.ref C :: us, kw⟩)).depth = A.depth + 1 := by
  first | rfl | simp [Around.under, Code.weight, Code.isCreation, Code.isGuard, Code.isCaller, Code.frames, Code.isFrame, guardIds]
theorem B3 {A : Around} {C : Addr} {us : List Value} {kw : List (Str × Value)} : (A.under (.builtin "type.__call__" ⟨.ref C :: us, kw⟩)).units = A.units + 1 := by
  first | rfl | simp [Around.under, Code.cUnits, Code.frames, Code.isFrame]
theorem mO.make {k : Nat} {A : Around} (r : mO (k + 1) A) (C : Addr) (us : List Value) (kw : List (Str × Value)) : mO k (A.under (.builtin "type.__call__" ⟨.ref C :: us, kw⟩)) :=
  ⟨r.hd, by have := r.dp; rw [B4]; omega, by have := r.un; rw [B3]; omega⟩
theorem mO.depth {k : Nat} {A : Around} (r : mO k A) : A.depth < recursionLimit := by have := r.dp; omega
theorem mO.units {k : Nat} {A : Around} (r : mO k A) : A.units + 64 < cLine := by have := r.un; omega
noncomputable def tNil : TA := fun _ H Q => Q [] H
noncomputable def tf (ta : TE) (tr : TA) : TA := fun σ H Q => ta σ H fun x H1 => tr σ H1 fun xs H2 => Q (x :: xs) H2
section
variable {X : Cx} {e : Expr} {es : List Expr} {te : TE} {t : TA} {pos : Pos}
theorem jf : PA X [] tNil := fun _ _ _ _ H Q I h => Calls.spliced_nil ⟨[], H, I, .nil, h⟩
theorem dj (ha : PE X e te) (hr : PA X es t) (hs : starEach (e :: es) X.env = (false, eval e X.env) :: starEach es X.env := by rfl) : PA X (e :: es) (tf te t) := by
  intro pos pins s σ H Q I h
  rw [hs]
  show wpAny _ _ (spliced ((false, eval e X.env) :: backTo pos (starEach es X.env))) _ _ s
  refine Calls.spliced_cons (thn (ha pins s σ H _ I h) fun u s1 ⟨x, H1, I1, r1, q1⟩ => ?_)
  exact thn (hr pos pins s1 σ H1 _ I1 q1) fun us s2 ⟨xs, H2, I2, r2, q2⟩ => ⟨x :: xs, H2, I2, .cons r1 r2, q2⟩
noncomputable def tTup (t : TA) : TE := fun σ H Q => t σ H fun xs H1 => xs.length <= sizeLine /\ ∀ p, H1 p = none -> Q (.ref p) (upd H1 p (.tup xs))
noncomputable def tLst (t : TA) : TE := fun σ H Q => t σ H fun xs H1 => xs.length <= sizeLine /\ ∀ p, H1 p = none -> Q (.ref p) (upd H1 p (.lst xs))
theorem pe_tup {x1} (h : PA X es t) : PE X (.Tuple es x1 pos) (tTup t) := by
  intro pins s σ H Q I hq
  refine wpAny_Tuple_spliced (thn (h pos pins s σ H _ I hq) fun us s1 ⟨xs, H1, I1, r, z, q⟩ => ⟨by rw [<- r.length]; exact z, ?_⟩)
  have hf : H1 s1.heap.objs.size = none := I1.hok.fresh (Nat.le_refl _)
  refine ⟨.ref s1.heap.objs.size, upd H1 s1.heap.objs.size (.tup xs), I1.laid (t' := s1.toks) (fun b u e => Heap.get?_push_of_some _ e) (Nat.le_refl _) ?_, rfl, q _ hf⟩
  exact ⟨z, us, r, ⟨_, Heap.get?_push_size _ rfl, rfl, _, rfl⟩⟩
theorem pe_lst (h : PA X es t) : PE X (.List es pos) (tLst t) := by
  intro pins s σ H Q I hq
  refine wpAny_List_spliced (thn (h pos pins s σ H _ I hq) fun us s1 ⟨xs, H1, I1, r, z, q⟩ => ⟨by rw [<- r.length]; exact z, ?_⟩)
  have hf : H1 s1.heap.objs.size = none := I1.hok.fresh (Nat.le_refl _)
  refine ⟨.ref s1.heap.objs.size, upd H1 s1.heap.objs.size (.lst xs), I1.laid (t' := s1.toks) (fun b u e => Heap.get?_push_of_some _ e) (Nat.le_refl _) ?_, rfl, q _ hf⟩
  exact ⟨z, us, 0, r, Heap.get?_push_size _ rfl⟩
end
noncomputable abbrev Sp := List V -> Hp -> VK -> XK -> Prop
noncomputable abbrev CXT := List Env -> Hp -> Shared -> XK -> Value -> Shared -> Prop
structure Env0 (P : Program) (w : World) (K : PySem.W.Frag) (mg : Str -> Option Value) (base : Heap) (A : Around) (outer : List Env) (s : Shared) (H : Hp) : Prop where
  frames : A.frames = some outer
  mod : Mod K mg base
  bs : ∀ b o, base.get? b = some o -> s.heap.get? b = some o /\ H b = none
  bsz : base.objs.size <= s.heap.objs.size
  Bu : s.heap.FunFrames base outer
  frf : ∀ b ∈ frs outer, H b = none
  hok : HOk P w H s.heap
  bare : AllBare s.gens
noncomputable def CE (outer : List Env) (P : Program) (w : World) (H : Hp) (s : Shared) (Q : VK) (u : Value) (s' : Shared) : Prop :=
  ∃ v H', s'.os = s.os /\ AllBare s'.gens /\ Un (frs outer) [] H H' s.heap s'.heap /\ HOk P w H' s'.heap /\ RelV v u /\ Q v H'
noncomputable def CR (CX : CXT) (outer : List Env) (P : Program) (w : World) (H : Hp) (s : Shared) (Q : VK) (E : XK) (r : Result) (s' : Shared) : Prop :=
  match r with
  | .ok (.ret u) => CE outer P w H s Q u s'
  | .ok _ => False
  | .error e => CX outer H s E e s'
structure c6 (P : Program) (w : World) (K : PySem.W.Frag) (mg : Str -> Option Value) (base : Heap) (CX : CXT) (k : Nat) (f : Addr) (fd : FuncData) (ps : List Str) (sp : Sp) : Prop where
  len : ∀ vs H Q E, sp vs H Q E -> vs.length = ps.length
  run : ∀ (A : Around) (outer : List Env) (s : Shared) (H : Hp) (args : Args) (us : List Value) (vs : List V) (Q : VK) (E : XK), mO k A -> Env0 P w K mg base A outer s H -> BindsTo s fd args (ps.zip us) -> Vals vs us -> sp vs H Q E ->
    codeAny (model P w) A (.call (.ref f) args) (CR CX outer P w H s Q E) s
theorem Env0.make {P : Program} {w : World} {K : PySem.W.Frag} {mg : Str -> Option Value} {base : Heap} {A : Around} {outer : List Env} {s : Shared} {H : Hp} (e : Env0 P w K mg base A outer s H) (C : Addr) (us : List Value) (kw : List (Str × Value)) :
    Env0 P w K mg base (A.under (.builtin "type.__call__" ⟨.ref C :: us, kw⟩)) outer s H := ⟨by first | exact e.frames | (simpa [Around.under, Code.envs, Code.isFrame, pushEnvs] using e.frames), e.mod, e.bs, e.bsz, e.Bu, e.frf, e.hok, e.bare⟩
section
variable {X : Cx} {pins : List (Addr × Obj)} {σ : St} {H : Hp} {s s' : Shared}
theorem Inv.env0 (I : Inv X pins σ H s) : Env0 X.prog X.w X.K X.mg X.base X.A X.stack s H :=
  ⟨I.ok.frames, I.ok.mod, I.bs, Nat.le_trans I.ok.bsz I.sz, I.stack, I.BA, I.hok, I.bare⟩
theorem Inv.after {Q : VK} {u : Value} (I : Inv X pins σ H s) (h : CE X.stack X.prog X.w H s Q u s') : EP X pins σ Q u s' := by
  obtain ⟨v, H', os, bare, un, hok, r, q⟩ := h
  obtain ⟨hh, g, d, t, os'⟩ := s'
  obtain rfl : os' = s.os := os
  exact ⟨v, H', I.call (h' := hh) (g' := g) (d' := d) (t' := t) (ch := []) un hok bare (fun b z => absurd z (by simp)), r, q⟩
end
noncomputable def tCall (sp : Sp) (dvs : List V) (E : XK) (t : TA) : TE := fun σ H Q => t σ H fun vs H1 => sp (vs ++ dvs) H1 Q E
noncomputable def tMeth (C : Addr) (m : Str) (sp : Sp) (dvs : List V) (E : XK) (ta : TE) (t : TA) : TE := fun σ H Q => ta σ H fun x H1 => ∃ a dx fs, x = .ref a /\ H1 a = some (.ins C dx fs) /\ fs.lookup m = none /\
  t σ H1 fun vs H2 => sp (x :: (vs ++ dvs)) H2 Q E
noncomputable def tMake (C : Addr) (sp : Sp) (dvs : List V) (E : XK) (t : TA) : TE := fun σ H Q => t σ H fun vs H1 => ∀ x dx, H1 x = none -> H1 dx = none -> dx ≠ x ->
  sp (.ref x :: (vs ++ dvs)) (upd (upd H1 dx (.own x)) x (.ins C dx [])) (fun v H2 => v = .non /\ Q (.ref x) H2) E
noncomputable def Binds (K : PySem.W.Frag) (fd : FuncData) (ps : List Str) (ds : List Value) : Prop :=
  ∀ (s : Shared) (us : List Value), K.In s.heap -> (us ++ ds).length = ps.length -> BindsTo s fd ⟨us, []⟩ (ps.zip (us ++ ds))
theorem Binds.all {K : PySem.W.Frag} {fd : FuncData} {ps : List Str} (h : ∀ us : List Value, us.length = ps.length -> bindArgs fd ⟨us, []⟩ = pure (ps.zip us)) : Binds K fd ps [] := fun s us _ hl => by
  rw [List.append_nil] at hl ⊢
  exact .of_eq (h us hl)
noncomputable def Passes (CX : CXT) (X : Cx) (E : XK) : Prop := ∀ (pins : List (Addr × Obj)) (σ : St) (H : Hp) (s : Shared) (e : Value) (s' : Shared), Inv X pins σ H s -> CX X.stack H s E e s' -> X.xe e s'
section
variable {X : Cx} {CX : CXT} {k : Nat} {f C : Addr} {fd : FuncData} {ps : List Str} {sp : Sp} {dvs : List V} {ds : List Value} {E : XK} {x m : Str} {p pos apos : Pos} {e o : Expr} {es : List Expr} {ta : TE} {t : TA}
theorem Ae {pins : List (Addr × Obj)} {σ : St} {H : Hp} {s : Shared} {Q : VK} {us : List Value} {vs : List V} (F : c6 X.prog X.w X.K X.mg X.base CX k f fd ps sp) (hr : mO k X.A) (hb : Binds X.K fd ps ds) (hd : Vals dvs ds) (hx : Passes CX X E)
    (I : Inv X pins σ H s) (r : Vals vs us) (h : sp (vs ++ dvs) H Q E) : wpAny (model X.prog X.w) X.A (call (.ref f) us) (EP X pins σ Q) X.xe s := by
  have r2 : Vals (vs ++ dvs) (us ++ ds) := r.append hd
  have hl : (us ++ ds).length = ps.length := by rw [<- r2.length]; exact F.len _ _ _ _ h
  refine wpAny_call (codeAny_mono (F.run X.A X.stack s H ⟨us, []⟩ (us ++ ds) (vs ++ dvs) Q E hr I.env0 (hb s us I.kIn hl) r2 h) fun r s' hq => ?_)
  cases r with
  | error e => exact hx pins σ H s e s' I hq
  | ok fl =>
    cases fl with
    | ret u => exact I.after hq
    | next => exact False.elim hq
    | brk => exact False.elim hq
    | cont => exact False.elim hq
theorem zm (F : c6 X.prog X.w X.K X.mg X.base CX k f fd ps sp) (hr : mO k X.A) (hg : Gl X x) (hm : X.mg x = some (.ref f)) (hk : PySem.W.keepIn X.K (.ref f) = true) (hb : Binds X.K fd ps ds) (hd : Vals dvs ds) (hx : Passes CX X E)
    (ha : PA X (e :: es) t) (hdb : (x == ("__debug__" : Str)) = false := by decide) (he : starEach (e :: es) X.env = (false, eval e X.env) :: starEach es X.env := by rfl) (hpl : (backTo pos (starEach es X.env)).any (·.1) = false := by rfl) :
    PE X (.Call (.Name x p) (e :: es) [] pos) (tCall sp dvs E t) := by
  intro pins s σ H Q I h
  refine wpAny_Call_Name_kw (vH I hg hm ?_ hdb)
  refine PySem.W.callWith_K (h₀ := X.base) I.ok.mod.kin hk (thn (ha pos pins s σ H _ I h) fun us s1 ⟨vs, H1, I1, r, q⟩ => ⟨I1.kIn, ?_⟩) he hpl
  exact Ae F hr hb hd hx I1 r q
theorem pe_meth {pl : Sem Bool} (he : PE X o ta) (c : Cls X.K C) (hm : Meth X.K C m f) (F : c6 X.prog X.w X.K X.mg X.base CX k f fd ps sp) (hr : mO k X.A) (hb : Binds X.K fd ps ds) (hd : Vals dvs ds) (hx : Passes CX X E) (ha : PA X (e :: es) t)
    (hst : starEach (e :: es) X.env = (false, eval e X.env) :: starEach es X.env := by rfl) (hpl : (backTo pos (starEach es X.env)).any (·.1) = false := by rfl)
    (ht : eval (.Call (.Attribute o m apos) (e :: es) [] pos) X.env = (do
      let ov <- eval o X.env
      standAt apos.atName
      let (f, first) <- holding [ov] (getMethod ov m pl)
      callWith pos f first (backTo pos (starEach (e :: es) X.env)) (backToKw pos (keywordEach [] X.env))) := by rfl) :
    PE X (.Call (.Attribute o m apos) (e :: es) [] pos) (tMeth C m sp dvs E ta t) := by
  intro pins s σ H Q I h
  refine PySem.W.methodCall_KW (pl := pl) (thn (he pins s σ H _ I h) fun u s1 ⟨x, H1, I1, rx, a, dx, fs, ex, ea, l, q⟩ => ?_) ht
  subst ex
  obtain rfl : u = Value.ref a := rx
  refine qA I1 ea c hm l ?_
  refine PySem.W.callWith_K (first := [.ref a]) (h₀ := X.base) I.ok.mod.kin hm.kp (thn (ha pos pins s1 σ H1 _ I1 q) fun us s2 ⟨vs, H2, I2, r, q2⟩ => ⟨I2.kIn, ?_⟩) hst hpl
  exact Ae (us := .ref a :: us) (vs := .ref a :: vs) F hr hb hd hx I2 (.cons rfl r) q2
theorem pe_meth0 {pl : Sem Bool} (he : PE X o ta) (c : Cls X.K C) (hm : Meth X.K C m f) (F : c6 X.prog X.w X.K X.mg X.base CX k f fd ps sp) (hr : mO k X.A) (hb : Binds X.K fd ps ds) (hd : Vals dvs ds) (hx : Passes CX X E)
    (ht : eval (.Call (.Attribute o m apos) [] [] pos) X.env = (do
      let ov <- eval o X.env
      standAt apos.atName
      let (f, first) <- holding [ov] (getMethod ov m pl)
      callWith pos f first (backTo pos (starEach [] X.env)) (backToKw pos (keywordEach [] X.env))) := by rfl) :
    PE X (.Call (.Attribute o m apos) [] [] pos) (tMeth C m sp dvs E ta tNil) := by
  intro pins s σ H Q I h
  refine PySem.W.methodCall_KW (pl := pl) (thn (he pins s σ H _ I h) fun u s1 ⟨x, H1, I1, rx, a, dx, fs, ex, ea, l, q⟩ => ?_) ht
  subst ex
  obtain rfl : u = Value.ref a := rx
  refine qA I1 ea c hm l ?_
  exact PySem.W.callWith_K0 (first := [.ref a]) I1.kIn hm.kp (Ae (us := [.ref a]) (vs := [.ref a]) F hr hb hd hx I1 (.cons rfl .nil) q)
structure Mk (K : PySem.W.Frag) (C f : Addr) : Prop where
  makes : PySem.W.makesIn K C = true
  init : PySem.W.findIn K (.ref C) "__init__" = some (some (.ref f))
  fn : PySem.W.isFn K (.ref f) = true
  kp : PySem.W.keepIn K (.ref C) = true
theorem run_make {pins : List (Addr × Obj)} {σ : St} {H : Hp} {s : Shared} {Q : VK} {us : List Value} {vs : List V} (M : Mk X.K C f) (F : c6 X.prog X.w X.K X.mg X.base CX k f fd ps sp) (hr : mO (k + 1) X.A) (hb : Binds X.K fd ps ds) (hd : Vals dvs ds)
    (hx : Passes CX X E) (I : Inv X pins σ H s) (r : Vals vs us)
    (h : ∀ x dx, H x = none -> H dx = none -> dx ≠ x -> sp (.ref x :: (vs ++ dvs)) (upd (upd H dx (.own x)) x (.ins C dx [])) (fun v H2 => v = .non /\ Q (.ref x) H2) E) :
    wpAny (model X.prog X.w) X.A (call (.ref C) us) (EP X pins σ Q) X.xe s := by
  have hq := h (s.heap.objs.size + 1) s.heap.objs.size (I.hok.fresh (Nat.le_succ _)) (I.hok.fresh (Nat.le_refl _)) (Nat.ne_of_lt (Nat.lt_succ_self _))
  have I2 := Inv.made (C := C) I
  have r2 : Vals (V.ref (s.heap.objs.size + 1) :: (vs ++ dvs)) (Value.ref (s.heap.objs.size + 1) :: (us ++ ds)) := .cons rfl (r.append hd)
  have hl : (Value.ref (s.heap.objs.size + 1) :: us ++ ds).length = ps.length := by
    have e := r2.length
    rw [F.len _ _ _ _ hq] at e
    exact e.symm
  refine wpAny_call (make_map (f := f) I.kIn M.makes M.init (beq_iff_eq.mp M.fn) (codeAny_mono (F.run _ X.stack _ _ ⟨Value.ref (s.heap.objs.size + 1) :: us, []⟩ (Value.ref (s.heap.objs.size + 1) :: (us ++ ds)) _ _ E (hr.make C us [])
    (I2.env0.make C us []) (hb _ (Value.ref (s.heap.objs.size + 1) :: us) I2.kIn hl) r2 hq) fun r s' hq' => ?_))
  cases r with
  | error e => exact hx pins σ _ _ e s' I2 hq'
  | ok fl =>
    cases fl with
    | ret u =>
      obtain ⟨v, H', I3, rv, ev, q3⟩ := I2.after hq'
      subst ev
      exact ⟨rv, ⟨V.ref (s.heap.objs.size + 1), H', I3, rfl, q3⟩⟩
    | next => exact False.elim hq'
    | brk => exact False.elim hq'
    | cont => exact False.elim hq'
theorem BR (M : Mk X.K C f) (F : c6 X.prog X.w X.K X.mg X.base CX k f fd ps sp) (hr : mO (k + 1) X.A) (hg : Gl X x) (hm : X.mg x = some (.ref C)) (hb : Binds X.K fd ps ds) (hd : Vals dvs ds) (hx : Passes CX X E)
    (ha : PA X (e :: es) t) (hdb : (x == ("__debug__" : Str)) = false := by decide) (he : starEach (e :: es) X.env = (false, eval e X.env) :: starEach es X.env := by rfl) (hpl : (backTo pos (starEach es X.env)).any (·.1) = false := by rfl) :
    PE X (.Call (.Name x p) (e :: es) [] pos) (tMake C sp dvs E t) := by
  intro pins s σ H Q I h
  refine wpAny_Call_Name_kw (vH I hg hm ?_ hdb)
  refine PySem.W.callWith_K (h₀ := X.base) I.ok.mod.kin M.kp (thn (ha pos pins s σ H _ I h) fun us s1 ⟨vs, H1, I1, r, q⟩ => ⟨I1.kIn, ?_⟩) he hpl
  exact run_make M F hr hb hd hx I1 r q
end
section
variable {X : Cx} {CX : CXT} {k : Nat} {f C : Addr} {fd : FuncData} {ps ks : List Str} {sp : Sp} {E : XK} {x m : Str} {p pos apos kpos : Pos} {e o : Expr} {es : List Expr} {kws : List Keyword} {te ta : TE} {t tk : TA} {nm : Option Str}
structure KBinds (K : PySem.W.Frag) (fd : FuncData) (ps ks : List Str) (g : List Value -> List Value -> List Value) (gV : List V -> List V -> List V) : Prop where
  to : ∀ (s : Shared) (us ws : List Value), K.In s.heap -> (g us ws).length = ps.length -> BindsTo s fd ⟨us, ks.zip ws⟩ (ps.zip (g us ws))
  rel : ∀ {vs : List V} {us : List Value} {zs : List V} {ws : List Value}, Vals vs us -> Vals zs ws -> Vals (gV vs zs) (g us ws)
variable {g : List Value -> List Value -> List Value} {gV : List V -> List V -> List V}
end
structure aO (N P : List Str) (sc : Scope) : Prop where
  kind : sc.kind = .function
  co : sc.isCoroutine = false
  gen : sc.isGenerator = false
  nd : N.Nodup
  pre : N.take P.length = P
  par : ∀ x ∈ P, sc.names.lookup x = some .local \/ sc.names.lookup x = some .cell
  nofree : ∀ y ∈ sc.names, y.2 ≠ .free
theorem yH {kindOf : Str -> Option NameKind} {x : Str} : ∀ {binds : List (Str × Value)} {m : Str -> Option Value}, (∀ v, (x, v) ∉ binds) -> bindL kindOf binds m x = m x
  | [], _, _ => rfl
  | (n, v) :: r, m, h => by
    unfold bindL
    rw [yH fun w hw => h w (List.mem_cons_of_mem _ hw)]
    split
    · have : x ≠ n := by rintro rfl; exact h v List.mem_cons_self
      simp [this]
    · rfl
theorem yJ {kindOf : Str -> Option NameKind} {x : Str} : ∀ {binds : List (Str × Value)} {m : Str -> Option Value}, (∀ v, (x, v) ∉ binds) -> bindC kindOf binds m x = m x
  | [], _, _ => rfl
  | (n, v) :: r, m, h => by
    unfold bindC
    rw [yJ fun w hw => h w (List.mem_cons_of_mem _ hw)]
    split
    · rfl
    · have : x ≠ n := by rintro rfl; exact h v List.mem_cons_self
      simp [this]
theorem yI {kindOf : Str -> Option NameKind} {x : Str} {v : Value} : ∀ {P : List Str} {vs : List Value} {i : Nat} {m : Str -> Option Value}, P.Nodup -> P[i]? = some x -> vs[i]? = some v -> kindOf x = some .local ->
    bindL kindOf (P.zip vs) m x = some v
  | [], _, _, _, _, h, _, _ => by simp at h
  | _ :: _, [], _, _, _, _, h, _ => by simp at h
  | p :: P, w :: vs, 0, m, nd, h1, h2, hk => by
    simp at h1 h2; subst h1; subst h2
    show bindL kindOf ((p, w) :: P.zip vs) m p = _
    unfold bindL
    rw [yH fun v hv => (List.nodup_cons.mp nd).1 (List.of_mem_zip hv).1, if_pos hk]
    simp
  | p :: P, w :: vs, i + 1, m, nd, h1, h2, hk => by
    show bindL kindOf ((p, w) :: P.zip vs) m x = _
    unfold bindL
    exact yI (i := i) (List.nodup_cons.mp nd).2 (by simpa using h1) (by simpa using h2) hk
theorem yK {kindOf : Str -> Option NameKind} {x : Str} {v : Value} : ∀ {P : List Str} {vs : List Value} {i : Nat} {m : Str -> Option Value}, P.Nodup -> P[i]? = some x -> vs[i]? = some v -> kindOf x ≠ some .local ->
    bindC kindOf (P.zip vs) m x = some v
  | [], _, _, _, _, h, _, _ => by simp at h
  | _ :: _, [], _, _, _, _, h, _ => by simp at h
  | p :: P, w :: vs, 0, m, nd, h1, h2, hk => by
    simp at h1 h2; subst h1; subst h2
    show bindC kindOf ((p, w) :: P.zip vs) m p = _
    unfold bindC
    rw [yJ fun v hv => (List.nodup_cons.mp nd).1 (List.of_mem_zip hv).1, if_neg hk]
    simp
  | p :: P, w :: vs, i + 1, m, nd, h1, h2, hk => by
    show bindC kindOf ((p, w) :: P.zip vs) m x = _
    unfold bindC
    exact yK (i := i) (List.nodup_cons.mp nd).2 (by simpa using h1) (by simpa using h2) hk
noncomputable def start (N : List Str) (vs : List V) : St := vs.map some ++ List.replicate (N.length - vs.length) none
noncomputable def cxOf (CX : CXT) (P : Program) (w : World) (K : PySem.W.Frag) (mg : Str -> Option Value) (base : Heap) (N : List Str) (qual : Str) (scope : Scope) (f : Addr) (cd : Value) (A : Around) (outer : List Env) (s : Shared) (H : Hp) (E : XK) : Cx where
  prog := P
  w := w
  K := K
  mg := mg
  base := base
  A := A.deeper (envOfC qual scope s.heap.objs.size f cd)
  N := N
  s₀ := s
  H₀ := H
  env := envOfC qual scope s.heap.objs.size f cd
  outer := outer
  stack := envOfC qual scope s.heap.objs.size f cd :: outer
  ex := []
  calm := true
  fn := fun _ => true
  pn := []
  xe := fun e s' => wpAny (model P w) (A.deeper (envOfC qual scope s.heap.objs.size f cd)) (leaving (envOfC qual scope s.heap.objs.size f cd) e) (fun _ s'' => CX outer H s E e s'') (fun e' s'' => CX outer H s E e' s'') s'
theorem AB {sc : Scope} {n : Nat} {x : Str} (h : sc.names.lookup x = some .cell) : ∃ c, (cellsFrom n sc.names []).lookup x = some c := by
  have q := PySem.W.cellsFrom_some sc.names n [] (.inl h)
  exact Option.isSome_iff_exists.mp q
theorem Cp {CX : CXT} {P : Program} {w : World} {K : PySem.W.Frag} {mg : Str -> Option Value} {base : Heap} {N ps : List Str} {qual : Str} {scope : Scope} {f : Addr} {cd : Value} {A : Around} {outer : List Env} {s s1 : Shared} {H : Hp} {E : XK} {us : List Value} {vs : List V}
    (S : aO N ps scope) (hd : A.handled = none) (e0 : Env0 P w K mg base A outer s H) (hl : vs.length = ps.length) (r : Vals vs us)
    (x : InCallC s s.heap.objs.size (bindL (envOfC qual scope s.heap.objs.size f cd).kindOf (ps.zip us) fun _ => none) (cellsFrom (s.heap.objs.size + 1) scope.names []) (bindC (envOfC qual scope s.heap.objs.size f cd).kindOf (ps.zip us) fun _ => none) s1) :
    Inv (cxOf CX P w K mg base N qual scope f cd A outer s H E) [] (start N vs) H s1 := by
  have hpl : ps.length <= N.length := by have := congrArg List.length S.pre; rw [List.length_take] at this; omega
  obtain ⟨h1, tk, rfl, hk⟩ := x.done
  have noA : ∀ b : Addr, b ∉ (cxOf CX P w K mg base N qual scope f cd A outer s H E).ex := fun b z => absurd (show b ∈ ([] : List Addr) from z) (by simp)
  refine ⟨⟨e0.mod, S.kind, rfl, rfl, Nat.le_refl _, fun y z c h1 h2 => ?_, fun y hy => ?_, fun y c _ h => ?_, fun _ => hd, Around.frames_deeper e0.frames, .inr ⟨rfl, rfl⟩, fun b z => absurd z (noA b), e0.bs, e0.bsz, fun b _ _ => noA b, fun b z => absurd z (noA b), e0.Bu, e0.frf⟩,
    rfl, e0.bare, Un.kept hk, ⟨_, x.toInCall.ns, fun i y v h1 h2 h3 => ?_⟩, fun y c h => ⟨_, x.cell y c h⟩, e0.hok.fresh (Nat.le_refl _), fun y c h => ?_, fun p hp => absurd (show p ∈ ([] : List (Addr × Obj)) from hp) (by simp), e0.hok.kept hk, ?_⟩
  · exact name_of_addr x.apart (PySem.mem_of_lookup h1) (PySem.mem_of_lookup h2)
  · have hy : scope.names.lookup y = some .cell \/ scope.names.lookup y = some .free := hy
    rcases hy with hy | hy
    · exact AB hy
    · exact absurd rfl (S.nofree _ (PySem.mem_of_lookup hy))
  · exact Nat.le_of_lt (x.above y c (PySem.mem_of_lookup h))
  · have hi : i < vs.length := by
      unfold start at h2
      by_cases hi : i < vs.length
      · exact hi
      · rw [List.getElem?_append_right (by simpa using hi)] at h2
        rw [List.getElem?_replicate] at h2
        split at h2 <;> cases h2
    have ha : vs[i]? = some v := by
      unfold start at h2
      rw [List.getElem?_append_left (by simpa using hi), List.getElem?_map] at h2
      cases e : vs[i]? with
      | none => rw [e] at h2; cases h2
      | some a => rw [e] at h2; cases h2; rfl
    obtain ⟨u, hu, rv⟩ := r.get ha
    have hp : ps[i]? = some y := by
      rw [<- S.pre, List.getElem?_take_of_lt (by omega)]; exact h1
    have ndP : ps.Nodup := by rw [<- S.pre]; exact S.nd.sublist (List.take_sublist _ _)
    refine ⟨u, rv, ?_⟩
    rcases S.par y (List.mem_of_getElem? hp) with k | k
    · exact .inl ⟨k, yI ndP hp hu k⟩
    · obtain ⟨c, e⟩ := AB (n := s.heap.objs.size + 1) k
      refine .inr ⟨.inl k, c, e, ?_⟩
      have q := x.cell y c e
      rw [yK ndP hp hu (by show scope.names.lookup y ≠ _; rw [k]; decide)] at q
      exact q
  · exact e0.hok.fresh (Nat.le_of_lt (x.above y c (PySem.mem_of_lookup h)))
  · unfold start
    show _ = N.length
    rw [List.length_append, List.length_map, List.length_replicate]
    omega
theorem fn_of {CX : CXT} {P : Program} {w : World} {K : PySem.W.Frag} {mg : Str -> Option Value} {base : Heap} {k : Nat} {f : Addr} {name qual : Str} {params : Arguments} {body : List Stmt} {scope : Scope} {dV kV doc pm cdv ct oc : Value} {an od : Option Addr}
    {osl : Array (Option Value)} {N ps : List Str} {sp : Sp} (lk : K.lookup f = some ⟨oc, od, .func (PySem.W.fnOf name qual params body scope dV kV doc pm an cdv ct), osl⟩) (hcd : PySem.W.codeIn K cdv qual = true) (S : aO N ps scope)
    (len : ∀ vs H Q E, sp vs H Q E -> vs.length = ps.length)
    (hbody : ∀ (A : Around) (outer : List Env) (s : Shared) (H : Hp) (vs : List V) (Q : VK) (E : XK), mO k (A.deeper (envOfC qual scope s.heap.objs.size f cdv)) -> sp vs H Q E ->
      ∃ t, PSs (cxOf CX P w K mg base N qual scope f cdv A outer s H E) body t /\ t { nx := fun _ H' => Q .non H', rt := Q } (start N vs) H) :
    c6 P w K mg base CX (k + 1) f (PySem.W.fnOf name qual params body scope dV kV doc pm an cdv ct) ps sp := by
  refine ⟨len, fun A outer s H args us vs Q E hr e0 hb r hsp => ?_⟩
  have hl := len _ _ _ _ hsp
  have KX : K.In s.heap := e0.mod.kin.keeps fun b o e => (e0.bs b o e).1
  have lim : s.heap.NoLimit := e0.mod.nolimit.keeps fun b o e => (e0.bs b o e).1
  have hkind : ∀ y ∈ ps.zip us, scope.names.lookup y.1 = some .local \/ (scope.names.lookup y.1 = some .cell /\ ((cellsFrom (s.heap.objs.size + 1) scope.names []).lookup y.1).isSome = true) := fun ⟨n, v⟩ hy => by
    rcases S.par n (List.of_mem_zip hy).1 with q | q
    · exact .inl q
    · exact .inr ⟨q, PySem.W.cellsFrom_some _ _ _ (.inl q)⟩
  refine codeAny_call_function hr.depth (KX _ _ lk) rfl S.co S.gen rfl (PySem.W.codeRec_of KX hcd) (hb _ _ _ _ ?_)
  refine wpAny_newFunctionEnv_cells S.kind hkind fun env he s1 x => ?_
  subst he
  refine ⟨lim.keeps x.toInCall.keep, codeAny_func ?_⟩
  obtain ⟨t, ht, hq⟩ := hbody A outer s H vs Q E (hr.deeper _) hsp
  have I : Inv (cxOf CX P w K mg base N qual scope f cdv A outer s H E) [] (start N vs) H s1 := Cp S hr.hd e0 hl r x
  refine wpAny_mono (ht [] s1 (start N vs) H _ I hq) (fun fl s' hs => ?_) fun e s' hs => hs
  have fin : ∀ {σ' : St} {H' : Hp} {v : V} {u : Value}, Inv (cxOf CX P w K mg base N qual scope f cdv A outer s H E) [] σ' H' s' -> RelV v u -> Q v H' -> CE outer P w H s Q u s' :=
    fun {σ' H' v u} J rv q => ⟨v, H', J.os, J.bare, J.base, J.hok, rv, q⟩
  cases fl with
  | ret u =>
    obtain ⟨v, σ', H', J, rv, q⟩ := hs
    exact fin J rv q
  | next =>
    obtain ⟨σ', H', J, q⟩ := hs
    exact fin (v := V.non) (u := Value.none) J rfl q
  | brk =>
    obtain ⟨_, _, _, q⟩ := hs
    exact False.elim q
  | cont =>
    obtain ⟨_, _, _, q⟩ := hs
    exact False.elim q
end L2
namespace L2
open PySem PySem.Spec PyProof.Rows
section
variable {X : Cx} {x : Str} {p pos : Pos} {e : Expr} {es : List Expr} {t : TA} {id T : String} {r : List V -> Hp -> VK -> Prop}
noncomputable def tCB (r : List V -> Hp -> VK -> Prop) (t : TA) : TE := fun σ H Q => t σ H fun vs H1 => r vs H1 Q
theorem rF (hc : i5 X (.builtin id) r) (hg : Gl X x) (hm : X.mg x = none) (hv : bootBuiltins x = some (.builtin id)) (ha : PA X (e :: es) t) (hn : x ≠ "__name__" := by decide) (hdb : (x == ("__debug__" : Str)) = false := by decide)
    (he : starEach (e :: es) X.env = (false, eval e X.env) :: starEach es X.env := by rfl) (hpl : (backTo pos (starEach es X.env)).any (·.1) = false := by rfl) : PE X (.Call (.Name x p) (e :: es) [] pos) (tCB r t) := by
  intro pins s σ H Q I h
  refine wpAny_Call_Name_kw (sm I hg hm hv ?_ hn hdb)
  exact PyProof.Rows.callWith_builtin1 (thn (ha pos pins s σ H _ I h) fun us s1 ⟨vs, H1, I1, r1, q1⟩ => hc pins s1 σ H1 vs us Q I1 r1 q1) he hpl
theorem xy (hc : i5 X (.type T) r) (hg : Gl X x) (hm : X.mg x = none) (hv : bootBuiltins x = some (.type T)) (ha : PA X (e :: es) t) (hn : x ≠ "__name__" := by decide) (hdb : (x == ("__debug__" : Str)) = false := by decide)
    (he : starEach (e :: es) X.env = (false, eval e X.env) :: starEach es X.env := by rfl) (hpl : (backTo pos (starEach es X.env)).any (·.1) = false := by rfl) : PE X (.Call (.Name x p) (e :: es) [] pos) (tCB r t) := by
  intro pins s σ H Q I h
  refine wpAny_Call_Name_kw (sm I hg hm hv ?_ hn hdb)
  exact PyProof.Rows.callWith_type1 (thn (ha pos pins s σ H _ I h) fun us s1 ⟨vs, H1, I1, r1, q1⟩ => hc pins s1 σ H1 vs us Q I1 r1 q1) he hpl
end
end L2
namespace HT
open PySem PyProof.Rows
section
open PySem.SeqAt
open PySem.AutoSeq1 (wpAny_loadPart')
open PySem.MeetsSeq PySem.MeetsSeq2 PySem.MeetsSeq3
end
section
variable {prog : Program} {w : World} {A : Around} {E : Value -> Shared -> Prop} {s : Shared}
theorem cat_tup {t b : Addr} {vs ws : List Value} {Q : Value -> Shared -> Prop} (ht : IsTup s.heap t vs.toArray) (hb : IsTup s.heap b ws.toArray) (hv : vs ≠ [])
    (h1 : ws = [] -> Q (.ref t) s) (h2 : ws ≠ [] -> Q (.ref s.heap.objs.size) { s with heap := s.heap.push { cls := .type "tuple", data := .seq (vs ++ ws).toArray } })
    (hsz : vs.length + ws.length <= sizeLine) : wpAny (model prog w) A (binaryOp .Add (.ref t) (.ref b)) Q E s := by
  obtain ⟨⟨cls, dd, data, sl⟩, ho, hc, n, hd⟩ := id ht
  obtain ⟨⟨cls2, dd2, data2, sl2⟩, ho2, hc2, n2, hd2⟩ := id hb
  simp only at hc hd hc2 hd2
  subst hc hd hc2 hd2
  have e : vs.toArray ++ ws.toArray = (vs ++ ws).toArray := by simp
  by_cases hw : ws = []
  · exact concat_meets ⟨_, ho, rfl⟩ ⟨_, ho2, rfl⟩ noFill_tuple_add seq_tuple_add PySem.F.slot_tuple_add PySem.F.entry_tuple_add (PySem.F.args_tuple_add_2 _ _)
      (tuple_addW1 t b vs.toArray ws.toArray n n2 dd dd2 sl sl2 (by simpa using hv) (by simp [hw])) ⟨ho, ho2, h1 hw⟩
  · refine concat_meets ⟨_, ho, rfl⟩ ⟨_, ho2, rfl⟩ noFill_tuple_add seq_tuple_add PySem.F.slot_tuple_add PySem.F.entry_tuple_add (PySem.F.args_tuple_add_2 _ _)
      (tuple_addW2 t b vs.toArray ws.toArray n n2 dd dd2 sl sl2 (by simpa using hv) (by simpa using hw) (by rw [List.size_toArray, List.size_toArray]; exact hsz)) ⟨ho, ho2, ?_⟩
    rw [e]
    exact h2 hw
end
end HT
namespace L2
open PySem PySem.Spec PyProof.Rows
theorem intsAre_of {ns : List Int} : ∀ {us : List Value}, Vals (ns.map V.int) us -> IntsAre us ns := by
  induction ns with
  | nil => intro us r; rw [List.map_nil] at r; cases r; exact .nil
  | cons n ns ih =>
    intro us r
    rw [List.map_cons] at r
    cases r with
    | cons r1 r2 =>
      obtain ⟨t, e⟩ := r1
      subst e
      exact .cons n t (ih r2)
section
variable {X : Cx} {e : Expr} {te : TE} {lo hi : Option Expr} {tl th : TO} {pos p2 : Pos}
noncomputable def rCatT (K : PySem.W.Frag) : R2 := fun x y H Q => ∃ a b xs ys, x = .ref a /\ y = .ref b /\ SqT K H a xs /\ SqT K H b ys /\ xs ≠ [] /\ xs.length + ys.length <= sizeLine /\
  (ys = [] -> Q (.ref a) H) /\ (ys ≠ [] -> ∀ p, H p = none -> Q (.ref p) (upd H p (.tup (xs ++ ys))))
theorem Vals.zu {xs : List V} {us : List Value} (r : Vals xs us) : us = [] ↔ xs = [] := by
  cases r with
  | nil => simp
  | cons _ _ => simp
theorem op_catT : OpR X (binaryOp .Add) (rCatT X.K) := by
  intro pins s σ H x y v u Q I rx ry h
  obtain ⟨a, b, xs, ys, rfl, rfl, ha, hb, hx, hz, q1, q2⟩ := h
  cases rx
  cases ry
  obtain ⟨its, r1, p1, _⟩ := I.tuple ha
  obtain ⟨its2, r2, p2, _⟩ := I.tuple hb
  refine HT.cat_tup p1 p2 (fun z => hx (r1.zu.mp z)) (fun z => ⟨.ref a, H, I, rfl, q1 (r2.zu.mp z)⟩) (fun z => ?_) (by rw [<- r1.length, <- r2.length]; exact hz)
  refine ⟨.ref s.heap.objs.size, _, I.laid (t' := s.toks) (o := .tup (xs ++ ys)) (fun b ob q => Heap.get?_push_of_some _ q) (Nat.le_refl _) ?_, rfl, q2 (fun w => z (r2.zu.mpr w)) _ (I.hok.fresh (Nat.le_refl _))⟩
  exact ⟨by rw [List.length_append]; exact hz, _, r1.append r2, IsTup.new _ _⟩
end
end L2
namespace L2
open PySem PySem.Spec PyProof.Rows
noncomputable def ixN (n : Nat) (i : Int) : Option Nat := if 0 <= i then (if i < n then some i.toNat else none) else if -(n : Int) <= i then some (i + n).toNat else none
noncomputable def atI {α : Type} (xs : List α) (i : Int) : Option α := (ixN xs.length i).bind fun j => xs[j]?
theorem sy {n : Nat} {i : Int} {j : Nat} (h : ixN n i = some j) : seqIndex? i n = some j /\ j < n /\ -(n : Int) <= i /\ i < n := by
  unfold ixN at h
  by_cases h0 : 0 <= i
  · rw [if_pos h0] at h
    by_cases h1 : i < n
    · rw [if_pos h1] at h
      have e : i.toNat = j := Option.some.inj h
      exact ⟨by rw [seqIndex_of h0 h1, e], by omega, by omega, h1⟩
    · rw [if_neg h1] at h; cases h
  · rw [if_neg h0] at h
    by_cases h1 : -(n : Int) <= i
    · rw [if_pos h1] at h
      have e : (i + n).toNat = j := Option.some.inj h
      exact ⟨by rw [seqIndex_neg (by omega) h1, e], by omega, h1, by omega⟩
    · rw [if_neg h1] at h; cases h
theorem A4 {α : Type} {xs : List α} {i : Int} {v : α} (h : atI xs i = some v) : ∃ j, seqIndex? i xs.length = some j /\ xs[j]? = some v /\ j < xs.length /\ -(xs.length : Int) <= i /\ i < xs.length := by
  unfold atI at h
  cases e : ixN xs.length i with
  | none => rw [e] at h; cases h
  | some j =>
    rw [e] at h
    obtain ⟨h1, h2, h3, h4⟩ := sy e
    exact ⟨j, h1, h, h2, h3, h4⟩
noncomputable def wN (b : Expr) : Prop := ∀ o i, subscripted b false o i = operate [o, i] (getItem o i)
noncomputable def IxR (X : Cx) (r : R2) : Prop :=
  ∀ (value slice : Expr) (pins : List (Addr × Obj)) (s : Shared) (σ : St) (H : Hp) (x y : V) (v u : Value) (Q : VK), Inv X pins σ H s -> RelV x v -> RelV y u -> r x y H Q ->
    subscripted slice false v u = operate [v, u] (getItem v u) -> wpAny (model X.prog X.w) X.A (subscriptTail value slice v u) (EP X pins σ Q) X.xe s
noncomputable def MtR (X : Cx) (id : String) (r : V -> List V -> Hp -> VK -> Prop) : Prop :=
  ∀ (pins : List (Addr × Obj)) (s : Shared) (σ : St) (H : Hp) (x : V) (xs : List V) (v : Value) (us : List Value) (Q : VK), Inv X pins σ H s -> RelV x v -> Vals xs us -> r x xs H Q ->
    wpAny (model X.prog X.w) X.A (call (.builtin id) (v :: us)) (EP X pins σ Q) X.xe s
section
variable {X : Cx} {a b : Expr} {ta tb : TE} {pos : Pos}
theorem IxR.or {r r' : R2} (h : IxR X r) (h' : IxR X r') : IxR X (fun x y H Q => r x y H Q \/ r' x y H Q) := by
  intro value slice pins s σ H x y v u Q I rx ry q hs
  rcases q with q | q
  · exact h value slice pins s σ H x y v u Q I rx ry q hs
  · exact h' value slice pins s σ H x y v u Q I rx ry q hs
theorem pe_ix {r : R2} (hr : IxR X r) (ha : PE X a ta) (hb : PE X b tb) (hs : wN b) : PE X (.Subscript a b pos) (tOp r ta tb) := by
  intro pins s σ H Q I h
  exact Subscript_ (binT ha hb I h fun v u s2 x y H2 I2 rx ry q => hr a b pins s2 σ H2 x y v u Q I2 rx ry q (hs _ _))
noncomputable def rIxL (K : PySem.W.Frag) : R2 := fun x y H Q => ∃ p xs i v, x = .ref p /\ y = .int i /\ SqL K H p xs /\ atI xs i = some v /\ Q v H
noncomputable def rIxT (K : PySem.W.Frag) : R2 := fun x y H Q => ∃ p xs i v, x = .ref p /\ y = .int i /\ SqT K H p xs /\ atI xs i = some v /\ Q v H
noncomputable def rIxS : R2 := fun x y H Q => ∃ z i c, x = .str z /\ y = .int i /\ z.length <= sizeLine /\ atI z.cps.toList i = some c /\ Q (.str ⟨#[c]⟩) H
theorem ix_list : IxR X (rIxL X.K) := by
  intro value slice pins s σ H x y v u Q I rx ry h hs
  obtain ⟨p, xs, i, z, rfl, rfl, hq, he, q⟩ := h
  cases rx
  obtain ⟨t, rfl⟩ := ry
  obtain ⟨its, r, pl, hz⟩ := I.list hq
  obtain ⟨j, h1, h2, h3, h4, h5⟩ := A4 he
  obtain ⟨w, ew, rw'⟩ := r.get h2
  have hl := r.length
  have hn := uq
  have fin : EP X pins σ Q w s := ⟨z, H, I, rw', q⟩
  by_cases h0 : 0 <= i
  · have hj : i.toNat = j := by
      rw [seqIndex_of h0 h5] at h1
      exact Option.some.inj h1
    exact item_listR pl.isList h0 (by omega) (by rw [hj]; simpa using ew) fin hs
  · have hj : (i + (its.toArray.size : Int)).toNat = j := by
      rw [seqIndex_neg (by omega) h4] at h1
      rw [List.size_toArray, <- hl]
      exact Option.some.inj h1
    exact subscriptTail_builtinR (x := w) pl.isList.typeIs slot_list_getitem.lookup
      (wpAny_getItem_list_neg (Q := fun r s' => r = w /\ EP X pins σ Q r s') pl.isList (by omega) (by rw [List.size_toArray] <;> omega) (by omega) (by rw [hj]; simpa using ew) ⟨rfl, fin⟩) hs
theorem ix_tup : IxR X (rIxT X.K) := by
  intro value slice pins s σ H x y v u Q I rx ry h hs
  obtain ⟨p, xs, i, z, rfl, rfl, hq, he, q⟩ := h
  cases rx
  obtain ⟨t, rfl⟩ := ry
  obtain ⟨its, r, pl, hz⟩ := I.tuple hq
  obtain ⟨j, h1, h2, h3, h4, h5⟩ := A4 he
  obtain ⟨w, ew, rw'⟩ := r.get h2
  have hl := r.length
  have hn := uq
  have fin : EP X pins σ Q w s := ⟨z, H, I, rw', q⟩
  exact subscriptTail_builtinR (x := w) pl.typeIs slot_tuple_getitem.lookup
    (getItem_tuple (j := j) (Q := fun r s' => r = w /\ EP X pins σ Q r s') pl (by omega) (by omega) (by rw [List.size_toArray, <- hl]; exact h1) (by simpa using ew) ⟨rfl, fin⟩) hs
theorem ix_str : IxR X rIxS := by
  intro value slice pins s σ H x y v u Q I rx ry h hs
  obtain ⟨z, i, c, rfl, rfl, hz, he, q⟩ := h
  obtain ⟨t, rfl⟩ := rx
  obtain ⟨t', rfl⟩ := ry
  obtain ⟨j, h1, h2, h3, h4, h5⟩ := A4 he
  have hl : z.cps.toList.length = z.length := by simp [Str.length]
  rw [hl] at h1 h4 h5
  have hn := uq
  exact tail_any (typeIs_str s z t) slot_str_getitem.lookup (getItem_str (c := c) (by
    have e1 : decide (i < -(2 ^ 63 : Int)) = false := decide_eq_false (by omega)
    have e2 : decide (i >= 2 ^ 63) = false := decide_eq_false (by omega)
    rw [e1, e2, Bool.or_false]) (by rw [h1]; simpa using h2) ⟨.str ⟨#[c]⟩, H, I.tok _, ⟨_, rfl⟩, q⟩) hs
noncomputable def rIx (K : PySem.W.Frag) : R2 := fun x y H Q => rIxL K x y H Q \/ rIxT K x y H Q \/ rIxS x y H Q
theorem Cj : IxR X (rIx X.K) := ix_list.or (ix_tup.or ix_str)
theorem B2 (its : List Value) (n j : Nat) (u : Value) : Obj.mapSeq (·.setIfInBounds j u) { cls := .type "list", data := .seq its.toArray n } = { cls := .type "list", data := .seq (its.set j u).toArray n } := by
  simp [Obj.mapSeq]
theorem Inv.lst {pins : List (Addr × Obj)} {σ : St} {H : Hp} {s : Shared} {p : Addr} {xs : List V} (I : Inv X pins σ H s) (h : H p = some (.lst xs)) :
    ∃ (its : List Value) (n : Nat), Vals xs its /\ s.heap.get? p = some { cls := .type "list", data := .seq its.toArray n } /\ xs.length <= sizeLine := by
  obtain ⟨z, its, n, r, e⟩ := I.hok p _ h
  exact ⟨its, n, r, e, z⟩
theorem Inv.lstUpd {pins : List (Addr × Obj)} {σ : St} {H : Hp} {s : Shared} {p : Addr} {xs ys : List V} {its its' : List Value} {n n' : Nat} {f : Obj -> Obj} (I : Inv X pins σ H s) (h : H p = some (.lst xs))
    (ho : s.heap.get? p = some { cls := .type "list", data := .seq its.toArray n }) (hf : f { cls := .type "list", data := .seq its.toArray n } = { cls := .type "list", data := .seq its'.toArray n' }) (r : Vals ys its') (hz : ys.length <= sizeLine) (t : Nat) :
    Inv X pins σ (upd H p (.lst ys)) { s with heap := s.heap.update p f, toks := t } := by
  have e : (s.heap.update p f).get? p = some { cls := .type "list", data := .seq its'.toArray n' } := by
    rw [Heap.get?_update_self f ho (by rw [hf] <;> rfl), hf]
  refine I.write (x := p) (e := p) (by rw [h]; trivial) (.inl rfl) (fun b u hb q => (Heap.get?_update_other _ _ (Ne.symm hb)).trans q) ⟨_, e⟩ ?_
  exact ⟨hz, its', n', r, e⟩
noncomputable def AY : V -> V -> V -> Hp -> (Hp -> Prop) -> Prop := fun o i v H Q => ∃ p xs k j, o = .ref p /\ i = .int k /\ H p = some (.lst xs) /\ ixN xs.length k = some j /\ Q (upd H p (.lst (xs.set j v)))
theorem set_list : PSet X AY := by
  intro pins s σ H o i v ov iv u Q I ro ri rv h
  obtain ⟨p, xs, k, j, rfl, rfl, hp, hj, q⟩ := h
  cases ro
  obtain ⟨t, rfl⟩ := ri
  obtain ⟨its, n, r, ho, hz⟩ := I.lst hp
  obtain ⟨h1, h2, h3, h4⟩ := sy hj
  have hl := r.length
  have hn := uq
  have I' : Inv X pins σ (upd H p (.lst (xs.set j v))) { s with heap := s.heap.update p (Obj.mapSeq (·.setIfInBounds j u)) } :=
    I.lstUpd hp ho (B2 its n j u) (r.set rv j) (by rw [List.length_set]; exact hz) s.toks
  by_cases h0 : 0 <= k
  · have hk : k.toNat = j := by
      rw [seqIndex_of h0 h4] at h1
      exact Option.some.inj h1
    exact PySem.W.ki_setAt ho h0 (by omega) (by rw [List.size_toArray, <- hl]; exact h4) (by rw [hk]; exact ⟨_, I', q⟩)
  · have hk : (k + (its.toArray.size : Int)).toNat = j := by
      rw [seqIndex_neg (by omega) h3] at h1
      rw [List.size_toArray, <- hl]
      exact Option.some.inj h1
    exact PySem.W.ki_setBack ho (by omega) (by rw [List.size_toArray, <- hl]; exact h3) (by omega) (by rw [hk]; exact ⟨_, I', q⟩)
noncomputable def flatV : V -> Bool
  | .non => true
  | .bl _ => true
  | .int _ => true
  | .str _ => true
  | _ => false
noncomputable def eqV : V -> V -> Bool
  | .non, .non => true
  | .bl a, .bl b => a == b
  | .bl a, .int b => (if a then 1 else 0) == b
  | .int a, .bl b => a == (if b then 1 else 0)
  | .int a, .int b => a == b
  | .str a, .str b => a == b
  | _, _ => false
theorem mG : i5 X (.builtin "len") (fun xs H Q => ∃ p ys, xs = [.ref p] /\ (SqL X.K H p ys \/ SqT X.K H p ys) /\ Q (.int ys.length) H) := by
  intro pins s σ H xs us Q I r h
  obtain ⟨p, ys, rfl, hq, q⟩ := h
  obtain ⟨u, rfl, rx⟩ := vals1 r
  cases rx
  have hn := uq
  rcases hq with hq | hq
  · obtain ⟨its, r', pl, hz⟩ := I.list hq
    have hlen := r'.length
    exact Calls.call_len_list pl.isList (by simp only [List.size_toArray] <;> omega) ⟨.int ys.length, H, I.tok _, ⟨s.toks + 1, by rw [List.size_toArray, hlen]⟩, q⟩
  · obtain ⟨its, r', pl, hz⟩ := I.tuple hq
    have hlen := r'.length
    exact len_tuple pl (by simp only [List.size_toArray] <;> omega) ⟨.int ys.length, H, I.tok _, ⟨s.toks + 1, by rw [List.size_toArray, hlen]⟩, q⟩
theorem i5.or {f : Value} {r r' : List V -> Hp -> VK -> Prop} (h : i5 X f r) (h' : i5 X f r') : i5 X f (fun xs H Q => r xs H Q \/ r' xs H Q) := by
  intro pins s σ H xs us Q I rs q
  rcases q with q | q
  · exact h pins s σ H xs us Q I rs q
  · exact h' pins s σ H xs us Q I rs q
theorem yG : i5 X (.type "list") (fun xs H Q => ∃ p ys, xs = [.ref p] /\ (SqL X.K H p ys \/ SqT X.K H p ys) /\ ∀ l, H l = none -> Q (.ref l) (upd H l (.lst ys))) := by
  intro pins s σ H xs us Q I r h
  obtain ⟨p, ys, rfl, hq, q⟩ := h
  obtain ⟨u, rfl, rx⟩ := vals1 r
  cases rx
  have fin : ∀ (its : List Value), Vals ys its -> ys.length <= sizeLine -> ∀ (h' : Heap) (c' : Nat), (∀ b o', s.heap.get? b = some o' -> h'.get? b = some o') ->
      h'.get? s.heap.objs.size = some { cls := .type "list", dict := none, data := .seq its.toArray c', slots := #[] } -> EP X pins σ Q (.ref s.heap.objs.size) { s with heap := h' } := fun its r' hz h' c' kp e =>
    ⟨.ref s.heap.objs.size, _, I.laid (t' := s.toks) kp (Nat.le_refl _) (show jc X.prog X.w _ h' _ (.lst ys) from ⟨hz, its, c', r', e⟩), rfl, q _ (I.hok.fresh (Nat.le_refl _))⟩
  rcases hq with hq | hq
  · obtain ⟨its, r', pl, hz⟩ := I.list hq
    have hlen := r'.length
    obtain ⟨o, ho, hc, n, hd⟩ := pl.isList
    exact call_list_seq p (.inl rfl) ho hc hd (fun h' c' kp e => fin its r' hz h' c' kp e) (by simp only [List.size_toArray] <;> omega)
  · obtain ⟨its, r', pl, hz⟩ := I.tuple hq
    have hlen := r'.length
    obtain ⟨o, ho, hc, n, hd⟩ := pl
    exact call_list_seq p (.inr rfl) ho hc hd (fun h' c' kp e => fin its r' hz h' c' kp e) (by simp only [List.size_toArray] <;> omega)
theorem wB : i5 X (.type "tuple") (fun xs H Q => ∃ p ys, xs = [.ref p] /\ ((SqL X.K H p ys /\ ∀ l, H l = none -> Q (.ref l) (upd H l (.tup ys))) \/ (SqT X.K H p ys /\ Q (.ref p) H))) := by
  intro pins s σ H xs us Q I r h
  obtain ⟨p, ys, rfl, h⟩ := h
  obtain ⟨u, rfl, rx⟩ := vals1 r
  cases rx
  rcases h with ⟨hq, q⟩ | ⟨hq, q⟩
  · obtain ⟨its, r', pl, hz⟩ := I.list hq
    have hlen := r'.length
    refine call_tuple_list pl.isList (fun h' kp => ?_) (by simp only [List.size_toArray] <;> omega)
    have I1 : Inv X pins σ H { s with heap := h' } := I.kept (t' := s.toks) kp
    have I2 : Inv X pins σ (upd H h'.objs.size (.tup ys)) { s with heap := h'.push { cls := .type "tuple", data := .seq its.toArray } } :=
      I1.laid (t' := s.toks) (fun b o e => Heap.get?_push_of_some _ e) (Nat.le_refl _) (show jc X.prog X.w _ _ _ (.tup ys) from ⟨hz, its, r', IsTup.new _ _⟩)
    exact ⟨.ref h'.objs.size, _, I2, rfl, q _ (I1.hok.fresh (Nat.le_refl _))⟩
  · obtain ⟨its, r', pl, hz⟩ := I.tuple hq
    exact call_tuple_same pl ⟨.ref p, H, I, rfl, q⟩
noncomputable def tyV (K : PySem.W.Frag) (T : String) (x : V) (H : Hp) : Prop := match x with
  | .str _ => T = "str"
  | .int _ => T = "int"
  | .ref p => (T = "list" /\ ∃ xs, SqL K H p xs) \/ (T = "tuple" /\ ∃ o, K.lookup p = some o /\ o.cls = .type "tuple" /\ o.dict = none) \/
      (T = "dict" /\ ((∃ kvs, H p = some (.dK kvs)) \/ ∃ kvs, H p = some (.dT kvs))) \/ (T = "set" /\ ∃ S n, H p = some (.set S n))
  | _ => False
theorem tyV_is {pins : List (Addr × Obj)} {σ : St} {H : Hp} {s : Shared} {T : String} {x : V} {v : Value} (I : Inv X pins σ H s) (r : RelV x v) (ty : tyV X.K T x H) :
    s.TypeIs v T /\ ∀ a, v = .ref a -> ∃ ob, s.heap.get? a = some ob /\ ob.dict = none := by
  cases x with
  | str z =>
    obtain ⟨t, rfl⟩ := r
    cases (show T = "str" from ty)
    exact ⟨typeIs_str s z t, fun _ e => nomatch e⟩
  | int i =>
    obtain ⟨t, rfl⟩ := r
    cases (show T = "int" from ty)
    exact ⟨typeIs_int s i t, fun _ e => nomatch e⟩
  | ref p =>
    cases r
    rcases ty with ⟨rfl, xs, hq⟩ | ⟨rfl, o, hk, hc, hd⟩ | ⟨rfl, hk⟩ | ⟨rfl, S, n, hk⟩
    · obtain ⟨its, _, pl, _⟩ := I.list hq
      refine ⟨pl.isList.typeIs, fun a e => ?_⟩
      cases e
      obtain ⟨o, n, e, c, hd, _⟩ := pl
      exact ⟨o, e, hd⟩
    · refine ⟨⟨o, I.kIn p o hk, hc⟩, fun a e => ?_⟩
      cases e
      exact ⟨o, I.kIn _ o hk, hd⟩
    · have z : ∃ o, s.heap.get? p = some o /\ o.ExactDict := by
        rcases hk with ⟨kvs, hk⟩ | ⟨kvs, hk⟩
        · obtain ⟨_, _, _, _, o, _, _, e, ex, _⟩ := I.hok p _ hk
          exact ⟨o, e, ex⟩
        · obtain ⟨_, _, _, _, o, _, _, e, ex, _⟩ := I.hok p _ hk
          exact ⟨o, e, ex⟩
      obtain ⟨o, e, ex⟩ := z
      refine ⟨⟨o, e, ex.1⟩, fun a e2 => ?_⟩
      cases e2
      exact ⟨o, e, ex.2.1⟩
    · obtain ⟨o, _, _, _, e, ex, _⟩ := I.hok p _ hk
      refine ⟨⟨o, e, ex.1⟩, fun a e2 => ?_⟩
      cases e2
      exact ⟨o, e, ex.2.1⟩
  | _ => exact False.elim ty
noncomputable def tBM (K : PySem.W.Frag) (T : String) (r : V -> List V -> Hp -> VK -> Prop) (to : TE) (t : TA) : TE := fun σ H Q => to σ H fun x H1 => tyV K T x H1 /\ t σ H1 fun xs H2 => r x xs H2 Q
variable {o e : Expr} {es : List Expr} {to : TE} {t : TA} {name : Str} {apos cpos : Pos} {T id : String} {r : V -> List V -> Hp -> VK -> Prop}
theorem pe_bm (pa : PlainAttrs T) (slot : Slot T name id) (hty : typeOf (.builtin id) = pure (.type "method_descriptor")) (hm : MtR X id r) (ho : PE X o to) (ha : PA X (e :: es) t)
    (hbase : attributeBase o name X.env (eval o X.env) = eval o X.env := by rfl)
    (hfew : ((backTo cpos (starEach (e :: es) X.env)).all (fun x => !x.1) && (backToKw cpos (keywordEach [] X.env)).all (fun x => x.1.isSome)
      && decide ((e :: es).length + ([] : List Keyword).length + (if ([] : List Keyword).isEmpty then 0 else 1) < 30)) = true := by rfl)
    (hline : (apos.endLine == cpos.line) = true := by rfl) (hs : starEach (e :: es) X.env = (false, eval e X.env) :: starEach es X.env := by rfl) (hplain : (backTo cpos (starEach es X.env)).any (·.1) = false := by rfl) :
    PE X (.Call (.Attribute o name apos) (e :: es) [] cpos) (tBM X.K T r to t) := by
  intro pins s σ H Q I h
  refine wpAny_Call_method_late hbase hfew hline rfl (thn (ho pins s σ H _ I h) fun v s1 ⟨x, H1, I1, r1, ty, q1⟩ => ?_)
  obtain ⟨h1, h2⟩ := tyV_is I1 r1 ty
  refine ⟨T, id, pa, slot, hty, h1, h2, ?_⟩
  have hA := ha cpos pins s1 σ H1 _ I1 q1
  rw [hs] at hA ⊢
  refine Calls.callWith_builtin (by show (false || (backTo cpos (starEach es X.env)).any (·.1)) = false; rw [hplain] <;> rfl) (Calls.evalArgs_plain ?_)
  exact thn hA fun us s2 ⟨vs, H2, I2, r2, q2⟩ => hm pins s2 σ H2 x vs v us Q I2 r1 r2 q2
/- xs.append(e), list.index on a module's tuple .. are MtR facts of 06m -/
end
end L2
namespace L2
open PySem PySem.Spec PyProof.Rows
noncomputable def MtM (X : Cx) (id : String) (r : V -> List V -> Hp -> VK -> Prop) : Prop :=
  ∀ (pins : List (Addr × Obj)) (s : Shared) (σ : St) (H : Hp) (x : V) (xs : List V) (v : Value) (us : List Value) (Q : VK), Inv X pins σ H s -> RelV x v -> Vals xs us -> r x xs H Q ->
    wpAny (model X.prog X.w) X.A (call (.builtin id) (v :: us)) (EP X pins σ Q) X.xe s
theorem Vals.one : ∀ {x : V} {us : List Value}, Vals [x] us -> ∃ u, us = [u] /\ RelV x u
  | _, _, .cons r .nil => ⟨_, rfl, r⟩
theorem Vals.two : ∀ {x y : V} {us : List Value}, Vals [x, y] us -> ∃ u v, us = [u, v] /\ RelV x u /\ RelV y v
  | _, _, _, .cons r (.cons q .nil) => ⟨_, _, rfl, r, q⟩
theorem Vals.zero : ∀ {us : List Value}, Vals [] us -> us = []
  | _, .nil => rfl
theorem Vals.eraseIdx : ∀ {xs : List V} {us : List Value} (i : Nat), Vals xs us -> Vals (xs.eraseIdx i) (us.eraseIdx i)
  | _, _, _, .nil => .nil
  | _, _, 0, .cons _ t => t
  | _, _, i + 1, .cons r t => .cons r (Vals.eraseIdx i t)
theorem Vals.rep {xs : List V} {us : List Value} (h : Vals xs us) : ∀ k : Nat, Vals (List.replicate k xs).flatten (List.replicate k us).flatten
  | 0 => .nil
  | k + 1 => by
    rw [List.replicate_succ, List.replicate_succ, List.flatten_cons, List.flatten_cons]
    exact Vals.append h (Vals.rep h k)
theorem xX {α : Type} : ∀ (l : List α) (i : Nat), (l.eraseIdx i).length <= l.length
  | [], _ => Nat.le_refl _
  | _ :: _, 0 => Nat.le_succ _
  | _ :: r, i + 1 => Nat.succ_le_succ (xX r i)
theorem foldl_rep (its : List Value) : ∀ (k : Nat) (acc : List Value),
    List.foldl (fun x1 x2 => x1 ++ x2) acc.toArray (List.replicate k its.toArray) = (acc ++ (List.replicate k its).flatten).toArray
  | 0, acc => by simp
  | k + 1, acc => by
    have e : acc.toArray ++ its.toArray = (acc ++ its).toArray := by simp
    have e2 : (acc ++ its) ++ (List.replicate k its).flatten = acc ++ (List.replicate (k + 1) its).flatten := by
      rw [List.replicate_succ, List.flatten_cons, List.append_assoc]
    rw [<- e2, <- foldl_rep its k (acc ++ its), <- e, List.replicate_succ, List.foldl_cons]
section
variable {X : Cx} {pins : List (Addr × Obj)} {σ : St} {H : Hp} {s : Shared} {l b : Addr} {xs ys zs : List V}
theorem Inv.lset {its its' : List Value} {n : Nat} {f : Array Value -> Array Value} {t' : Nat} (I : Inv X pins σ H s) (hH : H l = some (.lst xs))
    (e : s.heap.get? l = some { cls := .type "list", data := .seq its.toArray n }) (hf : f its.toArray = its'.toArray) (hv : Vals ys its') (hz : ys.length <= sizeLine) :
    Inv X pins σ (upd H l (.lst ys)) { s with heap := s.heap.update l (Obj.mapSeq f), toks := t' } := by
  have q := PySem.IsL.update e f
  rw [hf] at q
  refine I.write (x := l) (e := l) (by rw [hH]; exact trivial) (.inl rfl) (fun b' u hb hu => (Heap.get?_update_other s.heap (Obj.mapSeq f) (Ne.symm hb)).trans hu) ⟨_, q⟩ ?_
  exact ⟨hz, its', _, hv, q⟩
theorem Inv.lnew {its : List Value} {t' : Nat} (I : Inv X pins σ H s) (hv : Vals ys its) (hz : ys.length <= sizeLine) :
    Inv X pins σ (upd H s.heap.objs.size (.lst ys)) { s with heap := s.heap.push { cls := .type "list", data := .seq its.toArray }, toks := t' } :=
  I.laid (fun _ _ q => Heap.get?_push_of_some _ q) (Nat.le_refl _) ⟨hz, its, 0, hv, Heap.get?_push_size _ rfl⟩
theorem Inv.fresh (I : Inv X pins σ H s) : H s.heap.objs.size = none := I.hok.fresh (Nat.le_refl _)
theorem Inv.lstM (I : Inv X pins σ H s) (hH : H l = some (.lst xs)) : xs.length <= sizeLine /\ ∃ (its : List Value) (n : Nat), Vals xs its /\ xs.length = its.length /\ s.heap.get? l = some { cls := .type "list", data := .seq its.toArray n } := by
  obtain ⟨z, its, n, r, e⟩ := I.hok l _ hH
  exact ⟨z, its, n, r, r.length, e⟩
theorem notLongL {n : Nat} (h : n <= sizeLine) : Builtin.List.listTooLong n = false := by
  unfold Builtin.List.listTooLong
  exact decide_eq_false (by omega)
end
section
variable {X : Cx}
noncomputable def ze : V -> List V -> Hp -> VK -> Prop := fun x vs H Q => ∃ l xs y, x = .ref l /\ vs = [y] /\ H l = some (.lst xs) /\ xs.length < sizeLine /\ Q .non (upd H l (.lst (xs ++ [y])))
theorem xU : MtM X "list.append" ze := by
  intro pins s σ H x vs v us Q I rx rv h
  obtain ⟨l, xs, y, rfl, rfl, hH, hz, q⟩ := h
  cases rx
  obtain ⟨u, rfl, ru⟩ := rv.one
  obtain ⟨z, its, n, r, hl, e⟩ := I.lstM hH
  refine call_meets F.slot_list_append ⟨_, e, rfl⟩ F.entry_list_append (F.args_list_append_2 _ _) (PySem.list_append l its.toArray n u (by rw [List.size_toArray]; omega)) ⟨e, ?_⟩
  refine ⟨.non, _, I.lset (its' := its ++ [u]) hH e (by simp) (r.append (.cons ru .nil)) ?_, rfl, q⟩
  rw [List.length_append, List.length_singleton]
  omega
noncomputable def rPopAt : V -> List V -> Hp -> VK -> Prop := fun x vs H Q => ∃ l xs i k y, x = .ref l /\ vs = [.int i] /\ H l = some (.lst xs) /\ -(2 ^ 63) <= i /\ i < 2 ^ 63 /\ seqIndex? i xs.length = some k /\ xs[k]? = some y /\ Q y (upd H l (.lst (xs.eraseIdx k)))
theorem mt_popAt : MtM X "list.pop" rPopAt := by
  intro pins s σ H x vs v us Q I rx rv h
  obtain ⟨l, xs, i, k, y, rfl, rfl, hH, h1, h2, hk, hy, q⟩ := h
  cases rx
  obtain ⟨u, rfl, ru⟩ := rv.one
  obtain ⟨t, rfl⟩ := ru
  obtain ⟨z, its, n, r, hl, e⟩ := I.lstM hH
  obtain ⟨w, hw, rw'⟩ := r.get hy
  refine call_meets F.slot_list_pop ⟨_, e, rfl⟩ F.entry_list_pop (F.args_list_pop_2 _ _)
    (MeetsSeq.list_pop_at l its.toArray n i t k w (fitsIndex_both h1 h2) (by rw [List.size_toArray, <- hl]; exact hk) (by rw [<- Array.getElem?_toList]; exact hw) (by rw [List.size_toArray]; omega)) ⟨e, ?_⟩
  refine ⟨y, _, I.lset (its' := its.eraseIdx k) hH e ?_ (r.eraseIdx k) ?_, rw', q⟩
  · show its.toArray.eraseIdxIfInBounds k = (its.eraseIdx k).toArray
    rw [List.eraseIdxIfInBounds_toArray]
  · have := xX xs k
    omega
noncomputable def rRep : R2 := fun x y H Q => ∃ l k xs, x = .ref l /\ y = .int k /\ H l = some (.lst xs) /\ -(2 ^ 63) <= k /\ k < 2 ^ 63 /\ xs.length * k.toNat <= sizeLine /\
  ∀ p, H p = none -> Q (.ref p) (upd H p (.lst (List.replicate k.toNat xs).flatten))
theorem len_rep {α : Type} (xs : List α) (k : Nat) : (List.replicate k xs).flatten.length = k * xs.length := by
  induction k with
  | zero => simp
  | succ k ih => rw [List.replicate_succ, List.flatten_cons, List.length_append, ih, Nat.succ_mul, Nat.add_comm]
theorem op_rep : OpR X (binaryOp .Mult) rRep := by
  intro pins s σ H x y v u Q I rx ry h
  obtain ⟨l, k, xs, rfl, rfl, hH, h1, h2, hz, q⟩ := h
  cases rx
  obtain ⟨t, rfl⟩ := ry
  obtain ⟨z, its, n, r, hl, e⟩ := I.lstM hH
  have hlen : its.toArray.size * k.toNat <= sizeLine := by rw [List.size_toArray, <- hl]; exact hz
  have hcap : ¬ its.toArray.size * k.toNat > (2 ^ 63 - 1) / 8 := by
    have : (sizeLine : Nat) <= (2 ^ 63 - 1) / 8 := by decide
    omega
  have hfit : ¬ (!Builtin.List.listFitsIndex k) = true := by
    rw [fitsIndex_both h1 h2]
    exact Bool.false_ne_true
  have hlong : ¬ Builtin.List.listTooLong (its.toArray.size * k.toNat) = true := by
    rw [notLongL hlen]
    exact Bool.false_ne_true
  have hnew : List.foldl (fun x1 x2 => x1 ++ x2) #[] (List.replicate (if its.toArray.isEmpty = true then 0 else k.toNat) its.toArray) = (List.replicate k.toNat its).flatten.toArray := by
    have f0 : ∀ m : Nat, List.foldl (fun x1 x2 => x1 ++ x2) #[] (List.replicate m its.toArray) = (List.replicate m its).flatten.toArray := fun m => by
      have := foldl_rep its m []
      rw [List.nil_append] at this
      exact this
    rw [f0]
    cases its with
    | nil => simp
    | cons a r' => rw [if_neg (by simp)]
  refine wpAny_binaryOp_repeat_ref (T := "list") (U := "int") (by decide) ⟨_, e, rfl⟩ (fun s' => typeIs_int s' k t) noFill_list_mul F.fills_int_mul F.slot_int_rmul repeat_list F.slot_int_index.lookup
    (call_meets F.slot_int_rmul (typeIs_int s k t) F.entry_int_rmul (F.args_int_rmul_2 _ _) (int___rmul___int_list k t l its.toArray n)
      ⟨e, rfl, ⟨_, e, rfl⟩, call_meets F.slot_list_mul ⟨_, e, rfl⟩ F.entry_list_mul (F.args_list_mul_2 _ _) (AutoListH.list___mul___list_int_3 l its.toArray n k t hfit hcap hlong) ⟨e, ?_⟩⟩)
  rw [hnew]
  exact ⟨.ref _, _, I.lnew (t' := s.toks) (r.rep k.toNat) (by rw [len_rep, Nat.mul_comm]; exact hz), rfl, q _ I.fresh⟩
end
end L2
namespace Att
open PySem PySem.W PySem.Calls PyProof.Rows
theorem sC {P : Params} {h : Heap} : ∀ (ns : List Int) (vs : List Value), WellAll P h vs (ns.map WData.int) -> IntsAre vs ns := by
  intro ns
  induction ns with
  | nil =>
    intro vs w
    rw [List.map_nil] at w
    cases w
    exact .nil
  | cons n ns ih =>
    intro vs w
    rw [List.map_cons] at w
    cases w with
    | cons a b =>
      cases a
      exact .cons _ _ (ih _ b)
theorem BF {l : OpenLaw} {n : Nat} (hn : l.most = some n) {P : Params} {h : Heap} {args : List WData} {vals : List Value}
    (hpre : l.row.toRowW.claim.pre args = true) (hwl : WellAll P h vals args) :
    ∃ a vs ns, vals = [Value.ref a] /\ args = [WData.list (ns.map WData.int)] /\ h.get? a = some { cls := .type "list", data := .seq vs.toArray } /\ IntsAre vs ns /\ ns.length <= n := by
  have hsh : WShape.hasAll [] args [.list .int] = true := (pre_splitW hpre).1
  have hc : l.pre.holds [] { args := args } = true := (pre_splitW hpre).2
  obtain ⟨d, r, rfl, h1, h2⟩ := hasAllW_cons hsh
  obtain rfl := hasAllW_nil h2
  obtain ⟨xs, rfl, h3⟩ := hasW_list h1
  obtain ⟨ns, rfl⟩ := items_int h3
  have hlen : ns.length <= n := by
    unfold OpenLaw.pre at hc
    have h4 : (WTm.not (.lt (.lit (.int (n : Int))) (.len (.arg 0)))).holds [] { args := [.list (ns.map .int)] } = true := by
      have h4 := (holds_andW hc).1
      rw [hn] at h4
      exact h4
    have h5 := condW_of h4 (w_not (w_lt w_lit (w_len_list (w_arg rfl))))
    rw [List.length_map] at h5
    refine Nat.le_of_not_lt fun q => ?_
    have q' : (n : Int) < ((ns.length : Nat) : Int) := by omega
    first
      | (rw [decide_eq_true q'] at h5; exact absurd h5 (by decide))
      | (simp at h5; omega)
  cases hwl with
  | cons w1 w2 =>
    cases w2
    cases w1 with
    | list ho hall => exact ⟨_, _, ns, rfl, rfl, ho, sC ns _ hall, hlen⟩
theorem BN (l : OpenLaw) (args : List WData) : l.row.toRowW.claim.post args (.bool true) args = true :=
  postW_of (r := l.row.toRowW) (X := (true == true))
    (show WShape.has [] (.bool true) .bool = true by first | rfl | decide | simp [WShape.has, WShape.arms, WShape.armsAll])
    (show (WTm.eq .res (.lit (.bool true))).value [] { args := args, res := some (.bool true), after := args } = some (.bool (true == true)) from w_eq_bool (w_res rfl) w_lit) rfl
theorem A3 {l : OpenLaw} {n : Nat} {q : Program} {loose : List Str} {XP : (Str -> Option Value) -> Heap -> Prop} {YP : World -> Heap -> Prop} {d : DefRec}
    (hn : l.most = some n) (hdf : d.params.defaults = [])
    (call : ∀ (w : World) (s₀ s₁ : Shared) (mg mb : Str -> Option Value) (fa : Addr) (o : Obj) (pm cd doc : Value) (a : Addr) (vs : List Value) (ns : List Int),
      Ground q loose [] XP w s₀ mg mb s₁.heap -> YP w s₁.heap ->
      s₁.heap.get? fa = some o -> o.data = .func (docDef d.name d.params d.body d.scope pm cd doc) -> s₁.heap.CodeRec cd d.name -> mg d.name = some (.ref fa) ->
      s₁.heap.get? a = some { cls := .type "list", data := .seq vs.toArray } -> IntsAre vs ns -> ns.length <= n -> s₁.gens = #[] ->
      codeAny (model l.prog w) callerA (.call (.ref fa) ⟨[.ref a], []⟩) (fun r s' => r = .ok (.ret (.bool true)) /\ OldK s₁.heap s'.heap /\ s'.os = s₁.os /\ AllBare s'.gens) s₁) :
    WalkO q loose XP YP l.row.toRowW d [] (fun f vs => PySem.call f vs) := by
  intro w s₀ s₁ mg mb G Y fa o pm cd doc dV kV ho hd hcd hD hmg hg args vals as hpre hlay hrd hwl hlo
  obtain rfl : dV = .none := Dflts.none hD hdf
  obtain rfl : kV = .none := Dflts.noKw hD
  obtain ⟨a, vs, ns, rfl, rfl, hobj, hints, hlen⟩ := BF hn hpre hwl
  refine enter_call (codeAny_mono (call w s₀ s₁ mg mb fa o pm cd doc a vs ns G Y ho (fd_plain hd) hcd hmg hobj hints hlen hg) fun r s' hq => ?_)
  obtain ⟨rfl, h2, h3, h4⟩ := hq
  exact ⟨.inl ⟨.bool true, .bool true, [], rfl, fun _ => rfl, .bool true, BN l _, fun _ => ⟨List.Pairwise.nil, fun _ hm => (nomatch hm)⟩⟩, h2, h3, h4⟩
section
variable {prog : Program} {w : World} {A : Around} {E : Value -> Shared -> Prop} {s : Shared} {K : Frag}
theorem make_obj {R : Result -> Shared -> Prop} {C fI : Addr} {rest : List Value} {kw : List (Str × Value)}
    (X : K.In s.heap) (hm : makesIn K C = true) (hi : findIn K (.ref C) "__init__" = some (some (.ref fI))) (hf : isFn K (.ref fI) = true)
    (h : codeAny (model prog w) (A.under (.builtin "type.__call__" ⟨.ref C :: rest, kw⟩)) (.call (.ref fI) ⟨.ref (s.heap.objs.size + 1) :: rest, kw⟩) (InitBack (s.heap.objs.size + 1) R)
      { s with heap := (s.heap.push emptyDict).push (instObj C s.heap.objs.size) }) : codeAny (model prog w) A (.call (.ref C) ⟨rest, kw⟩) R s := by
  obtain ⟨hh, g, d, t, os⟩ := s
  exact make_core (makes_of X hm) (looks_findIn X hi) (fun self => bind_fn X self (beq_iff_eq.mp hf)) (.inl rfl) h
theorem get_field {x C : Addr} {ox : Obj} {es : List DictEntry} {n : Nat} {name : Str} {expr : Bool} {v : Value} {Q : Value -> Shared -> Prop}
    (X : K.In s.heap) (I : PySem.W.InstAt s.heap x ox C (some (dictOf es n))) (hg : plainGet K C name = true) (hh : hasDictIn K C = true) (ha : findIn K (.ref C) name = some none)
    (hl : getL name es = some (some v)) (hv : handedIn v = true) (h : Q v { s with toks := s.toks + 1 }) : wpAny (model prog w) A (getAttr (.ref x) name expr) Q E s :=
  get_value X I (plainGet_of hg).1 (findObj_own hh ha rfl hl) hv h
end
end Att
namespace L2
open PySem PySem.Spec PyProof.Rows
theorem wV : ∀ {vs : List Value} {ns : List Int}, IntsAre vs ns -> Vals (ns.map V.int) vs
  | _, _, .nil => .nil
  | _, _, .cons n t h => .cons ⟨t, rfl⟩ (wV h)
noncomputable def Only (H : Hp) : Prop := ∀ b, H b = none \/ ∃ o xs, H b = some (.frz o (.lst xs))
theorem law_call {P : Program} {w : World} {K : PySem.W.Frag} {mg mb : Str -> Option Value} {CX : CXT} {k : Nat} {fa a : Addr} {fd : FuncData} {x : Str} {sp : Sp} {s₁ : Shared} {vs : List Value} {ns : List Int}
    (KX : K.In s₁.heap) (hns : s₁.heap.Ns mainGlobals mg) (hb : s₁.heap.Ns builtinsNs mb) (hbb : ∀ x : Str, x ≠ "__name__" -> mb x = bootBuiltins x) (hlim : s₁.heap.NoLimit) (hg : s₁.gens = #[])
    (ha : s₁.heap.get? a = some { cls := .type "list", data := .seq vs.toArray }) (hi : IntsAre vs ns) (hl : ns.length <= sizeLine) (hr : mO k callerA)
    (F : ∀ base : Heap, K.In base -> base.Ns mainGlobals mg -> c6 P w K mg base CX k fa fd [x] sp) (hbind : ∀ (s : Shared) (u : Value), BindsTo s fd ⟨[u], []⟩ [(x, u)])
    (hsp : ∀ H : Hp, Only H -> SqL K H a (ns.map V.int) -> sp [.ref a] H (fun v _ => v = .bl true) fun _ _ _ => False)
    (hCX : ∀ H e s', CX [] H s₁ (fun _ _ _ => False) e s' -> False) :
    codeAny (model P w) callerA (.call (.ref fa) ⟨[.ref a], []⟩) (fun r s' => r = .ok (.ret (.bool true)) /\ OldK s₁.heap s'.heap /\ s'.os = s₁.os /\ AllBare s'.gens) s₁ := by
  have rv := wV hi
  have lenV := hi.length
  have core : ∀ H : Hp, Only H -> SqL K H a (ns.map V.int) -> HOk P w H s₁.heap -> (∀ b, H b ≠ none -> b = a) -> (H a ≠ none -> K.lookup a = none) ->
      codeAny (model P w) callerA (.call (.ref fa) ⟨[.ref a], []⟩) (fun r s' => r = .ok (.ret (.bool true)) /\ OldK s₁.heap s'.heap /\ s'.os = s₁.os /\ AllBare s'.gens) s₁ := by
    intro H hO hS hok hA hK
    have base_of : ∀ {b : Addr} {o : Obj}, s₁.heap.get? b = some o -> H b = none -> (hidT s₁.heap H).get? b = some o := fun e n => hidT_get e n
    have noA : ∀ {b : Addr} {o : Obj} {es : Array DictEntry} {ep : Nat}, s₁.heap.get? b = some o -> o.data = .dict es ep -> H b = none := fun {b o es ep} e d => by
      cases q : H b with
      | none => rfl
      | some u =>
        have e' : b = a := hA b (by rw [q]; simp)
        subst e'
        rw [ha] at e; cases e
        have d' : Data.seq vs.toArray _ = Data.dict es ep := d
        cases d'
    have nsK : ∀ {b : Addr} {m : Str -> Option Value}, s₁.heap.Ns b m -> (hidT s₁.heap H).Ns b m := fun {b m} ⟨o, es, ep, e, d, r⟩ => ⟨o, es, ep, base_of e (noA e d), d, r⟩
    have hKb : K.In (hidT s₁.heap H) := fun b o e => base_of (KX b o e) (by
      cases q : H b with
      | none => rfl
      | some u =>
        have e' : b = a := hA b (by rw [q]; simp)
        subst e'
        rw [hK (by rw [q]; simp)] at e; cases e)
    have hM : Mod K mg (hidT s₁.heap H) := ⟨hKb, nsK hns, ⟨mb, nsK hb, hbb⟩, let ⟨mc, h1, h2⟩ := hlim; ⟨mc, nsK h1, h2⟩⟩
    have e0 : Env0 P w K mg (hidT s₁.heap H) callerA [] s₁ H := ⟨rfl, hM, fun b o e => of_hidT e, Nat.le_of_eq (Cr _ _), trivial, fun b hb => absurd (show b ∈ ([] : List Addr) from hb) (by simp), hok, .of_eq hg⟩
    refine codeAny_mono ((F _ hKb (nsK hns)).run callerA [] s₁ H ⟨[.ref a], []⟩ [.ref a] [.ref a] _ _ hr e0 (hbind s₁ (.ref a)) (.cons rfl .nil) (hsp H hO hS)) fun r s' h => ?_
    cases r with
    | error e => exact (hCX H e s' h).elim
    | ok fl =>
      cases fl with
      | next => exact False.elim h
      | brk => exact False.elim h
      | cont => exact False.elim h
      | ret u =>
        obtain ⟨v, H', os, bare, un, hok', r', q⟩ := h
        have q' : v = .bl true := q
        subst q'
        obtain rfl : u = Value.bool true := r'
        refine ⟨rfl, OldK.of_keep fun b o e => ?_, os, bare⟩
        cases q : H b with
        | none => exact un.keep b o e q (by intro z; exact absurd (show b ∈ ([] : List Addr) from z) (by simp)) (by simp)
        | some u =>
          rcases hO b with z | ⟨ob, xs, z⟩
          · rw [q] at z; cases z
          · have z2 := un.frzs b ob _ z
            obtain ⟨e1, _⟩ := hok b _ z
            obtain ⟨e2, _⟩ := hok' b _ z2
            rw [e] at e1; cases e1
            exact e2
  cases hk : K.lookup a with
  | some o =>
    have e := KX a o hk
    rw [ha] at e
    cases e
    refine core (fun _ => none) (fun _ => .inl rfl) (.inr ⟨_, vs.toArray, _, hk, rfl, rfl, rfl, by rw [List.size_toArray, lenV]; exact hl, by simpa using rv⟩) (fun b u z => by have z' : (none : Option HO) = some u := z; cases z') (fun b z => absurd rfl z) fun z => absurd rfl z
  | none =>
    refine core (fun b => if b = a then some (.frz { cls := .type "list", data := .seq vs.toArray } (.lst (ns.map V.int))) else none) (fun b => ?_) (.inl (.inr ⟨{ cls := .type "list", data := .seq vs.toArray }, if_pos rfl⟩)) (fun b u z => ?_) (fun b z => ?_) fun _ => hk
    · by_cases hb : b = a
      · exact .inr ⟨_, _, if_pos hb⟩
      · exact .inl (if_neg hb)
    · by_cases hb : b = a
      · have z' := (if_pos hb).symm.trans z
        cases z'
        subst hb
        exact ⟨ha, by rw [List.length_map]; exact hl, vs, _, rv, ha⟩
      · have z' := (if_neg hb).symm.trans z
        cases z'
    · by_cases hb : b = a
      · exact hb
      · exact absurd (if_neg hb) z
end L2
namespace L2
open PySem PySem.Spec PyProof.Rows
theorem walk_of {l : PySem.W.OpenLaw} {n k : Nat} {q : Program} {loose : List Str} {XP : (Str -> Option Value) -> Heap -> Prop} {YP : World -> Heap -> Prop} {d : DefRec} {K : Params -> PySem.W.Frag} {CX : World -> CXT} {sp : World -> Sp} {x : Str}
    (hn : l.most = some n) (hn2 : n <= sizeLine) (hdf : d.params.defaults = []) (hr : mO k callerA)
    (hY : ∀ (w : World) (h : Heap), YP w h -> (K w.params).In h)
    (F : ∀ (w : World) (mg : Str -> Option Value) (fa : Addr) (h : Heap), (K w.params).In h -> h.Ns mainGlobals mg -> mg d.name = some (.ref fa) ->
      ∃ fd : FuncData, (∀ (s : Shared) (u : Value), BindsTo s fd ⟨[u], []⟩ [(x, u)]) /\
        ∀ base : Heap, (K w.params).In base -> base.Ns mainGlobals mg -> c6 l.prog w (K w.params) mg base (CX w) k fa fd [x] (sp w))
    (hsp : ∀ (w : World) (H : Hp) (a : Addr) (ns : List Int), ns.length <= n -> Only H -> SqL (K w.params) H a (ns.map V.int) -> sp w [.ref a] H (fun v _ => v = .bl true) fun _ _ _ => False)
    (hCX : ∀ (w : World) (H : Hp) (s : Shared) (e : Value) (s' : Shared), CX w [] H s (fun _ _ _ => False) e s' -> False) :
    PySem.W.WalkO q loose XP YP l.row.toRowW d [] (fun f vs => PySem.call f vs) := by
  refine Att.A3 hn hdf fun w s₀ s₁ mg mb fa o pm cd doc a vs ns G Y ho hd hcd hmg hobj hints hlen hg => ?_
  have KX := hY w _ Y
  obtain ⟨fd, hb, hF⟩ := F w mg fa _ KX G.T.g hmg
  exact law_call KX G.T.g G.T.b G.T.builtins G.T.nolimit hg hobj hints (Nat.le_trans hlen hn2) hr hF hb (fun H hO hS => hsp w H a ns hlen hO hS) fun H e s' => hCX w H s₁ e s'
end L2
namespace L2
open PySem PySem.Spec PyProof.Rows
noncomputable def inClass (s : Stmt) (j : Nat) : Stmt := match s with
  | .ClassDef _ _ _ body _ _ _ _ _ _ _ => body.getD j (.Pass ⟨0, 0, 0, 0⟩)
  | _ => .Pass ⟨0, 0, 0, 0⟩
noncomputable def aF (s : Stmt) : Arguments := match s with
  | .FunctionDef _ a _ _ _ _ _ _ _ _ => a
  | _ => { posonlyargs := [], args := [], vararg := none, kwonlyargs := [], kw_defaults := [], kwarg := none, defaults := [] }
noncomputable def aD (s : Stmt) : List Stmt := match s with
  | .FunctionDef _ _ b _ _ _ _ _ _ _ => b
  | _ => []
noncomputable def ab (s : Stmt) : Scope := match s with
  | .FunctionDef _ _ _ _ _ _ sc _ _ _ => sc
  | _ => { kind := .function, names := [], isGenerator := false, isCoroutine := false }
noncomputable abbrev CX0 : CXT := fun _ _ _ _ _ _ => False
noncomputable abbrev E0 : XK := fun _ _ _ => False
theorem xA {X : Cx} : Passes CX0 X E0 := fun _ _ _ _ _ _ _ h => h.elim
structure Fun (K : PySem.W.Frag) (x qual : Str) (st : Stmt) (f : Addr) (fd : FuncData) : Prop where
  ex : ∃ (oc : Value) (od : Option Addr) (kV doc pm : Value) (an : Option Addr) (cdv ct : Value) (osl : Array (Option Value)),
    fd = PySem.W.fnOf x qual (aF st) (aD st) (ab st) .none kV doc pm an cdv ct /\ K.lookup f = some ⟨oc, od, .func fd, osl⟩ /\ PySem.W.codeIn K cdv qual = true
  kp : PySem.W.keepIn K (.ref f) = true
section
variable {P : Program} {w : World} {K : PySem.W.Frag} {mg : Str -> Option Value} {base : Heap}
theorem Fun.binds {x qual : Str} {st : Stmt} {f : Addr} {fd : FuncData} {ps : List Str} (F : Fun K x qual st f fd)
    (h : ∀ (kV doc pm : Value) (an : Option Addr) (cdv ct : Value) (us : List Value), us.length = ps.length -> bindArgs (PySem.W.fnOf x qual (aF st) (aD st) (ab st) .none kV doc pm an cdv ct) ⟨us, []⟩ = pure (ps.zip us)) : Binds K fd ps [] := by
  obtain ⟨oc, od, kV, doc, pm, an, cdv, ct, osl, rfl, lk, hcd⟩ := F.ex
  exact .all (h kV doc pm an cdv ct)
theorem Au {x qual : Str} {st : Stmt} {f : Addr} {oc : Value} {od an : Option Addr} {osl : Array (Option Value)} {kV doc pm cdv ct : Value} (l : K.lookup f = some ⟨oc, od, .func (PySem.W.fnOf x qual (aF st) (aD st) (ab st) .none kV doc pm an cdv ct), osl⟩)
    (c : PySem.W.codeIn K cdv qual = true) (k : PySem.W.keepIn K (.ref f) = true) : Fun K x qual st f (PySem.W.fnOf x qual (aF st) (aD st) (ab st) .none kV doc pm an cdv ct) := ⟨⟨oc, od, kV, doc, pm, an, cdv, ct, osl, rfl, l, c⟩, k⟩
end
section
variable {X : Cx}
theorem pv (i : Nat) {x : Str} {pos : Pos} (hN : X.N[i]? = some x := by rfl) (hv : Vis X.env.scope x := by first | exact Or.inl rfl | exact Or.inr (Or.inl rfl) | exact Or.inr (Or.inr rfl)) (hd : (x == ("__debug__" : Str)) = false := by decide)
    (hcd : (x == ("__classdict__" : Str)) = false := by decide) : PE X (.Name x pos) (By i) := pe_var hN hv hd hcd
end
theorem iteF {A B : Prop} (h : B) : if false = true then A else B := by
  rw [if_neg Bool.false_ne_true]
  exact h
theorem iteNS {c A B : Prop} [Decidable c] (hc : c) (h : B) : if (!decide c) = true then A else B := by
  rw [decide_eq_true hc]
  exact iteF h
noncomputable def bg (H H' : Hp) : Prop := ∀ b o, H b = some o -> H' b = some o
theorem bg.refl (H : Hp) : bg H H := fun _ _ h => h
theorem bg.trans {H H1 H2 : Hp} (a : bg H H1) (b : bg H1 H2) : bg H H2 := fun c o h => b c o (a c o h)
theorem bg.free {H H' : Hp} (e : bg H H') {l : Addr} (h : H' l = Option.none) : H l = Option.none := by
  cases q : H l with
  | none => rfl
  | some o =>
    rw [e l o q] at h
    cases h
end L2
set_option maxHeartbeats 4000000
namespace L2
open PySem PySem.Spec PyProof.Rows
noncomputable def uF (cells : List (Str × Addr)) : List (Str × NameKind) -> List (Str × Addr) -> List (Str × Addr)
  | [], acc => acc
  | (x, k) :: r, acc => uF cells r (if (k == NameKind.free) = true then (x, (cells.lookup x).getD 0) :: acc else acc)
theorem gt_ne {a b c : Addr} (h1 : b < a) (h2 : a < c) : c ≠ b := by
  rintro rfl
  exact absurd (Nat.lt_trans h1 h2) (Nat.lt_irrefl _)
theorem B5 {a b : Addr} {n : Nat} (h1 : a < n) (h2 : n <= b) : a ≠ b := by
  rintro rfl
  exact absurd (Nat.lt_of_lt_of_le h1 h2) (Nat.lt_irrefl _)
theorem uE {cells : List (Str × Addr)} {x : Str} {c : Addr} : ∀ (ns : List (Str × NameKind)) (acc : List (Str × Addr)), (uF cells ns acc).lookup x = some c ->
    ((x, NameKind.free) ∈ ns /\ c = (cells.lookup x).getD 0) \/ acc.lookup x = some c
  | [], _, h => .inr h
  | (y, k) :: r, acc, h => by
    unfold uF at h
    rcases uE r _ h with ⟨m, e⟩ | q
    · exact .inl ⟨List.mem_cons_of_mem _ m, e⟩
    · by_cases hk : (k == NameKind.free) = true
      · rw [if_pos hk, List.lookup_cons] at q
        cases hy : x == y with
        | true =>
          rw [hy] at q
          have e1 := eq_of_beq hy
          have e2 := eq_of_beq hk
          subst e1 e2
          exact .inl ⟨List.mem_cons_self, (Option.some.inj q).symm⟩
        | false => rw [hy] at q; exact .inr q
      · rw [if_neg hk] at q; exact .inr q
theorem sU {cells : List (Str × Addr)} {x : Str} : ∀ (ns : List (Str × NameKind)) (acc : List (Str × Addr)), ((x, NameKind.free) ∈ ns \/ (acc.lookup x).isSome = true) -> ((uF cells ns acc).lookup x).isSome = true
  | [], _, h => h.elim (fun z => nomatch z) id
  | (y, k) :: r, acc, h => by
    unfold uF
    refine sU r _ ?_
    rcases h with h | h
    · rcases List.mem_cons.mp h with e | h
      · cases e
        refine .inr ?_
        rw [if_pos (by decide), List.lookup_cons]
        simp
      · exact .inl h
    · refine .inr ?_
      by_cases hk : (k == NameKind.free) = true
      · rw [if_pos hk, List.lookup_cons]
        cases hy : x == y with
        | true => rfl
        | false => exact h
      · rw [if_neg hk]; exact h
theorem oX {x : Str} {c : Addr} : ∀ (ns : List (Str × NameKind)) (n : Nat) (acc : List (Str × Addr)), (cellsFrom n ns acc).lookup x = some c -> (n <= c /\ (x, NameKind.cell) ∈ ns) \/ acc.lookup x = some c
  | [], _, _, h => .inr h
  | (y, k) :: r, n, acc, h => by
    unfold cellsFrom at h
    by_cases hk : (k == NameKind.cell) = true
    · rw [if_pos hk] at h
      rcases oX r (n + 1) _ h with ⟨a, m⟩ | q
      · exact .inl ⟨by omega, List.mem_cons_of_mem _ m⟩
      · rw [List.lookup_cons] at q
        cases hy : x == y with
        | true =>
          rw [hy] at q
          have e1 := eq_of_beq hy
          have e2 := eq_of_beq hk
          have e3 := Option.some.inj q
          subst e1 e2 e3
          exact .inl ⟨Nat.le_refl _, List.mem_cons_self⟩
        | false => rw [hy] at q; exact .inr q
    · rw [if_neg hk] at h
      rcases oX r n acc h with ⟨a, m⟩ | q
      · exact .inl ⟨a, List.mem_cons_of_mem _ m⟩
      · exact .inr q
theorem sV : ∀ (ns : List (Str × NameKind)) (n : Nat) (acc : List (Str × Addr)), (∀ x y c, acc.lookup x = some c -> acc.lookup y = some c -> x = y) -> (∀ x c, acc.lookup x = some c -> c < n) ->
    ∀ x y c, (cellsFrom n ns acc).lookup x = some c -> (cellsFrom n ns acc).lookup y = some c -> x = y
  | [], _, _, hi, _ => hi
  | (z, k) :: r, n, acc, hi, hl => by
    unfold cellsFrom
    by_cases hk : (k == NameKind.cell) = true
    · rw [if_pos hk]
      refine sV r (n + 1) _ (fun x y c h1 h2 => ?_) (fun x c h1 => ?_)
      · rw [List.lookup_cons] at h1 h2
        cases hx : x == z with
        | true =>
          rw [hx] at h1
          have e1 := Option.some.inj h1
          cases hy : y == z with
          | true => rw [eq_of_beq hx, eq_of_beq hy]
          | false =>
            rw [hy] at h2
            have h3 := hl y c h2
            rw [<- e1] at h3
            exact absurd h3 (Nat.lt_irrefl _)
        | false =>
          rw [hx] at h1
          cases hy : y == z with
          | true =>
            rw [hy] at h2
            have e2 := Option.some.inj h2
            have h3 := hl x c h1
            rw [<- e2] at h3
            exact absurd h3 (Nat.lt_irrefl _)
          | false =>
            rw [hy] at h2
            exact hi x y c h1 h2
      · rw [List.lookup_cons] at h1
        cases hx : x == z with
        | true =>
          rw [hx] at h1
          have e1 := Option.some.inj h1
          rw [<- e1]
          exact Nat.lt_succ_self _
        | false =>
          rw [hx] at h1
          exact Nat.lt_succ_of_lt (hl x c h1)
    · rw [if_neg hk]
      exact sV r n acc hi hl
theorem qk {x : Str} {c : Addr} : ∀ (ns : List (Str × NameKind)) (h : Heap) (acc : List (Str × Addr)), (cellsFrom h.objs.size ns acc).lookup x = some c ->
    acc.lookup x = some c \/ (h.objs.size <= c /\ (pushCells h ns).IsCell c none)
  | [], _, _, e => .inl e
  | (y, k) :: r, h, acc, e => by
    unfold cellsFrom at e
    unfold pushCells
    by_cases hk : (k == NameKind.cell) = true
    · rw [if_pos hk] at e ⊢
      have q := qk (x := x) (c := c) r (h.push { cls := .type "cell", data := .cell none }) ((y, h.objs.size) :: acc) (by rw [Heap.size_push]; exact e)
      rcases q with q | ⟨q1, q2⟩
      · rw [List.lookup_cons] at q
        cases hy : x == y with
        | true =>
          rw [hy] at q
          have e1 := Option.some.inj q
          subst e1
          exact .inr ⟨Nat.le_refl _, Heap.IsCell.keeps ⟨_, Heap.get?_push_size _ rfl, rfl⟩ (pushCells_keeps r _)⟩
        | false => rw [hy] at q; exact .inl q
      · rw [Heap.size_push] at q1
        exact .inr ⟨by omega, q2⟩
    · rw [if_neg hk] at e ⊢
      exact qk r h acc e
theorem qC {env : Env} (f : Str × NameKind -> List (Str × Addr) -> Sem (ForInStep (List (Str × Addr))))
    (hf : ∀ n k cs, f (n, k) cs = if (k == NameKind.free) = true then (do let a <- cellOf env n; pure (.yield ((n, a) :: cs))) else pure (.yield cs)) :
    ∀ (ns : List (Str × NameKind)) (acc : List (Str × Addr)), (∀ x ∈ ns, x.2 = NameKind.free -> ∃ c, env.cells.lookup x.1 = some c) -> forIn ns acc f = (pure (uF env.cells ns acc) : Sem _)
  | [], acc, _ => by rw [List.forIn_nil]; rfl
  | (y, k) :: r, acc, hc => by
    have hr : ∀ x ∈ r, x.2 = NameKind.free -> ∃ c, env.cells.lookup x.1 = some c := fun x hx => hc x (List.mem_cons_of_mem _ hx)
    rw [List.forIn_cons, hf]
    unfold uF
    by_cases hk : (k == NameKind.free) = true
    · rw [if_pos hk, if_pos hk]
      obtain ⟨c, e⟩ := hc (y, k) List.mem_cons_self (eq_of_beq hk)
      have e' : env.cells.lookup y = some c := e
      have e2 : cellOf env y = pure c := by unfold cellOf; rw [e']
      rw [e2, e']
      exact qC f hf r _ hr
    · rw [if_neg hk, if_neg hk]
      exact qC f hf r _ hr
theorem uD {scope : Scope} {env : Env} (hc : ∀ x ∈ scope.names, x.2 = NameKind.free -> ∃ c, env.cells.lookup x.1 = some c) : closureFor scope env = pure (uF env.cells scope.names []) := by
  simp only [closureFor]
  rw [qC (env := env) _ (fun n k cs => by cases h : (k == NameKind.free) <;> simp [h]) scope.names [] hc]
  rfl
theorem C7 {M : Model} {A : Around} {E : Value -> Shared -> Prop} {s : Shared} {scope : Scope} {gl : Addr} {cl : List (Str × Addr)} {qual : Str} {around : Env} {Q : Env -> Shared -> Prop}
    (hQ : ∀ h1 : Heap, (∀ b o, s.heap.get? b = some o -> h1.get? b = some o) -> h1.Ns s.heap.objs.size (fun _ => none) ->
      (∀ x c, (cellsFrom (s.heap.objs.size + 1) scope.names cl).lookup x = some c -> cl.lookup x = some c \/ (s.heap.objs.size < c /\ h1.IsCell c none)) ->
      Q { scope := scope, locals := s.heap.objs.size, globals := gl, cells := cellsFrom (s.heap.objs.size + 1) scope.names cl, qual := qual, func := none, code := around.code, frame := around.frame, builtins := around.builtins } { s with heap := h1 }) :
    wpAny M A (newFunctionEnv scope gl cl [] qual none .none (some around)) Q E s := by
  simp only [newFunctionEnv, Option.isSome_some, if_true]
  refine wpAny_bind (wpAny_alloc ?_)
  refine wpAny_bind (wpAny_layCells _ (fun name kind cells => by cases hkc : kind == NameKind.cell <;> simp [hkc]) _ _ _ _ ?_)
  rw [show ({ s with heap := s.heap.push { cls := .type "dict", data := .dict #[] } } : Shared).heap.objs.size = s.heap.objs.size + 1 from Heap.size_push ..]
  rw [List.forIn_nil]
  refine wpAny_bind (wpAny_pure (wpAny_pure ?_))
  refine hQ _ (fun b o e => pushCells_keeps _ _ b o (Heap.get?_push_of_some _ e)) ((Heap.Ns.new s.heap (.type "dict")).keeps (pushCells_keeps _ _)) fun x c e => ?_
  have q := qk (x := x) (c := c) scope.names (s.heap.push { cls := .type "dict", data := .dict #[] }) cl (by rw [Heap.size_push]; exact e)
  rw [Heap.size_push] at q
  exact q.imp id fun ⟨a, b⟩ => ⟨by omega, b⟩
theorem um {env : Env} {x : Str} : ∀ {ns : List (Str × NameKind)}, ns.lookup x = some .free ->
    (ns.map fun (n, k) => if (k == NameKind.free && env.scope.kind == .function && env.kindOf n == some .cell) then (n, NameKind.cell) else (n, k)).lookup x = some .cell \/
    (ns.map fun (n, k) => if (k == NameKind.free && env.scope.kind == .function && env.kindOf n == some .cell) then (n, NameKind.cell) else (n, k)).lookup x = some .free
  | [], h => by simp at h
  | (n, k) :: r, h => by
    have ih := @um env x r
    rw [List.map_cons]
    dsimp only
    by_cases hc : (k == NameKind.free && env.scope.kind == .function && env.kindOf n == some .cell) = true
    · rw [if_pos hc, List.lookup_cons]
      cases hx : x == n with
      | true => exact .inl rfl
      | false => rw [List.lookup_cons, hx] at h; exact ih h
    · rw [if_neg hc, List.lookup_cons]
      cases hx : x == n with
      | true =>
        rw [List.lookup_cons, hx] at h
        have e := Option.some.inj h
        subst e
        exact .inr rfl
      | false => rw [List.lookup_cons, hx] at h; exact ih h
theorem uo {env : Env} {x : Str} : ∀ {ns : List (Str × NameKind)},
    ((ns.map fun (n, k) => if (k == NameKind.free && env.scope.kind == .function && env.kindOf n == some .cell) then (n, NameKind.cell) else (n, k)).lookup x = some .cell \/
    (ns.map fun (n, k) => if (k == NameKind.free && env.scope.kind == .function && env.kindOf n == some .cell) then (n, NameKind.cell) else (n, k)).lookup x = some .free) ->
    ns.lookup x = some .cell \/ ns.lookup x = some .free
  | [], h => by simp at h
  | (n, k) :: r, h => by
    have ih := @uo env x r
    rw [List.map_cons] at h
    dsimp only at h
    by_cases hc : (k == NameKind.free && env.scope.kind == .function && env.kindOf n == some .cell) = true
    · rw [if_pos hc, List.lookup_cons] at h
      rw [List.lookup_cons]
      cases hx : x == n with
      | true =>
        have : k = NameKind.free := by
          rw [Bool.and_eq_true, Bool.and_eq_true] at hc
          exact eq_of_beq hc.1.1
        subst this
        exact .inr rfl
      | false => rw [hx] at h; exact ih h
    · rw [if_neg hc, List.lookup_cons] at h
      rw [List.lookup_cons]
      cases hx : x == n with
      | true => rw [hx] at h; exact h
      | false => rw [hx] at h; exact ih h
noncomputable def aY (X : Cx) (N' : List Str) (sc : Scope) (L : Addr) (cs : List (Str × Addr)) (s : Shared) (H : Hp) (fp : List Addr) : Cx :=
  { X with
    N := N', s₀ := s, H₀ := H, outer := X.stack, ex := fp, pn := [], xe := fun _ _ => False
    fn := fun x => !(sc.names.any fun p => p.1 == x && p.2 == NameKind.free)
    env := { scope := relabel sc X.env, locals := L, globals := X.env.globals, cells := cs, qual := X.env.qual, func := none, code := X.env.code, frame := X.env.frame, builtins := X.env.builtins } }
noncomputable def inS (ix : List (Option Nat)) (σ : St) : St := ix.map fun o => match o with
  | none => none
  | some j => (σ[j]?).join
noncomputable def bG (N : List Str) (osc : Scope) (N' : List Str) (sc : Scope) (ix : List (Option Nat)) : Bool :=
  decide (ix.length = N'.length) &&
  ((List.range ix.length).all fun i => match ix[i]? with
    | some (some j) => (match N'[i]?, N[j]? with
      | some x, some y => x == y && sc.names.lookup x == some NameKind.free
      | _, _ => false)
    | _ => true) &&
  (sc.names.all fun p => (p.2 != NameKind.free || (osc.names.lookup p.1 == some NameKind.cell || osc.names.lookup p.1 == some NameKind.free)) && (p.2 != NameKind.local || sc.names.lookup p.1 == some NameKind.local)) &&
  (sc.names.all fun p => sc.names.all fun q => !(p.1 == q.1) || p.2 == q.2)
section
variable {X : Cx} {pins : List (Addr × Obj)} {σ : St} {H : Hp} {s : Shared} {N' : List Str} {sc : Scope} {ix : List (Option Nat)}
theorem bG.len (ok : bG X.N X.env.scope N' sc ix = true) : ix.length = N'.length := by
  unfold bG at ok
  rw [Bool.and_eq_true, Bool.and_eq_true, Bool.and_eq_true] at ok
  exact of_decide_eq_true ok.1.1.1
theorem bG.at (ok : bG X.N X.env.scope N' sc ix = true) {i j : Nat} {x : Str} (h : ix[i]? = some (some j)) (hx : N'[i]? = some x) : X.N[j]? = some x /\ sc.names.lookup x = some .free := by
  unfold bG at ok
  rw [Bool.and_eq_true, Bool.and_eq_true, Bool.and_eq_true] at ok
  have q := List.all_eq_true.mp ok.1.1.2 i (List.mem_range.mpr (List.getElem?_eq_some_iff.mp h).1)
  rw [h, hx] at q
  dsimp only at q
  cases e : X.N[j]? with
  | none => rw [e] at q; cases q
  | some y =>
    rw [e] at q
    dsimp only at q
    rw [Bool.and_eq_true] at q
    exact ⟨by rw [eq_of_beq q.1], eq_of_beq q.2⟩
theorem bG.fr (ok : bG X.N X.env.scope N' sc ix = true) {x : Str} (h : (x, NameKind.free) ∈ sc.names) : X.env.kindOf x = some .cell \/ X.env.kindOf x = some .free := by
  unfold bG at ok
  rw [Bool.and_eq_true, Bool.and_eq_true] at ok
  have q := List.all_eq_true.mp ok.1.2 _ h
  rw [Bool.and_eq_true] at q
  have q1 := q.1
  rw [Bool.or_eq_true] at q1
  rcases q1 with z | z
  · exact absurd z (by simp)
  · rw [Bool.or_eq_true] at z
    exact z.imp (fun e => eq_of_beq e) fun e => eq_of_beq e
theorem bG.loc (ok : bG X.N X.env.scope N' sc ix = true) : ∀ x ∈ sc.names, x.2 = NameKind.local -> sc.names.lookup x.1 = some .local := fun x hx e => by
  unfold bG at ok
  rw [Bool.and_eq_true, Bool.and_eq_true] at ok
  have q := List.all_eq_true.mp ok.1.2 _ hx
  rw [Bool.and_eq_true] at q
  have q1 := q.2
  rw [Bool.or_eq_true] at q1
  rcases q1 with z | z
  · rw [e] at z; exact absurd z (by decide)
  · exact eq_of_beq z
theorem bG.apart (ok : bG X.N X.env.scope N' sc ix = true) {x : Str} (h1 : (x, NameKind.cell) ∈ sc.names) (h2 : (x, NameKind.free) ∈ sc.names) : False := by
  unfold bG at ok
  rw [Bool.and_eq_true] at ok
  have q := List.all_eq_true.mp (List.all_eq_true.mp ok.2 _ h1) _ h2
  simp at q
theorem sT (I : Inv X pins σ H s) (ok : bG X.N X.env.scope N' sc ix = true) : ∀ x ∈ sc.names, x.2 = NameKind.free -> ∃ c, X.env.cells.lookup x.1 = some c := fun x hx e => by
  obtain ⟨n, k⟩ := x
  have e' : k = NameKind.free := e
  subst e'
  exact I.ok.has n (bG.fr ok hx)
theorem CN (I : Inv X pins σ H s) (ok : bG X.N X.env.scope N' sc ix = true) {x : Str} {c : Addr} (h : (uF X.env.cells sc.names []).lookup x = some c) : (x, NameKind.free) ∈ sc.names /\ X.env.cells.lookup x = some c := by
  rcases uE _ _ h with ⟨m, e⟩ | z
  · obtain ⟨d, hd⟩ := sT I ok _ m rfl
    have hd' : X.env.cells.lookup x = some d := hd
    rw [hd'] at e
    have e2 : c = d := e
    subst e2
    exact ⟨m, hd'⟩
  · simp at z
theorem comp_inv {fp : List Addr} {L : Addr} {h1 : Heap} (I : Inv X pins σ H s) (hf : ∀ b ∈ fp, Bs X pins H b) (hb : ∀ b ∈ fp, ∃ o, s.heap.get? b = some o) (ok : bG X.N X.env.scope N' sc ix = true) (hk : sc.kind = .function) (hL : s.heap.objs.size <= L)
    (kp : ∀ b o, s.heap.get? b = some o -> h1.get? b = some o) (ns : h1.Ns L fun _ => none)
    (hc : ∀ x c, (cellsFrom (L + 1) sc.names (uF X.env.cells sc.names [])).lookup x = some c -> (uF X.env.cells sc.names []).lookup x = some c \/ (L < c /\ h1.IsCell c none)) :
    Inv (aY X N' sc L (cellsFrom (L + 1) sc.names (uF X.env.cells sc.names [])) s H fp) [] (inS ix σ) H { s with heap := h1 } := by
  have cc : ∀ x c, (uF X.env.cells sc.names []).lookup x = some c -> (x, NameKind.free) ∈ sc.names /\ X.env.cells.lookup x = some c /\ (∃ v, s.heap.IsCell c v) /\ c < s.heap.objs.size := fun x c e => by
    obtain ⟨m, e'⟩ := CN I ok e
    obtain ⟨v, z⟩ := I.cell x c e'
    exact ⟨m, e', ⟨v, z⟩, z.lt⟩
  have fpl : ∀ b ∈ fp, b < s.heap.objs.size := fun b z => let ⟨o, e⟩ := hb b z; Heap.lt_size e
  have cne : ∀ b ∈ fp, ∀ x c, (cellsFrom (L + 1) sc.names (uF X.env.cells sc.names [])).lookup x = some c -> c ≠ b := fun b z x c e => by
    have hlt := fpl b z
    rcases hc x c e with q | ⟨q, _⟩
    · exact (hf b z).2.2.2.2.1 x c (cc x c q).2.1
    · exact gt_ne (Nat.lt_of_lt_of_le hlt hL) q
  have okk : (aY X N' sc L (cellsFrom (L + 1) sc.names (uF X.env.cells sc.names [])) s H fp).Ok := by
    refine ⟨I.ok.mod, hk, I.ok.glob, I.ok.blt, hL, ?_, ?_, ?_, I.ok.hd, I.ok.frames, .inl rfl, ?_, I.bs, Nat.le_trans I.ok.bsz I.sz, ?_, ?_, I.stack, I.BA⟩
    · refine sV sc.names (L + 1) _ (fun x y c e1 e2 => I.ok.inj x y c (cc x c e1).2.1 (cc y c e2).2.1) fun x c e => ?_
      exact Nat.lt_succ_of_lt (Nat.lt_of_lt_of_le (cc x c e).2.2.2 hL)
    · intro x hx
      have hx' := uo (env := X.env) (x := x) (ns := sc.names) hx
      have q : ((cellsFrom (L + 1) sc.names (uF X.env.cells sc.names [])).lookup x).isSome = true := by
        rcases hx' with z | z
        · exact PySem.W.cellsFrom_some _ _ _ (.inl z)
        · exact PySem.W.cellsFrom_some _ _ _ (.inr (sU _ _ (.inl (PySem.mem_of_lookup z))))
      exact Option.isSome_iff_exists.mp q
    · intro x c hfn e
      show s.heap.objs.size <= c
      rcases hc x c e with q | ⟨q, _⟩
      · have m := (cc x c q).1
        have hfn' : (!(sc.names.any fun p => p.1 == x && p.2 == NameKind.free)) = true := hfn
        have z : (sc.names.any fun p => p.1 == x && p.2 == NameKind.free) = true := List.any_eq_true.mpr ⟨_, m, by simp⟩
        rw [z] at hfn'
        cases hfn'
      · exact Nat.le_trans hL (Nat.le_of_lt q)
    · intro b z
      have hlt := fpl b z
      exact ⟨Nat.ne_of_lt (Nat.lt_of_lt_of_le hlt hL), cne b z⟩
    · intro b o e z
      rcases (hf b z).2.2.2.1 with q | q
      · exact I.ok.noex b o e q
      · exact absurd (Nat.lt_of_lt_of_le (Heap.lt_size e) (Nat.le_trans I.ok.bsz q)) (Nat.lt_irrefl _)
    · intro b z hs
      rcases List.mem_cons.mp (I.x9 b hs) with q | q
      · exact (hf b z).2.1 q
      · exact (hf b z).2.2.1 q
  refine ⟨okk, rfl, I.bare, Un.kept kp, ⟨_, ns, fun i x v h1' h2 h3 => ?_⟩, fun x c e => ?_, I.hok.fresh hL, fun x c e => ?_, fun p hp => absurd hp (by simp [aY]), I.hok.kept kp, ?_⟩
  · have hix : ∃ j, ix[i]? = some (some j) /\ σ[j]? = some (some v) := by
      unfold inS at h2
      rw [List.getElem?_map] at h2
      cases e : ix[i]? with
      | none => rw [e] at h2; cases h2
      | some o =>
        rw [e] at h2
        cases o with
        | none => cases h2
        | some j =>
          have h2' : (σ[j]?).join = some v := Option.some.inj h2
          refine ⟨j, rfl, ?_⟩
          cases e2 : σ[j]? with
          | none => rw [e2] at h2'; cases h2'
          | some w =>
            rw [e2] at h2'
            have h2'' : w = some v := h2'
            rw [h2'']
    obtain ⟨j, e1, e2⟩ := hix
    obtain ⟨e3, e4⟩ := bG.at ok e1 h1'
    have hfr := bG.fr ok (PySem.mem_of_lookup e4)
    obtain ⟨m, hn, hl⟩ := I.loc
    obtain ⟨u, r, l⟩ := hl j x v e3 e2 (hfr.elim (fun z => .inr (.inl z)) fun z => .inr (.inr z))
    refine ⟨u, r, .inr ⟨um (env := X.env) (x := x) (ns := sc.names) e4, ?_⟩⟩
    rcases l with ⟨k, _⟩ | ⟨k, c, e, z⟩
    · rcases hfr with q | q <;> rw [q] at k <;> cases k
    · have q1 := sU (cells := X.env.cells) sc.names [] (.inl (PySem.mem_of_lookup e4))
      obtain ⟨c2, q2⟩ := Option.isSome_iff_exists.mp q1
      have q3 := (cc x c2 q2).2.1
      rw [e] at q3
      cases q3
      have q4 := PySem.W.cellsFrom_some (x := x) sc.names (L + 1) (uF X.env.cells sc.names []) (.inr q1)
      obtain ⟨c3, q5⟩ := Option.isSome_iff_exists.mp q4
      rcases hc x c3 q5 with q6 | ⟨q6, q7⟩
      · rw [q2] at q6
        cases q6
        exact ⟨c, q5, z.keeps kp⟩
      · exfalso
        rcases oX _ _ _ q5 with ⟨_, m'⟩ | q8
        · exact bG.apart ok m' (PySem.mem_of_lookup e4)
        · rw [q2] at q8
          cases q8
          exact absurd (Nat.lt_trans (Nat.lt_of_lt_of_le (cc x c q2).2.2.2 hL) q6) (Nat.lt_irrefl _)
  · rcases hc x c e with q | ⟨_, q⟩
    · obtain ⟨v, z⟩ := (cc x c q).2.2.1
      exact ⟨v, z.keeps kp⟩
    · exact ⟨_, q⟩
  · rcases hc x c e with q | ⟨q, _⟩
    · exact I.freeC x c (cc x c q).2.1
    · exact I.hok.fresh (Nat.le_trans hL (Nat.le_of_lt q))
  · show (inS ix σ).length = N'.length
    unfold inS
    rw [List.length_map]
    exact bG.len ok
end
noncomputable def PTs (X : Cx) (ifs : List Expr) (t : TT) : Prop :=
  ∀ (pins : List (Addr × Obj)) (s : Shared) (σ : St) (H : Hp) (Q : Bool -> Hp -> Prop), Inv X pins σ H s -> t σ H Q ->
    wpAny (model X.prog X.w) X.A (forIn ifs true fun c r => if r = true then do let ok <- isTrue c X.env (eval c X.env); pure (ForInStep.yield ok) else pure (ForInStep.yield r)) (TP X pins σ Q) X.xe s
noncomputable def tYes : TT := fun _ H Q => Q true H
theorem pts_nil {X : Cx} : PTs X [] tYes := fun _ _ _ H _ I h => wpAny_tests_nil ⟨H, I, h⟩
theorem pts_one {X : Cx} {c : Expr} {t : TT} (h : PT X c t) : PTs X [c] t := fun pins s σ H Q I q => wpAny_tests_one (h pins s σ H Q I q)
theorem yE {prog : Program} {w : World} {A : Around} {R : Result -> Shared -> Prop} {s : Shared} {elt tg iter : Expr} {ifs : List Expr} {scope : Scope} {pos : Pos} {it acc : Value} {env : Env} (J : Nat -> Shared -> Prop)
    (turn : ∀ n s, J n s -> wpAny (model prog w) A (pyNext it) (fun r s1 => match r with
      | none => R (.ok .next) s1
      | some v => wpAny (model prog w) A (letOwnedTupleGo tg it v) (fun _ s1' => wpAny (model prog w) A (assign tg env v) (fun _ s2 =>
          wpAny (model prog w) A (forIn ifs true fun c r => if r = true then do let ok <- isTrue c env (eval c env); pure (ForInStep.yield ok) else pure (ForInStep.yield r)) (fun ok s3 =>
            if ok = true then wpAny (model prog w) A (eval elt env) (fun x s4 => wpAny (model prog w) A (call (.builtin "list.append") [acc, x]) (fun _ s5 => ∃ m, m < n /\ J m s5) (fun _ _ => False) s4) (fun _ _ => False) s3
            else ∃ m, m < n /\ J m s3) (fun _ _ => False) s2) (fun _ _ => False) s1') (fun _ _ => False) s1) (fun _ _ => False) s)
    (n : Nat) (h : J n s) : codeAny (model prog w) A (.compLoop (.ListComp elt [⟨tg, iter, ifs, 0⟩] scope pos) 0 it acc env) R s := by
  refine codeAny_loop rfl J (fun n s hJ => ?_) n h
  show wpAny _ A ((compTurn (.ListComp elt [⟨tg, iter, ifs, 0⟩] scope pos) 0 it acc env).onRaise (fun x => do noteFrame x env; theTreesLotGoes x)) _ _ s
  refine wpAny_noted ?_
  rw [compTurn_list]
  refine wpAny_bind (wpAny_standAt (wpAny_bind (wpAny_mono (turn n s hJ) (fun r s1 h1 => ?_) fun _ _ z => z.elim)))
  cases r with
  | none => exact wpAny_pure h1
  | some v =>
    refine wpAny_bind (wpAny_mono h1 (fun _ s1' h1' => ?_) fun _ _ z => z.elim)
    refine wpAny_bind (wpAny_mono h1' (fun _ s2 h2 => wpAny_bind (wpAny_mono h2 (fun ok s3 h3 => ?_) fun _ _ z => z.elim)) fun _ _ z => z.elim)
    cases ok with
    | false => exact wpAny_pure ⟨rfl, h3⟩
    | true =>
      exact wpAny_bind (wpAny_bind (wpAny_mono h3 (fun x s4 h4 => wpAny_bind (wpAny_mono h4 (fun _ s5 h5 => wpAny_pure (wpAny_pure ⟨rfl, h5⟩)) fun _ _ z => z.elim)) fun _ _ z => z.elim))
noncomputable def pO (J : It) (ix : List (Option Nat)) (g : TG) (tt : TT) (te : TE) (σ : St) (F : List V -> Hp -> Prop) (H : Hp) : Prop :=
  ∃ W : Nat -> Nat -> List V -> Hp -> Prop, (∃ m, W 0 m [] H) /\ ∀ i m ys H, W i m ys H ->
    (J.stop i H /\ ys.length <= sizeLine /\ F ys H) \/ (J.go i H /\ ys.length <= sizeLine /\ ∃ N : List V -> Hp -> Prop, (∀ ys' H', N ys' H' -> ∃ m', m' < m /\ W (i + 1) m' ys' H') /\
      ∀ x H', J.yld i H x H' -> g x (inS ix σ) H' fun σ2 H2 => tt σ2 H2 fun b H3 => if b = true then te σ2 H3 fun y H4 => N (ys ++ [y]) H4 else N ys H3)
section
variable {X : Cx} {pins : List (Addr × Obj)} {σ : St} {H : Hp} {s : Shared} {N' : List Str} {sc : Scope} {ix : List (Option Nat)}
theorem Inv.slots0 {X : Cx} {σ' : St} (I : Inv X pins σ' H s) (h : ∀ (i : Nat) v, (inS ix σ)[i]? = some (some v) -> σ'[i]? = some (some v)) (hl : (inS ix σ).length = X.N.length) : Inv X pins (inS ix σ) H s :=
  I.weak (by rw [hl, I.len]) h
theorem yD {tg elt iter : Expr} {ifs : List Expr} {pos : Pos} {g : TG} {tt : TT} {te : TE} {J : It} {fp : List Addr} {it : Addr} {tn : Nat -> Heap -> Prop} {F : List V -> Hp -> Prop} {E : Value -> Shared -> Prop}
    (hc : X.calm = true) (I : Inv X pins σ H s) (T : Turn X.prog X.w X.K tg J fp it tn) (st : tn 0 s.heap) (hf : ∀ b ∈ fp, Bs X pins H b) (ok : bG X.N X.env.scope N' sc ix = true) (hk : sc.kind = .function)
    (hg : ∀ L cs s H fp, PG (aY X N' sc L cs s H fp) tg g) (hkeep : ∀ x σ' H' (Q : St -> Hp -> Prop), g x σ' H' Q -> g x σ' H' fun σ2 H2 => Q σ2 H2 /\ ∀ (i : Nat) v, σ'[i]? = some (some v) -> (∃ j, ix[i]? = some (some j)) -> σ2[i]? = some (some v))
    (ht : ∀ L cs s H fp, PTs (aY X N' sc L cs s H fp) ifs tt) (he : ∀ L cs s H fp, PE (aY X N' sc L cs s H fp) elt te)
    (tr : pO J ix g tt te σ F H) :
    wpAny (model X.prog X.w) X.A (newList []) (fun acc s3 => wpAny (model X.prog X.w) X.A (newFunctionEnv sc X.env.globals (uF X.env.cells sc.names []) [] X.env.qual none .none (some X.env)) (fun cenv s4 =>
      codeAny (model X.prog X.w) X.A (.compStart (.ListComp elt [⟨tg, iter, ifs, 0⟩] sc pos) 0 (.ref it) acc { cenv with scope := relabel sc X.env }) (fun r s' => (∃ fl, r = .ok fl) /\
        ∃ (p : Addr) (ys : List V) (H2 : Hp), acc = .ref p /\ Inv X pins σ (upd H2 p (.lst ys)) s' /\ H2 p = none /\ F ys H2 /\ (∃ m, s'.heap.Ns cenv.locals m) /\ (upd H2 p (.lst ys)) cenv.locals = none /\ cenv.locals ≠ X.env.locals /\
          X.s₀.heap.objs.size <= cenv.locals /\ (∀ x c, X.env.cells.lookup x = some c -> c ≠ cenv.locals) /\ ∀ q ∈ X.pn ++ pins, q.1 ≠ cenv.locals) s4) E s3) E s := by
  obtain ⟨W, ⟨m0, w0⟩, turn⟩ := tr
  refine wpAny_newObj_type (C7 fun h1 kp ns hcl => ?_)
  dsimp only at kp ns hcl ⊢
  generalize hH2 : s.heap.push { cls := .type "list", dict := none, data := .seq ([] : List Value).toArray } = HH at kp ns hcl ⊢
  have eL : HH.objs.size = s.heap.objs.size + 1 := by rw [<- hH2, Heap.size_push]
  have kp0 : ∀ b o, s.heap.get? b = some o -> h1.get? b = some o := fun b o e => kp b o (hH2 ▸ Heap.get?_push_of_some _ e)
  have hD0 : h1.PlainList s.heap.objs.size #[] := ⟨_, kp _ _ (hH2 ▸ Heap.get?_push_size _ rfl)⟩
  have fpo : ∀ b ∈ fp, ∃ o, s.heap.get? b = some o := fun b z => let ⟨o, e, _⟩ := T.obj 0 _ st b z; ⟨o, e⟩
  have fpl : ∀ b ∈ fp, b < s.heap.objs.size := fun b z => let ⟨o, e⟩ := fpo b z; Heap.lt_size e
  have sL : s.heap.objs.size <= HH.objs.size := by rw [eL]; exact Nat.le_succ _
  have sL' : s.heap.objs.size < HH.objs.size := by rw [eL]; exact Nat.lt_succ_self _
  have I0 := comp_inv (h1 := h1) I hf fpo ok hk sL kp0 ns hcl
  generalize hXX : aY X N' sc HH.objs.size (cellsFrom (HH.objs.size + 1) sc.names (uF X.env.cells sc.names [])) s H fp = Y at I0
  have eY1 : Y.prog = X.prog := by subst hXX; rfl
  have eY2 : Y.w = X.w := by subst hXX; rfl
  have eY3 : Y.K = X.K := by subst hXX; rfl
  have eY4 : Y.calm = true := by subst hXX; exact hc
  have eY5 : Y.A = X.A := by subst hXX; rfl
  have eY6 : Y.env = { scope := relabel sc X.env, locals := HH.objs.size, globals := X.env.globals, cells := cellsFrom (HH.objs.size + 1) sc.names (uF X.env.cells sc.names []), qual := X.env.qual, func := none, code := X.env.code, frame := X.env.frame, builtins := X.env.builtins } := by subst hXX; rfl
  have eY7 : Y.xe = fun _ _ => False := by subst hXX; rfl
  have eY8 : Y.pn = [] := by subst hXX; rfl
  have eY9 : Y.fs = frs X.stack := by subst hXX; rfl
  have eY10 : Y.s₀ = s := by subst hXX; rfl
  have eY11 : Y.H₀ = H := by subst hXX; rfl
  have eY12 : Y.ex = fp := by subst hXX; rfl
  have eY13 : Y.N = N' := by subst hXX; rfl
  have hgY : PG Y tg g := by subst hXX; exact hg _ _ _ _ _
  have htY : PTs Y ifs tt := by subst hXX; exact ht _ _ _ _ _
  have heY : PE Y elt te := by subst hXX; exact he _ _ _ _ _
  have lenI : (inS ix σ).length = Y.N.length := by rw [eY13]; unfold inS; rw [List.length_map]; exact bG.len ok
  have cellN : ∀ (b : Addr), b <= HH.objs.size -> (∀ x c, X.env.cells.lookup x = some c -> c ≠ b) -> ∀ x c, Y.env.cells.lookup x = some c -> c ≠ b := fun b hb hx x c e => by
    rw [eY6] at e
    rcases hcl x c e with q | ⟨q, _⟩
    · exact hx x c (CN I ok q).2
    · exact (B5 (Nat.lt_of_le_of_lt hb (Nat.lt_succ_self _)) q).symm
  have oldc : ∀ x c, X.env.cells.lookup x = some c -> c < s.heap.objs.size := fun x c e => let ⟨v, z⟩ := I.cell x c e; z.lt
  have nfs : ∀ b, s.heap.objs.size <= b -> b ∉ frs X.stack := fun b hb z => by
    rcases List.mem_cons.mp (I.x9 b z) with q | q
    · exact B5 I.lt hb q.symm
    · exact I.nofs hb q
  have fpY : ∀ (pp : List (Addr × Obj)) (H' : Hp), (∀ b ∈ fp, H' b = none) -> (∀ q ∈ pp, q.1 ∉ fp) -> ∀ b ∈ fp, Bs Y pp H' b := fun pp H' hn hq b z => by
    have hlt := fpl b z
    refine ⟨hn b z, ?_, ?_, .inl (by rw [eY12]; exact z), cellN b (Nat.le_of_lt (Nat.lt_trans hlt sL')) ((hf b z).2.2.2.2.1), fun q hq' e => ?_⟩
    · rw [eY6]; exact B5 hlt sL
    · rw [eY9]; intro hs
      rcases List.mem_cons.mp (I.x9 b hs) with q | q
      · exact (hf b z).2.1 q
      · exact (hf b z).2.2.1 q
    · rw [eY8] at hq'
      exact hq q (by simpa using hq') (by rw [e]; exact z)
  have Dfp : s.heap.objs.size ∉ fp := fun z => absurd (fpl _ z) (Nat.lt_irrefl _)
  have Dok : ∀ (pp : List (Addr × Obj)) (H' : Hp), H' s.heap.objs.size = none -> (∀ q ∈ pp, q.1 ≠ s.heap.objs.size) -> Bs Y pp H' s.heap.objs.size := fun pp H' hn hq => by
    refine ⟨hn, ?_, by rw [eY9]; exact nfs _ (Nat.le_refl _), .inr (by rw [eY10]; exact Nat.le_refl _), cellN _ sL (fun x c e => Nat.ne_of_lt (oldc x c e)), fun q hq' => ?_⟩
    · rw [eY6]; exact Nat.ne_of_lt sL'
    · rw [eY8] at hq'
      exact hq q (by simpa using hq')
  have loop : codeAny (model X.prog X.w) X.A (.compLoop (.ListComp elt [⟨tg, iter, ifs, 0⟩] sc pos) 0 (.ref it) (.ref s.heap.objs.size) Y.env) (fun r s' => (∃ fl, r = .ok fl) /\
        ∃ (p : Addr) (ys : List V) (H2 : Hp), Value.ref s.heap.objs.size = .ref p /\ Inv X pins σ (upd H2 p (.lst ys)) s' /\ H2 p = none /\ F ys H2 /\ (∃ m, s'.heap.Ns HH.objs.size m) /\ (upd H2 p (.lst ys)) HH.objs.size = none /\ HH.objs.size ≠ X.env.locals /\
          X.s₀.heap.objs.size <= HH.objs.size /\ (∀ x c, X.env.cells.lookup x = some c -> c ≠ HH.objs.size) /\ ∀ q ∈ X.pn ++ pins, q.1 ≠ HH.objs.size) { s with heap := h1 } := by
    refine yE (fun n s' => ∃ i ys its H', Inv Y [] (inS ix σ) H' s' /\ tn i s'.heap /\ (∀ b ∈ fp, H' b = none) /\ H' s.heap.objs.size = none /\ s'.heap.PlainList s.heap.objs.size its /\ Vals ys its.toList /\ W i n ys H') ?_ m0
      ⟨0, [], #[], H, I0, T.keep _ _ _ st fun b _ o e => kp0 b o e, fun b z => (hf b z).1, I.hok.fresh (Nat.le_refl _), hD0, .nil, w0⟩
    rintro n s3 ⟨i, ys, its, H3, I3, st3, fr3, hD3, pl3, vs3, w3⟩
    obtain ⟨nD, oD⟩ := pl3
    have hpD : ∀ q ∈ [((s.heap.objs.size : Addr), ({ cls := .type "list", data := .seq its nD } : Obj))], q.1 ∉ fp := fun q hq => by
      have : q = _ := List.mem_singleton.mp hq
      rw [this]; exact Dfp
    have I3' : Inv Y [((s.heap.objs.size : Addr), ({ cls := .type "list", data := .seq its nD } : Obj))] (inS ix σ) H3 s3 := I3.vj fun q hq => by
      have e : q = _ := List.mem_singleton.mp hq
      obtain ⟨d0, d1, d2, _⟩ := Dok [] H3 hD3 (fun _ z => nomatch z)
      rw [e]
      exact ⟨oD, d0, d1, d2, fun v z => by cases z⟩
    rcases turn i n ys H3 w3 with ⟨stop, ln, qn⟩ | ⟨go, ln, NN, hNN, step⟩
    · have h1 := T.done Y eY1 eY2 eY3 eY4 i _ s3 _ H3 (fun _ _ => False) I3' (fpY _ H3 fr3 hpD) st3 stop
      rw [eY5] at h1
      refine wpAny_mono h1 (fun r s4 ⟨hr, I4⟩ => ?_) fun _ _ z => z
      subst hr
      obtain ⟨oD4, hD4, _⟩ := I4.pin ((s.heap.objs.size : Addr), ({ cls := .type "list", data := .seq its nD } : Obj)) (by rw [eY8]; simp)
      refine ⟨⟨_, rfl⟩, s.heap.objs.size, ys, H3, rfl, ?_, hD3, qn, ?_, ?_, ?_, ?_, ?_, ?_⟩
      · have ub : Un (frs X.stack) fp H H3 s.heap s4.heap := by
          have := I4.base
          rw [eY9, eY10, eY11, eY12] at this
          exact this
        have hok4 : HOk X.prog X.w H3 s4.heap := by
          have := I4.hok
          rw [eY1, eY2] at this
          exact this
        refine I.call' (ch := fp) (by have := I4.os; rw [eY10] at this; exact this) ⟨ub.keep, ub.slot, fun b o e nn hx => ?_, ub.there, fun b xs q => ?_, fun b o u q => ?_, fun b ps q => ?_⟩ (fun b u e => ?_) I4.bare (fun b hb => ?_)
        · rw [av (Nat.ne_of_lt (Heap.lt_size e))]; exact ub.free b o e nn hx
        · rw [av (aN (ub.tups b xs q) hD3)]; exact ub.tups b xs q
        · rw [av (aN (ub.frzs b o u q) hD3)]; exact ub.frzs b o u q
        · obtain ⟨more, z⟩ := ub.tbls b ps q
          exact ⟨more, by rw [av (aN z hD3)]; exact z⟩
        · by_cases hb : b = s.heap.objs.size
          · subst hb
            rw [aE] at e
            cases e
            exact ⟨ln, its.toList, nD, vs3, by simpa using oD4⟩
          · rw [av hb] at e
            exact (hok4 b u e).stay (fun _ _ _ q => q) (fun c q => by rw [av (aN q hD3)]; exact q) fun c xs q => by rw [av (aN q hD3)]; exact q
        · obtain ⟨f0, f1, f2, f3, f4, f5⟩ := hf b hb
          exact ⟨f3, f1, f4, f5⟩
      · obtain ⟨m, hn, _⟩ := I4.loc
        rw [eY6] at hn
        exact ⟨m, hn⟩
      · rw [av (Nat.ne_of_gt sL')]
        have := I4.free
        rw [eY6] at this
        exact this
      · exact Nat.ne_of_gt (Nat.lt_trans I.lt sL')
      · exact Nat.le_trans I.sz sL
      · exact fun x c e => B5 (oldc x c e) sL
      · exact fun q hq => B5 (Heap.lt_size (I.pin q hq).1) sL
    · have h1 := T.item Y eY1 eY2 eY3 eY4 i _ s3 _ H3 (fun _ _ => False) I3' (fpY _ H3 fr3 hpD) st3 go
      rw [eY5] at h1
      refine wpAny_mono h1 (fun r s4 ⟨u, hr, h4⟩ => ?_) fun _ _ z => z
      subst hr
      refine wpAny_mono h4 (fun _ s5 ⟨x, H5, I5, r5, y5, st5, fr5⟩ => ?_) fun _ _ z => z
      have I5' := I5.pinned (fpY _ H5 fr5 hpD) (T.obj _ _ st5)
      have h5 := hgY _ s5 _ H5 x u _ I5' r5 (hkeep x _ H5 _ (step x H5 y5))
      rw [eY1, eY2, eY5, eY7] at h5
      refine wpAny_mono h5 (fun _ s6 ⟨σ6, H6, I6, q6, k6⟩ => ?_) fun _ _ z => z
      have h6 := htY _ s6 σ6 H6 _ I6 q6
      rw [eY1, eY2, eY5, eY7] at h6
      refine wpAny_mono h6 (fun b s7 ⟨H7, I7, q7⟩ => ?_) fun _ _ z => z
      have back : ∀ {s8 : Shared} {H8 : Hp}, Inv Y ([((s.heap.objs.size : Addr), ({ cls := .type "list", data := .seq its nD } : Obj))] ++ xw fp s5.heap) σ6 H8 s8 -> Inv Y [] (inS ix σ) H8 s8 /\ tn (i + 1) s8.heap /\ (∀ b ∈ fp, H8 b = none) /\ H8 s.heap.objs.size = none /\ s8.heap.get? s.heap.objs.size = some { cls := .type "list", data := .seq its nD } := fun {s8 H8} I8 => by
        obtain ⟨a1, a2, _⟩ := I8.pin ((s.heap.objs.size : Addr), ({ cls := .type "list", data := .seq its nD } : Obj)) (by rw [eY8]; simp)
        refine ⟨(I8.vj (pins' := []) fun _ z => nomatch z).slots0 (fun k v e => ?_) lenI, T.keep _ _ _ st5 fun b hb o e => (I8.pin (b, o) (List.mem_append_right _ (List.mem_append_right _ (n4 hb e)))).1, fun b hb => ?_, a2, a1⟩
        · refine k6 k v e ?_
          unfold inS at e
          rw [List.getElem?_map] at e
          cases e2 : ix[k]? with
          | none => rw [e2] at e; cases e
          | some o =>
            cases o with
            | none => rw [e2] at e; cases e
            | some j => exact ⟨j, rfl⟩
        · obtain ⟨o, e, d⟩ := T.obj _ _ st5 b hb
          exact (I8.pin (b, o) (List.mem_append_right _ (List.mem_append_right _ (n4 hb e)))).2.1
      cases b with
      | false =>
        rw [if_neg Bool.false_ne_true] at q7 ⊢
        obtain ⟨m', hm, w7⟩ := hNN _ _ q7
        obtain ⟨b1, b2, b3, b4, b5⟩ := back I7
        exact ⟨m', hm, i + 1, ys, its, H7, b1, b2, b3, b4, ⟨nD, b5⟩, vs3, w7⟩
      | true =>
        rw [if_pos rfl] at q7 ⊢
        have h7 := heY _ s7 σ6 H7 _ I7 q7
        rw [eY1, eY2, eY5, eY7, eY6] at h7
        rw [eY6]
        refine wpAny_mono h7 (fun uu s8 ⟨y, H8, I8, r8, q8⟩ => ?_) fun _ _ z => z
        obtain ⟨m', hm, w8⟩ := hNN _ _ q8
        obtain ⟨b1, b2, b3, b4, b5⟩ := back I8
        have ez : its.size <= sizeLine := by
          have h1 := vs3.length
          have h2 : its.toList.length = its.size := by simp
          omega
        refine wpAny_list_append_plain (hsz := ez) ⟨nD, b5⟩ fun h9 pl9 sb9 => ?_
        obtain ⟨d0, d1, d2, d3, d4, d5⟩ := Dok [] H8 b4 (fun _ z => nomatch z)
        refine ⟨m', hm, i + 1, ys ++ [y], its.push uu, H8, b1.turned (t' := s8.toks) (fun b o hb e => (sb9.2 b hb).trans e) d0 d1 d3 d4 d5, T.keep _ _ _ b2 fun b hb o e => (sb9.2 b ?_).trans e, b3, b4, pl9, ?_, w8⟩
        · exact B5 (fpl b hb) (Nat.le_refl _)
        · rw [Array.toList_push]
          exact vs3.append (.cons r8 .nil)
  rw [eY6] at loop
  exact codeAny_compStart_list loop (T.self X.A 0 _ _ _ (T.keep _ _ _ st fun b _ o e => kp0 b o e) loop)
end
noncomputable def tComp (wi : TI) (ix : List (Option Nat)) (g : TG) (tt : TT) (te : TE) : TE := fun σ H Q => wi σ H fun J H1 => pO J ix g tt te σ (fun ys H2 => ∀ p, H2 p = none -> Q (.ref p) (upd H2 p (.lst ys))) H1
noncomputable def qe (ix : List (Option Nat)) (g : TG) : Prop := ∀ x σ' H' (Q : St -> Hp -> Prop), g x σ' H' Q -> g x σ' H' fun σ2 H2 => Q σ2 H2 /\ ∀ (i : Nat) v, σ'[i]? = some (some v) -> (∃ j, ix[i]? = some (some j)) -> σ2[i]? = some (some v)
theorem cA {ix : List (Option Nat)} {k : Nat} (h : ix[k]? = some none) : qe ix (ye k) := fun x σ' H' Q q => ⟨q, fun i v e ⟨j, hj⟩ => by
  have : k ≠ i := by rintro rfl; rw [h] at hj; cases hj
  rw [List.getElem?_set_ne this]; exact e⟩
section
variable {X : Cx} {N' : List Str} {sc : Scope} {ix : List (Option Nat)} {tg elt iter : Expr} {ifs : List Expr} {pos spos py : Pos} {wi : TI} {g : TG} {tt : TT} {te : TE}
theorem pe_comp (N' : List Str) (ix : List (Option Nat)) (hc : X.calm = true) (hi : PI X tg iter wi) (hg : ∀ L cs s H fp, PG (aY X N' sc L cs s H fp) tg g) (hl : qe ix g)
    (ht : ∀ L cs s H fp, PTs (aY X N' sc L cs s H fp) ifs tt) (he : ∀ L cs s H fp, PE (aY X N' sc L cs s H fp) elt te)
    (ok : bG X.N X.env.scope N' sc ix = true := by rfl) (hk : sc.kind = .function := by rfl) (hs : ∀ x, foldedSetIterable iter X.env x = pure x := by intro _; rfl) :
    PE X (.ListComp elt [⟨tg, iter, ifs, 0⟩] sc pos) (tComp wi ix g tt te) := by
  intro pins s σ H Q I h
  rw [eval_ListComp]
  refine wpAny_comprehension_free (use := none) rfl hs (uD (sT I ok)) hk (bG.loc ok) (thn (hi pins s σ H _ I h) fun v s1 h1 => thn h1 fun itv s2 h2 => ?_)
  obtain ⟨it, fp, tn, J, H2, e, I2, T, st2, f2, tr⟩ := h2
  subst e
  refine thn (yD hc I2 T st2 f2 ok hk hg hl ht he tr) fun acc s3 h3 => thn h3 fun cenv s4 h4 => codeAny_mono h4 fun r s5 hr => ?_
  obtain ⟨⟨fl, e1⟩, p, ys, H5, e2, I5, hp, q, ⟨m, hn⟩, c0, c1, c2, c3, c4⟩ := hr
  subst e1
  subst e2
  exact ⟨m, hn, fun h' sb => ⟨.ref p, _, I5.turned (t' := s5.toks) (fun b o hb e => (sb.2 b hb).trans e) c0 c1 (.inr c2) c3 c4, rfl, q p hp⟩⟩
noncomputable def uR (j : Nat) (wi : TI) (ix : List (Option Nat)) (g : TG) (tt : TT) (te : TE) : TS := fun D σ H => wi σ H fun J H1 => pO J ix g tt te σ (fun ys H2 => ∀ p, H2 p = none -> D.nx (σ.set j (some (.ref p))) (upd H2 p (.lst ys))) H1
theorem mY (N' : List Str) (ix : List (Option Nat)) {j : Nat} {y : Str} (hN : X.N.Nodup) (hj : X.N[j]? = some y) (hy : X.env.scope.names.lookup y = some .local) (hc : X.calm = true) (hi : PI X tg iter wi) (hg : ∀ L cs s H fp, PG (aY X N' sc L cs s H fp) tg g) (hl : qe ix g)
    (ht : ∀ L cs s H fp, PTs (aY X N' sc L cs s H fp) ifs tt) (he : ∀ L cs s H fp, PE (aY X N' sc L cs s H fp) elt te)
    (hsw : swapsWith (.ListComp elt [⟨tg, iter, ifs, 0⟩] sc pos) (some (.Name y py)) spos.line X.env = pure true := by rfl)
    (ok : bG X.N X.env.scope N' sc ix = true := by rfl) (hk : sc.kind = .function := by rfl) (hs : ∀ x, foldedSetIterable iter X.env x = pure x := by intro _; rfl) :
    PS X (.Assign [.Name y py] (.ListComp elt [⟨tg, iter, ifs, 0⟩] sc pos) spos) (uR j wi ix g tt te) := by
  intro pins s σ H D I h
  rw [exec_Assign_Name_used _ _ _ _ hsw]
  refine wpAny_bind (wpAny_standAt (wpAny_bind ?_))
  show wpAny _ X.A (do let _ <- comprehension (.ListComp elt [⟨tg, iter, ifs, 0⟩] sc pos) sc X.env _ (newList []) false (eval iter X.env) (some (assign (.Name y py) X.env))) _ _ s
  refine wpAny_bind (wpAny_mono (wpAny_comprehension_free (use := some (assign (.Name y py) X.env)) (Q := fun _ s' => SP X pins D .next s') rfl hs (uD (sT I ok)) hk (bG.loc ok) (thn (hi pins s σ H _ I h) fun v s1 h1 => thn h1 fun itv s2 h2 => ?_)) (fun _ s' hq => wpAny_pure (wpAny_pure hq)) fun _ _ z => z)
  obtain ⟨it, fp, tn, J, H2, e, I2, T, st2, f2, tr⟩ := h2
  subst e
  refine thn (yD hc I2 T st2 f2 ok hk hg hl ht he tr) fun acc s3 h3 => thn h3 fun cenv s4 h4 => codeAny_mono h4 fun r s5 hr => ?_
  obtain ⟨⟨fl, e1⟩, p, ys, H5, e2, I5, hp, q, ⟨m, hn⟩, c0, c1, c2, c3, c4⟩ := hr
  subst e1
  subst e2
  show wpAny _ X.A (assign (.Name y py) X.env (.ref p)) _ _ s5
  refine wpAny_assign_Name (x6 (v := .ref p) I5 hN hj (.inl hy) rfl (fun s6 I6 ⟨a, sb, ha⟩ => ?_) (.inr hy))
  have ea : cenv.locals ≠ a := by
    rcases ha with z | z
    · rw [z]; exact c1
    · exact fun e => c3 y a z e.symm
  refine ⟨m, hn.sameBut sb ea, fun h' sb' => ?_⟩
  exact ⟨_, _, I6.turned (t' := s6.toks) (fun b o hb e => (sb'.2 b hb).trans e) c0 c1 (.inr c2) c3 c4, q p hp⟩
end
end L2
namespace L2
open PySem PySem.Spec PyProof.Rows
section
variable {X : Cx}
theorem AE : ∀ {bs : List Bool} {us : List Value}, Vals (bs.map V.bl) us -> LSm.BoolsAre us bs
  | [], _, .nil => .nil
  | b :: r, _, .cons e t => by cases e; exact .cons b (AE t)
theorem call_all (hc : X.calm = true) : i5 X (.builtin "all") (fun xs H Q => ∃ (a : Addr) (bs : List Bool), xs = [.ref a] /\ SqL X.K H a (bs.map V.bl) /\ Q (.bl (bs.all id)) H) := by
  intro pins s σ H xs us Q I r h
  obtain ⟨a, bs, rfl, hq, q⟩ := h
  obtain ⟨u, rfl, ru⟩ := r.one
  cases ru
  obtain ⟨its, rv, p, hz⟩ := I.list hq
  have hb := AE rv
  have hl := p.isList
  have hlt : a < s.heap.objs.size := by obtain ⟨_, e, _⟩ := hl; exact Heap.lt_size e
  refine call_all_walk (wpAny_pyIter_list hl ?_)
  refine ⟨s.heap.objs.size, [s.heap.objs.size, a], [s.heap.objs.size], its.toArray.size, _, _, fun i => (bs[i]?).getD true, rfl, Walks.list (A := X.A.in1) (I.ok.hd hc) _ a (Nat.ne_of_lt hlt) its.toArray,
    ⟨⟨_, Heap.get?_push_size _ rfl, rfl, rfl⟩, hl.push _⟩, fun i v s' Q' E' hP hQ => ?_, fun h' tk hk => ?_⟩
  · obtain ⟨b, e, rfl⟩ := hb.get i v (by simpa using hP)
    simp only [e, Option.getD_some] at hQ
    exact wpAny_truthy_bool hQ
  · have e : ((List.range its.toArray.size).all fun i => (bs[i]?).getD true) = bs.all id := by
      rw [List.size_toArray, hb.length]; exact LSm.range_all bs
    rw [e]
    exact ⟨.bl (bs.all id), H, I.kept (LSm.kept_iter hk), rfl, q⟩
noncomputable def clsV : V -> Option Value
  | .ty n => some (.type n)
  | .ref a => some (.ref a)
  | _ => none
theorem clsV_is {y : V} {c u : Value} (h : clsV y = some c) (r : RelV y u) : u = c := by
  cases y with
  | ty n => cases r; exact Option.some.inj h
  | ref a => cases r; exact Option.some.inj h
  | _ => cases h
theorem call_isi : i5 X (.builtin "isinstance") (fun xs H Q => ∃ x y c t b, xs = [x, y] /\ clsV y = some c /\ AH X.K H x t /\ PySem.W.kitOne X.K t c = some b /\ Q (.bl b) H) := by
  intro pins s σ H xs us Q I r h
  obtain ⟨x, y, c, t, b, rfl, hc, ty, e, q⟩ := h
  obtain ⟨u, v, rfl, ru, rv⟩ := r.two
  have ev := clsV_is hc rv
  subst ev
  exact Cn I ru ty e fun tk => ⟨.bl b, H, I.tok tk, rfl, q⟩
inductive EqV (K : PySem.W.Frag) (H : Hp) : Nat -> V -> V -> Bool -> Prop where
  | flat {n : Nat} {x y : V} (hx : flatV x = true) (hy : flatV y = true) : EqV K H n x y (eqV x y)
  | same {n : Nat} {a : Addr} : EqV K H n (.ref a) (.ref a) true
  | lists {n : Nat} {a b : Addr} {xs ys : List V} {e : Nat -> Bool} (ha : SqL K H a xs) (hb : SqL K H b ys) (hl : xs.length = ys.length) (ne : a ≠ b)
      (he : ∀ j x y, xs[j]? = some x -> ys[j]? = some y -> EqV K H n x y (e j)) : EqV K H (n + 1) (.ref a) (.ref b) ((List.range xs.length).all e)
  | listsL {n : Nat} {a b : Addr} {xs ys : List V} (ha : SqL K H a xs) (hb : SqL K H b ys) (hl : xs.length ≠ ys.length) (ne : a ≠ b) : EqV K H (n + 1) (.ref a) (.ref b) false
  | tups {n : Nat} {a b : Addr} {xs ys : List V} {e : Nat -> Bool} (ha : SqT K H a xs) (hb : SqT K H b ys) (ne : a ≠ b)
      (he : ∀ j x y, xs[j]? = some x -> ys[j]? = some y -> EqV K H n x y (e j)) : EqV K H (n + 1) (.ref a) (.ref b) ((List.range (min xs.length ys.length)).all e && xs.length == ys.length)
theorem Vals.atA {xs : List V} {us : List Value} (r : Vals xs us) {j : Nat} (h : j < us.toArray.size) : ∃ x, xs[j]? = some x /\ RelV x us.toArray[j] := by
  have hl := r.length
  have hj : j < xs.length := by rw [hl]; simpa using h
  obtain ⟨u, e1, e2⟩ := r.get (i := j) (x := xs[j]) (by simp [hj])
  refine ⟨xs[j], by simp [hj], ?_⟩
  have : us.toArray[j] = u := by
    have h' : j < us.length := by simpa using h
    rw [List.getElem?_eq_getElem h'] at e1
    simpa using Option.some.inj e1
  rw [this]; exact e2
end
end L2
namespace L2
open PySem PySem.Spec PyProof.Rows
section
variable {X : Cx} {x : Str} {pos : Pos}
theorem pe_tyN {T : String} (hg : Gl X x) (hm : X.mg x = none) (hv : bootBuiltins x = some (.type T)) (hn : x ≠ "__name__" := by decide) (hd : (x == ("__debug__" : Str)) = false := by decide) : PE X (.Name x pos) (tC (.ty T)) := pe_bltn (v := .ty T) hg hm hv rfl hn hd
theorem pe_gint {n : Int} (hg : Gl X x) (hm : ∃ t, X.mg x = some (.int n t)) (hd : (x == ("__debug__" : Str)) = false := by decide) : PE X (.Name x pos) (tC (.int n)) := by
  obtain ⟨t, e⟩ := hm
  exact pe_glob (v := .int n) hg e ⟨t, rfl⟩ hd
end
section
variable {P : Program} {w : World} {K : PySem.W.Frag} {mg : Str -> Option Value} {base : Heap} {CX : CXT}
theorem Fun.okX {x qual : Str} {st : Stmt} {f : Addr} {fd : FuncData} {N ps : List Str} {k : Nat} {sp : Sp} (F : Fun K x qual st f fd) (S : aO N ps (ab st)) (len : ∀ vs H Q E, sp vs H Q E -> vs.length = ps.length)
    (hbody : ∀ (cdv : Value) (A : Around) (outer : List Env) (s : Shared) (H : Hp) (vs : List V) (Q : VK) (E : XK), mO k (A.deeper (envOfC qual (ab st) s.heap.objs.size f cdv)) -> sp vs H Q E ->
      ∃ t, PSs (cxOf CX P w K mg base N qual (ab st) f cdv A outer s H E).nox (aD st) t /\ t { nx := fun _ H' => Q .non H', rt := Q } (start N vs) H) : c6 P w K mg base CX (k + 1) f fd ps sp := by
  obtain ⟨oc, od, kV, doc, pm, an, cdv, ct, osl, rfl, lk, hcd⟩ := F.ex
  refine fn_of lk hcd S len fun A outer s H vs Q E hr hsp => ?_
  obtain ⟨t, h, q⟩ := hbody cdv A outer s H vs Q E hr hsp
  exact ⟨t, h.nox, q⟩
structure Def (K : PySem.W.Frag) (mg : Str -> Option Value) (x : Str) (st : Stmt) (ps : List Str) (f : Addr) (fd : FuncData) : Prop where
  fn : Fun K x x st f fd
  mg : mg x = some (.ref f)
  bd : Binds K fd ps []
theorem du {h : Heap} (KX : K.In h) (G : h.Ns mainGlobals mg) {x : Str} {st : Stmt} {ps : List Str} {f : Addr} {oc : Value} {od an : Option Addr} {osl : Array (Option Value)} {kV doc pm cdv ct : Value}
    (a : PySem.W.nsIn K mainGlobals x = some (some (.ref f))) (l : K.lookup f = some ⟨oc, od, .func (PySem.W.fnOf x x (aF st) (aD st) (ab st) .none kV doc pm an cdv ct), osl⟩) (c : PySem.W.codeIn K cdv x = true) (k : PySem.W.keepIn K (.ref f) = true)
    (hb : ∀ (kV doc pm : Value) (an : Option Addr) (cdv ct : Value) (us : List Value), us.length = ps.length -> bindArgs (PySem.W.fnOf x x (aF st) (aD st) (ab st) .none kV doc pm an cdv ct) ⟨us, []⟩ = pure (ps.zip us)) :
    Def K mg x st ps f (PySem.W.fnOf x x (aF st) (aD st) (ab st) .none kV doc pm an cdv ct) :=
  ⟨Au l c k, PySem.W.mg_of KX G a, (Au l c k).binds hb⟩
structure Mth (K : PySem.W.Frag) (C : Addr) (x qual : Str) (st : Stmt) (ps : List Str) (f : Addr) (fd : FuncData) : Prop where
  fn : Fun K x qual st f fd
  mt : Meth K C x f
  bd : Binds K fd ps []
theorem qN {C : Addr} {x qual : Str} {st : Stmt} {ps : List Str} {f : Addr} {oc : Value} {od an : Option Addr} {osl : Array (Option Value)} {kV doc pm cdv ct : Value}
    (a : PySem.W.findIn K (.ref C) x = some (some (.ref f))) (i : PySem.W.isFn K (.ref f) = true) (l : K.lookup f = some ⟨oc, od, .func (PySem.W.fnOf x qual (aF st) (aD st) (ab st) .none kV doc pm an cdv ct), osl⟩) (c : PySem.W.codeIn K cdv qual = true) (k : PySem.W.keepIn K (.ref f) = true)
    (hb : ∀ (kV doc pm : Value) (an : Option Addr) (cdv ct : Value) (us : List Value), us.length = ps.length -> bindArgs (PySem.W.fnOf x qual (aF st) (aD st) (ab st) .none kV doc pm an cdv ct) ⟨us, []⟩ = pure (ps.zip us)) :
    Mth K C x qual st ps f (PySem.W.fnOf x qual (aF st) (aD st) (ab st) .none kV doc pm an cdv ct) :=
  ⟨Au l c k, ⟨a, i, k⟩, (Au l c k).binds hb⟩
structure Kls (K : PySem.W.Frag) (mg : Str -> Option Value) (x : Str) (C : Addr) : Prop where
  cl : Cls K C
  mg : mg x = some (.ref C)
  mks : PySem.W.makesIn K C = true
  kp : PySem.W.keepIn K (.ref C) = true
  c1 : PySem.W.findIn K (.ref C) "__class__" = some (some (.builtin "object.__class__"))
  c2 : PySem.W.specialIn K (.builtin "object.__class__") "__get__" = some (some (.builtin "getset_descriptor.__get__"))
  c3 : PySem.W.takesIn K (.builtin "object.__class__") = some true
  c4 : PySem.W.mroIn K C (.type "object") = some true
theorem kls_of {h : Heap} (KX : K.In h) (G : h.Ns mainGlobals mg) {x : Str} {C : Addr} (a : PySem.W.nsIn K mainGlobals x = some (some (.ref C)))
    (pg : PySem.W.plainGet K C Str.empty = true) (hd : PySem.W.hasDictIn K C = true) (po : PySem.W.plainOver K C = true) (sa : PySem.W.findIn K (.ref C) "__setattr__" = some (some (.builtin "object.__setattr__"))) (mk : PySem.W.makesIn K C = true) (kp : PySem.W.keepIn K (.ref C) = true)
    (c1 : PySem.W.findIn K (.ref C) "__class__" = some (some (.builtin "object.__class__"))) (c2 : PySem.W.specialIn K (.builtin "object.__class__") "__get__" = some (some (.builtin "getset_descriptor.__get__")))
    (c3 : PySem.W.takesIn K (.builtin "object.__class__") = some true) (c4 : PySem.W.mroIn K C (.type "object") = some true) : Kls K mg x C :=
  ⟨⟨pg, hd, po, sa⟩, PySem.W.mg_of KX G a, mk, kp, c1, c2, c3, c4⟩
end
section
variable {X : Cx} {K : PySem.W.Frag}
theorem call_isiK (hK : X.K = K := by rfl) : i5 X (.builtin "isinstance") (fun xs H Q => ∃ x y c t b, xs = [x, y] /\ clsV y = some c /\ AH K H x t /\ PySem.W.kitOne K t c = some b /\ Q (.bl b) H) := by subst hK; exact call_isi
theorem pg_c {N' : List Str} {sc : Scope} {L : Addr} {cs : List (Str × Addr)} {s : Shared} {H : Hp} {fp : List Addr} {pos : Pos} {i : Nat} {x : Str} (hN : N'.Nodup) (hi : N'[i]? = some x) (hx : Loc (aY X N' sc L cs s H fp).env.scope x)
    (hf : (aY X N' sc L cs s H fp).fn x = true \/ (aY X N' sc L cs s H fp).env.scope.names.lookup x = some .local := by first | exact .inl rfl | exact .inr rfl | assumption) : PG (aY X N' sc L cs s H fp) (.Name x pos) (ye i) := zi hN hi hx hf
end
structure Grid (H : Hp) (a : Addr) (as : List Addr) (rows : List (List Int)) : Prop where
  top : H a = some (.lst (as.map V.ref))
  len : as.length = rows.length
  row : ∀ (i : Nat) (b : Addr) (r : List Int), as[i]? = some b -> rows[i]? = some r -> H b = some (.lst (r.map V.int))
theorem bg.upd {H : Hp} {a : Addr} {o : HO} (h : H a = none) : bg H (upd H a o) := fun b u e => by rw [av (aN e h)]; exact e
end L2
namespace L2
open PySem PySem.Spec PyProof.Rows
section
variable {X : Cx} {CX : CXT} {k : Nat} {f C : Addr} {fd : FuncData} {ps : List Str} {sp : Sp} {dvs : List V} {ds : List Value} {E : XK} {x m : Str} {p pos apos : Pos} {e : Expr} {es : List Expr} {t : TA} {mc : Value}
structure Stat (K : PySem.W.Frag) (C : Addr) (mc : Value) (m : Str) (f : Addr) : Prop where
  s1 : PySem.W.specialIn K (.ref C) "__getattribute__" = some (some (.builtin "type.__getattribute__"))
  s2 : PySem.W.readsIn K C mc = true
  s3 : PySem.W.findCls K (.ref C) mc m = some (.val (.ref f))
  s4 : PySem.W.keepIn K (.ref f) = true
theorem pe_cmeth {pl : Sem Bool} (S : Stat X.K C mc m f) (hg : Gl X x) (hm : X.mg x = some (.ref C)) (F : c6 X.prog X.w X.K X.mg X.base CX k f fd ps sp) (hr : mO k X.A) (hb : Binds X.K fd ps ds) (hd : Vals dvs ds) (hx : Passes CX X E) (ha : PA X (e :: es) t)
    (hdb : (x == ("__debug__" : Str)) = false := by decide)
    (hst : starEach (e :: es) X.env = (false, eval e X.env) :: starEach es X.env := by rfl) (hpl : (backTo pos (starEach es X.env)).any (·.1) = false := by rfl)
    (ht : eval (.Call (.Attribute (.Name x p) m apos) (e :: es) [] pos) X.env = (do
      let ov <- eval (.Name x p) X.env
      standAt apos.atName
      let (f, first) <- holding [ov] (getMethod ov m pl)
      callWith pos f first (backTo pos (starEach (e :: es) X.env)) (backToKw pos (keywordEach [] X.env))) := by rfl) :
    PE X (.Call (.Attribute (.Name x p) m apos) (e :: es) [] pos) (tCall sp dvs E t) := by
  intro pins s σ H Q I h
  refine PySem.W.methodCall_KW (pl := pl) (vH I hg hm ?_ hdb) ht
  refine PySem.W.method_cls I.kIn S.s1 (PySem.W.cls_value I.kIn S.s2 S.s3 rfl ?_)
  refine PySem.W.callWith_K (first := []) (h₀ := X.base) I.ok.mod.kin S.s4 (thn (ha pos pins _ σ H _ (I.tok (s.toks + 1)) h) fun us s2 ⟨vs, H2, I2, r, q2⟩ => ⟨I2.kIn, ?_⟩) hst hpl
  exact Ae (us := us) (vs := vs) F hr hb hd hx I2 r q2
end
noncomputable def Keeps (S : Addr -> Prop) (H H' : Hp) : Prop := ∀ b o, H b = some o -> ¬ S b -> H' b = some o
theorem Keeps.refl (S : Addr -> Prop) (H : Hp) : Keeps S H H := fun _ _ e _ => e
end L2
namespace L2
open PySem PySem.Spec PyProof.Rows
section
variable {X : Cx} {a b c d : Expr} {ta tb tc td : TE} {pos : Pos}
theorem bg.tup {K : PySem.W.Frag} {H H' : Hp} {a : Addr} {xs : List V} (e : bg H H') (h : SqT K H a xs) : SqT K H' a xs := by
  rcases h with (h | ⟨o, h⟩) | h
  · exact .inl (.inl (e _ _ h))
  · exact .inl (.inr ⟨o, e _ _ h⟩)
  · exact .inr h
end
end L2
namespace L2
open PySem PySem.Spec PyProof.Rows
theorem uQ {K : PySem.W.Frag} {a : Addr} {H : Hp} {xs : List V} (h : H a = some (.lst xs)) : tyV K "list" (.ref a) H := .inl ⟨rfl, _, SqL.of h⟩
inductive Dat where
  | non | bl (b : Bool) | int (i : Int) | str (x : Str) | tup (ds : List Dat) | lst (ds : List Dat) | ins (C : Addr) (fs : List (Str × Dat))
mutual
noncomputable def cI (K : PySem.W.Frag) (F : Hp) : Dat -> V -> Prop
  | .non, v => v = .non
  | .bl b, v => v = .bl b
  | .int i, v => v = .int i
  | .str x, v => v = .str x
  | .tup ds, v => ∃ a xs, v = .ref a /\ SqT K F a xs /\ au K F ds xs
  | .lst ds, v => ∃ a xs, v = .ref a /\ SqL K F a xs /\ au K F ds xs
  | .ins C gs, v => ∃ a dx fs, v = .ref a /\ F a = some (.ins C dx fs) /\ uj K F gs fs
noncomputable def au (K : PySem.W.Frag) (F : Hp) : List Dat -> List V -> Prop
  | [], xs => xs = []
  | d :: ds, xs => ∃ v vs, xs = v :: vs /\ cI K F d v /\ au K F ds vs
noncomputable def uj (K : PySem.W.Frag) (F : Hp) : List (Str × Dat) -> List (Str × V) -> Prop
  | [], fs => fs = []
  | (f, d) :: gs, fs => ∃ v r, fs = (f, v) :: r /\ cI K F d v /\ uj K F gs r
end
mutual
noncomputable def pI : Dat -> Bool
  | .tup ds => qQ ds
  | .lst _ => false
  | .ins _ _ => false
  | _ => true
noncomputable def qQ : List Dat -> Bool
  | [] => true
  | d :: ds => pI d && qQ ds
end
theorem bg.lst {K : PySem.W.Frag} {H H' : Hp} {a : Addr} {xs : List V} (e : bg H H') (h : SqL K H a xs) : SqL K H' a xs := by
  rcases h with (h | ⟨o, h⟩) | h
  · exact .inl (.inl (e _ _ h))
  · exact .inl (.inr ⟨o, e _ _ h⟩)
  · exact .inr h
mutual
theorem cI.mono {K : PySem.W.Frag} {F F' : Hp} (s : bg F F') : ∀ {d : Dat} {v : V}, cI K F d v -> cI K F' d v
  | .non, _, h => h
  | .bl _, _, h => h
  | .int _, _, h => h
  | .str _, _, h => h
  | .tup _, _, ⟨a, xs, e, q, r⟩ => ⟨a, xs, e, s.tup q, au.mono s r⟩
  | .lst _, _, ⟨a, xs, e, q, r⟩ => ⟨a, xs, e, s.lst q, au.mono s r⟩
  | .ins _ _, _, ⟨a, dx, fs, e, q, r⟩ => ⟨a, dx, fs, e, s _ _ q, uj.mono s r⟩
theorem au.mono {K : PySem.W.Frag} {F F' : Hp} (s : bg F F') : ∀ {ds : List Dat} {xs : List V}, au K F ds xs -> au K F' ds xs
  | [], _, h => h
  | _ :: _, _, ⟨v, vs, e, q, r⟩ => ⟨v, vs, e, cI.mono s q, au.mono s r⟩
theorem uj.mono {K : PySem.W.Frag} {F F' : Hp} (s : bg F F') : ∀ {gs : List (Str × Dat)} {fs : List (Str × V)}, uj K F gs fs -> uj K F' gs fs
  | [], _, h => h
  | (_, _) :: _, _, ⟨v, r, e, q, t⟩ => ⟨v, r, e, cI.mono s q, uj.mono s t⟩
end
mutual
theorem cI.flat {K : PySem.W.Frag} {F F' : Hp} (s : ∀ a xs, SqT K F a xs -> SqT K F' a xs) : ∀ {d : Dat} {v : V}, pI d = true -> cI K F d v -> cI K F' d v
  | .non, _, _, h => h
  | .bl _, _, _, h => h
  | .int _, _, _, h => h
  | .str _, _, _, h => h
  | .tup ds, _, f, ⟨a, xs, e, q, r⟩ => ⟨a, xs, e, s _ _ q, au.flat s (by simpa [pI] using f) r⟩
  | .lst _, _, f, _ => by simp [pI] at f
  | .ins _ _, _, f, _ => by simp [pI] at f
theorem au.flat {K : PySem.W.Frag} {F F' : Hp} (s : ∀ a xs, SqT K F a xs -> SqT K F' a xs) : ∀ {ds : List Dat} {xs : List V}, qQ ds = true -> au K F ds xs -> au K F' ds xs
  | [], _, _, h => h
  | d :: ds, _, f, ⟨v, vs, e, q, r⟩ => by
    simp only [qQ, Bool.and_eq_true] at f
    exact ⟨v, vs, e, cI.flat s f.1 q, au.flat s f.2 r⟩
end
theorem au.length {K : PySem.W.Frag} {F : Hp} : ∀ {ds : List Dat} {xs : List V}, au K F ds xs -> xs.length = ds.length
  | [], _, h => by rw [show _ = [] from h]; rfl
  | _ :: _, _, ⟨_, _, e, _, r⟩ => by rw [e, List.length_cons, List.length_cons, au.length r]
theorem au.get {K : PySem.W.Frag} {F : Hp} : ∀ {ds : List Dat} {xs : List V} {i : Nat} {d : Dat}, au K F ds xs -> ds[i]? = some d -> ∃ v, xs[i]? = some v /\ cI K F d v
  | [], _, _, _, _, e => by simp at e
  | _ :: _, _, 0, _, ⟨v, vs, e, q, _⟩, h => by
    simp only [List.getElem?_cons_zero, Option.some.injEq] at h
    subst h e
    exact ⟨v, rfl, q⟩
  | _ :: _, _, i + 1, _, ⟨v, vs, e, _, r⟩, h => by
    subst e
    simp only [List.getElem?_cons_succ] at h ⊢
    exact au.get r h
theorem au.at {K : PySem.W.Frag} {F : Hp} {ds : List Dat} {xs : List V} {i : Nat} {v : V} (r : au K F ds xs) (h : xs[i]? = some v) : ∃ d, ds[i]? = some d /\ cI K F d v := by
  have hi : i < ds.length := by rw [<- r.length]; exact (List.getElem?_eq_some_iff.mp h).1
  obtain ⟨w, e, q⟩ := r.get (i := i) (d := ds[i]) (by simp [hi])
  rw [h] at e
  have e' := Option.some.inj e
  subst e'
  exact ⟨ds[i], by simp [hi], q⟩
theorem au.cons {K : PySem.W.Frag} {F : Hp} {d : Dat} {v : V} {ds : List Dat} {xs : List V} (q : cI K F d v) (r : au K F ds xs) : au K F (d :: ds) (v :: xs) := ⟨v, xs, rfl, q, r⟩
theorem au.append {K : PySem.W.Frag} {F : Hp} : ∀ {ds es : List Dat} {xs ys : List V}, au K F ds xs -> au K F es ys -> au K F (ds ++ es) (xs ++ ys)
  | [], _, _, _, h, r => by rw [show _ = [] from h]; exact r
  | _ :: _, _, _, _, ⟨v, vs, e, q, t⟩, r => by subst e; exact ⟨v, _, rfl, q, au.append t r⟩
theorem au.take {K : PySem.W.Frag} {F : Hp} : ∀ {ds : List Dat} {xs : List V} (n : Nat), au K F ds xs -> au K F (ds.take n) (xs.take n)
  | _, _, 0, _ => rfl
  | [], _, _ + 1, h => by rw [show _ = [] from h]; rfl
  | _ :: _, _, n + 1, ⟨v, vs, e, q, r⟩ => by subst e; exact ⟨v, _, rfl, q, au.take n r⟩
theorem au.set {K : PySem.W.Frag} {F : Hp} {d : Dat} {v : V} (q : cI K F d v) : ∀ {ds : List Dat} {xs : List V} (n : Nat), au K F ds xs -> au K F (ds.set n d) (xs.set n v)
  | [], _, _, h => by rw [show _ = [] from h]; rfl
  | _ :: _, _, 0, ⟨w, vs, e, _, r⟩ => by subst e; exact ⟨v, _, rfl, q, r⟩
  | _ :: _, _, n + 1, ⟨w, vs, e, p, r⟩ => by subst e; exact ⟨w, _, rfl, p, au.set q n r⟩
theorem au.eraseIdx {K : PySem.W.Frag} {F : Hp} : ∀ {ds : List Dat} {xs : List V} (n : Nat), au K F ds xs -> au K F (ds.eraseIdx n) (xs.eraseIdx n)
  | [], _, _, h => by rw [show _ = [] from h]; rfl
  | _ :: _, _, 0, ⟨w, vs, e, _, r⟩ => by subst e; exact r
  | _ :: _, _, n + 1, ⟨w, vs, e, p, r⟩ => by subst e; exact ⟨w, _, rfl, p, au.eraseIdx n r⟩
theorem au.of_get {K : PySem.W.Frag} {F : Hp} : ∀ {ds : List Dat} {xs : List V}, xs.length = ds.length -> (∀ (i : Nat) d v, ds[i]? = some d -> xs[i]? = some v -> cI K F d v) -> au K F ds xs
  | [], [], _, _ => rfl
  | [], _ :: _, h, _ => by simp at h
  | _ :: _, [], h, _ => by simp at h
  | d :: ds, v :: vs, h, q => ⟨v, vs, rfl, q 0 d v rfl rfl, au.of_get (by simpa using h) fun i e w h1 h2 => q (i + 1) e w (by simpa using h1) (by simpa using h2)⟩
structure Step (F H F' H' : Hp) : Prop where
  ff : bg F F'
  hh : bg H H'
  fh : bg F' H'
  nw : ∀ b o, F' b = some o -> F b = some o \/ H b = none
theorem Step.refl {F H : Hp} (s : bg F H) : Step F H F H := ⟨bg.refl _, bg.refl _, s, fun _ _ h => .inl h⟩
theorem Step.trans {F H F1 H1 F2 H2 : Hp} (a : Step F H F1 H1) (b : Step F1 H1 F2 H2) : Step F H F2 H2 :=
  ⟨a.ff.trans b.ff, a.hh.trans b.hh, b.fh, fun x o h => (b.nw x o h).elim (fun z => a.nw x o z) fun z => .inr (a.hh.free z)⟩
theorem Step.lay {F H : Hp} {p : Addr} {o : HO} (s : bg F H) (hp : H p = none) : Step F H (upd F p o) (upd H p o) :=
  ⟨bg.upd (s.free hp), bg.upd hp, fun b u h => by
    by_cases e : b = p
    · subst e; rw [aE] at h ⊢; exact h
    · rw [av e] at h ⊢; exact s b u h, fun b u h => by
    by_cases e : b = p
    · subst e; exact .inr hp
    · rw [av e] at h; exact .inl h⟩
theorem Step.grow {F H : Hp} {p : Addr} {o : HO} (s : bg F H) (hp : H p = none) : Step F H F (upd H p o) :=
  ⟨bg.refl _, bg.upd hp, s.trans (bg.upd hp), fun _ _ h => .inl h⟩
noncomputable def D6 (K : PySem.W.Frag) (F H0 H : Hp) : Dat -> V -> Prop
  | .lst ds, v => ∃ a xs, v = .ref a /\ H a = some (.lst xs) /\ F a = none /\ H0 a = none /\ au K F ds xs
  | d, v => cI K F d v
noncomputable def Val (K : PySem.W.Frag) (own : Bool) (F H0 H : Hp) (d : Dat) (v : V) : Prop := if own = true then D6 K F H0 H d v else cI K F d v
theorem D6.back {K : PySem.W.Frag} {F H0 H1 H : Hp} {d : Dat} {v : V} (s : bg H0 H1) (h : D6 K F H1 H d v) : D6 K F H0 H d v := by
  cases d with
  | lst ds => obtain ⟨a, xs, e, p, q, z, r⟩ := h; exact ⟨a, xs, e, p, q, s.free z, r⟩
  | _ => exact h
theorem Val.back {K : PySem.W.Frag} {own : Bool} {F H0 H1 H : Hp} {d : Dat} {v : V} (s : bg H0 H1) (h : Val K own F H1 H d v) : Val K own F H0 H d v := by
  cases own with
  | true => exact D6.back s h
  | false => exact h
theorem D6.freeze {K : PySem.W.Frag} {F H0 H : Hp} {d : Dat} {v : V} (s : bg F H) (h : D6 K F H0 H d v) : ∃ F', bg F F' /\ bg F' H /\ (∀ b o, F' b = some o -> F b = some o \/ H0 b = none) /\ cI K F' d v := by
  cases d with
  | lst ds =>
    obtain ⟨a, xs, e, p, q, z, r⟩ := h
    refine ⟨upd F a (.lst xs), bg.upd q, fun b o h => ?_, fun b o h => ?_, a, xs, e, SqL.of aE, r.mono (bg.upd q)⟩
    · by_cases e : b = a
      · subst e; rw [aE] at h; rw [p, <- h]
      · rw [av e] at h; exact s b o h
    · by_cases e : b = a
      · subst e; exact .inr z
      · rw [av e] at h; exact .inl h
  | _ => exact ⟨F, bg.refl _, s, fun _ _ z => .inl z, h⟩
inductive Err where
  | stuck | exc (C : Addr) (fs : List (Str × Dat))
noncomputable abbrev M := Except Err
noncomputable abbrev ag := List (Option Dat)
structure gH where
  p : Err -> Hp -> Hp -> Prop
  mono : ∀ {e : Err} {F H F' H' : Hp}, p e F H -> Step F H F' H' -> p e F' H'
  ns : ∀ {F H : Hp}, p .stuck F H -> False
noncomputable def Wno : gH := ⟨fun _ _ _ => False, fun h _ => h, fun h => h⟩
noncomputable def aV (K : PySem.W.Frag) (W : gH) (own : Bool) (F H : Hp) (r : M Dat) (Q : VK) : Prop := match r with
  | .ok d => ∀ v F' H', Step F H F' H' -> Val K own F' H H' d v -> Q v H'
  | .error e => W.p e F H
theorem aV.step {K : PySem.W.Frag} {W : gH} {own : Bool} {F H F1 H1 : Hp} {r : M Dat} {Q : VK} (p : aV K W own F H r Q) (s : Step F H F1 H1) : aV K W own F1 H1 r Q := by
  cases r with
  | ok d => exact fun v F' H' t q => p v F' H' (s.trans t) (q.back s.hh)
  | error e => exact W.mono p s
theorem aV.frz {K : PySem.W.Frag} {W : gH} {F H : Hp} {r : M Dat} {Q : VK} (p : aV K W false F H r Q) : aV K W true F H r Q := by
  cases r with
  | ok d =>
    intro v F' H' t q
    obtain ⟨F2, s1, s2, n, z⟩ := D6.freeze t.fh q
    exact p v F2 H' ⟨t.ff.trans s1, t.hh, s2, fun b o h => (n b o h).elim (fun z => t.nw b o z) .inr⟩ z
  | error e => exact p
structure qf (K : PySem.W.Frag) (F : Hp) (σ : St) (ρ : ag) : Prop where
  len : ρ.length = σ.length
  sl : ∀ (i : Nat) (d : Dat), ρ[i]? = some (some d) -> ∃ v, σ[i]? = some (some v) /\ cI K F d v
theorem qf.mono {K : PySem.W.Frag} {F F' : Hp} {σ : St} {ρ : ag} (r : qf K F σ ρ) (s : bg F F') : qf K F' σ ρ :=
  ⟨r.len, fun i d e => let ⟨v, h, q⟩ := r.sl i d e; ⟨v, h, q.mono s⟩⟩
theorem qf.set {K : PySem.W.Frag} {F : Hp} {σ : St} {ρ : ag} {d : Dat} {v : V} (r : qf K F σ ρ) (q : cI K F d v) (i : Nat) : qf K F (σ.set i (some v)) (ρ.set i (some d)) :=
  ⟨by rw [List.length_set, List.length_set, r.len], fun j e h => by
    by_cases hij : i = j
    · subst hij
      have hi : i < ρ.length := by
        have := (List.getElem?_eq_some_iff.mp h).1
        simpa using this
      rw [List.getElem?_set_self hi] at h
      cases h
      exact ⟨v, by rw [List.getElem?_set_self (by rw [<- r.len]; exact hi)], q⟩
    · rw [List.getElem?_set_ne hij] at h
      obtain ⟨w, h1, h2⟩ := r.sl j e h
      exact ⟨w, by rw [List.getElem?_set_ne hij]; exact h1, h2⟩⟩
noncomputable def tD (K : PySem.W.Frag) (W : gH) (own : Bool) (f : ag -> M Dat) : TE := fun σ H Q => ∃ F ρ, qf K F σ ρ /\ bg F H /\ aV K W own F H (f ρ) Q
theorem bx {K : PySem.W.Frag} {W : gH} {own : Bool} {f : ag -> M Dat} {σ : St} {ρ : ag} {F H : Hp} {R : VK} (r : qf K F σ ρ) (s : bg F H) (hE : ∀ e, f ρ = .error e -> W.p e F H)
    (hO : ∀ d, f ρ = .ok d -> ∀ v F1 H1, Step F H F1 H1 -> Val K own F1 H H1 d v -> R v H1) : tD K W own f σ H R := by
  refine ⟨F, ρ, r, s, ?_⟩
  cases e : f ρ with
  | ok d => exact hO d e
  | error x => exact hE x e
noncomputable def tDT (K : PySem.W.Frag) (W : gH) (f : ag -> M Bool) : TT := fun σ H Q => ∃ F ρ, qf K F σ ρ /\ bg F H /\ (match f ρ with
  | .ok b => ∀ F' H', Step F H F' H' -> Q b H'
  | .error e => W.p e F H)
theorem lC {K : PySem.W.Frag} {W : gH} {f : ag -> M Bool} {σ : St} {ρ : ag} {F H : Hp} {R : Bool -> Hp -> Prop} (r : qf K F σ ρ) (s : bg F H) (hE : ∀ e, f ρ = .error e -> W.p e F H)
    (hO : ∀ b, f ρ = .ok b -> ∀ F1 H1, Step F H F1 H1 -> R b H1) : tDT K W f σ H R := by
  refine ⟨F, ρ, r, s, ?_⟩
  cases e : f ρ with
  | ok d => exact hO d e
  | error x => exact hE x e
noncomputable def tDA (K : PySem.W.Frag) (W : gH) (f : ag -> M (List Dat)) : TA := fun σ H Q => ∃ F ρ, qf K F σ ρ /\ bg F H /\ (match f ρ with
  | .ok ds => ∀ vs F' H', Step F H F' H' -> au K F' ds vs -> Q vs H'
  | .error e => W.p e F H)
theorem rJ {K : PySem.W.Frag} {W : gH} {f : ag -> M (List Dat)} {σ : St} {ρ : ag} {F H : Hp} {R : List V -> Hp -> Prop} (r : qf K F σ ρ) (s : bg F H) (hE : ∀ e, f ρ = .error e -> W.p e F H)
    (hO : ∀ ds, f ρ = .ok ds -> ∀ vs F1 H1, Step F H F1 H1 -> au K F1 ds vs -> R vs H1) : tDA K W f σ H R := by
  refine ⟨F, ρ, r, s, ?_⟩
  cases e : f ρ with
  | ok d => exact hO d e
  | error x => exact hE x e
noncomputable def ah (i : Nat) : ag -> M Dat := fun ρ => match ρ[i]? with
  | some (some d) => .ok d
  | _ => .error .stuck
noncomputable def fC (d : Dat) : ag -> M Dat := fun _ => .ok d
noncomputable def f1 (g : Dat -> M Dat) (fa : ag -> M Dat) : ag -> M Dat := fun ρ => (fa ρ).bind g
noncomputable def f2 (g : Dat -> Dat -> M Dat) (fa fb : ag -> M Dat) : ag -> M Dat := fun ρ => (fa ρ).bind fun a => (fb ρ).bind fun b => g a b
noncomputable def aJ : ag -> M (List Dat) := fun _ => .ok []
noncomputable def a9 (fa : ag -> M Dat) (fr : ag -> M (List Dat)) : ag -> M (List Dat) := fun ρ => (fa ρ).bind fun a => (fr ρ).bind fun r => .ok (a :: r)
noncomputable def fL (g : List Dat -> M Dat) (fr : ag -> M (List Dat)) : ag -> M Dat := fun ρ => (fr ρ).bind g
noncomputable def lB (ds : List Dat) : M Dat := if ds.length <= sizeLine then .ok (.tup ds) else .error .stuck
noncomputable def cE (ds : List Dat) : M Dat := if ds.length <= sizeLine then .ok (.lst ds) else .error .stuck
noncomputable def fIte (ft : ag -> M Bool) (fa fb : ag -> M Dat) : ag -> M Dat := fun ρ => (ft ρ).bind fun b => if b = true then fa ρ else fb ρ
noncomputable def fAnd (ft fu : ag -> M Bool) : ag -> M Bool := fun ρ => (ft ρ).bind fun b => if b = true then fu ρ else .ok false
noncomputable def fOr (ft fu : ag -> M Bool) : ag -> M Bool := fun ρ => (ft ρ).bind fun b => if b = true then .ok true else fu ρ
noncomputable def yh (ft : ag -> M Bool) : ag -> M Bool := fun ρ => (ft ρ).bind fun b => .ok (!b)
noncomputable def asB : Dat -> M Bool
  | .bl b => .ok b
  | _ => .error .stuck
noncomputable def fB (fa : ag -> M Dat) : ag -> M Bool := fun ρ => (fa ρ).bind asB
noncomputable def vX (fa fb : ag -> M Dat) : ag -> M Dat := fun ρ => (fa ρ).bind fun a => (asB a).bind fun b => if b = true then fb ρ else .ok (.bl false)
noncomputable def notD : Dat -> M Dat
  | .bl b => .ok (.bl (!b))
  | _ => .error .stuck
noncomputable def truD : Dat -> M Bool
  | .non => .ok false
  | .bl b => .ok b
  | .int i => .ok (i != 0)
  | .str x => if x.length <= sizeLine then .ok ((x.length : Int) != 0) else .error .stuck
  | .tup ds => .ok (!ds.isEmpty)
  | .lst ds => .ok (!ds.isEmpty)
  | _ => .error .stuck
noncomputable def vV (fa : ag -> M Dat) : ag -> M Bool := fun ρ => (fa ρ).bind truD
noncomputable def jZ (g g' : Dat -> Dat -> M Dat) (fa fb fc : ag -> M Dat) : ag -> M Dat := fun ρ => (fa ρ).bind fun a => (fb ρ).bind fun b => (g a b).bind fun x => (asB x).bind fun k => if k = true then (fc ρ).bind fun c => g' b c else .ok (.bl false)
noncomputable def rD2 (K : PySem.W.Frag) (W : gH) (own : Bool) (g : Dat -> Dat -> M Dat) : R2 := fun x y H Q => ∃ F a b, bg F H /\ cI K F a x /\ cI K F b y /\ aV K W own F H (g a b) Q
noncomputable def rD1 (K : PySem.W.Frag) (W : gH) (own : Bool) (g : Dat -> M Dat) : V -> Hp -> VK -> Prop := fun x H Q => ∃ F a, bg F H /\ cI K F a x /\ aV K W own F H (g a) Q
noncomputable def rDL (K : PySem.W.Frag) (W : gH) (own : Bool) (g : List Dat -> M Dat) : List V -> Hp -> VK -> Prop := fun xs H Q => ∃ F ds, bg F H /\ au K F ds xs /\ aV K W own F H (g ds) Q
section
variable {K : PySem.W.Frag} {W : gH} {own : Bool} {σ : St} {H : Hp} {Q : VK} {fa fb fc : ag -> M Dat}
theorem rd_var {i : Nat} (h : tD K W false (ah i) σ H Q) : By i σ H Q := by
  obtain ⟨F, ρ, r, s, p⟩ := h
  unfold ah at p
  match e : ρ[i]? with
  | some (some d) =>
    rw [e] at p
    obtain ⟨v, e1, q⟩ := r.sl i d e
    exact ⟨v, e1, p v F H (Step.refl s) q⟩
  | some none => rw [e] at p; exact (W.ns p).elim
  | none => rw [e] at p; exact (W.ns p).elim
theorem rd_c {d : Dat} {v : V} (hd : ∀ F, cI K F d v) (h : tD K W false (fC d) σ H Q) : tC v σ H Q := by
  obtain ⟨F, ρ, r, s, p⟩ := h
  exact p v F H (Step.refl s) (hd F)
theorem aV.err {F : Hp} {x : M Dat} {e : Err} (p : aV K W own F H x Q) (h : x = .error e) : W.p e F H := by rw [h] at p; exact p
theorem rd_1 {g : Dat -> M Dat} (h : tD K W own (f1 g fa) σ H Q) : tUn (rD1 K W own g) (tD K W false fa) σ H Q := by
  obtain ⟨F, ρ, r, s, p⟩ := h
  refine bx r s (fun e he => p.err (by unfold f1; rw [he]; rfl)) fun a ha x F1 H1 s1 q1 => ?_
  refine ⟨F1, a, s1.fh, q1, ?_⟩
  have e : f1 g fa ρ = g a := by unfold f1; rw [ha]; rfl
  rw [e] at p
  exact p.step s1
theorem rd_2 {g : Dat -> Dat -> M Dat} (h : tD K W own (f2 g fa fb) σ H Q) : tOp (rD2 K W own g) (tD K W false fa) (tD K W false fb) σ H Q := by
  obtain ⟨F, ρ, r, s, p⟩ := h
  refine bx r s (fun e he => p.err (by unfold f2; rw [he]; rfl)) fun a ha x F1 H1 s1 q1 => ?_
  refine bx (r.mono s1.ff) s1.fh (fun e he => (p.step s1).err (by unfold f2; rw [ha]; show (fb ρ).bind _ = _; rw [he]; rfl)) fun b hb y F2 H2 s2 q2 => ?_
  refine ⟨F2, a, b, s2.fh, cI.mono s2.ff q1, q2, ?_⟩
  have e : f2 g fa fb ρ = g a b := by unfold f2; rw [ha]; show (fb ρ).bind _ = _; rw [hb]; rfl
  rw [e] at p
  exact p.step (s1.trans s2)
theorem rd_nil {R : List V -> Hp -> Prop} (h : tDA K W aJ σ H R) : tNil σ H R := by
  obtain ⟨F, ρ, r, s, p⟩ := h
  exact p [] F H (Step.refl s) rfl
theorem rd_cons {fr : ag -> M (List Dat)} {R : List V -> Hp -> Prop} (h : tDA K W (a9 fa fr) σ H R) : tf (tD K W false fa) (tDA K W fr) σ H R := by
  obtain ⟨F, ρ, r, s, p⟩ := h
  refine bx r s (fun e he => ?_) fun a ha x F1 H1 s1 q1 => rJ (r.mono s1.ff) s1.fh (fun e he => ?_) fun ds hd xs F2 H2 s2 q2 => ?_
  · have z : a9 fa fr ρ = .error e := by unfold a9; rw [he]; rfl
    rw [z] at p
    exact p
  · have z : a9 fa fr ρ = .error e := by unfold a9; rw [ha]; show (fr ρ).bind _ = _; rw [he]; rfl
    rw [z] at p
    exact W.mono p s1
  · have z : a9 fa fr ρ = .ok (a :: ds) := by unfold a9; rw [ha]; show (fr ρ).bind _ = _; rw [hd]; rfl
    rw [z] at p
    exact p (x :: xs) F2 H2 (s1.trans s2) ⟨x, xs, rfl, cI.mono s2.ff q1, q2⟩
theorem rd_L {g : List Dat -> M Dat} {fr : ag -> M (List Dat)} (h : tD K W own (fL g fr) σ H Q) : tDA K W fr σ H fun xs H1 => rDL K W own g xs H1 Q := by
  obtain ⟨F, ρ, r, s, p⟩ := h
  refine rJ r s (fun e he => p.err (by unfold fL; rw [he]; rfl)) fun ds hd xs F1 H1 s1 q1 => ⟨F1, ds, s1.fh, q1, ?_⟩
  have e : fL g fr ρ = g ds := by unfold fL; rw [hd]; rfl
  rw [e] at p
  exact p.step s1
theorem rd_tup {fr : ag -> M (List Dat)} (h : tD K W own (fL lB fr) σ H Q) : tTup (tDA K W fr) σ H Q := by
  obtain ⟨F, ρ, r, s, p⟩ := rd_L h
  refine ⟨F, ρ, r, s, ?_⟩
  cases e : fr ρ with
  | error x => rw [e] at p; exact p
  | ok ds =>
    rw [e] at p
    intro vs F' H' t q
    obtain ⟨F1, es, s1, q1, z⟩ := p vs F' H' t q
    unfold lB at z
    by_cases hl : es.length <= sizeLine
    · rw [if_pos hl] at z
      refine ⟨by rw [q1.length]; exact hl, fun a ha => z (.ref a) _ _ (Step.lay s1 ha) ?_⟩
      have : cI K (upd F1 a (.tup vs)) (.tup es) (.ref a) := ⟨a, vs, rfl, SqT.of aE, q1.mono (bg.upd (s1.free ha))⟩
      cases own with
      | true => exact this
      | false => exact this
    · rw [if_neg hl] at z
      exact (W.ns z).elim
theorem rd_lst {fr : ag -> M (List Dat)} (h : tD K W true (fL cE fr) σ H Q) : tLst (tDA K W fr) σ H Q := by
  obtain ⟨F, ρ, r, s, p⟩ := rd_L h
  refine ⟨F, ρ, r, s, ?_⟩
  cases e : fr ρ with
  | error x => rw [e] at p; exact p
  | ok ds =>
    rw [e] at p
    intro vs F' H' t q
    obtain ⟨F1, es, s1, q1, z⟩ := p vs F' H' t q
    unfold cE at z
    by_cases hl : es.length <= sizeLine
    · rw [if_pos hl] at z
      exact ⟨by rw [q1.length]; exact hl, fun a ha => z (.ref a) F1 _ (Step.grow s1 ha) ⟨a, vs, rfl, aE, s1.free ha, ha, q1⟩⟩
    · rw [if_neg hl] at z
      exact (W.ns z).elim
theorem rd_ite {ft : ag -> M Bool} (h : tD K W own (fIte ft fa fb) σ H Q) : tIf (tDT K W ft) (tD K W own fa) (tD K W own fb) σ H Q := by
  obtain ⟨F, ρ, r, s, p⟩ := h
  refine lC r s (fun e he => p.err (by unfold fIte; rw [he]; rfl)) fun b hb F1 H1 s1 => ?_
  have e : fIte ft fa fb ρ = if b = true then fa ρ else fb ρ := by unfold fIte; rw [hb]; rfl
  rw [e] at p
  cases b with
  | true => exact ⟨F1, ρ, r.mono s1.ff, s1.fh, p.step s1⟩
  | false => exact ⟨F1, ρ, r.mono s1.ff, s1.fh, p.step s1⟩
theorem Aa {f : ag -> M Bool} {F F1 H1 : Hp} {ρ : ag} {R : Bool -> Hp -> Prop} (r : qf K F σ ρ) (s1 : Step F H F1 H1) (p : match f ρ with
  | .ok b => ∀ F' H', Step F H F' H' -> R b H'
  | .error e => W.p e F H) : tDT K W f σ H1 R := by
  refine ⟨F1, ρ, r.mono s1.ff, s1.fh, ?_⟩
  cases e : f ρ with
  | ok b => rw [e] at p; exact fun F' H' t => p F' H' (s1.trans t)
  | error x => rw [e] at p; exact W.mono p s1
theorem rd_and {ft fu : ag -> M Bool} {R : Bool -> Hp -> Prop} (h : tDT K W (fAnd ft fu) σ H R) : tAnd (tDT K W ft) (tDT K W fu) σ H R := by
  obtain ⟨F, ρ, r, s, p⟩ := h
  refine lC r s (fun e he => ?_) fun b hb F1 H1 s1 => ?_
  · have z : fAnd ft fu ρ = .error e := by unfold fAnd; rw [he]; rfl
    rw [z] at p; exact p
  · have z : fAnd ft fu ρ = if b = true then fu ρ else .ok false := by unfold fAnd; rw [hb]; rfl
    rw [z] at p
    cases b with
    | true => exact Aa r s1 p
    | false => exact p F1 H1 s1
theorem rd_or {ft fu : ag -> M Bool} {R : Bool -> Hp -> Prop} (h : tDT K W (fOr ft fu) σ H R) : tOr (tDT K W ft) (tDT K W fu) σ H R := by
  obtain ⟨F, ρ, r, s, p⟩ := h
  refine lC r s (fun e he => ?_) fun b hb F1 H1 s1 => ?_
  · have z : fOr ft fu ρ = .error e := by unfold fOr; rw [he]; rfl
    rw [z] at p; exact p
  · have z : fOr ft fu ρ = if b = true then .ok true else fu ρ := by unfold fOr; rw [hb]; rfl
    rw [z] at p
    cases b with
    | false => exact Aa r s1 p
    | true => exact p F1 H1 s1
theorem rd_not {ft : ag -> M Bool} {R : Bool -> Hp -> Prop} (h : tDT K W (yh ft) σ H R) : tNot (tDT K W ft) σ H R := by
  obtain ⟨F, ρ, r, s, p⟩ := h
  refine lC r s (fun e he => ?_) fun b hb F1 H1 s1 => ?_
  · have z : yh ft ρ = .error e := by unfold yh; rw [he]; rfl
    rw [z] at p; exact p
  · have z : yh ft ρ = .ok (!b) := by unfold yh; rw [hb]; rfl
    rw [z] at p; exact p F1 H1 s1
theorem rd_B {R : Bool -> Hp -> Prop} (h : tDT K W (fB fa) σ H R) : tTest (tD K W false fa) σ H R := by
  obtain ⟨F, ρ, r, s, p⟩ := h
  refine bx r s (fun e he => ?_) fun a ha x F1 H1 s1 q1 => ?_
  · have z : fB fa ρ = .error e := by unfold fB; rw [he]; rfl
    rw [z] at p; exact p
  · have z : fB fa ρ = asB a := by unfold fB; rw [ha]; rfl
    rw [z] at p
    cases a with
    | bl b => exact ⟨b, q1, p F1 H1 s1⟩
    | _ => exact (W.ns p).elim
theorem tru_of {F H1 : Hp} {a : Dat} {x : V} {b : Bool} (s : bg F H1) (q : cI K F a x) (h : truD a = .ok b) : TruV K x H1 b := by
  cases a with
  | non => rw [show x = .non from q]; exact (Except.ok.inj h).symm
  | bl c => rw [show x = .bl c from q]; exact (Except.ok.inj h).symm
  | int i => rw [show x = .int i from q]; exact (Except.ok.inj h).symm
  | str y =>
    rw [show x = .str y from q]
    have h' : (if y.length <= sizeLine then Except.ok ((y.length : Int) != 0) else Except.error Err.stuck) = Except.ok b := h
    by_cases hy : y.length <= sizeLine
    · rw [if_pos hy] at h'
      exact ⟨hy, (Except.ok.inj h').symm⟩
    · rw [if_neg hy] at h'
      cases h'
  | tup ds =>
    obtain ⟨p, xs, e, t, r⟩ := q
    subst e
    refine .inr (.inl ⟨xs, s.tup t, ?_⟩)
    rw [<- Except.ok.inj h]
    cases ds with
    | nil => rw [show xs = [] from r]; rfl
    | cons d ds => obtain ⟨v, vs, e, _⟩ := r; rw [e]; rfl
  | lst ds =>
    obtain ⟨p, xs, e, t, r⟩ := q
    subst e
    refine .inl ⟨xs, s.lst t, ?_⟩
    rw [<- Except.ok.inj h]
    cases ds with
    | nil => rw [show xs = [] from r]; rfl
    | cons d ds => obtain ⟨v, vs, e, _⟩ := r; rw [e]; rfl
  | ins C fs => cases h
theorem rd_tru {R : Bool -> Hp -> Prop} (h : tDT K W (vV fa) σ H R) : tD K W false fa σ H fun x H1 => ∃ k, TruV K x H1 k /\ R k H1 := by
  obtain ⟨F, ρ, r, s, p⟩ := h
  refine bx r s (fun e he => ?_) fun a ha x F1 H1 s1 q1 => ?_
  · have z : vV fa ρ = .error e := by unfold vV; rw [he]; rfl
    rw [z] at p; exact p
  · have z : vV fa ρ = truD a := by unfold vV; rw [ha]; rfl
    rw [z] at p
    cases e : truD a with
    | ok b => rw [e] at p; exact ⟨b, tru_of s1.fh q1 e, p F1 H1 s1⟩
    | error x =>
      rw [e] at p
      have : x = .stuck := by
        cases a with
        | str y =>
          have e' : (if y.length <= sizeLine then Except.ok ((y.length : Int) != 0) else Except.error Err.stuck) = Except.error x := e
          by_cases hy : y.length <= sizeLine
          · rw [if_pos hy] at e'
            cases e'
          · rw [if_neg hy] at e'
            cases e'
            rfl
        | ins C fs => cases e; rfl
        | _ => cases e
      subst this
      exact (W.ns p).elim
theorem rd_andV (h : tD K W false (vX fa fb) σ H Q) : tAndV (tD K W false fa) (tD K W false fb) σ H Q := by
  obtain ⟨F, ρ, r, s, p⟩ := h
  refine bx r s (fun e he => p.err (by unfold vX; rw [he]; rfl)) fun a ha x F1 H1 s1 q1 => ?_
  have z : vX fa fb ρ = (asB a).bind fun b => if b = true then fb ρ else .ok (.bl false) := by unfold vX; rw [ha]; rfl
  rw [z] at p
  cases a with
  | bl b =>
    refine ⟨b, q1, ?_⟩
    cases b with
    | true => exact ⟨F1, ρ, r.mono s1.ff, s1.fh, aV.step (own := false) (r := fb ρ) p s1⟩
    | false => exact p (.bl false) F1 H1 s1 rfl
  | _ => exact (W.ns p).elim
theorem rd_notV (h : tD K W false (f1 notD fa) σ H Q) : tNotV (tD K W false fa) σ H Q := by
  obtain ⟨F, ρ, r, s, p⟩ := h
  refine bx r s (fun e he => p.err (by unfold f1; rw [he]; rfl)) fun a ha x F1 H1 s1 q1 => ?_
  have z : f1 notD fa ρ = notD a := by unfold f1; rw [ha]; rfl
  rw [z] at p
  cases a with
  | bl b => exact ⟨b, q1, p (.bl (!b)) F1 H1 s1 rfl⟩
  | _ => exact (W.ns p).elim
theorem Aj {g g' : Dat -> Dat -> M Dat} (h : tD K W false (jZ g g' fa fb fc) σ H Q) : Bz (rD2 K W false g) (rD2 K W false g') (tD K W false fa) (tD K W false fb) (tD K W false fc) σ H Q := by
  obtain ⟨F, ρ, r, s, p⟩ := h
  refine bx r s (fun e he => p.err (by unfold jZ; rw [he]; rfl)) fun a ha x F1 H1 s1 q1 => ?_
  refine bx (r.mono s1.ff) s1.fh (fun e he => (p.step s1).err (by unfold jZ; rw [ha]; show (fb ρ).bind _ = _; rw [he]; rfl)) fun b hb y F2 H2 s2 q2 => ?_
  have z : jZ g g' fa fb fc ρ = (g a b).bind fun x => (asB x).bind fun k => if k = true then (fc ρ).bind fun c => g' b c else .ok (.bl false) := by unfold jZ; rw [ha]; show (fb ρ).bind _ = _; rw [hb]; rfl
  rw [z] at p
  refine ⟨F2, a, b, s2.fh, cI.mono s2.ff q1, q2, ?_⟩
  have p2 := p.step (s1.trans s2)
  cases e : g a b with
  | error x => rw [e] at p2; exact p2
  | ok d =>
    rw [e] at p2
    intro v F3 H3 s3 q3
    have p3 : aV K W false F3 H3 ((asB d).bind fun k => if k = true then (fc ρ).bind fun c => g' b c else .ok (.bl false)) Q := aV.step p2 s3
    cases d with
    | bl k =>
      refine ⟨k, q3, ?_⟩
      cases k with
      | false => exact p3 (.bl false) F3 H3 (Step.refl s3.fh) rfl
      | true =>
        have p4 : aV K W false F3 H3 ((fc ρ).bind fun c => g' b c) Q := p3
        refine bx (r.mono (s1.trans (s2.trans s3)).ff) s3.fh (fun e he => p4.err (by rw [he]; rfl)) fun c hc w F4 H4 s4 q4 => ⟨F4, b, c, s4.fh, cI.mono (s3.trans s4).ff q2, q4, ?_⟩
        rw [hc] at p4
        exact p4.step s4
    | _ => exact (W.ns p3).elim
end
inductive Pat where
  | nm (i : Nat) | tp (is : List Nat)
noncomputable def lF : List Nat -> List Dat -> ag -> ag
  | i :: is, d :: ds, ρ => lF is ds (ρ.set i (some d))
  | _, _, ρ => ρ
noncomputable def fD : Pat -> Dat -> ag -> M ag
  | .nm i, d, ρ => .ok (ρ.set i (some d))
  | .tp is, .tup ds, ρ => if ds.length = is.length then .ok (lF is ds ρ) else .error .stuck
  | .tp _, _, _ => .error .stuck
noncomputable def i8 : List Nat -> TGs
  | [] => gNil
  | i :: is => gCons (ye i) (i8 is)
noncomputable def gP (K : PySem.W.Frag) : Pat -> TG
  | .nm i => ye i
  | .tp is => gTup K is.length (i8 is)
theorem ux {K : PySem.W.Frag} {F H : Hp} {R : St -> Hp -> Prop} : ∀ {is : List Nat} {ds : List Dat} {vs : List V} {σ : St} {ρ : ag}, qf K F σ ρ -> au K F ds vs -> ds.length = is.length -> (∀ σ', qf K F σ' (lF is ds ρ) -> R σ' H) -> i8 is vs σ H R
  | [], [], _, σ, ρ, r, q, _, h => ⟨q, h σ r⟩
  | [], _ :: _, _, _, _, _, _, e, _ => by simp at e
  | _ :: _, [], _, _, _, _, _, e, _ => by simp at e
  | i :: is, d :: ds, _, σ, ρ, r, ⟨v, vs, e, q, t⟩, l, h => ⟨v, vs, e, ux (r.set q i) t (by simpa using l) h⟩
theorem gP_run {K : PySem.W.Frag} {F H : Hp} {R : St -> Hp -> Prop} {p : Pat} {d : Dat} {v : V} {σ : St} {ρ ρ' : ag} (r : qf K F σ ρ) (s : bg F H) (q : cI K F d v) (e : fD p d ρ = .ok ρ') (h : ∀ σ', qf K F σ' ρ' -> R σ' H) : gP K p v σ H R := by
  cases p with
  | nm i =>
    have := Except.ok.inj e
    subst this
    exact h _ (r.set q i)
  | tp is =>
    cases d with
    | tup ds =>
      have e' : (if ds.length = is.length then Except.ok (lF is ds ρ) else Except.error Err.stuck) = Except.ok ρ' := e
      by_cases hl : ds.length = is.length
      · rw [if_pos hl] at e'
        have := Except.ok.inj e'
        subst this
        obtain ⟨a, xs, ev, t, z⟩ := q
        exact ⟨a, xs, ev, s.tup t, by rw [z.length, hl], ux r z hl h⟩
      · rw [if_neg hl] at e'
        cases e'
    | _ => cases e
theorem mH {p : Pat} {d : Dat} {ρ : ag} {e : Err} (h : fD p d ρ = .error e) : e = .stuck := by
  cases p with
  | nm i => cases h
  | tp is =>
    cases d with
    | tup ds =>
      have e' : (if ds.length = is.length then Except.ok (lF is ds ρ) else Except.error Err.stuck) = Except.error e := h
      by_cases hl : ds.length = is.length
      · rw [if_pos hl] at e'; cases e'
      · rw [if_neg hl] at e'; cases e'; rfl
    | _ => cases h; rfl
structure yR (K : PySem.W.Frag) (F1 : Hp) (J : It) (ds : List Dat) : Prop where
  go : ∀ (i : Nat) (F H : Hp), bg F1 F -> bg F H -> i < ds.length -> J.go i H
  yl : ∀ (i : Nat) (F H : Hp) (x : V) (H' : Hp) (d : Dat), bg F1 F -> bg F H -> ds[i]? = some d -> J.yld i H x H' -> ∃ F', Step F H F' H' /\ cI K F' d x
  st : ∀ (F H : Hp), bg F1 F -> bg F H -> J.stop ds.length H
noncomputable def iD (K : PySem.W.Frag) (W : gH) (f : ag -> M (List Dat)) : TI := fun σ H R => ∃ F ρ, qf K F σ ρ /\ bg F H /\ (match f ρ with
  | .ok ds => ∀ J F1 H1, Step F H F1 H1 -> yR K F1 J ds -> R J H1
  | .error e => W.p e F H)
noncomputable def qP : Dat -> M (List Dat)
  | .lst ds => .ok ds
  | .tup ds => .ok ds
  | _ => .error .stuck
noncomputable def fIt (fa : ag -> M Dat) : ag -> M (List Dat) := fun ρ => (fa ρ).bind qP
noncomputable def iSeq (K : PySem.W.Frag) (tl : TE) : TI := fun σ H R => tl σ H fun x H1 => ∃ a, x = .ref a /\ ((∃ xs, SqL K H1 a xs) /\ R (Itl K a) H1 \/ (∃ xs, SqT K H1 a xs) /\ R (Itt K a) H1)
theorem Ck {K : PySem.W.Frag} {F : Hp} {a : Addr} {xs : List V} {ds : List Dat} (t : SqL K F a xs) (z : au K F ds xs) : yR K F (Itl K a) ds where
  go := fun i F' H' s1 s2 hi => ⟨xs, xs[i]'(by rw [z.length]; exact hi), s2.lst (s1.lst t), by simp [z.length, hi]⟩
  yl := fun i F' H' x H2 d s1 s2 hd hy => by
    obtain ⟨e, hy⟩ := hy
    subst e
    obtain ⟨v, e1, q⟩ := z.get hd
    have e2 := hy xs (s2.lst (s1.lst t))
    rw [e1] at e2
    cases e2
    exact ⟨F', Step.refl s2, q.mono s1⟩
  st := fun F' H' s1 s2 => ⟨xs, s2.lst (s1.lst t), by rw [z.length]; exact Nat.le_refl _⟩
theorem iter_tup {K : PySem.W.Frag} {F : Hp} {a : Addr} {xs : List V} {ds : List Dat} (t : SqT K F a xs) (z : au K F ds xs) : yR K F (Itt K a) ds where
  go := fun i F' H' s1 s2 hi => ⟨xs, xs[i]'(by rw [z.length]; exact hi), s2.tup (s1.tup t), by simp [z.length, hi]⟩
  yl := fun i F' H' x H2 d s1 s2 hd hy => by
    obtain ⟨e, hy⟩ := hy
    subst e
    obtain ⟨v, e1, q⟩ := z.get hd
    have e2 := hy xs (s2.tup (s1.tup t))
    rw [e1] at e2
    cases e2
    exact ⟨F', Step.refl s2, q.mono s1⟩
  st := fun F' H' s1 s2 => ⟨xs, s2.tup (s1.tup t), by rw [z.length]; exact Nat.le_refl _⟩
noncomputable def bz (lo : Int) (n : Nat) : List Dat := (List.range n).map fun k : Nat => Dat.int (lo + k)
theorem B7 {K : PySem.W.Frag} {F : Hp} {lo : Int} {n : Nat} : yR K F (Itr lo n) (bz lo n) where
  go := fun i F' H' s1 s2 hi => by show i < n; simpa [bz] using hi
  yl := fun i F' H' x H2 d s1 s2 hd hy => by
    obtain ⟨e, hy⟩ := hy
    subst e hy
    unfold bz at hd
    rw [List.getElem?_map] at hd
    have hi : i < n := by
      have := (List.getElem?_eq_some_iff.mp (show ((List.range n).map fun k : Nat => Dat.int (lo + k))[i]? = some d by rw [List.getElem?_map]; exact hd)).1
      simpa using this
    rw [List.getElem?_range hi] at hd
    cases hd
    exact ⟨F', Step.refl s2, rfl⟩
  st := fun F' H' s1 s2 => by show n <= _; simp [bz]
noncomputable def jr (i : Int) : Bool := decide (-(2 ^ 62) <= i) && decide (i < 2 ^ 62)
noncomputable def v8 : List Dat -> M (List Dat)
  | [.int j] => if jr j = true then .ok (bz 0 j.toNat) else .error .stuck
  | _ => .error .stuck
noncomputable def vW (g : List Dat -> M (List Dat)) (fr : ag -> M (List Dat)) : ag -> M (List Dat) := fun ρ => (fr ρ).bind g
section
variable {K : PySem.W.Frag} {W : gH} {own : Bool} {σ : St} {H : Hp} {Q : VK} {fa fb fc : ag -> M Dat}
theorem ri_seq {R : It -> Hp -> Prop} (h : iD K W (fIt fa) σ H R) : iSeq K (tD K W false fa) σ H R := by
  obtain ⟨F, ρ, r, s, p⟩ := h
  refine bx r s (fun e he => ?_) fun a ha x F1 H1 s1 q1 => ?_
  · have z : fIt fa ρ = .error e := by unfold fIt; rw [he]; rfl
    rw [z] at p; exact p
  · have z : fIt fa ρ = qP a := by unfold fIt; rw [ha]; rfl
    rw [z] at p
    cases a with
    | lst ds =>
      obtain ⟨b, xs, e, t, z⟩ := q1
      exact ⟨b, e, .inl ⟨⟨xs, s1.fh.lst t⟩, p _ F1 H1 s1 (Ck t z)⟩⟩
    | tup ds =>
      obtain ⟨b, xs, e, t, z⟩ := q1
      exact ⟨b, e, .inr ⟨⟨xs, s1.fh.tup t⟩, p _ F1 H1 s1 (iter_tup t z)⟩⟩
    | _ => exact (W.ns p).elim
theorem ri_rng1 {fr : ag -> M (List Dat)} {R : It -> Hp -> Prop} (h : iD K W (vW v8 fr) σ H R) : iRng1 (tDA K W fr) σ H R := by
  obtain ⟨F, ρ, r, s, p⟩ := h
  refine rJ r s (fun e he => ?_) fun ds hd xs F1 H1 s1 q1 => ?_
  · have z : vW v8 fr ρ = .error e := by unfold vW; rw [he]; rfl
    rw [z] at p; exact p
  · have z : vW v8 fr ρ = v8 ds := by unfold vW; rw [hd]; rfl
    rw [z] at p
    match ds, q1, p with
    | [.int j], ⟨v, vs, e, q, t⟩, p =>
      have p' : match (if jr j = true then Except.ok (bz 0 j.toNat) else Except.error Err.stuck : M (List Dat)) with
        | .ok ds => ∀ J F1 H1, Step F H F1 H1 -> yR K F1 J ds -> R J H1
        | .error e => W.p e F H := p
      by_cases hj : jr j = true
      · rw [if_pos hj] at p'
        unfold jr at hj
        simp only [Bool.and_eq_true, decide_eq_true_eq] at hj
        exact ⟨j, by rw [e, show v = .int j from q, show vs = [] from t], hj.1, hj.2, p' _ F1 H1 s1 B7⟩
      · rw [if_neg hj] at p'
        exact (W.ns p').elim
    | [], _, p => exact (W.ns p).elim
    | .non :: _, _, p => exact (W.ns p).elim
    | .bl _ :: _, _, p => exact (W.ns p).elim
    | .str _ :: _, _, p => exact (W.ns p).elim
    | .tup _ :: _, _, p => exact (W.ns p).elim
    | .lst _ :: _, _, p => exact (W.ns p).elim
    | .ins _ _ :: _, _, p => exact (W.ns p).elim
    | .int _ :: _ :: _, _, p => exact (W.ns p).elim
noncomputable def gp (ix : List (Option Nat)) (ρ : ag) : ag := ix.map fun o => match o with
  | none => none
  | some j => (ρ[j]?).join
noncomputable def bf (p : Pat) (ft : ag -> M Bool) (fe : ag -> M Dat) (ρ0 : ag) : List Dat -> M (List Dat)
  | [] => .ok []
  | d :: ds => (fD p d ρ0).bind fun ρ => (ft ρ).bind fun b => if b = true then (fe ρ).bind fun y => (bf p ft fe ρ0 ds).bind fun r => .ok (y :: r) else bf p ft fe ρ0 ds
noncomputable def fg (fi : ag -> M (List Dat)) (ix : List (Option Nat)) (p : Pat) (ft : ag -> M Bool) (fe : ag -> M Dat) : ag -> M Dat := fun ρ => (fi ρ).bind fun ds => if ds.length <= sizeLine then (bf p ft fe (gp ix ρ) ds).bind fun r => .ok (.lst r) else .error .stuck
noncomputable def rp : ag -> M Bool := fun _ => .ok true
theorem qf.inS {F : Hp} {ρ : ag} (r : qf K F σ ρ) (ix : List (Option Nat)) : qf K F (L2.inS ix σ) (gp ix ρ) :=
  ⟨by simp [L2.inS, gp], fun i d e => by
    unfold gp at e
    unfold L2.inS
    rw [List.getElem?_map] at e ⊢
    cases h : ix[i]? with
    | none => rw [h] at e; cases e
    | some o =>
      rw [h] at e
      cases o with
      | none => cases e
      | some j =>
        simp only [Option.map_some, Option.some.injEq] at e ⊢
        have e1 : ρ[j]? = some (some d) := by
          cases z : ρ[j]? with
          | none => rw [z] at e; cases e
          | some w => rw [z] at e; simp at e; rw [e]
        obtain ⟨v, h1, h2⟩ := r.sl j d e1
        exact ⟨v, by rw [h1]; rfl, h2⟩⟩
theorem zd {fi : ag -> M (List Dat)} {ix : List (Option Nat)} {p : Pat} {ft : ag -> M Bool} {fe : ag -> M Dat} (h : tD K W true (fg fi ix p ft fe) σ H Q) :
    tComp (iD K W fi) ix (gP K p) (tDT K W ft) (tD K W false fe) σ H Q := by
  obtain ⟨F, ρ, r, s, q⟩ := h
  refine ⟨F, ρ, r, s, ?_⟩
  cases hf : fi ρ with
  | error e => exact q.err (by unfold fg; rw [hf]; rfl)
  | ok ds =>
    intro J F1 H1 s1 it
    have e0 : fg fi ix p ft fe ρ = if ds.length <= sizeLine then (bf p ft fe (gp ix ρ) ds).bind fun r => .ok (.lst r) else .error .stuck := by unfold fg; rw [hf]; rfl
    rw [e0] at q
    by_cases hl : ds.length <= sizeLine
    · rw [if_pos hl] at q
      refine ⟨fun i m ys H2 => m = ds.length - i /\ i <= ds.length /\ ∃ F2 yd, Step F1 H1 F2 H2 /\ au K F2 yd ys /\ yd.length <= i /\
        (match bf p ft fe (gp ix ρ) (ds.drop i) with
          | .ok rr => bf p ft fe (gp ix ρ) ds = .ok (yd ++ rr)
          | .error e => W.p e F H), ⟨ds.length, by omega, Nat.zero_le _, F1, [], Step.refl s1.fh, rfl, Nat.zero_le _, ?_⟩, ?_⟩
      · rw [List.drop_zero]
        cases e : bf p ft fe (gp ix ρ) ds with
        | ok rr => rfl
        | error x => exact q.err (by rw [e]; rfl)
      · rintro i m ys H2 ⟨rfl, hi, F2, yd, s2, dy, ly, hc⟩
        have lys : ys.length <= sizeLine := by rw [dy.length]; omega
        by_cases hlt : i < ds.length
        · have ed : ds.drop i = ds[i] :: ds.drop (i + 1) := List.drop_eq_getElem_cons hlt
          rw [ed] at hc
          refine .inr ⟨it.go i F2 H2 s2.ff s2.fh hlt, lys, fun ys' H' => (i + 1 <= ds.length /\ ∃ F2 yd, Step F1 H1 F2 H' /\ au K F2 yd ys' /\ yd.length <= i + 1 /\
            (match bf p ft fe (gp ix ρ) (ds.drop (i + 1)) with
              | .ok rr => bf p ft fe (gp ix ρ) ds = .ok (yd ++ rr)
              | .error e => W.p e F H)), fun ys' H' n => ⟨ds.length - (i + 1), by omega, rfl, n⟩, fun x H' y => ?_⟩
          obtain ⟨F3, s3, q3⟩ := it.yl i F2 H2 x H' ds[i] s2.ff s2.fh (by simp [hlt]) y
          have r3 : qf K F3 (L2.inS ix σ) (gp ix ρ) := (r.mono (s1.trans (s2.trans s3)).ff).inS ix
          have st3 : Step F H F3 H' := s1.trans (s2.trans s3)
          have ec : bf p ft fe (gp ix ρ) (ds[i] :: ds.drop (i + 1)) = (fD p ds[i] (gp ix ρ)).bind fun ρ1 => (ft ρ1).bind fun b => if b = true then (fe ρ1).bind fun y => (bf p ft fe (gp ix ρ) (ds.drop (i + 1))).bind fun r => .ok (y :: r) else bf p ft fe (gp ix ρ) (ds.drop (i + 1)) := by rw [bf]
          rw [ec] at hc
          cases hb : fD p ds[i] (gp ix ρ) with
          | error e =>
            rw [hb] at hc
            have := mH hb
            subst this
            exact (W.ns hc).elim
          | ok ρ1 =>
            rw [hb] at hc
            refine gP_run r3 s3.fh q3 hb fun σ2 r4 => ?_
            have hc1 : match ((ft ρ1).bind fun b => if b = true then (fe ρ1).bind fun y => (bf p ft fe (gp ix ρ) (ds.drop (i + 1))).bind fun r => .ok (y :: r) else bf p ft fe (gp ix ρ) (ds.drop (i + 1))) with
              | .ok rr => bf p ft fe (gp ix ρ) ds = .ok (yd ++ rr)
              | .error e => W.p e F H := hc
            refine lC r4 s3.fh (fun e he => by rw [he] at hc1; exact W.mono hc1 st3) fun b hb2 F5 H5 s5 => ?_
            rw [hb2] at hc1
            cases b with
            | false =>
              have hc2 : match bf p ft fe (gp ix ρ) (ds.drop (i + 1)) with
                | .ok rr => bf p ft fe (gp ix ρ) ds = .ok (yd ++ rr)
                | .error e => W.p e F H := hc1
              exact ⟨hlt, F5, yd, s2.trans (s3.trans s5), dy.mono (s3.trans s5).ff, by omega, hc2⟩
            | true =>
              have hc2 : match ((fe ρ1).bind fun y => (bf p ft fe (gp ix ρ) (ds.drop (i + 1))).bind fun r => .ok (y :: r)) with
                | .ok rr => bf p ft fe (gp ix ρ) ds = .ok (yd ++ rr)
                | .error e => W.p e F H := hc1
              refine bx (r4.mono s5.ff) s5.fh (fun e he => by rw [he] at hc2; exact W.mono hc2 (st3.trans s5)) fun d hd v F6 H6 s6 q6 => ?_
              rw [hd] at hc2
              refine ⟨hlt, F6, yd ++ [d], s2.trans (s3.trans (s5.trans s6)), au.append (dy.mono (s3.trans (s5.trans s6)).ff) ⟨v, [], rfl, q6, rfl⟩, by simp; omega, ?_⟩
              have hc3 : match ((bf p ft fe (gp ix ρ) (ds.drop (i + 1))).bind fun r => .ok (d :: r) : M (List Dat)) with
                | .ok rr => bf p ft fe (gp ix ρ) ds = .ok (yd ++ rr)
                | .error e => W.p e F H := hc2
              cases e7 : bf p ft fe (gp ix ρ) (ds.drop (i + 1)) with
              | ok rr =>
                rw [e7] at hc3
                show _ = Except.ok ((yd ++ [d]) ++ rr)
                rw [List.append_assoc]
                exact hc3
              | error x => rw [e7] at hc3; exact hc3
        · have : i = ds.length := by omega
          subst this
          rw [List.drop_length] at hc
          have hc' : bf p ft fe (gp ix ρ) ds = .ok (yd ++ []) := hc
          rw [List.append_nil] at hc'
          rw [hc'] at q
          refine .inl ⟨it.st F2 H2 s2.ff s2.fh, lys, fun a ha => ?_⟩
          have st : Step F H F2 H2 := s1.trans s2
          exact q (.ref a) F2 _ (st.trans (Step.grow s2.fh ha)) ⟨a, ys, rfl, aE, s2.fh.free ha, st.hh.free ha, dy⟩
    · rw [if_neg hl] at q
      exact (W.ns q).elim
end
inductive Flo where
  | nx (ρ : ag) | rt (d : Dat) | bk (ρ : ag) | ct (ρ : ag)
structure Rep (K : PySem.W.Frag) (F0 H0 FB : Hp) (O : List Nat) (F H : Hp) (σ : St) (ρ : ag) : Prop where
  st : Step F0 H0 F H
  fb : bg FB F
  len : ρ.length = σ.length
  fz : ∀ (i : Nat) (d : Dat), ρ[i]? = some (some d) -> i ∉ O -> ∃ v, σ[i]? = some (some v) /\ cI K F d v
  ow : ∀ (i : Nat) (d : Dat), ρ[i]? = some (some d) -> i ∈ O -> ∃ v, σ[i]? = some (some v) /\ D6 K F H0 H d v
  ap : ∀ (i j : Nat) (ds es : List Dat) (a : Addr), i ∈ O -> j ∈ O -> ρ[i]? = some (some (.lst ds)) -> ρ[j]? = some (some (.lst es)) -> σ[i]? = some (some (.ref a)) -> σ[j]? = some (some (.ref a)) -> i = j
noncomputable def qg (O O2 : List Nat) (σ : St) (ρ : ag) (b : Addr) : Prop := ∃ (i : Nat) (ds : List Dat), i ∈ O /\ i ∉ O2 /\ ρ[i]? = some (some (.lst ds)) /\ σ[i]? = some (some (.ref b))
open Classical in
noncomputable def plus (F H : Hp) (A : Addr -> Prop) : Hp := fun b => if A b then H b else F b
open Classical in
noncomputable def minus (F : Hp) (A : Addr -> Prop) : Hp := fun b => if A b then none else F b
theorem jt {F H : Hp} {A : Addr -> Prop} {b : Addr} (h : A b) : plus F H A b = H b := by unfold plus; rw [if_pos h]
theorem dY {F H : Hp} {A : Addr -> Prop} {b : Addr} (h : ¬ A b) : plus F H A b = F b := by unfold plus; rw [if_neg h]
theorem vF {F : Hp} {A : Addr -> Prop} {b : Addr} (h : A b) : minus F A b = none := by unfold minus; rw [if_pos h]
theorem jX {F : Hp} {A : Addr -> Prop} {b : Addr} (h : ¬ A b) : minus F A b = F b := by unfold minus; rw [if_neg h]
section
variable {K : PySem.W.Frag} {F0 H0 FB F H : Hp} {O O2 : List Nat} {σ : St} {ρ : ag}
theorem Rep.own (r : Rep K F0 H0 FB O F H σ ρ) {b : Addr} (h : qg O O2 σ ρ b) : F b = none /\ H0 b = none /\ ∃ xs, H b = some (.lst xs) := by
  obtain ⟨i, ds, hi, _, e1, e2⟩ := h
  obtain ⟨v, e3, a, xs, e, p, q, z, _⟩ := r.ow i _ e1 hi
  rw [e2] at e3
  cases e3
  cases e
  exact ⟨q, z, xs, p⟩
theorem Rep.nV (r : Rep K F0 H0 FB O F H σ ρ) : bg F (plus F H (qg O O2 σ ρ)) := fun b o h => by
  by_cases hb : qg O O2 σ ρ b
  · rw [(r.own hb).1] at h; cases h
  · rw [dY hb]; exact h
theorem Rep.lN (r : Rep K F0 H0 FB O F H σ ρ) : bg (plus F H (qg O O2 σ ρ)) H := fun b o h => by
  by_cases hb : qg O O2 σ ρ b
  · rw [jt hb] at h; exact h
  · rw [dY hb] at h; exact r.st.fh b o h
theorem Rep.freeze (r : Rep K F0 H0 FB O F H σ ρ) (hs : ∀ i ∈ O2, i ∈ O) : Rep K F0 H0 FB O2 (plus F H (qg O O2 σ ρ)) H σ ρ where
  st := ⟨r.st.ff.trans r.nV, r.st.hh, r.lN, fun b o h => by
    by_cases hb : qg O O2 σ ρ b
    · exact .inr (r.own hb).2.1
    · rw [dY hb] at h; exact r.st.nw b o h⟩
  fb := r.fb.trans r.nV
  len := r.len
  fz := fun i d e hi => by
    by_cases ho : i ∈ O
    · obtain ⟨v, e3, q⟩ := r.ow i d e ho
      refine ⟨v, e3, ?_⟩
      cases d with
      | lst ds =>
        obtain ⟨a, xs, ev, p, _, _, t⟩ := q
        subst ev
        refine ⟨a, xs, rfl, SqL.of ?_, t.mono r.nV⟩
        rw [jt ⟨i, ds, ho, hi, e, e3⟩]
        exact p
      | _ => exact cI.mono r.nV q
    · obtain ⟨v, e3, q⟩ := r.fz i d e ho
      exact ⟨v, e3, q.mono r.nV⟩
  ow := fun i d e hi => by
    obtain ⟨v, e3, q⟩ := r.ow i d e (hs i hi)
    refine ⟨v, e3, ?_⟩
    cases d with
    | lst ds =>
      obtain ⟨a, xs, ev, p, q, z, t⟩ := q
      subst ev
      refine ⟨a, xs, rfl, p, ?_, z, t.mono r.nV⟩
      have : ¬ qg O O2 σ ρ a := fun ⟨j, es, hj, hj2, f1, f2⟩ => by
        have := r.ap i j ds es a (hs i hi) hj e f1 e3 f2
        subst this
        exact hj2 hi
      rw [dY this]
      exact q
    | _ => exact cI.mono r.nV q
  ap := fun i j ds es a hi hj => r.ap i j ds es a (hs i hi) (hs j hj)
theorem Rep.repE (r : Rep K F0 H0 FB [] F H σ ρ) : qf K F σ ρ := ⟨r.len, fun i d e => r.fz i d e (by simp)⟩
theorem Rep.rO (r : Rep K F0 H0 FB O F H σ ρ) : qf K (plus F H (qg O [] σ ρ)) σ ρ := (r.freeze (O2 := []) (by simp)).repE
noncomputable def erase : List Nat -> ag -> ag
  | [], ρ => ρ
  | i :: is, ρ => erase is (ρ.set i none)
theorem yi : ∀ (O : List Nat) (ρ : ag), (erase O ρ).length = ρ.length
  | [], _ => rfl
  | i :: is, ρ => by rw [erase, yi, List.length_set]
theorem yj : ∀ (O : List Nat) (ρ : ag) (i : Nat) (d : Dat), (erase O ρ)[i]? = some (some d) -> ρ[i]? = some (some d) /\ i ∉ O
  | [], _, _, _, h => ⟨h, by simp⟩
  | j :: is, ρ, i, d, h => by
    obtain ⟨h1, h2⟩ := yj is (ρ.set j none) i d h
    by_cases e : j = i
    · subst e
      have hj : j < ρ.length := by
        have := (List.getElem?_eq_some_iff.mp h1).1
        simpa using this
      rw [List.getElem?_set_self hj] at h1
      cases h1
    · rw [List.getElem?_set_ne e] at h1
      exact ⟨h1, by simp [h2]; omega⟩
theorem Rep.pq (r : Rep K F0 H0 FB O F H σ ρ) : qf K F σ (erase O ρ) :=
  ⟨by rw [yi, r.len], fun i d e => let ⟨h1, h2⟩ := yj O ρ i d e; r.fz i d h1 h2⟩
theorem Rep.step {F1 H1 : Hp} (r : Rep K F0 H0 FB O F H σ ρ) (s : Step F H F1 H1) : Rep K F0 H0 FB O F1 H1 σ ρ where
  st := r.st.trans s
  fb := r.fb.trans s.ff
  len := r.len
  fz := fun i d e hi => let ⟨v, e3, q⟩ := r.fz i d e hi; ⟨v, e3, q.mono s.ff⟩
  ow := fun i d e hi => by
    obtain ⟨v, e3, q⟩ := r.ow i d e hi
    refine ⟨v, e3, ?_⟩
    cases d with
    | lst ds =>
      obtain ⟨a, xs, ev, p, q, z, t⟩ := q
      refine ⟨a, xs, ev, s.hh _ _ p, ?_, z, t.mono s.ff⟩
      cases e1 : F1 a with
      | none => rfl
      | some o =>
        rcases s.nw a o e1 with h | h
        · rw [q] at h; cases h
        · rw [p] at h; cases h
    | _ => exact cI.mono s.ff q
  ap := r.ap
theorem Rep.nK {F1 H1 : Hp} (r : Rep K F0 H0 FB O F H σ ρ) (s : Step (plus F H (qg O [] σ ρ)) H F1 H1) : Rep K F0 H0 FB O (minus F1 (qg O [] σ ρ)) H1 σ ρ := by
  refine r.step ⟨fun b o h => ?_, s.hh, fun b o h => ?_, fun b o h => ?_⟩
  · by_cases hb : qg O [] σ ρ b
    · rw [(r.own hb).1] at h; cases h
    · rw [jX hb]; exact s.ff b o (by rw [dY hb]; exact h)
  · by_cases hb : qg O [] σ ρ b
    · rw [vF hb] at h; cases h
    · rw [jX hb] at h; exact s.fh b o h
  · by_cases hb : qg O [] σ ρ b
    · rw [vF hb] at h; cases h
    · rw [jX hb] at h
      rcases s.nw b o h with z | z
      · rw [dY hb] at z; exact .inl z
      · exact .inr z
theorem Rep.xV {F1 H1 : Hp} (r : Rep K F0 H0 FB O F H σ ρ) (s : Step (plus F H (qg O [] σ ρ)) H F1 H1) (a : Addr) (xs : List V) (h : SqT K F1 a xs) : SqT K (minus F1 (qg O [] σ ρ)) a xs := by
  have key : ∀ {b : Addr} {o : HO}, F1 b = some o -> (∀ xs, o ≠ .lst xs) -> minus F1 (qg O [] σ ρ) b = some o := fun {b o} h n => by
    by_cases hb : qg O [] σ ρ b
    · obtain ⟨_, _, xs, e⟩ := r.own hb
      have := s.ff b (.lst xs) (by rw [jt hb]; exact e)
      rw [h] at this
      cases this
      exact absurd rfl (n xs)
    · rw [jX hb]; exact h
  rcases h with (h | ⟨o, h⟩) | h
  · exact .inl (.inl (key h (by intro xs e; cases e)))
  · exact .inl (.inr ⟨o, key h (by intro xs e; cases e)⟩)
  · exact .inr h
theorem Rep.set {d : Dat} {v : V} (r : Rep K F0 H0 FB O F H σ ρ) (q : cI K F d v) (i : Nat) : Rep K F0 H0 FB (O.filter (· != i)) F H (σ.set i (some v)) (ρ.set i (some d)) where
  st := r.st
  fb := r.fb
  len := by rw [List.length_set, List.length_set, r.len]
  fz := fun j e h hj => by
    by_cases hij : i = j
    · subst hij
      have hi : i < ρ.length := by
        have := (List.getElem?_eq_some_iff.mp h).1
        simpa using this
      rw [List.getElem?_set_self hi] at h
      cases h
      exact ⟨v, by rw [List.getElem?_set_self (by rw [<- r.len]; exact hi)], q⟩
    · rw [List.getElem?_set_ne hij] at h
      rw [List.getElem?_set_ne hij]
      exact r.fz j e h fun z => hj (List.mem_filter.mpr ⟨z, by simpa using Ne.symm hij⟩)
  ow := fun j e h hj => by
    obtain ⟨h1, h2⟩ := List.mem_filter.mp hj
    have hij : i ≠ j := fun z => by simp [z] at h2
    rw [List.getElem?_set_ne hij] at h ⊢
    exact r.ow j e h h1
  ap := fun j k ds es a hj hk e1 e2 e3 e4 => by
    obtain ⟨j1, j2⟩ := List.mem_filter.mp hj
    obtain ⟨k1, k2⟩ := List.mem_filter.mp hk
    have hij : i ≠ j := fun z => by simp [z] at j2
    have hik : i ≠ k := fun z => by simp [z] at k2
    rw [List.getElem?_set_ne hij] at e1 e3
    rw [List.getElem?_set_ne hik] at e2 e4
    exact r.ap j k ds es a j1 k1 e1 e2 e3 e4
theorem Rep.setOwn {d : Dat} {v : V} (r : Rep K F0 H0 FB O F H σ ρ) (q : D6 K F H0 H d v) (nw : ∀ a, v = .ref a -> (∃ ds, d = .lst ds) -> ¬ qg O [i] σ ρ a) : Rep K F0 H0 FB (i :: O.filter (· != i)) F H (σ.set i (some v)) (ρ.set i (some d)) where
  st := r.st
  fb := r.fb
  len := by rw [List.length_set, List.length_set, r.len]
  fz := fun j e h hj => by
    simp only [List.mem_cons, not_or] at hj
    have hij : i ≠ j := fun z => hj.1 z.symm
    rw [List.getElem?_set_ne hij] at h ⊢
    exact r.fz j e h fun z => hj.2 (List.mem_filter.mpr ⟨z, by simpa using Ne.symm hij⟩)
  ow := fun j e h hj => by
    by_cases hij : i = j
    · subst hij
      have hi : i < ρ.length := by
        have := (List.getElem?_eq_some_iff.mp h).1
        simpa using this
      rw [List.getElem?_set_self hi] at h
      cases h
      exact ⟨v, by rw [List.getElem?_set_self (by rw [<- r.len]; exact hi)], q⟩
    · rw [List.getElem?_set_ne hij] at h ⊢
      rcases List.mem_cons.mp hj with z | z
      · exact absurd z.symm hij
      · exact r.ow j e h (List.mem_filter.mp z).1
  ap := fun j k ds es a hj hk e1 e2 e3 e4 => by
    have key : ∀ {k' : Nat} {ds' es' : List Dat}, k' ∈ O -> k' ≠ i -> (ρ.set i (some d))[i]? = some (some (.lst ds')) -> (ρ.set i (some d))[k']? = some (some (.lst es')) -> (σ.set i (some v))[i]? = some (some (.ref a)) -> (σ.set i (some v))[k']? = some (some (.ref a)) -> False := by
      intro k' ds' es' hk' hne f1 f2 f3 f4
      have hi : i < ρ.length := by
        have := (List.getElem?_eq_some_iff.mp f1).1
        simpa using this
      rw [List.getElem?_set_self hi] at f1
      rw [List.getElem?_set_self (by rw [<- r.len]; exact hi)] at f3
      rw [List.getElem?_set_ne (Ne.symm hne)] at f2 f4
      have z1 : v = .ref a := by simpa using f3
      have z2 : d = .lst ds' := by simpa using f1
      exact nw a z1 ⟨ds', z2⟩ ⟨k', es', hk', by simpa using hne, f2, f4⟩
    rcases List.mem_cons.mp hj with zj | zj
    · rcases List.mem_cons.mp hk with zk | zk
      · rw [zj, zk]
      · obtain ⟨k1, k2⟩ := List.mem_filter.mp zk
        subst zj
        exact (key k1 (by simpa using k2) e1 e2 e3 e4).elim
    · obtain ⟨j1, j2⟩ := List.mem_filter.mp zj
      have hij : i ≠ j := fun z => by simp [z] at j2
      rcases List.mem_cons.mp hk with zk | zk
      · subst zk
        exact (key j1 (Ne.symm hij) e2 e1 e4 e3).elim
      · obtain ⟨k1, k2⟩ := List.mem_filter.mp zk
        have hik : i ≠ k := fun z => by simp [z] at k2
        rw [List.getElem?_set_ne hij] at e1 e3
        rw [List.getElem?_set_ne hik] at e2 e4
        exact r.ap j k ds es a j1 k1 e1 e2 e3 e4
end
section
variable {K : PySem.W.Frag} {F0 H0 FB F H : Hp} {O O2 : List Nat} {σ : St} {ρ : ag}
theorem Rep.mV {F1 H1 : Hp} (r : Rep K F0 H0 FB O F H σ ρ) (s : Step (plus F H (qg O [] σ ρ)) H F1 H1) : bg F (minus F1 (qg O [] σ ρ)) := fun b o h => by
  by_cases hb : qg O [] σ ρ b
  · rw [(r.own hb).1] at h; cases h
  · rw [jX hb]; exact s.ff b o (by rw [dY hb]; exact h)
theorem Bf {i : Nat} {O : List Nat} (h : i ∉ O) : O.filter (· != i) = O := by
  rw [List.filter_eq_self]
  intro a ha
  simp
  intro e
  exact h (e ▸ ha)
theorem Rep.set' {d : Dat} {v : V} (r : Rep K F0 H0 FB O F H σ ρ) (q : cI K F d v) {i : Nat} (hi : i ∉ O) : Rep K F0 H0 FB O F H (σ.set i (some v)) (ρ.set i (some d)) := by
  have := r.set q i
  rw [Bf hi] at this
  exact this
theorem Rep.base {FB' : Hp} (r : Rep K F0 H0 FB O F H σ ρ) (s : bg FB' FB) : Rep K F0 H0 FB' O F H σ ρ := ⟨r.st, s.trans r.fb, r.len, r.fz, r.ow, r.ap⟩
theorem Rep.write {i : Nat} {a : Addr} {ds ds' : List Dat} {xs' : List V} (r : Rep K F0 H0 FB O F H σ ρ) (hi : i ∈ O) (e1 : ρ[i]? = some (some (.lst ds))) (e2 : σ[i]? = some (some (.ref a))) (q : au K F ds' xs') : Rep K F0 H0 FB O F (upd H a (.lst xs')) σ (ρ.set i (some (.lst ds'))) := by
  have ho : F a = none /\ H0 a = none /\ ∃ xs, H a = some (.lst xs) := r.own (O2 := []) ⟨i, ds, hi, by simp, e1, e2⟩
  have hil : i < ρ.length := (List.getElem?_eq_some_iff.mp e1).1
  refine ⟨⟨r.st.ff, fun b o h => ?_, fun b o h => ?_, r.st.nw⟩, r.fb, by rw [List.length_set, r.len], fun j e h hj => ?_, fun j e h hj => ?_, fun j k es fs b hj hk f1 f2 f3 f4 => ?_⟩
  · rw [av (aN h ho.2.1)]; exact r.st.hh b o h
  · rw [av (aN h ho.1)]; exact r.st.fh b o h
  · have hij : i ≠ j := fun z => hj (z ▸ hi)
    rw [List.getElem?_set_ne hij] at h
    exact r.fz j e h hj
  · by_cases hij : i = j
    · subst hij
      rw [List.getElem?_set_self hil] at h
      cases h
      exact ⟨.ref a, e2, a, xs', rfl, aE, ho.1, ho.2.1, q⟩
    · rw [List.getElem?_set_ne hij] at h
      obtain ⟨v, e3, z⟩ := r.ow j e h hj
      refine ⟨v, e3, ?_⟩
      cases e with
      | lst es =>
        obtain ⟨b, ys, ev, p, q1, q2, t⟩ := z
        subst ev
        have hab : b ≠ a := fun z => by
          subst z
          exact hij (r.ap i j ds es b hi hj e1 h e2 e3)
        exact ⟨b, ys, rfl, by rw [av hab]; exact p, q1, q2, t⟩
      | _ => exact z
  · have fix : ∀ {j : Nat} {es : List Dat}, (ρ.set i (some (.lst ds')))[j]? = some (some (.lst es)) -> ∃ es', ρ[j]? = some (some (.lst es')) := fun {j es} f => by
      by_cases hij : i = j
      · subst hij; exact ⟨ds, e1⟩
      · rw [List.getElem?_set_ne hij] at f; exact ⟨es, f⟩
    obtain ⟨es', g1⟩ := fix f1
    obtain ⟨fs', g2⟩ := fix f2
    exact r.ap j k es' fs' b hj hk g1 g2 f3 f4
noncomputable def Pat.names : Pat -> List Nat
  | .nm i => [i]
  | .tp is => is
theorem uy {R : St -> Hp -> Prop} : ∀ {is : List Nat} {ds : List Dat} {vs : List V} {σ : St} {ρ : ag}, Rep K F0 H0 FB O F H σ ρ -> (∀ i ∈ is, i ∉ O) -> au K F ds vs -> ds.length = is.length -> (∀ σ', Rep K F0 H0 FB O F H σ' (lF is ds ρ) -> R σ' H) -> i8 is vs σ H R
  | [], [], _, σ, ρ, r, _, q, _, h => ⟨q, h σ r⟩
  | [], _ :: _, _, _, _, _, _, _, e, _ => by simp at e
  | _ :: _, [], _, _, _, _, _, _, e, _ => by simp at e
  | i :: is, d :: ds, _, σ, ρ, r, n, ⟨v, vs, e, q, t⟩, l, h => ⟨v, vs, e, uy (r.set' q (n i (by simp))) (fun j hj => n j (by simp [hj])) t (by simpa using l) h⟩
theorem Cy {R : St -> Hp -> Prop} {p : Pat} {d : Dat} {v : V} {ρ' : ag} (r : Rep K F0 H0 FB O F H σ ρ) (n : ∀ i ∈ p.names, i ∉ O) (q : cI K F d v) (e : fD p d ρ = .ok ρ') (h : ∀ σ', Rep K F0 H0 FB O F H σ' ρ' -> R σ' H) : gP K p v σ H R := by
  cases p with
  | nm i =>
    have := Except.ok.inj e
    subst this
    exact h _ (r.set' q (n i (by simp [Pat.names])))
  | tp is =>
    cases d with
    | tup ds =>
      have e' : (if ds.length = is.length then Except.ok (lF is ds ρ) else Except.error Err.stuck) = Except.ok ρ' := e
      by_cases hl : ds.length = is.length
      · rw [if_pos hl] at e'
        have := Except.ok.inj e'
        subst this
        obtain ⟨a, xs, ev, t, z⟩ := q
        exact ⟨a, xs, ev, r.st.fh.tup t, by rw [z.length, hl], uy r n z hl h⟩
      · rw [if_neg hl] at e'
        cases e'
    | _ => cases e
end
noncomputable def fE (K : PySem.W.Frag) (W : gH) (ro : Bool) (F0 H0 FB : Hp) (OL O' : List Nat) (D : Ends) (r : M Flo) : Prop := match r with
  | .ok (.nx ρ) => ∀ σ F H, Rep K F0 H0 FB O' F H σ ρ -> D.nx σ H
  | .ok (.rt d) => ∀ v F H, Step F0 H0 F H -> Val K ro F H0 H d v -> D.rt v H
  | .ok (.bk ρ) => ∀ σ F H, Rep K F0 H0 FB OL F H σ ρ -> D.bk σ H
  | .ok (.ct ρ) => ∀ σ F H, Rep K F0 H0 FB OL F H σ ρ -> D.ct σ H
  | .error e => W.p e F0 H0
noncomputable def tS (K : PySem.W.Frag) (W : gH) (ro : Bool) (F0 H0 : Hp) (OL O O' : List Nat) (g : ag -> M Flo) : TS := fun D σ H => ∃ FB F ρ, Rep K F0 H0 FB O F H σ ρ /\ fE K W ro F0 H0 FB OL O' D (g ρ)
noncomputable def j9 : ag -> M Flo := fun ρ => .ok (.nx ρ)
noncomputable def cB (g h : ag -> M Flo) : ag -> M Flo := fun ρ => (g ρ).bind fun fl => match fl with
  | .nx ρ' => h ρ'
  | fl => .ok fl
noncomputable def sIf (ft : ag -> M Bool) (g h : ag -> M Flo) : ag -> M Flo := fun ρ => (ft ρ).bind fun b => if b = true then g ρ else h ρ
noncomputable def qD : Bool -> Dat -> Bool
  | true, .lst ds => qQ ds
  | _, d => pI d
noncomputable def z3 (own : Bool) (i : Nat) (f : ag -> M Dat) : ag -> M Flo := fun ρ => (f ρ).bind fun d => if qD own d = true then .ok (.nx (ρ.set i (some d))) else .error .stuck
noncomputable def bF (O : List Nat) (i : Nat) (f : ag -> M Dat) : ag -> M Flo := fun ρ => (f (erase O ρ)).bind fun d => .ok (.nx (ρ.set i (some d)))
noncomputable def yY (O : List Nat) (p : Pat) (f : ag -> M Dat) : ag -> M Flo := fun ρ => (f (erase O ρ)).bind fun d => (fD p d ρ).bind fun ρ' => .ok (.nx ρ')
noncomputable def jb (ρ : ag) (i : Nat) : M (List Dat) := match ρ[i]? with
  | some (some (.lst ds)) => .ok ds
  | _ => .error .stuck
noncomputable def put (ρ : ag) (i : Nat) (ds : List Dat) : M Flo := .ok (.nx (ρ.set i (some (.lst ds))))
noncomputable def lA (O : List Nat) (i : Nat) (f : ag -> M Dat) : ag -> M Flo := fun ρ => (jb ρ i).bind fun ds => (f (erase O ρ)).bind fun d => if ds.length < sizeLine then put ρ i (ds ++ [d]) else .error .stuck
noncomputable def asI : Dat -> M Int
  | .int i => .ok i
  | _ => .error .stuck
noncomputable def yZ (i : Nat) (fi f : ag -> M Dat) : ag -> M Flo := fun ρ => (f ρ).bind fun d => (jb ρ i).bind fun ds => (fi ρ).bind fun k => (asI k).bind fun k => if pI d = true then (match ixN ds.length k with
  | some j => put ρ i (ds.set j d)
  | none => .error .stuck) else .error .stuck
noncomputable def i7 (f : ag -> M Dat) : ag -> M Flo := fun ρ => (f ρ).bind fun d => .ok (.rt d)
noncomputable def mi (p : Pat) (g : ag -> M Flo) : List Dat -> ag -> M Flo
  | [], ρ => .ok (.nx ρ)
  | d :: ds, ρ => (fD p d ρ).bind fun ρ1 => (g ρ1).bind fun fl => match fl with
    | .nx ρ2 => mi p g ds ρ2
    | .ct ρ2 => mi p g ds ρ2
    | .bk ρ2 => .ok (.nx ρ2)
    | .rt d => .ok (.rt d)
noncomputable def xk (O : List Nat) (fi : ag -> M (List Dat)) (p : Pat) (g : ag -> M Flo) : ag -> M Flo := fun ρ => (fi (erase O ρ)).bind fun ds => mi p g ds ρ
noncomputable def i6 (ft : ag -> M Bool) (g : ag -> M Flo) : Nat -> ag -> M Flo
  | 0, _ => .error .stuck
  | n + 1, ρ => (ft ρ).bind fun b => if b = true then (g ρ).bind fun fl => match fl with
    | .nx ρ2 => i6 ft g n ρ2
    | .ct ρ2 => i6 ft g n ρ2
    | .bk ρ2 => .ok (.nx ρ2)
    | .rt d => .ok (.rt d) else .ok (.nx ρ)
section
variable {K : PySem.W.Frag} {W : gH} {ro own : Bool} {F0 H0 FB F H : Hp} {OL O O' O2 : List Nat} {D : Ends} {σ : St} {ρ : ag} {g h : ag -> M Flo} {f fi : ag -> M Dat} {ft : ag -> M Bool}
theorem fE.err {x : M Flo} {e : Err} (p : fE K W ro F0 H0 FB OL O' D x) (h : x = .error e) : W.p e F0 H0 := by rw [h] at p; exact p
theorem fE.ml {x : M Flo} {e : Err} (p : fE K W ro F0 H0 FB OL O' D x) (s : Step F0 H0 F H) (h : x = .error e) : W.p e F H := W.mono (p.err h) s
theorem fE.stuck {x : M Flo} {P : Prop} (p : fE K W ro F0 H0 FB OL O' D x) (h : x = .error .stuck) : P := (W.ns (p.err h)).elim
theorem tS.enter (hs : ∀ i ∈ O2, i ∈ O) (t : tS K W ro F0 H0 OL O O' g D σ H) : tS K W ro F0 H0 OL O2 O' g D σ H := by
  obtain ⟨FB, F, ρ, r, p⟩ := t
  exact ⟨FB, _, ρ, r.freeze hs, p⟩
theorem rs_next (t : tS K W ro F0 H0 OL O O j9 D σ H) : tNext D σ H := by
  obtain ⟨FB, F, ρ, r, p⟩ := t
  exact p σ F H r
theorem rs_seq (t : tS K W ro F0 H0 OL O O2 (cB g h) D σ H) : tSeq (tS K W ro F0 H0 OL O O' g) (tS K W ro F0 H0 OL O' O2 h) D σ H := by
  obtain ⟨FB, F, ρ, r, p⟩ := t
  refine ⟨FB, F, ρ, r, ?_⟩
  unfold cB at p
  cases e : g ρ with
  | error x => exact p.err (by rw [e]; rfl)
  | ok fl =>
    rw [e] at p
    cases fl with
    | nx ρ' => exact fun σ' F' H' r' => ⟨FB, F', ρ', r', p⟩
    | rt d => exact p
    | bk ρ' => exact p
    | ct ρ' => exact p
theorem rs_if (t : tS K W ro F0 H0 OL O O' (sIf ft g h) D σ H) : tIfS (tDT K W ft) (tS K W ro F0 H0 OL O O' g) (tS K W ro F0 H0 OL O O' h) D σ H := by
  obtain ⟨FB, F, ρ, r, p⟩ := t
  refine lC r.rO r.lN (fun e he => p.ml (r.freeze (O2 := []) (by simp)).st (by unfold sIf; rw [he]; rfl)) fun b hb F1 H1 s1 => ?_
  have z : sIf ft g h ρ = if b = true then g ρ else h ρ := by unfold sIf; rw [hb]; rfl
  rw [z] at p
  cases b with
  | true => exact ⟨FB, _, ρ, r.nK s1, p⟩
  | false => exact ⟨FB, _, ρ, r.nK s1, p⟩
noncomputable def aft (own : Bool) (i : Nat) (O : List Nat) : List Nat := if own = true then i :: O.filter (· != i) else O.filter (· != i)
theorem Rep.bindV {i : Nat} {d : Dat} {v : V} {H2 : Hp} (r : Rep K F0 H0 FB O F H σ ρ) (q : Val K own F H2 H d v) (h2 : bg H0 H2) (nw : ∀ a, qg O [] σ ρ a -> ∃ o, H2 a = some o) : Rep K F0 H0 FB (aft own i O) F H (σ.set i (some v)) (ρ.set i (some d)) := by
  cases own with
  | false => exact r.set q i
  | true =>
    refine r.setOwn (D6.back h2 q) fun a ha ⟨ds, hd⟩ z => ?_
    subst ha hd
    obtain ⟨b, xs, e, _, _, n, _⟩ := q
    cases e
    obtain ⟨j, es, h1, h2, h3, h4⟩ := z
    obtain ⟨o, ho⟩ := nw a ⟨j, es, h1, by simp, h3, h4⟩
    rw [n] at ho
    cases ho
theorem BH {i : Nat} (t : tS K W ro F0 H0 OL O (aft own i O) (bF O i f) D σ H) : tAsg (tD K W own f) (ye i) D σ H := by
  obtain ⟨FB, F, ρ, r, p⟩ := t
  refine bx r.pq r.st.fh (fun e he => p.ml r.st (by unfold bF; rw [he]; rfl)) fun d hd v F1 H1 s1 q => ?_
  have z : bF O i f ρ = .ok (.nx (ρ.set i (some d))) := by unfold bF; rw [hd]; rfl
  rw [z] at p
  exact p _ F1 H1 ((r.step s1).bindV q r.st.hh fun a ha => let ⟨_, _, xs, e⟩ := r.own ha; ⟨_, e⟩)
theorem Rep.flatV {F1 H1 : Hp} {d : Dat} {v : V} (r : Rep K F0 H0 FB O F H σ ρ) (s : Step (plus F H (qg O [] σ ρ)) H F1 H1) (q : Val K own F1 H H1 d v) (fl : qD own d = true) : Val K own (minus F1 (qg O [] σ ρ)) H H1 d v := by
  have none_of : ∀ {a : Addr}, F1 a = none -> minus F1 (qg O [] σ ρ) a = none := fun {a} h => by
    by_cases hb : qg O [] σ ρ a
    · exact vF hb
    · rw [jX hb]; exact h
  cases own with
  | false => exact cI.flat (r.xV s) (by cases d <;> exact fl) q
  | true =>
    cases d with
    | lst ds =>
      obtain ⟨a, xs, e, p, n, z, t⟩ := q
      exact ⟨a, xs, e, p, none_of n, z, t.flat (r.xV s) fl⟩
    | non => exact q
    | bl b => exact q
    | int i => exact q
    | str x => exact q
    | tup ds => exact cI.flat (d := .tup ds) (r.xV s) fl q
    | ins C fs => exact cI.flat (d := .ins C fs) (r.xV s) fl q
theorem rs_setA {i : Nat} (t : tS K W ro F0 H0 OL O (aft own i O) (z3 own i f) D σ H) : tAsg (tD K W own f) (ye i) D σ H := by
  obtain ⟨FB, F, ρ, r, p⟩ := t
  refine bx r.rO r.lN (fun e he => p.ml (r.freeze (O2 := []) (by simp)).st (by unfold z3; rw [he]; rfl)) fun d hd v F1 H1 s1 q => ?_
  have z : z3 own i f ρ = if qD own d = true then .ok (.nx (ρ.set i (some d))) else .error .stuck := by unfold z3; rw [hd]; rfl
  rw [z] at p
  by_cases hf : qD own d = true
  · rw [if_pos hf] at p
    exact p _ _ H1 ((r.nK s1).bindV (r.flatV s1 q hf) r.st.hh fun a ha => let ⟨_, _, xs, e⟩ := r.own ha; ⟨_, e⟩)
  · rw [if_neg hf] at p
    exact p.stuck rfl
theorem rs_unpB {pt : Pat} (n : ∀ i ∈ pt.names, i ∉ O) (t : tS K W ro F0 H0 OL O O (yY O pt f) D σ H) : tAsg (tD K W false f) (gP K pt) D σ H := by
  obtain ⟨FB, F, ρ, r, p⟩ := t
  refine bx r.pq r.st.fh (fun e he => p.ml r.st (by unfold yY; rw [he]; rfl)) fun d hd v F1 H1 s1 q => ?_
  have z : yY O pt f ρ = (fD pt d ρ).bind fun ρ' => .ok (.nx ρ') := by unfold yY; rw [hd]; rfl
  rw [z] at p
  cases e : fD pt d ρ with
  | error x =>
    have := mH e
    subst this
    exact p.stuck (by rw [e]; rfl)
  | ok ρ' =>
    rw [e] at p
    exact Cy (r.step s1) n q e fun σ' r' => p σ' F1 H1 r'
theorem jg {i : Nat} {ds : List Dat} (h : jb ρ i = .ok ds) : ρ[i]? = some (some (.lst ds)) := by
  unfold jb at h
  split at h
  · cases h; assumption
  · cases h
theorem pA {i : Nat} {e : Err} (h : jb ρ i = .error e) : e = .stuck := by
  unfold jb at h
  split at h
  · cases h
  · cases h; rfl
theorem Rep.xW {i : Nat} {ds : List Dat} (r : Rep K F0 H0 FB O F H σ ρ) (hi : i ∈ O) (e : ρ[i]? = some (some (.lst ds))) : ∃ a xs, σ[i]? = some (some (.ref a)) /\ H a = some (.lst xs) /\ au K F ds xs := by
  obtain ⟨v, e3, a, xs, ev, p, _, _, t⟩ := r.ow i _ e hi
  subst ev
  exact ⟨a, xs, e3, p, t⟩
noncomputable def tApp (K : PySem.W.Frag) (i : Nat) (te : TE) : TS := tDrop (tBM K "list" ze (By i) (tf te tNil))
theorem rs_appB {i : Nat} (hi : i ∈ O) (t : tS K W ro F0 H0 OL O O (lA O i f) D σ H) : tApp K i (tD K W false f) D σ H := by
  obtain ⟨FB, F, ρ, r, p⟩ := t
  cases hl : jb ρ i with
  | error e =>
    have := pA hl
    subst this
    exact p.stuck (by unfold lA; rw [hl]; rfl)
  | ok ds =>
    obtain ⟨a, xs, e2, ha, z⟩ := r.xW hi (jg hl)
    refine ⟨.ref a, e2, uQ ha, ?_⟩
    refine bx r.pq r.st.fh (fun e he => p.ml r.st (by unfold lA; rw [hl]; show (f (erase O ρ)).bind _ = _; rw [he]; rfl)) fun d hd v F1 H1 s1 q => ?_
    have ez : lA O i f ρ = if ds.length < sizeLine then put ρ i (ds ++ [d]) else .error .stuck := by unfold lA; rw [hl]; show (f (erase O ρ)).bind _ = _; rw [hd]; rfl
    rw [ez] at p
    by_cases hs : ds.length < sizeLine
    · rw [if_pos hs] at p
      exact ⟨a, xs, v, rfl, rfl, s1.hh _ _ ha, by rw [z.length]; exact hs, p σ F1 _ ((r.step s1).write hi (jg hl) e2 (au.append (z.mono s1.ff) ⟨v, [], rfl, q, rfl⟩))⟩
    · rw [if_neg hs] at p
      exact p.stuck rfl
theorem rs_setI {i : Nat} (hi : i ∈ O) (t : tS K W ro F0 H0 OL O O (yZ i fi f) D σ H) : tAsg (tD K W false f) (gSub (By i) (tD K W false fi) AY) D σ H := by
  obtain ⟨FB, F, ρ, r, p⟩ := t
  refine bx r.rO r.lN (fun e he => p.ml (r.freeze (O2 := []) (by simp)).st (by unfold yZ; rw [he]; rfl)) fun d hd v F1 H1 s1 q => ?_
  have ez : yZ i fi f ρ = (jb ρ i).bind fun ds => (fi ρ).bind fun k => (asI k).bind fun k => if pI d = true then (match ixN ds.length k with
    | some j => put ρ i (ds.set j d)
    | none => .error .stuck) else .error .stuck := by unfold yZ; rw [hd]; rfl
  rw [ez] at p
  cases hl : jb ρ i with
  | error e =>
    have := pA hl
    subst this
    exact p.stuck (by rw [hl]; rfl)
  | ok ds =>
    rw [hl] at p
    have p : fE K W ro F0 H0 FB OL O D ((fi ρ).bind fun k => (asI k).bind fun k => if pI d = true then (match ixN ds.length k with
      | some j => put ρ i (ds.set j d)
      | none => .error .stuck) else .error .stuck) := p
    have r1 := r.nK s1
    obtain ⟨a, xs, e2, ha, z⟩ := r1.xW hi (jg hl)
    refine ⟨.ref a, e2, ?_⟩
    refine bx r1.rO r1.lN (fun e he => p.ml (r1.freeze (O2 := []) (by simp)).st (by rw [he]; rfl)) fun k hk w F2 H2 s2 q2 => ?_
    rw [hk] at p
    cases k with
    | int k =>
      have p : fE K W ro F0 H0 FB OL O D (if pI d = true then (match ixN ds.length k with
        | some j => put ρ i (ds.set j d)
        | none => .error .stuck) else .error .stuck) := p
      by_cases hf : pI d = true
      · rw [if_pos hf] at p
        cases hj : ixN ds.length k with
        | none => rw [hj] at p; exact p.stuck rfl
        | some j =>
          rw [hj] at p
          refine ⟨a, xs, k, j, rfl, q2, s2.hh _ _ ha, by rw [z.length]; exact hj, ?_⟩
          have qd : cI K (minus F1 (qg O [] σ ρ)) d v := cI.flat (r.xV s1) hf q
          exact p σ _ _ ((r1.nK s2).write hi (jg hl) e2 (au.set (qd.mono (r1.mV s2)) j (z.mono (r1.mV s2))))
      · rw [if_neg hf] at p
        exact p.stuck rfl
    | _ => exact p.stuck rfl
theorem rs_ret (t : tS K W ro F0 H0 OL O O' (i7 f) D σ H) : tRet (tD K W ro f) D σ H := by
  obtain ⟨FB, F, ρ, r, p⟩ := t
  have rf := r.freeze (O2 := []) (by simp)
  refine bx r.rO r.lN (fun e he => p.ml rf.st (by unfold i7; rw [he]; rfl)) fun d hd v F1 H1 s1 q => ?_
  have z : i7 f ρ = .ok (.rt d) := by unfold i7; rw [hd]; rfl
  rw [z] at p
  exact p v F1 H1 (rf.st.trans s1) (q.back r.st.hh)
theorem rs_for {fs : ag -> M (List Dat)} {pt : Pat} (n : ∀ i ∈ pt.names, i ∉ O) (t : tS K W ro F0 H0 OL O O (xk O fs pt g) D σ H) : tFor (iD K W fs) (gP K pt) (tS K W ro F0 H0 O O O g) D σ H := by
  obtain ⟨FB, F, ρ, r, p⟩ := t
  refine ⟨F, erase O ρ, r.pq, r.st.fh, ?_⟩
  cases e : fs (erase O ρ) with
  | error x => exact p.ml r.st (by unfold xk; rw [e]; rfl)
  | ok ds =>
    have z : xk O fs pt g ρ = mi pt g ds ρ := by unfold xk; rw [e]; rfl
    rw [z] at p
    intro J F1 H1 s1 it
    refine ⟨fun i m σ H => ∃ F ρ, Rep K F0 H0 F1 O F H σ ρ /\ i <= ds.length /\ m = ds.length - i /\ fE K W ro F0 H0 FB OL O D (mi pt g (ds.drop i) ρ), ⟨ds.length, F1, ρ, ?_, Nat.zero_le _, by omega, by rw [List.drop_zero]; exact p⟩, ?_⟩
    · have r1 := r.step s1
      exact ⟨r1.st, bg.refl _, r1.len, r1.fz, r1.ow, r1.ap⟩
    · rintro i m σ2 H2 ⟨F2, ρ2, r2, hi, rfl, p2⟩
      by_cases hlt : i < ds.length
      · have ed : ds.drop i = ds[i] :: ds.drop (i + 1) := List.drop_eq_getElem_cons hlt
        rw [ed] at p2
        refine .inr ⟨it.go i F2 H2 r2.fb r2.st.fh hlt, fun σ' H' => (∃ F ρ, Rep K F0 H0 F1 O F H' σ' ρ /\ fE K W ro F0 H0 FB OL O D (mi pt g (ds.drop (i + 1)) ρ)), fun σ' H' ⟨F, ρ, r, p⟩ => ⟨ds.length - (i + 1), by omega, F, ρ, r, hlt, rfl, p⟩, fun x H' y => ?_⟩
        obtain ⟨F3, s3, q3⟩ := it.yl i F2 H2 x H' ds[i] r2.fb r2.st.fh (by simp [hlt]) y
        have ef : mi pt g (ds[i] :: ds.drop (i + 1)) ρ2 = (fD pt ds[i] ρ2).bind fun ρ1 => (g ρ1).bind fun fl => match fl with
          | .nx ρ2 => mi pt g (ds.drop (i + 1)) ρ2
          | .ct ρ2 => mi pt g (ds.drop (i + 1)) ρ2
          | .bk ρ2 => .ok (.nx ρ2)
          | .rt d => .ok (.rt d) := by rw [mi]
        rw [ef] at p2
        cases eb : fD pt ds[i] ρ2 with
        | error x =>
          have := mH eb
          subst this
          exact p2.stuck (by rw [eb]; rfl)
        | ok ρ3 =>
          rw [eb] at p2
          have p2 : fE K W ro F0 H0 FB OL O D ((g ρ3).bind fun fl => match fl with
            | .nx ρ2 => mi pt g (ds.drop (i + 1)) ρ2
            | .ct ρ2 => mi pt g (ds.drop (i + 1)) ρ2
            | .bk ρ2 => .ok (.nx ρ2)
            | .rt d => .ok (.rt d)) := p2
          refine Cy (r2.step s3) n q3 eb fun σ4 r4 => ⟨F1, F3, ρ3, r4, ?_⟩
          have fb1 : bg FB F1 := (r.step s1).fb
          cases eg : g ρ3 with
          | error x => exact p2.err (by rw [eg]; rfl)
          | ok fl =>
            rw [eg] at p2
            cases fl with
            | nx ρ5 => exact fun σ' F' H' r' => ⟨F', ρ5, r', p2⟩
            | ct ρ5 => exact fun σ' F' H' r' => ⟨F', ρ5, r', p2⟩
            | bk ρ5 => exact fun σ' F' H' r' => p2 σ' F' H' (r'.base fb1)
            | rt d => exact p2
      · have : i = ds.length := by omega
        subst this
        rw [List.drop_length] at p2
        exact .inl ⟨it.st F2 H2 r2.fb r2.st.fh, p2 σ2 F2 H2 (r2.base (r.step s1).fb)⟩
theorem rs_while {m : Nat} (t : tS K W ro F0 H0 OL O O (i6 ft g m) D σ H) : tWhile (tDT K W ft) (tS K W ro F0 H0 O O O g) D σ H := by
  refine ⟨fun m σ H => tS K W ro F0 H0 OL O O (i6 ft g m) D σ H, ⟨m, t⟩, ?_⟩
  rintro m σ H ⟨FB, F, ρ, r, p⟩
  cases m with
  | zero => exact p.stuck rfl
  | succ m =>
    have ez : i6 ft g (m + 1) ρ = (ft ρ).bind fun b => if b = true then (g ρ).bind fun fl => match fl with
      | .nx ρ2 => i6 ft g m ρ2
      | .ct ρ2 => i6 ft g m ρ2
      | .bk ρ2 => .ok (.nx ρ2)
      | .rt d => .ok (.rt d) else .ok (.nx ρ) := by rw [i6]
    rw [ez] at p
    refine lC r.rO r.lN (fun e he => p.ml (r.freeze (O2 := []) (by simp)).st (by rw [he]; rfl)) fun b hb F1 H1 s1 => ?_
    rw [hb] at p
    have r1 := r.nK s1
    cases b with
    | false => exact p σ _ H1 r1
    | true =>
      have p : fE K W ro F0 H0 FB OL O D ((g ρ).bind fun fl => match fl with
        | .nx ρ2 => i6 ft g m ρ2
        | .ct ρ2 => i6 ft g m ρ2
        | .bk ρ2 => .ok (.nx ρ2)
        | .rt d => .ok (.rt d)) := p
      refine ⟨fun σ' H' => tS K W ro F0 H0 OL O O (i6 ft g m) D σ' H', fun σ' H' n => ⟨m, Nat.lt_succ_self _, n⟩, FB, _, ρ, r1, ?_⟩
      cases eg : g ρ with
      | error x => exact p.err (by rw [eg]; rfl)
      | ok fl =>
        rw [eg] at p
        cases fl with
        | nx ρ5 => exact fun σ' F' H' r' => ⟨FB, F', ρ5, r', p⟩
        | ct ρ5 => exact fun σ' F' H' r' => ⟨FB, F', ρ5, r', p⟩
        | bk ρ5 => exact fun σ' F' H' r' => p σ' F' H' r'
        | rt d => exact p
end
noncomputable def stk {α : Type} : M α := .error .stuck
noncomputable def nv : Dat -> Dat -> M Dat
  | .int i, .int j => .ok (.int (i + j))
  | .str x, .str y => if x.length + y.length <= sizeLine then .ok (.str (x ++ y)) else stk
  | .lst xs, .lst ys => if xs.length + ys.length <= sizeLine then .ok (.lst (xs ++ ys)) else stk
  | .tup xs, .tup ys => if xs.length + ys.length <= sizeLine then .ok (.tup (xs ++ ys)) else stk
  | _, _ => stk
noncomputable def subD : Dat -> Dat -> M Dat
  | .int i, .int j => .ok (.int (i - j))
  | _, _ => stk
noncomputable def fG (i : Int) : Bool := decide (-(2 ^ 64) < i) && decide (i < 2 ^ 64)
noncomputable def wR : Dat -> Dat -> M Dat
  | .int i, .int j => if (fG i || fG j) = true then .ok (.int (i * j)) else stk
  | _, _ => stk
noncomputable def ik : Dat -> Dat -> M Dat
  | .int i, .int j => if (decide (0 < j) && decide (j < 18446744073709551616)) = true then .ok (.int (i / j)) else stk
  | _, _ => stk
noncomputable def mZ : Dat -> Dat -> M Dat
  | .int i, .int j => if 0 < j then .ok (.int (i % j)) else stk
  | _, _ => stk
noncomputable def powD : Dat -> Dat -> M Dat
  | .int i, .int j => if (decide (0 <= j) && decide (j <= 1000000) && decide (i.natAbs < 2 ^ 64)) = true then .ok (.int (i ^ j.toNat)) else stk
  | _, _ => stk
noncomputable def Bt : Dat -> M Dat
  | .int i => .ok (.int (-i))
  | _ => stk
noncomputable def ltD : Dat -> Dat -> M Dat
  | .int i, .int j => .ok (.bl (decide (i < j)))
  | _, _ => stk
noncomputable def leD : Dat -> Dat -> M Dat
  | .int i, .int j => .ok (.bl (decide (i <= j)))
  | _, _ => stk
noncomputable def gtD : Dat -> Dat -> M Dat
  | .int i, .int j => .ok (.bl (decide (j < i)))
  | _, _ => stk
noncomputable def b2z (b : Bool) : Int := if b then 1 else 0
mutual
noncomputable def eqD : Dat -> Dat -> Bool
  | .non, .non => true
  | .bl a, .bl b => a == b
  | .bl a, .int b => b2z a == b
  | .int a, .bl b => a == b2z b
  | .int a, .int b => a == b
  | .str a, .str b => a == b
  | .tup xs, .tup ys => qR xs ys
  | .lst xs, .lst ys => qR xs ys
  | _, _ => false
noncomputable def qR : List Dat -> List Dat -> Bool
  | [], [] => true
  | d :: ds, e :: es => eqD d e && qR ds es
  | _, _ => false
end
mutual
noncomputable def okE : Dat -> Nat -> Bool
  | .tup ds, n => (match n with
    | 0 => false
    | n + 1 => jW ds n)
  | .lst ds, n => (match n with
    | 0 => false
    | n + 1 => jW ds n)
  | .ins _ _, _ => false
  | .non, _ => true
  | .bl _, _ => true
  | .int _, _ => true
  | .str _, _ => true
noncomputable def jW : List Dat -> Nat -> Bool
  | [], _ => true
  | d :: ds, n => okE d n && jW ds n
end
noncomputable def eqM (a b : Dat) : M Dat := if (okE a 40 && okE b 40) = true then .ok (.bl (eqD a b)) else stk
noncomputable def neM (a b : Dat) : M Dat := if (okE a 40 && okE b 40) = true then .ok (.bl (!eqD a b)) else stk
noncomputable def isND : Dat -> Dat -> M Dat
  | .non, .non => .ok (.bl true)
  | _, .non => .ok (.bl false)
  | _, _ => stk
noncomputable def n6 (ds : List Dat) (i : Int) : M Dat := match atI ds i with
  | some d => .ok d
  | none => stk
noncomputable def ixD : Dat -> Dat -> M Dat
  | .lst ds, .int i => n6 ds i
  | .tup ds, .int i => n6 ds i
  | _, _ => stk
noncomputable def ur : List Dat -> M Dat
  | [.lst ds] => .ok (.int ds.length)
  | [.tup ds] => .ok (.int ds.length)
  | _ => stk
noncomputable def iY : List Dat -> M (List Bool)
  | [] => .ok []
  | d :: ds => (asB d).bind fun b => (iY ds).bind fun r => .ok (b :: r)
noncomputable def e8 : List Dat -> M (List Int)
  | [] => .ok []
  | d :: ds => (asI d).bind fun b => (e8 ds).bind fun r => .ok (b :: r)
noncomputable def allD : List Dat -> M Dat
  | [.lst ds] => (iY ds).bind fun bs => .ok (.bl (bs.all id))
  | _ => stk
noncomputable def sumD : List Dat -> M Dat
  | [.lst ds] => (e8 ds).bind fun is => .ok (.int is.sum)
  | _ => stk
noncomputable def pB : List Dat -> M Dat
  | [.lst ds] => .ok (.lst ds)
  | [.tup ds] => .ok (.lst ds)
  | _ => stk
noncomputable def nA : List Dat -> M Dat
  | [.lst ds] => .ok (.tup ds)
  | [.tup ds] => .ok (.tup ds)
  | _ => stk
noncomputable def gZ (i j : Int) : Int := if j > i then j else i
noncomputable def maxL : List Int -> M Dat
  | [] => stk
  | i :: is => .ok (.int (is.foldl gZ i))
noncomputable def maxD : List Dat -> M Dat
  | [.int i, .int j] => .ok (.int (gZ i j))
  | [.lst ds] => (e8 ds).bind maxL
  | _ => stk
noncomputable def pF : Dat -> M Dat
  | .int _ => .ok (.bl true)
  | .bl _ => .ok (.bl true)
  | .ins _ _ => stk
  | _ => .ok (.bl false)
noncomputable def m6 : Dat -> M Dat
  | .bl _ => .ok (.bl true)
  | .ins _ _ => stk
  | _ => .ok (.bl false)
noncomputable def pE : Dat -> M Dat
  | .lst _ => .ok (.bl true)
  | .ins _ _ => stk
  | _ => .ok (.bl false)
noncomputable def iw : Dat -> M Dat
  | .tup _ => .ok (.bl true)
  | .ins _ _ => stk
  | _ => .ok (.bl false)
noncomputable def fLR (fr : ag -> M (List Dat)) : ag -> M Dat := fun ρ => (fr ρ).bind cE
noncomputable def kI : Nat -> List Dat -> List Dat
  | _, [] => []
  | k, d :: ds => .tup [.int k, d] :: kI (k + 1) ds
noncomputable def sA : Dat -> M (List Dat)
  | .lst ds => .ok ds
  | _ => .error .stuck
noncomputable def uO : List Dat -> List Dat -> List Dat
  | d :: ds, e :: es => .tup [d, e] :: uO ds es
  | _, _ => []
noncomputable def CA (fa fb : ag -> M Dat) : ag -> M (List Dat) := fun ρ => (fa ρ).bind fun a => (fb ρ).bind fun b => (sA a).bind fun ds => (sA b).bind fun es => .ok (uO ds es)
noncomputable def dB (nN n : Nat) (g : ag -> M Flo) (ds : List Dat) : M Dat := if ds.length = n then (g (ds.map some ++ List.replicate (nN - ds.length) none)).bind fun fl => match fl with
  | .nx _ => .ok .non
  | .rt d => .ok d
  | _ => stk else stk
noncomputable def popD (ds : List Dat) (k : Dat) : M (Dat × List Dat) := (asI k).bind fun k => if sizeLine < ds.length then stk else match ixN ds.length k with
  | some j => match ds[j]? with
    | some d => .ok (d, ds.eraseIdx j)
    | none => stk
  | none => stk
@[simp] theorem ak {α β : Type} (a : α) (f : α -> M β) : Except.bind (Except.ok a : M α) f = f a := id rfl
@[simp] theorem kW {α β : Type} (e : Err) (f : α -> M β) : Except.bind (Except.error e : M α) f = .error e := id rfl
@[simp] theorem m8 : ∀ is : List Int, e8 (is.map Dat.int) = .ok is
  | [] => rfl
  | i :: is => by simp [e8, asI, m8 is]
@[simp] theorem Bp : ∀ is : List Bool, iY (is.map Dat.bl) = .ok is
  | [] => rfl
  | i :: is => by simp [iY, asB, Bp is]
@[simp] theorem BZ (n : Nat) : ∀ is : List Int, jW (is.map Dat.int) n = true
  | [] => by simp [jW]
  | i :: is => by simp [jW, okE, BZ n is]
@[simp] theorem sG : ∀ is : List Int, qQ (is.map Dat.int) = true
  | [] => rfl
  | i :: is => by simp [qQ, pI, sG is]
theorem rH {ds : List Dat} {k : Nat} (h : k < ds.length) : n6 ds (k : Int) = .ok ds[k] := by
  unfold n6 atI ixN
  rw [if_pos (by omega), if_pos (by omega)]
  simp [h]
theorem getI_int {is : List Int} {k : Int} (h0 : 0 <= k) (h : k < is.length) : n6 (is.map Dat.int) k = .ok (.int (is[k.toNat]'(by omega))) := by
  have hj : k.toNat < (is.map Dat.int).length := by simp; omega
  have e : k = (k.toNat : Int) := by omega
  have := rH hj
  rw [<- e] at this
  rw [this]
  simp
theorem jk {p : Pat} {g : ag -> M Flo} (P : Nat -> ag -> Prop) : ∀ (ds : List Dat) (k : Nat) (ρ : ag), P k ρ ->
    (∀ (i : Nat) (d : Dat) (ρ : ag), ds[i]? = some d -> P (k + i) ρ -> ∃ ρ1, fD p d ρ = .ok ρ1 /\ ∃ ρ2, (g ρ1 = .ok (.nx ρ2) \/ g ρ1 = .ok (.ct ρ2)) /\ P (k + i + 1) ρ2) -> ∃ ρ', mi p g ds ρ = .ok (.nx ρ') /\ P (k + ds.length) ρ'
  | [], k, ρ, h, _ => ⟨ρ, rfl, h⟩
  | d :: ds, k, ρ, h, st => by
    obtain ⟨ρ1, e1, ρ2, e2, h2⟩ := st 0 d ρ rfl h
    obtain ⟨ρ', e3, h3⟩ := jk P ds (k + 1) ρ2 h2 fun i d' ρ he hp => by
      have := st (i + 1) d' ρ (by simpa using he) (by rw [show k + (i + 1) = k + 1 + i by omega]; exact hp)
      rw [show k + (i + 1) + 1 = k + 1 + i + 1 by omega] at this
      exact this
    refine ⟨ρ', ?_, by rw [show k + (d :: ds).length = k + 1 + ds.length by simp; omega]; exact h3⟩
    rw [mi, e1]
    rcases e2 with e2 | e2
    · simp only [ak, e2]; exact e3
    · simp only [ak, e2]; exact e3
theorem eO {p : Pat} {fe : ag -> M Dat} {ρ0 : ag} (f : Dat -> Dat) : ∀ (ds : List Dat), (∀ d ∈ ds, ∃ ρ, fD p d ρ0 = .ok ρ /\ fe ρ = .ok (f d)) -> bf p rp fe ρ0 ds = .ok (ds.map f)
  | [], _ => rfl
  | d :: ds, h => by
    obtain ⟨ρ, e1, e2⟩ := h d (by simp)
    rw [bf, e1]
    simp only [ak, rp, e2, eO f ds fun x hx => h x (by simp [hx])]
    simp
@[simp] theorem small_def (i : Int) : fG i = (decide (-(2 ^ 64) < i) && decide (i < 2 ^ 64)) := id rfl
@[simp] theorem small_def2 (i : Int) : jr i = (decide (-(2 ^ 62) <= i) && decide (i < 2 ^ 62)) := id rfl
@[simp] theorem eqDs_nilR (ds : List Dat) : qR ds [] = ds.isEmpty := by cases ds <;> rfl
section
variable {ρ : ag} {fa fb fc : ag -> M Dat} {fr : ag -> M (List Dat)} {ft fu : ag -> M Bool} {g h : ag -> M Flo}
@[simp] theorem e_var0 (d : Dat) (r : ag) : ah 0 (some d :: r) = .ok d := id rfl
@[simp] theorem e_varS (i : Nat) (o : Option Dat) (r : ag) : ah (i + 1) (o :: r) = ah i r := by simp [ah]
@[simp] theorem e_c (d : Dat) : fC d ρ = .ok d := id rfl
@[simp] theorem e_1 (k : Dat -> M Dat) : f1 k fa ρ = (fa ρ).bind k := id rfl
@[simp] theorem e_2 (k : Dat -> Dat -> M Dat) : f2 k fa fb ρ = (fa ρ).bind fun a => (fb ρ).bind fun b => k a b := id rfl
@[simp] theorem e_nil : aJ ρ = .ok [] := id rfl
@[simp] theorem e_cons : a9 fa fr ρ = (fa ρ).bind fun a => (fr ρ).bind fun r => .ok (a :: r) := id rfl
@[simp] theorem e_L (k : List Dat -> M Dat) : fL k fr ρ = (fr ρ).bind k := id rfl
@[simp] theorem e_ite : fIte ft fa fb ρ = (ft ρ).bind fun b => if b = true then fa ρ else fb ρ := id rfl
@[simp] theorem e_and : fAnd ft fu ρ = (ft ρ).bind fun b => if b = true then fu ρ else .ok false := id rfl
@[simp] theorem e_or : fOr ft fu ρ = (ft ρ).bind fun b => if b = true then .ok true else fu ρ := id rfl
@[simp] theorem e_not : yh ft ρ = (ft ρ).bind fun b => .ok (!b) := id rfl
@[simp] theorem e_B : fB fa ρ = (fa ρ).bind asB := id rfl
@[simp] theorem e_andV : vX fa fb ρ = (fa ρ).bind fun a => (asB a).bind fun b => if b = true then fb ρ else .ok (.bl false) := id rfl
@[simp] theorem e_tru : vV fa ρ = (fa ρ).bind truD := id rfl
@[simp] theorem e_chain (k k' : Dat -> Dat -> M Dat) : jZ k k' fa fb fc ρ = (fa ρ).bind fun a => (fb ρ).bind fun b => (k a b).bind fun x => (asB x).bind fun z => if z = true then (fc ρ).bind fun c => k' b c else .ok (.bl false) := id rfl
@[simp] theorem e_yes : rp ρ = .ok true := id rfl
@[simp] theorem e_it : fIt fa ρ = (fa ρ).bind qP := id rfl
@[simp] theorem e_rng (k : List Dat -> M (List Dat)) : vW k fr ρ = (fr ρ).bind k := id rfl
@[simp] theorem e_LR : fLR fr ρ = (fr ρ).bind cE := id rfl
@[simp] theorem e_zip : CA fa fb ρ = (fa ρ).bind fun a => (fb ρ).bind fun b => (sA a).bind fun ds => (sA b).bind fun es => .ok (uO ds es) := id rfl
@[simp] theorem e_comp (fi : ag -> M (List Dat)) (ix : List (Option Nat)) (p : Pat) : fg fi ix p ft fa ρ = (fi ρ).bind fun ds => if ds.length <= sizeLine then (bf p ft fa (gp ix ρ) ds).bind fun r => .ok (.lst r) else .error .stuck := id rfl
@[simp] theorem e_asB (b : Bool) : asB (.bl b) = .ok b := id rfl
@[simp] theorem e_asI (b : Int) : asI (.int b) = .ok b := id rfl
@[simp] theorem e_itemsL (ds : List Dat) : qP (.lst ds) = .ok ds := id rfl
@[simp] theorem e_itL (ds : List Dat) : sA (.lst ds) = .ok ds := id rfl
@[simp] theorem e_itemsT (ds : List Dat) : qP (.tup ds) = .ok ds := id rfl
@[simp] theorem e_notD (b : Bool) : notD (.bl b) = .ok (.bl (!b)) := id rfl
@[simp] theorem e_truB (b : Bool) : truD (.bl b) = .ok b := id rfl
@[simp] theorem e_truL (ds : List Dat) : truD (.lst ds) = .ok (!ds.isEmpty) := id rfl
@[simp] theorem e_addI (i j : Int) : nv (.int i) (.int j) = .ok (.int (i + j)) := id rfl
@[simp] theorem e_subI (i j : Int) : subD (.int i) (.int j) = .ok (.int (i - j)) := id rfl
@[simp] theorem e_negI (i : Int) : Bt (.int i) = .ok (.int (-i)) := id rfl
@[simp] theorem e_ltI (i j : Int) : ltD (.int i) (.int j) = .ok (.bl (decide (i < j))) := id rfl
@[simp] theorem e_leI (i j : Int) : leD (.int i) (.int j) = .ok (.bl (decide (i <= j))) := id rfl
@[simp] theorem e_gtI (i j : Int) : gtD (.int i) (.int j) = .ok (.bl (decide (j < i))) := id rfl
@[simp] theorem e_ixL (ds : List Dat) (i : Int) : ixD (.lst ds) (.int i) = n6 ds i := id rfl
@[simp] theorem e_ixT (ds : List Dat) (i : Int) : ixD (.tup ds) (.int i) = n6 ds i := id rfl
@[simp] theorem e_lenL (ds : List Dat) : ur [.lst ds] = .ok (.int ds.length) := id rfl
@[simp] theorem e_lenT (ds : List Dat) : ur [.tup ds] = .ok (.int ds.length) := id rfl
@[simp] theorem e_all (ds : List Dat) : allD [.lst ds] = (iY ds).bind fun bs => .ok (.bl (bs.all id)) := id rfl
@[simp] theorem e_sum (ds : List Dat) : sumD [.lst ds] = (e8 ds).bind fun is => .ok (.int is.sum) := id rfl
@[simp] theorem e_listL (ds : List Dat) : pB [.lst ds] = .ok (.lst ds) := id rfl
@[simp] theorem e_listT (ds : List Dat) : pB [.tup ds] = .ok (.lst ds) := id rfl
@[simp] theorem e_tupleL (ds : List Dat) : nA [.lst ds] = .ok (.tup ds) := id rfl
@[simp] theorem e_max2 (i j : Int) : maxD [.int i, .int j] = .ok (.int (gZ i j)) := id rfl
@[simp] theorem ym (ds : List Dat) : maxD [.lst ds] = (e8 ds).bind maxL := id rfl
@[simp] theorem e_isiBI (i : Int) : m6 (.int i) = .ok (.bl false) := id rfl
@[simp] theorem e_isiII (i : Int) : pF (.int i) = .ok (.bl true) := id rfl
@[simp] theorem e_isiLL (ds : List Dat) : pE (.lst ds) = .ok (.bl true) := id rfl
@[simp] theorem e_isiTT (ds : List Dat) : iw (.tup ds) = .ok (.bl true) := id rfl
@[simp] theorem e_isN (d : Dat) : isND d .non = .ok (.bl (match d with | .non => true | _ => false)) := by cases d <;> rfl
@[simp] theorem e_next : j9 ρ = .ok (.nx ρ) := id rfl
@[simp] theorem e_seq : cB g h ρ = (g ρ).bind fun fl => match fl with
  | .nx ρ' => h ρ'
  | fl => .ok fl := id rfl
@[simp] theorem e_if : sIf ft g h ρ = (ft ρ).bind fun b => if b = true then g ρ else h ρ := id rfl
@[simp] theorem e_setB (O : List Nat) (i : Nat) : bF O i fa ρ = (fa (erase O ρ)).bind fun d => .ok (.nx (ρ.set i (some d))) := id rfl
@[simp] theorem e_setA (own : Bool) (i : Nat) : z3 own i fa ρ = (fa ρ).bind fun d => if qD own d = true then .ok (.nx (ρ.set i (some d))) else .error .stuck := id rfl
@[simp] theorem e_ret : i7 fa ρ = (fa ρ).bind fun d => .ok (.rt d) := id rfl
@[simp] theorem e_for (O : List Nat) (fi : ag -> M (List Dat)) (p : Pat) : xk O fi p g ρ = (fi (erase O ρ)).bind fun ds => mi p g ds ρ := id rfl
@[simp] theorem e_unpB (O : List Nat) (p : Pat) : yY O p fa ρ = (fa (erase O ρ)).bind fun d => (fD p d ρ).bind fun ρ' => .ok (.nx ρ') := id rfl
@[simp] theorem e_appB (O : List Nat) (i : Nat) : lA O i fa ρ = (jb ρ i).bind fun ds => (fa (erase O ρ)).bind fun d => if ds.length < sizeLine then put ρ i (ds ++ [d]) else .error .stuck := id rfl
@[simp] theorem e_setI (i : Nat) : yZ i fb fa ρ = (fa ρ).bind fun d => (jb ρ i).bind fun ds => (fb ρ).bind fun k => (asI k).bind fun k => if pI d = true then (match ixN ds.length k with
  | some j => put ρ i (ds.set j d)
  | none => .error .stuck) else .error .stuck := id rfl
@[simp] theorem e_put (i : Nat) (ds : List Dat) : put ρ i ds = .ok (.nx (ρ.set i (some (.lst ds)))) := id rfl
@[simp] theorem e_lst0 (ds : List Dat) (r : ag) : jb (some (.lst ds) :: r) 0 = .ok ds := id rfl
@[simp] theorem e_lstS (i : Nat) (o : Option Dat) (r : ag) : jb (o :: r) (i + 1) = jb r i := by simp [jb]
@[simp] theorem e_er0 : erase [] ρ = ρ := id rfl
@[simp] theorem e_erS (i : Nat) (O : List Nat) : erase (i :: O) ρ = erase O (ρ.set i none) := id rfl
@[simp] theorem e_bnm (i : Nat) (d : Dat) : fD (.nm i) d ρ = .ok (ρ.set i (some d)) := id rfl
@[simp] theorem e_btp (is : List Nat) (ds : List Dat) : fD (.tp is) (.tup ds) ρ = if ds.length = is.length then .ok (lF is ds ρ) else .error .stuck := id rfl
@[simp] theorem e_sa0 (ds : List Dat) : lF [] ds ρ = ρ := by cases ds <;> rfl
@[simp] theorem e_saS (i : Nat) (is : List Nat) (d : Dat) (ds : List Dat) : lF (i :: is) (d :: ds) ρ = lF is ds (ρ.set i (some d)) := id rfl
@[simp] theorem e_in0 : gp [] ρ = [] := id rfl
@[simp] theorem e_inN (ix : List (Option Nat)) : gp (none :: ix) ρ = none :: gp ix ρ := id rfl
@[simp] theorem e_inS (j : Nat) (ix : List (Option Nat)) : gp (some j :: ix) ρ = (ρ[j]?).join :: gp ix ρ := id rfl
@[simp] theorem e_tup (ds : List Dat) : lB ds = if ds.length <= sizeLine then .ok (.tup ds) else .error .stuck := id rfl
@[simp] theorem e_lst (ds : List Dat) : cE ds = if ds.length <= sizeLine then .ok (.lst ds) else .error .stuck := id rfl
@[simp] theorem e_line : sizeLine = 16777216 := sizeLine_eq
@[simp] theorem e_run (a b : Nat) (ds : List Dat) : dB a b g ds = if ds.length = b then (g (ds.map some ++ List.replicate (a - ds.length) none)).bind fun fl => match fl with
  | .nx _ => .ok .non
  | .rt d => .ok d
  | _ => stk else stk := id rfl
@[simp] theorem e_rng1 {j : Int} (h : jr j = true) : v8 [.int j] = .ok (bz 0 j.toNat) := by show (if jr j = true then _ else _) = _; rw [if_pos h]
@[simp] theorem zC {i j : Int} (h : 0 < j) : mZ (.int i) (.int j) = .ok (.int (i % j)) := by simp [mZ, h]
@[simp] theorem e_fdiv {i j : Int} (h : 0 < j) (h2 : j < 18446744073709551616) : ik (.int i) (.int j) = .ok (.int (i / j)) := by simp [ik, h, h2]
@[simp] theorem e_mulR {i j : Int} (h : fG j = true) : wR (.int i) (.int j) = .ok (.int (i * j)) := by show (if (fG i || fG j) = true then _ else _) = _; rw [h, Bool.or_true, if_pos rfl]
@[simp] theorem e_mulL {i j : Int} (h : fG i = true) : wR (.int i) (.int j) = .ok (.int (i * j)) := by show (if (fG i || fG j) = true then _ else _) = _; rw [h, Bool.true_or, if_pos rfl]
end
end L2
namespace L2
open PySem PySem.Spec PyProof.Rows
section
variable {X : Cx} {K : PySem.W.Frag} {W : gH} {own ro : Bool} {e a b c : Expr} {es rest : List Expr} {x : Str} {pos p : Pos} {f fa fb fc : ag -> M Dat} {fr : ag -> M (List Dat)} {ft fu : ag -> M Bool}
theorem PE.imp {t t' : TE} (h : PE X e t) (q : ∀ σ H Q, t' σ H Q -> t σ H Q) : PE X e t' := fun pins s σ H Q I z => h pins s σ H Q I (q σ H Q z)
theorem PT.imp {t t' : TT} (h : PT X e t) (q : ∀ σ H Q, t' σ H Q -> t σ H Q) : PT X e t' := fun pins s σ H Q I z => h pins s σ H Q I (q σ H Q z)
theorem PW.imp {t t' : TT} (h : PW X e t) (q : ∀ σ H Q, t' σ H Q -> t σ H Q) : PW X e t' := fun wh pins s σ H Q I z => h wh pins s σ H Q I (q σ H Q z)
theorem PA.imp {t t' : TA} (h : PA X es t) (q : ∀ σ H Q, t' σ H Q -> t σ H Q) : PA X es t' := fun ps pins s σ H Q I z => h ps pins s σ H Q I (q σ H Q z)
theorem PI.imp {tg : Expr} {t t' : TI} (h : PI X tg e t) (q : ∀ σ H Q, t' σ H Q -> t σ H Q) : PI X tg e t' := fun pins s σ H Q I z => h pins s σ H Q I (q σ H Q z)
theorem PS.imp {st : Stmt} {t t' : TS} (h : PS X st t) (q : ∀ D σ H, t' D σ H -> t D σ H) : PS X st t' := fun pins s σ H D I z => h pins s σ H D I (q D σ H z)
theorem PSs.imp {st : List Stmt} {t t' : TS} (h : PSs X st t) (q : ∀ D σ H, t' D σ H -> t D σ H) : PSs X st t' := fun pins s σ H D I z => h pins s σ H D I (q D σ H z)
noncomputable abbrev DE (K : PySem.W.Frag) (W : gH) (own : Bool) (X : Cx) (e : Expr) (f : ag -> M Dat) : Prop := PE X e (tD K W own f)
noncomputable abbrev DT (K : PySem.W.Frag) (W : gH) (X : Cx) (e : Expr) (f : ag -> M Bool) : Prop := PT X e (tDT K W f)
noncomputable abbrev DW (K : PySem.W.Frag) (W : gH) (X : Cx) (e : Expr) (f : ag -> M Bool) : Prop := PW X e (tDT K W f)
noncomputable abbrev DA (K : PySem.W.Frag) (W : gH) (X : Cx) (es : List Expr) (f : ag -> M (List Dat)) : Prop := PA X es (tDA K W f)
noncomputable abbrev DI (K : PySem.W.Frag) (W : gH) (X : Cx) (tg e : Expr) (f : ag -> M (List Dat)) : Prop := PI X tg e (iD K W f)
noncomputable abbrev DG (K : PySem.W.Frag) (X : Cx) (tg : Expr) (p : Pat) : Prop := PG X tg (gP K p)
noncomputable abbrev DS (K : PySem.W.Frag) (W : gH) (ro : Bool) (X : Cx) (OL O O' : List Nat) (st : Stmt) (g : ag -> M Flo) : Prop := ∀ F0 H0 : Hp, PS X st (tS K W ro F0 H0 OL O O' g)
noncomputable abbrev DSs (K : PySem.W.Frag) (W : gH) (ro : Bool) (X : Cx) (OL O O' : List Nat) (st : List Stmt) (g : ag -> M Flo) : Prop := ∀ F0 H0 : Hp, PSs X st (tS K W ro F0 H0 OL O O' g)
noncomputable abbrev Op2 (K : PySem.W.Frag) (W : gH) (own : Bool) (X : Cx) (o : Value -> Value -> Sem Value) (g : Dat -> Dat -> M Dat) : Prop := OpR X o (rD2 K W own g)
noncomputable abbrev wO (K : PySem.W.Frag) (W : gH) (own : Bool) (X : Cx) (v : Value) (g : List Dat -> M Dat) : Prop := i5 X v (rDL K W own g)
theorem aj (i : Nat) (hN : X.N[i]? = some x := by rfl) (hv : Vis X.env.scope x := by first | exact Or.inl rfl | exact Or.inr (Or.inl rfl) | exact Or.inr (Or.inr rfl)) (hd : (x == ("__debug__" : Str)) = false := by decide)
    (hcd : (x == ("__classdict__" : Str)) = false := by decide) : DE K W false X (.Name x pos) (ah i) := (pv i hN hv hd hcd).imp fun _ _ _ => rd_var
theorem aa {i : Int} {j} : DE K W false X (.Constant (.int i) j pos) (fC (.int i)) := pe_int.imp fun _ _ _ => rd_c fun _ => rfl
theorem u3 {k : Bool} {j} : DE K W false X (.Constant (.bool k) j pos) (fC (.bl k)) := pe_bl.imp fun _ _ _ => rd_c fun _ => rfl
theorem de_non {j} : DE K W false X (.Constant .none j pos) (fC .non) := pe_non.imp fun _ _ _ => rd_c fun _ => rfl
theorem CH {n : Int} (hm : ∃ t, X.mg x = some (.int n t)) (hg : Gl X x := by rfl) (hd : (x == ("__debug__" : Str)) = false := by decide) : DE K W false X (.Name x pos) (fC (.int n)) := (pe_gint hg hm hd).imp fun _ _ _ => rd_c fun _ => rfl
theorem aG (h : DE K W true X e f) : DE K W false X e f := PE.imp h fun _ _ _ ⟨F, ρ, r, s, p⟩ => ⟨F, ρ, r, s, p.frz⟩
theorem aq {op : Operator} {g : Dat -> Dat -> M Dat} (ho : Op2 K W own X (binaryOp op) g) (ha : DE K W false X a fa) (hb : DE K W false X b fb) : DE K W own X (.BinOp a op b pos) (f2 g fa fb) := (pe_op ho ha hb).imp fun _ _ _ => rd_2
theorem zE {op : UnaryOp} {g : Dat -> M Dat} (ho : UnR X (unaryOp op) (rD1 K W own g)) (ha : DE K W false X a fa) : DE K W own X (.UnaryOp op a pos) (f1 g fa) := (pe_un ho ha).imp fun _ _ _ => rd_1
theorem de_cmp {op : CmpOp} {g : Dat -> Dat -> M Dat} (ho : Op2 K W false X (compareOp op) g) (ha : DE K W false X a fa) (hb : DE K W false X b fb) (hm : behindInMarks op b = false := by first | exact C5 _ | with_unfolding_all rfl) : DE K W false X (.Compare a [op] [b] pos) (f2 g fa fb) :=
  (pe_cmpR ho ha hb hm).imp fun _ _ _ => rd_2
theorem gq {op : CmpOp} {g : Dat -> Dat -> M Dat} (ho : Op2 K W false X (compareOp op) g) (ha : DE K W false X a fa) (hb : DE K W false X b fb) (hm : behindInMarks op b = false := by first | exact C5 _ | with_unfolding_all rfl) : DT K W X (.Compare a [op] [b] pos) (fB (f2 g fa fb)) :=
  (BK ho ha hb hm).imp fun σ H Q h => by
    have q := rd_B h
    exact rd_2 (own := false) q
theorem de_chain {op op' : CmpOp} {g g' : Dat -> Dat -> M Dat} (ho : Op2 K W false X (compareOp op) g) (ho' : Op2 K W false X (compareOp op') g') (ha : DE K W false X a fa) (hb : DE K W false X b fb) (hc : DE K W false X c fc)
    (hm : lastMarks [op, op'] [b, c] = false := by with_unfolding_all rfl) : DE K W false X (.Compare a [op, op'] [b, c] pos) (jZ g g' fa fb fc) := (pe_chain ho ho' ha hb hc hm).imp fun _ _ _ => Aj
theorem wb {op op' : CmpOp} {g g' : Dat -> Dat -> M Dat} (ho : Op2 K W false X (compareOp op) g) (ho' : Op2 K W false X (compareOp op') g') (ha : DE K W false X a fa) (hb : DE K W false X b fb) (hc : DE K W false X c fc)
    (hm : lastMarks [op, op'] [b, c] = false := by with_unfolding_all rfl) : DT K W X (.Compare a [op, op'] [b, c] pos) (fB (jZ g g' fa fb fc)) := (pt_chain ho ho' ha hb hc hm).imp fun σ H Q h => by
    have q := rd_B h
    exact Aj q
theorem lj (ha : DE K W false X a fa) (hK : X.K = K := by rfl) (he : ∀ whole, isTrue a X.env whole = (do let v <- whole; standAt a.pos; holding [v] (truthy v)) := by intro _; rfl) : DT K W X a (vV fa) := by
  subst hK
  exact (pt_truth ha he).imp fun _ _ _ => rd_tru
theorem nE (ha : DT K W X a ft) : DT K W X (.UnaryOp .Not a pos) (yh ft) := (pt_not ha).imp fun _ _ _ => rd_not
theorem dw_and1 (ha : DT K W X a ft) : DW K W X (.BoolOp .And [a] pos) ft := pw_and1 ha
theorem uz (ha : DT K W X a ft) : DW K W X (.BoolOp .Or [a] pos) ft := pw_or1 ha
theorem dw_and (ha : DT K W X a ft) (hb : DW K W X (.BoolOp .And (b :: rest) pos) fu) : DW K W X (.BoolOp .And (a :: b :: rest) pos) (fAnd ft fu) := (pw_and ha hb).imp fun _ _ _ => rd_and
theorem wa (ha : DT K W X a ft) (hb : DW K W X (.BoolOp .Or (b :: rest) pos) fu) : DW K W X (.BoolOp .Or (a :: b :: rest) pos) (fOr ft fu) := (pw_or ha hb).imp fun _ _ _ => rd_or
theorem de_one {op} (h : DE K W false X a f) : DE K W false X (.BoolOp op [a] pos) f := pe_one h
theorem CI (ha : DE K W false X a fa) (hb : DE K W false X (.BoolOp .And (b :: rest) pos) fb) : DE K W false X (.BoolOp .And (a :: b :: rest) pos) (vX fa fb) := (pe_and ha hb).imp fun _ _ _ => rd_andV
theorem de_not (ha : DE K W false X a fa) : DE K W false X (.UnaryOp .Not a pos) (f1 notD fa) := (pe_not ha).imp fun _ _ _ => rd_notV
theorem de_ite (hc : DT K W X c ft) (ha : DE K W own X a fa) (hb : DE K W own X b fb) : DE K W own X (.IfExp c a b pos) (fIte ft fa fb) := (pe_ifExp hc ha hb).imp fun _ _ _ => rd_ite
theorem ae : DA K W X [] aJ := jf.imp fun _ _ _ => rd_nil
theorem a8 (ha : DE K W false X e fa) (hr : DA K W X es fr) (hs : starEach (e :: es) X.env = (false, eval e X.env) :: starEach es X.env := by rfl) : DA K W X (e :: es) (a9 fa fr) := (dj ha hr hs).imp fun _ _ _ => rd_cons
theorem mq {x1} (h : DA K W X es fr) : DE K W own X (.Tuple es x1 pos) (fL lB fr) := (pe_tup h).imp fun _ _ _ => rd_tup
theorem cn (h : DA K W X es fr) : DE K W true X (.List es pos) (fL cE fr) := (pe_lst h).imp fun _ _ _ => rd_lst
theorem aU {id : String} {g : List Dat -> M Dat} (hc : wO K W own X (.builtin id) g) (hm : X.mg x = none) (hv : bootBuiltins x = some (.builtin id)) (ha : DA K W X (e :: es) fr) (hg : Gl X x := by rfl) (hn : x ≠ "__name__" := by decide) (hdb : (x == ("__debug__" : Str)) = false := by decide)
    (hst : starEach (e :: es) X.env = (false, eval e X.env) :: starEach es X.env := by rfl) (hpl : (backTo pos (starEach es X.env)).any (·.1) = false := by rfl) : DE K W own X (.Call (.Name x p) (e :: es) [] pos) (fL g fr) :=
  (rF hc hg hm hv ha hn hdb hst hpl).imp fun _ _ _ => rd_L
theorem eN {T : String} {g : List Dat -> M Dat} (hc : wO K W own X (.type T) g) (hm : X.mg x = none) (hv : bootBuiltins x = some (.type T)) (ha : DA K W X (e :: es) fr) (hg : Gl X x := by rfl) (hn : x ≠ "__name__" := by decide) (hdb : (x == ("__debug__" : Str)) = false := by decide)
    (hst : starEach (e :: es) X.env = (false, eval e X.env) :: starEach es X.env := by rfl) (hpl : (backTo pos (starEach es X.env)).any (·.1) = false := by rfl) : DE K W own X (.Call (.Name x p) (e :: es) [] pos) (fL g fr) :=
  (xy hc hg hm hv ha hn hdb hst hpl).imp fun _ _ _ => rd_L
theorem bc {g : Dat -> Dat -> M Dat} (hr : IxR X (rD2 K W own g)) (ha : DE K W false X a fa) (hb : DE K W false X b fb) (hs : wN b := by exact fun _ _ => rfl) : DE K W own X (.Subscript a b pos) (f2 g fa fb) := (pe_ix hr ha hb hs).imp fun _ _ _ => rd_2
theorem Bj {i : Nat} (hN : X.N.Nodup) (hi : X.N[i]? = some x := by rfl) (hx : Loc X.env.scope x := by first | exact Or.inl rfl | exact Or.inr rfl) (hf : X.fn x = true \/ X.env.scope.names.lookup x = some .local := by first | exact .inl rfl | exact .inr rfl | assumption) : DG K X (.Name x pos) (.nm i) := zi hN hi hx hf
theorem k8 {tg : Expr} (hl : DE K W false X e fa) (hK : X.K = K := by rfl) : DI K W X tg e (fIt fa) := by
  subst hK
  refine PI.imp (t := iSeq X.K (tD X.K W false fa)) ?_ fun _ _ _ => ri_seq
  intro pins s σ H R I h
  refine thn (hl pins s σ H _ I h) fun v s1 ⟨y, H1, I1, r1, q1⟩ => ?_
  obtain ⟨l, e1, q⟩ := q1
  subst e1
  cases r1
  rcases q with ⟨⟨xs, hq⟩, q⟩ | ⟨⟨xs, hq⟩, q⟩
  · obtain ⟨its, rv, p, hz⟩ := I1.list hq
    refine wpAny_pyIter_list p.isList ?_
    refine ⟨s1.heap.objs.size, [s1.heap.objs.size], _, _, H1, rfl, I1.kept (t' := s1.toks) fun b o e => Heap.get?_push_of_some _ e, Bw l _, ⟨_, Heap.get?_push_size _ rfl, rfl, rfl⟩, fun b hb => ?_, q⟩
    have e : b = s1.heap.objs.size := by simpa using hb
    subst e
    exact I1.fpOk (Nat.le_refl _) (I1.hok.fresh (Nat.le_refl _))
  · obtain ⟨its, rv, p, hz⟩ := I1.tuple hq
    refine wpAny_pyIter_tuple (show s1.heap.IsTuple l its.toArray from p) ?_
    refine ⟨s1.heap.objs.size, [s1.heap.objs.size], _, _, H1, rfl, I1.kept (t' := s1.toks) fun b o e => Heap.get?_push_of_some _ e, AM l _, ⟨_, Heap.get?_push_size _ rfl, rfl, rfl⟩, fun b hb => ?_, q⟩
    have e : b = s1.heap.objs.size := by simpa using hb
    subst e
    exact I1.fpOk (Nat.le_refl _) (I1.hok.fresh (Nat.le_refl _))
theorem oJ {tg : Expr} (hm : X.mg "range" = none) (ha : DA K W X [a] fr) (hg : Gl X "range" := by rfl) (hs : starEach [a] X.env = [(false, eval a X.env)] := by rfl) : DI K W X tg (.Call (.Name "range" p) [a] [] pos) (vW v8 fr) := (BP hg hm ha hs).imp fun _ _ _ => ri_rng1
variable {OL O O' O2 : List Nat} {st : Stmt} {sts : List Stmt} {g h : ag -> M Flo}
theorem g8 : DSs K W ro X OL O O [] j9 := fun _ _ => BL.imp fun _ _ _ => rs_next
theorem ai (h1 : DS K W ro X OL O O' st g) (h2 : DSs K W ro X OL O' O2 sts h) : DSs K W ro X OL O O2 (st :: sts) (cB g h) := fun F0 H0 => (kn (h1 F0 H0) (h2 F0 H0)).imp fun _ _ _ => rs_seq
theorem ay (h1 : DS K W ro X OL O O' st g) : DSs K W ro X OL O O' [st] g := fun F0 H0 => v9 (h1 F0 H0)
theorem cC (h1 : DSs K W ro X OL O2 O' sts g) (hs : ∀ i ∈ O2, i ∈ O := by decide) : DSs K W ro X OL O O' sts g := fun F0 H0 => PSs.imp (h1 F0 H0) fun _ _ _ => tS.enter hs
theorem k7 {sa sb : List Stmt} (hc : DT K W X c ft) (ha : DSs K W ro X OL O O' sa g) (hb : DSs K W ro X OL O O' sb h) : DS K W ro X OL O O' (.If c sa sb pos) (sIf ft g h) := fun F0 H0 => (ps_if hc (ha F0 H0) (hb F0 H0)).imp fun _ _ _ => rs_if
theorem aA {i : Nat} {pos' : Pos} (hN : X.N.Nodup) (he : DE K W own X e f) (hi : X.N[i]? = some x := by rfl) (hx : Loc X.env.scope x := by first | exact Or.inl rfl | exact Or.inr rfl) (hs : swapsWith e (some (.Name x pos')) pos.line X.env = pure false := by rfl) (hf : X.fn x = true \/ X.env.scope.names.lookup x = some .local := by first | exact .inl rfl | exact .inr rfl | assumption) :
    DS K W ro X OL O (aft own i O) (.Assign [.Name x pos'] e pos) (bF O i f) := fun F0 H0 => (ps_set hN hi hx he hs hf).imp fun _ _ _ => BH
theorem aX (he : DE K W ro X e f) : DS K W ro X OL O O' (.Return (some e) pos) (i7 f) := fun F0 H0 => (ps_ret he).imp fun _ _ _ => rs_ret
theorem mm {tg iter : Expr} {body : List Stmt} {fs : ag -> M (List Dat)} {pt : Pat} (hi : DI K W X tg iter fs) (hg : DG K X tg pt) (hb : DSs K W ro X O O O body g) (n : ∀ i ∈ pt.names, i ∉ O := by decide) (hp : PassesOwn (model X.prog X.w) X.A X.env X.xe := by exact PassesOwn.never) (hc : X.calm = true := by rfl)
    (hs : ∀ x, foldedSetIterable iter X.env x = pure x := by intro _; rfl) : DS K W ro X OL O O (.For tg iter body [] pos) (xk O fs pt g) := fun F0 H0 => (ps_for hp hc hi hg (hb F0 H0) hs).imp fun _ _ _ => rs_for n
theorem ds_while {m : Nat} {body : List Stmt} (hc : DT K W X c ft) (hb : DSs K W ro X O O O body g) (hp : PassesOwn (model X.prog X.w) X.A X.env X.xe := by exact PassesOwn.never) : DS K W ro X OL O O (.While c body [] pos) (i6 ft g m) := fun F0 H0 => (ps_while hp hc (hb F0 H0)).imp fun _ _ _ => rs_while
theorem kJ {i : Nat} {apos : Pos} {q : Pos} (he : DE K W false X e f) (ho : i ∈ O := by decide) (hN : X.N[i]? = some x := by rfl) (hv : Vis X.env.scope x := by first | exact Or.inl rfl | exact Or.inr (Or.inl rfl) | exact Or.inr (Or.inr rfl)) (hd : (x == ("__debug__" : Str)) = false := by decide) (hcd : (x == ("__classdict__" : Str)) = false := by decide) (hK : X.K = K := by rfl)
    (hst : starEach [e] X.env = [(false, eval e X.env)] := by rfl) (hbase : attributeBase (.Name x p) "append" X.env (eval (.Name x p) X.env) = eval (.Name x p) X.env := by rfl) (hfew : ((backTo q (starEach [e] X.env)).all (fun x => !x.1) && (backToKw q (keywordEach [] X.env)).all (fun x => x.1.isSome) && decide ([e].length + ([] : List Keyword).length + (if ([] : List Keyword).isEmpty then 0 else 1) < 30)) = true := by rfl) (hplain : (backTo q (starEach [] X.env)).any (·.1) = false := by rfl) (hline : (apos.endLine == q.line) = true := by rfl) (hsw : swapsWith (.Call (.Attribute (.Name x p) "append" apos) [e] [] q) none pos.line X.env = pure false := by rfl) :
    DS K W ro X OL O O (.Expr (.Call (.Attribute (.Name x p) "append" apos) [e] [] q) pos) (lA O i f) := fun F0 H0 => by
  subst hK
  exact PS.imp (zg (pe_bm PySem.F.plainAttrs_list PySem.F.slot_list_append PySem.F.type_list_append xU (pv i hN hv hd hcd) (dj he jf hst) hbase hfew hline hst hplain) hsw) fun _ _ _ => rs_appB ho
end
end L2
namespace L2
open PySem PySem.Spec PyProof.Rows
section
variable {X : Cx} {K : PySem.W.Frag} {W : gH} {own : Bool}
theorem OpR.imp {f : Value -> Value -> Sem Value} {r r' : R2} (h : OpR X f r) (q : ∀ x y H Q, r' x y H Q -> r x y H Q) : OpR X f r' := fun pins s σ H x y v u Q I rx ry z => h pins s σ H x y v u Q I rx ry (q x y H Q z)
theorem UnR.imp {f : Value -> Sem Value} {r r' : V -> Hp -> VK -> Prop} (h : UnR X f r) (q : ∀ x H Q, r' x H Q -> r x H Q) : UnR X f r' := fun pins s σ H x v Q I rx z => h pins s σ H x v Q I rx (q x H Q z)
theorem i5.imp {f : Value} {r r' : List V -> Hp -> VK -> Prop} (h : i5 X f r) (q : ∀ x H Q, r' x H Q -> r x H Q) : i5 X f r' := fun pins s σ H x v Q I rx z => h pins s σ H x v Q I rx (q x H Q z)
theorem IxR.imp {r r' : R2} (h : IxR X r) (q : ∀ x y H Q, r' x y H Q -> r x y H Q) : IxR X r' := fun va sl pins s σ H x y v u Q I rx ry z e => h va sl pins s σ H x y v u Q I rx ry (q x y H Q z) e
theorem aV.stuck {F H : Hp} {Q : VK} {P : Prop} (p : aV K W own F H (stk) Q) : P := (W.ns p).elim
theorem aV.int {F H : Hp} {Q : VK} {i : Int} (p : aV K W own F H (.ok (.int i)) Q) (s : bg F H) : Q (.int i) H := p _ F H (Step.refl s) (by cases own <;> rfl)
theorem aV.bl {F H : Hp} {Q : VK} {b : Bool} (p : aV K W own F H (.ok (.bl b)) Q) (s : bg F H) : Q (.bl b) H := p _ F H (Step.refl s) (by cases own <;> rfl)
theorem aV.str {F H : Hp} {Q : VK} {x : Str} (p : aV K W own F H (.ok (.str x)) Q) (s : bg F H) : Q (.str x) H := p _ F H (Step.refl s) (by cases own <;> rfl)
theorem aV.tup {F H : Hp} {Q : VK} {ds : List Dat} {xs : List V} {a : Addr} (p : aV K W own F H (.ok (.tup ds)) Q) (s : bg F H) (q : au K F ds xs) (ha : H a = none) : Q (.ref a) (upd H a (.tup xs)) :=
  p _ _ _ (Step.lay s ha) (by
    have : cI K (upd F a (.tup xs)) (.tup ds) (.ref a) := ⟨a, xs, rfl, SqT.of aE, q.mono (bg.upd (s.free ha))⟩
    cases own <;> exact this)
theorem aV.same {F H : Hp} {Q : VK} {ds : List Dat} {v : V} (p : aV K W own F H (.ok (.tup ds)) Q) (s : bg F H) (q : cI K F (.tup ds) v) : Q v H := p _ F H (Step.refl s) (by cases own <;> exact q)
theorem aV.lst {F H : Hp} {Q : VK} {ds : List Dat} {xs : List V} {a : Addr} (p : aV K W true F H (.ok (.lst ds)) Q) (s : bg F H) (q : au K F ds xs) (ha : H a = none) : Q (.ref a) (upd H a (.lst xs)) :=
  p _ F _ (Step.grow s ha) ⟨a, xs, rfl, aE, s.free ha, ha, q⟩
theorem jd {g : Dat -> Dat -> M Dat} (hg : ∀ a b, (∃ i j, a = .int i /\ b = .int j) \/ g a b = stk) {x y : V} {H : Hp} {Q : VK} (h : rD2 K W own g x y H Q) : ∃ F i j, bg F H /\ x = .int i /\ y = .int j /\ aV K W own F H (g (.int i) (.int j)) Q := by
  obtain ⟨F, a, b, s, qa, qb, p⟩ := h
  rcases hg a b with ⟨i, j, rfl, rfl⟩ | e
  · exact ⟨F, i, j, s, qa, qb, p⟩
  · rw [e] at p; exact p.stuck
theorem o_sub : Op2 K W own X (binaryOp .Sub) subD := op_sub.imp fun x y H Q h => by
  obtain ⟨F, i, j, s, e1, e2, p⟩ := jd (fun a b => by cases a <;> cases b <;> first | exact .inr rfl | exact .inl ⟨_, _, rfl, rfl⟩) h
  exact ⟨i, j, e1, e2, p.int s⟩
theorem o9 : Op2 K W own X (binaryOp .Mult) wR := op_mul.imp fun x y H Q h => by
  obtain ⟨F, i, j, s, e1, e2, p⟩ := jd (fun a b => by cases a <;> cases b <;> first | exact .inr rfl | exact .inl ⟨_, _, rfl, rfl⟩) h
  have p' : aV K W own F H (if (fG i || fG j) = true then .ok (.int (i * j)) else stk) Q := p
  by_cases hc : (fG i || fG j) = true
  · rw [if_pos hc] at p'
    refine ⟨i, j, e1, e2, ?_, p'.int s⟩
    unfold fG at hc
    simp only [Bool.or_eq_true, Bool.and_eq_true, decide_eq_true_eq] at hc
    exact hc
  · rw [if_neg hc] at p'; exact p'.stuck
theorem Cd {j : Int} (h0 : 0 < j) (h1 : j < 18446744073709551616) : j.natAbs.log2 < 9000 := by
  have a : j.natAbs < 2 ^ 64 := by omega
  have b := (Nat.log2_lt (n := j.natAbs) (k := 64) (by omega)).mpr a
  omega
theorem BW : OpR X (binaryOp .FloorDiv) (rI (fun _ j => 0 < j /\ j < 18446744073709551616) fun i j => .int (i / j)) := opI fun i j _ _ _ _ _ hc q => by
  obtain ⟨c1, c2⟩ := hc
  exact floordiv_int (by omega) (by rw [Int.fdiv_eq_ediv_of_nonneg i (by omega)]; exact q) (.inl (PyProof.noPylong_of_log2 (Cd c1 c2)))
theorem eD : Op2 K W own X (binaryOp .FloorDiv) ik := BW.imp fun x y H Q h => by
  obtain ⟨F, i, j, s, e1, e2, p⟩ := jd (fun a b => by cases a <;> cases b <;> first | exact .inr rfl | exact .inl ⟨_, _, rfl, rfl⟩) h
  have p' : aV K W own F H (if (decide (0 < j) && decide (j < 18446744073709551616)) = true then .ok (.int (i / j)) else stk) Q := p
  by_cases hc : (decide (0 < j) && decide (j < 18446744073709551616)) = true
  · rw [if_pos hc] at p'
    simp only [Bool.and_eq_true, decide_eq_true_eq] at hc
    exact ⟨i, j, e1, e2, hc, p'.int s⟩
  · rw [if_neg hc] at p'; exact p'.stuck
theorem eY : Op2 K W own X (binaryOp .Mod) mZ := op_mod.imp fun x y H Q h => by
  obtain ⟨F, i, j, s, e1, e2, p⟩ := jd (fun a b => by cases a <;> cases b <;> first | exact .inr rfl | exact .inl ⟨_, _, rfl, rfl⟩) h
  have p' : aV K W own F H (if 0 < j then .ok (.int (i % j)) else stk) Q := p
  by_cases hc : 0 < j
  · rw [if_pos hc] at p'
    exact ⟨i, j, e1, e2, hc, p'.int s⟩
  · rw [if_neg hc] at p'; exact p'.stuck
theorem B0 : Op2 K W own X (binaryOp .Pow) powD := op_pow.imp fun x y H Q h => by
  obtain ⟨F, i, j, s, e1, e2, p⟩ := jd (fun a b => by cases a <;> cases b <;> first | exact .inr rfl | exact .inl ⟨_, _, rfl, rfl⟩) h
  have p' : aV K W own F H (if (decide (0 <= j) && decide (j <= 1000000) && decide (i.natAbs < 2 ^ 64)) = true then .ok (.int (i ^ j.toNat)) else stk) Q := p
  by_cases hc : (decide (0 <= j) && decide (j <= 1000000) && decide (i.natAbs < 2 ^ 64)) = true
  · rw [if_pos hc] at p'
    simp only [Bool.and_eq_true, decide_eq_true_eq] at hc
    exact ⟨i, j, e1, e2, ⟨hc.1.1, hc.1.2, hc.2⟩, p'.int s⟩
  · rw [if_neg hc] at p'; exact p'.stuck
theorem zt : UnR X (unaryOp .USub) (rD1 K W own Bt) := un_neg.imp fun x H Q h => by
  obtain ⟨F, a, s, qa, p⟩ := h
  cases a with
  | int i => exact ⟨i, qa, aV.int (own := own) p s⟩
  | _ => exact aV.stuck p
theorem o_lt : Op2 K W own X (compareOp .Lt) ltD := op_lt.imp fun x y H Q h => by
  obtain ⟨F, i, j, s, e1, e2, p⟩ := jd (fun a b => by cases a <;> cases b <;> first | exact .inr rfl | exact .inl ⟨_, _, rfl, rfl⟩) h
  exact ⟨i, j, e1, e2, p.bl s⟩
theorem o_le : Op2 K W own X (compareOp .LtE) leD := op_le.imp fun x y H Q h => by
  obtain ⟨F, i, j, s, e1, e2, p⟩ := jd (fun a b => by cases a <;> cases b <;> first | exact .inr rfl | exact .inl ⟨_, _, rfl, rfl⟩) h
  exact ⟨i, j, e1, e2, p.bl s⟩
theorem o_gt : Op2 K W own X (compareOp .Gt) gtD := op_gt.imp fun x y H Q h => by
  obtain ⟨F, i, j, s, e1, e2, p⟩ := jd (fun a b => by cases a <;> cases b <;> first | exact .inr rfl | exact .inl ⟨_, _, rfl, rfl⟩) h
  exact ⟨i, j, e1, e2, p.bl s⟩
theorem op_catL : OpR X (binaryOp .Add) (fun x y H Q => ∃ l b xs zs, x = .ref l /\ y = .ref b /\ SqL X.K H l xs /\ SqL X.K H b zs /\ xs.length + zs.length <= sizeLine /\ ∀ p, H p = none -> Q (.ref p) (upd H p (.lst (xs ++ zs)))) := by
  intro pins s σ H x y v u Q I rx ry h
  obtain ⟨l, b, xs, zs, rfl, rfl, hH, hB, hz, q⟩ := h
  cases rx
  cases ry
  obtain ⟨its, r, p1, hl⟩ := I.list hH
  obtain ⟨its2, r2, p2, hl2⟩ := I.list hB
  have z1 := r.length
  have z2 := r2.length
  obtain ⟨⟨cls, dd, data, sl⟩, ho, hc, n, hd⟩ := id p1.isList
  obtain ⟨⟨cls2, dd2, data2, sl2⟩, ho2, hc2, n2, hd2⟩ := id p2.isList
  simp only at hc hd hc2 hd2
  subst hc hd hc2 hd2
  refine concat_meets ⟨_, ho, rfl⟩ ⟨_, ho2, rfl⟩ noFill_list_add seq_list_add PySem.F.slot_list_add PySem.F.entry_list_add (PySem.F.args_list_add_2 _ _) (list_addW l b its.toArray its2.toArray n n2 dd dd2 sl sl2 (by simp only [List.size_toArray]; omega)) ⟨ho, ho2, ?_⟩
  have ea : its.toArray ++ its2.toArray = (its ++ its2).toArray := by simp
  rw [ea]
  exact ⟨.ref _, _, I.lnew (t' := s.toks) (r.append r2) (by rw [List.length_append]; omega), rfl, q _ I.fresh⟩
theorem op_cat3 : OpR X (binaryOp .Add) (fun x y H Q => ∃ a b xs ys, x = .ref a /\ y = .ref b /\ SqT X.K H a xs /\ SqT X.K H b ys /\ xs.length + ys.length <= sizeLine /\ (xs = [] -> Q (.ref b) H) /\ (ys = [] -> Q (.ref a) H) /\ ∀ p, H p = none -> Q (.ref p) (upd H p (.tup (xs ++ ys)))) := by
  intro pins s σ H x y v u Q I rx ry h
  obtain ⟨a, b, xs, ys, rfl, rfl, ha, hb, hz, q1, q2, q3⟩ := h
  by_cases hx : xs = []
  · subst hx
    cases rx
    cases ry
    obtain ⟨its, r1, p1, _⟩ := I.tuple ha
    obtain ⟨its2, r2, p2, _⟩ := I.tuple hb
    cases r1
    obtain ⟨⟨cls, dd, data, sl⟩, ho, hc, n, hd⟩ := id p1
    obtain ⟨⟨cls2, dd2, data2, sl2⟩, ho2, hc2, n2, hd2⟩ := id p2
    simp only at hc hd hc2 hd2
    subst hc hd hc2 hd2
    exact concat_meets ⟨_, ho, rfl⟩ ⟨_, ho2, rfl⟩ noFill_tuple_add seq_tuple_add PySem.F.slot_tuple_add PySem.F.entry_tuple_add (PySem.F.args_tuple_add_2 _ _)
      (tuple_addW0 a b #[] its2.toArray n n2 dd dd2 sl sl2 rfl) ⟨ho, ho2, ⟨.ref b, H, I, rfl, q1 rfl⟩⟩
  · exact op_catT pins s σ H _ _ v u Q I rx ry ⟨a, b, xs, ys, rfl, rfl, ha, hb, hx, hz, fun e => q2 e, fun _ p hp => q3 p hp⟩
theorem hI (hK : X.K = K := by rfl) : Op2 K W true X (binaryOp .Add) nv := by
  subst hK
  refine (op_add.or (AZ.or (op_catL.or op_cat3))).imp fun x y H Q h => ?_
  obtain ⟨F, a, b, s, qa, qb, p⟩ := h
  cases a with
  | int i =>
    cases b with
    | int j => exact .inl ⟨i, j, qa, qb, p.int s⟩
    | _ => exact aV.stuck p
  | str z =>
    cases b with
    | str w =>
      have p' : aV X.K W true F H (if z.length + w.length <= sizeLine then .ok (.str (z ++ w)) else stk) Q := p
      by_cases hc : z.length + w.length <= sizeLine
      · rw [if_pos hc] at p'
        exact .inr (.inl ⟨z, w, qa, qb, hc, p'.str s⟩)
      · rw [if_neg hc] at p'; exact p'.stuck
    | _ => exact aV.stuck p
  | lst ds =>
    cases b with
    | lst es =>
      obtain ⟨a, xs, e1, t1, r1⟩ := qa
      obtain ⟨b, ys, e2, t2, r2⟩ := qb
      have p' : aV X.K W true F H (if ds.length + es.length <= sizeLine then .ok (.lst (ds ++ es)) else stk) Q := p
      by_cases hc : ds.length + es.length <= sizeLine
      · rw [if_pos hc] at p'
        exact .inr (.inr (.inl ⟨a, b, xs, ys, e1, e2, s.lst t1, s.lst t2, by rw [r1.length, r2.length]; exact hc, fun l hl => p'.lst s (r1.append r2) hl⟩))
      · rw [if_neg hc] at p'; exact p'.stuck
    | _ => exact aV.stuck p
  | tup ds =>
    cases b with
    | tup es =>
      obtain ⟨a, xs, e1, t1, r1⟩ := qa
      obtain ⟨b, ys, e2, t2, r2⟩ := qb
      have p' : aV X.K W true F H (if ds.length + es.length <= sizeLine then .ok (.tup (ds ++ es)) else stk) Q := p
      by_cases hc : ds.length + es.length <= sizeLine
      · rw [if_pos hc] at p'
        refine .inr (.inr (.inr ⟨a, b, xs, ys, e1, e2, s.tup t1, s.tup t2, by rw [r1.length, r2.length]; exact hc, fun e => ?_, fun e => ?_, fun l hl => p'.tup s (r1.append r2) hl⟩))
        · have z : ds = [] := by have := r1.length; rw [e] at this; exact List.length_eq_zero_iff.mp this.symm
          subst z
          exact p'.same s ⟨b, ys, rfl, t2, r2⟩
        · have z : es = [] := by have := r2.length; rw [e] at this; exact List.length_eq_zero_iff.mp this.symm
          subst z
          rw [List.append_nil] at p'
          exact p'.same s ⟨a, xs, rfl, t1, r1⟩
      · rw [if_neg hc] at p'; exact p'.stuck
    | _ => exact aV.stuck p
  | _ => exact aV.stuck p
theorem o_isN : Op2 K W own X (compareOp .Is) isND := op_isN.imp fun x y H Q h => by
  obtain ⟨F, a, b, s, qa, qb, p⟩ := h
  have key : ∀ {k : Bool}, isND a b = .ok (.bl k) -> b = .non -> (decide (x = V.non) = k) -> y = V.non /\ Q (.bl (decide (x = V.non))) H := fun {k} e1 e2 e3 => by
    subst e2
    rw [e1] at p
    rw [e3]
    exact ⟨qb, p.bl s⟩
  cases b with
  | non =>
    cases a with
    | non => exact key rfl rfl (by rw [show x = .non from qa]; rfl)
    | bl k => exact key rfl rfl (by rw [show x = .bl k from qa]; rfl)
    | int k => exact key rfl rfl (by rw [show x = .int k from qa]; rfl)
    | str k => exact key rfl rfl (by rw [show x = .str k from qa]; rfl)
    | tup ds => obtain ⟨l, xs, e, _⟩ := qa; exact key rfl rfl (by rw [e]; rfl)
    | lst ds => obtain ⟨l, xs, e, _⟩ := qa; exact key rfl rfl (by rw [e]; rfl)
    | ins C fs => obtain ⟨l, dx, xs, e, _⟩ := qa; exact key rfl rfl (by rw [e]; rfl)
  | _ => cases a <;> exact aV.stuck p
theorem Cv {F H : Hp} {Q : VK} {ds : List Dat} {xs : List V} {i : Int} (p : aV K W false F H (n6 ds i) Q) (s : bg F H) (r : au K F ds xs) : ∃ v, atI xs i = some v /\ Q v H := by
  unfold n6 at p
  cases e : atI ds i with
  | none => rw [e] at p; exact aV.stuck p
  | some d =>
    rw [e] at p
    unfold atI at e
    cases hj : ixN ds.length i with
    | none => rw [hj] at e; cases e
    | some j =>
      rw [hj] at e
      obtain ⟨v, e1, q⟩ := r.get (show ds[j]? = some d from e)
      refine ⟨v, ?_, p v F H (Step.refl s) q⟩
      unfold atI
      rw [r.length, hj]
      exact e1
theorem eS (hK : X.K = K := by rfl) : IxR X (rD2 K W false ixD) := by
  subst hK
  refine Cj.imp fun x y H Q h => ?_
  obtain ⟨F, a, b, s, qa, qb, p⟩ := h
  cases a with
  | lst ds =>
    cases b with
    | int i =>
      obtain ⟨a, xs, e1, t1, r1⟩ := qa
      obtain ⟨v, e2, q⟩ := Cv p s r1
      exact .inl ⟨a, xs, i, v, e1, qb, s.lst t1, e2, q⟩
    | _ => exact aV.stuck p
  | tup ds =>
    cases b with
    | int i =>
      obtain ⟨a, xs, e1, t1, r1⟩ := qa
      obtain ⟨v, e2, q⟩ := Cv p s r1
      exact .inr (.inl ⟨a, xs, i, v, e1, qb, s.tup t1, e2, q⟩)
    | _ => exact aV.stuck p
  | _ => exact aV.stuck p
theorem nt (hK : X.K = K := by rfl) : wO K W own X (.builtin "len") ur := by
  subst hK
  refine mG.imp fun xs H Q h => ?_
  obtain ⟨F, ds, s, q, p⟩ := h
  match ds, q, p with
  | [.lst es], ⟨v, vs, e, ⟨a, ys, e1, t, r⟩, e2⟩, p =>
    refine ⟨a, ys, by rw [e, e1, show vs = [] from e2], .inl (s.lst t), ?_⟩
    rw [r.length]
    exact aV.int (own := own) p s
  | [.tup es], ⟨v, vs, e, ⟨a, ys, e1, t, r⟩, e2⟩, p =>
    refine ⟨a, ys, by rw [e, e1, show vs = [] from e2], .inr (s.tup t), ?_⟩
    rw [r.length]
    exact aV.int (own := own) p s
  | [], _, p => exact aV.stuck p
  | [.non], _, p => exact aV.stuck p
  | [.bl _], _, p => exact aV.stuck p
  | [.int _], _, p => exact aV.stuck p
  | [.str _], _, p => exact aV.stuck p
  | [.ins _ _], _, p => exact aV.stuck p
  | .non :: _ :: _, _, p => exact aV.stuck p
  | .bl _ :: _ :: _, _, p => exact aV.stuck p
  | .int _ :: _ :: _, _, p => exact aV.stuck p
  | .str _ :: _ :: _, _, p => exact aV.stuck p
  | .ins _ _ :: _ :: _, _, p => exact aV.stuck p
  | .lst _ :: _ :: _, _, p => exact aV.stuck p
  | .tup _ :: _ :: _, _, p => exact aV.stuck p
end
end L2
namespace L2
open PySem PySem.Spec PyProof.Rows
section
variable {X : Cx} {K : PySem.W.Frag} {W : gH} {own ro : Bool}
theorem vk {g : List Dat -> M Dat} (hg : ∀ ds, (∃ d, ds = [d]) \/ g ds = stk) {xs : List V} {H : Hp} {Q : VK} (h : rDL K W own g xs H Q) : ∃ F d x, bg F H /\ xs = [x] /\ cI K F d x /\ aV K W own F H (g [d]) Q := by
  obtain ⟨F, ds, s, q, p⟩ := h
  rcases hg ds with ⟨d, rfl⟩ | e
  · obtain ⟨v, vs, e, q1, e2⟩ := q
    exact ⟨F, d, v, s, by rw [e, show vs = [] from e2], q1, p⟩
  · rw [e] at p; exact p.stuck
theorem two_arg {g : List Dat -> M Dat} (hg : ∀ ds, (∃ d, ds = [d]) \/ (∃ d e, ds = [d, e]) \/ g ds = stk) {xs : List V} {H : Hp} {Q : VK} (h : rDL K W own g xs H Q) : (∃ F d x, bg F H /\ xs = [x] /\ cI K F d x /\ aV K W own F H (g [d]) Q) \/ ∃ F d e x y, bg F H /\ xs = [x, y] /\ cI K F d x /\ cI K F e y /\ aV K W own F H (g [d, e]) Q := by
  obtain ⟨F, ds, s, q, p⟩ := h
  rcases hg ds with ⟨d, rfl⟩ | ⟨d, e, rfl⟩ | e
  · obtain ⟨v, vs, e, q1, e2⟩ := q
    exact .inl ⟨F, d, v, s, by rw [e, show vs = [] from e2], q1, p⟩
  · obtain ⟨v, vs, e1, q1, w, ws, e2, q2, e3⟩ := q
    exact .inr ⟨F, d, e, v, w, s, by rw [e1, e2, show ws = [] from e3], q1, q2, p⟩
  · rw [e] at p; exact p.stuck
theorem uI {F : Hp} : ∀ {ds : List Dat} {xs : List V} {bs : List Bool}, au K F ds xs -> iY ds = .ok bs -> xs = bs.map V.bl
  | [], _, _, q, e => by cases e; exact q
  | d :: ds, _, bs, ⟨v, vs, e1, q, r⟩, e => by
    cases d with
    | bl b =>
      cases e2 : iY ds with
      | error x => simp only [iY, asB, ak, e2, kW] at e; cases e
      | ok cs =>
        simp only [iY, asB, ak, e2] at e
        cases e
        rw [e1, show v = .bl b from q, uI r e2]
        rfl
    | _ => cases e
theorem uJ : ∀ {ds : List Dat} {e : Err}, iY ds = .error e -> e = .stuck
  | [], _, h => by cases h
  | d :: ds, e, h => by
    cases d with
    | bl b =>
      cases e2 : iY ds with
      | error x => simp only [iY, asB, ak, e2, kW] at h; cases h; exact uJ e2
      | ok cs => simp only [iY, asB, ak, e2] at h; cases h
    | _ => cases h; rfl
theorem m7 {F : Hp} : ∀ {ds : List Dat} {xs : List V} {bs : List Int}, au K F ds xs -> e8 ds = .ok bs -> xs = bs.map V.int
  | [], _, _, q, e => by cases e; exact q
  | d :: ds, _, bs, ⟨v, vs, e1, q, r⟩, e => by
    cases d with
    | int b =>
      cases e2 : e8 ds with
      | error x => simp only [e8, asI, ak, e2, kW] at e; cases e
      | ok cs =>
        simp only [e8, asI, ak, e2] at e
        cases e
        rw [e1, show v = .int b from q, m7 r e2]
        rfl
    | _ => cases e
theorem pG : ∀ {ds : List Dat} {e : Err}, e8 ds = .error e -> e = .stuck
  | [], _, h => by cases h
  | d :: ds, e, h => by
    cases d with
    | int b =>
      cases e2 : e8 ds with
      | error x => simp only [e8, asI, ak, e2, kW] at h; cases h; exact pG e2
      | ok cs => simp only [e8, asI, ak, e2] at h; cases h
    | _ => cases h; rfl
theorem c_all (hc : X.calm = true) (hK : X.K = K := by rfl) : wO K W own X (.builtin "all") allD := by
  subst hK
  refine (call_all hc).imp fun xs H Q h => ?_
  obtain ⟨F, d, x, s, e, q, p⟩ := vk (fun ds => by match ds with | [d] => exact .inl ⟨d, rfl⟩ | [] => exact .inr rfl | a :: b :: c => exact .inr (by cases a <;> rfl)) h
  cases d with
  | lst ds =>
    obtain ⟨a, ys, e1, t, r⟩ := q
    have p' : aV X.K W own F H ((iY ds).bind fun bs => .ok (.bl (bs.all id))) Q := p
    cases eb : iY ds with
    | error z => rw [eb] at p'; have := uJ eb; subst this; exact aV.stuck p'
    | ok bs =>
      rw [eb] at p'
      refine ⟨a, bs, by rw [e, e1], ?_, aV.bl (own := own) p' s⟩
      rw [<- uI r eb]
      exact s.lst t
  | _ => exact aV.stuck p
theorem AD (hK : X.K = K := by rfl) : wO K W true X (.type "list") pB := by
  subst hK
  refine yG.imp fun xs H Q h => ?_
  obtain ⟨F, d, x, s, e, q, p⟩ := vk (fun ds => by match ds with | [d] => exact .inl ⟨d, rfl⟩ | [] => exact .inr rfl | a :: b :: c => exact .inr (by cases a <;> rfl)) h
  cases d with
  | lst ds =>
    obtain ⟨a, ys, e1, t, r⟩ := q
    exact ⟨a, ys, by rw [e, e1], .inl (s.lst t), fun l hl => aV.lst p s r hl⟩
  | tup ds =>
    obtain ⟨a, ys, e1, t, r⟩ := q
    exact ⟨a, ys, by rw [e, e1], .inr (s.tup t), fun l hl => aV.lst p s r hl⟩
  | _ => exact aV.stuck p
theorem qH (hK : X.K = K := by rfl) : wO K W own X (.type "tuple") nA := by
  subst hK
  refine wB.imp fun xs H Q h => ?_
  obtain ⟨F, d, x, s, e, q, p⟩ := vk (fun ds => by match ds with | [d] => exact .inl ⟨d, rfl⟩ | [] => exact .inr rfl | a :: b :: c => exact .inr (by cases a <;> rfl)) h
  cases d with
  | lst ds =>
    obtain ⟨a, ys, e1, t, r⟩ := q
    exact ⟨a, ys, by rw [e, e1], .inl ⟨s.lst t, fun l hl => aV.tup p s r hl⟩⟩
  | tup ds =>
    obtain ⟨a, ys, e1, t, r⟩ := q
    subst e1
    exact ⟨a, ys, e, .inr ⟨s.tup t, aV.same (own := own) p s ⟨a, ys, rfl, t, r⟩⟩⟩
  | _ => exact aV.stuck p
theorem fold_max : ∀ (is : List Int) (i : Int), (is.foldl gZ i = i \/ is.foldl gZ i ∈ is) /\ i <= is.foldl gZ i /\ ∀ a ∈ is, a <= is.foldl gZ i
  | [], i => ⟨.inl rfl, Int.le_refl _, fun _ h => nomatch h⟩
  | j :: is, i => by
    obtain ⟨h1, h2, h3⟩ := fold_max is (gZ i j)
    have z : (gZ i j = i \/ gZ i j = j) /\ i <= gZ i j /\ j <= gZ i j := by unfold gZ; split <;> (refine ⟨?_, ?_, ?_⟩ <;> first | exact .inl rfl | exact .inr rfl | omega)
    rw [List.foldl_cons]
    refine ⟨?_, Int.le_trans z.2.1 h2, fun a ha => ?_⟩
    · rcases h1 with h1 | h1
      · rw [h1]
        rcases z.1 with z | z
        · exact .inl z
        · exact .inr (by rw [z]; exact List.mem_cons_self)
      · exact .inr (List.mem_cons_of_mem _ h1)
    · rcases List.mem_cons.mp ha with e | e
      · rw [e]; exact Int.le_trans z.2.2 h2
      · exact h3 a e
theorem zB {is : List Int} {i m : Int} (h1 : m ∈ i :: is) (h2 : ∀ a ∈ i :: is, a <= m) : is.foldl gZ i = m := by
  obtain ⟨g1, g2, g3⟩ := fold_max is i
  have a1 : is.foldl gZ i <= m := by
    rcases g1 with g | g
    · rw [g]; exact h2 i List.mem_cons_self
    · exact h2 _ (List.mem_cons_of_mem _ g)
  have a2 : m <= is.foldl gZ i := by
    rcases List.mem_cons.mp h1 with e | e
    · rw [e]; exact g2
    · exact g3 m e
  omega
theorem CQ (hc : X.calm = true) : i5 X (.builtin "max") (fun xs H Q => ∃ a i is, xs = [.ref a] /\ SqL X.K H a ((i :: is).map V.int) /\ Q (.int (is.foldl gZ i)) H) := by
  intro pins s σ H xs us Q I r h
  obtain ⟨a, i, is, rfl, hq, q⟩ := h
  obtain ⟨u, rfl, ru⟩ := r.one
  cases ru
  obtain ⟨its, rv, p, hz⟩ := I.list hq
  have hi := intsAre_of rv
  obtain ⟨xs, e⟩ := hi.allInts.items
  have hns : i :: is = xs.toList.map (·.1) := by rw [<- hi.numsOf, <- nums_intItems, <- e]
  have hsz : 0 < xs.size := by
    have h3 := congrArg List.length hns
    simp at h3
    omega
  have hl := p.isList
  rw [e] at hl
  refine max_intList (I.ok.hd hc) hl hsz fun v h' tk hv hk => ?_
  obtain ⟨t, rfl⟩ := intItems_at hv
  obtain ⟨h1, h2⟩ := argBest_gt (numAt xs) (xs.size - 1)
  refine ⟨.int _, H, I.kept hk, ⟨t, rfl⟩, ?_⟩
  have := zB (is := is) (i := i) (m := numAt xs (argBest (fun i j => decide (numAt xs i > numAt xs j)) (xs.size - 1))) (by
      rw [hns, numAt_eq]; exact getD_mem (by rw [List.length_map, Array.length_toList]; omega)) (fun a ha => by
      rw [hns] at ha
      obtain ⟨j, hj, rfl⟩ := mem_getD ha
      rw [List.length_map, Array.length_toList] at hj
      rw [<- numAt_eq]; exact h2 j (by omega))
  rw [<- this]
  exact q
theorem Bm (hc : X.calm = true) (hK : X.K = K := by rfl) : wO K W own X (.builtin "max") maxD := by
  subst hK
  refine ((CS hc).or (CQ hc)).imp fun xs H Q h => ?_
  rcases two_arg (fun ds => by match ds with | [d] => exact .inl ⟨d, rfl⟩ | [d, e] => exact .inr (.inl ⟨d, e, rfl⟩) | [] => exact .inr (.inr rfl) | a :: b :: c :: d => exact .inr (.inr (by cases a <;> cases b <;> rfl))) h with ⟨F, d, x, s, e, q, p⟩ | ⟨F, d, d2, x, y, s, e, q, q2, p⟩
  · cases d with
    | lst ds =>
      obtain ⟨a, ys, e1, t, r⟩ := q
      have p' : aV X.K W own F H ((e8 ds).bind maxL) Q := p
      cases eb : e8 ds with
      | error z => rw [eb] at p'; have := pG eb; subst this; exact aV.stuck p'
      | ok is =>
        rw [eb] at p'
        cases is with
        | nil => exact aV.stuck p'
        | cons i is =>
          refine .inr ⟨a, i, is, by rw [e, e1], ?_, aV.int (own := own) p' s⟩
          rw [<- m7 r eb]
          exact s.lst t
    | _ => exact aV.stuck p
  · cases d with
    | int i =>
      cases d2 with
      | int j => exact .inl ⟨i, j, by rw [e, show x = .int i from q, show y = .int j from q2], aV.int (own := own) p s⟩
      | _ => exact aV.stuck p
    | _ => cases d2 <;> exact aV.stuck p
end
section
variable {X : Cx} {K : PySem.W.Frag} {W : gH} {own ro : Bool}
theorem SqL.inj {pins : List (Addr × Obj)} {σ : St} {H : Hp} {s : Shared} {a : Addr} {xs ys : List V} (I : Inv X pins σ H s) (h : SqL X.K H a xs) (h' : SqL X.K H a ys) : xs = ys := by
  obtain ⟨i1, r1, p1, _⟩ := I.list h
  obtain ⟨i2, r2, p2, _⟩ := I.list h'
  obtain ⟨o, n, e, _, _, d⟩ := p1
  obtain ⟨o', n', e', _, _, d'⟩ := p2
  rw [e] at e'
  cases e'
  rw [d] at d'
  injection d' with d1 _
  have : i1 = i2 := by simpa using congrArg Array.toList d1
  subst this
  exact r1.inj r2
theorem SqT.inj {pins : List (Addr × Obj)} {σ : St} {H : Hp} {s : Shared} {a : Addr} {xs ys : List V} (I : Inv X pins σ H s) (h : SqT X.K H a xs) (h' : SqT X.K H a ys) : xs = ys := by
  obtain ⟨i1, r1, p1, _⟩ := I.tuple h
  obtain ⟨i2, r2, p2, _⟩ := I.tuple h'
  obtain ⟨o, e, _, n, d⟩ := p1
  obtain ⟨o', e', _, n', d'⟩ := p2
  rw [e] at e'
  cases e'
  rw [d] at d'
  injection d' with d1 _
  have : i1 = i2 := by simpa using congrArg Array.toList d1
  subst this
  exact r1.inj r2
theorem au.all_eq {F : Hp} (e : Nat -> Bool) : ∀ {ds es : List Dat}, ds.length = es.length -> (∀ (j : Nat) a b, ds[j]? = some a -> es[j]? = some b -> e j = eqD a b) -> (List.range ds.length).all e = qR ds es := by
  intro ds
  induction ds generalizing e with
  | nil => intro es h _; cases es with
    | nil => rfl
    | cons _ _ => simp at h
  | cons d ds ih =>
    intro es h q
    cases es with
    | nil => simp at h
    | cons b es =>
      rw [List.length_cons, List.range_succ_eq_map, List.all_cons, List.all_map, qR]
      rw [q 0 d b rfl rfl]
      congr 1
      exact ih (e ∘ Nat.succ) (by simpa using h) fun j x y hx hy => q (j + 1) x y (by simpa using hx) (by simpa using hy)
theorem pL : ∀ {ds es : List Dat}, ds.length ≠ es.length -> qR ds es = false
  | [], [], h => absurd rfl h
  | [], _ :: _, _ => rfl
  | _ :: _, [], _ => rfl
  | d :: ds, e :: es, h => by
    rw [qR, pL (ds := ds) (es := es) (fun z => h (by simp [z])), Bool.and_false]
theorem vZ (e : Nat -> Bool) : ∀ {ds es : List Dat}, (∀ (j : Nat) a b, ds[j]? = some a -> es[j]? = some b -> e j = eqD a b) -> ((List.range (min ds.length es.length)).all e && ds.length == es.length) = qR ds es := by
  intro ds es q
  by_cases hl : ds.length = es.length
  · have e1 : min ds.length es.length = ds.length := by omega
    rw [e1, au.all_eq (F := fun _ => none) e hl q, hl, beq_self_eq_true, Bool.and_true]
  · rw [pL hl]
    have : (ds.length == es.length) = false := by simpa using hl
    rw [this, Bool.and_false]
mutual
theorem w9 : ∀ {d : Dat} {n : Nat}, okE d n = true -> eqD d d = true
  | .non, _, _ => rfl
  | .bl b, _, _ => by simp [eqD]
  | .int i, _, _ => by simp [eqD]
  | .str x, _, _ => by simp [eqD]
  | .tup ds, 0, h => by simp [okE] at h
  | .tup ds, n + 1, h => by simp only [okE] at h; simp only [eqD]; exact sH h
  | .lst ds, 0, h => by simp [okE] at h
  | .lst ds, n + 1, h => by simp only [okE] at h; simp only [eqD]; exact sH h
  | .ins _ _, _, h => by simp [okE] at h
theorem sH : ∀ {ds : List Dat} {n : Nat}, jW ds n = true -> qR ds ds = true
  | [], _, _ => rfl
  | d :: ds, n, h => by
    simp only [jW, Bool.and_eq_true] at h
    simp only [qR, w9 h.1, sH h.2, Bool.and_self]
end
theorem dZ : ∀ {ds : List Dat} {n i : Nat} {d : Dat}, jW ds n = true -> ds[i]? = some d -> okE d n = true
  | [], _, _, _, _, h => by simp at h
  | _ :: _, _, 0, _, h, e => by
    simp only [jW, Bool.and_eq_true] at h
    simp at e
    rw [<- e]; exact h.1
  | _ :: _, _, i + 1, _, h, e => by
    simp only [jW, Bool.and_eq_true] at h
    exact dZ h.2 (by simpa using e)
end
noncomputable def ip (ds es : List Dat) (j : Nat) : Bool := match ds[j]?, es[j]? with
  | some a, some b => eqD a b
  | _, _ => true
section
variable {X : Cx}
mutual
theorem deep_inj {pins : List (Addr × Obj)} {σ : St} {F H : Hp} {s : Shared} (I : Inv X pins σ H s) (hF : bg F H) : ∀ (d e : Dat) {v : V} {n : Nat}, cI X.K F d v -> cI X.K F e v -> okE d n = true -> okE e n = true -> d = e
  | .non, .non, v, n, q, r, o1, o2 => by
      rfl
  | .non, .bl b, v, n, q, r, o1, o2 => by
      have e1 : v = .non := q
      have e2 : v = .bl b := r
      rw [e1] at e2
      cases e2
  | .non, .int b, v, n, q, r, o1, o2 => by
      have e1 : v = .non := q
      have e2 : v = .int b := r
      rw [e1] at e2
      cases e2
  | .non, .str b, v, n, q, r, o1, o2 => by
      have e1 : v = .non := q
      have e2 : v = .str b := r
      rw [e1] at e2
      cases e2
  | .non, .tup es, v, n, q, r, o1, o2 => by
      have e1 : v = .non := q
      obtain ⟨l, xs, e2, _⟩ := r
      rw [e1] at e2
      cases e2
  | .non, .lst es, v, n, q, r, o1, o2 => by
      have e1 : v = .non := q
      obtain ⟨l, xs, e2, _⟩ := r
      rw [e1] at e2
      cases e2
  | .bl a, .non, v, n, q, r, o1, o2 => by
      have e1 : v = .bl a := q
      have e2 : v = .non := r
      rw [e1] at e2
      cases e2
  | .bl a, .bl b, v, n, q, r, o1, o2 => by
      have e1 : v = .bl a := q
      have e2 : v = .bl b := r
      rw [e1] at e2
      cases e2
      rfl
  | .bl a, .int b, v, n, q, r, o1, o2 => by
      have e1 : v = .bl a := q
      have e2 : v = .int b := r
      rw [e1] at e2
      cases e2
  | .bl a, .str b, v, n, q, r, o1, o2 => by
      have e1 : v = .bl a := q
      have e2 : v = .str b := r
      rw [e1] at e2
      cases e2
  | .bl a, .tup es, v, n, q, r, o1, o2 => by
      have e1 : v = .bl a := q
      obtain ⟨l, xs, e2, _⟩ := r
      rw [e1] at e2
      cases e2
  | .bl a, .lst es, v, n, q, r, o1, o2 => by
      have e1 : v = .bl a := q
      obtain ⟨l, xs, e2, _⟩ := r
      rw [e1] at e2
      cases e2
  | .int a, .non, v, n, q, r, o1, o2 => by
      have e1 : v = .int a := q
      have e2 : v = .non := r
      rw [e1] at e2
      cases e2
  | .int a, .bl b, v, n, q, r, o1, o2 => by
      have e1 : v = .int a := q
      have e2 : v = .bl b := r
      rw [e1] at e2
      cases e2
  | .int a, .int b, v, n, q, r, o1, o2 => by
      have e1 : v = .int a := q
      have e2 : v = .int b := r
      rw [e1] at e2
      cases e2
      rfl
  | .int a, .str b, v, n, q, r, o1, o2 => by
      have e1 : v = .int a := q
      have e2 : v = .str b := r
      rw [e1] at e2
      cases e2
  | .int a, .tup es, v, n, q, r, o1, o2 => by
      have e1 : v = .int a := q
      obtain ⟨l, xs, e2, _⟩ := r
      rw [e1] at e2
      cases e2
  | .int a, .lst es, v, n, q, r, o1, o2 => by
      have e1 : v = .int a := q
      obtain ⟨l, xs, e2, _⟩ := r
      rw [e1] at e2
      cases e2
  | .str a, .non, v, n, q, r, o1, o2 => by
      have e1 : v = .str a := q
      have e2 : v = .non := r
      rw [e1] at e2
      cases e2
  | .str a, .bl b, v, n, q, r, o1, o2 => by
      have e1 : v = .str a := q
      have e2 : v = .bl b := r
      rw [e1] at e2
      cases e2
  | .str a, .int b, v, n, q, r, o1, o2 => by
      have e1 : v = .str a := q
      have e2 : v = .int b := r
      rw [e1] at e2
      cases e2
  | .str a, .str b, v, n, q, r, o1, o2 => by
      have e1 : v = .str a := q
      have e2 : v = .str b := r
      rw [e1] at e2
      cases e2
      rfl
  | .str a, .tup es, v, n, q, r, o1, o2 => by
      have e1 : v = .str a := q
      obtain ⟨l, xs, e2, _⟩ := r
      rw [e1] at e2
      cases e2
  | .str a, .lst es, v, n, q, r, o1, o2 => by
      have e1 : v = .str a := q
      obtain ⟨l, xs, e2, _⟩ := r
      rw [e1] at e2
      cases e2
  | .tup ds, .non, v, n, q, r, o1, o2 => by
      have e1 : v = .non := r
      obtain ⟨l, xs, e2, _⟩ := q
      rw [e1] at e2
      cases e2
  | .tup ds, .bl b, v, n, q, r, o1, o2 => by
      have e1 : v = .bl b := r
      obtain ⟨l, xs, e2, _⟩ := q
      rw [e1] at e2
      cases e2
  | .tup ds, .int b, v, n, q, r, o1, o2 => by
      have e1 : v = .int b := r
      obtain ⟨l, xs, e2, _⟩ := q
      rw [e1] at e2
      cases e2
  | .tup ds, .str b, v, n, q, r, o1, o2 => by
      have e1 : v = .str b := r
      obtain ⟨l, xs, e2, _⟩ := q
      rw [e1] at e2
      cases e2
  | .tup ds, .tup es, v, n, q, r, o1, o2 => by
      obtain ⟨l, xs, e1, h1, r1⟩ := q
      obtain ⟨l2, ys, e2, h2, r2⟩ := r
      rw [e1] at e2
      cases e2
      have e3 := SqT.inj I (hF.tup h1) (hF.tup h2)
      subst e3
      cases n with
      | zero => exact absurd o1 (by simp [okE])
      | succ n => rw [mn I hF ds es r1 r2 (by simpa only [okE] using o1) (by simpa only [okE] using o2)]
  | .tup ds, .lst es, v, n, q, r, o1, o2 => by
      obtain ⟨l, xs, e1, h1, r1⟩ := q
      obtain ⟨l2, ys, e2, h2, r2⟩ := r
      rw [e1] at e2
      cases e2
      obtain ⟨i1, _, p1, _⟩ := I.list (hF.lst h2)
      obtain ⟨i2, _, p2, _⟩ := I.tuple (hF.tup h1)
      exact absurd rfl (SeqAt.ne_of_list_tuple p1.isList (show s.heap.IsTuple l i2.toArray from p2))
  | .lst ds, .non, v, n, q, r, o1, o2 => by
      have e1 : v = .non := r
      obtain ⟨l, xs, e2, _⟩ := q
      rw [e1] at e2
      cases e2
  | .lst ds, .bl b, v, n, q, r, o1, o2 => by
      have e1 : v = .bl b := r
      obtain ⟨l, xs, e2, _⟩ := q
      rw [e1] at e2
      cases e2
  | .lst ds, .int b, v, n, q, r, o1, o2 => by
      have e1 : v = .int b := r
      obtain ⟨l, xs, e2, _⟩ := q
      rw [e1] at e2
      cases e2
  | .lst ds, .str b, v, n, q, r, o1, o2 => by
      have e1 : v = .str b := r
      obtain ⟨l, xs, e2, _⟩ := q
      rw [e1] at e2
      cases e2
  | .lst ds, .tup es, v, n, q, r, o1, o2 => by
      obtain ⟨l, xs, e1, h1, r1⟩ := q
      obtain ⟨l2, ys, e2, h2, r2⟩ := r
      rw [e1] at e2
      cases e2
      obtain ⟨i1, _, p1, _⟩ := I.list (hF.lst h1)
      obtain ⟨i2, _, p2, _⟩ := I.tuple (hF.tup h2)
      exact absurd rfl (SeqAt.ne_of_list_tuple p1.isList (show s.heap.IsTuple l i2.toArray from p2))
  | .lst ds, .lst es, v, n, q, r, o1, o2 => by
      obtain ⟨l, xs, e1, h1, r1⟩ := q
      obtain ⟨l2, ys, e2, h2, r2⟩ := r
      rw [e1] at e2
      cases e2
      have e3 := SqL.inj I (hF.lst h1) (hF.lst h2)
      subst e3
      cases n with
      | zero => exact absurd o1 (by simp [okE])
      | succ n => rw [mn I hF ds es r1 r2 (by simpa only [okE] using o1) (by simpa only [okE] using o2)]
  | .ins _ _, _, _, _, _, _, o1, _ => by simp [okE] at o1
  | _, .ins _ _, _, _, _, _, _, o2 => by simp [okE] at o2
theorem mn {pins : List (Addr × Obj)} {σ : St} {F H : Hp} {s : Shared} (I : Inv X pins σ H s) (hF : bg F H) : ∀ (ds es : List Dat) {xs : List V} {n : Nat}, au X.K F ds xs -> au X.K F es xs -> jW ds n = true -> jW es n = true -> ds = es
  | [], [], _, _, _, _, _, _ => rfl
  | [], _ :: _, _, _, q, ⟨_, _, e, _⟩, _, _ => by rw [show _ = [] from q] at e; cases e
  | _ :: _, [], _, _, ⟨_, _, e, _⟩, q, _, _ => by rw [show _ = [] from q] at e; cases e
  | d :: ds, e :: es, _, n, ⟨v, vs, e1, q1, r1⟩, ⟨w, ws, e2, q2, r2⟩, o1, o2 => by
    rw [e1] at e2
    cases e2
    simp only [jW, Bool.and_eq_true] at o1 o2
    rw [deep_inj I hF d e q1 q2 o1.1 o2.1, mn I hF ds es r1 r2 o1.2 o2.2]
end
end
section
variable {X : Cx} {K : PySem.W.Frag} {W : gH} {own ro : Bool}
mutual
theorem eqAt_D {pins : List (Addr × Obj)} {σ : St} {F H : Hp} {s : Shared} (I : Inv X pins σ H s) (hF : bg F H) : ∀ (a b : Dat) {n : Nat} {x y : V} {u v : Value} {A : Around}, okE a n = true -> okE b n = true -> cI X.K F a x -> cI X.K F b y -> RelV x u -> RelV y v -> A.units + n < cLine -> SeqAt.EqAt A s u v (eqD a b)
  | .non, .non, n, x, y, u, v, A, oa, ob, qa, qb, ra, rb, hu => by
      cases (show x = .non from qa)
      cases ra
      cases (show y = .non from qb)
      cases rb
      exact SeqAt.EqAt.same _
  | .non, .bl b, n, x, y, u, v, A, oa, ob, qa, qb, ra, rb, hu => by
      cases (show x = .non from qa)
      cases ra
      cases (show y = .bl b from qb)
      cases rb
      exact SeqAt.EqAt.none_bool b
  | .non, .int b, n, x, y, u, v, A, oa, ob, qa, qb, ra, rb, hu => by
      cases (show x = .non from qa)
      cases ra
      cases (show y = .int b from qb)
      obtain ⟨t2, rfl⟩ := rb
      exact SeqAt.EqAt.none_int b t2
  | .non, .str b, n, x, y, u, v, A, oa, ob, qa, qb, ra, rb, hu => by
      cases (show x = .non from qa)
      cases ra
      cases (show y = .str b from qb)
      obtain ⟨t2, rfl⟩ := rb
      exact SeqAt.EqAt.none_str b t2
  | .non, .tup es, n, x, y, u, v, A, oa, ob, qa, qb, ra, rb, hu => by
      cases (show x = .non from qa)
      cases ra
      obtain ⟨l2, ys, e2, h2, r2⟩ := qb
      subst e2
      cases rb
      obtain ⟨js, w2, p2, _⟩ := I.tuple (hF.tup h2)
      exact SeqAt.EqAt.none_tuple (show s.heap.IsTuple l2 js.toArray from p2) (by omega)
  | .non, .lst es, n, x, y, u, v, A, oa, ob, qa, qb, ra, rb, hu => by
      cases (show x = .non from qa)
      cases ra
      obtain ⟨l2, ys, e2, h2, r2⟩ := qb
      subst e2
      cases rb
      obtain ⟨js, w2, p2, _⟩ := I.list (hF.lst h2)
      exact SeqAt.EqAt.none_list p2.isList (by omega)
  | .bl a, .non, n, x, y, u, v, A, oa, ob, qa, qb, ra, rb, hu => by
      cases (show x = .bl a from qa)
      cases ra
      cases (show y = .non from qb)
      cases rb
      exact SeqAt.EqAt.bool_none a
  | .bl a, .bl b, n, x, y, u, v, A, oa, ob, qa, qb, ra, rb, hu => by
      cases (show x = .bl a from qa)
      cases ra
      cases (show y = .bl b from qb)
      cases rb
      exact SeqAt.EqAt.bool_bool a b
  | .bl a, .int b, n, x, y, u, v, A, oa, ob, qa, qb, ra, rb, hu => by
      cases (show x = .bl a from qa)
      cases ra
      cases (show y = .int b from qb)
      obtain ⟨t2, rfl⟩ := rb
      exact SeqAt.EqAt.bool_int a b t2
  | .bl a, .str b, n, x, y, u, v, A, oa, ob, qa, qb, ra, rb, hu => by
      cases (show x = .bl a from qa)
      cases ra
      cases (show y = .str b from qb)
      obtain ⟨t2, rfl⟩ := rb
      exact SeqAt.EqAt.bool_str a b t2
  | .bl a, .tup es, n, x, y, u, v, A, oa, ob, qa, qb, ra, rb, hu => by
      cases (show x = .bl a from qa)
      cases ra
      obtain ⟨l2, ys, e2, h2, r2⟩ := qb
      subst e2
      cases rb
      obtain ⟨js, w2, p2, _⟩ := I.tuple (hF.tup h2)
      exact SeqAt.EqAt.bool_tuple a (show s.heap.IsTuple l2 js.toArray from p2) (by omega)
  | .bl a, .lst es, n, x, y, u, v, A, oa, ob, qa, qb, ra, rb, hu => by
      cases (show x = .bl a from qa)
      cases ra
      obtain ⟨l2, ys, e2, h2, r2⟩ := qb
      subst e2
      cases rb
      obtain ⟨js, w2, p2, _⟩ := I.list (hF.lst h2)
      exact SeqAt.EqAt.bool_list a p2.isList (by omega)
  | .int a, .non, n, x, y, u, v, A, oa, ob, qa, qb, ra, rb, hu => by
      cases (show x = .int a from qa)
      obtain ⟨t1, rfl⟩ := ra
      cases (show y = .non from qb)
      cases rb
      exact SeqAt.EqAt.int_none a t1
  | .int a, .bl b, n, x, y, u, v, A, oa, ob, qa, qb, ra, rb, hu => by
      cases (show x = .int a from qa)
      obtain ⟨t1, rfl⟩ := ra
      cases (show y = .bl b from qb)
      cases rb
      exact SeqAt.EqAt.int_bool a t1 b
  | .int a, .int b, n, x, y, u, v, A, oa, ob, qa, qb, ra, rb, hu => by
      cases (show x = .int a from qa)
      obtain ⟨t1, rfl⟩ := ra
      cases (show y = .int b from qb)
      obtain ⟨t2, rfl⟩ := rb
      exact SeqAt.EqAt.int_int a t1 b t2
  | .int a, .str b, n, x, y, u, v, A, oa, ob, qa, qb, ra, rb, hu => by
      cases (show x = .int a from qa)
      obtain ⟨t1, rfl⟩ := ra
      cases (show y = .str b from qb)
      obtain ⟨t2, rfl⟩ := rb
      exact SeqAt.EqAt.int_str a t1 b t2
  | .int a, .tup es, n, x, y, u, v, A, oa, ob, qa, qb, ra, rb, hu => by
      cases (show x = .int a from qa)
      obtain ⟨t1, rfl⟩ := ra
      obtain ⟨l2, ys, e2, h2, r2⟩ := qb
      subst e2
      cases rb
      obtain ⟨js, w2, p2, _⟩ := I.tuple (hF.tup h2)
      exact SeqAt.EqAt.int_tuple a t1 (show s.heap.IsTuple l2 js.toArray from p2) (by omega)
  | .int a, .lst es, n, x, y, u, v, A, oa, ob, qa, qb, ra, rb, hu => by
      cases (show x = .int a from qa)
      obtain ⟨t1, rfl⟩ := ra
      obtain ⟨l2, ys, e2, h2, r2⟩ := qb
      subst e2
      cases rb
      obtain ⟨js, w2, p2, _⟩ := I.list (hF.lst h2)
      exact SeqAt.EqAt.int_list a t1 p2.isList (by omega)
  | .str a, .non, n, x, y, u, v, A, oa, ob, qa, qb, ra, rb, hu => by
      cases (show x = .str a from qa)
      obtain ⟨t1, rfl⟩ := ra
      cases (show y = .non from qb)
      cases rb
      exact SeqAt.EqAt.str_none a t1
  | .str a, .bl b, n, x, y, u, v, A, oa, ob, qa, qb, ra, rb, hu => by
      cases (show x = .str a from qa)
      obtain ⟨t1, rfl⟩ := ra
      cases (show y = .bl b from qb)
      cases rb
      exact SeqAt.EqAt.str_bool a t1 b
  | .str a, .int b, n, x, y, u, v, A, oa, ob, qa, qb, ra, rb, hu => by
      cases (show x = .str a from qa)
      obtain ⟨t1, rfl⟩ := ra
      cases (show y = .int b from qb)
      obtain ⟨t2, rfl⟩ := rb
      exact SeqAt.EqAt.str_int a t1 b t2
  | .str a, .str b, n, x, y, u, v, A, oa, ob, qa, qb, ra, rb, hu => by
      cases (show x = .str a from qa)
      obtain ⟨t1, rfl⟩ := ra
      cases (show y = .str b from qb)
      obtain ⟨t2, rfl⟩ := rb
      exact SeqAt.EqAt.str_str a t1 b t2
  | .str a, .tup es, n, x, y, u, v, A, oa, ob, qa, qb, ra, rb, hu => by
      cases (show x = .str a from qa)
      obtain ⟨t1, rfl⟩ := ra
      obtain ⟨l2, ys, e2, h2, r2⟩ := qb
      subst e2
      cases rb
      obtain ⟨js, w2, p2, _⟩ := I.tuple (hF.tup h2)
      exact SeqAt.EqAt.str_tuple a t1 (show s.heap.IsTuple l2 js.toArray from p2) (by omega)
  | .str a, .lst es, n, x, y, u, v, A, oa, ob, qa, qb, ra, rb, hu => by
      cases (show x = .str a from qa)
      obtain ⟨t1, rfl⟩ := ra
      obtain ⟨l2, ys, e2, h2, r2⟩ := qb
      subst e2
      cases rb
      obtain ⟨js, w2, p2, _⟩ := I.list (hF.lst h2)
      exact SeqAt.EqAt.str_list a t1 p2.isList (by omega)
  | .tup ds, .non, n, x, y, u, v, A, oa, ob, qa, qb, ra, rb, hu => by
      obtain ⟨l1, xs, e1, h1, r1⟩ := qa
      subst e1
      cases ra
      obtain ⟨is, w1, p1, _⟩ := I.tuple (hF.tup h1)
      cases (show y = .non from qb)
      cases rb
      exact SeqAt.EqAt.tuple_none (show s.heap.IsTuple l1 is.toArray from p1) (by omega)
  | .tup ds, .bl b, n, x, y, u, v, A, oa, ob, qa, qb, ra, rb, hu => by
      obtain ⟨l1, xs, e1, h1, r1⟩ := qa
      subst e1
      cases ra
      obtain ⟨is, w1, p1, _⟩ := I.tuple (hF.tup h1)
      cases (show y = .bl b from qb)
      cases rb
      exact SeqAt.EqAt.tuple_bool b (show s.heap.IsTuple l1 is.toArray from p1) (by omega)
  | .tup ds, .int b, n, x, y, u, v, A, oa, ob, qa, qb, ra, rb, hu => by
      obtain ⟨l1, xs, e1, h1, r1⟩ := qa
      subst e1
      cases ra
      obtain ⟨is, w1, p1, _⟩ := I.tuple (hF.tup h1)
      cases (show y = .int b from qb)
      obtain ⟨t2, rfl⟩ := rb
      exact SeqAt.EqAt.tuple_int b t2 (show s.heap.IsTuple l1 is.toArray from p1) (by omega)
  | .tup ds, .str b, n, x, y, u, v, A, oa, ob, qa, qb, ra, rb, hu => by
      obtain ⟨l1, xs, e1, h1, r1⟩ := qa
      subst e1
      cases ra
      obtain ⟨is, w1, p1, _⟩ := I.tuple (hF.tup h1)
      cases (show y = .str b from qb)
      obtain ⟨t2, rfl⟩ := rb
      exact SeqAt.EqAt.tuple_str b t2 (show s.heap.IsTuple l1 is.toArray from p1) (by omega)
  | .tup ds, .tup es, n, x, y, u, v, A, oa, ob, qa, qb, ra, rb, hu => by
      obtain ⟨l1, xs, e1, h1, r1⟩ := qa
      subst e1
      cases ra
      obtain ⟨is, w1, p1, _⟩ := I.tuple (hF.tup h1)
      obtain ⟨l2, ys, e2, h2, r2⟩ := qb
      subst e2
      cases rb
      obtain ⟨js, w2, p2, _⟩ := I.tuple (hF.tup h2)
      have z1 := w1.length
      have z2 := w2.length
      have y1 := r1.length
      have y2 := r2.length
      cases n with
      | zero => exact absurd oa (by simp [okE])
      | succ n =>
        have oa' : jW ds n = true := by simpa only [okE] using oa
        have ob' : jW es n = true := by simpa only [okE] using ob
        by_cases hab : l1 = l2
        · subst hab
          have e3 := SqT.inj I (hF.tup h1) (hF.tup h2)
          subst e3
          have e4 : ds = es := mn I hF ds es r1 r2 oa' ob'
          subst e4
          rw [w9 (n := n + 1) oa]
          exact SeqAt.EqAt.same _
        · have q := SeqAt.RcAt.tuples (A := A) (e := ip ds es) (show s.heap.IsTuple l1 is.toArray from p1) (show s.heap.IsTuple l2 js.toArray from p2) (by omega) (fun j h1 h2 => by
            obtain ⟨x', f1, g1⟩ := w1.atA h1
            obtain ⟨y', f2, g2⟩ := w2.atA h2
            obtain ⟨d1, k1, m1⟩ := r1.at f1
            obtain ⟨d2, k2, m2⟩ := r2.at f2
            have q := oI I hF ds j d1 k1 d2 (n := n) (A := A.in1) (dZ oa' k1) (dZ ob' k2) m1 m2 g1 g2 (by show A.units + 1 + n < cLine; omega)
            have e5 : ip ds es j = eqD d1 d2 := by simp only [ip, k1, k2]
            rw [e5]
            exact q
            )
          have ez : is.toArray.size = ds.length := by simp; omega
          have ez2 : js.toArray.size = es.length := by simp; omega
          rw [ez, ez2, vZ _ (fun j a b h1 h2 => by simp only [ip, h1, h2])] at q
          exact SeqAt.EqAt.of_refs hab q
  | .tup ds, .lst es, n, x, y, u, v, A, oa, ob, qa, qb, ra, rb, hu => by
      obtain ⟨l1, xs, e1, h1, r1⟩ := qa
      subst e1
      cases ra
      obtain ⟨is, w1, p1, _⟩ := I.tuple (hF.tup h1)
      obtain ⟨l2, ys, e2, h2, r2⟩ := qb
      subst e2
      cases rb
      obtain ⟨js, w2, p2, _⟩ := I.list (hF.lst h2)
      exact SeqAt.EqAt.tuple_list (show s.heap.IsTuple l1 is.toArray from p1) p2.isList (by omega)
  | .lst ds, .non, n, x, y, u, v, A, oa, ob, qa, qb, ra, rb, hu => by
      obtain ⟨l1, xs, e1, h1, r1⟩ := qa
      subst e1
      cases ra
      obtain ⟨is, w1, p1, _⟩ := I.list (hF.lst h1)
      cases (show y = .non from qb)
      cases rb
      exact SeqAt.EqAt.list_none p1.isList (by omega)
  | .lst ds, .bl b, n, x, y, u, v, A, oa, ob, qa, qb, ra, rb, hu => by
      obtain ⟨l1, xs, e1, h1, r1⟩ := qa
      subst e1
      cases ra
      obtain ⟨is, w1, p1, _⟩ := I.list (hF.lst h1)
      cases (show y = .bl b from qb)
      cases rb
      exact SeqAt.EqAt.list_bool b p1.isList (by omega)
  | .lst ds, .int b, n, x, y, u, v, A, oa, ob, qa, qb, ra, rb, hu => by
      obtain ⟨l1, xs, e1, h1, r1⟩ := qa
      subst e1
      cases ra
      obtain ⟨is, w1, p1, _⟩ := I.list (hF.lst h1)
      cases (show y = .int b from qb)
      obtain ⟨t2, rfl⟩ := rb
      exact SeqAt.EqAt.list_int b t2 p1.isList (by omega)
  | .lst ds, .str b, n, x, y, u, v, A, oa, ob, qa, qb, ra, rb, hu => by
      obtain ⟨l1, xs, e1, h1, r1⟩ := qa
      subst e1
      cases ra
      obtain ⟨is, w1, p1, _⟩ := I.list (hF.lst h1)
      cases (show y = .str b from qb)
      obtain ⟨t2, rfl⟩ := rb
      exact SeqAt.EqAt.list_str b t2 p1.isList (by omega)
  | .lst ds, .tup es, n, x, y, u, v, A, oa, ob, qa, qb, ra, rb, hu => by
      obtain ⟨l1, xs, e1, h1, r1⟩ := qa
      subst e1
      cases ra
      obtain ⟨is, w1, p1, _⟩ := I.list (hF.lst h1)
      obtain ⟨l2, ys, e2, h2, r2⟩ := qb
      subst e2
      cases rb
      obtain ⟨js, w2, p2, _⟩ := I.tuple (hF.tup h2)
      exact SeqAt.EqAt.list_tuple p1.isList (show s.heap.IsTuple l2 js.toArray from p2) (by omega)
  | .lst ds, .lst es, n, x, y, u, v, A, oa, ob, qa, qb, ra, rb, hu => by
      obtain ⟨l1, xs, e1, h1, r1⟩ := qa
      subst e1
      cases ra
      obtain ⟨is, w1, p1, _⟩ := I.list (hF.lst h1)
      obtain ⟨l2, ys, e2, h2, r2⟩ := qb
      subst e2
      cases rb
      obtain ⟨js, w2, p2, _⟩ := I.list (hF.lst h2)
      have z1 := w1.length
      have z2 := w2.length
      have y1 := r1.length
      have y2 := r2.length
      cases n with
      | zero => exact absurd oa (by simp [okE])
      | succ n =>
        have oa' : jW ds n = true := by simpa only [okE] using oa
        have ob' : jW es n = true := by simpa only [okE] using ob
        by_cases hab : l1 = l2
        · subst hab
          have e3 := SqL.inj I (hF.lst h1) (hF.lst h2)
          subst e3
          have e4 : ds = es := mn I hF ds es r1 r2 oa' ob'
          subst e4
          rw [w9 (n := n + 1) oa]
          exact SeqAt.EqAt.same _
        · by_cases hl : ds.length = es.length
          · have q := SeqAt.RcAt.lists (A := A) (e := ip ds es) p1.isList p2.isList (by simp; omega) (by omega) (fun j h1 h2 => by
              obtain ⟨x', f1, g1⟩ := w1.atA h1
              obtain ⟨y', f2, g2⟩ := w2.atA h2
              obtain ⟨d1, k1, m1⟩ := r1.at f1
              obtain ⟨d2, k2, m2⟩ := r2.at f2
              have q := oI I hF ds j d1 k1 d2 (n := n) (A := A.in1) (dZ oa' k1) (dZ ob' k2) m1 m2 g1 g2 (by show A.units + 1 + n < cLine; omega)
              have e5 : ip ds es j = eqD d1 d2 := by simp only [ip, k1, k2]
              rw [e5]
              exact q
              )
            have ez : is.toArray.size = ds.length := by simp; omega
            rw [ez, au.all_eq (F := F) _ hl (fun j a b h1 h2 => by simp only [ip, h1, h2])] at q
            exact SeqAt.EqAt.of_refs hab q
          · rw [show eqD (.lst ds) (.lst es) = false from pL hl]
            exact SeqAt.EqAt.of_refs hab (SeqAt.RcAt.lists_lengths (A := A) p1.isList p2.isList (by simp; omega) (by omega))
  | .ins _ _, _, _, _, _, _, _, _, oa, _, _, _, _, _, _ => by simp [okE] at oa
  | _, .ins _ _, _, _, _, _, _, _, _, ob, _, _, _, _, _ => by simp [okE] at ob
theorem oI {pins : List (Addr × Obj)} {σ : St} {F H : Hp} {s : Shared} (I : Inv X pins σ H s) (hF : bg F H) : ∀ (ds : List Dat) (j : Nat) (a : Dat), ds[j]? = some a -> ∀ (b : Dat) {n : Nat} {x y : V} {u v : Value} {A : Around}, okE a n = true -> okE b n = true -> cI X.K F a x -> cI X.K F b y -> RelV x u -> RelV y v -> A.units + n < cLine -> SeqAt.EqAt A s u v (eqD a b)
  | [], j, _, h => by simp at h
  | d :: ds, 0, _, h => by
    simp only [List.getElem?_cons_zero, Option.some.injEq] at h
    subst h
    exact eqAt_D I hF d
  | d :: ds, j + 1, a, h => oI I hF ds j a (by simpa using h)
end
theorem rcAt_D {pins : List (Addr × Obj)} {σ : St} {F H : Hp} {s : Shared} (I : Inv X pins σ H s) (hF : bg F H) : ∀ (a b : Dat) {n : Nat} {x y : V} {u v : Value} {A : Around}, okE a n = true -> okE b n = true -> cI X.K F a x -> cI X.K F b y -> RelV x u -> RelV y v -> A.units + n < cLine -> SeqAt.RcAt A s u v (eqD a b)
  | .non, .non, n, x, y, u, v, A, oa, ob, qa, qb, ra, rb, hu => by
      cases (show x = .non from qa)
      cases ra
      cases (show y = .non from qb)
      cases rb
      exact SeqAt.RcAt.none_none
  | .non, .bl b, n, x, y, u, v, A, oa, ob, qa, qb, ra, rb, hu => by
      cases (show x = .non from qa)
      cases ra
      cases (show y = .bl b from qb)
      cases rb
      exact SeqAt.RcAt.none_bool b
  | .non, .int b, n, x, y, u, v, A, oa, ob, qa, qb, ra, rb, hu => by
      cases (show x = .non from qa)
      cases ra
      cases (show y = .int b from qb)
      obtain ⟨t2, rfl⟩ := rb
      exact SeqAt.RcAt.none_int b t2
  | .non, .str b, n, x, y, u, v, A, oa, ob, qa, qb, ra, rb, hu => by
      cases (show x = .non from qa)
      cases ra
      cases (show y = .str b from qb)
      obtain ⟨t2, rfl⟩ := rb
      exact SeqAt.RcAt.none_str b t2
  | .non, .tup es, n, x, y, u, v, A, oa, ob, qa, qb, ra, rb, hu => by
      cases (show x = .non from qa)
      cases ra
      obtain ⟨l2, ys, e2, h2, r2⟩ := qb
      subst e2
      cases rb
      obtain ⟨js, w2, p2, _⟩ := I.tuple (hF.tup h2)
      exact SeqAt.RcAt.none_tuple (show s.heap.IsTuple l2 js.toArray from p2) (by omega)
  | .non, .lst es, n, x, y, u, v, A, oa, ob, qa, qb, ra, rb, hu => by
      cases (show x = .non from qa)
      cases ra
      obtain ⟨l2, ys, e2, h2, r2⟩ := qb
      subst e2
      cases rb
      obtain ⟨js, w2, p2, _⟩ := I.list (hF.lst h2)
      exact SeqAt.RcAt.none_list p2.isList (by omega)
  | .bl a, .non, n, x, y, u, v, A, oa, ob, qa, qb, ra, rb, hu => by
      cases (show x = .bl a from qa)
      cases ra
      cases (show y = .non from qb)
      cases rb
      exact SeqAt.RcAt.bool_none a
  | .bl a, .bl b, n, x, y, u, v, A, oa, ob, qa, qb, ra, rb, hu => by
      cases (show x = .bl a from qa)
      cases ra
      cases (show y = .bl b from qb)
      cases rb
      exact SeqAt.RcAt.bool_bool a b
  | .bl a, .int b, n, x, y, u, v, A, oa, ob, qa, qb, ra, rb, hu => by
      cases (show x = .bl a from qa)
      cases ra
      cases (show y = .int b from qb)
      obtain ⟨t2, rfl⟩ := rb
      exact SeqAt.RcAt.bool_int a b t2
  | .bl a, .str b, n, x, y, u, v, A, oa, ob, qa, qb, ra, rb, hu => by
      cases (show x = .bl a from qa)
      cases ra
      cases (show y = .str b from qb)
      obtain ⟨t2, rfl⟩ := rb
      exact SeqAt.RcAt.bool_str a b t2
  | .bl a, .tup es, n, x, y, u, v, A, oa, ob, qa, qb, ra, rb, hu => by
      cases (show x = .bl a from qa)
      cases ra
      obtain ⟨l2, ys, e2, h2, r2⟩ := qb
      subst e2
      cases rb
      obtain ⟨js, w2, p2, _⟩ := I.tuple (hF.tup h2)
      exact SeqAt.RcAt.bool_tuple a (show s.heap.IsTuple l2 js.toArray from p2) (by omega)
  | .bl a, .lst es, n, x, y, u, v, A, oa, ob, qa, qb, ra, rb, hu => by
      cases (show x = .bl a from qa)
      cases ra
      obtain ⟨l2, ys, e2, h2, r2⟩ := qb
      subst e2
      cases rb
      obtain ⟨js, w2, p2, _⟩ := I.list (hF.lst h2)
      exact SeqAt.RcAt.bool_list a p2.isList (by omega)
  | .int a, .non, n, x, y, u, v, A, oa, ob, qa, qb, ra, rb, hu => by
      cases (show x = .int a from qa)
      obtain ⟨t1, rfl⟩ := ra
      cases (show y = .non from qb)
      cases rb
      exact SeqAt.RcAt.int_none a t1
  | .int a, .bl b, n, x, y, u, v, A, oa, ob, qa, qb, ra, rb, hu => by
      cases (show x = .int a from qa)
      obtain ⟨t1, rfl⟩ := ra
      cases (show y = .bl b from qb)
      cases rb
      exact SeqAt.RcAt.int_bool a t1 b
  | .int a, .int b, n, x, y, u, v, A, oa, ob, qa, qb, ra, rb, hu => by
      cases (show x = .int a from qa)
      obtain ⟨t1, rfl⟩ := ra
      cases (show y = .int b from qb)
      obtain ⟨t2, rfl⟩ := rb
      exact SeqAt.RcAt.int_int a t1 b t2
  | .int a, .str b, n, x, y, u, v, A, oa, ob, qa, qb, ra, rb, hu => by
      cases (show x = .int a from qa)
      obtain ⟨t1, rfl⟩ := ra
      cases (show y = .str b from qb)
      obtain ⟨t2, rfl⟩ := rb
      exact SeqAt.RcAt.int_str a t1 b t2
  | .int a, .tup es, n, x, y, u, v, A, oa, ob, qa, qb, ra, rb, hu => by
      cases (show x = .int a from qa)
      obtain ⟨t1, rfl⟩ := ra
      obtain ⟨l2, ys, e2, h2, r2⟩ := qb
      subst e2
      cases rb
      obtain ⟨js, w2, p2, _⟩ := I.tuple (hF.tup h2)
      exact SeqAt.RcAt.int_tuple a t1 (show s.heap.IsTuple l2 js.toArray from p2) (by omega)
  | .int a, .lst es, n, x, y, u, v, A, oa, ob, qa, qb, ra, rb, hu => by
      cases (show x = .int a from qa)
      obtain ⟨t1, rfl⟩ := ra
      obtain ⟨l2, ys, e2, h2, r2⟩ := qb
      subst e2
      cases rb
      obtain ⟨js, w2, p2, _⟩ := I.list (hF.lst h2)
      exact SeqAt.RcAt.int_list a t1 p2.isList (by omega)
  | .str a, .non, n, x, y, u, v, A, oa, ob, qa, qb, ra, rb, hu => by
      cases (show x = .str a from qa)
      obtain ⟨t1, rfl⟩ := ra
      cases (show y = .non from qb)
      cases rb
      exact SeqAt.RcAt.str_none a t1
  | .str a, .bl b, n, x, y, u, v, A, oa, ob, qa, qb, ra, rb, hu => by
      cases (show x = .str a from qa)
      obtain ⟨t1, rfl⟩ := ra
      cases (show y = .bl b from qb)
      cases rb
      exact SeqAt.RcAt.str_bool a t1 b
  | .str a, .int b, n, x, y, u, v, A, oa, ob, qa, qb, ra, rb, hu => by
      cases (show x = .str a from qa)
      obtain ⟨t1, rfl⟩ := ra
      cases (show y = .int b from qb)
      obtain ⟨t2, rfl⟩ := rb
      exact SeqAt.RcAt.str_int a t1 b t2
  | .str a, .str b, n, x, y, u, v, A, oa, ob, qa, qb, ra, rb, hu => by
      cases (show x = .str a from qa)
      obtain ⟨t1, rfl⟩ := ra
      cases (show y = .str b from qb)
      obtain ⟨t2, rfl⟩ := rb
      exact SeqAt.RcAt.str_str a t1 b t2
  | .str a, .tup es, n, x, y, u, v, A, oa, ob, qa, qb, ra, rb, hu => by
      cases (show x = .str a from qa)
      obtain ⟨t1, rfl⟩ := ra
      obtain ⟨l2, ys, e2, h2, r2⟩ := qb
      subst e2
      cases rb
      obtain ⟨js, w2, p2, _⟩ := I.tuple (hF.tup h2)
      exact SeqAt.RcAt.str_tuple a t1 (show s.heap.IsTuple l2 js.toArray from p2) (by omega)
  | .str a, .lst es, n, x, y, u, v, A, oa, ob, qa, qb, ra, rb, hu => by
      cases (show x = .str a from qa)
      obtain ⟨t1, rfl⟩ := ra
      obtain ⟨l2, ys, e2, h2, r2⟩ := qb
      subst e2
      cases rb
      obtain ⟨js, w2, p2, _⟩ := I.list (hF.lst h2)
      exact SeqAt.RcAt.str_list a t1 p2.isList (by omega)
  | .tup ds, .non, n, x, y, u, v, A, oa, ob, qa, qb, ra, rb, hu => by
      obtain ⟨l1, xs, e1, h1, r1⟩ := qa
      subst e1
      cases ra
      obtain ⟨is, w1, p1, _⟩ := I.tuple (hF.tup h1)
      cases (show y = .non from qb)
      cases rb
      exact SeqAt.RcAt.tuple_none (show s.heap.IsTuple l1 is.toArray from p1) (by omega)
  | .tup ds, .bl b, n, x, y, u, v, A, oa, ob, qa, qb, ra, rb, hu => by
      obtain ⟨l1, xs, e1, h1, r1⟩ := qa
      subst e1
      cases ra
      obtain ⟨is, w1, p1, _⟩ := I.tuple (hF.tup h1)
      cases (show y = .bl b from qb)
      cases rb
      exact SeqAt.RcAt.tuple_bool b (show s.heap.IsTuple l1 is.toArray from p1) (by omega)
  | .tup ds, .int b, n, x, y, u, v, A, oa, ob, qa, qb, ra, rb, hu => by
      obtain ⟨l1, xs, e1, h1, r1⟩ := qa
      subst e1
      cases ra
      obtain ⟨is, w1, p1, _⟩ := I.tuple (hF.tup h1)
      cases (show y = .int b from qb)
      obtain ⟨t2, rfl⟩ := rb
      exact SeqAt.RcAt.tuple_int b t2 (show s.heap.IsTuple l1 is.toArray from p1) (by omega)
  | .tup ds, .str b, n, x, y, u, v, A, oa, ob, qa, qb, ra, rb, hu => by
      obtain ⟨l1, xs, e1, h1, r1⟩ := qa
      subst e1
      cases ra
      obtain ⟨is, w1, p1, _⟩ := I.tuple (hF.tup h1)
      cases (show y = .str b from qb)
      obtain ⟨t2, rfl⟩ := rb
      exact SeqAt.RcAt.tuple_str b t2 (show s.heap.IsTuple l1 is.toArray from p1) (by omega)
  | .tup ds, .tup es, n, x, y, u, v, A, oa, ob, qa, qb, ra, rb, hu => by
      obtain ⟨l1, xs, e1, h1, r1⟩ := qa
      subst e1
      cases ra
      obtain ⟨is, w1, p1, _⟩ := I.tuple (hF.tup h1)
      obtain ⟨l2, ys, e2, h2, r2⟩ := qb
      subst e2
      cases rb
      obtain ⟨js, w2, p2, _⟩ := I.tuple (hF.tup h2)
      have z1 := w1.length
      have z2 := w2.length
      have y1 := r1.length
      have y2 := r2.length
      cases n with
      | zero => exact absurd oa (by simp [okE])
      | succ n =>
        have oa' : jW ds n = true := by simpa only [okE] using oa
        have ob' : jW es n = true := by simpa only [okE] using ob
        have q := SeqAt.RcAt.tuples (A := A) (e := ip ds es) (show s.heap.IsTuple l1 is.toArray from p1) (show s.heap.IsTuple l2 js.toArray from p2) (by omega) (fun j h1 h2 => by
          obtain ⟨x', f1, g1⟩ := w1.atA h1
          obtain ⟨y', f2, g2⟩ := w2.atA h2
          obtain ⟨d1, k1, m1⟩ := r1.at f1
          obtain ⟨d2, k2, m2⟩ := r2.at f2
          have q := oI I hF ds j d1 k1 d2 (n := n) (A := A.in1) (dZ oa' k1) (dZ ob' k2) m1 m2 g1 g2 (by show A.units + 1 + n < cLine; omega)
          have e5 : ip ds es j = eqD d1 d2 := by simp only [ip, k1, k2]
          rw [e5]
          exact q
          )
        have ez : is.toArray.size = ds.length := by simp; omega
        have ez2 : js.toArray.size = es.length := by simp; omega
        rw [ez, ez2, vZ _ (fun j a b h1 h2 => by simp only [ip, h1, h2])] at q
        exact q
  | .tup ds, .lst es, n, x, y, u, v, A, oa, ob, qa, qb, ra, rb, hu => by
      obtain ⟨l1, xs, e1, h1, r1⟩ := qa
      subst e1
      cases ra
      obtain ⟨is, w1, p1, _⟩ := I.tuple (hF.tup h1)
      obtain ⟨l2, ys, e2, h2, r2⟩ := qb
      subst e2
      cases rb
      obtain ⟨js, w2, p2, _⟩ := I.list (hF.lst h2)
      exact SeqAt.RcAt.tuple_list (show s.heap.IsTuple l1 is.toArray from p1) p2.isList (by omega)
  | .lst ds, .non, n, x, y, u, v, A, oa, ob, qa, qb, ra, rb, hu => by
      obtain ⟨l1, xs, e1, h1, r1⟩ := qa
      subst e1
      cases ra
      obtain ⟨is, w1, p1, _⟩ := I.list (hF.lst h1)
      cases (show y = .non from qb)
      cases rb
      exact SeqAt.RcAt.list_none p1.isList (by omega)
  | .lst ds, .bl b, n, x, y, u, v, A, oa, ob, qa, qb, ra, rb, hu => by
      obtain ⟨l1, xs, e1, h1, r1⟩ := qa
      subst e1
      cases ra
      obtain ⟨is, w1, p1, _⟩ := I.list (hF.lst h1)
      cases (show y = .bl b from qb)
      cases rb
      exact SeqAt.RcAt.list_bool b p1.isList (by omega)
  | .lst ds, .int b, n, x, y, u, v, A, oa, ob, qa, qb, ra, rb, hu => by
      obtain ⟨l1, xs, e1, h1, r1⟩ := qa
      subst e1
      cases ra
      obtain ⟨is, w1, p1, _⟩ := I.list (hF.lst h1)
      cases (show y = .int b from qb)
      obtain ⟨t2, rfl⟩ := rb
      exact SeqAt.RcAt.list_int b t2 p1.isList (by omega)
  | .lst ds, .str b, n, x, y, u, v, A, oa, ob, qa, qb, ra, rb, hu => by
      obtain ⟨l1, xs, e1, h1, r1⟩ := qa
      subst e1
      cases ra
      obtain ⟨is, w1, p1, _⟩ := I.list (hF.lst h1)
      cases (show y = .str b from qb)
      obtain ⟨t2, rfl⟩ := rb
      exact SeqAt.RcAt.list_str b t2 p1.isList (by omega)
  | .lst ds, .tup es, n, x, y, u, v, A, oa, ob, qa, qb, ra, rb, hu => by
      obtain ⟨l1, xs, e1, h1, r1⟩ := qa
      subst e1
      cases ra
      obtain ⟨is, w1, p1, _⟩ := I.list (hF.lst h1)
      obtain ⟨l2, ys, e2, h2, r2⟩ := qb
      subst e2
      cases rb
      obtain ⟨js, w2, p2, _⟩ := I.tuple (hF.tup h2)
      exact SeqAt.RcAt.list_tuple p1.isList (show s.heap.IsTuple l2 js.toArray from p2) (by omega)
  | .lst ds, .lst es, n, x, y, u, v, A, oa, ob, qa, qb, ra, rb, hu => by
      obtain ⟨l1, xs, e1, h1, r1⟩ := qa
      subst e1
      cases ra
      obtain ⟨is, w1, p1, _⟩ := I.list (hF.lst h1)
      obtain ⟨l2, ys, e2, h2, r2⟩ := qb
      subst e2
      cases rb
      obtain ⟨js, w2, p2, _⟩ := I.list (hF.lst h2)
      have z1 := w1.length
      have z2 := w2.length
      have y1 := r1.length
      have y2 := r2.length
      cases n with
      | zero => exact absurd oa (by simp [okE])
      | succ n =>
        have oa' : jW ds n = true := by simpa only [okE] using oa
        have ob' : jW es n = true := by simpa only [okE] using ob
        by_cases hl : ds.length = es.length
        · have q := SeqAt.RcAt.lists (A := A) (e := ip ds es) p1.isList p2.isList (by simp; omega) (by omega) (fun j h1 h2 => by
            obtain ⟨x', f1, g1⟩ := w1.atA h1
            obtain ⟨y', f2, g2⟩ := w2.atA h2
            obtain ⟨d1, k1, m1⟩ := r1.at f1
            obtain ⟨d2, k2, m2⟩ := r2.at f2
            have q := oI I hF ds j d1 k1 d2 (n := n) (A := A.in1) (dZ oa' k1) (dZ ob' k2) m1 m2 g1 g2 (by show A.units + 1 + n < cLine; omega)
            have e5 : ip ds es j = eqD d1 d2 := by simp only [ip, k1, k2]
            rw [e5]
            exact q
            )
          have ez : is.toArray.size = ds.length := by simp; omega
          rw [ez, au.all_eq (F := F) _ hl (fun j a b h1 h2 => by simp only [ip, h1, h2])] at q
          exact q
        · rw [show eqD (.lst ds) (.lst es) = false from pL hl]
          exact SeqAt.RcAt.lists_lengths (A := A) p1.isList p2.isList (by simp; omega) (by omega)
  | .ins _ _, _, _, _, _, _, _, _, oa, _, _, _, _, _, _ => by simp [okE] at oa
  | _, .ins _ _, _, _, _, _, _, _, _, ob, _, _, _, _, _ => by simp [okE] at ob
theorem rcNeAt_D {pins : List (Addr × Obj)} {σ : St} {F H : Hp} {s : Shared} (I : Inv X pins σ H s) (hF : bg F H) : ∀ (a b : Dat) {n : Nat} {x y : V} {u v : Value} {A : Around}, okE a n = true -> okE b n = true -> cI X.K F a x -> cI X.K F b y -> RelV x u -> RelV y v -> A.units + n < cLine -> SeqAt.RcNeAt A s u v (!eqD a b)
  | .non, .non, n, x, y, u, v, A, oa, ob, qa, qb, ra, rb, hu => by
      cases (show x = .non from qa)
      cases ra
      cases (show y = .non from qb)
      cases rb
      exact SeqAt.RcNeAt.none_none
  | .non, .bl b, n, x, y, u, v, A, oa, ob, qa, qb, ra, rb, hu => by
      cases (show x = .non from qa)
      cases ra
      cases (show y = .bl b from qb)
      cases rb
      exact SeqAt.RcNeAt.none_bool b
  | .non, .int b, n, x, y, u, v, A, oa, ob, qa, qb, ra, rb, hu => by
      cases (show x = .non from qa)
      cases ra
      cases (show y = .int b from qb)
      obtain ⟨t2, rfl⟩ := rb
      exact SeqAt.RcNeAt.none_int b t2
  | .non, .str b, n, x, y, u, v, A, oa, ob, qa, qb, ra, rb, hu => by
      cases (show x = .non from qa)
      cases ra
      cases (show y = .str b from qb)
      obtain ⟨t2, rfl⟩ := rb
      exact SeqAt.RcNeAt.none_str b t2
  | .non, .tup es, n, x, y, u, v, A, oa, ob, qa, qb, ra, rb, hu => by
      cases (show x = .non from qa)
      cases ra
      obtain ⟨l2, ys, e2, h2, r2⟩ := qb
      subst e2
      cases rb
      obtain ⟨js, w2, p2, _⟩ := I.tuple (hF.tup h2)
      exact SeqAt.RcNeAt.none_tuple (show s.heap.IsTuple l2 js.toArray from p2) (by omega)
  | .non, .lst es, n, x, y, u, v, A, oa, ob, qa, qb, ra, rb, hu => by
      cases (show x = .non from qa)
      cases ra
      obtain ⟨l2, ys, e2, h2, r2⟩ := qb
      subst e2
      cases rb
      obtain ⟨js, w2, p2, _⟩ := I.list (hF.lst h2)
      exact SeqAt.RcNeAt.none_list p2.isList (by omega)
  | .bl a, .non, n, x, y, u, v, A, oa, ob, qa, qb, ra, rb, hu => by
      cases (show x = .bl a from qa)
      cases ra
      cases (show y = .non from qb)
      cases rb
      exact SeqAt.RcNeAt.bool_none a
  | .bl a, .bl b, n, x, y, u, v, A, oa, ob, qa, qb, ra, rb, hu => by
      cases (show x = .bl a from qa)
      cases ra
      cases (show y = .bl b from qb)
      cases rb
      exact SeqAt.RcNeAt.bool_bool a b
  | .bl a, .int b, n, x, y, u, v, A, oa, ob, qa, qb, ra, rb, hu => by
      cases (show x = .bl a from qa)
      cases ra
      cases (show y = .int b from qb)
      obtain ⟨t2, rfl⟩ := rb
      exact SeqAt.RcNeAt.bool_int a b t2
  | .bl a, .str b, n, x, y, u, v, A, oa, ob, qa, qb, ra, rb, hu => by
      cases (show x = .bl a from qa)
      cases ra
      cases (show y = .str b from qb)
      obtain ⟨t2, rfl⟩ := rb
      exact SeqAt.RcNeAt.bool_str a b t2
  | .bl a, .tup es, n, x, y, u, v, A, oa, ob, qa, qb, ra, rb, hu => by
      cases (show x = .bl a from qa)
      cases ra
      obtain ⟨l2, ys, e2, h2, r2⟩ := qb
      subst e2
      cases rb
      obtain ⟨js, w2, p2, _⟩ := I.tuple (hF.tup h2)
      exact SeqAt.RcNeAt.bool_tuple a (show s.heap.IsTuple l2 js.toArray from p2) (by omega)
  | .bl a, .lst es, n, x, y, u, v, A, oa, ob, qa, qb, ra, rb, hu => by
      cases (show x = .bl a from qa)
      cases ra
      obtain ⟨l2, ys, e2, h2, r2⟩ := qb
      subst e2
      cases rb
      obtain ⟨js, w2, p2, _⟩ := I.list (hF.lst h2)
      exact SeqAt.RcNeAt.bool_list a p2.isList (by omega)
  | .int a, .non, n, x, y, u, v, A, oa, ob, qa, qb, ra, rb, hu => by
      cases (show x = .int a from qa)
      obtain ⟨t1, rfl⟩ := ra
      cases (show y = .non from qb)
      cases rb
      exact SeqAt.RcNeAt.int_none a t1
  | .int a, .bl b, n, x, y, u, v, A, oa, ob, qa, qb, ra, rb, hu => by
      cases (show x = .int a from qa)
      obtain ⟨t1, rfl⟩ := ra
      cases (show y = .bl b from qb)
      cases rb
      exact SeqAt.RcNeAt.int_bool a t1 b
  | .int a, .int b, n, x, y, u, v, A, oa, ob, qa, qb, ra, rb, hu => by
      cases (show x = .int a from qa)
      obtain ⟨t1, rfl⟩ := ra
      cases (show y = .int b from qb)
      obtain ⟨t2, rfl⟩ := rb
      exact SeqAt.RcNeAt.int_int a t1 b t2
  | .int a, .str b, n, x, y, u, v, A, oa, ob, qa, qb, ra, rb, hu => by
      cases (show x = .int a from qa)
      obtain ⟨t1, rfl⟩ := ra
      cases (show y = .str b from qb)
      obtain ⟨t2, rfl⟩ := rb
      exact SeqAt.RcNeAt.int_str a t1 b t2
  | .int a, .tup es, n, x, y, u, v, A, oa, ob, qa, qb, ra, rb, hu => by
      cases (show x = .int a from qa)
      obtain ⟨t1, rfl⟩ := ra
      obtain ⟨l2, ys, e2, h2, r2⟩ := qb
      subst e2
      cases rb
      obtain ⟨js, w2, p2, _⟩ := I.tuple (hF.tup h2)
      exact SeqAt.RcNeAt.int_tuple a t1 (show s.heap.IsTuple l2 js.toArray from p2) (by omega)
  | .int a, .lst es, n, x, y, u, v, A, oa, ob, qa, qb, ra, rb, hu => by
      cases (show x = .int a from qa)
      obtain ⟨t1, rfl⟩ := ra
      obtain ⟨l2, ys, e2, h2, r2⟩ := qb
      subst e2
      cases rb
      obtain ⟨js, w2, p2, _⟩ := I.list (hF.lst h2)
      exact SeqAt.RcNeAt.int_list a t1 p2.isList (by omega)
  | .str a, .non, n, x, y, u, v, A, oa, ob, qa, qb, ra, rb, hu => by
      cases (show x = .str a from qa)
      obtain ⟨t1, rfl⟩ := ra
      cases (show y = .non from qb)
      cases rb
      exact SeqAt.RcNeAt.str_none a t1
  | .str a, .bl b, n, x, y, u, v, A, oa, ob, qa, qb, ra, rb, hu => by
      cases (show x = .str a from qa)
      obtain ⟨t1, rfl⟩ := ra
      cases (show y = .bl b from qb)
      cases rb
      exact SeqAt.RcNeAt.str_bool a t1 b
  | .str a, .int b, n, x, y, u, v, A, oa, ob, qa, qb, ra, rb, hu => by
      cases (show x = .str a from qa)
      obtain ⟨t1, rfl⟩ := ra
      cases (show y = .int b from qb)
      obtain ⟨t2, rfl⟩ := rb
      exact SeqAt.RcNeAt.str_int a t1 b t2
  | .str a, .str b, n, x, y, u, v, A, oa, ob, qa, qb, ra, rb, hu => by
      cases (show x = .str a from qa)
      obtain ⟨t1, rfl⟩ := ra
      cases (show y = .str b from qb)
      obtain ⟨t2, rfl⟩ := rb
      exact SeqAt.RcNeAt.str_str a t1 b t2
  | .str a, .tup es, n, x, y, u, v, A, oa, ob, qa, qb, ra, rb, hu => by
      cases (show x = .str a from qa)
      obtain ⟨t1, rfl⟩ := ra
      obtain ⟨l2, ys, e2, h2, r2⟩ := qb
      subst e2
      cases rb
      obtain ⟨js, w2, p2, _⟩ := I.tuple (hF.tup h2)
      exact SeqAt.RcNeAt.str_tuple a t1 (show s.heap.IsTuple l2 js.toArray from p2) (by omega)
  | .str a, .lst es, n, x, y, u, v, A, oa, ob, qa, qb, ra, rb, hu => by
      cases (show x = .str a from qa)
      obtain ⟨t1, rfl⟩ := ra
      obtain ⟨l2, ys, e2, h2, r2⟩ := qb
      subst e2
      cases rb
      obtain ⟨js, w2, p2, _⟩ := I.list (hF.lst h2)
      exact SeqAt.RcNeAt.str_list a t1 p2.isList (by omega)
  | .tup ds, .non, n, x, y, u, v, A, oa, ob, qa, qb, ra, rb, hu => by
      obtain ⟨l1, xs, e1, h1, r1⟩ := qa
      subst e1
      cases ra
      obtain ⟨is, w1, p1, _⟩ := I.tuple (hF.tup h1)
      cases (show y = .non from qb)
      cases rb
      exact SeqAt.RcNeAt.tuple_none (show s.heap.IsTuple l1 is.toArray from p1) (by omega)
  | .tup ds, .bl b, n, x, y, u, v, A, oa, ob, qa, qb, ra, rb, hu => by
      obtain ⟨l1, xs, e1, h1, r1⟩ := qa
      subst e1
      cases ra
      obtain ⟨is, w1, p1, _⟩ := I.tuple (hF.tup h1)
      cases (show y = .bl b from qb)
      cases rb
      exact SeqAt.RcNeAt.tuple_bool b (show s.heap.IsTuple l1 is.toArray from p1) (by omega)
  | .tup ds, .int b, n, x, y, u, v, A, oa, ob, qa, qb, ra, rb, hu => by
      obtain ⟨l1, xs, e1, h1, r1⟩ := qa
      subst e1
      cases ra
      obtain ⟨is, w1, p1, _⟩ := I.tuple (hF.tup h1)
      cases (show y = .int b from qb)
      obtain ⟨t2, rfl⟩ := rb
      exact SeqAt.RcNeAt.tuple_int b t2 (show s.heap.IsTuple l1 is.toArray from p1) (by omega)
  | .tup ds, .str b, n, x, y, u, v, A, oa, ob, qa, qb, ra, rb, hu => by
      obtain ⟨l1, xs, e1, h1, r1⟩ := qa
      subst e1
      cases ra
      obtain ⟨is, w1, p1, _⟩ := I.tuple (hF.tup h1)
      cases (show y = .str b from qb)
      obtain ⟨t2, rfl⟩ := rb
      exact SeqAt.RcNeAt.tuple_str b t2 (show s.heap.IsTuple l1 is.toArray from p1) (by omega)
  | .tup ds, .tup es, n, x, y, u, v, A, oa, ob, qa, qb, ra, rb, hu => by
      obtain ⟨l1, xs, e1, h1, r1⟩ := qa
      subst e1
      cases ra
      obtain ⟨is, w1, p1, _⟩ := I.tuple (hF.tup h1)
      obtain ⟨l2, ys, e2, h2, r2⟩ := qb
      subst e2
      cases rb
      obtain ⟨js, w2, p2, _⟩ := I.tuple (hF.tup h2)
      have z1 := w1.length
      have z2 := w2.length
      have y1 := r1.length
      have y2 := r2.length
      cases n with
      | zero => exact absurd oa (by simp [okE])
      | succ n =>
        have oa' : jW ds n = true := by simpa only [okE] using oa
        have ob' : jW es n = true := by simpa only [okE] using ob
        have q := SeqAt.RcNeAt.tuples (A := A) (e := ip ds es) (show s.heap.IsTuple l1 is.toArray from p1) (show s.heap.IsTuple l2 js.toArray from p2) (by omega) (fun j h1 h2 => by
          obtain ⟨x', f1, g1⟩ := w1.atA h1
          obtain ⟨y', f2, g2⟩ := w2.atA h2
          obtain ⟨d1, k1, m1⟩ := r1.at f1
          obtain ⟨d2, k2, m2⟩ := r2.at f2
          have q := oI I hF ds j d1 k1 d2 (n := n) (A := A.in1) (dZ oa' k1) (dZ ob' k2) m1 m2 g1 g2 (by show A.units + 1 + n < cLine; omega)
          have e5 : ip ds es j = eqD d1 d2 := by simp only [ip, k1, k2]
          rw [e5]
          exact q
          )
        have ez : is.toArray.size = ds.length := by simp; omega
        have ez2 : js.toArray.size = es.length := by simp; omega
        rw [ez, ez2, vZ _ (fun j a b h1 h2 => by simp only [ip, h1, h2])] at q
        exact q
  | .tup ds, .lst es, n, x, y, u, v, A, oa, ob, qa, qb, ra, rb, hu => by
      obtain ⟨l1, xs, e1, h1, r1⟩ := qa
      subst e1
      cases ra
      obtain ⟨is, w1, p1, _⟩ := I.tuple (hF.tup h1)
      obtain ⟨l2, ys, e2, h2, r2⟩ := qb
      subst e2
      cases rb
      obtain ⟨js, w2, p2, _⟩ := I.list (hF.lst h2)
      exact SeqAt.RcNeAt.tuple_list (show s.heap.IsTuple l1 is.toArray from p1) p2.isList (by omega)
  | .lst ds, .non, n, x, y, u, v, A, oa, ob, qa, qb, ra, rb, hu => by
      obtain ⟨l1, xs, e1, h1, r1⟩ := qa
      subst e1
      cases ra
      obtain ⟨is, w1, p1, _⟩ := I.list (hF.lst h1)
      cases (show y = .non from qb)
      cases rb
      exact SeqAt.RcNeAt.list_none p1.isList (by omega)
  | .lst ds, .bl b, n, x, y, u, v, A, oa, ob, qa, qb, ra, rb, hu => by
      obtain ⟨l1, xs, e1, h1, r1⟩ := qa
      subst e1
      cases ra
      obtain ⟨is, w1, p1, _⟩ := I.list (hF.lst h1)
      cases (show y = .bl b from qb)
      cases rb
      exact SeqAt.RcNeAt.list_bool b p1.isList (by omega)
  | .lst ds, .int b, n, x, y, u, v, A, oa, ob, qa, qb, ra, rb, hu => by
      obtain ⟨l1, xs, e1, h1, r1⟩ := qa
      subst e1
      cases ra
      obtain ⟨is, w1, p1, _⟩ := I.list (hF.lst h1)
      cases (show y = .int b from qb)
      obtain ⟨t2, rfl⟩ := rb
      exact SeqAt.RcNeAt.list_int b t2 p1.isList (by omega)
  | .lst ds, .str b, n, x, y, u, v, A, oa, ob, qa, qb, ra, rb, hu => by
      obtain ⟨l1, xs, e1, h1, r1⟩ := qa
      subst e1
      cases ra
      obtain ⟨is, w1, p1, _⟩ := I.list (hF.lst h1)
      cases (show y = .str b from qb)
      obtain ⟨t2, rfl⟩ := rb
      exact SeqAt.RcNeAt.list_str b t2 p1.isList (by omega)
  | .lst ds, .tup es, n, x, y, u, v, A, oa, ob, qa, qb, ra, rb, hu => by
      obtain ⟨l1, xs, e1, h1, r1⟩ := qa
      subst e1
      cases ra
      obtain ⟨is, w1, p1, _⟩ := I.list (hF.lst h1)
      obtain ⟨l2, ys, e2, h2, r2⟩ := qb
      subst e2
      cases rb
      obtain ⟨js, w2, p2, _⟩ := I.tuple (hF.tup h2)
      exact SeqAt.RcNeAt.list_tuple p1.isList (show s.heap.IsTuple l2 js.toArray from p2) (by omega)
  | .lst ds, .lst es, n, x, y, u, v, A, oa, ob, qa, qb, ra, rb, hu => by
      obtain ⟨l1, xs, e1, h1, r1⟩ := qa
      subst e1
      cases ra
      obtain ⟨is, w1, p1, _⟩ := I.list (hF.lst h1)
      obtain ⟨l2, ys, e2, h2, r2⟩ := qb
      subst e2
      cases rb
      obtain ⟨js, w2, p2, _⟩ := I.list (hF.lst h2)
      have z1 := w1.length
      have z2 := w2.length
      have y1 := r1.length
      have y2 := r2.length
      cases n with
      | zero => exact absurd oa (by simp [okE])
      | succ n =>
        have oa' : jW ds n = true := by simpa only [okE] using oa
        have ob' : jW es n = true := by simpa only [okE] using ob
        by_cases hl : ds.length = es.length
        · have q := SeqAt.RcNeAt.lists (A := A) (e := ip ds es) p1.isList p2.isList (by simp; omega) (by omega) (fun j h1 h2 => by
            obtain ⟨x', f1, g1⟩ := w1.atA h1
            obtain ⟨y', f2, g2⟩ := w2.atA h2
            obtain ⟨d1, k1, m1⟩ := r1.at f1
            obtain ⟨d2, k2, m2⟩ := r2.at f2
            have q := oI I hF ds j d1 k1 d2 (n := n) (A := A.in1) (dZ oa' k1) (dZ ob' k2) m1 m2 g1 g2 (by show A.units + 1 + n < cLine; omega)
            have e5 : ip ds es j = eqD d1 d2 := by simp only [ip, k1, k2]
            rw [e5]
            exact q
            )
          have ez : is.toArray.size = ds.length := by simp; omega
          rw [ez, au.all_eq (F := F) _ hl (fun j a b h1 h2 => by simp only [ip, h1, h2])] at q
          exact q
        · rw [show eqD (.lst ds) (.lst es) = false from pL hl]
          exact SeqAt.RcNeAt.lists_lengths (A := A) p1.isList p2.isList (by simp; omega) (by omega)
  | .ins _ _, _, _, _, _, _, _, _, oa, _, _, _, _, _, _ => by simp [okE] at oa
  | _, .ins _ _, _, _, _, _, _, _, _, ob, _, _, _, _, _ => by simp [okE] at ob
end
section
variable {X : Cx} {K : PySem.W.Frag} {W : gH} {own ro : Bool}
theorem aV.blS {F H : Hp} {Q : VK} {pins : List (Addr × Obj)} {σ : St} {s : Shared} {b : Bool} (p : aV K W own F H (.ok (.bl b)) Q) (s1 : bg F H) (I : Inv X pins σ H s) : EP X pins σ Q (.bool b) s := ⟨.bl b, H, I, rfl, p.bl s1⟩
theorem o_eq (hu : X.A.units + 64 < cLine) (hK : X.K = K := by rfl) : Op2 K W own X (compareOp .Eq) eqM := by
  subst hK
  intro pins s σ H x y v u Q I rx ry h
  obtain ⟨F, a, b, s1, qa, qb, p⟩ := h
  unfold eqM at p
  by_cases hc : (okE a 40 && okE b 40) = true
  · rw [if_pos hc] at p
    simp only [Bool.and_eq_true] at hc
    exact rcAt_D I s1 a b hc.1 hc.2 qa qb rx ry (by omega) _ _ _ _ (p.blS s1 I)
  · rw [if_neg hc] at p; exact p.stuck
theorem o_ne (hu : X.A.units + 64 < cLine) (hK : X.K = K := by rfl) : Op2 K W own X (compareOp .NotEq) neM := by
  subst hK
  intro pins s σ H x y v u Q I rx ry h
  obtain ⟨F, a, b, s1, qa, qb, p⟩ := h
  unfold neM at p
  by_cases hc : (okE a 40 && okE b 40) = true
  · rw [if_pos hc] at p
    simp only [Bool.and_eq_true] at hc
    exact rcNeAt_D I s1 a b hc.1 hc.2 qa qb rx ry (by omega) _ _ _ _ (p.blS s1 I)
  · rw [if_neg hc] at p; exact p.stuck
end
end L2
namespace L2
open PySem PySem.Spec PyProof.Rows
section
variable {X : Cx} {pins : List (Addr × Obj)} {σ : St} {H : Hp} {s : Shared} {h' : Heap}
theorem Inv.yU {t' : Nat} {ch : List Addr} {T : Addr} {xs : List V} (I : Inv X pins σ H s) (hf : ∀ b ∈ ch, Bs X pins H b) (k : ∀ b o, b ∉ ch -> s.heap.get? b = some o -> h'.get? b = some o) (hT : s.heap.objs.size <= T)
    (new : xs.length <= sizeLine /\ ∃ its : List Value, Vals xs its /\ IsTup h' T its.toArray) : Inv X pins σ (upd H T (.tup xs)) { s with heap := h', toks := t' } := by
  have hTn : H T = none := I.hok.fresh hT
  have nit : ∀ b u, H b = some u -> b ∉ ch := fun b u e z => by rw [(hf b z).1] at e; cases e
  have old : ∀ {b : Addr} {o : Obj}, s.heap.get? b = some o -> b ≠ T := fun {b o} e => Nat.ne_of_lt (Nat.lt_of_lt_of_le (Heap.lt_size e) hT)
  refine I.step (g' := s.gens) (d' := s.drawn) (ch := ch) (fun b hb => ?_) (fun b o _ _ hc e _ => k b o hc e) (fun b o _ _ hc e _ => ⟨o.slots, k b o hc e⟩) (fun b o _ e n => by rw [av (old e)]; exact n)
    (fun b o hc e => ⟨o, k b o hc e⟩) (fun b ys e => by rw [av (aN e hTn)]; exact e) (fun b o u e => by rw [av (aN e hTn)]; exact e) (fun b ps e => ⟨#[], by rw [av (aN e hTn), e]; simp⟩) (fun m hm => ?_) (fun b u e => ?_) I.bare
  · obtain ⟨f0, f1, f2, f3, f4, f5⟩ := hf b hb
    exact ⟨f3, f1, f4, f5⟩
  · obtain ⟨o, es, ep, ho, r⟩ := hm
    exact ⟨o, es, ep, k _ o (fun z => (hf _ z).2.1 rfl) ho, r⟩
  · by_cases hb : b = T
    · subst hb
      rw [aE] at e
      cases e
      exact new
    · rw [av hb] at e
      refine (I.hok b u e).stay (fun c v hc q => k c v ?_ q) (fun c q => ?_) fun c ys q => ?_
      · rcases hc with z | z
        · rw [z]; exact nit b u e
        · exact nit c _ z
      · rw [av (aN q hTn)]; exact q
      · rw [av (aN q hTn)]; exact q
theorem Inv.yV {t' : Nat} {ch : List Addr} (I : Inv X pins σ H s) (hf : ∀ b ∈ ch, Bs X pins H b) (k : ∀ b o, b ∉ ch -> s.heap.get? b = some o -> h'.get? b = some o) : Inv X pins σ H { s with heap := h', toks := t' } := by
  have nit : ∀ b u, H b = some u -> b ∉ ch := fun b u e z => by rw [(hf b z).1] at e; cases e
  refine I.step (g' := s.gens) (d' := s.drawn) (ch := ch) (fun b hb => ?_) (fun b o _ _ hc e _ => k b o hc e) (fun b o _ _ hc e _ => ⟨o.slots, k b o hc e⟩) (fun b o _ e n => n)
    (fun b o hc e => ⟨o, k b o hc e⟩) (fun b ys e => e) (fun b o u e => e) (fun b ps e => ⟨#[], by rw [e]; simp⟩) (fun m hm => ?_) (fun b u e => ?_) I.bare
  · obtain ⟨f0, f1, f2, f3, f4, f5⟩ := hf b hb
    exact ⟨f3, f1, f4, f5⟩
  · obtain ⟨o, es, ep, ho, r⟩ := hm
    exact ⟨o, es, ep, k _ o (fun z => (hf _ z).2.1 rfl) ho, r⟩
  · refine (I.hok b u e).stay (fun c v hc q => k c v ?_ q) (fun _ q => q) fun _ _ q => q
    rcases hc with z | z
    · rw [z]; exact nit b u e
    · exact nit c _ z
end
noncomputable def Ite (K : PySem.W.Frag) (a : Addr) : It :=
  ⟨fun i H => ∃ xs x, SqL K H a xs /\ xs[i]? = some x, fun i H x H' => ∃ T y, H T = none /\ x = .ref T /\ H' = upd H T (.tup [.int i, y]) /\ ∀ xs, SqL K H a xs -> xs[i]? = some y, fun i H => ∃ xs, SqL K H a xs /\ xs.length <= i⟩
theorem Bx {P : Program} {w : World} {K : PySem.W.Frag} {elts : List Expr} {k : Nat} {pos : Pos} (a e it : Addr) (hei : e ≠ it) : Turn P w K (.Tuple elts k pos) (Ite K a) [e, it] e (fun i h => (∃ old, IsEnum h e it i old) /\ h.IsListIter it a i) where
  mem := by simp
  obj := fun i h st b hb => by
    obtain ⟨⟨old, he⟩, o, e1, c, d⟩ := st
    rcases List.mem_cons.mp hb with rfl | hb
    · exact ⟨_, he, fun v z => by cases z⟩
    · have : b = it := by simpa using hb
      subst this
      exact ⟨o, e1, fun v z => by rw [d] at z; cases z⟩
  keep := fun i h h' st kk => by
    obtain ⟨⟨old, he⟩, hit⟩ := st
    exact ⟨⟨old, kk e (by simp) _ he⟩, hit.at fun o x => kk it (by simp) o x⟩
  item := by
    intro X hP hw hK hc i pins s σ H E I hf st hg
    subst hP hw hK
    obtain ⟨⟨old, he⟩, hit⟩ := st
    obtain ⟨xs, x, hq, hx⟩ := hg
    obtain ⟨its, rv, p, hz⟩ := I.list hq
    obtain ⟨u, hu, ru⟩ := rv.get hx
    refine wpAny_pyNext_enum_item he hit p.isList (x := u) (by simpa using hu) hei fun h1 ho hit1 hT hsz hk => ?_
    refine ⟨_, rfl, wpAny_letOwnedTupleGo_enum ho fun h2 he2 hs2 => ?_⟩
    have hlt : e < s.heap.objs.size := Heap.lt_size he
    have hTe : s.heap.objs.size ≠ e := Nat.ne_of_gt hlt
    have I1 : Inv X pins σ (upd H s.heap.objs.size (.tup [.int i, x])) { s with heap := h2, toks := s.toks + 1 } := I.yU (ch := [e, it]) hf (fun b o hb q => by
        have h3 := hk b o (fun z => hb (by simp [z])) (fun z => hb (by simp [z])) q
        exact (hs2.2 b (fun z => hb (by simp [z]))).trans h3) (Nat.le_refl _) ⟨by show 2 <= sizeLine; decide, [.int i s.toks, u], .cons ⟨_, rfl⟩ (.cons ru .nil), ⟨_, (hs2.2 _ hTe).trans hT, rfl, 0, rfl⟩⟩
    refine ⟨.ref s.heap.objs.size, _, I1, rfl, ⟨s.heap.objs.size, x, I.hok.fresh (Nat.le_refl _), rfl, rfl, fun ys hy => by rw [I.rG hy hq]; exact hx⟩, ⟨⟨u, by simpa using he2⟩, hit1.at fun o y => (hs2.2 it hei.symm).trans y⟩, fun b hb => ?_⟩
    have hbn := (hf b hb).1
    have : b ≠ s.heap.objs.size := by
      rcases List.mem_cons.mp hb with rfl | hb
      · exact hTe.symm
      · have : b = it := by simpa using hb
        subst this
        obtain ⟨o, e1, _⟩ := hit
        exact Nat.ne_of_lt (Heap.lt_size e1)
    rw [av this]
    exact hbn
  done := by
    intro X hP hw hK hc i pins s σ H E I hf st hg
    subst hP hw hK
    obtain ⟨⟨old, he⟩, hit⟩ := st
    obtain ⟨xs, hq, hx⟩ := hg
    obtain ⟨its, rv, p, hz⟩ := I.list hq
    have hl := rv.length
    exact wpAny_pyNext_enum_end (I.ok.hd hc) he hit p.isList (Array.getElem?_eq_none (by simp; omega)) fun h2 eb => ⟨rfl, I.yV (t' := s.toks) (ch := [e, it]) hf fun b o hb q => eb b o (fun z => hb (by simp [z])) q⟩
  self := fun _ _ _ _ _ st h => by
    obtain ⟨⟨old, he⟩, _⟩ := st
    exact wpAny_pyIter_enum he h
theorem sI : ∀ (ds : List Dat) (k i : Nat), (kI k ds)[i]? = (ds[i]?).map fun d => .tup [.int ((k + i : Nat) : Int), d]
  | [], k, i => by simp [kI]
  | d :: ds, k, 0 => by simp [kI]
  | d :: ds, k, i + 1 => by
    rw [kI, List.getElem?_cons_succ, sI ds (k + 1) i, List.getElem?_cons_succ]
    rw [show k + 1 + i = k + (i + 1) by omega]
theorem iR : ∀ (ds : List Dat) (k : Nat), (kI k ds).length = ds.length
  | [], _ => rfl
  | d :: ds, k => by rw [kI, List.length_cons, iR ds, List.length_cons]
theorem Cm {K : PySem.W.Frag} {F : Hp} {a : Addr} {xs : List V} {ds : List Dat} (t : SqL K F a xs) (z : au K F ds xs) : yR K F (Ite K a) (kI 0 ds) where
  go := fun i F' H' s1 s2 hi => ⟨xs, xs[i]'(by rw [z.length]; rw [iR] at hi; exact hi), s2.lst (s1.lst t), by rw [iR] at hi; simp [z.length, hi]⟩
  yl := fun i F' H' x H2 d s1 s2 hd hy => by
    obtain ⟨T, y, hT, ex, eH, hy⟩ := hy
    subst ex eH
    rw [sI] at hd
    cases hds : ds[i]? with
    | none => rw [hds] at hd; cases hd
    | some d' =>
      rw [hds] at hd
      simp at hd
      subst hd
      obtain ⟨v, e1, q⟩ := z.get hds
      have e2 := hy xs (s2.lst (s1.lst t))
      rw [e1] at e2
      cases e2
      refine ⟨upd F' T (.tup [.int i, y]), Step.lay s2 hT, T, _, rfl, SqT.of aE, ?_⟩
      exact ⟨.int i, [y], rfl, rfl, y, [], rfl, (q.mono s1).mono (bg.upd (s2.free hT)), rfl⟩
  st := fun F' H' s1 s2 => ⟨xs, s2.lst (s1.lst t), by rw [z.length, iR]; exact Nat.le_refl _⟩
section
variable {X : Cx} {K : PySem.W.Frag} {W : gH} {own ro : Bool} {e a b c : Expr} {es : List Expr} {x : Str} {pos p : Pos} {f fa fb fc : ag -> M Dat} {fr : ag -> M (List Dat)} {ft : ag -> M Bool}
theorem iS : PTs X [] (tDT K W rp) := fun pins s σ H Q I h => pts_nil pins s σ H Q I (by
  obtain ⟨F, ρ, r, s1, q⟩ := h
  exact q F H (Step.refl s1))
theorem kK : PGs X [] (i8 []) := pgs_nil
theorem cm {i : Nat} {is : List Nat} (hN : X.N.Nodup) (h2 : PGs X es (i8 is)) (hi : X.N[i]? = some x := by rfl) (hx : Loc X.env.scope x := by first | exact Or.inl rfl | exact Or.inr rfl) (hf : X.fn x = true \/ X.env.scope.names.lookup x = some .local := by first | exact .inl rfl | exact .inr rfl | assumption)
    (hs : (assignEach (.Name x p :: es) X.env).map (·.2) = assign (.Name x p) X.env :: (assignEach es X.env).map (·.2) := by rfl) : PGs X (.Name x p :: es) (i8 (i :: is)) := Al (zi hN hi hx hf) h2 hs
theorem wc {k : Nat} {is : List Nat} (hc : X.calm = true) (h : PGs X es (i8 is)) (hn : (assignEach es X.env).length = is.length := by rfl) (hst : (assignEach es X.env).findIdx? (·.1) = none := by rfl) (hK : X.K = K := by rfl) : DG K X (.Tuple es k pos) (.tp is) := by
  subst hK
  exact pg_tup hc h hn hst
theorem qO {ix : List (Option Nat)} : ∀ {is : List Nat}, (∀ i ∈ is, ix[i]? = some none) -> ∀ vs σ' H' (Q : St -> Hp -> Prop), i8 is vs σ' H' Q -> i8 is vs σ' H' fun σ2 H2 => Q σ2 H2 /\ ∀ (i : Nat) v, σ'[i]? = some (some v) -> (∃ j, ix[i]? = some (some j)) -> σ2[i]? = some (some v)
  | [], _, vs, σ', H', Q, ⟨e, q⟩ => ⟨e, q, fun _ _ h _ => h⟩
  | i :: is, hs, vs, σ', H', Q, ⟨v, r, e, q⟩ => by
    refine ⟨v, r, e, ?_⟩
    have := qO (ix := ix) (is := is) (fun j hj => hs j (by simp [hj])) r (σ'.set i (some v)) H' Q q
    have mono : ∀ {is : List Nat} {vs : List V} {σ1 : St} {H1 : Hp} {Q Q' : St -> Hp -> Prop}, (∀ σ2 H2, Q σ2 H2 -> Q' σ2 H2) -> i8 is vs σ1 H1 Q -> i8 is vs σ1 H1 Q' := by
      intro is
      induction is with
      | nil => rintro vs σ1 H1 Q Q' m ⟨e, q⟩; exact ⟨e, m _ _ q⟩
      | cons i is ih => rintro vs σ1 H1 Q Q' m ⟨v, r, e, q⟩; exact ⟨v, r, e, ih m q⟩
    refine mono (fun σ2 H2 ⟨q1, q2⟩ => ⟨q1, fun j w h ⟨l, hl⟩ => q2 j w ?_ ⟨l, hl⟩⟩) this
    have : i ≠ j := by rintro rfl; rw [hs i (by simp)] at hl; cases hl
    rw [List.getElem?_set_ne this]
    exact h
theorem xY {ix : List (Option Nat)} {is : List Nat} (h : ∀ i ∈ is, ix[i]? = some none) : qe ix (gP K (.tp is)) := fun x σ' H' Q ⟨a, xs, e, t, l, q⟩ => ⟨a, xs, e, t, l, qO h xs σ' H' Q q⟩
theorem nF {N' : List Str} {sc : Scope} {L : Addr} {cs : List (Str × Addr)} {s : Shared} {H : Hp} {fp : List Addr} {i : Nat} (hN : N'.Nodup) (hi : N'[i]? = some x := by rfl) (hx : Loc (aY X N' sc L cs s H fp).env.scope x := by first | exact Or.inl rfl | exact Or.inr rfl)
    (hf : (aY X N' sc L cs s H fp).fn x = true \/ (aY X N' sc L cs s H fp).env.scope.names.lookup x = some .local := by first | exact .inl rfl | exact .inr rfl | assumption) : DG K (aY X N' sc L cs s H fp) (.Name x pos) (.nm i) := pg_c hN hi hx hf
variable {sc : Scope} {tg elt iter : Expr} {ifs : List Expr} {fi : ag -> M (List Dat)} {pt : Pat} {fe : ag -> M Dat} {spos py : Pos}
theorem mv (N' : List Str) (ix : List (Option Nat)) (hi : DI K W X tg iter fi) (hg : ∀ L cs s H fp, DG K (aY X N' sc L cs s H fp) tg pt) (hl : qe ix (gP K pt))
    (ht : ∀ L cs s H fp, PTs (aY X N' sc L cs s H fp) ifs (tDT K W ft)) (he : ∀ L cs s H fp, DE K W false (aY X N' sc L cs s H fp) elt fe) (hc : X.calm = true := by rfl)
    (ok : bG X.N X.env.scope N' sc ix = true := by rfl) (hk : sc.kind = .function := by rfl) (hs : ∀ x, foldedSetIterable iter X.env x = pure x := by intro _; rfl) :
    DE K W true X (.ListComp elt [⟨tg, iter, ifs, 0⟩] sc pos) (fg fi ix pt ft fe) := (pe_comp N' ix hc hi hg hl ht he ok hk hs).imp fun _ _ _ => zd
theorem tD_fr {σ : St} {H : Hp} {Q : VK} (h : tD K W own f σ H Q) : tD K W true f σ H Q := by
  cases own with
  | true => exact h
  | false => obtain ⟨F, ρ, r, s, p⟩ := h; exact ⟨F, ρ, r, s, p.frz⟩
theorem ds_compB {OL O : List Nat} {i : Nat} (own : Bool) (N' : List Str) (ix : List (Option Nat)) (hN : X.N.Nodup) (hi : DI K W X tg iter fi) (hg : ∀ L cs s H fp, DG K (aY X N' sc L cs s H fp) tg pt) (hl : qe ix (gP K pt))
    (ht : ∀ L cs s H fp, PTs (aY X N' sc L cs s H fp) ifs (tDT K W ft)) (he : ∀ L cs s H fp, DE K W false (aY X N' sc L cs s H fp) elt fe) (hj : X.N[i]? = some x := by rfl) (hy : X.env.scope.names.lookup x = some .local := by rfl) (hc : X.calm = true := by rfl)
    (hsw : swapsWith (.ListComp elt [⟨tg, iter, ifs, 0⟩] sc pos) (some (.Name x py)) spos.line X.env = pure true := by rfl)
    (ok : bG X.N X.env.scope N' sc ix = true := by rfl) (hk : sc.kind = .function := by rfl) (hs : ∀ x, foldedSetIterable iter X.env x = pure x := by intro _; rfl) :
    DS K W ro X OL O (aft own i O) (.Assign [.Name x py] (.ListComp elt [⟨tg, iter, ifs, 0⟩] sc pos) spos) (bF O i (fg fi ix pt ft fe)) := fun F0 H0 =>
  (mY N' ix hN hj hy hc hi hg hl ht he hsw ok hk hs).imp fun D σ H t => zd (tD_fr (BH t))
theorem ds_compA {OL O : List Nat} {i : Nat} (own : Bool) (N' : List Str) (ix : List (Option Nat)) (hN : X.N.Nodup) (hi : DI K W X tg iter fi) (hg : ∀ L cs s H fp, DG K (aY X N' sc L cs s H fp) tg pt) (hl : qe ix (gP K pt))
    (ht : ∀ L cs s H fp, PTs (aY X N' sc L cs s H fp) ifs (tDT K W ft)) (he : ∀ L cs s H fp, DE K W false (aY X N' sc L cs s H fp) elt fe) (hj : X.N[i]? = some x := by rfl) (hy : X.env.scope.names.lookup x = some .local := by rfl) (hc : X.calm = true := by rfl)
    (hsw : swapsWith (.ListComp elt [⟨tg, iter, ifs, 0⟩] sc pos) (some (.Name x py)) spos.line X.env = pure true := by rfl)
    (ok : bG X.N X.env.scope N' sc ix = true := by rfl) (hk : sc.kind = .function := by rfl) (hs : ∀ x, foldedSetIterable iter X.env x = pure x := by intro _; rfl) :
    DS K W ro X OL O (aft own i O) (.Assign [.Name x py] (.ListComp elt [⟨tg, iter, ifs, 0⟩] sc pos) spos) (z3 own i (fg fi ix pt ft fe)) := fun F0 H0 =>
  (mY N' ix hN hj hy hc hi hg hl ht he hsw ok hk hs).imp fun D σ H t => zd (tD_fr (rs_setA t))
theorem ds_setI {OL O : List Nat} {i : Nat} {q r : Pos} {fk : ag -> M Dat} (he : DE K W false X e f) (hk : DE K W false X b fk) (ho : i ∈ O := by decide) (hN : X.N[i]? = some x := by rfl) (hv : Vis X.env.scope x := by first | exact Or.inl rfl | exact Or.inr (Or.inl rfl) | exact Or.inr (Or.inr rfl)) (hd : (x == ("__debug__" : Str)) = false := by decide) (hcd : (x == ("__classdict__" : Str)) = false := by decide)
    (ha : ∀ v, assign (.Subscript (.Name x p) b q) X.env v = (do
      let ov <- holding [v] (eval (.Name x p) X.env)
      let iv <- holding [v, ov] (eval b X.env)
      standAt q
      holding [v, ov, iv] (setItem ov iv v)
      release [v, ov, iv] []) := by intro _; rfl) (hs : swapsWithSole [.Subscript (.Name x p) b q] e r.line X.env = pure false := by rfl) (hw : swappedStores [.Subscript (.Name x p) b q] e X.env = pure none := by rfl)
    (h1 : (assignEach [.Subscript (.Name x p) b q] X.env).map (·.2) = [assign (.Subscript (.Name x p) b q) X.env] := by rfl) :
    DS K W ro X OL O O (.Assign [.Subscript (.Name x p) b q] e r) (yZ i fk f) := fun F0 H0 => (Ak he (BQ (pv i hN hv hd hcd) hk set_list ha) hs hw h1).imp fun _ _ _ => rs_setI ho
theorem ds_unpB {OL O : List Nat} {pt : Pat} {tg : Expr} (he : DE K W false X e f) (hg : DG K X tg pt) (n : ∀ i ∈ pt.names, i ∉ O := by decide) (hs : swapsWithSole [tg] e pos.line X.env = pure false := by rfl) (hw : swappedStores [tg] e X.env = pure none := by rfl)
    (h1 : (assignEach [tg] X.env).map (·.2) = [assign tg X.env] := by rfl) : DS K W ro X OL O O (.Assign [tg] e pos) (yY O pt f) := fun F0 H0 => (Ak he hg hs hw h1).imp fun _ _ _ => rs_unpB n
noncomputable def spF (K : PySem.W.Frag) (ro : Bool) (g : List Dat -> M Dat) (n : Nat) : Sp := fun vs H Q _ => ∃ F ds, bg F H /\ au K F ds vs /\ ds.length = n /\ aV K Wno ro F H (g ds) Q
theorem Af {nN n : Nat} {g : ag -> M Flo} {ds : List Dat} (h : ds.length ≠ n) : dB nN n g ds = stk := by unfold dB; rw [if_neg h]
theorem aM {k nN n : Nat} {fad : Addr} {fd : FuncData} {ps : List Str} {g : ag -> M Flo} (F : c6 X.prog X.w X.K X.mg X.base CX0 k fad fd ps (spF K ro (dB nN n g) n)) (hr : mO k X.A) (hm : X.mg x = some (.ref fad)) (hk : PySem.W.keepIn X.K (.ref fad) = true) (hb : Binds X.K fd ps [])
    (ha : DA K Wno X (e :: es) fr) (hg : Gl X x := by rfl) (hdb : (x == ("__debug__" : Str)) = false := by decide) (hst : starEach (e :: es) X.env = (false, eval e X.env) :: starEach es X.env := by rfl) (hpl : (backTo pos (starEach es X.env)).any (·.1) = false := by rfl) :
    DE K Wno ro X (.Call (.Name x p) (e :: es) [] pos) (fL (dB nN n g) fr) := by
  refine PE.imp (zm F hr hg hm hk hb .nil xA ha hdb hst hpl) fun σ H Q h => ?_
  obtain ⟨F, ρ, r, s, p⟩ := rd_L h
  refine ⟨F, ρ, r, s, ?_⟩
  cases e1 : fr ρ with
  | error z => rw [e1] at p; exact p
  | ok ds =>
    rw [e1] at p
    intro vs F' H' st q
    obtain ⟨F1, es1, s1, q1, z⟩ := p vs F' H' st q
    show spF K ro (dB nN n g) n (vs ++ []) H' Q E0
    rw [List.append_nil]
    by_cases hl : es1.length = n
    · exact ⟨F1, es1, s1, q1, hl, z⟩
    · rw [Af hl] at z
      exact aV.stuck z
end
section
variable {P : Program} {w : World} {K : PySem.W.Frag} {mg : Str -> Option Value} {base : Heap}
theorem BB {N : List Str} {vs : List V} {ds : List Dat} {i : Nat} {d : Dat} {F : Hp} (q : au K F ds vs) (h : (ds.map some ++ List.replicate (N.length - ds.length) none)[i]? = some (some d)) : ∃ v, (start N vs)[i]? = some (some v) /\ cI K F d v := by
  have hi : i < ds.length := by
    by_cases hi : i < ds.length
    · exact hi
    · rw [List.getElem?_append_right (by simpa using hi), List.getElem?_replicate] at h
      split at h <;> cases h
  rw [List.getElem?_append_left (by simpa using hi), List.getElem?_map] at h
  cases e : ds[i]? with
  | none => rw [e] at h; cases h
  | some d' =>
    rw [e] at h
    cases h
    obtain ⟨v, e1, q1⟩ := q.get e
    refine ⟨v, ?_, q1⟩
    unfold start
    rw [List.getElem?_append_left (by rw [List.length_map, q.length]; exact hi), List.getElem?_map, e1]
    rfl
theorem pH {x qual : Str} {st : Stmt} {f : Addr} {fd : FuncData} {N ps : List Str} {k : Nat} {O' : List Nat} (F : Fun K x qual st f fd) (S : aO N ps (ab st)) (ro : Bool) (g : ag -> M Flo)
    (hb : ∀ (cdv : Value) (A : Around) (outer : List Env) (s : Shared) (H : Hp) (E : XK), mO k (A.deeper (envOfC qual (ab st) s.heap.objs.size f cdv)) ->
      DSs K Wno ro (cxOf CX0 P w K mg base N qual (ab st) f cdv A outer s H E).nox [] [] O' (aD st) g) : c6 P w K mg base CX0 (k + 1) f fd ps (spF K ro (dB N.length ps.length g) ps.length) := by
  have hpl : ps.length <= N.length := by have := congrArg List.length S.pre; rw [List.length_take] at this; omega
  refine F.okX S (fun vs H Q E ⟨F, ds, s, q, l, p⟩ => by rw [q.length, l]) fun cdv A outer s H vs Q E hr ⟨F1, ds, s1, q, l, p⟩ => ⟨_, hb cdv A outer s H E hr F1 H, F1, F1, ds.map some ++ List.replicate (N.length - ds.length) none, ?_, ?_⟩
  · refine ⟨Step.refl s1, bg.refl _, ?_, fun i d e _ => BB q e, (fun i d e h => nomatch h), (fun i j ds es a h => nomatch h)⟩
    unfold start
    rw [List.length_append, List.length_append, List.length_map, List.length_map, List.length_replicate, List.length_replicate, q.length]
  · have e1 : dB N.length ps.length g ds = (g (ds.map some ++ List.replicate (N.length - ds.length) none)).bind fun fl => match fl with
      | .nx _ => .ok .non
      | .rt d => .ok d
      | _ => stk := by
        unfold dB
        exact if_pos l
    rw [e1] at p
    cases e2 : g (ds.map some ++ List.replicate (N.length - ds.length) none) with
    | error z => rw [e2] at p; exact p
    | ok fl =>
      rw [e2] at p
      cases fl with
      | nx ρ => exact fun σ F H r => p .non F H r.st (by cases ro <;> rfl)
      | rt d => exact fun v F H st q => p v F H st q
      | bk ρ => exact aV.stuck p
      | ct ρ => exact aV.stuck p
noncomputable def AQ (K : PySem.W.Frag) : Sp := fun vs H Q _ => ∃ (a : Addr) (ns : List Int), vs = [.ref a] /\ SqL K H a (ns.map V.int) /\ ns.length <= 63 /\ ∀ H', Q (.bl true) H'
theorem uA {F : Hp} : ∀ is : List Int, au K F (is.map Dat.int) (is.map V.int)
  | [] => rfl
  | i :: is => ⟨.int i, is.map V.int, rfl, rfl, uA is⟩
theorem law_ok {k : Nat} {f : Addr} {fd : FuncData} {x : Str} {ro : Bool} {mlaw : Nat -> List Dat -> M Dat} (F : ∀ n, c6 P w K mg base CX0 k f fd [x] (spF K ro (mlaw n) 1)) (h : ∀ ns : List Int, ns.length <= 63 -> ∃ n, mlaw n [.lst (ns.map .int)] = .ok (.bl true)) : c6 P w K mg base CX0 k f fd [x] (AQ K) := by
  refine ⟨fun vs H Q E ⟨a, ns, e, _⟩ => by rw [e]; rfl, fun A outer s H args us vs Q E hr he hb hv ⟨a, ns, e, hq, hl, q⟩ => ?_⟩
  obtain ⟨n, hn⟩ := h ns hl
  refine (F n).run A outer s H args us vs Q E hr he hb hv ⟨H, [.lst (ns.map .int)], bg.refl _, ⟨.ref a, [], e, ⟨a, _, rfl, hq, uA ns⟩, rfl⟩, rfl, ?_⟩
  rw [hn]
  intro v F' H' st z
  have : v = .bl true := by cases ro <;> exact z
  rw [this]
  exact q H'
end
end L2
namespace L2
open PySem PySem.Spec PyProof.Rows
structure Kit (K : PySem.W.Frag) : Prop where
  lM : PySem.W.kitOne K (.type "int") (.type "int") = some true
  jV : PySem.W.kitOne K (.type "bool") (.type "int") = some true
  jS : PySem.W.kitOne K (.type "list") (.type "int") = some false
  iy : PySem.W.kitOne K (.type "tuple") (.type "int") = some false
  lL : PySem.W.kitOne K (.type "str") (.type "int") = some false
  eC : PySem.W.kitOne K (.type "NoneType") (.type "int") = some false
  jU : PySem.W.kitOne K (.type "int") (.type "bool") = some false
  iF : PySem.W.kitOne K (.type "bool") (.type "bool") = some true
  iB : PySem.W.kitOne K (.type "list") (.type "bool") = some false
  gM : PySem.W.kitOne K (.type "tuple") (.type "bool") = some false
  jR : PySem.W.kitOne K (.type "str") (.type "bool") = some false
  dJ : PySem.W.kitOne K (.type "NoneType") (.type "bool") = some false
  jT : PySem.W.kitOne K (.type "int") (.type "list") = some false
  iE : PySem.W.kitOne K (.type "bool") (.type "list") = some false
  iA : PySem.W.kitOne K (.type "list") (.type "list") = some true
  gL : PySem.W.kitOne K (.type "tuple") (.type "list") = some false
  jQ : PySem.W.kitOne K (.type "str") (.type "list") = some false
  dI : PySem.W.kitOne K (.type "NoneType") (.type "list") = some false
  iC : PySem.W.kitOne K (.type "int") (.type "tuple") = some false
  gO : PySem.W.kitOne K (.type "bool") (.type "tuple") = some false
  gN : PySem.W.kitOne K (.type "list") (.type "tuple") = some false
  fJ : PySem.W.kitOne K (.type "tuple") (.type "tuple") = some true
  iz : PySem.W.kitOne K (.type "str") (.type "tuple") = some false
  d7 : PySem.W.kitOne K (.type "NoneType") (.type "tuple") = some false
  px : PySem.W.kitOne K (.type "int") (.type "str") = some false
  mX : PySem.W.kitOne K (.type "bool") (.type "str") = some false
  mW : PySem.W.kitOne K (.type "list") (.type "str") = some false
  km : PySem.W.kitOne K (.type "tuple") (.type "str") = some false
  pw : PySem.W.kitOne K (.type "str") (.type "str") = some true
  gF : PySem.W.kitOne K (.type "NoneType") (.type "str") = some false
section
variable {X : Cx} {K : PySem.W.Frag} {W : gH} {own ro : Bool} {e a b c : Expr} {es : List Expr} {x : Str} {pos p p2 : Pos} {f fa fb fc : ag -> M Dat} {fr : ag -> M (List Dat)} {ft : ag -> M Bool}
theorem isi_D {pins : List (Addr × Obj)} {σ : St} {F H : Hp} {s : Shared} {T : String} {d : Dat} {x : V} {u : Value} {bi bb bl bt bs bn : Bool} {Q : Value -> Shared -> Prop} (I : Inv X pins σ H s) (hF : bg F H) (q : cI X.K F d x) (r : RelV x u)
    (hi : PySem.W.kitOne X.K (.type "int") (.type T) = some bi) (hb : PySem.W.kitOne X.K (.type "bool") (.type T) = some bb) (hl : PySem.W.kitOne X.K (.type "list") (.type T) = some bl) (ht : PySem.W.kitOne X.K (.type "tuple") (.type T) = some bt)
    (hs : PySem.W.kitOne X.K (.type "str") (.type T) = some bs) (hn : PySem.W.kitOne X.K (.type "NoneType") (.type T) = some bn)
    (h : ∀ k tk, (match d with | .int _ => k = bi | .bl _ => k = bb | .lst _ => k = bl | .tup _ => k = bt | .str _ => k = bs | .non => k = bn | .ins _ _ => False) -> Q (.bool k) { s with toks := tk }) (no : ∀ C fs, d ≠ .ins C fs) :
    wpAny (model X.prog X.w) X.A (call (.builtin "isinstance") [u, .type T]) Q X.xe s := by
  cases d with
  | non => cases (show x = .non from q); cases r; exact PySem.W.kia_one PySem.W.kitx_none I.kIn True.intro hn (fun z => nomatch z) fun tk => h _ tk rfl
  | bl y => cases (show x = .bl y from q); cases r; exact PySem.W.kia_one PySem.W.kitx_bool I.kIn True.intro hb (fun z => nomatch z) fun tk => h _ tk rfl
  | int i => cases (show x = .int i from q); obtain ⟨t, rfl⟩ := r; exact PySem.W.kia_one PySem.W.kitx_int I.kIn True.intro hi (fun z => nomatch z) fun tk => h _ tk rfl
  | str y => cases (show x = .str y from q); obtain ⟨t, rfl⟩ := r; exact PySem.W.kia_one PySem.W.kitx_str I.kIn True.intro hs (fun z => nomatch z) fun tk => h _ tk rfl
  | lst ds =>
    obtain ⟨l, xs, e, t, _⟩ := q
    subst e
    cases r
    obtain ⟨its, _, pl, _⟩ := I.list (hF.lst t)
    obtain ⟨o, h1, h2, _⟩ := pl.isList
    exact PySem.W.kia_one PySem.W.kitx_list I.kIn ⟨o, h1, h2⟩ hl (fun z => nomatch z) fun tk => h _ tk rfl
  | tup ds =>
    obtain ⟨l, xs, e, t, _⟩ := q
    subst e
    cases r
    obtain ⟨its, _, pl, _⟩ := I.tuple (hF.tup t)
    obtain ⟨o, h1, h2, _⟩ := pl
    exact PySem.W.kia_one PySem.W.kitx_tuple I.kIn ⟨o, h1, h2⟩ ht (fun z => nomatch z) fun tk => h _ tk rfl
  | ins C fs => exact absurd rfl (no C fs)
theorem Ay {T : String} {y : Str} {g : Dat -> M Dat} (hc : i5 X (.builtin "isinstance") (fun xs H Q => ∃ v, xs = [v, .ty T] /\ rD1 K W own g v H Q)) (hm : X.mg "isinstance" = none) (hmT : X.mg y = none) (hvT : bootBuiltins y = some (.type T)) (ha : DE K W false X a fa)
    (hg : Gl X "isinstance" := by rfl) (hgT : Gl X y := by rfl) (hn : y ≠ "__name__" := by decide) (hd : (y == ("__debug__" : Str)) = false := by decide)
    (hst : starEach [a, .Name y p2] X.env = [(false, eval a X.env), (false, eval (.Name y p2) X.env)] := by rfl) (hst2 : starEach [.Name y p2] X.env = [(false, eval (.Name y p2) X.env)] := by rfl) (hpl : (backTo pos (starEach [.Name y p2] X.env)).any (·.1) = false := by rfl) :
    DE K W own X (.Call (.Name "isinstance" p) [a, .Name y p2] [] pos) (f1 g fa) :=
  (rF hc hg hm boot_isinstance (dj ha (dj (pe_tyN (pos := p2) hgT hmT hvT hn hd) jf hst2) (by rw [hst, hst2])) (by decide) (by decide) (by rw [hst, hst2]) hpl).imp fun σ H Q h => by
    obtain ⟨F, ρ, r, s, q⟩ := rd_1 h
    refine ⟨F, ρ, r, s, ?_⟩
    cases e1 : fa ρ with
    | error z => rw [e1] at q; exact q
    | ok d => rw [e1] at q; exact fun v F' H' st z => ⟨v, rfl, q v F' H' st z⟩
theorem CU (kit : Kit K) (hK : X.K = K := by rfl) : i5 X (.builtin "isinstance") (fun xs H Q => ∃ v, xs = [v, .ty "int"] /\ rD1 K W own pF v H Q) := by
  subst hK
  intro pins s σ H xs us Q I r h
  obtain ⟨v, rfl, F, d, s1, q, p⟩ := h
  obtain ⟨u, w, rfl, ru, rw'⟩ := r.two
  cases (show w = Value.type "int" from rw')
  by_cases hi : ∃ C fs, d = .ins C fs
  · obtain ⟨C, fs, rfl⟩ := hi
    exact aV.stuck p
  · refine isi_D I s1 q ru kit.lM kit.jV kit.jS kit.iy kit.lL kit.eC (fun k tk hk => ⟨.bl k, H, I.tok tk, rfl, ?_⟩) (fun C fs e => hi ⟨C, fs, e⟩)
    cases d <;> first | (have hk' : k = _ := hk; subst hk'; exact aV.bl (own := own) p s1) | exact absurd ⟨_, _, rfl⟩ hi
theorem uB (kit : Kit K) (hm : X.mg "isinstance" = none) (hmT : X.mg "int" = none) (ha : DE K W false X a fa) (hK : X.K = K := by rfl)
    (hg : Gl X "isinstance" := by rfl) (hgT : Gl X "int" := by rfl)
    (hst : starEach [a, .Name "int" p2] X.env = [(false, eval a X.env), (false, eval (.Name "int" p2) X.env)] := by rfl) (hst2 : starEach [.Name "int" p2] X.env = [(false, eval (.Name "int" p2) X.env)] := by rfl) (hpl : (backTo pos (starEach [.Name "int" p2] X.env)).any (·.1) = false := by rfl) :
    DE K W own X (.Call (.Name "isinstance" p) [a, .Name "int" p2] [] pos) (f1 pF fa) := Ay (CU kit hK) hm hmT (by decide +kernel) ha hg hgT (by decide) (by decide) hst hst2 hpl
theorem Bo (kit : Kit K) (hK : X.K = K := by rfl) : i5 X (.builtin "isinstance") (fun xs H Q => ∃ v, xs = [v, .ty "bool"] /\ rD1 K W own m6 v H Q) := by
  subst hK
  intro pins s σ H xs us Q I r h
  obtain ⟨v, rfl, F, d, s1, q, p⟩ := h
  obtain ⟨u, w, rfl, ru, rw'⟩ := r.two
  cases (show w = Value.type "bool" from rw')
  by_cases hi : ∃ C fs, d = .ins C fs
  · obtain ⟨C, fs, rfl⟩ := hi
    exact aV.stuck p
  · refine isi_D I s1 q ru kit.jU kit.iF kit.iB kit.gM kit.jR kit.dJ (fun k tk hk => ⟨.bl k, H, I.tok tk, rfl, ?_⟩) (fun C fs e => hi ⟨C, fs, e⟩)
    cases d <;> first | (have hk' : k = _ := hk; subst hk'; exact aV.bl (own := own) p s1) | exact absurd ⟨_, _, rfl⟩ hi
theorem sM (kit : Kit K) (hm : X.mg "isinstance" = none) (hmT : X.mg "bool" = none) (ha : DE K W false X a fa) (hK : X.K = K := by rfl)
    (hg : Gl X "isinstance" := by rfl) (hgT : Gl X "bool" := by rfl)
    (hst : starEach [a, .Name "bool" p2] X.env = [(false, eval a X.env), (false, eval (.Name "bool" p2) X.env)] := by rfl) (hst2 : starEach [.Name "bool" p2] X.env = [(false, eval (.Name "bool" p2) X.env)] := by rfl) (hpl : (backTo pos (starEach [.Name "bool" p2] X.env)).any (·.1) = false := by rfl) :
    DE K W own X (.Call (.Name "isinstance" p) [a, .Name "bool" p2] [] pos) (f1 m6 fa) := Ay (Bo kit hK) hm hmT (by decide +kernel) ha hg hgT (by decide) (by decide) hst hst2 hpl
theorem Bn (kit : Kit K) (hK : X.K = K := by rfl) : i5 X (.builtin "isinstance") (fun xs H Q => ∃ v, xs = [v, .ty "list"] /\ rD1 K W own pE v H Q) := by
  subst hK
  intro pins s σ H xs us Q I r h
  obtain ⟨v, rfl, F, d, s1, q, p⟩ := h
  obtain ⟨u, w, rfl, ru, rw'⟩ := r.two
  cases (show w = Value.type "list" from rw')
  by_cases hi : ∃ C fs, d = .ins C fs
  · obtain ⟨C, fs, rfl⟩ := hi
    exact aV.stuck p
  · refine isi_D I s1 q ru kit.jT kit.iE kit.iA kit.gL kit.jQ kit.dI (fun k tk hk => ⟨.bl k, H, I.tok tk, rfl, ?_⟩) (fun C fs e => hi ⟨C, fs, e⟩)
    cases d <;> first | (have hk' : k = _ := hk; subst hk'; exact aV.bl (own := own) p s1) | exact absurd ⟨_, _, rfl⟩ hi
theorem zF (kit : Kit K) (hm : X.mg "isinstance" = none) (hmT : X.mg "list" = none) (ha : DE K W false X a fa) (hK : X.K = K := by rfl)
    (hg : Gl X "isinstance" := by rfl) (hgT : Gl X "list" := by rfl)
    (hst : starEach [a, .Name "list" p2] X.env = [(false, eval a X.env), (false, eval (.Name "list" p2) X.env)] := by rfl) (hst2 : starEach [.Name "list" p2] X.env = [(false, eval (.Name "list" p2) X.env)] := by rfl) (hpl : (backTo pos (starEach [.Name "list" p2] X.env)).any (·.1) = false := by rfl) :
    DE K W own X (.Call (.Name "isinstance" p) [a, .Name "list" p2] [] pos) (f1 pE fa) := Ay (Bn kit hK) hm hmT (by decide +kernel) ha hg hgT (by decide) (by decide) hst hst2 hpl
theorem zM (kit : Kit K) (hK : X.K = K := by rfl) : i5 X (.builtin "isinstance") (fun xs H Q => ∃ v, xs = [v, .ty "tuple"] /\ rD1 K W own iw v H Q) := by
  subst hK
  intro pins s σ H xs us Q I r h
  obtain ⟨v, rfl, F, d, s1, q, p⟩ := h
  obtain ⟨u, w, rfl, ru, rw'⟩ := r.two
  cases (show w = Value.type "tuple" from rw')
  by_cases hi : ∃ C fs, d = .ins C fs
  · obtain ⟨C, fs, rfl⟩ := hi
    exact aV.stuck p
  · refine isi_D I s1 q ru kit.iC kit.gO kit.gN kit.fJ kit.iz kit.d7 (fun k tk hk => ⟨.bl k, H, I.tok tk, rfl, ?_⟩) (fun C fs e => hi ⟨C, fs, e⟩)
    cases d <;> first | (have hk' : k = _ := hk; subst hk'; exact aV.bl (own := own) p s1) | exact absurd ⟨_, _, rfl⟩ hi
theorem mr (kit : Kit K) (hm : X.mg "isinstance" = none) (hmT : X.mg "tuple" = none) (ha : DE K W false X a fa) (hK : X.K = K := by rfl)
    (hg : Gl X "isinstance" := by rfl) (hgT : Gl X "tuple" := by rfl)
    (hst : starEach [a, .Name "tuple" p2] X.env = [(false, eval a X.env), (false, eval (.Name "tuple" p2) X.env)] := by rfl) (hst2 : starEach [.Name "tuple" p2] X.env = [(false, eval (.Name "tuple" p2) X.env)] := by rfl) (hpl : (backTo pos (starEach [.Name "tuple" p2] X.env)).any (·.1) = false := by rfl) :
    DE K W own X (.Call (.Name "isinstance" p) [a, .Name "tuple" p2] [] pos) (f1 iw fa) := Ay (zM kit hK) hm hmT (by decide +kernel) ha hg hgT (by decide) (by decide) hst hst2 hpl
noncomputable def tRng (ta : TA) (lo hi : List V -> Option Int) : TE := fun σ H Q => ta σ H fun vs H1 => ∃ i j, lo vs = some i /\ hi vs = some j /\ (-(2 ^ 62) <= i /\ i < 2 ^ 62 /\ -(2 ^ 62) <= j /\ j < 2 ^ 62) /\ ∀ r, H1 r = none -> Q (.ref r) (upd H1 r (.rng i j))
noncomputable def lo1 : List V -> Option Int
  | [.int _] => some 0
  | _ => none
noncomputable def hi1 : List V -> Option Int
  | [.int j] => some j
  | _ => none
theorem rng_laid {pins : List (Addr × Obj)} {σ : St} {H : Hp} {s : Shared} {lo hi : Int} {t u v : Tok} {tk : Nat} (I : Inv X pins σ H s) : Inv X pins σ (upd H s.heap.objs.size (.rng lo hi)) { s with heap := s.heap.push { cls := .type "range", data := .fields #[.int lo t, .int hi u, .int 1 v] }, toks := tk } :=
  I.laid (fun b o e => Heap.get?_push_of_some _ e) (Nat.le_refl _) ⟨t, u, v, Heap.get?_push_size _ rfl⟩
theorem pe_rng1 {ta : TA} (hg : Gl X "range") (hm : X.mg "range" = none) (ha : PA X [a] ta) (hs : starEach [a] X.env = [(false, eval a X.env)] := by rfl) : PE X (.Call (.Name "range" p) [a] [] pos) (tRng ta lo1 hi1) := by
  intro pins s σ H Q I h
  refine Call_ (sm I hg hm boot_range (PyProof.Rows.callWith_type1 (thn (ha pos pins s σ H _ I h) fun us s1 ⟨vs, H1, I1, r1, q1⟩ => ?_) hs rfl))
  obtain ⟨i, j, e1, e2, hb, q⟩ := q1
  match vs, r1, e1, e2 with
  | [.int k], r1, e1, e2 =>
    cases e1
    cases e2
    obtain ⟨u, rfl, t, rfl⟩ := r1.one
    exact call_range_1 ⟨.ref _, _, rng_laid I1, rfl, q _ I1.fresh⟩
theorem Vals.of_get : ∀ {xs : List V} {us : List Value}, xs.length = us.length -> (∀ (i : Nat) v u, xs[i]? = some v -> us[i]? = some u -> RelV v u) -> Vals xs us
  | [], [], _, _ => .nil
  | [], _ :: _, h, _ => by simp at h
  | _ :: _, [], h, _ => by simp at h
  | x :: xs, u :: us, h, q => .cons (q 0 x u rfl rfl) (Vals.of_get (by simpa using h) fun i v w h1 h2 => q (i + 1) v w (by simpa using h1) (by simpa using h2))
theorem B9 {lo : Int} : ∀ {n : Nat} {acc : List Value}, acc.length = n -> (∀ (i : Nat) v, acc[i]? = some v -> ∃ t, v = .int (lo + i) t) -> Vals ((List.range n).map fun k : Nat => V.int (lo + k)) acc := by
  intro n acc hl h
  refine Vals.of_get (by simp [hl]) fun i v u e1 e2 => ?_
  obtain ⟨t, rfl⟩ := h i u e2
  have hi : i < n := by
    have := (List.getElem?_eq_some_iff.mp e1).1
    simpa using this
  rw [List.getElem?_map, List.getElem?_range hi] at e1
  cases e1
  exact ⟨t, rfl⟩
theorem wC (hc : X.calm = true) : i5 X (.type "list") (fun xs H Q => ∃ r lo hi, xs = [.ref r] /\ H r = some (.rng lo hi) /\ (-(2 ^ 62) <= lo /\ lo < 2 ^ 62 /\ -(2 ^ 62) <= hi /\ hi < 2 ^ 62) /\ (hi - lo).toNat <= sizeLine /\ ∀ l, H l = none -> Q (.ref l) (upd H l (.lst ((List.range (hi - lo).toNat).map fun k : Nat => V.int (lo + k))))) := by
  intro pins s σ H xs us Q I rr h
  obtain ⟨r, lo, hi, rfl, hH, ⟨b1, b2, b3, b4⟩, hz, q⟩ := h
  obtain ⟨u, rfl, ru⟩ := rr.one
  cases ru
  obtain ⟨t, u, v, e⟩ := (show ∃ t u v, s.heap.get? r = some { cls := .type "range", data := .fields #[.int lo t, .int hi u, .int 1 v] } from I.hok r _ hH)
  refine call_list_range (n := (hi - lo).toNat) (I.ok.hd hc) e (small_one b1 b2 b3 b4) (by rw [rangeSize_one]; split <;> omega) (by rw [sizeLine_eq] at hz; omega) fun h' tk acc' c' kp e2 it => ?_
  have hv : Vals ((List.range (hi - lo).toNat).map fun k : Nat => V.int (lo + k)) acc'.toList := B9 (by rw [Array.length_toList]; exact it.1) fun i v hi => by
    obtain ⟨t, e⟩ := it.2 i v (by simpa using hi)
    exact ⟨t, by rw [e, Int.mul_one]⟩
  exact ⟨.ref _, _, I.laid (t' := tk) kp (Nat.le_refl _) (show jc X.prog X.w _ h' _ (.lst _) from ⟨by simpa using hz, acc'.toList, c', hv, by simpa using e2⟩), rfl, q _ I.fresh⟩
theorem zD {F : Hp} (lo : Int) (n : Nat) : au K F (bz lo n) ((List.range n).map fun k : Nat => V.int (lo + k)) := by
  refine au.of_get (by simp [bz]) fun i d v h1 h2 => ?_
  have hi : i < n := by
    have := (List.getElem?_eq_some_iff.mp h2).1
    simpa using this
  unfold bz at h1
  rw [List.getElem?_map, List.getElem?_range hi] at h1 h2
  cases h1
  cases h2
  rfl
theorem lrng_end {F H1 : Hp} {Q : VK} {i j : Int} {r : Addr} (p : aV K W true F H1 (cE (bz i (j - i).toNat)) Q) (s : bg F H1) (hr : H1 r = none) :
    (j - i).toNat <= sizeLine /\ ∀ l, upd H1 r (.rng i j) l = none -> Q (.ref l) (upd (upd H1 r (.rng i j)) l (.lst ((List.range (j - i).toNat).map fun k : Nat => V.int (i + k)))) := by
  unfold cE at p
  by_cases hl : (bz i (j - i).toNat).length <= sizeLine
  · rw [if_pos hl] at p
    refine ⟨by simpa [bz] using hl, fun l hl2 => ?_⟩
    have s2 : Step F H1 F (upd H1 r (.rng i j)) := Step.grow s hr
    have e : H1 l = none := s2.hh.free hl2
    exact p _ F _ (s2.trans (Step.grow s2.fh hl2)) ⟨l, _, rfl, aE, s.free e, e, zD i _⟩
  · rw [if_neg hl] at p
    exact (W.ns p).elim
theorem de_lrng1 {q1 q2 : Pos} (hml : X.mg "list" = none) (hm : X.mg "range" = none) (ha : DA K W X [a] fr) (hc : X.calm = true := by rfl) (hg : Gl X "range" := by rfl) (hgl : Gl X "list" := by rfl) (hs : starEach [a] X.env = [(false, eval a X.env)] := by rfl)
    (hst : starEach [.Call (.Name "range" q1) [a] [] q2] X.env = [(false, eval (.Call (.Name "range" q1) [a] [] q2) X.env)] := by rfl) : DE K W true X (.Call (.Name "list" p) [.Call (.Name "range" q1) [a] [] q2] [] pos) (fLR (vW v8 fr)) := by
  refine PE.imp (xy (wC hc) hgl hml PyProof.Rows.boot_list (dj (pe_rng1 hg hm ha hs) jf hst) (by decide) (by decide) hst rfl) fun σ H Q h => ?_
  obtain ⟨F, ρ, r, s, p⟩ := h
  refine rJ r s (fun e he => p.err (by unfold fLR vW; rw [he]; rfl)) fun ds hd xs F1 H1 s1 q1 => ?_
  have e1 : fLR (vW v8 fr) ρ = (v8 ds).bind cE := by unfold fLR vW; rw [hd]; rfl
  rw [e1] at p
  have p1 := p.step s1
  by_cases hds : ∃ j, ds = [.int j]
  · obtain ⟨j, rfl⟩ := hds
    obtain ⟨v, vs, e2, q2, e3⟩ := q1
    have p2 : aV K W true F1 H1 ((if jr j = true then Except.ok (bz 0 j.toNat) else Except.error Err.stuck : M (List Dat)).bind cE) Q := p1
    by_cases hj : jr j = true
    · rw [if_pos hj] at p2
      unfold jr at hj
      simp only [Bool.and_eq_true, decide_eq_true_eq] at hj
      have e4 : xs = [.int j] := by rw [e2, show v = .int j from q2, show vs = [] from e3]
      subst e4
      refine ⟨0, j, rfl, rfl, ⟨by decide, by decide, hj.1, hj.2⟩, fun r2 hr2 => ?_⟩
      have p3 : aV K W true F1 H1 (cE (bz 0 (j - 0).toNat)) Q := by rw [Int.sub_zero]; exact p2
      obtain ⟨z1, z2⟩ := lrng_end p3 s1.fh hr2
      exact ⟨r2, 0, j, rfl, aE, ⟨by decide, by decide, hj.1, hj.2⟩, z1, z2⟩
    · rw [if_neg hj] at p2
      exact (W.ns p2).elim
  · have : v8 ds = .error .stuck := by
      unfold v8
      split
      · exact absurd ⟨_, rfl⟩ hds
      · rfl
    rw [this] at p1
    exact (W.ns p1).elim
end
section
variable {K : PySem.W.Frag} {W : gH} {ro : Bool} {F0 H0 FB F H : Hp} {OL O O' O2 : List Nat} {D : Ends} {σ : St} {ρ : ag} {g h : ag -> M Flo} {f fk : ag -> M Dat}
theorem popD_ok {ds : List Dat} {k : Dat} {d : Dat} {es : List Dat} (h : popD ds k = .ok (d, es)) : ∃ i j, k = .int i /\ ds.length <= sizeLine /\ ixN ds.length i = some j /\ ds[j]? = some d /\ es = ds.eraseIdx j := by
  unfold popD at h
  cases k with
  | int i =>
    simp only [asI, ak] at h
    split at h
    · cases h
    · rename_i hs
      cases hj : ixN ds.length i with
      | none => rw [hj] at h; cases h
      | some j =>
        rw [hj] at h
        simp only at h
        cases hd : ds[j]? with
        | none => rw [hd] at h; cases h
        | some d' =>
          rw [hd] at h
          cases h
          exact ⟨i, j, rfl, by omega, hj, hd, rfl⟩
  | _ => cases h
theorem popD_err {ds : List Dat} {k : Dat} {e : Err} (h : popD ds k = .error e) : e = .stuck := by
  unfold popD at h
  cases k with
  | int i =>
    simp only [asI, ak] at h
    split at h
    · cases h; rfl
    · cases hj : ixN ds.length i with
      | none => rw [hj] at h; cases h; rfl
      | some j =>
        rw [hj] at h
        simp only at h
        cases hd : ds[j]? with
        | none => rw [hd] at h; cases h; rfl
        | some d' => rw [hd] at h; cases h
  | _ => cases h; rfl
noncomputable def tPopE (K : PySem.W.Frag) (i : Nat) (tk : TE) : TE := tBM K "list" rPopAt (By i) (tf tk tNil)
theorem pop_run {i : Nat} {R : VK} (r : Rep K F0 H0 FB O F H σ ρ) (hi : i ∈ O) {ds : List Dat} (hl : jb ρ i = .ok ds) (hE : ∀ e, fk ρ = .error e -> W.p e F0 H0)
    (hO : ∀ k, fk ρ = .ok k -> (∀ e, popD ds k = .error e -> False) /\ ∀ d es, popD ds k = .ok (d, es) -> ∀ v F1 H1, Rep K F0 H0 FB O F1 H1 σ (ρ.set i (some (.lst es))) -> cI K F1 d v -> R v H1) : tPopE K i (tD K W false fk) σ H R := by
  obtain ⟨a, xs, e2, ha, z⟩ := r.xW hi (jg hl)
  refine ⟨.ref a, e2, uQ ha, ?_⟩
  refine bx r.rO r.lN (fun e he => W.mono (hE e he) (r.freeze (O2 := []) (by simp)).st) fun k hk w F1 H1 s1 q => ?_
  obtain ⟨h1, h2⟩ := hO k hk
  cases hp : popD ds k with
  | error e => exact (h1 e hp).elim
  | ok de =>
    obtain ⟨d, es⟩ := de
    obtain ⟨m, j, rfl, hz, hj, hd, rfl⟩ := popD_ok hp
    obtain ⟨x1, x2, x3, x4⟩ := sy hj
    obtain ⟨y, e3, qy⟩ := z.get hd
    have hs := sizeLine_eq
    refine ⟨a, xs, m, j, y, rfl, by rw [show w = .int m from q], s1.hh _ _ ha, by omega, by omega, by rw [z.length]; exact x1, e3, ?_⟩
    exact h2 d _ hp y _ _ ((r.nK s1).write hi (jg hl) e2 (au.eraseIdx j (z.mono (r.mV s1)))) (qy.mono (r.mV s1))
end
section
variable {X : Cx} {K : PySem.W.Frag} {W : gH} {own ro : Bool} {e a b c : Expr} {x y : Str} {pos p p2 p3 q r t u : Pos} {f fk : ag -> M Dat} {OL O : List Nat}
theorem pe_pop {j : Nat} {tk : TE} (hk : PE X e tk) (hN : X.N[j]? = some y) (hv : Vis X.env.scope y) (hd : (y == ("__debug__" : Str)) = false) (hcd : (y == ("__classdict__" : Str)) = false)
    (hst : starEach [e] X.env = [(false, eval e X.env)]) (hbase : attributeBase (.Name y p) "pop" X.env (eval (.Name y p) X.env) = eval (.Name y p) X.env) (hfew : ((backTo q (starEach [e] X.env)).all (fun x => !x.1) && (backToKw q (keywordEach [] X.env)).all (fun x => x.1.isSome) && decide ([e].length + ([] : List Keyword).length + (if ([] : List Keyword).isEmpty then 0 else 1) < 30)) = true) (hplain : (backTo q (starEach [] X.env)).any (·.1) = false) (hline : (t.endLine == q.line) = true) :
    PE X (.Call (.Attribute (.Name y p) "pop" t) [e] [] q) (tPopE X.K j tk) := pe_bm PySem.F.plainAttrs_list PySem.F.slot_list_pop PySem.F.type_list_pop mt_popAt (pv j hN hv hd hcd) (dj hk jf hst) hbase hfew hline hst hplain
end
end L2
namespace L2
open PySem PySem.Spec PyProof.Rows
section
variable {X : Cx} {es : List Expr} {x : Str} {p : Pos}
theorem pM {N' : List Str} {sc : Scope} {L : Addr} {cs : List (Str × Addr)} {s : Shared} {H : Hp} {fp : List Addr} {i : Nat} {is : List Nat} (hN : N'.Nodup) (h2 : PGs (aY X N' sc L cs s H fp) es (i8 is)) (hi : N'[i]? = some x := by rfl) (hx : Loc (aY X N' sc L cs s H fp).env.scope x := by first | exact Or.inl rfl | exact Or.inr rfl)
    (hf : (aY X N' sc L cs s H fp).fn x = true \/ (aY X N' sc L cs s H fp).env.scope.names.lookup x = some .local := by first | exact .inl rfl | exact .inr rfl | assumption)
    (hs : (assignEach (.Name x p :: es) (aY X N' sc L cs s H fp).env).map (·.2) = assign (.Name x p) (aY X N' sc L cs s H fp).env :: (assignEach es (aY X N' sc L cs s H fp).env).map (·.2) := by rfl) : PGs (aY X N' sc L cs s H fp) (.Name x p :: es) (i8 (i :: is)) := Al (pg_c hN hi hx hf) h2 hs
end
end L2
namespace L2
open PySem PySem.Spec PyProof.Rows
open PySem.W in
noncomputable def fF {α : Type} (lt : Nat -> Nat -> Bool) : KasT α -> α
  | .ret a => a
  | .ask i j k => fF lt (k (lt i j))
section
open PySem.W
variable {α β : Type} {lt : Nat -> Nat -> Bool}
theorem jO (f : α -> KasT β) : ∀ t : KasT α, fF lt (t.bind f) = fF lt (f (fF lt t))
  | .ret _ => rfl
  | .ask i j k => jO f (k (lt i j))
variable {key : Nat -> Int} {p : Array Nat}
noncomputable def kAt (key : Nat -> Int) (p : Array Nat) (i : Nat) : Int := key (p.getD i 0)
noncomputable def Up (key : Nat -> Int) (p : Array Nat) (k : Nat) : Prop := ∀ i j, i <= j -> j < k -> kAt key p i <= kAt key p j
noncomputable def Down (key : Nat -> Int) (p : Array Nat) (k : Nat) : Prop := ∀ i j, i <= j -> j < k -> kAt key p j <= kAt key p i
theorem m4 {p q : Array Nat} {i j : Nat} (h : p[i]? = q[j]?) : kAt key p i = kAt key q j := by
  unfold kAt
  rw [Array.getD_eq_getD_getElem?, Array.getD_eq_getD_getElem?, h]
theorem sx {i j : Nat} (hj : j <= p.size) (k : Nat) : kAt key (kas_rev p i j) k = if i <= k /\ k < j then kAt key p (i + j - 1 - k) else kAt key p k := by
  have e := getElem?_mirror_all (i := i) hj k
  unfold kas_rev
  split
  · rename_i h; rw [if_pos h] at e; exact m4 e
  · rename_i h; rw [if_neg h] at e; exact m4 e
theorem kAt_bub {src d : Nat} (hs : src < p.size) (hd : d <= src) (k : Nat) : kAt key (bubble p src d) k = if k = src - d then kAt key p src else if src - d < k /\ k <= src then kAt key p (k - 1) else kAt key p k := by
  have e := getElem?_bubble hs d hd k
  split
  · rename_i h; rw [if_pos h] at e; exact m4 e
  · rename_i h
    rw [if_neg h] at e
    split
    · rename_i h2; rw [if_pos h2] at e; exact m4 e
    · rename_i h2; rw [if_neg h2] at e; exact m4 e
theorem kl {i j : Nat} : (kas_rev p i j).size = p.size := mirror_size _ _ _ _
theorem ic {i j : Nat} : (kas_rev p i j).Perm p := mirror_perm _ _ _ _
noncomputable def ltK (key : Nat -> Int) (i j : Nat) : Bool := decide (key i < key j)
theorem D3 (p : Array Nat) : ∀ (f n : Nat), 1 <= n -> Up key p n -> n <= fF (ltK key) (kas_asc p f n) /\ fF (ltK key) (kas_asc p f n) <= n + f /\ Up key p (fF (ltK key) (kas_asc p f n)) /\
    (fF (ltK key) (kas_asc p f n) < n + f -> kAt key p (fF (ltK key) (kas_asc p f n)) < kAt key p (fF (ltK key) (kas_asc p f n) - 1))
  | 0, n, h1, h => ⟨Nat.le_refl _, Nat.le_refl _, h, fun z => absurd z (Nat.lt_irrefl _)⟩
  | f + 1, n, h1, h => by
    have e : fF (ltK key) (kas_asc p (f + 1) n) = if kAt key p n < kAt key p (n - 1) then n else fF (ltK key) (kas_asc p f (n + 1)) := by
      show fF (ltK key) (if ltK key (p.getD n 0) (p.getD (n - 1) 0) = true then KasT.ret n else kas_asc p f (n + 1)) = _
      by_cases hc : kAt key p n < kAt key p (n - 1)
      · rw [if_pos (show ltK key (p.getD n 0) (p.getD (n - 1) 0) = true from decide_eq_true hc), if_pos hc]; rfl
      · rw [if_neg (show ¬ ltK key (p.getD n 0) (p.getD (n - 1) 0) = true from fun z => hc (of_decide_eq_true z)), if_neg hc]
    rw [e]
    by_cases hc : kAt key p n < kAt key p (n - 1)
    · rw [if_pos hc]
      exact ⟨Nat.le_refl _, by omega, h, fun _ => hc⟩
    · rw [if_neg hc]
      obtain ⟨a1, a2, a3, a4⟩ := D3 p f (n + 1) (by omega) (fun i j hij hj => by
        by_cases hjn : j < n
        · exact h i j hij hjn
        · have : j = n := by omega
          subst this
          by_cases hin : i = j
          · rw [hin]; exact Int.le_refl _
          · have := h i (j - 1) (by omega) (by omega)
            omega)
      exact ⟨by omega, by omega, a3, fun z => a4 (by omega)⟩
noncomputable def Alike (key : Nat -> Int) (p : Array Nat) (n q : Nat) : Prop := ∀ i, n - (q + 1) <= i -> i < n -> kAt key p i = kAt key p (n - 1)
theorem D5 {n : Nat} : Alike key p (n + 1) 0 := fun i h1 h2 => by rw [show i = n + 1 - 1 by omega]
theorem xo {n q : Nat} (hn : n <= p.size) (ha : Alike key p n q) (hq : q + 1 <= n) (k : Nat) : kAt key (kas_rev p (n - (q + 1)) n) k = kAt key p k := by
  rw [sx hn]
  split
  · rename_i h
    rw [ha _ (by omega) (by omega), ha k h.1 h.2]
  · rfl
theorem wd : ∀ (f : Nat) (p : Array Nat) (n q : Nat), 1 <= n -> q + 1 <= n -> n + f <= p.size -> Down key p n -> Alike key p n q -> ∀ p' n' q', fF (ltK key) (kas_desc f p n q) = (p', n', q') ->
    p'.Perm p /\ p'.size = p.size /\ n <= n' /\ n' <= n + f /\ q' + 1 <= n' /\ Down key p' n' /\ Alike key p' n' q'
  | 0, p, n, q, h1, hq, hz, hd, ha, p', n', q', e => by
    cases e
    exact ⟨Array.Perm.refl _, rfl, Nat.le_refl _, Nat.le_refl _, hq, hd, ha⟩
  | f + 1, p, n, q, h1, hq, hz, hd, ha, p', n', q', e => by
    have e0 : fF (ltK key) (kas_desc (f + 1) p n q) = if kAt key p n < kAt key p (n - 1) then (if q > 0 then fF (ltK key) (kas_desc f (kas_rev p (n - (q + 1)) n) (n + 1) 0) else fF (ltK key) (kas_desc f p (n + 1) 0))
        else if kAt key p (n - 1) < kAt key p n then (p, n, q) else fF (ltK key) (kas_desc f p (n + 1) (q + 1)) := by
      show fF (ltK key) (if ltK key (p.getD n 0) (p.getD (n - 1) 0) = true then (if q > 0 then kas_desc f (kas_rev p (n - (q + 1)) n) (n + 1) 0 else kas_desc f p (n + 1) 0)
        else KasT.ask (p.getD (n - 1) 0) (p.getD n 0) fun d => if d = true then .ret (p, n, q) else kas_desc f p (n + 1) (q + 1)) = _
      by_cases hc : kAt key p n < kAt key p (n - 1)
      · rw [if_pos (show ltK key (p.getD n 0) (p.getD (n - 1) 0) = true from decide_eq_true hc), if_pos hc]
        by_cases hq0 : q > 0
        · rw [if_pos hq0, if_pos hq0]
        · rw [if_neg hq0, if_neg hq0]
      · rw [if_neg (show ¬ ltK key (p.getD n 0) (p.getD (n - 1) 0) = true from fun z => hc (of_decide_eq_true z)), if_neg hc]
        show fF (ltK key) (if ltK key (p.getD (n - 1) 0) (p.getD n 0) = true then KasT.ret (p, n, q) else kas_desc f p (n + 1) (q + 1)) = _
        by_cases hc2 : kAt key p (n - 1) < kAt key p n
        · rw [if_pos (show ltK key (p.getD (n - 1) 0) (p.getD n 0) = true from decide_eq_true hc2), if_pos hc2]; rfl
        · rw [if_neg (show ¬ ltK key (p.getD (n - 1) 0) (p.getD n 0) = true from fun z => hc2 (of_decide_eq_true z)), if_neg hc2]
    rw [e0] at e
    have down1 : ∀ {r : Array Nat}, (∀ k, kAt key r k = kAt key p k) -> kAt key p n <= kAt key p (n - 1) -> Down key r (n + 1) := fun {r} hr hle i j hij hj => by
      rw [hr, hr]
      by_cases hjn : j < n
      · exact hd i j hij hjn
      · have : j = n := by omega
        subst this
        by_cases hin : i = j
        · rw [hin]; exact Int.le_refl _
        · have := hd i (j - 1) (by omega) (by omega)
          omega
    by_cases hc : kAt key p n < kAt key p (n - 1)
    · rw [if_pos hc] at e
      by_cases hq0 : q > 0
      · rw [if_pos hq0] at e
        have hr := xo (key := key) (p := p) (n := n) (q := q) (by omega) ha hq
        obtain ⟨b1, b2, b3, b4, b5, b6, b7⟩ := wd f _ (n + 1) 0 (by omega) (by omega) (by rw [kl]; omega) (down1 hr (by omega)) D5 p' n' q' e
        exact ⟨b1.trans ic, by rw [b2, kl], by omega, by omega, b5, b6, b7⟩
      · rw [if_neg hq0] at e
        obtain ⟨b1, b2, b3, b4, b5, b6, b7⟩ := wd f _ (n + 1) 0 (by omega) (by omega) (by omega) (down1 (fun _ => rfl) (by omega)) D5 p' n' q' e
        exact ⟨b1, b2, by omega, by omega, b5, b6, b7⟩
    · rw [if_neg hc] at e
      by_cases hc2 : kAt key p (n - 1) < kAt key p n
      · rw [if_pos hc2] at e
        cases e
        exact ⟨Array.Perm.refl _, rfl, Nat.le_refl _, by omega, hq, hd, ha⟩
      · rw [if_neg hc2] at e
        obtain ⟨b1, b2, b3, b4, b5, b6, b7⟩ := wd f _ (n + 1) (q + 1) (by omega) (by omega) (by omega) (down1 (fun _ => rfl) (by omega)) (fun i h1 h2 => by
          show kAt key p i = kAt key p (n + 1 - 1)
          rw [Nat.add_sub_cancel]
          by_cases hin : i = n
          · rw [hin]
          · have := ha i (by omega) (by omega)
            omega) p' n' q' e
        exact ⟨b1, b2, by omega, by omega, b5, b6, b7⟩
theorem A9 {n nrem : Nat} (h1 : 1 <= n) (hn : n <= nrem) (hz : nrem <= p.size) (hd : Down key p n) : ∀ m p', fF (ltK key) (kas_tail3 n nrem p) = (m, p') -> p'.Perm p /\ p'.size = p.size /\ 1 <= m /\ m <= nrem /\ Up key p' m := by
  intro m p' e
  unfold kas_tail3 at e
  rw [jO] at e
  cases e
  have hu : Up key (kas_rev p 0 n) n := fun i j hij hj => by
    rw [sx (by omega), sx (by omega), if_pos ⟨Nat.zero_le _, by omega⟩, if_pos ⟨Nat.zero_le _, by omega⟩]
    exact hd _ _ (by omega) (by omega)
  obtain ⟨a1, a2, a3, _⟩ := D3 (key := key) (kas_rev p 0 n) (nrem - n) n h1 hu
  exact ⟨ic, kl, by omega, by omega, a3⟩
theorem sJ {n nrem : Nat} (h1 : 1 <= n) (hn : n + 1 <= nrem) (hz : nrem <= p.size) (hall : ∀ i, i < n -> kAt key p i = kAt key p (n - 1)) (hlt : kAt key p n < kAt key p (n - 1)) : ∀ m p', fF (ltK key) (kas_descPart n nrem p) = (m, p') -> p'.Perm p /\ p'.size = p.size /\ 1 <= m /\ m <= nrem /\ Up key p' m := by
  intro m p' e
  unfold kas_descPart at e
  rw [jO] at e
  obtain ⟨r, n2, q2⟩ : ∃ r n2 q2, fF (ltK key) (kas_desc (nrem - (n + 1)) p (n + 1) 0) = (r, n2, q2) := ⟨_, _, _, rfl⟩
  obtain ⟨q2, er⟩ := q2
  rw [er] at e
  obtain ⟨b1, b2, b3, b4, b5, b6, b7⟩ := wd (key := key) (nrem - (n + 1)) p (n + 1) 0 (by omega) (by omega) (by omega) (fun i j hij hj => by
    by_cases hjn : j < n
    · rw [hall i (by omega), hall j hjn]; exact Int.le_refl _
    · have : j = n := by omega
      subst this
      by_cases hin : i = j
      · rw [hin]; exact Int.le_refl _
      · rw [hall i (by omega)]; omega) D5 r n2 q2 er
  by_cases hq : q2 > 0
  · simp only [if_pos hq] at e
    have hr := xo (key := key) (p := r) (n := n2) (q := q2) (by omega) b7 b5
    obtain ⟨c1, c2, c3, c4, c5⟩ := A9 (key := key) (p := kas_rev r (n2 - (q2 + 1)) n2) (n := n2) (nrem := nrem) (by omega) (by omega) (by rw [kl]; omega) (fun i j hij hj => by rw [hr, hr]; exact b6 i j hij hj) m p' e
    exact ⟨c1.trans (ic.trans b1), by rw [c2, kl, b2], c3, c4, c5⟩
  · simp only [if_neg hq] at e
    obtain ⟨c1, c2, c3, c4, c5⟩ := A9 (key := key) (p := r) (n := n2) (nrem := nrem) (by omega) (by omega) (by omega) b6 m p' e
    exact ⟨c1.trans b1, by rw [c2, b2], c3, c4, c5⟩
theorem count_ok {nrem : Nat} (h1 : 1 <= nrem) (hz : nrem <= p.size) : ∀ m p', fF (ltK key) (kas_count nrem p) = (m, p') -> p'.Perm p /\ p'.size = p.size /\ 1 <= m /\ m <= nrem /\ Up key p' m := by
  intro m p' e
  unfold kas_count at e
  rw [jO] at e
  obtain ⟨a1, a2, a3, a4⟩ := D3 (key := key) p (nrem - 1) 1 (Nat.le_refl _) (fun i j hij hj => by rw [show i = j by omega]; exact Int.le_refl _)
  obtain ⟨n, en⟩ : ∃ n, fF (ltK key) (kas_asc p (nrem - 1) 1) = n := ⟨_, rfl⟩
  rw [en] at e a1 a2 a3 a4
  by_cases hn : (n == nrem) = true
  · simp only [if_pos hn] at e
    cases e
    exact ⟨Array.Perm.refl _, rfl, a1, by omega, a3⟩
  · simp only [if_neg hn] at e
    have hn' : n ≠ nrem := fun z => hn (by simp [z])
    have hlt := a4 (by omega)
    by_cases h2 : n > 1
    · simp only [if_pos h2] at e
      have e' : fF (ltK key) (if ltK key (p.getD 0 0) (p.getD (n - 1) 0) = true then KasT.ret (n, p) else kas_descPart n nrem (kas_rev p 0 n)) = (m, p') := e
      by_cases hc : kAt key p 0 < kAt key p (n - 1)
      · rw [if_pos (show ltK key (p.getD 0 0) (p.getD (n - 1) 0) = true from decide_eq_true hc)] at e'
        cases e'
        exact ⟨Array.Perm.refl _, rfl, a1, by omega, a3⟩
      · rw [if_neg (show ¬ ltK key (p.getD 0 0) (p.getD (n - 1) 0) = true from fun z => hc (of_decide_eq_true z))] at e'
        have all : ∀ i, i < n -> kAt key p i = kAt key p (n - 1) := fun i hi => by
          have x1 := a3 0 i (by omega) hi
          have x2 := a3 i (n - 1) (by omega) (by omega)
          omega
        have hr : ∀ i, i < n -> kAt key (kas_rev p 0 n) i = kAt key p (n - 1) := fun i hi => by
          rw [sx (by omega), if_pos ⟨Nat.zero_le _, hi⟩]
          exact all _ (by omega)
        obtain ⟨c1, c2, c3, c4, c5⟩ := sJ (key := key) (p := kas_rev p 0 n) (n := n) (nrem := nrem) a1 (by omega) (by rw [kl]; omega) (fun i hi => by rw [hr i hi, hr (n - 1) (by omega)]) (by
          rw [hr (n - 1) (by omega), sx (by omega), if_neg (by omega)]
          exact hlt) m p' e'
        exact ⟨c1.trans ic, by rw [c2, kl], c3, c4, c5⟩
    · simp only [if_neg h2] at e
      have : n = 1 := by omega
      subst this
      exact sJ (key := key) (Nat.le_refl _) (by omega) hz (fun i hi => by rw [show i = 1 - 1 by omega]) hlt m p' e
theorem vi {k : Nat} (hu : Up key p k) : ∀ (f l r : Nat), r <= k -> r - l <= f -> l <= r -> (∀ i, i < l -> kAt key p i <= kAt key p k) -> (∀ i, r <= i -> i < k -> kAt key p k < kAt key p i) ->
    fF (ltK key) (kas_place p k f l r) <= k /\ (∀ i, i < fF (ltK key) (kas_place p k f l r) -> kAt key p i <= kAt key p k) /\ ∀ i, fF (ltK key) (kas_place p k f l r) <= i -> i < k -> kAt key p k < kAt key p i
  | 0, l, r, hr, hf, hlr, h1, h2 => by
    have : l = r := by omega
    subst this
    exact ⟨hr, h1, h2⟩
  | f + 1, l, r, hr, hf, hlr, h1, h2 => by
    by_cases hge : l >= r
    · have : l = r := by omega
      subst this
      have e : fF (ltK key) (kas_place p k (f + 1) l l) = l := by
        show fF (ltK key) (if l >= l then KasT.ret l else _) = l
        rw [if_pos hge]; rfl
      rw [e]
      exact ⟨hr, h1, h2⟩
    · have e : fF (ltK key) (kas_place p k (f + 1) l r) = if kAt key p k < kAt key p ((l + r) / 2) then fF (ltK key) (kas_place p k f l ((l + r) / 2)) else fF (ltK key) (kas_place p k f ((l + r) / 2 + 1) r) := by
        show fF (ltK key) (if l >= r then KasT.ret l else .ask (p.getD k 0) (p.getD ((l + r) / 2) 0) fun c => if c = true then kas_place p k f l ((l + r) / 2) else kas_place p k f ((l + r) / 2 + 1) r) = _
        rw [if_neg hge]
        show fF (ltK key) (if ltK key (p.getD k 0) (p.getD ((l + r) / 2) 0) = true then kas_place p k f l ((l + r) / 2) else kas_place p k f ((l + r) / 2 + 1) r) = _
        by_cases hc : kAt key p k < kAt key p ((l + r) / 2)
        · rw [if_pos (show ltK key (p.getD k 0) (p.getD ((l + r) / 2) 0) = true from decide_eq_true hc), if_pos hc]
        · rw [if_neg (show ¬ ltK key (p.getD k 0) (p.getD ((l + r) / 2) 0) = true from fun z => hc (of_decide_eq_true z)), if_neg hc]
      rw [e]
      by_cases hc : kAt key p k < kAt key p ((l + r) / 2)
      · rw [if_pos hc]
        exact vi hu f l ((l + r) / 2) (by omega) (by omega) (by omega) h1 fun i hi hik => by
          have := hu ((l + r) / 2) i hi hik
          omega
      · rw [if_neg hc]
        exact vi hu f ((l + r) / 2 + 1) r hr (by omega) (by omega) (fun i hi => by
          have := hu i ((l + r) / 2) (by omega) (by omega)
          omega) h2
theorem bin_ok : ∀ (f : Nat) (p : Array Nat) (k : Nat), k + f <= p.size -> Up key p k -> (fF (ltK key) (kas_bin f p k)).Perm p /\ Up key (fF (ltK key) (kas_bin f p k)) (k + f)
  | 0, p, k, hz, hu => ⟨Array.Perm.refl _, hu⟩
  | f + 1, p, k, hz, hu => by
    have e : fF (ltK key) (kas_bin (f + 1) p k) = fF (ltK key) (kas_bin f (bubble p k (k - fF (ltK key) (kas_place p k k 0 k))) (k + 1)) := by
      show fF (ltK key) ((kas_place p k k 0 k).bind fun l => kas_bin f (bubble p k (k - l)) (k + 1)) = _
      rw [jO]
    rw [e]
    obtain ⟨a1, a2, a3⟩ := vi hu k 0 k (Nat.le_refl _) (by omega) (Nat.zero_le _) (fun i hi => absurd hi (Nat.not_lt_zero _)) (fun i h1 h2 => by omega)
    obtain ⟨l, el⟩ : ∃ l, fF (ltK key) (kas_place p k k 0 k) = l := ⟨_, rfl⟩
    rw [el] at a1 a2 a3 ⊢
    have hb := kAt_bub (key := key) (p := p) (src := k) (d := k - l) (by omega) (by omega)
    obtain ⟨c1, c2⟩ := bin_ok f (bubble p k (k - l)) (k + 1) (by rw [bubble_size]; omega) (fun i j hij hj => by
      have e1 : k - (k - l) = l := by omega
      rw [hb, hb, e1]
      by_cases hi : i = l
      · rw [if_pos hi]
        by_cases hj2 : j = l
        · rw [if_pos hj2]; exact Int.le_refl _
        · rw [if_neg hj2, if_pos (by omega)]
          have := a3 (j - 1) (by omega) (by omega)
          omega
      · rw [if_neg hi]
        by_cases hj2 : j = l
        · rw [if_pos hj2, if_neg (by omega)]
          exact a2 i (by omega)
        · rw [if_neg hj2]
          by_cases hi2 : l < i /\ i <= k
          · rw [if_pos hi2, if_pos (by omega)]
            exact hu _ _ (by omega) (by omega)
          · rw [if_neg hi2]
            by_cases hj3 : l < j /\ j <= k
            · rw [if_pos hj3]
              exact hu _ _ (by omega) (by omega)
            · rw [if_neg hj3]
              exact hu _ _ (by omega) (by omega))
    exact ⟨c1.trans (bubble_perm _ _ _), by rw [show k + (f + 1) = k + 1 + f by omega]; exact c2⟩
theorem yW {n : Nat} (h1 : 1 <= n) : (fF (ltK key) (kas_sort n)).toList.Perm (List.range n) /\ Up key (fF (ltK key) (kas_sort n)) n := by
  unfold kas_sort
  rw [jO]
  obtain ⟨m, p', er⟩ : ∃ m p', fF (ltK key) (kas_count n (List.toArray (List.range n))) = (m, p') := ⟨_, _, rfl⟩
  rw [er]
  obtain ⟨b1, b2, b3, b4, b5⟩ := count_ok (key := key) (p := List.toArray (List.range n)) h1 (by simp) m p' er
  have hsz : p'.size = n := by rw [b2]; simp
  by_cases hm : m < n
  · simp only [if_pos hm]
    have em : max m 1 = m := by omega
    rw [em]
    obtain ⟨c1, c2⟩ := bin_ok (key := key) (n - m) p' m (by omega) b5
    refine ⟨?_, by rw [show m + (n - m) = n by omega] at c2; exact c2⟩
    have := Array.perm_iff_toList_perm.mp (c1.trans b1)
    simpa using this
  · simp only [if_neg hm]
    have : m = n := by omega
    subst this
    refine ⟨?_, b5⟩
    have := Array.perm_iff_toList_perm.mp b1
    show p'.toList.Perm _
    simpa using this
end
end L2
namespace L2
open PySem PySem.Spec PyProof.Rows
section
open PySem.W
variable {α β : Type} {n : Nat}
noncomputable def AJ (n : Nat) (R : α -> Prop) : KasT α -> Prop
  | .ret a => R a
  | .ask i j k => i < n /\ j < n /\ ∀ b, AJ n R (k b)
theorem kg {R : α -> Prop} {S : β -> Prop} {f : α -> KasT β} (hf : ∀ a, R a -> AJ n S (f a)) : ∀ t : KasT α, AJ n R t -> AJ n S (t.bind f)
  | .ret a, h => hf a h
  | .ask i j k, h => ⟨h.1, h.2.1, fun b => kg hf (k b) (h.2.2 b)⟩
theorem uv {lt : Nat -> Nat -> Bool} {R : α -> Prop} {cmp : Nat -> Nat -> (Bool -> Shared -> Prop) -> Shared -> Prop} {s : Shared} (ha : ∀ i j (C : Bool -> Shared -> Prop), i < n -> j < n -> C (lt i j) s -> cmp i j C s) {Q : α -> Shared -> Prop} : ∀ t : KasT α, AJ n R t -> Q (fF lt t) s -> t.kasWp cmp Q s
  | .ret _, _, h => h
  | .ask i j k, r, h => ha i j _ r.1 r.2.1 (uv ha (k (lt i j)) (r.2.2 _) h)
noncomputable def InB (n : Nat) (p : Array Nat) : Prop := ∀ x, p.getD x 0 < n
theorem n5 {p q : Array Nat} (h0 : 0 < n) (hp : InB n p) (h : q.Perm p) : InB n q := fun x => by
  rw [Array.getD_eq_getD_getElem?]
  cases e : q[x]? with
  | none => exact h0
  | some v =>
    have hv : v ∈ q.toList := by
      rw [<- Array.getElem?_toList] at e
      exact List.mem_of_getElem? e
    have hv2 : v ∈ p.toList := (Array.perm_iff_toList_perm.mp h).mem_iff.mp hv
    obtain ⟨y, hy, ey⟩ := List.getElem_of_mem hv2
    have := hp y
    rw [Array.getD_eq_getD_getElem?, <- Array.getElem?_toList, List.getElem?_eq_getElem hy, ey] at this
    exact this
variable {p : Array Nat}
theorem wD (hp : InB n p) : ∀ f m, AJ n (fun _ => True) (kas_asc p f m)
  | 0, _ => trivial
  | f + 1, m => ⟨hp _, hp _, fun b => by
    (try dsimp only)
    split
    · trivial
    · exact wD hp f (m + 1)⟩
theorem pY (h0 : 0 < n) : ∀ (f : Nat) (p : Array Nat) (m q : Nat), InB n p -> AJ n (fun r => InB n r.1) (kas_desc f p m q)
  | 0, p, _, _, hp => hp
  | f + 1, p, m, q, hp => ⟨hp _, hp _, fun b => by
    (try dsimp only)
    split
    · split
      · exact pY h0 f _ _ _ (n5 h0 hp ic)
      · exact pY h0 f _ _ _ hp
    · refine ⟨hp _, hp _, fun c => ?_⟩
      (try dsimp only)
      split
      · exact hp
      · exact pY h0 f _ _ _ hp⟩
theorem uK (h0 : 0 < n) (hp : InB n p) (m r : Nat) : AJ n (fun r => InB n r.2) (kas_tail3 m r p) := by
  unfold kas_tail3
  refine kg (n := n) (R := fun _ => True) (f := fun k => KasT.ret (k, kas_rev p 0 m)) (fun a _ => ?_) _ (wD (n5 h0 hp ic) _ _)
  exact n5 h0 hp ic
theorem pX (h0 : 0 < n) (hp : InB n p) (m r : Nat) : AJ n (fun r => InB n r.2) (kas_descPart m r p) := by
  refine kg (R := fun r => InB n r.1) (fun a ha => ?_) _ (pY h0 _ _ _ _ hp)
  (try dsimp only)
  split
  · exact uK h0 (n5 h0 ha ic) _ _
  · exact uK h0 ha _ _
theorem Bq (h0 : 0 < n) (hp : InB n p) (r : Nat) : AJ n (fun r => InB n r.2) (kas_count r p) := by
  refine kg (R := fun _ => True) (fun a _ => ?_) _ (wD hp _ _)
  (try dsimp only)
  split
  · exact hp
  · split
    · refine ⟨hp _, hp _, fun b => ?_⟩
      (try dsimp only)
      split
      · exact hp
      · exact pX h0 (n5 h0 hp ic) _ _
    · exact pX h0 hp _ _
theorem qJ (hp : InB n p) (k : Nat) : ∀ f l r, AJ n (fun _ => True) (kas_place p k f l r)
  | 0, _, _ => trivial
  | f + 1, l, r => by
    show AJ n (fun _ => True) (if l >= r then KasT.ret l else _)
    split
    · trivial
    · refine ⟨hp _, hp _, fun b => ?_⟩
      (try dsimp only)
      split
      · exact qJ hp k f _ _
      · exact qJ hp k f _ _
theorem AF (h0 : 0 < n) : ∀ (f : Nat) (p : Array Nat) (k : Nat), InB n p -> AJ n (fun _ => True) (kas_bin f p k)
  | 0, _, _, _ => trivial
  | f + 1, p, k, hp => kg (R := fun _ => True) (fun l _ => AF h0 f _ _ (n5 h0 hp (bubble_perm _ _ _))) _ (qJ hp k _ _ _)
theorem D2 (h0 : 0 < n) : AJ n (fun _ => True) (kas_sort n) := by
  refine kg (R := fun r => InB n r.2) (fun a ha => ?_) _ (Bq h0 (fun x => ?_) _)
  · (try dsimp only)
    split
    · exact AF h0 _ _ _ ha
    · trivial
  · rw [Array.getD_eq_getD_getElem?]
    simp only [List.getElem?_toArray]
    cases e : (List.range n)[x]? with
    | none => exact h0
    | some v => exact List.mem_range.mp (List.mem_of_getElem? e)
end
section
open PySem.W
variable {prog : Program} {w : World} {A : Around} {E : Value -> Shared -> Prop} {s : Shared} {key : Nat -> Int}
noncomputable def qm (key : Nat -> Int) (vs : List Value) : List Value := if vs.length < 2 then vs else (fF (ltK key) (kas_sort vs.length)).toList.map fun i => vs.getD i Value.none
noncomputable def Asks (prog : Program) (w : World) (A : Around) (key : Nat -> Int) (vs : List Value) (s' : Shared) : Prop :=
  wpAny (model prog w) A (keyKind' vs.toArray) (fun κ s2 => s2 = s' /\ ∀ i j (C : Bool -> Shared -> Prop), i < vs.length -> j < vs.length -> C (ltK key i j) s' -> kas_ask prog w A κ vs i j C s') (fun _ _ => False) s'
theorem Cb {a : Addr} {vs : List Value} {n : Nat} {P : PySem.Fin -> Shared -> Prop} (ho : s.heap.get? a = some (seqObj "list" vs.toArray n)) (h64 : vs.length < 64)
    (hk : 2 <= vs.length -> ∀ h1 : Heap, (∀ b o, b ≠ a -> s.heap.get? b = some o -> h1.get? b = some o) -> Asks prog w A key vs { s with heap := h1 })
    (h : ∀ (h' : Heap) (c : Nat), (∀ b o, b ≠ a -> s.heap.get? b = some o -> h'.get? b = some o) -> h'.get? a = some (seqObj "list" (qm key vs).toArray c) -> P (.done (.ret .none)) { s with heap := h' }) :
    wpAny (model prog w) A (Builtin.«list.sort» ⟨[.ref a], []⟩) P E s := by
  have hlt : a < s.heap.objs.size := Heap.lt_size ho
  have hline := sizeLine_eq
  obtain ⟨e1, ho1⟩ : ∃ e1, (s.heap.update a (Obj.mapSeq fun _ => (#[] : Array Value))).get? a = some (seqObj "list" #[] e1) := ⟨_, get?_update_seq ho fun _ => #[]⟩
  rw [list_sort_plain]
  refine wpAny_bind (listItems_at ho rfl (wpAny_bind (listUpdate_at ho rfl (wpAny_bind (seqEpoch_at ho1 rfl (wpAny_bind (wpAny_newTuple (wpAny_bind (wpAny_newList (wpAny_holding ?_) (Nat.zero_le _))) (by show vs.length <= _; omega))))) (by rw [List.size_toArray]; omega) (Nat.zero_le _))))
  have hkeep : ∀ b o, b ≠ a -> s.heap.get? b = some o -> (((s.heap.update a (Obj.mapSeq fun _ => (#[] : Array Value))).push (seqObj "tuple" vs.toArray 0)).push (seqObj "list" #[] 0)).get? b = some o := fun b o hb q =>
    Heap.get?_push_of_some _ (Heap.get?_push_of_some _ ((Heap.get?_update_other _ _ (Ne.symm hb)).trans q))
  have ho6 : (((s.heap.update a (Obj.mapSeq fun _ => (#[] : Array Value))).push (seqObj "tuple" vs.toArray 0)).push (seqObj "list" #[] 0)).get? a = some (seqObj "list" #[] e1) := Heap.get?_push_of_some _ (Heap.get?_push_of_some _ ho1)
  show wpAny (model prog w) A _ P E { s with heap := ((s.heap.update a (Obj.mapSeq fun _ => (#[] : Array Value))).push (seqObj "tuple" vs.toArray 0)).push (seqObj "list" #[] 0) }
  dsimp only
  have fin : ∀ (out : List Value), out = qm key vs -> P (.done (.ret .none)) { s with heap := (((s.heap.update a (Obj.mapSeq fun _ => (#[] : Array Value))).push (seqObj "tuple" vs.toArray 0)).push (seqObj "list" #[] 0)).update a (Obj.mapSeq fun _ => out.toArray) } := fun out eo => by
    subst eo
    exact h _ _ (fun b o hb q => (Heap.get?_update_other _ _ (Ne.symm hb)).trans (hkeep b o hb q)) (get?_update_seq ho6 fun _ => (qm key vs).toArray)
  by_cases h2 : vs.toArray.size < 2
  · rw [if_pos h2, if_pos h2]
    refine wpAny_bind (wpAny_pure ?_)
    rw [StateT.run_pure]
    refine wpAny_bind (wpAny_pure ?_)
    dsimp only
    have h2' : vs.length < 2 := by simpa using h2
    have eo : (arrOf (SortSt.mk' general' (vs.toArray.zip vs.toArray) #[] 7 none)).map (·.2) = vs.toArray := by
      show (vs.toArray.zip vs.toArray).map (·.2) = vs.toArray
      apply Array.toList_inj.mp
      simp only [Array.toList_map, Array.toList_zip]
      exact List.map_snd_zip (Nat.le_refl _)
    rw [eo]
    refine wpAny_bind (seqEpoch_at ho6 rfl (wpAny_bind (listUpdate_at ho6 rfl ?_ (Nat.zero_le _) (by show vs.length <= _; omega))))
    have e3 : failedOf (SortSt.mk' general' (vs.toArray.zip vs.toArray) #[] 7 none) = none := rfl
    simp only [e3, bne_self_eq_false, Bool.false_eq_true, if_false]
    exact wpAny_pure (fin vs (by unfold qm; rw [if_pos h2']))
  · rw [if_neg h2, if_neg h2]
    have h2' : 2 <= vs.length := by rw [List.size_toArray] at h2; omega
    refine wpAny_bind (wpAny_mono (hk h2' _ hkeep) (fun κ s0 ⟨es, ask⟩ => ?_) fun _ _ x => x.elim)
    subst es
    refine wpAny_bind (wpAny_mono (kat_run (ks := vs) (vs := vs) (Q := fun st' s' => s' = { s with heap := ((s.heap.update a (Obj.mapSeq fun _ => (#[] : Array Value))).push (seqObj "tuple" vs.toArray 0)).push (seqObj "list" #[] 0) } /\ (arrOf st').map (·.2) = (qm key vs).toArray /\ failedOf st' = none)
      (G := fun p s' => s' = { s with heap := ((s.heap.update a (Obj.mapSeq fun _ => (#[] : Array Value))).push (seqObj "tuple" vs.toArray 0)).push (seqObj "list" #[] 0) } /\ p = fF (ltK key) (kas_sort vs.length)) rfl h2' h64 (fun p st' s' _ har hf hg => ⟨hg.1, ?_, hf⟩) (uv (n := vs.length) (R := fun _ => True) (fun i j C hi hj hc => ask i j C hi hj hc) _ (D2 (by omega)) ⟨rfl, rfl⟩)) (fun r s' hr => ?_) fun _ _ x => x)
    · rw [kat_snds rfl har, hg.2]
      unfold qm
      rw [if_neg (by omega)]
    · obtain ⟨⟨⟩, st'⟩ := r
      obtain ⟨es, eo, ef⟩ := hr
      have es : s' = _ := es
      subst es
      have eo : (arrOf st').map (·.2) = (qm key vs).toArray := eo
      have ef : failedOf st' = none := ef
      dsimp only
      rw [eo]
      have hol : (qm key vs).length = vs.length := by
        unfold qm
        split
        · rfl
        · rw [List.length_map, (yW (key := key) (n := vs.length) (by omega)).1.length_eq, List.length_range]
      refine wpAny_bind (seqEpoch_at ho6 rfl (wpAny_bind (listUpdate_at ho6 rfl ?_ (Nat.zero_le _) (by show (qm key vs).length <= _; omega))))
      simp only [ef, bne_self_eq_false, Bool.false_eq_true, if_false]
      exact wpAny_pure (fin _ rfl)
theorem AR {l : Addr} {vs : List Value} {Q : Value -> Shared -> Prop} (hl : s.heap.IsList l vs.toArray) (h64 : vs.length < 64)
    (hk : 2 <= vs.length -> ∀ h1 : Heap, (∀ b o, s.heap.get? b = some o -> h1.get? b = some o) -> Asks prog w A.in1.in1 key vs { s with heap := h1 })
    (h : ∀ (h' : Heap) (D : Addr) (c : Nat), s.heap.objs.size <= D -> (∀ b o, s.heap.get? b = some o -> h'.get? b = some o) -> h'.get? D = some (seqObj "list" (qm key vs).toArray c) -> Q (.ref D) { s with heap := h' }) :
    wpAny (model prog w) A (call (.builtin "sorted") [.ref l]) Q E s := by
  have hline := sizeLine_eq
  refine Calls.call_function_entry kind_sorted plain_sorted entry_sorted (args_sorted1 _) ?_
  unfold Builtin.«sorted»
  refine wpAny_bind (m := checkCount "sorted" 1 1 _) (wpAny_pure (wpAny_bind (collect_list hl (wpAny_bind (wpAny_newList ?_ (by omega))) (by omega))))
  have hz : ((s.heap.push (seqObj "list" #[] 0)).update s.heap.objs.size (Obj.mapSeq (· ++ vs.toArray))).objs.size = s.heap.objs.size + 1 := by rw [Heap.size_update, size_push']
  have hD : (((s.heap.push (seqObj "list" #[] 0)).update s.heap.objs.size (Obj.mapSeq (· ++ vs.toArray))).push (seqObj "list" vs.toArray 0)).get? (s.heap.objs.size + 1) = some (seqObj "list" vs.toArray 0) := by rw [<- hz]; exact Heap.get?_push_size _ rfl
  have hkeep : ∀ b o, s.heap.get? b = some o -> (((s.heap.push (seqObj "list" #[] 0)).update s.heap.objs.size (Obj.mapSeq (· ++ vs.toArray))).push (seqObj "list" vs.toArray 0)).get? b = some o := fun b o q =>
    Heap.get?_push_of_some _ ((Heap.get?_update_other _ _ (Nat.ne_of_gt (Heap.lt_size q))).trans (Heap.get?_push_of_some _ q))
  show wpAny _ _ _ _ _ { s with heap := ((s.heap.push (seqObj "list" #[] 0)).update s.heap.objs.size (Obj.mapSeq (· ++ vs.toArray))).push (seqObj "list" vs.toArray 0) }
  rw [hz]
  have hnD : ∀ b o, s.heap.get? b = some o -> b ≠ s.heap.objs.size + 1 := fun b o q => Nat.ne_of_lt (Nat.lt_succ_of_lt (Heap.lt_size q))
  refine wpAny_bind (wpAny_holding (wpAny_call_entry slot_list_sort ⟨_, hD, rfl⟩ entry_list_sort (Cb hD h64 (fun h2 h1 hk1 => hk h2 h1 fun b o q => hk1 b o (hnD b o q) (hkeep b o q)) fun h' c k' e' => ⟨_, rfl, ?_⟩) (args_list_sort _)))
  exact wpAny_pure ⟨_, rfl, h h' _ c (Nat.le_succ _) (fun b o q => k' b o (hnD b o q) (hkeep b o q)) e'⟩
end
end L2
namespace L2
open PySem PySem.Spec PyProof.Rows
noncomputable def insL {α : Type} (lt : α -> α -> Bool) (x : α) : List α -> List α
  | [] => [x]
  | y :: ys => if lt y x = true then y :: insL lt x ys else x :: y :: ys
noncomputable def pD {α : Type} (lt : α -> α -> Bool) : List α -> List α
  | [] => []
  | x :: xs => insL lt x (pD lt xs)
noncomputable def ltZ (a b : Int) : Bool := decide (a < b)
noncomputable def sj : List Int -> List Int -> Bool
  | [], [] => false
  | [], _ :: _ => true
  | _ :: _, [] => false
  | a :: as, b :: bs => if a = b then sj as bs else decide (a < b)
noncomputable def tupZ (t : List Int) : Dat := .tup (t.map .int)
noncomputable def tupD : Dat -> M (List Int)
  | .tup ds => e8 ds
  | _ => stk
noncomputable def n8 : List Dat -> M (List (List Int))
  | [] => .ok []
  | d :: ds => (tupD d).bind fun t => (n8 ds).bind fun r => .ok (t :: r)
noncomputable def xa (ds : List Dat) : M Dat := if ds.length < 64 then (match e8 ds with
  | .ok is => .ok (.lst ((pD ltZ is).map .int))
  | .error _ => (n8 ds).bind fun ts => if (ts.all fun t => !t.isEmpty) = true then .ok (.lst ((pD sj ts).map tupZ)) else stk) else stk
noncomputable def qh : List Dat -> M Dat
  | [.lst ds] => xa ds
  | _ => stk
section
variable {α : Type} {lt : α -> α -> Bool}
structure Ord (lt : α -> α -> Bool) : Prop where
  irr : ∀ a, lt a a = false
  tr : ∀ a b c, lt a b = true -> lt b c = true -> lt a c = true
  tot : ∀ a b, lt a b = false -> lt b a = false -> a = b
theorem ordZ : Ord ltZ := ⟨fun a => by simp [ltZ], fun a b c h1 h2 => by simp [ltZ] at *; omega, fun a b h1 h2 => by simp [ltZ] at *; omega⟩
theorem BV : Ord sj := by
  refine ⟨fun a => ?_, fun a b c => ?_, fun a b => ?_⟩
  · induction a with
    | nil => rfl
    | cons x xs ih => simp [sj, ih]
  · induction a generalizing b c with
    | nil =>
      cases b with
      | nil => intro h; simp [sj] at h
      | cons y ys =>
        intro _ h2
        cases c with
        | nil => simp [sj] at h2
        | cons z zs => rfl
    | cons x xs ih =>
      intro h1 h2
      cases b with
      | nil => simp [sj] at h1
      | cons y ys =>
        cases c with
        | nil => simp [sj] at h2
        | cons z zs =>
          simp only [sj] at h1 h2 ⊢
          by_cases e1 : x = y
          · subst e1
            rw [if_pos rfl] at h1
            by_cases e2 : x = z
            · rw [if_pos e2] at h2 ⊢; exact ih _ _ h1 h2
            · rw [if_neg e2] at h2 ⊢; exact h2
          · rw [if_neg e1] at h1
            have h1' : x < y := of_decide_eq_true h1
            by_cases e2 : y = z
            · subst e2
              rw [if_neg e1]; exact h1
            · rw [if_neg e2] at h2
              have h2' : y < z := of_decide_eq_true h2
              rw [if_neg (by omega)]
              exact decide_eq_true (by omega)
  · induction a generalizing b with
    | nil =>
      cases b with
      | nil => intros; rfl
      | cons y ys => intro h; simp [sj] at h
    | cons x xs ih =>
      cases b with
      | nil => intro _ h; simp [sj] at h
      | cons y ys =>
        intro h1 h2
        simp only [sj] at h1 h2
        by_cases e1 : x = y
        · subst e1
          rw [if_pos rfl] at h1 h2
          rw [ih _ h1 h2]
        · rw [if_neg e1] at h1
          rw [if_neg (fun z => e1 z.symm)] at h2
          have h1' := of_decide_eq_false h1
          have h2' := of_decide_eq_false h2
          omega
theorem sE (x : α) : ∀ l : List α, (insL lt x l).Perm (x :: l)
  | [] => List.Perm.refl _
  | y :: ys => by
    rw [insL]
    split
    · exact ((sE x ys).cons y).trans (List.Perm.swap x y ys)
    · exact List.Perm.refl _
theorem qz : ∀ l : List α, (pD lt l).Perm l
  | [] => List.Perm.refl _
  | x :: xs => (sE x _).trans ((qz xs).cons x)
theorem Ord.le_trans (o : Ord lt) {a b c : α} (h1 : lt b a = false) (h2 : lt c b = false) : lt c a = false := by
  cases h : lt c a with
  | false => rfl
  | true =>
    cases h3 : lt b c with
    | true => rw [o.tr b c a h3 h] at h1; cases h1
    | false =>
      have := o.tot c b h2 h3
      subst this
      rw [h] at h1; cases h1
theorem Ord.asym (o : Ord lt) {a b : α} (h : lt a b = true) : lt b a = false := by
  cases h2 : lt b a with
  | false => rfl
  | true => have := o.tr a b a h h2; rw [o.irr] at this; cases this
theorem sD (o : Ord lt) (x : α) : ∀ l : List α, l.Pairwise (fun a b => lt b a = false) -> (insL lt x l).Pairwise (fun a b => lt b a = false)
  | [], _ => by simp [insL]
  | y :: ys, h => by
    rw [insL]
    rw [List.pairwise_cons] at h
    split
    · rename_i hc
      rw [List.pairwise_cons]
      refine ⟨fun b hb => ?_, sD o x ys h.2⟩
      rcases List.mem_cons.mp ((sE x ys).mem_iff.mp hb) with e | e
      · rw [e]; exact o.asym hc
      · exact h.1 b e
    · rename_i hc
      have hc' : lt y x = false := by simpa using hc
      rw [List.pairwise_cons, List.pairwise_cons]
      refine ⟨fun b hb => ?_, h⟩
      rcases List.mem_cons.mp hb with e | e
      · rw [e]; exact hc'
      · exact o.le_trans hc' (h.1 b e)
theorem m5 (o : Ord lt) : ∀ l : List α, (pD lt l).Pairwise (fun a b => lt b a = false)
  | [] => List.Pairwise.nil
  | x :: xs => sD o x _ (m5 o xs)
theorem rT (o : Ord lt) : ∀ {l m : List α}, l.Perm m -> l.Pairwise (fun a b => lt b a = false) -> m.Pairwise (fun a b => lt b a = false) -> l = m
  | [], m, h, _, _ => (List.Perm.nil_eq h)
  | a :: l, m, h, h1, h2 => by
    cases m with
    | nil => exact absurd h.symm (by simp)
    | cons b m =>
      rw [List.pairwise_cons] at h1 h2
      have e : a = b := by
        rcases List.mem_cons.mp (h.mem_iff.mp List.mem_cons_self) with e | e
        · exact e
        · rcases List.mem_cons.mp (h.mem_iff.mpr List.mem_cons_self) with e2 | e2
          · exact e2.symm
          · exact o.tot a b (h2.1 a e) (h1.1 b e2)
      subst e
      rw [rT o (List.Perm.cons_inv h) h1.2 h2.2]
end
section
open PySem.W
variable {α : Type} {lt : α -> α -> Bool}
theorem getD_get {l : List α} {i : Nat} {d : α} (h : i < l.length) : l.getD i d = l[i] := by simp [h]
noncomputable def rk (lt : α -> α -> Bool) (zs : List α) (d : α) (i : Nat) : Int := ((zs.filter fun z => lt z (zs.getD i d)).length : Int)
theorem filter_lt {p q : α -> Bool} (h : ∀ z, p z = true -> q z = true) : ∀ l : List α, (l.filter p).length <= (l.filter q).length /\ ((∃ z ∈ l, p z = false /\ q z = true) -> (l.filter p).length < (l.filter q).length)
  | [] => ⟨Nat.le_refl _, fun ⟨_, h, _⟩ => nomatch h⟩
  | x :: xs => by
    obtain ⟨i1, i2⟩ := filter_lt h xs
    cases hp : p x with
    | true =>
      have hq := h x hp
      rw [List.filter_cons_of_pos hp, List.filter_cons_of_pos hq]
      refine ⟨by simp; exact i1, fun ⟨z, hz, e1, e2⟩ => ?_⟩
      rcases List.mem_cons.mp hz with e | e
      · rw [e, hp] at e1; cases e1
      · have := i2 ⟨z, e, e1, e2⟩
        simp; exact this
    | false =>
      rw [List.filter_cons_of_neg (by simp [hp])]
      cases hq : q x with
      | true =>
        rw [List.filter_cons_of_pos hq]
        exact ⟨by simp; omega, fun _ => by simp; omega⟩
      | false =>
        rw [List.filter_cons_of_neg (by simp [hq])]
        refine ⟨i1, fun ⟨z, hz, e1, e2⟩ => ?_⟩
        rcases List.mem_cons.mp hz with e | e
        · rw [e, hq] at e2; cases e2
        · exact i2 ⟨z, e, e1, e2⟩
theorem rk_lt (o : Ord lt) {zs : List α} {d : α} {i j : Nat} (hi : i < zs.length) (hj : j < zs.length) : ltK (rk lt zs d) i j = lt (zs.getD i d) (zs.getD j d) := by
  unfold ltK rk
  have gi : zs.getD i d ∈ zs := by rw [getD_get hi]; exact List.getElem_mem hi
  have gj : zs.getD j d ∈ zs := by rw [getD_get hj]; exact List.getElem_mem hj
  cases h : lt (zs.getD i d) (zs.getD j d) with
  | true =>
    refine decide_eq_true ?_
    have := (filter_lt (p := fun z => lt z (zs.getD i d)) (q := fun z => lt z (zs.getD j d)) (fun z hz => o.tr _ _ _ hz h) zs).2 ⟨_, gi, o.irr _, h⟩
    omega
  | false =>
    refine decide_eq_false ?_
    have := (filter_lt (p := fun z => lt z (zs.getD j d)) (q := fun z => lt z (zs.getD i d)) (fun z hz => by
      cases h3 : lt z (zs.getD i d) with
      | true => rfl
      | false =>
        have e := o.le_trans h h3
        rw [hz] at e; cases e) zs).1
    omega
theorem BU (o : Ord lt) (zs : List α) (d : α) (h2 : 2 <= zs.length) : (fF (ltK (rk lt zs d)) (kas_sort zs.length)).toList.map (fun i => zs.getD i d) = pD lt zs := by
  obtain ⟨h1, hu⟩ := yW (key := rk lt zs d) (n := zs.length) (by omega)
  refine rT o ?_ ?_ (m5 o zs)
  · refine (h1.map _).trans ?_
    have : (List.range zs.length).map (fun i => zs.getD i d) = zs := by
      apply List.ext_getElem
      · simp
      · intro i h3 h4
        simp [h4]
    rw [this]
    exact (qz zs).symm
  · rw [List.pairwise_map, List.pairwise_iff_getElem]
    intro i j hi hj hij
    have hn : (fF (ltK (rk lt zs d)) (kas_sort zs.length)).toList.length = zs.length := by rw [h1.length_eq, List.length_range]
    have inr : ∀ k (hk : k < (fF (ltK (rk lt zs d)) (kas_sort zs.length)).toList.length), (fF (ltK (rk lt zs d)) (kas_sort zs.length)).toList[k] < zs.length := fun k hk => List.mem_range.mp (h1.mem_iff.mp (List.getElem_mem hk))
    have := hu i j (by omega) (by omega)
    unfold kAt at this
    have g : ∀ k (hk : k < (fF (ltK (rk lt zs d)) (kas_sort zs.length)).toList.length), (fF (ltK (rk lt zs d)) (kas_sort zs.length)).getD k 0 = (fF (ltK (rk lt zs d)) (kas_sort zs.length)).toList[k] := fun k hk => by
      rw [Array.getD_eq_getD_getElem?, <- Array.getElem?_toList, List.getElem?_eq_getElem hk]; rfl
    rw [g i hi, g j hj] at this
    rw [<- rk_lt o (inr j hj) (inr i hi)]
    exact decide_eq_false (by omega)
theorem zy : ∀ {zs : List α}, zs.length < 2 -> pD lt zs = zs
  | [], _ => rfl
  | [x], _ => rfl
  | _ :: _ :: _, h => by simp at h; omega
variable {X : Cx} {K : PySem.W.Frag} {W : gH} {own : Bool}
theorem vals_map {xs : List V} {us : List Value} (r : Vals xs us) (ps : List Nat) (hp : ∀ i ∈ ps, i < xs.length) : Vals (ps.map fun i => xs.getD i .non) (ps.map fun i => us.getD i .none) := by
  refine Vals.of_get (by simp) fun k v u h1 h2 => ?_
  rw [List.getElem?_map] at h1 h2
  cases e : ps[k]? with
  | none => rw [e] at h1; cases h1
  | some i =>
    rw [e] at h1 h2
    simp only [Option.map_some, Option.some.injEq] at h1 h2
    have hi := hp i (List.mem_of_getElem? e)
    have hl := r.length
    obtain ⟨u', e1, q⟩ := r.get (i := i) (x := xs[i]) (by simp [hi])
    rw [getD_get hi] at h1
    rw [List.getD_eq_getElem?_getD, e1] at h2
    rw [<- h1, <- h2]
    exact q
theorem Ad (o : Ord lt) {pins : List (Addr × Obj)} {σ : St} {F H : Hp} {s : Shared} {Q : VK} {a : Addr} {xs : List V} {zs : List α} {d0 : α} {enc : α -> Dat} (I : Inv X pins σ H s) (hF : bg F H) (t : SqL X.K F a xs) (r : au X.K F (zs.map enc) xs) (h64 : zs.length < 64)
    (hk : ∀ its : List Value, Vals xs its -> 2 <= its.length -> ∀ h1 : Heap, (∀ b o, s.heap.get? b = some o -> h1.get? b = some o) -> Asks X.prog X.w X.A.in1.in1 (rk lt zs d0) its { s with heap := h1 })
    (p : aV X.K W true F H (.ok (.lst ((pD lt zs).map enc))) Q) : wpAny (model X.prog X.w) X.A (call (.builtin "sorted") [.ref a]) (EP X pins σ Q) X.xe s := by
  obtain ⟨its, rv, pl, hz⟩ := I.list (hF.lst t)
  have l1 := rv.length
  have l2 := r.length
  rw [List.length_map] at l2
  refine AR (key := rk lt zs d0) pl.isList (by omega) (fun h2 h1 kp => hk its rv h2 h1 kp) fun h' D c hD kp e => ?_
  have key : ∃ ys, ys.length <= sizeLine /\ Vals ys (qm (rk lt zs d0) its) /\ au X.K F ((pD lt zs).map enc) ys := by
    unfold qm
    by_cases h2 : its.length < 2
    · rw [if_pos h2, zy (by omega)]
      exact ⟨xs, hz, rv, r⟩
    · rw [if_neg h2, show its.length = zs.length by omega]
      obtain ⟨h1, _⟩ := yW (key := rk lt zs d0) (n := zs.length) (by omega)
      have inr : ∀ i ∈ (fF (ltK (rk lt zs d0)) (kas_sort zs.length)).toList, i < xs.length := fun i hi => by
        have := List.mem_range.mp (h1.mem_iff.mp hi); omega
      refine ⟨(fF (ltK (rk lt zs d0)) (kas_sort zs.length)).toList.map fun i => xs.getD i .non, ?_, vals_map rv _ inr, ?_⟩
      · rw [List.length_map, h1.length_eq, List.length_range]; omega
      · rw [<- BU o zs d0 (by omega), List.map_map]
        refine au.of_get (by simp) fun k dd v g1 g2 => ?_
        rw [List.getElem?_map] at g1 g2
        cases ek : (fF (ltK (rk lt zs d0)) (kas_sort zs.length)).toList[k]? with
        | none => rw [ek] at g1; cases g1
        | some i =>
          rw [ek] at g1 g2
          simp only [Option.map_some, Option.some.injEq, Function.comp] at g1 g2
          have hi := inr i (List.mem_of_getElem? ek)
          obtain ⟨w, e1, q⟩ := r.get (i := i) (d := enc (zs[i]'(by omega))) (by simp [show i < zs.length by omega])
          rw [getD_get (show i < zs.length by omega)] at g1
          rw [List.getD_eq_getElem?_getD, e1] at g2
          rw [<- g1, <- g2]
          exact q
  obtain ⟨ys, hy1, hy2, hy3⟩ := key
  have I1 : Inv X pins σ (upd H D (.lst ys)) { s with heap := h' } := I.laid (t' := s.toks) kp hD (show jc X.prog X.w _ h' D (.lst ys) from ⟨hy1, _, c, hy2, e⟩)
  exact ⟨.ref D, _, I1, rfl, p.lst hF hy3 (I.hok.fresh hD)⟩
theorem rk_ints (is : List Int) (i j : Nat) (hi : i < is.length) (hj : j < is.length) : ltK (rk ltZ is 0) i j = decide (is.getD i 0 < is.getD j 0) := rk_lt ordZ hi hj
theorem D1 {prog : Program} {w : World} {A : Around} {s' : Shared} {its : List Value} {is : List Int} (hi : IntsAre its is) (h2 : 2 <= its.length) : Asks prog w A (rk ltZ is 0) its s' := by
  have hl := hi.length
  obtain ⟨v1, v2, rest, rfl⟩ : ∃ v1 v2 rest, its = v1 :: v2 :: rest := by
    match its, h2 with
    | v1 :: v2 :: rest, _ => exact ⟨v1, v2, rest, rfl⟩
  unfold Asks
  rw [keyKind_ints hi]
  refine wpAny_pure ⟨rfl, fun i j C h1 h2 hc => ?_⟩
  unfold kas_ask
  obtain ⟨t1, e1⟩ := ints_at hi i h1
  obtain ⟨t2, e2⟩ := ints_at hi j h2
  rw [e1, e2]
  rw [rk_ints is i j (by omega) (by omega)] at hc
  exact kat_lt_int hc
where
  ints_at {vs : List Value} {ns : List Int} (h : IntsAre vs ns) (i : Nat) (hi : i < vs.length) : ∃ t, vs.getD i Value.none = .int (ns.getD i 0) t := by
    induction h generalizing i with
    | nil => simp at hi
    | cons n t r ih =>
      cases i with
      | zero => exact ⟨t, rfl⟩
      | succ i => obtain ⟨t', e⟩ := ih i (by simpa using hi); exact ⟨t', by simpa using e⟩
noncomputable def lexF (f : Bool) : List Int -> List Int -> Bool
  | a :: as, b :: bs => if a = b then lexF f as bs else decide (a < b)
  | _, _ => f
theorem Aq : ∀ as bs : List Int, lexF (decide (as.length < bs.length)) as bs = sj as bs
  | [], [] => rfl
  | [], _ :: _ => by simp [lexF, sj]
  | _ :: _, [] => by simp [lexF, sj]
  | a :: as, b :: bs => by
    have := Aq as bs
    simp only [lexF, sj, List.length_cons, Nat.add_lt_add_iff_right]
    rw [this]
theorem sq {prog : Program} {w : World} {A : Around} {s' : Shared} {f : Bool} {Q : Bool -> Shared -> Prop} : ∀ {us vs : List Value} {as bs : List Int} (i : Nat), IntsAre us as -> IntsAre vs bs -> Q (lexF f as bs) s' -> KatLex prog w A true f Q (us.zip vs) i s'
  | _, _, _, bs, _, .nil, _, h => kat_nil (by cases bs <;> exact h)
  | _, _, _, _, _, .cons a t r, .nil, h => kat_nil h
  | _, _, _, _, i, .cons a t r, .cons b u r', h => by
    show KatLex prog w A true f Q ((.int a t, .int b u) :: (_ : List (Value × Value))) i s'
    refine kat_cons (SeqAt.EqAt.int_int a t b u _ _ _ _ ?_)
    by_cases e : a = b
    · rw [show (a == b) = true by simpa using e]
      rw [lexF, if_pos e] at h
      exact kat_yes (sq (i + 1) r r' h)
    · rw [show (a == b) = false by simpa using e]
      rw [lexF, if_neg e] at h
      refine kat_no ?_
      cases hb : (true && i == 0) with
      | true => exact oneLt_int h
      | false => exact kat_one _ _ (lt_int h)
theorem D0 {pins : List (Addr × Obj)} {σ : St} {F H : Hp} {s : Shared} {A : Around} {xs : List V} {ts : List (List Int)} {its : List Value} {h1 : Heap} (I : Inv X pins σ H s) (hF : bg F H) (r : au X.K F (ts.map tupZ) xs) (hne : (ts.all fun t => !t.isEmpty) = true) (rv : Vals xs its) (h2 : 2 <= its.length)
    (kp : ∀ b o, s.heap.get? b = some o -> h1.get? b = some o) : Asks X.prog X.w A (rk sj ts []) its { s with heap := h1 } := by
  have l1 := rv.length
  have l2 := r.length
  rw [List.length_map] at l2
  have at_ : ∀ i, i < its.length -> ∃ (l : Addr) (ob : Obj) (us : List Value) (n : Nat), its.getD i Value.none = .ref l /\ h1.get? l = some ob /\ ob.cls = .type "tuple" /\ ob.data = .seq us.toArray n /\ IntsAre us (ts.getD i []) := fun i hi => by
    obtain ⟨v, e1, l, ys, e2, tq, rr⟩ := r.get (i := i) (d := tupZ (ts[i]'(by omega))) (by simp [show i < ts.length by omega])
    subst e2
    obtain ⟨u, e3, ru⟩ := rv.get e1
    cases ru
    obtain ⟨us, ru, pl, _⟩ := I.tuple (hF.tup tq)
    obtain ⟨ob, h3, h4, n, h5⟩ := pl
    have e4 : ys = (ts[i]'(by omega)).map V.int := m7 rr (m8 _)
    rw [e4] at ru
    exact ⟨l, ob, us, n, by rw [List.getD_eq_getElem?_getD, e3]; rfl, kp _ _ h3, h4, h5, by rw [getD_get (show i < ts.length by omega)]; exact intsAre_of ru⟩
  have tups : ∀ (k : Nat), k <= its.length -> ∃ fs, KatTups h1 (its.drop (its.length - k)) fs /\ fs.length = k /\ ∀ v ∈ fs, ∃ i t, v = Value.int i t := by
    intro k
    induction k with
    | zero => intro _; exact ⟨[], by rw [Nat.sub_zero, List.drop_length]; exact KatTups.nil, rfl, fun _ h => nomatch h⟩
    | succ k ih =>
      intro hk
      obtain ⟨fs, q1, q2, q3⟩ := ih (by omega)
      have hi : its.length - (k + 1) < its.length := by omega
      obtain ⟨l, ob, us, n, e1, e2, e3, e4, e5⟩ := at_ _ hi
      have hn : (ts.getD (its.length - (k + 1)) []) ≠ [] := by
        rw [getD_get (show its.length - (k + 1) < ts.length by omega)]
        have := List.all_eq_true.mp hne _ (List.getElem_mem (show its.length - (k + 1) < ts.length by omega))
        simpa using this
      obtain ⟨z, ez⟩ : ∃ z, ts.getD (its.length - (k + 1)) [] = z := ⟨_, rfl⟩
      rw [ez] at e5 hn
      obtain ⟨f, fr, ef, hf⟩ : ∃ f fr, us = f :: fr /\ ∃ i t, f = Value.int i t := by
        cases e5 with
        | nil => exact absurd rfl hn
        | cons m t r => exact ⟨_, _, rfl, _, _, rfl⟩
      refine ⟨f :: fs, ?_, by simp [q2], fun v hv => ?_⟩
      · rw [List.drop_eq_getElem_cons hi]
        rw [show its.length - (k + 1) + 1 = its.length - k by omega]
        rw [getD_get hi] at e1
        rw [e1]
        exact KatTups.cons e2 e3 e4 (by rw [ef]; rfl) q1
      · rcases List.mem_cons.mp hv with e | e
        · rw [e]; exact hf
        · exact q3 v e
  obtain ⟨fs, q1, q2, q3⟩ := tups its.length (Nat.le_refl _)
  rw [Nat.sub_self, List.drop_zero] at q1
  unfold Asks
  refine kat_kind (s := { s with heap := h1 }) (T := .type "int") q1 (by omega) (fun v hv => ?_) rfl ⟨rfl, fun i j C hi hj hc => ?_⟩
  · obtain ⟨i, t, e⟩ := q3 v hv
    rw [e]
    exact Looks.of_pure rfl
  · unfold kas_ask
    obtain ⟨x1, o1, us, n1, e1, g1, _, d1, a1⟩ := at_ i hi
    obtain ⟨x2, o2, vs, n2, e2, g2, _, d2, a2⟩ := at_ j hj
    rw [e1, e2]
    rw [rk_lt BV (show i < ts.length by omega) (show j < ts.length by omega)] at hc
    refine kat_lt (s := { s with heap := h1 }) g1 d1 g2 d2 (sq 0 a1 a2 ?_)
    rw [List.size_toArray, List.size_toArray, a1.length, a2.length, Aq]
    exact hc
theorem A8 {F : Hp} {d : Dat} {t : List Int} (h : tupD d = .ok t) : d = tupZ t := by
  cases d with
  | tup ds =>
    have : ∀ {ds : List Dat} {t : List Int}, e8 ds = .ok t -> ds = t.map .int := by
      intro ds
      induction ds with
      | nil => intro t h; cases h; rfl
      | cons d ds ih =>
        intro t h
        cases d with
        | int i =>
          cases e : e8 ds with
          | error x => simp only [e8, asI, ak, e, kW] at h; cases h
          | ok r =>
            simp only [e8, asI, ak, e] at h
            cases h
            rw [ih e]
            rfl
        | _ => cases h
    unfold tupZ
    rw [this h]
  | _ => cases h
theorem Cq : ∀ {ds : List Dat} {t : List Int}, e8 ds = .ok t -> ds = t.map .int := fun {ds t} h => by
  have := A8 (F := fun _ => none) (d := .tup ds) (t := t) h
  unfold tupZ at this
  injection this
theorem wW : ∀ {ds : List Dat} {ts : List (List Int)}, n8 ds = .ok ts -> ds = ts.map tupZ
  | [], _, h => by cases h; rfl
  | d :: ds, ts, h => by
    cases e : tupD d with
    | error x => simp only [n8, e, kW] at h; cases h
    | ok t =>
      cases e2 : n8 ds with
      | error x => simp only [n8, e, ak, e2, kW] at h; cases h
      | ok r =>
        simp only [n8, e, ak, e2] at h
        cases h
        rw [A8 (F := fun _ => none) e, wW e2]
        rfl
theorem wY : ∀ {ds : List Dat} {e : Err}, n8 ds = .error e -> e = .stuck
  | [], _, h => by cases h
  | d :: ds, e, h => by
    cases e1 : tupD d with
    | error x =>
      simp only [n8, e1, kW] at h
      cases h
      cases d with
      | tup ds => exact pG e1
      | _ => cases e1; rfl
    | ok t =>
      cases e2 : n8 ds with
      | error x => simp only [n8, e1, ak, e2, kW] at h; cases h; exact wY e2
      | ok r => simp only [n8, e1, ak, e2] at h; cases h
theorem c_sorted (hK : X.K = K := by rfl) : wO K W true X (.builtin "sorted") qh := by
  subst hK
  intro pins s σ H xs us Q I rr h
  obtain ⟨F, d, x, s1, e, q, p⟩ := vk (fun ds => by match ds with | [d] => exact .inl ⟨d, rfl⟩ | [] => exact .inr rfl | a :: b :: c => exact .inr (by cases a <;> rfl)) h
  subst e
  obtain ⟨u, rfl, ru⟩ := rr.one
  cases d with
  | lst ds =>
    obtain ⟨a, ys, e1, t, r⟩ := q
    subst e1
    cases ru
    have p' : aV X.K W true F H (xa ds) Q := p
    unfold xa at p'
    by_cases h64 : ds.length < 64
    · rw [if_pos h64] at p'
      cases ei : e8 ds with
      | ok is =>
        rw [ei] at p'
        have ed := Cq ei
        subst ed
        refine Ad ordZ (d0 := 0) I s1 t r (by simpa using h64) (fun its rv h2 h1 kp => ?_) p'
        have e2 : ys = is.map V.int := m7 r ei
        subst e2
        exact D1 (intsAre_of rv) h2
      | error z =>
        rw [ei] at p'
        have p2 : aV X.K W true F H ((n8 ds).bind fun ts => if (ts.all fun t => !t.isEmpty) = true then .ok (.lst ((pD sj ts).map tupZ)) else stk) Q := p'
        cases et : n8 ds with
        | error z2 => rw [et] at p2; have := wY et; subst this; exact aV.stuck p2
        | ok ts =>
          rw [et] at p2
          have ed := wW et
          subst ed
          have p3 : aV X.K W true F H (if (ts.all fun t => !t.isEmpty) = true then .ok (.lst ((pD sj ts).map tupZ)) else stk) Q := p2
          by_cases hne : (ts.all fun t => !t.isEmpty) = true
          · rw [if_pos hne] at p3
            exact Ad BV (d0 := []) I s1 t r (by simpa using h64) (fun its rv h2 h1 kp => D0 I s1 r hne rv h2 kp) p3
          · rw [if_neg hne] at p3
            exact aV.stuck p3
    · rw [if_neg h64] at p'
      exact aV.stuck p'
  | _ => exact aV.stuck p
end
end L2
namespace L2
open PySem PySem.Spec PyProof.Rows
section
variable {X : Cx} {K : PySem.W.Frag} {W : gH} {own ro : Bool} {e a b c d : Expr} {lo hi : Option Expr} {es : List Expr} {x y : Str} {pos p p2 p3 q r t u : Pos} {f fa fb fc fd' fk : ag -> M Dat} {fl fu : ag -> M (Option Int)} {OL O : List Nat}
end
section
variable {ρ : ag} {fa fb fc fd' : ag -> M Dat} {fl fu : ag -> M (Option Int)}
@[simp] theorem e_pow {i j : Int} (h0 : 0 <= j) (h1 : j <= 1000000) (h2 : i.natAbs < 2 ^ 64) : powD (.int i) (.int j) = .ok (.int (i ^ j.toNat)) := by
  show (if (decide (0 <= j) && decide (j <= 1000000) && decide (i.natAbs < 2 ^ 64)) = true then _ else _) = _
  rw [if_pos (by simp only [Bool.and_eq_true, decide_eq_true_eq]; exact ⟨⟨h0, h1⟩, h2⟩)]
@[simp] theorem e_eqII (i j : Int) : eqM (.int i) (.int j) = .ok (.bl (decide (i = j))) := by
  show Except.ok (Dat.bl (i == j)) = _
  rw [show (i == j) = decide (i = j) from rfl]
@[simp] theorem e_neII (i j : Int) : neM (.int i) (.int j) = .ok (.bl (!decide (i = j))) := by
  show Except.ok (Dat.bl (!(i == j))) = _
  rw [show (i == j) = decide (i = j) from rfl]
end
end L2
namespace L2
open PySem PySem.Spec PyProof.Rows
section
variable {X : Cx} {K : PySem.W.Frag} {W : gH} {own ro : Bool} {e a b c d : Expr} {st : Option Expr} {te : TE} {tp : TO} {es : List Expr} {x y : Str} {pos p p2 p3 p4 q r t u : Pos} {f fa fb fc fk : ag -> M Dat} {fp : ag -> M (Option Int)} {OL O : List Nat}
end
end L2
namespace L2
open PySem PySem.Spec PyProof.Rows
noncomputable def ue (Cs : List Addr) (x : Str) : Dat -> M Dat
  | .ins C fs => if Cs.contains C = true then (match fs.lookup x with
    | some d => .ok d
    | none => stk) else stk
  | _ => stk
noncomputable def isC (C : Addr) (m : Str) : Dat -> Bool
  | .ins D fs => (D == C) && (fs.lookup m).isNone
  | _ => false
noncomputable def pJ (C : Addr) (m : Str) (g : List Dat -> M Dat) (fo : ag -> M Dat) (fr : ag -> M (List Dat)) : ag -> M Dat := fun ρ => (fo ρ).bind fun o => if isC C m o = true then (fr ρ).bind fun as => g (o :: as) else stk
noncomputable def gY (C C2 : Addr) (m : Str) (g g2 : List Dat -> M Dat) (fo : ag -> M Dat) (fr : ag -> M (List Dat)) : ag -> M Dat := fun ρ => (fo ρ).bind fun o => if isC C m o = true then (fr ρ).bind fun as => g (o :: as) else if isC C2 m o = true then (fr ρ).bind fun as => g2 (o :: as) else stk
noncomputable def newR (C : Addr) (g : List Dat -> M Dat) : List Dat -> M Dat
  | [d] => (g [d]).bind fun r => .ok (.ins C [("gaps", r)])
  | _ => stk
noncomputable def twoL : Dat -> Dat -> Bool
  | .lst xs, .lst ys => decide (xs.length = ys.length)
  | _, _ => false
noncomputable def newP (C : Addr) (g : List Dat -> M Dat) : List Dat -> M Dat
  | [d, e] => (g [d]).bind fun r => (g [e]).bind fun r2 => if twoL r r2 = true then .ok (.ins C [("gaps", r), ("beside", r2)]) else stk
  | _ => stk
noncomputable def sStk : ag -> M Flo := fun _ => stk
section
variable {X : Cx} {K : PySem.W.Frag} {W : gH} {own ro : Bool} {e o a b c d : Expr} {es : List Expr} {x y m : Str} {pos p p2 apos : Pos} {f fa fo : ag -> M Dat} {fr : ag -> M (List Dat)} {OL O O' : List Nat} {C C2 : Addr} {Cs : List Addr}
theorem ds_stk {st : Stmt} : DS K W ro X OL O O' st sStk := fun F0 H0 pins s σ H D I h => by
  obtain ⟨FB, F, ρ, r, p⟩ := h
  exact p.stuck rfl
theorem uj.at {F : Hp} {x : Str} : ∀ {gs : List (Str × Dat)} {fs : List (Str × V)}, uj K F gs fs -> (∀ d, gs.lookup x = some d -> ∃ v, fs.lookup x = some v /\ cI K F d v) /\ (gs.lookup x = none -> fs.lookup x = none)
  | [], fs, h => by cases (show fs = [] from h); exact ⟨fun d h => by simp at h, fun _ => rfl⟩
  | (g, d) :: gs, fs, h => by
    obtain ⟨v, r, rfl, h1, h2⟩ := h
    have ih := uj.at (x := x) h2
    rw [List.lookup_cons, List.lookup_cons]
    cases e : x == g with
    | true => exact ⟨fun d' h' => by cases h'; exact ⟨v, rfl, h1⟩, fun h' => by cases h'⟩
    | false => exact ih
theorem Az (hC : ∀ C ∈ Cs, Cls K C /\ lx K C y) (he : DE K W false X e fa) (hb : attributeBase e y X.env (eval e X.env) = eval e X.env := by rfl) (hK : X.K = K := by rfl) : DE K W false X (.Attribute e y pos) (f1 (ue Cs y) fa) := by
  subst hK
  refine (BS he hb).imp fun σ H Q h => ?_
  obtain ⟨F, ρ, r, s, p⟩ := h
  refine bx r s (fun e he => p.err (by unfold f1; rw [he]; rfl)) fun a ha x F1 H1 s1 q1 => ?_
  have ez : f1 (ue Cs y) fa ρ = ue Cs y a := by unfold f1; rw [ha]; rfl
  rw [ez] at p
  cases a with
  | ins C gs =>
    obtain ⟨l, dx, fs, e1, ea, df⟩ := q1
    have p' : aV X.K W false F H (if Cs.contains C = true then (match gs.lookup y with
      | some d => .ok d
      | none => stk) else stk) Q := p
    by_cases hc : Cs.contains C = true
    · rw [if_pos hc] at p'
      obtain ⟨h1, h2⟩ := hC C (by simpa using hc)
      cases hl : gs.lookup y with
      | none => rw [hl] at p'; exact aV.stuck p'
      | some d =>
        rw [hl] at p'
        obtain ⟨v, hv, hd⟩ := df.at.1 d hl
        exact ⟨l, C, dx, fs, v, e1, s1.fh _ _ ea, h1, h2, hv, (p'.step s1) v F1 H1 (Step.refl s1.fh) hd⟩
    · rw [if_neg hc] at p'; exact aV.stuck p'
  | _ => exact aV.stuck p
theorem PE.or {t1 t2 : TE} (h1 : PE X e t1) (h2 : PE X e t2) : PE X e (fun σ H Q => t1 σ H Q \/ t2 σ H Q) := fun pins s σ H Q I h => h.elim (h1 pins s σ H Q I) (h2 pins s σ H Q I)
theorem BJ {nN n : Nat} {g : ag -> M Flo} {σ : St} {H : Hp} {Q : VK} (h : tD K Wno ro (pJ C m (dB nN n g) fo fr) σ H Q) : tMeth C m (spF K ro (dB nN n g) n) [] E0 (tD K Wno false fo) (tDA K Wno fr) σ H Q := by
  obtain ⟨F, ρ, r, s, p⟩ := h
  refine bx r s (fun e he => p.err (by unfold pJ; rw [he]; rfl)) fun o ho x F1 H1 s1 q1 => ?_
  have ez : pJ C m (dB nN n g) fo fr ρ = if isC C m o = true then (fr ρ).bind fun as => dB nN n g (o :: as) else stk := by unfold pJ; rw [ho]; rfl
  rw [ez] at p
  by_cases hc : isC C m o = true
  · rw [if_pos hc] at p
    cases o with
    | ins D gs =>
      obtain ⟨l, dx, fs, e1, ea, df⟩ := id q1
      have hc' : ((D == C) && (gs.lookup m).isNone) = true := hc
      rw [Bool.and_eq_true] at hc'
      obtain ⟨hD, hn⟩ := hc'
      have hD : D = C := by simpa using hD
      subst hD
      refine ⟨l, dx, fs, e1, s1.fh _ _ ea, df.at.2 (by simpa using hn), ?_⟩
      have p := p.step s1
      refine rJ (r.mono s1.ff) s1.fh (fun e he => p.err (by rw [he]; rfl)) fun as has vs F2 H2 s2 qs => ?_
      rw [has] at p
      have p : aV K Wno ro F1 H1 (dB nN n g (.ins D gs :: as)) Q := p
      have p := p.step s2
      show spF K ro (dB nN n g) n (x :: (vs ++ [])) H2 Q E0
      rw [List.append_nil]
      by_cases hl : (Dat.ins D gs :: as).length = n
      · exact ⟨F2, .ins D gs :: as, s2.fh, ⟨x, vs, rfl, cI.mono s2.ff q1, qs⟩, hl, p⟩
      · rw [Af hl] at p
        exact aV.stuck p
    | _ => cases hc
  · rw [if_neg hc] at p; exact aV.stuck p
theorem Ai {nN n nN2 n2 : Nat} {g g2 : ag -> M Flo} {σ : St} {H : Hp} {Q : VK} (h : tD K Wno ro (gY C C2 m (dB nN n g) (dB nN2 n2 g2) fo fr) σ H Q) :
    tD K Wno ro (pJ C m (dB nN n g) fo fr) σ H Q \/ tD K Wno ro (pJ C2 m (dB nN2 n2 g2) fo fr) σ H Q := by
  obtain ⟨F, ρ, r, s, p⟩ := h
  cases ho : fo ρ with
  | error e =>
    refine .inl ⟨F, ρ, r, s, ?_⟩
    have e1 : gY C C2 m (dB nN n g) (dB nN2 n2 g2) fo fr ρ = .error e := by unfold gY; rw [ho]; rfl
    have e2 : pJ C m (dB nN n g) fo fr ρ = .error e := by unfold pJ; rw [ho]; rfl
    rw [e1] at p; rw [e2]; exact p
  | ok o =>
    have e1 : gY C C2 m (dB nN n g) (dB nN2 n2 g2) fo fr ρ = if isC C m o = true then (fr ρ).bind fun as => dB nN n g (o :: as) else if isC C2 m o = true then (fr ρ).bind fun as => dB nN2 n2 g2 (o :: as) else stk := by unfold gY; rw [ho]; rfl
    have e2 : pJ C m (dB nN n g) fo fr ρ = if isC C m o = true then (fr ρ).bind fun as => dB nN n g (o :: as) else stk := by unfold pJ; rw [ho]; rfl
    have e3 : pJ C2 m (dB nN2 n2 g2) fo fr ρ = if isC C2 m o = true then (fr ρ).bind fun as => dB nN2 n2 g2 (o :: as) else stk := by unfold pJ; rw [ho]; rfl
    rw [e1] at p
    by_cases hc : isC C m o = true
    · rw [if_pos hc] at p e2
      exact .inl ⟨F, ρ, r, s, by rw [e2]; exact p⟩
    · rw [if_neg hc] at p
      exact .inr ⟨F, ρ, r, s, by rw [e3]; exact p⟩
noncomputable def AI (X : Cx) (o : Expr) (m : Str) (apos : Pos) (es : List Expr) (pos : Pos) (pl : Sem Bool) : Prop := eval (.Call (.Attribute o m apos) es [] pos) X.env = (do let ov <- eval o X.env; standAt apos.atName; let (f, first) <- holding [ov] (getMethod ov m pl); callWith pos f first (backTo pos (starEach es X.env)) (backToKw pos (keywordEach [] X.env)))
section
variable {k nN n nN2 n2 : Nat} {fad fad2 : Addr} {fd fd2 : FuncData} {ps : List Str} {g g2 : ag -> M Flo} {pl : Sem Bool}
theorem Am (c : Cls X.K C) (M : Meth X.K C m fad) (F : c6 X.prog X.w X.K X.mg X.base CX0 k fad fd ps (spF X.K ro (dB nN n g) n)) (hr : mO k X.A) (hb : Binds X.K fd ps []) (ho : DE X.K Wno false X o fo) (ha : DA X.K Wno X (e :: es) fr)
    (hst : starEach (e :: es) X.env = (false, eval e X.env) :: starEach es X.env) (hpl : (backTo pos (starEach es X.env)).any (·.1) = false) (ht : AI X o m apos (e :: es) pos pl) : DE X.K Wno ro X (.Call (.Attribute o m apos) (e :: es) [] pos) (pJ C m (dB nN n g) fo fr) :=
  (pe_meth (pl := pl) ho c M F hr hb .nil xA ha hst hpl ht).imp fun _ _ _ => BJ
theorem xx (c : Cls X.K C) (M : Meth X.K C m fad) (F : c6 X.prog X.w X.K X.mg X.base CX0 k fad fd ps (spF X.K ro (dB nN n g) n)) (hr : mO k X.A) (hb : Binds X.K fd ps []) (ho : DE X.K Wno false X o fo)
    (ht : AI X o m apos [] pos pl) : DE X.K Wno ro X (.Call (.Attribute o m apos) [] [] pos) (pJ C m (dB nN n g) fo aJ) :=
  (pe_meth0 (pl := pl) ho c M F hr hb .nil xA ht).imp fun σ H Q h => by
    obtain ⟨F, ρ, r, s, z⟩ := BJ h
    refine ⟨F, ρ, r, s, ?_⟩
    cases e1 : fo ρ with
    | error z' => rw [e1] at z; exact z
    | ok od =>
      rw [e1] at z
      intro v F' H' st q
      obtain ⟨l, dx, fs, h1, h2, h3, h4⟩ := z v F' H' st q
      exact ⟨l, dx, fs, h1, h2, h3, rd_nil h4⟩
theorem de_meth2 {k2 : Nat} {ps2 : List Str} (c : Cls K C) (M : Meth K C m fad) (F : c6 X.prog X.w X.K X.mg X.base CX0 k fad fd ps (spF K ro (dB nN n g) n)) (hr : mO k X.A) (hb : Binds X.K fd ps [])
    (c2 : Cls K C2) (M2 : Meth K C2 m fad2) (F2 : c6 X.prog X.w X.K X.mg X.base CX0 k2 fad2 fd2 ps2 (spF K ro (dB nN2 n2 g2) n2)) (hr2 : mO k2 X.A) (hb2 : Binds X.K fd2 ps2 []) (ho : DE K Wno false X o fo) (ha : DA K Wno X (e :: es) fr)
    (hK : X.K = K := by rfl) (hst : starEach (e :: es) X.env = (false, eval e X.env) :: starEach es X.env := by rfl) (hpl : (backTo pos (starEach es X.env)).any (·.1) = false := by rfl) (ht : AI X o m apos (e :: es) pos pl := by rfl) :
    DE K Wno ro X (.Call (.Attribute o m apos) (e :: es) [] pos) (gY C C2 m (dB nN n g) (dB nN2 n2 g2) fo fr) := by
  subst hK
  exact (PE.or (Am c M F hr hb ho ha hst hpl ht) (Am c2 M2 F2 hr2 hb2 ho ha hst hpl ht)).imp fun _ _ _ => Ai
theorem yo {k2 : Nat} {ps2 : List Str} (c : Cls K C) (M : Meth K C m fad) (F : c6 X.prog X.w X.K X.mg X.base CX0 k fad fd ps (spF K ro (dB nN n g) n)) (hr : mO k X.A) (hb : Binds X.K fd ps [])
    (c2 : Cls K C2) (M2 : Meth K C2 m fad2) (F2 : c6 X.prog X.w X.K X.mg X.base CX0 k2 fad2 fd2 ps2 (spF K ro (dB nN2 n2 g2) n2)) (hr2 : mO k2 X.A) (hb2 : Binds X.K fd2 ps2 []) (ho : DE K Wno false X o fo)
    (hK : X.K = K := by rfl) (ht : AI X o m apos [] pos pl := by rfl) :
    DE K Wno ro X (.Call (.Attribute o m apos) [] [] pos) (gY C C2 m (dB nN n g) (dB nN2 n2 g2) fo aJ) := by
  subst hK
  exact (PE.or (xx c M F hr hb ho ht) (xx c2 M2 F2 hr2 hb2 ho ht)).imp fun _ _ _ => Ai
end
noncomputable def spI1 (K : PySem.W.Frag) (C : Addr) (g : List Dat -> M Dat) : Sp := fun vs H Q _ => ∃ p dx v F d, vs = [.ref p, v] /\ H p = some (.ins C dx []) /\ F p = none /\ bg F H /\ cI K F d v /\ (match g [d] with
  | .ok r => ∀ w F' H', bg F F' -> bg F' H' -> F' p = none -> (∀ b o, F' b = some o -> F b = some o \/ H b = none) -> (∀ c o, H c = some o -> c ≠ p -> H' c = some o) -> H' p = some (.ins C dx [("gaps", w)]) -> cI K F' r w -> Q .non H'
  | .error e => Wno.p e F H)
noncomputable def spI2 (K : PySem.W.Frag) (C : Addr) (g : List Dat -> M Dat) : Sp := fun vs H Q _ => ∃ p dx v v2 F d d2, vs = [.ref p, v, v2] /\ H p = some (.ins C dx []) /\ F p = none /\ bg F H /\ cI K F d v /\ cI K F d2 v2 /\ (match (g [d]).bind fun r => (g [d2]).bind fun r2 => if twoL r r2 = true then .ok (r, r2) else stk with
  | .ok (r, r2) => ∀ w w2 F' H', bg F F' -> bg F' H' -> F' p = none -> (∀ b o, F' b = some o -> F b = some o \/ H b = none) -> (∀ c o, H c = some o -> c ≠ p -> H' c = some o) -> H' p = some (.ins C dx [("gaps", w), ("beside", w2)]) -> cI K F' r w -> cI K F' r2 w2 -> Q .non H'
  | .error e => Wno.p e F H)
theorem Step.born {F H F' H' : Hp} {x dx : Addr} {fs : List (Str × V)} (s : bg F H) (hx : H x = none) (hdx : H dx = none) (hne : dx ≠ x) (h1 : bg F F') (h2 : bg F' H') (h3 : F' x = none) (h4 : ∀ b o, F' b = some o -> F b = some o \/ upd (upd H dx (.own x)) x (.ins C dx []) b = none)
    (h5 : ∀ c o, upd (upd H dx (.own x)) x (.ins C dx []) c = some o -> c ≠ x -> H' c = some o) (h6 : H' x = some (.ins C dx fs)) : Step F H (upd F' x (.ins C dx fs)) H' where
  ff := h1.trans (bg.upd h3)
  hh := fun c o e => by
    have hc : c ≠ x := fun h => by rw [h, hx] at e; cases e
    have hd : c ≠ dx := fun h => by rw [h, hdx] at e; cases e
    exact h5 c o (by rw [av hc, av hd]; exact e) hc
  fh := fun c o e => by
    by_cases hc : c = x
    · subst hc; rw [aE] at e; rw [h6]; exact e
    · rw [av hc] at e; exact h2 _ _ e
  nw := fun c o e => by
    by_cases hc : c = x
    · subst hc; exact .inr hx
    · rw [av hc] at e
      rcases h4 c o e with z | z
      · exact .inl z
      · refine .inr ?_
        by_cases hd : c = dx
        · subst hd; exact hdx
        · rw [av hc, av hd] at z; exact z
theorem de_newR {k : Nat} {fI : Addr} {fdI : FuncData} {g : List Dat -> M Dat} {ps : List Str} (Mk' : Mk X.K C fI) (FI : c6 X.prog X.w X.K X.mg X.base CX0 k fI fdI ps (spI1 K C g)) (hr : mO (k + 1) X.A) (hm : X.mg x = some (.ref C)) (hb : Binds X.K fdI ps [])
    (ha : DA K Wno X [e] fr) (hg : Gl X x := by rfl) (hdb : (x == ("__debug__" : Str)) = false := by decide) (hst : starEach [e] X.env = (false, eval e X.env) :: starEach [] X.env := by rfl) (hpl : (backTo pos (starEach [] X.env)).any (·.1) = false := by rfl) :
    DE K Wno false X (.Call (.Name x p) [e] [] pos) (fL (newR C g) fr) := by
  refine PE.imp (BR Mk' FI hr hg hm hb .nil xA ha hdb hst hpl) fun σ H Q h => ?_
  obtain ⟨F, ρ, r, s, p⟩ := rd_L h
  refine ⟨F, ρ, r, s, ?_⟩
  cases e1 : fr ρ with
  | error z => rw [e1] at p; exact p
  | ok ds =>
    rw [e1] at p
    intro vs F1 H1 st q
    obtain ⟨F2, es1, s1, q1, z⟩ := p vs F1 H1 st q
    rcases es1 with _ | ⟨d, _ | ⟨_, _⟩⟩
    · exact aV.stuck z
    rotate_left
    · exact aV.stuck z
    · obtain ⟨v, vs', rfl, qd, hn⟩ := q1
      cases (show vs' = [] from hn)
      intro x dx hx hdx hne
      refine ⟨x, dx, v, F2, d, rfl, aE, s1.free hx, fun c o e => ?_, qd, ?_⟩
      · have hc : c ≠ x := fun h => by rw [h, s1.free hx] at e; cases e
        have hd : c ≠ dx := fun h => by rw [h, s1.free hdx] at e; cases e
        rw [av hc, av hd]; exact s1 _ _ e
      · have z : aV K Wno false F2 H1 ((g [d]).bind fun r => .ok (.ins C [("gaps", r)])) Q := z
        cases hgd : g [d] with
        | error e => rw [hgd] at z; exact False.elim z
        | ok r =>
          rw [hgd] at z
          intro w F' H' h1 h2 h3 h4 h5 h6 h7
          refine ⟨rfl, z (.ref x) (upd F' x (.ins C dx [("gaps", w)])) H' (Step.born s1 hx hdx hne h1 h2 h3 h4 h5 h6) ?_⟩
          exact ⟨x, dx, _, rfl, aE, w, [], rfl, cI.mono (bg.upd h3) h7, rfl⟩
theorem de_newP {k : Nat} {fI : Addr} {fdI : FuncData} {g : List Dat -> M Dat} {ps : List Str} (Mk' : Mk X.K C fI) (FI : c6 X.prog X.w X.K X.mg X.base CX0 k fI fdI ps (spI2 K C g)) (hr : mO (k + 1) X.A) (hm : X.mg x = some (.ref C)) (hb : Binds X.K fdI ps [])
    (ha : DA K Wno X [e, a] fr) (hg : Gl X x := by rfl) (hdb : (x == ("__debug__" : Str)) = false := by decide) (hst : starEach [e, a] X.env = (false, eval e X.env) :: starEach [a] X.env := by rfl) (hpl : (backTo pos (starEach [a] X.env)).any (·.1) = false := by rfl) :
    DE K Wno false X (.Call (.Name x p) [e, a] [] pos) (fL (newP C g) fr) := by
  refine PE.imp (BR Mk' FI hr hg hm hb .nil xA ha hdb hst hpl) fun σ H Q h => ?_
  obtain ⟨F, ρ, r, s, p⟩ := rd_L h
  refine ⟨F, ρ, r, s, ?_⟩
  cases e1 : fr ρ with
  | error z => rw [e1] at p; exact p
  | ok ds =>
    rw [e1] at p
    intro vs F1 H1 st q
    obtain ⟨F2, es1, s1, q1, z⟩ := p vs F1 H1 st q
    rcases es1 with _ | ⟨d, _ | ⟨d2, _ | ⟨_, _⟩⟩⟩
    · exact aV.stuck z
    · exact aV.stuck z
    rotate_left
    · exact aV.stuck z
    · obtain ⟨v, vs', rfl, qd, v2, vs2, rfl, qd2, hn⟩ := q1
      cases (show vs2 = [] from hn)
      intro x dx hx hdx hne
      refine ⟨x, dx, v, v2, F2, d, d2, rfl, aE, s1.free hx, fun c o e => ?_, qd, qd2, ?_⟩
      · have hc : c ≠ x := fun h => by rw [h, s1.free hx] at e; cases e
        have hd : c ≠ dx := fun h => by rw [h, s1.free hdx] at e; cases e
        rw [av hc, av hd]; exact s1 _ _ e
      · have z : aV K Wno false F2 H1 ((g [d]).bind fun r => (g [d2]).bind fun r2 => if twoL r r2 = true then .ok (.ins C [("gaps", r), ("beside", r2)]) else stk) Q := z
        cases hgd : g [d] with
        | error e => rw [hgd] at z; exact False.elim z
        | ok r =>
          rw [hgd, ak] at z
          cases hgd2 : g [d2] with
          | error e => rw [hgd2] at z; exact False.elim z
          | ok r2 =>
            rw [hgd2, ak] at z
            by_cases ht : twoL r r2 = true
            · rw [if_pos ht] at z
              rw [ak, ak, if_pos ht]
              intro w w2 F' H' h1 h2 h3 h4 h5 h6 h7 h8
              refine ⟨rfl, z (.ref x) (upd F' x (.ins C dx [("gaps", w), ("beside", w2)])) H' (Step.born s1 hx hdx hne h1 h2 h3 h4 h5 h6) ?_⟩
              exact ⟨x, dx, _, rfl, aE, w, _, rfl, cI.mono (bg.upd h3) h7, w2, [], rfl, cI.mono (bg.upd h3) h8, rfl⟩
            · rw [if_neg ht] at z; exact aV.stuck z
end
end L2
namespace L2
open PySem PySem.Spec PyProof.Rows
section
variable {X : Cx} {K : PySem.W.Frag} {W : gH} {own : Bool}
theorem CO (hc : X.calm = true) : i5 X (.builtin "sum") (fun xs H Q => ∃ (a : Addr) (is : List Int), xs = [.ref a] /\ SqL X.K H a (is.map V.int) /\ Q (.int is.sum) H) := by
  intro pins s σ H xs us Q I r h
  obtain ⟨a, is, rfl, hq, q⟩ := h
  obtain ⟨u, rfl, ru⟩ := r.one
  cases ru
  obtain ⟨its, rv, p, hz⟩ := I.list hq
  have hi := intsAre_of rv
  obtain ⟨xs, e⟩ := hi.allInts.items
  have hns : is = xs.toList.map (·.1) := by rw [<- hi.numsOf, <- nums_intItems, <- e]
  have hl := p.isList
  rw [e] at hl
  refine call_sum_walkAnyS (iter_intList hl fun s₂ e2 st hfp hlI => ?_)
  subst e2
  refine ⟨_, _, _, _, _, _, _, numAt xs, rfl, (Walks.list (A := X.A.in1) (I.ok.hd hc) _ a hlI (intItems xs)).toS, st, hfp, (fun _ _ => intItems_at), fun s' t' hm => ?_⟩
  obtain ⟨h', g', d', tk', os'⟩ := s'
  have e1 := hm.gens
  have e2 := hm.drawn
  have e3 := hm.os
  have e4 := hm.heap
  simp only at e1 e2 e3
  subst e1 e2 e3
  have hk := old_kept (s := s) (l := a) (h' := h') fun b o hb e => e4 b o hb e
  refine ⟨.int _, H, I.kept (t' := tk') hk, ⟨t', rfl⟩, ?_⟩
  have es : preSum (numAt xs) (intItems xs).size = is.sum := by
    rw [preSum_eq, hns, List.take_of_length_le (by simp [intItems])]
  rw [es]
  exact q
theorem c_sum (hc : X.calm = true) (hK : X.K = K := by rfl) : wO K W own X (.builtin "sum") sumD := by
  subst hK
  refine (CO hc).imp fun xs H Q h => ?_
  obtain ⟨F, ds, s, q, p⟩ := h
  rcases ds with _ | ⟨d, _ | ⟨_, _⟩⟩
  · exact aV.stuck p
  · obtain ⟨v, vs, rfl, qd, hn⟩ := q
    cases (show vs = [] from hn)
    cases d with
    | lst ds =>
      obtain ⟨a, xs, e, t, z⟩ := qd
      have p' : aV X.K W own F H ((e8 ds).bind fun is => .ok (.int is.sum)) Q := p
      cases hi : e8 ds with
      | error e => rw [hi] at p'; have := pG hi; subst this; exact aV.stuck p'
      | ok is =>
        rw [hi] at p'
        have hx : xs = is.map V.int := m7 z hi
        subst hx
        exact ⟨a, is, by rw [e], s.lst t, aV.int p' s⟩
    | _ => exact aV.stuck p
  · cases d <;> exact aV.stuck p
end
noncomputable def Itz (K : PySem.W.Frag) (a b : Addr) : It :=
  ⟨fun i H => ∃ xs ys x y, SqL K H a xs /\ SqL K H b ys /\ xs[i]? = some x /\ ys[i]? = some y, fun i H v H' => ∃ T x y, H T = none /\ v = .ref T /\ H' = upd H T (.tup [x, y]) /\ (∀ xs, SqL K H a xs -> xs[i]? = some x) /\ ∀ ys, SqL K H b ys -> ys[i]? = some y, fun i H => ∃ xs ys, SqL K H a xs /\ SqL K H b ys /\ (xs.length <= i \/ ys.length <= i)⟩
theorem turn_zip {P : Program} {w : World} {K : PySem.W.Frag} {elts : List Expr} {k : Nat} {pos : Pos} {z TI TO i1 i2 l1 l2 : Addr} (D : ZipApart z TI TO i1 i2 l1 l2) :
    Turn P w K (.Tuple elts k pos) (Itz K l1 l2) [z, TI, TO, i1, i2] z (fun i h => IsZip h z TI TO .none /\ IsPair h TI (.ref i1) (.ref i2) /\ (∃ a b, IsPair h TO a b) /\ h.IsListIter i1 l1 i /\ h.IsListIter i2 l2 i) where
  mem := by simp
  obj := fun i h st b hb => by
    obtain ⟨hz, hTI, ⟨a, c, hTO⟩, ⟨o1, e1, c1, d1⟩, ⟨o2, e2, c2, d2⟩⟩ := st
    simp only [List.mem_cons, List.not_mem_nil, or_false] at hb
    rcases hb with rfl | rfl | rfl | rfl | rfl
    · exact ⟨_, hz, fun v q => by cases q⟩
    · exact ⟨_, hTI, fun v q => by cases q⟩
    · exact ⟨_, hTO, fun v q => by cases q⟩
    · exact ⟨o1, e1, fun v q => by rw [d1] at q; cases q⟩
    · exact ⟨o2, e2, fun v q => by rw [d2] at q; cases q⟩
  keep := fun i h h' st kk => by
    obtain ⟨hz, hTI, ⟨a, c, hTO⟩, h1, h2⟩ := st
    exact ⟨kk z (by simp) _ hz, kk TI (by simp) _ hTI, ⟨a, c, kk TO (by simp) _ hTO⟩, h1.at fun o x => kk i1 (by simp) o x, h2.at fun o x => kk i2 (by simp) o x⟩
  item := by
    intro X hP hw hK hc i pins s σ H E I hf st hg
    subst hP hw hK
    obtain ⟨hz, hTI, ⟨a, c, hTO⟩, h1, h2⟩ := st
    obtain ⟨xs, ys, x, y, hx, hy, gx, gy⟩ := hg
    obtain ⟨its, rv, p, _⟩ := I.list hx
    obtain ⟨its2, rv2, p2, _⟩ := I.list hy
    obtain ⟨u, hu, ru⟩ := rv.get gx
    obtain ⟨u2, hu2, ru2⟩ := rv2.get gy
    refine wpAny_pyNext_zip_item D hz hTI hTO h1 h2 p.isList p2.isList (x := u) (y := u2) (by simpa using hu) (by simpa using hu2) fun h' a1 a2 a3 a4 a5 a6 a7 => ?_
    refine ⟨_, rfl, wpAny_letOwnedTupleGo_zip a1 fun h2' b1 b2 => ?_⟩
    have lz : z < s.heap.objs.size := Heap.lt_size hz
    have lTI : TI < s.heap.objs.size := Heap.lt_size hTI
    have lTO : TO < s.heap.objs.size := Heap.lt_size hTO
    have li1 : i1 < s.heap.objs.size := by obtain ⟨o, e, _⟩ := h1; exact Heap.lt_size e
    have li2 : i2 < s.heap.objs.size := by obtain ⟨o, e, _⟩ := h2; exact Heap.lt_size e
    have I1 : Inv X pins σ (upd H s.heap.objs.size (.tup [x, y])) { s with heap := h2', toks := s.toks } := I.yU (ch := [z, TI, TO, i1, i2]) hf (fun b o hb q => by
        simp only [List.mem_cons, List.not_mem_nil, or_false, not_or] at hb
        exact (b2.2 b hb.1).trans (a7 b o hb.1 hb.2.2.1 hb.2.2.2.1 hb.2.2.2.2 q)) (Nat.le_refl _) ⟨by show 2 <= sizeLine; decide, [u, u2], .cons ru (.cons ru2 .nil), ⟨_, (b2.2 _ (Nat.ne_of_gt lz)).trans a5, rfl, 0, rfl⟩⟩
    refine ⟨.ref s.heap.objs.size, _, I1, rfl, ⟨s.heap.objs.size, x, y, I.hok.fresh (Nat.le_refl _), rfl, rfl, fun zs hq => by rw [I.rG hq hx]; exact gx, fun zs hq => by rw [I.rG hq hy]; exact gy⟩,
      ⟨b1, (b2.2 _ D.TIz).trans (a7 TI _ D.TIz D.TITO D.TIi1 D.TIi2 hTI), ⟨_, _, (b2.2 _ D.TOz).trans a2⟩, a3.at fun o q => (b2.2 _ D.i1z).trans q, a4.at fun o q => (b2.2 _ D.i2z).trans q⟩, fun b hb => ?_⟩
    have hbn := (hf b hb).1
    have : b ≠ s.heap.objs.size := by
      simp only [List.mem_cons, List.not_mem_nil, or_false] at hb
      rcases hb with rfl | rfl | rfl | rfl | rfl <;> exact Nat.ne_of_lt (by assumption)
    rw [av this]
    exact hbn
  done := by
    intro X hP hw hK hc i pins s σ H E I hf st hg
    subst hP hw hK
    obtain ⟨hz, hTI, ⟨a, c, hTO⟩, h1, h2⟩ := st
    obtain ⟨xs, ys, hx, hy, hend⟩ := hg
    obtain ⟨its, rv, p, _⟩ := I.list hx
    obtain ⟨its2, rv2, p2, _⟩ := I.list hy
    have e1 := rv.length
    have e2 := rv2.length
    refine wpAny_pyNext_zip_end (I.ok.hd hc) D hz hTI hTO h1 h2 p.isList p2.isList ?_ fun h' hk => ⟨rfl, I.yV (t' := s.toks) (ch := [z, TI, TO, i1, i2]) hf fun b o hb q => ?_⟩
    · rcases hend with z | z
      · exact .inl (Array.getElem?_eq_none (by simp; omega))
      · exact .inr (Array.getElem?_eq_none (by simp; omega))
    · simp only [List.mem_cons, List.not_mem_nil, or_false, not_or] at hb
      exact hk b o hb.1 hb.2.2.1 hb.2.2.2.1 hb.2.2.2.2 q
  self := fun _ _ _ _ _ st h => wpAny_pyIter_zip st.1 h
theorem A7 : ∀ (ds es : List Dat) (i : Nat), (uO ds es)[i]? = (ds[i]?).bind fun d => (es[i]?).map fun e => .tup [d, e]
  | [], es, i => by simp [uO]
  | d :: ds, [], i => by cases h : (d :: ds)[i]? <;> simp [uO]
  | d :: ds, e :: es, 0 => by simp [uO]
  | d :: ds, e :: es, i + 1 => by rw [uO, List.getElem?_cons_succ, A7 ds es i, List.getElem?_cons_succ, List.getElem?_cons_succ]
theorem uN : ∀ (ds es : List Dat), (uO ds es).length = min ds.length es.length
  | [], es => by simp [uO]
  | d :: ds, [] => by simp [uO]
  | d :: ds, e :: es => by rw [uO, List.length_cons, uN ds es, List.length_cons, List.length_cons]; omega
theorem iter_zip {K : PySem.W.Frag} {F : Hp} {a b : Addr} {xs ys : List V} {ds es : List Dat} (t : SqL K F a xs) (z : au K F ds xs) (t2 : SqL K F b ys) (z2 : au K F es ys) : yR K F (Itz K a b) (uO ds es) where
  go := fun i F' H' s1 s2 hi => by
    rw [uN] at hi
    exact ⟨xs, ys, xs[i]'(by rw [z.length]; omega), ys[i]'(by rw [z2.length]; omega), s2.lst (s1.lst t), s2.lst (s1.lst t2), List.getElem?_eq_getElem _, List.getElem?_eq_getElem _⟩
  yl := fun i F' H' x H2 d s1 s2 hd hy => by
    obtain ⟨T, x1, y1, hT, ex, eH, h1, h2⟩ := hy
    subst ex eH
    rw [A7] at hd
    cases hds : ds[i]? with
    | none => rw [hds] at hd; cases hd
    | some d1 =>
      cases hes : es[i]? with
      | none => rw [hds, hes] at hd; cases hd
      | some d2 =>
        rw [hds, hes] at hd
        simp at hd
        subst hd
        obtain ⟨v, e1, q⟩ := z.get hds
        obtain ⟨v2, e2, q2⟩ := z2.get hes
        have e3 := h1 xs (s2.lst (s1.lst t))
        have e4 := h2 ys (s2.lst (s1.lst t2))
        rw [e1] at e3
        rw [e2] at e4
        cases e3
        cases e4
        refine ⟨upd F' T (.tup [x1, y1]), Step.lay s2 hT, T, _, rfl, SqT.of aE, ?_⟩
        exact ⟨x1, [y1], rfl, (q.mono s1).mono (bg.upd (s2.free hT)), y1, [], rfl, (q2.mono s1).mono (bg.upd (s2.free hT)), rfl⟩
  st := fun F' H' s1 s2 => ⟨xs, ys, s2.lst (s1.lst t), s2.lst (s1.lst t2), by rw [z.length, z2.length, uN]; omega⟩
section
variable {X : Cx} {K : PySem.W.Frag} {W : gH} {own ro : Bool} {e a b c : Expr} {es : List Expr} {x : Str} {pos p : Pos} {f fa fb fc : ag -> M Dat}
noncomputable def iZip (K : PySem.W.Frag) (ta tb : TE) : TI := fun σ H R => ta σ H fun x H1 => tb σ H1 fun y H2 => ∃ a b, x = .ref a /\ y = .ref b /\ (∃ xs, SqL K H2 a xs) /\ (∃ ys, SqL K H2 b ys) /\ R (Itz K a b) H2
theorem pi_zip {elts : List Expr} {k : Nat} {q : Pos} {ta tb : TE} (hg : Gl X "zip") (hm : X.mg "zip" = none) (ha : PE X a ta) (hb : PE X b tb) (hs : starEach [a, b] X.env = [(false, eval a X.env), (false, eval b X.env)]) (hs2 : starEach [b] X.env = [(false, eval b X.env)]) :
    PI X (.Tuple elts k q) (.Call (.Name "zip" p) [a, b] [] pos) (iZip X.K ta tb) := by
  intro pins s σ H R I h
  have hA : PA X [a, b] (tf ta (tf tb tNil)) := dj ha (dj hb jf hs2) (by rw [hs, hs2])
  refine Call_ (sm I hg hm boot_zip (PyProof.Rows.callWith_type1 (thn (hA pos pins s σ H (fun vs H1 => match vs with
    | [x, y] => ∃ a b, x = .ref a /\ y = .ref b /\ (∃ xs, SqL X.K H1 a xs) /\ (∃ ys, SqL X.K H1 b ys) /\ R (Itz X.K a b) H1
    | _ => False) I h) fun us s1 ⟨vs, H1, I1, r1, q1⟩ => ?_) (by rw [hs, hs2]) (by rw [hs2]; rfl)))
  match vs, r1, q1 with
  | [x, y], r1, ⟨l, l2, e1, e2, ⟨xs, hq⟩, ⟨ys, hq2⟩, q⟩ =>
    subst e1 e2
    obtain ⟨u, u2, rfl, ru, ru2⟩ := r1.two
    cases ru
    cases ru2
    obtain ⟨its, rv, pl, _⟩ := I1.list hq
    obtain ⟨its2, rv2, pl2, _⟩ := I1.list hq2
    have a1 : l < s1.heap.objs.size := by obtain ⟨_, e, _⟩ := pl.isList; exact Heap.lt_size e
    have a2 : l2 < s1.heap.objs.size := by obtain ⟨_, e, _⟩ := pl2.isList; exact Heap.lt_size e
    refine call_zip_2 pl.isList pl2.isList fun h' hz hTI hTO hi1 hi2 hsz hk => ?_
    have I2 : Inv X pins σ H1 { s1 with heap := h' } := I1.kept (t' := s1.toks) hk
    refine wpAny_pyIter_zip hz ?_
    refine ⟨s1.heap.objs.size + 4, [s1.heap.objs.size + 4, s1.heap.objs.size + 2, s1.heap.objs.size + 3, s1.heap.objs.size, s1.heap.objs.size + 1], _, _, H1, rfl, I2, turn_zip (zipApart_new a1 a2), ⟨hz, hTI, ⟨_, _, hTO⟩, hi1, hi2⟩, fun b hb => ?_, q⟩
    have hb2 : s1.heap.objs.size <= b := by
      simp only [List.mem_cons, List.not_mem_nil, or_false] at hb
      rcases hb with rfl | rfl | rfl | rfl | rfl
      · exact Nat.le_add_right _ 4
      · exact Nat.le_add_right _ 2
      · exact Nat.le_add_right _ 3
      · exact Nat.le_refl _
      · exact Nat.le_add_right _ 1
    exact I1.fpOk hb2 (I1.hok.fresh hb2)
theorem ri_zip {σ : St} {H : Hp} {R : It -> Hp -> Prop} (h : iD K W (CA fa fb) σ H R) : iZip K (tD K W false fa) (tD K W false fb) σ H R := by
  obtain ⟨F, ρ, r, s, p⟩ := h
  refine bx r s (fun e he => ?_) fun d hd v F1 H1 s1 q1 => ?_
  · have z : CA fa fb ρ = .error e := by unfold CA; rw [he]; rfl
    rw [z] at p; exact p
  · refine bx (r.mono s1.ff) s1.fh (fun e he => ?_) fun d2 hd2 v2 F2 H2 s2 q2 => ?_
    · have z : CA fa fb ρ = .error e := by unfold CA; rw [hd, ak, he]; rfl
      rw [z] at p; exact W.mono p s1
    · have z : CA fa fb ρ = (sA d).bind fun ds => (sA d2).bind fun es => .ok (uO ds es) := by unfold CA; rw [hd, ak, hd2, ak]
      rw [z] at p
      cases d with
      | lst ds =>
        cases d2 with
        | lst es =>
          obtain ⟨b, xs, e, t, zz⟩ := q1
          obtain ⟨b2, ys, e2, t2, zz2⟩ := q2
          have t' := s2.ff.lst t
          exact ⟨b, b2, e, e2, ⟨xs, s2.fh.lst t'⟩, ⟨ys, s2.fh.lst t2⟩, p _ F2 H2 (s1.trans s2) (iter_zip t' (zz.mono s2.ff) t2 zz2)⟩
        | _ => exact (W.ns p).elim
      | _ => exact (W.ns p).elim
theorem di_zip {elts : List Expr} {k : Nat} {q : Pos} (hm : X.mg "zip" = none) (ha : DE K W false X a fa) (hb : DE K W false X b fb) (hg : Gl X "zip" := by rfl) (hs : starEach [a, b] X.env = [(false, eval a X.env), (false, eval b X.env)] := by rfl) (hs2 : starEach [b] X.env = [(false, eval b X.env)] := by rfl) (hK : X.K = K := by rfl) :
    DI K W X (.Tuple elts k q) (.Call (.Name "zip" p) [a, b] [] pos) (CA fa fb) := by
  subst hK
  exact (pi_zip hg hm ha hb hs hs2).imp fun _ _ _ => ri_zip
end
end L2
namespace L2
open PySem PySem.Spec PyProof.Rows
end L2
namespace L2
open PySem PySem.Spec PyProof.Rows
end L2
namespace L2
open PySem PySem.Spec PyProof.Rows
section
variable {X : Cx} {K : PySem.W.Frag} {W : gH} {own ro : Bool}
open Classical in
end
end L2
namespace L2
open PySem PySem.Spec PyProof.Rows
noncomputable abbrev ZRec (h : Heap) (z p q : Addr) (m k : Value) : Prop := h.get? z = some { cls := .type "zip", dict := none, data := .fields #[m, k, .bool false, .ref p, .ref q], slots := #[] }
structure Zs (z p q u v l m : Addr) (r k a b : Value) (i j : Nat) (xs ys : Array Value) (h : Heap) : Prop where
  me : ZRec h z p q r k
  its : IsPair h p (.ref u) (.ref v)
  own : IsPair h q a b
  one : h.IsListIter u l i
  two : h.IsListIter v m j
  xl : h.IsList l xs
  yl : h.IsList m ys
noncomputable def Off (z q u v : Addr) (h h' : Heap) : Prop := ∀ c o, c ≠ z -> c ≠ q -> c ≠ u -> c ≠ v -> h.get? c = some o -> h'.get? c = some o
section
variable {z p q u v l m : Addr} {r k a b : Value} {i j n : Nat} {xs ys : Array Value} {h h' g : Heap}
theorem Off.refl : Off z q u v h h := fun _ _ _ _ _ _ e => e
theorem Off.then (A : Off z q u v h h') (B : Off z q u v h' g) : Off z q u v h g := fun c o a b d e x => B c o a b d e (A c o a b d e x)
end
inductive Mem : Value -> Prop
  | no : Mem .none
  | was (a : Int) (t : Tok) : Mem (.int a t)
end L2
namespace L2
open PySem PySem.Spec PyProof.Rows
inductive Laid2 : Hp -> List (V × V) -> List V -> Hp -> Prop
  | nil {G : Hp} : Laid2 G [] [] G
  | cons {G G' : Hp} {T : Addr} {x y : V} {ps : List (V × V)} {vs : List V} : G T = none -> Laid2 (upd G T (.tup [x, y])) ps vs G' -> Laid2 G ((x, y) :: ps) (.ref T :: vs) G'
end L2
namespace L2
open PySem PySem.Spec PyProof.Rows
noncomputable def repD : Dat -> Dat -> M Dat
  | .lst ds, .int k => if (decide (-(2 ^ 63) <= k) && decide (k < 2 ^ 63) && decide (ds.length * k.toNat <= sizeLine)) = true then .ok (.lst (List.replicate k.toNat ds).flatten) else stk
  | _, _ => stk
@[simp] theorem e_rep {ds : List Dat} {k : Int} (h0 : -9223372036854775808 <= k) (h1 : k < 9223372036854775808) (h2 : ds.length * k.toNat <= 16777216) : repD (.lst ds) (.int k) = .ok (.lst (List.replicate k.toNat ds).flatten) := by
  show (if _ then _ else _) = _
  rw [if_pos]; simp only [Bool.and_eq_true, decide_eq_true_eq]
  exact ⟨⟨by omega, by omega⟩, by rw [sizeLine_eq]; exact h2⟩
theorem au.rep {K : PySem.W.Frag} {F : Hp} {ds : List Dat} {xs : List V} (h : au K F ds xs) : ∀ m : Nat, au K F (List.replicate m ds).flatten (List.replicate m xs).flatten
  | 0 => rfl
  | m + 1 => by
    rw [List.replicate_succ, List.replicate_succ, List.flatten_cons, List.flatten_cons]
    exact h.append (au.rep h m)
section
variable {X : Cx} {K : PySem.W.Frag} {W : gH} {a b : Expr} {pos : Pos} {fa fb : ag -> M Dat}
theorem de_rep (ha : DE K W true X a fa) (hb : DE K W false X b fb) : DE K W true X (.BinOp a .Mult b pos) (f2 repD fa fb) := by
  refine PE.imp (pe_op op_rep ha hb) fun σ H Q h => ?_
  obtain ⟨F, ρ, r, s, p⟩ := h
  refine bx r s (fun e he => p.err (by unfold f2; rw [he]; rfl)) fun x hx v F1 H1 s1 q1 => ?_
  refine bx (r.mono s1.ff) s1.fh (fun e he => (p.step s1).err (by unfold f2; rw [hx]; show (fb ρ).bind _ = _; rw [he]; rfl)) fun y hy u F2 H2 s2 q2 => ?_
  have e : f2 repD fa fb ρ = repD x y := by unfold f2; rw [hx]; show (fb ρ).bind _ = _; rw [hy]; rfl
  rw [e] at p
  cases x with
  | lst ds =>
    cases y with
    | int k =>
      obtain ⟨l, xs, e1, t1, t2, t3, t4⟩ := q1
      have e2 : u = .int k := q2
      have p' : aV K W true F H (if (decide (-(2 ^ 63) <= k) && decide (k < 2 ^ 63) && decide (ds.length * k.toNat <= sizeLine)) = true then .ok (.lst (List.replicate k.toNat ds).flatten) else stk) Q := p
      by_cases hc : (decide (-(2 ^ 63) <= k) && decide (k < 2 ^ 63) && decide (ds.length * k.toNat <= sizeLine)) = true
      · rw [if_pos hc] at p'; simp only [Bool.and_eq_true, decide_eq_true_eq] at hc
        have t4' := t4.mono s2.ff
        refine ⟨l, k, xs, e1, e2, s2.hh l _ t1, hc.1.1, hc.1.2, by rw [t4.length]; exact hc.2, fun z hz => ?_⟩
        exact (p'.step (s1.trans s2)).lst s2.fh (t4'.rep k.toNat) hz
      · rw [if_neg hc] at p'; exact p'.stuck
    | _ => exact aV.stuck p
  | _ => exact aV.stuck p
end
end L2
namespace L2
open PySem PySem.Spec PyProof.Rows
theorem Step.stays {F H F' H' : Hp} {a : Addr} {o : HO} (s : Step F H F' H') (n : F a = none) (h : H a = some o) : F' a = none := by
  cases e : F' a with
  | none => rfl
  | some u =>
    rcases s.nw a u e with z | z
    · rw [n] at z; cases z
    · rw [h] at z; cases z
structure wU (K : PySem.W.Frag) (F G H : Hp) (ds : List Dat) (vs : List V) : Prop where
  len : vs.length = ds.length
  get : ∀ (k : Nat) (d : Dat), ds[k]? = some d -> ∃ a xs es, vs[k]? = some (.ref a) /\ d = .lst es /\ H a = some (.lst xs) /\ F a = none /\ G a = none /\ au K F es xs
  ap : ∀ (j k : Nat) (a : Addr), vs[j]? = some (.ref a) -> vs[k]? = some (.ref a) -> j = k
section
variable {K : PySem.W.Frag} {F G H F' H' : Hp} {ds : List Dat} {vs : List V}
theorem wU.nil : wU K F G H [] [] := ⟨rfl, fun k d e => by simp at e, fun j k a e => by simp at e⟩
theorem wU.step (o : wU K F G H ds vs) (s : Step F H F' H') : wU K F' G H' ds vs where
  len := o.len
  get := fun k d e => by
    obtain ⟨a, xs, es, h1, h2, h3, h4, h5, h6⟩ := o.get k d e
    exact ⟨a, xs, es, h1, h2, s.hh _ _ h3, s.stays h4 h3, h5, h6.mono s.ff⟩
  ap := o.ap
theorem wU.back {G' : Hp} (o : wU K F G H ds vs) (s : bg G' G) : wU K F G' H ds vs where
  len := o.len
  get := fun k d e => by
    obtain ⟨a, xs, es, h1, h2, h3, h4, h5, h6⟩ := o.get k d e
    exact ⟨a, xs, es, h1, h2, h3, h4, s.free h5, h6⟩
  ap := o.ap
theorem wU.at (o : wU K F G H ds vs) {k : Nat} {a : Addr} (h : vs[k]? = some (.ref a)) : ∃ xs es, ds[k]? = some (.lst es) /\ H a = some (.lst xs) /\ F a = none /\ G a = none /\ au K F es xs := by
  have hk : k < ds.length := by rw [<- o.len]; exact (List.getElem?_eq_some_iff.mp h).1
  obtain ⟨b, xs, es, h1, h2, h3, h4, h5, h6⟩ := o.get k ds[k] (by simp [hk])
  rw [h] at h1
  cases h1
  exact ⟨xs, es, by rw [<- h2]; simp [hk], h3, h4, h5, h6⟩
theorem wU.add (o : wU K F G H ds vs) {es : List Dat} {a : Addr} {xs : List V} (new : ∀ k : Nat, vs[k]? ≠ some (.ref a)) (h3 : H a = some (.lst xs)) (h4 : F a = none) (h5 : G a = none) (h6 : au K F es xs) : wU K F G H (ds ++ [.lst es]) (vs ++ [.ref a]) where
  len := by simp [o.len]
  get := fun k d e => by
    rcases Nat.lt_trichotomy k ds.length with z | z | z
    · rw [List.getElem?_append_left z] at e
      obtain ⟨b, ys, fs, g1, g2⟩ := o.get k d e
      exact ⟨b, ys, fs, by rw [List.getElem?_append_left (by rw [o.len]; exact z)]; exact g1, g2⟩
    · subst z
      simp at e
      refine ⟨a, xs, es, ?_, e.symm, h3, h4, h5, h6⟩
      rw [<- o.len]
      simp
    · have := (List.getElem?_eq_some_iff.mp e).1
      simp at this
      omega
  ap := fun j k b e1 e2 => by
    have key : ∀ m, (vs ++ [V.ref a])[m]? = some (.ref b) -> (m < vs.length /\ vs[m]? = some (.ref b)) \/ (m = vs.length /\ b = a) := fun m e => by
      rcases Nat.lt_trichotomy m vs.length with z | z | z
      · rw [List.getElem?_append_left z] at e; exact .inl ⟨z, e⟩
      · subst z; simp at e; exact .inr ⟨rfl, e.symm⟩
      · have := (List.getElem?_eq_some_iff.mp e).1
        simp at this
        omega
    rcases key j e1 with ⟨_, u1⟩ | ⟨u1, u2⟩ <;> rcases key k e2 with ⟨_, w1⟩ | ⟨w1, w2⟩
    · exact o.ap j k b u1 w1
    · subst w2; exact absurd u1 (new j)
    · subst u2; exact absurd w1 (new k)
    · omega
end
section
variable {K : PySem.W.Frag} {W : gH} {F H : Hp} {σ : St} {ρ : ag}
theorem Ah {fi : ag -> M (List Dat)} {ix : List (Option Nat)} {p : Pat} {ft : ag -> M Bool} {fe : ag -> M Dat} {R : List V -> Hp -> Prop} (r : qf K F σ ρ) (s : bg F H) (hL : ∀ ρ d, fe ρ = .ok d -> ∃ es, d = .lst es) (hE : ∀ e, fg fi ix p ft fe ρ = .error e -> W.p e F H)
    (hO : ∀ rs, fg fi ix p ft fe ρ = .ok (.lst rs) -> ∀ ys F2 H2, Step F H F2 H2 -> wU K F2 H H2 rs ys -> R ys H2) : iD K W fi σ H fun J H1 => pO J ix (gP K p) (tDT K W ft) (tD K W true fe) σ R H1 := by
  refine ⟨F, ρ, r, s, ?_⟩
  cases hf : fi ρ with
  | error e => exact hE e (by unfold fg; rw [hf]; rfl)
  | ok ds =>
    intro J F1 H1 s1 it
    have e0 : fg fi ix p ft fe ρ = if ds.length <= sizeLine then (bf p ft fe (gp ix ρ) ds).bind fun r => .ok (.lst r) else .error .stuck := by unfold fg; rw [hf]; rfl
    by_cases hl : ds.length <= sizeLine
    · rw [if_pos hl] at e0
      rw [e0] at hE hO
      refine ⟨fun i m ys H2 => m = ds.length - i /\ i <= ds.length /\ ∃ F2 yd, Step F1 H1 F2 H2 /\ wU K F2 H1 H2 yd ys /\ yd.length <= i /\
        (match bf p ft fe (gp ix ρ) (ds.drop i) with
          | .ok rr => bf p ft fe (gp ix ρ) ds = .ok (yd ++ rr)
          | .error e => W.p e F H), ⟨ds.length, by omega, Nat.zero_le _, F1, [], Step.refl s1.fh, wU.nil, Nat.zero_le _, ?_⟩, ?_⟩
      · rw [List.drop_zero]
        cases e : bf p ft fe (gp ix ρ) ds with
        | ok rr => rfl
        | error x => exact hE x (by rw [e]; rfl)
      · rintro i m ys H2 ⟨rfl, hi, F2, yd, s2, dy, ly, hc⟩
        have lys : ys.length <= sizeLine := by rw [dy.len]; omega
        by_cases hlt : i < ds.length
        · have ed : ds.drop i = ds[i] :: ds.drop (i + 1) := List.drop_eq_getElem_cons hlt
          rw [ed] at hc
          refine .inr ⟨it.go i F2 H2 s2.ff s2.fh hlt, lys, fun ys' H' => (i + 1 <= ds.length /\ ∃ F2 yd, Step F1 H1 F2 H' /\ wU K F2 H1 H' yd ys' /\ yd.length <= i + 1 /\
            (match bf p ft fe (gp ix ρ) (ds.drop (i + 1)) with
              | .ok rr => bf p ft fe (gp ix ρ) ds = .ok (yd ++ rr)
              | .error e => W.p e F H)), fun ys' H' n => ⟨ds.length - (i + 1), by omega, rfl, n⟩, fun x H' y => ?_⟩
          obtain ⟨F3, s3, q3⟩ := it.yl i F2 H2 x H' ds[i] s2.ff s2.fh (by simp [hlt]) y
          have r3 : qf K F3 (L2.inS ix σ) (gp ix ρ) := (r.mono (s1.trans (s2.trans s3)).ff).inS ix
          have st3 : Step F H F3 H' := s1.trans (s2.trans s3)
          have ec : bf p ft fe (gp ix ρ) (ds[i] :: ds.drop (i + 1)) = (fD p ds[i] (gp ix ρ)).bind fun ρ1 => (ft ρ1).bind fun b => if b = true then (fe ρ1).bind fun y => (bf p ft fe (gp ix ρ) (ds.drop (i + 1))).bind fun r => .ok (y :: r) else bf p ft fe (gp ix ρ) (ds.drop (i + 1)) := by rw [bf]
          rw [ec] at hc
          cases hb : fD p ds[i] (gp ix ρ) with
          | error e =>
            rw [hb] at hc
            have := mH hb
            subst this
            exact (W.ns hc).elim
          | ok ρ1 =>
            rw [hb] at hc
            refine gP_run r3 s3.fh q3 hb fun σ2 r4 => ?_
            have hc1 : match ((ft ρ1).bind fun b => if b = true then (fe ρ1).bind fun y => (bf p ft fe (gp ix ρ) (ds.drop (i + 1))).bind fun r => .ok (y :: r) else bf p ft fe (gp ix ρ) (ds.drop (i + 1))) with
              | .ok rr => bf p ft fe (gp ix ρ) ds = .ok (yd ++ rr)
              | .error e => W.p e F H := hc
            refine lC r4 s3.fh (fun e he => by rw [he] at hc1; exact W.mono hc1 st3) fun b hb2 F5 H5 s5 => ?_
            rw [hb2] at hc1
            cases b with
            | false =>
              have hc2 : match bf p ft fe (gp ix ρ) (ds.drop (i + 1)) with
                | .ok rr => bf p ft fe (gp ix ρ) ds = .ok (yd ++ rr)
                | .error e => W.p e F H := hc1
              exact ⟨hlt, F5, yd, s2.trans (s3.trans s5), dy.step (s3.trans s5), by omega, hc2⟩
            | true =>
              have hc2 : match ((fe ρ1).bind fun y => (bf p ft fe (gp ix ρ) (ds.drop (i + 1))).bind fun r => .ok (y :: r)) with
                | .ok rr => bf p ft fe (gp ix ρ) ds = .ok (yd ++ rr)
                | .error e => W.p e F H := hc1
              refine bx (r4.mono s5.ff) s5.fh (fun e he => by rw [he] at hc2; exact W.mono hc2 (st3.trans s5)) fun d hd v F6 H6 s6 q6 => ?_
              rw [hd] at hc2
              obtain ⟨es, rfl⟩ := hL _ _ hd
              obtain ⟨a, xs, ev, g1, g2, g3, g4⟩ := q6
              subst ev
              have d5 := dy.step (s3.trans s5)
              refine ⟨hlt, F6, yd ++ [.lst es], s2.trans (s3.trans (s5.trans s6)), (d5.step s6).add (fun k hk => ?_) g1 g2 ((s2.trans (s3.trans s5)).hh.free g3) g4, by simp; omega, ?_⟩
              · obtain ⟨_, _, _, z, _⟩ := d5.at hk
                rw [g3] at z
                cases z
              · have hc3 : match ((bf p ft fe (gp ix ρ) (ds.drop (i + 1))).bind fun r => .ok (Dat.lst es :: r) : M (List Dat)) with
                  | .ok rr => bf p ft fe (gp ix ρ) ds = .ok (yd ++ rr)
                  | .error e => W.p e F H := hc2
                cases e7 : bf p ft fe (gp ix ρ) (ds.drop (i + 1)) with
                | ok rr =>
                  rw [e7] at hc3
                  show _ = Except.ok ((yd ++ [Dat.lst es]) ++ rr)
                  rw [List.append_assoc]
                  exact hc3
                | error x => rw [e7] at hc3; exact hc3
        · have : i = ds.length := by omega
          subst this
          rw [List.drop_length] at hc
          have hc' : bf p ft fe (gp ix ρ) ds = .ok (yd ++ []) := hc
          rw [List.append_nil] at hc'
          exact .inl ⟨it.st F2 H2 s2.ff s2.fh, lys, hO yd (by rw [hc']; rfl) ys F2 H2 (s1.trans s2) (dy.back s1.hh)⟩
    · rw [if_neg hl] at e0
      exact (W.ns (hE .stuck e0)).elim
end
noncomputable def lstOf : Dat -> M (List Dat)
  | .lst ds => .ok ds
  | _ => .error .stuck
noncomputable def rowAt (rs : List Dat) (a : Int) : M (Nat × List Dat) := match ixN rs.length a with
  | some j => (match rs[j]? with
    | some (.lst es) => .ok (j, es)
    | _ => .error .stuck)
  | none => .error .stuck
noncomputable def lE (rs : List Dat) (je : Nat × List Dat) (b : Int) (x : Dat) : M (List Dat) := match ixN je.2.length b with
  | some k => .ok (rs.set je.1 (.lst (je.2.set k x)))
  | none => .error .stuck
noncomputable def xn (i : Nat) (rs : List Dat) (x : Dat) (je : Nat × List Dat) (fB : ag -> M Dat) (ρ : ag) : M Flo := (fB (ρ.set i none)).bind fun b => (asI b).bind fun b => (lE rs je b x).bind fun rs' => .ok (.nx (ρ.set i (some (.lst rs'))))
noncomputable def tF (i : Nat) (rs : List Dat) (x : Dat) (fA fB : ag -> M Dat) (ρ : ag) : M Flo := (fA (ρ.set i none)).bind fun a => (asI a).bind fun a => (rowAt rs a).bind fun je => xn i rs x je fB ρ
noncomputable def BI (i : Nat) (rs : List Dat) (fx fA fB : ag -> M Dat) (ρ : ag) : M Flo := (fx (ρ.set i none)).bind fun x => tF i rs x fA fB ρ
noncomputable def za (i : Nat) (fc fx fA fB : ag -> M Dat) : ag -> M Flo := fun ρ => (fc ρ).bind fun d => (lstOf d).bind fun rs => BI i rs fx fA fB ρ
noncomputable def pN (g : ag -> M Flo) (m : M Flo) : M Flo := m.bind fun fl => match fl with
  | .nx ρ' => g ρ'
  | fl => .ok fl
theorem dg {g : ag -> M Flo} {m : M Flo} {e : Err} (h : m = .error e) : pN g m = .error e := by rw [h]; rfl
section
variable {K : PySem.W.Frag} {W : gH} {ro : Bool} {F0 H0 : Hp} {OL O' : List Nat} {D : Ends} {σ : St} {H : Hp} {g : ag -> M Flo}
theorem rs_rows {i : Nat} {fi : ag -> M (List Dat)} {ix : List (Option Nat)} {p : Pat} {ft : ag -> M Bool} {fe fx fA fB : ag -> M Dat} (hL : ∀ ρ d, fe ρ = .ok d -> ∃ es, d = .lst es) (hi : i < σ.length) (t : tS K W ro F0 H0 OL [] O' (cB (za i (fg fi ix p ft fe) fx fA fB) g) D σ H) :
    tSeq (uR i (iD K W fi) ix (gP K p) (tDT K W ft) (tD K W true fe)) (tSeq (tAsg (tD K W false fx) (gSub (tOp (rIx K) (By i) (tD K W false fA)) (tD K W false fB) AY)) (tS K W ro F0 H0 OL [] O' g)) D σ H := by
  obtain ⟨FB, F, ρ, r, q⟩ := t
  have rE := r.repE
  have q0 : fE K W ro F0 H0 FB OL O' D (pN g (za i (fg fi ix p ft fe) fx fA fB ρ)) := q
  refine Ah rE r.st.fh hL (fun e he => q0.ml r.st (dg (by unfold za; rw [he]; rfl))) fun rs hrs ys F2 H2 s2 ow a ha => ?_
  have q1 : fE K W ro F0 H0 FB OL O' D (pN g (BI i rs fx fA fB ρ)) := by
    unfold za at q0
    rw [hrs] at q0
    exact q0
  have r2 : qf K F2 (σ.set i (some (.ref a))) (ρ.set i none) := ⟨by rw [List.length_set, List.length_set, r.len], fun j d e => by
    by_cases hij : i = j
    · subst hij
      rw [List.getElem?_set_self (by rw [r.len]; exact hi)] at e
      cases e
    · rw [List.getElem?_set_ne hij] at e
      obtain ⟨v, h1, h2⟩ := rE.sl j d e
      exact ⟨v, by rw [List.getElem?_set_ne hij]; exact h1, h2.mono s2.ff⟩⟩
  have sg : Step F2 H2 F2 (upd H2 a (.lst ys)) := Step.grow s2.fh ha
  have st2 := s2.trans sg
  refine bx r2 sg.fh (fun e he => q1.ml (r.st.trans st2) (dg (by unfold BI; rw [he]; rfl))) fun x hx v F3 H3 s3 qx => ?_
  have q2 : fE K W ro F0 H0 FB OL O' D (pN g (tF i rs x fA fB ρ)) := by
    unfold BI at q1
    rw [hx] at q1
    exact q1
  refine ⟨.ref a, by rw [List.getElem?_set_self hi], ?_⟩
  refine bx (r2.mono s3.ff) s3.fh (fun e he => q2.ml (r.st.trans (st2.trans s3)) (dg (by unfold tF; rw [he]; rfl))) fun da hda va F4 H4 s4 qa => ?_
  cases da with
  | int ka =>
    have q3 : fE K W ro F0 H0 FB OL O' D (pN g ((rowAt rs ka).bind fun je => xn i rs x je fB ρ)) := by
      unfold tF at q2
      rw [hda] at q2
      exact q2
    have h3a : H3 a = some (.lst ys) := s3.hh _ _ aE
    have h4a := s4.hh _ _ h3a
    have ow4 := ((ow.step sg).step s3).step s4
    have s4' := st2.trans (s3.trans s4)
    cases hj : ixN rs.length ka with
    | none => exact q3.stuck (dg (by unfold rowAt; rw [hj]; rfl))
    | some j =>
      have hjl := (sy hj).2.1
      obtain ⟨b, xs, es, g1, g2, g3, g4, g5, g6⟩ := ow4.get j rs[j] (by simp [hjl])
      have erj : rs[j]? = some (.lst es) := by rw [<- g2]; simp [hjl]
      have q4 : fE K W ro F0 H0 FB OL O' D (pN g (xn i rs x (j, es) fB ρ)) := by
        unfold rowAt at q3
        rw [hj] at q3
        have q3 : fE K W ro F0 H0 FB OL O' D (pN g (((match rs[j]? with
          | some (.lst es) => .ok (j, es)
          | _ => .error .stuck) : M (Nat × List Dat)).bind fun je => xn i rs x je fB ρ)) := q3
        rw [erj] at q3
        exact q3
      refine .inl ⟨a, ys, ka, .ref b, rfl, qa, SqL.of h4a, ?_, ?_⟩
      · unfold atI
        rw [ow.len, hj]
        exact g1
      refine bx (r2.mono (s3.trans s4).ff) s4.fh (fun e he => q4.ml (r.st.trans s4') (dg (by unfold xn; rw [he]; rfl))) fun db hdb vb F5 H5 s5 qb => ?_
      cases db with
      | int kb =>
        have q5 : fE K W ro F0 H0 FB OL O' D (pN g ((lE rs (j, es) kb x).bind fun rs' => .ok (.nx (ρ.set i (some (.lst rs')))))) := by
          unfold xn at q4
          rw [hdb] at q4
          exact q4
        cases hk : ixN es.length kb with
        | none => exact q5.stuck (dg (by unfold lE; rw [show ((j, es) : Nat × List Dat).2 = es from rfl, hk]; rfl))
        | some k =>
          have q6 : fE K W ro F0 H0 FB OL O' D (g (ρ.set i (some (.lst (rs.set j (.lst (es.set k x))))))) := by
            unfold lE at q5
            rw [show ((j, es) : Nat × List Dat).2 = es from rfl, hk] at q5
            exact q5
          have h5a := s5.hh _ _ h4a
          have h5b := s5.hh _ _ g3
          have ow5 := ow4.step s5
          have st : Step F H F5 H5 := s4'.trans s5
          refine ⟨b, xs, kb, k, rfl, qb, h5b, by rw [g6.length]; exact hk, ?_⟩
          have ma : H a = none := s2.hh.free ha
          have fa2 : F2 a = none := s2.fh.free ha
          have f5a : F5 a = none := (s3.trans (s4.trans s5)).stays fa2 (aE (H := H2) (a := a) (o := .lst ys))
          have nab : a ≠ b := fun z => by
            obtain ⟨_, _, _, w, _⟩ := ow.at (k := j) (a := b) g1
            rw [<- z, ha] at w
            cases w
          have inA : ∀ c, (c = a \/ ∃ m : Nat, ys[m]? = some (.ref c)) -> F5 c = none /\ H c = none := fun c h => by
            rcases h with z | ⟨m, z⟩
            · rw [z]; exact ⟨f5a, ma⟩
            · obtain ⟨_, _, _, _, z1, z2, _⟩ := ow5.at z
              exact ⟨z1, z2⟩
          have Ab : b = a \/ ∃ m : Nat, ys[m]? = some (.ref b) := .inr ⟨j, g1⟩
          have ff : bg F5 (plus F5 (upd H5 b (.lst (xs.set k v))) fun c => c = a \/ ∃ m : Nat, ys[m]? = some (.ref c)) := fun c o h => by
            by_cases hc : c = a \/ ∃ m : Nat, ys[m]? = some (.ref c)
            · rw [(inA c hc).1] at h; cases h
            · rw [dY hc]; exact h
          have fh : bg (plus F5 (upd H5 b (.lst (xs.set k v))) fun c => c = a \/ ∃ m : Nat, ys[m]? = some (.ref c)) (upd H5 b (.lst (xs.set k v))) := fun c o h => by
            by_cases hc : c = a \/ ∃ m : Nat, ys[m]? = some (.ref c)
            · rw [jt hc] at h; exact h
            · rw [dY hc] at h
              have : c ≠ b := fun z => hc (by rw [z]; exact Ab)
              rw [av this]
              exact s5.fh c o h
          have mono3 : bg F3 (plus F5 (upd H5 b (.lst (xs.set k v))) fun c => c = a \/ ∃ m : Nat, ys[m]? = some (.ref c)) := (s4.trans s5).ff.trans ff
          have mono4 : bg F4 (plus F5 (upd H5 b (.lst (xs.set k v))) fun c => c = a \/ ∃ m : Nat, ys[m]? = some (.ref c)) := s5.ff.trans ff
          refine ⟨FB, plus F5 (upd H5 b (.lst (xs.set k v))) (fun c => c = a \/ ∃ m : Nat, ys[m]? = some (.ref c)), ρ.set i (some (.lst (rs.set j (.lst (es.set k x))))), ?_, q6⟩
          have stt := r.st.trans st
          refine ⟨⟨stt.ff.trans ff, fun c o h => ?_, fh, fun c o h => ?_⟩, r.fb.trans (st.ff.trans ff), by rw [List.length_set, List.length_set, r.len], fun m d e _ => ?_, (fun m d e h => nomatch h), (fun m n d1 d2 c h => nomatch h)⟩
          · have : c ≠ b := fun z => by
              rw [z] at h
              have := r.st.hh _ _ h
              rw [(inA b Ab).2] at this
              cases this
            rw [av this]
            exact stt.hh c o h
          · by_cases hc : c = a \/ ∃ m : Nat, ys[m]? = some (.ref c)
            · exact .inr (r.st.hh.free (inA c hc).2)
            · rw [dY hc] at h
              exact stt.nw c o h
          · by_cases him : i = m
            · subst him
              rw [List.getElem?_set_self (by rw [r.len]; exact hi)] at e
              cases e
              refine ⟨.ref a, by rw [List.getElem?_set_self hi], a, ys, rfl, SqL.of ?_, ?_⟩
              · rw [jt (.inl rfl), av nab]
                exact h5a
              · refine au.of_get (by rw [List.length_set]; exact ow.len) fun m d u e1 e2 => ?_
                by_cases hjm : j = m
                · subst hjm
                  rw [List.getElem?_set_self hjl] at e1
                  cases e1
                  rw [g1] at e2
                  cases e2
                  exact ⟨b, xs.set k v, rfl, SqL.of (by rw [jt Ab, aE]), au.set (cI.mono mono3 qx) k (g6.mono mono4)⟩
                · rw [List.getElem?_set_ne hjm] at e1
                  obtain ⟨c, ws, fs, k1, k2, k3, k4, k5, k6⟩ := ow5.get m d e1
                  rw [k1] at e2
                  cases e2
                  subst k2
                  have ncb : c ≠ b := fun z => hjm (ow5.ap j m b g1 (by rw [<- z]; exact k1))
                  exact ⟨c, ws, rfl, SqL.of (by rw [jt (.inr ⟨m, k1⟩), av ncb]; exact k3), k6.mono ff⟩
            · rw [List.getElem?_set_ne him] at e
              obtain ⟨u, h1, h2⟩ := rE.sl m d e
              exact ⟨u, by rw [List.getElem?_set_ne him]; exact h1, h2.mono (st.ff.trans ff)⟩
      | _ => exact q4.stuck (dg (by unfold xn; rw [hdb]; rfl))
  | _ => exact q2.stuck (dg (by unfold tF; rw [hda]; rfl))
end
theorem Ce {fr : ag -> M (List Dat)} : ∀ ρ d, fL pB fr ρ = .ok d -> ∃ es, d = .lst es := fun ρ d h => by
  unfold fL at h
  cases e : fr ρ with
  | error x => rw [e] at h; cases h
  | ok ds =>
    rw [e] at h
    have h : pB ds = .ok d := h
    unfold pB at h
    split at h
    all_goals first
      | (cases h; done)
      | (split at h <;> first | (cases h; done) | (cases h; exact ⟨_, rfl⟩))
      | (cases h; exact ⟨_, rfl⟩)
section
variable {X : Cx} {K : PySem.W.Frag} {W : gH} {ro : Bool} {OL O' : List Nat} {x : Str} {sc : Scope} {tg elt iter ex ea eb : Expr} {ifs : List Expr} {fi : ag -> M (List Dat)} {pt : Pat} {ft : ag -> M Bool} {fe fx fA fB : ag -> M Dat} {pos spos py p1 p2 p3 p4 : Pos} {sts : List Stmt} {g : ag -> M Flo}
theorem ds_rows {i : Nat} (N' : List Str) (ix : List (Option Nat)) (hN : X.N.Nodup) (hi : DI K W X tg iter fi) (hg : ∀ L cs s H fp, DG K (aY X N' sc L cs s H fp) tg pt) (hl : qe ix (gP K pt))
    (ht : ∀ L cs s H fp, PTs (aY X N' sc L cs s H fp) ifs (tDT K W ft)) (he : ∀ L cs s H fp, DE K W true (aY X N' sc L cs s H fp) elt fe) (hL : ∀ ρ d, fe ρ = .ok d -> ∃ es, d = .lst es)
    (hx : DE K W false X ex fx) (hA : DE K W false X ea fA) (hB : DE K W false X eb fB) (hr : DSs K W ro X OL [] O' sts g)
    (hj : X.N[i]? = some x := by rfl) (hy : X.env.scope.names.lookup x = some .local := by rfl) (hc : X.calm = true := by rfl) (hK : X.K = K := by rfl)
    (hsw : swapsWith (.ListComp elt [⟨tg, iter, ifs, 0⟩] sc pos) (some (.Name x py)) spos.line X.env = pure true := by rfl)
    (ok : bG X.N X.env.scope N' sc ix = true := by rfl) (hk : sc.kind = .function := by rfl) (hs : ∀ x, foldedSetIterable iter X.env x = pure x := by intro _; rfl)
    (hv : Vis X.env.scope x := by first | exact Or.inl rfl | exact Or.inr (Or.inl rfl) | exact Or.inr (Or.inr rfl)) (hd : (x == ("__debug__" : Str)) = false := by decide) (hcd : (x == ("__classdict__" : Str)) = false := by decide) (hpl : wN ea := by exact fun _ _ => rfl)
    (ha : ∀ v, assign (.Subscript (.Subscript (.Name x p1) ea p2) eb p3) X.env v = (do
      let ov <- holding [v] (eval (.Subscript (.Name x p1) ea p2) X.env)
      let iv <- holding [v, ov] (eval eb X.env)
      standAt p3
      holding [v, ov, iv] (setItem ov iv v)
      release [v, ov, iv] []) := by intro _; rfl) (hs1 : swapsWithSole [.Subscript (.Subscript (.Name x p1) ea p2) eb p3] ex p4.line X.env = pure false := by rfl) (hw : swappedStores [.Subscript (.Subscript (.Name x p1) ea p2) eb p3] ex X.env = pure none := by rfl)
    (h1 : (assignEach [.Subscript (.Subscript (.Name x p1) ea p2) eb p3] X.env).map (·.2) = [assign (.Subscript (.Subscript (.Name x p1) ea p2) eb p3) X.env] := by rfl) :
    DSs K W ro X OL [] O' (.Assign [.Name x py] (.ListComp elt [⟨tg, iter, ifs, 0⟩] sc pos) spos :: .Assign [.Subscript (.Subscript (.Name x p1) ea p2) eb p3] ex p4 :: sts) (cB (za i (fg fi ix pt ft fe) fx fA fB) g) := by
  subst hK
  intro F0 H0 pins s σ H D I z
  have hil : i < σ.length := by
    rw [I.len]
    exact (List.getElem?_eq_some_iff.mp hj).1
  refine kn (mY N' ix hN hj hy hc hi hg hl ht he hsw ok hk hs) (kn (Ak hx (BQ (pe_ix Cj (pv i hj hv hd hcd) hA hpl) hB set_list ha) hs1 hw h1) (hr F0 H0)) pins s σ H D I ?_
  exact rs_rows hL hil z
end
end L2
namespace L2
open PySem PySem.Spec PyProof.Rows
section
variable {prog : Program} {w : World} {A : Around} {E : Value -> Shared -> Prop} {s : Shared}
theorem B1 {q a : Addr} {i : Nat} {xs : Array Value} {v : Value} {Q : Value -> Shared -> Prop} (st : s.heap.IsTupleIter q a i) (ht : s.heap.IsTuple a xs) (hv : xs[i]? = some v) (k : ∀ h', h'.IsTupleIter q a (i + 1) -> Heap.SameBut q s.heap h' -> Q v { s with heap := h' }) : wpAny (model prog w) A (Builtin.SmallTypes.nextOf (.ref q)) Q E s := by
  obtain ⟨oq, e1, e2, e3⟩ := id st
  obtain ⟨oa, f1, _, n0, f3⟩ := ht
  have ty := st.typeIs; unfold Builtin.SmallTypes.nextOf
  refine wpAny_bind (wpAny_callSpecial?_slot (name := Str.ofString "__next__") ty PySem.F.slot_tuple_iterator_next (wpAny_call_entry PySem.F.slot_tuple_iterator_next ty PySem.F.entry_tuple_iterator_next ?_ (PySem.F.args_tuple_iterator_next_1 _)))
  show wpAny _ _ (field (.ref q) 0 >>= _) _ _ s
  refine wpAny_bind (wpAny_field e1 e3 (x := .ref a) rfl ?_)
  show wpAny _ _ (if (Value.ref a == Value.none) = true then _ else _) _ _ s
  rw [if_neg (show ¬ ((Value.ref a == Value.none) = true) from Bool.false_ne_true)]; show wpAny _ _ (field (.ref q) 1 >>= _) _ _ s
  refine wpAny_bind (wpAny_field e1 e3 (x := .int i 0) rfl ?_)
  show wpAny _ _ (seqItems? (.ref a) >>= _) _ _ s
  refine wpAny_bind (wpAny_seqItems f1 f3 ?_)
  simp only [Int.toNat_natCast, hv]; refine wpAny_bind (wpAny_setField e1 e3 (by simp) (wpAny_pure ⟨v, rfl, wpAny_pure (k _ ?_ (Heap.SameBut.update ..))⟩))
  exact ⟨_, Heap.get?_update_self _ e1 (Obj.isFreed_of_fields (Obj.data_mapFields e3 _)), (Obj.cls_mapFields ..).trans e2, by rw [Obj.data_mapFields e3]; simp [rawInt]⟩
theorem C6 {q a : Addr} {i : Nat} {xs : Array Value} {Q : Value -> Shared -> Prop} (hh : A.handled = none) (st : s.heap.IsTupleIter q a i) (ht : s.heap.IsTuple a xs) (hv : xs[i]? = none)
    (k : ∀ h' e, Heap.ExtBut q s.heap h' -> (∃ o, h'.get? e = some o /\ o.cls = .type "StopIteration") -> E (.ref e) { s with heap := h' }) : wpAny (model prog w) A (Builtin.SmallTypes.nextOf (.ref q)) Q E s := by
  obtain ⟨oq, e1, e2, e3⟩ := id st
  obtain ⟨oa, f1, _, n0, f3⟩ := ht
  have ty := st.typeIs; unfold Builtin.SmallTypes.nextOf
  refine wpAny_bind (wpAny_callSpecial?_slot (name := Str.ofString "__next__") ty PySem.F.slot_tuple_iterator_next (wpAny_call_entry PySem.F.slot_tuple_iterator_next ty PySem.F.entry_tuple_iterator_next ?_ (PySem.F.args_tuple_iterator_next_1 _)))
  show wpAny _ _ (field (.ref q) 0 >>= _) _ _ s
  refine wpAny_bind (wpAny_field e1 e3 (x := .ref a) rfl ?_)
  show wpAny _ _ (if (Value.ref a == Value.none) = true then _ else _) _ _ s
  rw [if_neg (show ¬ ((Value.ref a == Value.none) = true) from Bool.false_ne_true)]; show wpAny _ _ (field (.ref q) 1 >>= _) _ _ s
  refine wpAny_bind (wpAny_field e1 e3 (x := .int i 0) rfl ?_)
  show wpAny _ _ (seqItems? (.ref a) >>= _) _ _ s
  refine wpAny_bind (wpAny_seqItems f1 f3 ?_)
  simp only [Int.toNat_natCast, hv]; refine wpAny_bind (wpAny_rule (wpAny_bind (wpAny_setField e1 e3 (by simp) (wpAny_bind ?_))))
  simp only [newExc, newTuple]
  refine wpAny_bind (wpAny_newObj_type ?_ (by size_fits)); refine wpAny_bind (m := firstArgMember _ _) (wpAny_of_eq (a := Value.none) (by first | rfl | (simp only [firstArgMember]; rfl)) ?_)
  refine wpAny_newObj_type ?_ (by size_fits); simp only [raiseNew]
  refine wpAny_bind (wpAny_handled ?_); first | rw [show A.in1.handled = none from hh] | rw [hh]
  exact wpAny_bind (wpAny_pure (wpAny_throw (k _ _ (((Heap.SameBut.update ..).extBut.push _).push _) ⟨_, Heap.get?_push_size _ rfl, rfl⟩)))
end
theorem yn {prog : Program} {w : World} {A : Around} (hh : A.handled = none) (q a : Addr) (hne : a ≠ q) (xs : Array Value) : Draws prog w A q [q, a] xs.size (fun i v => xs[i]? = some v) (fun i h => h.IsTupleIter q a i /\ h.IsTuple a xs) where
  live := fun _ _ st => let ⟨o, e, _⟩ := st.1; ⟨o, e⟩
  frame := fun _ _ _ st k => ⟨st.1.at fun o e => k q (by simp) o e, let ⟨o, e, r⟩ := st.2; ⟨o, k a (by simp) o e, r⟩⟩
  item := fun i s Q E hi st k => B1 st.1 st.2 (v := xs[i]) (by simp [hi]) fun h' z1 z2 => k _ h' s.toks (by simp [hi]) ⟨z1, let ⟨o, e, r⟩ := st.2; ⟨o, z2.extBut a o hne e, r⟩⟩ z2
  done := fun s Q E st k => C6 hh st.1 st.2 (by simp) k
section
theorem CF (a : Addr) (xs : Array Value) (n : Nat) (dd : Option Addr) (sl : Array (Option Value)) : Meets (Builtin.«enumerate.__new__» ⟨[.type "enumerate", .ref a], []⟩) (fun _ R s => s.heap.get? a = some { cls := .type "tuple", dict := dd, data := .seq xs n, slots := sl } /\ R (.ok (.ret (.ref (s.heap.push { cls := .type "tuple_iterator", data := .fields #[.ref a, .int 0 0] }).objs.size))) { s with heap := (s.heap.push { cls := .type "tuple_iterator", data := .fields #[.ref a, .int 0 0] }).push { cls := .type "enumerate", data := .fields #[.none, .bool false, .ref s.heap.objs.size, rawInt 0, .none, .none] } }) :=
  .of_wp fun prog w A R s h => by
    obtain ⟨hp, g, d, tk, os⟩ := s; obtain ⟨ea, h⟩ := h
    have hsub := sub_enumerate
    have hT : Heap.IsTuple (Shared.heap ⟨hp, g, d, tk, os⟩) a xs := ⟨_, ea, rfl, n, rfl⟩
    wp_walk using AutoSeq1.wpAny_loadPart' ea
    refine wpAny_stack_any fun z => wpAny_pure ?_
    split
    · rename_i c _ _ _ _ _
      cases (c == Value.type "enumerate") <;> (wp_walk using AutoSeq1.wpAny_loadPart' ea, wpAny_pyIter_tuple hT; exact ⟨_, rfl, h⟩)
    · wp_walk using AutoSeq1.wpAny_loadPart' ea, wpAny_pyIter_tuple hT
      exact ⟨_, rfl, h⟩
end
section
variable {prog : Program} {w : World} {A : Around} {E : Value -> Shared -> Prop} {s : Shared}
theorem Bl {a : Addr} {xs : Array Value} {Q : Value -> Shared -> Prop} (ht : s.heap.IsTuple a xs)
    (k : ∀ h', IsEnum h' (s.heap.objs.size + 1) s.heap.objs.size 0 .none -> h'.IsTupleIter s.heap.objs.size a 0 -> h'.objs.size = s.heap.objs.size + 2 -> (∀ b o, s.heap.get? b = some o -> h'.get? b = some o) -> Q (.ref (s.heap.objs.size + 1)) { s with heap := h' }) : wpAny (model prog w) A (call (.type "enumerate") [.ref a]) Q E s := by
  obtain ⟨⟨c, dd, dt, sl⟩, e1, e2, n, e3⟩ := ht
  have e2 : c = .type "tuple" := e2
  have e3 : dt = .seq xs n := e3
  subst e2 e3
  refine callType_new PySem.F.called_enumerate (by decide) (PySem.F.typeCall_enumerate_1 _) (PySem.F.newCall_enumerate_1 _) (fun obj => PySem.F.args_object_init_2 obj _) PySem.F.entry_enumerate_new (CF a xs n dd sl) ⟨e1, ?_⟩
  have hz : (s.heap.push { cls := .type "tuple_iterator", data := .fields #[.ref a, .int 0 0] }).objs.size = s.heap.objs.size + 1 := Heap.size_push ..
  show _ /\ _
  rw [hz]
  have he : IsEnum ((s.heap.push { cls := .type "tuple_iterator", data := .fields #[.ref a, .int 0 0] }).push { cls := .type "enumerate", data := .fields #[.none, .bool false, .ref s.heap.objs.size, rawInt 0, .none, .none] }) (s.heap.objs.size + 1) s.heap.objs.size 0 .none := by
    have z := Heap.get?_push_size (s.heap.push { cls := .type "tuple_iterator", data := .fields #[.ref a, .int 0 0] }) (o := { cls := .type "enumerate", data := .fields #[.none, .bool false, .ref s.heap.objs.size, rawInt 0, .none, .none] }) rfl
    rw [hz] at z; exact z
  exact ⟨⟨_, he, rfl⟩, k _ he ⟨_, Heap.get?_push_of_some _ (Heap.get?_push_size _ rfl), rfl, rfl⟩ (by rw [Heap.size_push, hz]) fun b o z => Heap.get?_push_of_some _ (Heap.get?_push_of_some _ z)⟩
end
noncomputable def IteT (K : PySem.W.Frag) (a : Addr) : It :=
  ⟨fun i H => ∃ xs x, SqT K H a xs /\ xs[i]? = some x, fun i H x H' => ∃ T y, H T = none /\ x = .ref T /\ H' = upd H T (.tup [.int i, y]) /\ ∀ xs, SqT K H a xs -> xs[i]? = some y, fun i H => ∃ xs, SqT K H a xs /\ xs.length = i⟩
theorem AO {P : Program} {w : World} {K : PySem.W.Frag} {elts : List Expr} {k : Nat} {pos : Pos} (a e it : Addr) (hei : e ≠ it) : Turn P w K (.Tuple elts k pos) (IteT K a) [e, it] e (fun i h => (∃ old, IsEnum h e it i old) /\ h.IsTupleIter it a i) where
  mem := by simp
  obj := fun i h st b hb => by
    obtain ⟨⟨old, he⟩, o, e1, c, d⟩ := st
    rcases List.mem_cons.mp hb with z0 | hb
    · subst z0; exact ⟨_, he, fun v z => by cases z⟩
    · have : b = it := by simpa using hb
      subst this
      exact ⟨o, e1, fun v z => by rw [d] at z; cases z⟩
  keep := fun i h h' st kk => by
    obtain ⟨⟨old, he⟩, hit⟩ := st
    exact ⟨⟨old, kk e (by simp) _ he⟩, hit.at fun o x => kk it (by simp) o x⟩
  item := by
    intro X hP hw hK hc i pins s σ H E I hf st hg
    subst hP hw hK
    obtain ⟨⟨old, he⟩, hit⟩ := st
    obtain ⟨xs, x, hq, hx⟩ := hg
    obtain ⟨its, rv, p, hz⟩ := I.tuple hq
    obtain ⟨u, hu, ru⟩ := rv.get hx
    have pT : s.heap.IsTuple a its.toArray := p
    have nai : a ≠ it := fun z => by
      obtain ⟨o1, c1, c2, _⟩ := pT
      obtain ⟨o2, c3, c4, _⟩ := hit
      rw [z, c3] at c1
      cases c1
      rw [c4] at c2
      exact absurd c2 (by decide)
    have nea : e ≠ a := fun z => by
      obtain ⟨o1, c1, c2, _⟩ := pT
      have he' : s.heap.get? e = _ := he
      rw [z, c1] at he'
      cases he'
      exact absurd c2 (by simp)
    have hlt : i < its.toArray.size := by
      have := (List.getElem?_eq_some_iff.mp hu).1
      simpa using this
    refine wpAny_pyNext_enum_itemD (yn (A := X.A.in1) (show X.A.in1.handled = none from I.ok.hd hc) it a nai its.toArray) he ⟨hit, pT⟩ hlt hei (by simp [hei, nea]) fun v h1 tk hv ho hst1 hT hsz hk => ?_
    have hvu : v = u := by
      have hv : its.toArray[i]? = some v := hv
      rw [show its.toArray[i]? = its[i]? by simp, hu] at hv
      exact (Option.some.inj hv).symm
    subst hvu
    refine ⟨_, rfl, wpAny_letOwnedTupleGo_enum ho fun h2 he2 hs2 => ?_⟩
    have hlt2 : e < s.heap.objs.size := Heap.lt_size he
    have hTe : s.heap.objs.size ≠ e := Nat.ne_of_gt hlt2
    have I1 : Inv X pins σ (upd H s.heap.objs.size (.tup [.int i, x])) { s with heap := h2, toks := tk + 1 } := I.yU (ch := [e, it]) hf (fun b o hb q => by
        have h3 := hk b o (fun z => hb (by simp [z])) (fun z => hb (by simp [z])) q
        exact (hs2.2 b (fun z => hb (by simp [z]))).trans h3) (Nat.le_refl _) ⟨by show 2 <= sizeLine; decide, [.int i tk, v], .cons ⟨_, rfl⟩ (.cons ru .nil), ⟨_, (hs2.2 _ hTe).trans hT, rfl, 0, rfl⟩⟩
    refine ⟨.ref s.heap.objs.size, _, I1, rfl, ⟨s.heap.objs.size, x, I.hok.fresh (Nat.le_refl _), rfl, rfl, fun ys hy => by rw [I.wZ hy hq]; exact hx⟩, ⟨⟨v, by simpa using he2⟩, hst1.1.at fun o y => (hs2.2 it hei.symm).trans y⟩, fun b hb => ?_⟩
    have hbn := (hf b hb).1
    have : b ≠ s.heap.objs.size := by
      rcases List.mem_cons.mp hb with z0 | hb
      · subst z0; exact hTe.symm
      · have : b = it := by simpa using hb
        subst this
        obtain ⟨o, e1, _⟩ := hit
        exact Nat.ne_of_lt (Heap.lt_size e1)
    rw [av this]
    exact hbn
  done := by
    intro X hP hw hK hc i pins s σ H E I hf st hg
    subst hP hw hK
    obtain ⟨⟨old, he⟩, hit⟩ := st
    obtain ⟨xs, hq, hx⟩ := hg
    obtain ⟨its, rv, p, hz⟩ := I.tuple hq
    have hl := rv.length
    have pT : s.heap.IsTuple a its.toArray := p
    have nai : a ≠ it := fun z => by
      obtain ⟨o1, c1, c2, _⟩ := pT
      obtain ⟨o2, c3, c4, _⟩ := hit
      rw [z, c3] at c1
      cases c1
      rw [c4] at c2
      exact absurd c2 (by decide)
    have hn : i = its.toArray.size := by simp; omega
    rw [hn] at hit
    exact wpAny_pyNext_enum_endD (yn (A := X.A.in1) (show X.A.in1.handled = none from I.ok.hd hc) it a nai its.toArray) he ⟨hit, pT⟩ fun h2 eb => ⟨rfl, I.yV (t' := s.toks) (ch := [e, it]) hf fun b o hb q => eb b o (fun z => hb (by simp [z])) q⟩
  self := fun _ _ _ _ _ st h => by
    obtain ⟨⟨old, he⟩, _⟩ := st
    exact wpAny_pyIter_enum he h
theorem B8 {K : PySem.W.Frag} {F : Hp} {a : Addr} {xs : List V} {ds : List Dat} (t : SqT K F a xs) (z : au K F ds xs) : yR K F (IteT K a) (kI 0 ds) where
  go := fun i F' H' s1 s2 hi => ⟨xs, xs[i]'(by rw [z.length]; rw [iR] at hi; exact hi), s2.tup (s1.tup t), by rw [iR] at hi; simp [z.length, hi]⟩
  yl := fun i F' H' x H2 d s1 s2 hd hy => by
    obtain ⟨T, y, hT, ex, eH, hy⟩ := hy
    subst ex eH
    rw [sI] at hd
    cases hds : ds[i]? with
    | none => rw [hds] at hd; cases hd
    | some d' =>
      rw [hds] at hd
      simp at hd
      subst hd
      obtain ⟨v, e1, q⟩ := z.get hds
      have e2 := hy xs (s2.tup (s1.tup t))
      rw [e1] at e2
      cases e2
      refine ⟨upd F' T (.tup [.int i, y]), Step.lay s2 hT, T, _, rfl, SqT.of aE, ?_⟩
      exact ⟨.int i, [y], rfl, rfl, y, [], rfl, (q.mono s1).mono (bg.upd (s2.free hT)), rfl⟩
  st := fun F' H' s1 s2 => ⟨xs, s2.tup (s1.tup t), by rw [z.length, iR]⟩
noncomputable def pK (fa : ag -> M Dat) : ag -> M (List Dat) := fun ρ => (fa ρ).bind fun d => (qP d).bind fun ds => .ok (kI 0 ds)
@[simp] theorem e_enum2 {fa : ag -> M Dat} {ρ : ag} : pK fa ρ = (fa ρ).bind fun d => (qP d).bind fun ds => .ok (kI 0 ds) := id rfl
section
variable {X : Cx} {K : PySem.W.Frag} {W : gH} {a : Expr} {pos p : Pos} {fa : ag -> M Dat}
noncomputable def iEnum2 (K : PySem.W.Frag) (tl : TE) : TI := fun σ H R => tl σ H fun x H1 => ∃ a, x = .ref a /\ ((∃ xs, SqL K H1 a xs) /\ R (Ite K a) H1 \/ (∃ xs, SqT K H1 a xs) /\ R (IteT K a) H1)
theorem pi_enum2 {elts : List Expr} {k : Nat} {q : Pos} {tl : TE} (hg : Gl X "enumerate") (hm : X.mg "enumerate" = none) (hl : PE X a tl) (hs : starEach [a] X.env = [(false, eval a X.env)] := by rfl) :
    PI X (.Tuple elts k q) (.Call (.Name "enumerate" p) [a] [] pos) (iEnum2 X.K tl) := by
  intro pins s σ H R I h
  have ha : PA X [a] (tf tl tNil) := dj hl jf hs
  refine Call_ (sm I hg hm boot_enumerate (PyProof.Rows.callWith_type1 (thn (ha pos pins s σ H (fun vs H1 => match vs with
    | [x] => ∃ a, x = .ref a /\ ((∃ xs, SqL X.K H1 a xs) /\ R (Ite X.K a) H1 \/ (∃ xs, SqT X.K H1 a xs) /\ R (IteT X.K a) H1)
    | _ => False) I h) fun us s1 ⟨vs, H1, I1, r1, q1⟩ => ?_) hs rfl))
  match vs, r1, q1 with
  | [x], r1, ⟨l, e1, q⟩ =>
    subst e1
    obtain ⟨u, rfl, ru⟩ := r1.one
    cases ru
    have fpo : ∀ b ∈ [s1.heap.objs.size + 1, s1.heap.objs.size], Bs X pins H1 b := fun b hb => by
      have hb2 : s1.heap.objs.size <= b := by
        rcases List.mem_cons.mp hb with z0 | hb
        · subst z0; exact Nat.le_succ _
        · have : b = s1.heap.objs.size := by simpa using hb
          exact Nat.le_of_eq this.symm
      exact I1.fpOk hb2 (I1.hok.fresh hb2)
    rcases q with ⟨⟨xs, hq⟩, q⟩ | ⟨⟨xs, hq⟩, q⟩
    · obtain ⟨its, rv, pl, hz⟩ := I1.list hq
      refine call_enumerate_list pl.isList fun h2 he hit hsz hk => ?_
      have I2 : Inv X pins σ H1 { s1 with heap := h2 } := I1.kept (t' := s1.toks) hk
      refine wpAny_pyIter_enum he ?_; exact ⟨s1.heap.objs.size + 1, [s1.heap.objs.size + 1, s1.heap.objs.size], _, _, H1, rfl, I2, Bx l _ _ (Nat.succ_ne_self _), ⟨⟨_, he⟩, hit⟩, fpo, q⟩
    · obtain ⟨its, rv, pl, hz⟩ := I1.tuple hq
      refine Bl (show s1.heap.IsTuple l its.toArray from pl) fun h2 he hit hsz hk => ?_
      have I2 : Inv X pins σ H1 { s1 with heap := h2 } := I1.kept (t' := s1.toks) hk
      refine wpAny_pyIter_enum he ?_; exact ⟨s1.heap.objs.size + 1, [s1.heap.objs.size + 1, s1.heap.objs.size], _, _, H1, rfl, I2, AO l _ _ (Nat.succ_ne_self _), ⟨⟨_, he⟩, hit⟩, fpo, q⟩
theorem ri_enum2 {σ : St} {H : Hp} {R : It -> Hp -> Prop} (h : iD K W (pK fa) σ H R) : iEnum2 K (tD K W false fa) σ H R := by
  obtain ⟨F, ρ, r, s, p⟩ := h
  refine bx r s (fun e he => ?_) fun d hd v F1 H1 s1 q1 => ?_
  · have z : pK fa ρ = .error e := by unfold pK; rw [he]; rfl
    rw [z] at p; exact p
  · have z : pK fa ρ = (qP d).bind fun ds => .ok (kI 0 ds) := by unfold pK; rw [hd]; rfl
    rw [z] at p
    cases d with
    | lst ds =>
      obtain ⟨b, xs, e, t, z⟩ := q1
      exact ⟨b, e, .inl ⟨⟨xs, s1.fh.lst t⟩, p _ F1 H1 s1 (Cm t z)⟩⟩
    | tup ds =>
      obtain ⟨b, xs, e, t, z⟩ := q1
      exact ⟨b, e, .inr ⟨⟨xs, s1.fh.tup t⟩, p _ F1 H1 s1 (B8 t z)⟩⟩
    | _ => exact (W.ns p).elim
theorem Ax {elts : List Expr} {k : Nat} {q : Pos} (hm : X.mg "enumerate" = none) (hl : DE K W false X a fa) (hg : Gl X "enumerate" := by rfl) (hs : starEach [a] X.env = [(false, eval a X.env)] := by rfl) (hK : X.K = K := by rfl) :
    DI K W X (.Tuple elts k q) (.Call (.Name "enumerate" p) [a] [] pos) (pK fa) := by
  subst hK
  exact (pi_enum2 hg hm hl hs).imp fun _ _ _ => ri_enum2
end
end L2
namespace L2
open PySem PySem.Spec PyProof.Rows
structure Ys (z p q u v l m : Addr) (r k a b : Value) (i j : Nat) (xs ys : Array Value) (h : Heap) : Prop where
  me : ZRec h z p q r k
  its : IsPair h p (.ref u) (.ref v)
  own : IsPair h q a b
  one : h.IsTupleIter u l i
  two : h.IsTupleIter v m j
  xl : h.IsTuple l xs
  yl : h.IsTuple m ys
end L2
namespace L2
open PySem PySem.Spec PyProof.Rows
section
variable {K : PySem.W.Frag}
theorem sF {i : Nat} {R R' : St -> Hp -> Prop} {H : Hp} : ∀ {is : List Nat} {vs : List V} {σ : St}, i ∉ is -> i8 is vs σ H R' -> (∀ σ' H', R' σ' H' -> σ'[i]? = σ[i]? -> R σ' H') -> i8 is vs σ H R
  | [], _, σ, _, h, k => ⟨h.1, k _ _ h.2 rfl⟩
  | j :: is, _, σ, n, ⟨v, r, e, h⟩, k => ⟨v, r, e, sF (i := i) (fun z => n (by simp [z])) h fun σ' H' hr he => k σ' H' hr (by rw [he, List.getElem?_set_ne (fun z => n (by simp [z]))])⟩
theorem gP_keep {i : Nat} {R R' : St -> Hp -> Prop} {H : Hp} {p : Pat} {v : V} {σ : St} (n : i ∉ p.names) (h : gP K p v σ H R') (k : ∀ σ' H', R' σ' H' -> σ'[i]? = σ[i]? -> R σ' H') : gP K p v σ H R := by
  cases p with
  | nm j => exact k _ _ h (List.getElem?_set_ne fun z => n (by simp [Pat.names, z]))
  | tp is =>
    obtain ⟨a, xs, e, t, l, h⟩ := h
    exact ⟨a, xs, e, t, l, sF n h k⟩
end
structure wM (K : PySem.W.Frag) (F0 H0 FB : Hp) (i : Nat) (a : Addr) (ys : List V) (rs : List Dat) (F H : Hp) (σ : St) (ρ : ag) : Prop where
  r : Rep K F0 H0 FB [] F H σ ρ
  sl : σ[i]? = some (some (.ref a))
  hp : H a = some (.lst ys)
  fa : F a = none
  ha : H0 a = none
  nm : ∀ m : Nat, ys[m]? ≠ some (.ref a)
  ow : wU K F H0 H rs ys
section
variable {K : PySem.W.Frag} {F0 H0 FB F H F1 H1 : Hp} {i : Nat} {a : Addr} {ys : List V} {rs : List Dat} {σ : St} {ρ : ag}
theorem wM.step (h : wM K F0 H0 FB i a ys rs F H σ ρ) (s : Step F H F1 H1) : wM K F0 H0 FB i a ys rs F1 H1 σ ρ :=
  ⟨h.r.step s, h.sl, s.hh _ _ h.hp, s.stays h.fa h.hp, h.ha, h.nm, h.ow.step s⟩
theorem wM.base {FB' : Hp} (h : wM K F0 H0 FB i a ys rs F H σ ρ) (s : bg FB' FB) : wM K F0 H0 FB' i a ys rs F H σ ρ := ⟨h.r.base s, h.sl, h.hp, h.fa, h.ha, h.nm, h.ow⟩
theorem wM.set {σ' : St} {ρ' : ag} (h : wM K F0 H0 FB i a ys rs F H σ ρ) (r : Rep K F0 H0 FB [] F H σ' ρ') (e : σ'[i]? = σ[i]?) : wM K F0 H0 FB i a ys rs F H σ' ρ' := ⟨r, by rw [e]; exact h.sl, h.hp, h.fa, h.ha, h.nm, h.ow⟩
theorem wM.write {j : Nat} {b : Addr} {es : List Dat} {xs : List V} (h : wM K F0 H0 FB i a ys rs F H σ ρ) (hj : ys[j]? = some (.ref b)) (q : au K F es xs) : wM K F0 H0 FB i a ys (rs.set j (.lst es)) F (upd H b (.lst xs)) σ ρ := by
  obtain ⟨xs0, es0, e0, hb, fb, h0b, _⟩ := h.ow.at hj
  have nab : a ≠ b := fun z => h.nm j (by rw [z]; exact hj)
  have r := h.r
  refine ⟨⟨⟨r.st.ff, fun c o z => ?_, fun c o z => ?_, r.st.nw⟩, r.fb, r.len, r.fz, (fun m d e h => nomatch h), (fun m n d1 d2 c h => nomatch h)⟩, h.sl, by rw [av nab]; exact h.hp, h.fa, h.ha, h.nm, ⟨by rw [List.length_set]; exact h.ow.len, fun k d e => ?_, h.ow.ap⟩⟩
  · rw [av (aN z h0b)]; exact r.st.hh c o z
  · rw [av (aN z fb)]; exact r.st.fh c o z
  · by_cases hk : j = k
    · subst hk
      rw [List.getElem?_set_self (List.getElem?_eq_some_iff.mp e0).1] at e
      cases e
      exact ⟨b, xs, es, hj, rfl, aE, fb, h0b, q⟩
    · rw [List.getElem?_set_ne hk] at e
      obtain ⟨c, ws, fs, k1, k2, k3, k4, k5, k6⟩ := h.ow.get k d e
      have ncb : c ≠ b := fun z => hk (h.ow.ap j k b hj (by rw [<- z]; exact k1))
      exact ⟨c, ws, fs, k1, k2, by rw [av ncb]; exact k3, k4, k5, k6⟩
theorem wM.freeze (h : wM K F0 H0 FB i a ys rs F H σ ρ) : ∃ F', Rep K F0 H0 FB [] F' H σ (ρ.set i (some (.lst rs))) := by
  have inA : ∀ c, (c = a \/ ∃ m : Nat, ys[m]? = some (.ref c)) -> F c = none /\ H0 c = none := fun c z => by
    rcases z with z | ⟨m, z⟩
    · rw [z]; exact ⟨h.fa, h.ha⟩
    · obtain ⟨_, _, _, _, z1, z2, _⟩ := h.ow.at z
      exact ⟨z1, z2⟩
  have ff : bg F (plus F H fun c => c = a \/ ∃ m : Nat, ys[m]? = some (.ref c)) := fun c o z => by
    by_cases hc : c = a \/ ∃ m : Nat, ys[m]? = some (.ref c)
    · rw [(inA c hc).1] at z; cases z
    · rw [dY hc]; exact z
  have fh : bg (plus F H fun c => c = a \/ ∃ m : Nat, ys[m]? = some (.ref c)) H := fun c o z => by
    by_cases hc : c = a \/ ∃ m : Nat, ys[m]? = some (.ref c)
    · rw [jt hc] at z; exact z
    · rw [dY hc] at z; exact h.r.st.fh c o z
  have r := h.r
  have hil : i < σ.length := (List.getElem?_eq_some_iff.mp h.sl).1
  refine ⟨plus F H (fun c => c = a \/ ∃ m : Nat, ys[m]? = some (.ref c)), ⟨r.st.ff.trans ff, r.st.hh, fh, fun c o z => ?_⟩, r.fb.trans ff, by rw [List.length_set, r.len], fun m d e _ => ?_, (fun m d e h => nomatch h), (fun m n d1 d2 c h => nomatch h)⟩
  · by_cases hc : c = a \/ ∃ m : Nat, ys[m]? = some (.ref c)
    · exact .inr (inA c hc).2
    · rw [dY hc] at z; exact r.st.nw c o z
  · by_cases him : i = m
    · subst him
      rw [List.getElem?_set_self (by rw [r.len]; exact hil)] at e
      cases e
      refine ⟨.ref a, h.sl, a, ys, rfl, SqL.of (by rw [jt (.inl rfl)]; exact h.hp), au.of_get h.ow.len fun m d u e1 e2 => ?_⟩
      obtain ⟨c, ws, fs, k1, k2, k3, k4, k5, k6⟩ := h.ow.get m d e1
      rw [k1] at e2
      cases e2
      subst k2
      exact ⟨c, ws, rfl, SqL.of (by rw [jt (.inr ⟨m, k1⟩)]; exact k3), k6.mono ff⟩
    · rw [List.getElem?_set_ne him] at e
      obtain ⟨u, h1, h2⟩ := r.repE.sl m d e
      exact ⟨u, h1, h2.mono ff⟩
end
noncomputable def lD (rs : List Dat) (x : Dat) (je : Nat × List Dat) (fB : ag -> M Dat) (ρ : ag) : M (List Dat) := (fB ρ).bind fun b => (asI b).bind fun b => lE rs je b x
noncomputable def rK (rs : List Dat) (x : Dat) (fA fB : ag -> M Dat) (ρ : ag) : M (List Dat) := (fA ρ).bind fun a => (asI a).bind fun a => (rowAt rs a).bind fun je => lD rs x je fB ρ
noncomputable def tj (rs : List Dat) (fx fA fB : ag -> M Dat) (ρ : ag) : M (List Dat) := (fx ρ).bind fun x => rK rs x fA fB ρ
noncomputable def eP (pt : Pat) (fx fA fB : ag -> M Dat) : List Dat -> List Dat -> ag -> M (ag × List Dat)
  | [], rs, ρ => .ok (ρ, rs)
  | d :: ds, rs, ρ => (fD pt d ρ).bind fun ρ1 => (tj rs fx fA fB ρ1).bind fun rs' => eP pt fx fA fB ds rs' ρ1
noncomputable def qj (i : Nat) (m : M (ag × List Dat)) : M Flo := m.bind fun p => .ok (.nx (p.1.set i (some (.lst p.2))))
noncomputable def nR (i : Nat) (rs : List Dat) (fs : ag -> M (List Dat)) (pt : Pat) (fx fA fB : ag -> M Dat) (ρ : ag) : M Flo := (fs ρ).bind fun ds => qj i (eP pt fx fA fB ds rs ρ)
noncomputable def kj (i : Nat) (fc : ag -> M Dat) (fs : ag -> M (List Dat)) (pt : Pat) (fx fA fB : ag -> M Dat) : ag -> M Flo := fun ρ => (fc ρ).bind fun d => (lstOf d).bind fun rs => nR i rs fs pt fx fA fB (ρ.set i none)
section
variable {K : PySem.W.Frag} {W : gH} {ro : Bool} {F0 H0 FB F H : Hp} {OL O' : List Nat} {D : Ends} {σ : St} {ρ : ag} {g : ag -> M Flo} {i : Nat} {a : Addr} {ys : List V} {rs : List Dat} {fx fA fB : ag -> M Dat}
theorem BC (h : wM K F0 H0 FB i a ys rs F H σ ρ) (hE : ∀ e, tj rs fx fA fB ρ = .error e -> W.p e F0 H0) (hO : ∀ rs', tj rs fx fA fB ρ = .ok rs' -> ∀ F' H', wM K F0 H0 FB i a ys rs' F' H' σ ρ -> D.nx σ H') :
    tAsg (tD K W false fx) (gSub (tOp (rIx K) (By i) (tD K W false fA)) (tD K W false fB) AY) D σ H := by
  refine bx h.r.repE h.r.st.fh (fun e he => W.mono (hE e (by unfold tj; rw [he]; rfl)) h.r.st) fun x hx v F3 H3 s3 qx => ?_
  have e1 : tj rs fx fA fB ρ = rK rs x fA fB ρ := by unfold tj; rw [hx]; rfl
  rw [e1] at hE hO
  have h3 := h.step s3
  refine ⟨.ref a, h.sl, ?_⟩
  refine bx h3.r.repE h3.r.st.fh (fun e he => W.mono (hE e (by unfold rK; rw [he]; rfl)) h3.r.st) fun da hda va F4 H4 s4 qa => ?_
  have h4 := h3.step s4
  cases da with
  | int ka =>
    have e2 : rK rs x fA fB ρ = (rowAt rs ka).bind fun je => lD rs x je fB ρ := by unfold rK; rw [hda]; rfl
    rw [e2] at hE hO
    cases hj : ixN rs.length ka with
    | none => exact (W.ns (hE .stuck (by unfold rowAt; rw [hj]; rfl))).elim
    | some j =>
      have hjl := (sy hj).2.1
      obtain ⟨b, xs, es, g1, g2, g3, g4, g5, g6⟩ := h4.ow.get j rs[j] (by simp [hjl])
      have erj : rs[j]? = some (.lst es) := by rw [<- g2]; simp [hjl]
      have e3 : rowAt rs ka = .ok (j, es) := by unfold rowAt; rw [hj]; show (match rs[j]? with | some (.lst es) => Except.ok (j, es) | _ => Except.error Err.stuck) = _; rw [erj]
      rw [e3] at hE hO
      refine .inl ⟨a, ys, ka, .ref b, rfl, qa, SqL.of h4.hp, ?_, ?_⟩
      · unfold atI
        rw [h4.ow.len, hj]
        exact g1
      refine bx h4.r.repE h4.r.st.fh (fun e he => W.mono (hE e (by show lD rs x (j, es) fB ρ = _; unfold lD; rw [he]; rfl)) h4.r.st) fun db hdb vb F5 H5 s5 qb => ?_
      have h5 := h4.step s5
      cases db with
      | int kb =>
        have e4 : lD rs x (j, es) fB ρ = lE rs (j, es) kb x := by unfold lD; rw [hdb]; rfl
        cases hk : ixN es.length kb with
        | none => exact (W.ns (hE .stuck (by show lD rs x (j, es) fB ρ = _; rw [e4]; unfold lE; rw [show ((j, es) : Nat × List Dat).2 = es from rfl, hk]))).elim
        | some k =>
          have e5 : lE rs (j, es) kb x = .ok (rs.set j (.lst (es.set k x))) := by unfold lE; rw [show ((j, es) : Nat × List Dat).2 = es from rfl, hk]
          refine ⟨b, xs, kb, k, rfl, qb, s5.hh _ _ g3, by rw [g6.length]; exact hk, ?_⟩
          exact hO _ (by show lD rs x (j, es) fB ρ = _; rw [e4, e5]) F5 _ (h5.write g1 (au.set (cI.mono (s4.trans s5).ff qx) k (g6.mono s5.ff)))
      | _ => exact (W.ns (hE .stuck (by show lD rs x (j, es) fB ρ = _; unfold lD; rw [hdb]; rfl))).elim
  | _ => exact (W.ns (hE .stuck (by unfold rK; rw [hda]; rfl))).elim
theorem zb {fs : ag -> M (List Dat)} {pt : Pat} (n : i ∉ pt.names) (h : wM K F0 H0 FB i a ys rs F H σ ρ) (q : fE K W ro F0 H0 FB OL O' D (pN g (nR i rs fs pt fx fA fB ρ))) :
    tSeq (tFor (iD K W fs) (gP K pt) (tAsg (tD K W false fx) (gSub (tOp (rIx K) (By i) (tD K W false fA)) (tD K W false fB) AY))) (tS K W ro F0 H0 OL [] O' g) D σ H := by
  refine ⟨F, ρ, h.r.repE, h.r.st.fh, ?_⟩
  cases e : fs ρ with
  | error x => exact q.ml h.r.st (dg (by unfold nR; rw [e]; rfl))
  | ok ds =>
    have z : nR i rs fs pt fx fA fB ρ = qj i (eP pt fx fA fB ds rs ρ) := by unfold nR; rw [e]; rfl
    rw [z] at q
    intro J F1 H1 s1 it
    have h1 := h.step s1
    refine ⟨fun k m σ H => ∃ F ρ rs, wM K F0 H0 F1 i a ys rs F H σ ρ /\ k <= ds.length /\ m = ds.length - k /\ fE K W ro F0 H0 FB OL O' D (pN g (qj i (eP pt fx fA fB (ds.drop k) rs ρ))), ⟨ds.length, F1, ρ, rs, ?_, Nat.zero_le _, by omega, by rw [List.drop_zero]; exact q⟩, ?_⟩
    · exact ⟨⟨h1.r.st, bg.refl _, h1.r.len, h1.r.fz, h1.r.ow, h1.r.ap⟩, h1.sl, h1.hp, h1.fa, h1.ha, h1.nm, h1.ow⟩
    · rintro k m σ2 H2 ⟨F2, ρ2, rs2, h2, hk, rfl, p2⟩
      by_cases hlt : k < ds.length
      · have ed : ds.drop k = ds[k] :: ds.drop (k + 1) := List.drop_eq_getElem_cons hlt
        rw [ed] at p2
        refine .inr ⟨it.go k F2 H2 h2.r.fb h2.r.st.fh hlt, fun σ' H' => (∃ F ρ rs, wM K F0 H0 F1 i a ys rs F H' σ' ρ /\ fE K W ro F0 H0 FB OL O' D (pN g (qj i (eP pt fx fA fB (ds.drop (k + 1)) rs ρ)))), fun σ' H' ⟨F, ρ, rs, r, p⟩ => ⟨ds.length - (k + 1), by omega, F, ρ, rs, r, hlt, rfl, p⟩, fun x H' y => ?_⟩
        obtain ⟨F3, s3, q3⟩ := it.yl k F2 H2 x H' ds[k] h2.r.fb h2.r.st.fh (by simp [hlt]) y
        have h3 := h2.step s3
        have ef : eP pt fx fA fB (ds[k] :: ds.drop (k + 1)) rs2 ρ2 = (fD pt ds[k] ρ2).bind fun ρ1 => (tj rs2 fx fA fB ρ1).bind fun rs' => eP pt fx fA fB (ds.drop (k + 1)) rs' ρ1 := by rw [eP]
        rw [ef] at p2
        cases eb : fD pt ds[k] ρ2 with
        | error x =>
          have := mH eb
          subst this
          exact p2.stuck (dg (by rw [eb]; rfl))
        | ok ρ3 =>
          rw [eb] at p2
          have p2 : fE K W ro F0 H0 FB OL O' D (pN g (qj i ((tj rs2 fx fA fB ρ3).bind fun rs' => eP pt fx fA fB (ds.drop (k + 1)) rs' ρ3))) := p2
          refine gP_keep n (R' := fun σ' H2 => H2 = H' /\ Rep K F0 H0 F1 [] F3 H' σ' ρ3) (Cy h3.r (fun _ _ => by simp) q3 eb fun σ4 r4 => ⟨rfl, r4⟩) fun σ4 H4 ⟨eH, r4⟩ es => ?_
          subst eH
          refine BC (h3.set r4 es) (fun e he => p2.err (dg (by rw [he]; rfl))) fun rs' hr F' H'' h' => ?_
          rw [hr] at p2
          exact ⟨F', ρ3, rs', h', p2⟩
      · have : k = ds.length := by omega
        subst this
        rw [List.drop_length] at p2
        have p2 : fE K W ro F0 H0 FB OL O' D (g (ρ2.set i (some (.lst rs2)))) := p2
        obtain ⟨F', r'⟩ := h2.freeze
        exact .inl ⟨it.st F2 H2 h2.r.fb h2.r.st.fh, FB, F', _, r'.base h1.r.fb, p2⟩
theorem AV {fi fs : ag -> M (List Dat)} {ix : List (Option Nat)} {p pt : Pat} {ft : ag -> M Bool} {fe : ag -> M Dat} (hL : ∀ ρ d, fe ρ = .ok d -> ∃ es, d = .lst es) (n : i ∉ pt.names) (hi : i < σ.length) (t : tS K W ro F0 H0 OL [] O' (cB (kj i (fg fi ix p ft fe) fs pt fx fA fB) g) D σ H) :
    tSeq (uR i (iD K W fi) ix (gP K p) (tDT K W ft) (tD K W true fe)) (tSeq (tFor (iD K W fs) (gP K pt) (tAsg (tD K W false fx) (gSub (tOp (rIx K) (By i) (tD K W false fA)) (tD K W false fB) AY))) (tS K W ro F0 H0 OL [] O' g)) D σ H := by
  obtain ⟨FB, F, ρ, r, q⟩ := t
  have rE := r.repE
  have q0 : fE K W ro F0 H0 FB OL O' D (pN g (kj i (fg fi ix p ft fe) fs pt fx fA fB ρ)) := q
  refine Ah rE r.st.fh hL (fun e he => q0.ml r.st (dg (by unfold kj; rw [he]; rfl))) fun rs hrs ys F2 H2 s2 ow a ha => ?_
  have q1 : fE K W ro F0 H0 FB OL O' D (pN g (nR i rs fs pt fx fA fB (ρ.set i none))) := by
    unfold kj at q0
    rw [hrs] at q0
    exact q0
  have sg : Step F2 H2 F2 (upd H2 a (.lst ys)) := Step.grow s2.fh ha
  have st2 := s2.trans sg
  have r2 := r.step st2
  have r3 : Rep K F0 H0 FB [] F2 (upd H2 a (.lst ys)) (σ.set i (some (.ref a))) (ρ.set i none) := ⟨r2.st, r2.fb, by rw [List.length_set, List.length_set, r.len], fun j d e _ => by
    by_cases hij : i = j
    · subst hij
      rw [List.getElem?_set_self (by rw [r.len]; exact hi)] at e
      cases e
    · rw [List.getElem?_set_ne hij] at e
      rw [List.getElem?_set_ne hij]
      exact r2.fz j d e (by simp), (fun m d e h => nomatch h), (fun m n d1 d2 c h => nomatch h)⟩
  refine zb n ⟨r3, by rw [List.getElem?_set_self hi], aE, s2.fh.free ha, r.st.hh.free (s2.hh.free ha), fun m z => ?_, (ow.step sg).back r.st.hh⟩ q1
  obtain ⟨_, _, _, w, _⟩ := ow.at z
  rw [ha] at w
  cases w
end
section
variable {X : Cx} {K : PySem.W.Frag} {W : gH} {ro : Bool} {OL O' : List Nat} {x : Str} {sc : Scope} {tg tg2 elt iter iter2 ex ea eb : Expr} {ifs : List Expr} {fi fs : ag -> M (List Dat)} {pt p0 : Pat} {ft : ag -> M Bool} {fe fx fA fB : ag -> M Dat} {pos spos fpos py p1 p2 p3 p4 : Pos} {sts : List Stmt} {g : ag -> M Flo}
theorem Bh {i : Nat} (N' : List Str) (ix : List (Option Nat)) (hN : X.N.Nodup) (hi : DI K W X tg iter fi) (hg : ∀ L cs s H fp, DG K (aY X N' sc L cs s H fp) tg p0) (hl : qe ix (gP K p0))
    (ht : ∀ L cs s H fp, PTs (aY X N' sc L cs s H fp) ifs (tDT K W ft)) (he : ∀ L cs s H fp, DE K W true (aY X N' sc L cs s H fp) elt fe) (hL : ∀ ρ d, fe ρ = .ok d -> ∃ es, d = .lst es)
    (hi2 : DI K W X tg2 iter2 fs) (hg2 : DG K X tg2 pt)
    (hx : DE K W false X ex fx) (hA : DE K W false X ea fA) (hB : DE K W false X eb fB) (hr : DSs K W ro X OL [] O' sts g)
    (n : i ∉ pt.names := by decide) (hp : PassesOwn (model X.prog X.w) X.A X.env X.xe := by exact PassesOwn.never)
    (hj : X.N[i]? = some x := by rfl) (hy : X.env.scope.names.lookup x = some .local := by rfl) (hc : X.calm = true := by rfl) (hK : X.K = K := by rfl)
    (hsw : swapsWith (.ListComp elt [⟨tg, iter, ifs, 0⟩] sc pos) (some (.Name x py)) spos.line X.env = pure true := by rfl)
    (ok : bG X.N X.env.scope N' sc ix = true := by rfl) (hk : sc.kind = .function := by rfl) (hs : ∀ x, foldedSetIterable iter X.env x = pure x := by intro _; rfl) (hs2 : ∀ x, foldedSetIterable iter2 X.env x = pure x := by intro _; rfl)
    (hv : Vis X.env.scope x := by first | exact Or.inl rfl | exact Or.inr (Or.inl rfl) | exact Or.inr (Or.inr rfl)) (hd : (x == ("__debug__" : Str)) = false := by decide) (hcd : (x == ("__classdict__" : Str)) = false := by decide) (hpl : wN ea := by exact fun _ _ => rfl)
    (ha : ∀ v, assign (.Subscript (.Subscript (.Name x p1) ea p2) eb p3) X.env v = (do
      let ov <- holding [v] (eval (.Subscript (.Name x p1) ea p2) X.env)
      let iv <- holding [v, ov] (eval eb X.env)
      standAt p3
      holding [v, ov, iv] (setItem ov iv v)
      release [v, ov, iv] []) := by intro _; rfl) (hs1 : swapsWithSole [.Subscript (.Subscript (.Name x p1) ea p2) eb p3] ex p4.line X.env = pure false := by rfl) (hw : swappedStores [.Subscript (.Subscript (.Name x p1) ea p2) eb p3] ex X.env = pure none := by rfl)
    (h1 : (assignEach [.Subscript (.Subscript (.Name x p1) ea p2) eb p3] X.env).map (·.2) = [assign (.Subscript (.Subscript (.Name x p1) ea p2) eb p3) X.env] := by rfl) :
    DSs K W ro X OL [] O' (.Assign [.Name x py] (.ListComp elt [⟨tg, iter, ifs, 0⟩] sc pos) spos :: .For tg2 iter2 [.Assign [.Subscript (.Subscript (.Name x p1) ea p2) eb p3] ex p4] [] fpos :: sts) (cB (kj i (fg fi ix p0 ft fe) fs pt fx fA fB) g) := by
  subst hK
  intro F0 H0 pins s σ H D I z
  have hil : i < σ.length := by
    rw [I.len]
    exact (List.getElem?_eq_some_iff.mp hj).1
  refine kn (mY N' ix hN hj hy hc hi hg hl ht he hsw ok hk hs) (kn (ps_for hp hc hi2 hg2 (v9 (Ak hx (BQ (pe_ix Cj (pv i hj hv hd hcd) hA hpl) hB set_list ha) hs1 hw h1)) hs2) (hr F0 H0)) pins s σ H D I ?_
  exact AV hL n hil z
end
theorem repD_lst {fa fb : ag -> M Dat} : ∀ ρ d, f2 repD fa fb ρ = .ok d -> ∃ es, d = .lst es := fun ρ d h => by
  unfold f2 at h
  cases e1 : fa ρ with
  | error x => rw [e1] at h; cases h
  | ok x =>
    rw [e1] at h
    have h : ((fb ρ).bind fun y => repD x y) = .ok d := h
    cases e2 : fb ρ with
    | error y => rw [e2] at h; cases h
    | ok y =>
      rw [e2] at h
      have h : repD x y = .ok d := h
      unfold repD at h
      split at h
      · split at h
        · cases h; exact ⟨_, rfl⟩
        · cases h
      · cases h
noncomputable def pZ (O : List Nat) (i : Nat) (es : List Dat) (d : Dat) (fb : ag -> M Dat) (ρ : ag) : M Flo := (fb (erase O ρ)).bind fun y => if es.length < sizeLine then put ρ i (es ++ [.tup [d, y]]) else .error .stuck
noncomputable def pk (O : List Nat) (i j : Nat) (fk fb : ag -> M Dat) : ag -> M Flo := fun ρ => (jb ρ i).bind fun es => (jb ρ j).bind fun ds => (fk ρ).bind fun k => (popD ds k).bind fun de => pZ O i es de.1 fb (ρ.set j (some (.lst de.2)))
section
variable {K : PySem.W.Frag} {W : gH} {ro : Bool} {F0 H0 : Hp} {OL O : List Nat} {D : Ends} {σ : St} {H : Hp} {fk fb : ag -> M Dat}
theorem AW {i j : Nat} (hi : i ∈ O) (hj : j ∈ O) (hij : i ≠ j) (t : tS K W ro F0 H0 OL O O (pk O i j fk fb) D σ H) : tDrop (tBM K "list" ze (By i) (tf (tTup (tf (tPopE K j (tD K W false fk)) (tf (tD K W false fb) tNil))) tNil)) D σ H := by
  obtain ⟨FB, F, ρ, r, p⟩ := t
  unfold pk at p
  cases hl : jb ρ i with
  | error e => have := pA hl; subst this; exact p.stuck (by rw [hl]; rfl)
  | ok es =>
    rw [hl, ak] at p
    cases hl2 : jb ρ j with
    | error e => have := pA hl2; subst this; exact p.stuck (by rw [hl2]; rfl)
    | ok ds =>
      rw [hl2, ak] at p
      obtain ⟨a, xs, e2, ha, z⟩ := r.xW hi (jg hl)
      refine ⟨.ref a, e2, uQ ha, ?_⟩
      refine pop_run r hj hl2 (fun e he => p.err (by rw [he]; rfl)) fun k hk => ?_
      rw [hk, ak] at p
      refine ⟨fun e he => by have := popD_err he; subst this; exact p.stuck (by rw [he]; rfl), fun d es2 hp v F1 H1 r1 q => ?_⟩
      rw [hp, ak] at p
      have p : fE K W ro F0 H0 FB OL O D (pZ O i es d fb (ρ.set j (some (.lst es2)))) := p
      refine bx r1.pq r1.st.fh (fun e he => p.ml r1.st (by unfold pZ; rw [he]; rfl)) fun y hy u F2 H2 s2 qy => ?_
      have p : fE K W ro F0 H0 FB OL O D (if es.length < sizeLine then put (ρ.set j (some (.lst es2))) i (es ++ [.tup [d, y]]) else .error .stuck) := by
        unfold pZ at p
        rw [hy] at p
        exact p
      have hz := sizeLine_eq
      refine ⟨by show 2 <= sizeLine; omega, fun b hb => ?_⟩
      have r2 := r1.step s2
      have sg : Step F2 H2 (upd F2 b (.tup [v, u])) (upd H2 b (.tup [v, u])) := Step.lay s2.fh hb
      have r3 := r2.step sg
      have el : (ρ.set j (some (.lst es2)))[i]? = some (some (.lst es)) := by rw [List.getElem?_set_ne (Ne.symm hij)]; exact jg hl
      obtain ⟨a', xs', e3, ha', z'⟩ := r3.xW hi el
      rw [e2] at e3
      cases e3
      by_cases hs : es.length < sizeLine
      · rw [if_pos hs] at p
        have qt : cI K (upd F2 b (.tup [v, u])) (.tup [d, y]) (.ref b) := ⟨b, [v, u], rfl, SqT.of aE, ⟨v, [u], rfl, q.mono (s2.ff.trans sg.ff), u, [], rfl, qy.mono sg.ff, rfl⟩⟩
        exact ⟨a, xs', .ref b, rfl, rfl, ha', by rw [z'.length]; exact hs, p σ _ _ (r3.write hi el e2 (au.append z' ⟨.ref b, [], rfl, qt, rfl⟩))⟩
      · rw [if_neg hs] at p
        exact p.stuck rfl
end
section
variable {X : Cx} {K : PySem.W.Frag} {W : gH} {ro : Bool} {e eb : Expr} {x y : Str} {pos p p2 q r t u tp : Pos} {fk fb : ag -> M Dat} {OL O : List Nat}
theorem Bi {i j : Nat} {x1} (hk : DE K W false X e fk) (hb : DE K W false X eb fb) (hoi : i ∈ O := by decide) (hoj : j ∈ O := by decide) (hij : i ≠ j := by decide) (hN : X.N[j]? = some y := by rfl) (hv : Vis X.env.scope y := by first | exact Or.inl rfl | exact Or.inr (Or.inl rfl) | exact Or.inr (Or.inr rfl)) (hd : (y == ("__debug__" : Str)) = false := by decide) (hcd : (y == ("__classdict__" : Str)) = false := by decide) (hN2 : X.N[i]? = some x := by rfl) (hv2 : Vis X.env.scope x := by first | exact Or.inl rfl | exact Or.inr (Or.inl rfl) | exact Or.inr (Or.inr rfl)) (hd2 : (x == ("__debug__" : Str)) = false := by decide) (hcd2 : (x == ("__classdict__" : Str)) = false := by decide) (hK : X.K = K := by rfl)
    (hst : starEach [e] X.env = [(false, eval e X.env)] := by rfl) (hbase : attributeBase (.Name y p) "pop" X.env (eval (.Name y p) X.env) = eval (.Name y p) X.env := by rfl) (hfew : ((backTo q (starEach [e] X.env)).all (fun x => !x.1) && (backToKw q (keywordEach [] X.env)).all (fun x => x.1.isSome) && decide ([e].length + ([] : List Keyword).length + (if ([] : List Keyword).isEmpty then 0 else 1) < 30)) = true := by rfl) (hplain : (backTo q (starEach [] X.env)).any (·.1) = false := by rfl) (hline : (t.endLine == q.line) = true := by rfl)
    (hsb : starEach [eb] X.env = [(false, eval eb X.env)] := by rfl) (hsa : starEach (.Call (.Attribute (.Name y p) "pop" t) [e] [] q :: [eb]) X.env = (false, eval (.Call (.Attribute (.Name y p) "pop" t) [e] [] q) X.env) :: starEach [eb] X.env := by rfl)
    (hst2 : starEach [.Tuple [.Call (.Attribute (.Name y p) "pop" t) [e] [] q, eb] x1 tp] X.env = [(false, eval (.Tuple [.Call (.Attribute (.Name y p) "pop" t) [e] [] q, eb] x1 tp) X.env)] := by rfl) (hbase2 : attributeBase (.Name x p2) "append" X.env (eval (.Name x p2) X.env) = eval (.Name x p2) X.env := by rfl)
    (hfew2 : ((backTo r (starEach [.Tuple [.Call (.Attribute (.Name y p) "pop" t) [e] [] q, eb] x1 tp] X.env)).all (fun x => !x.1) && (backToKw r (keywordEach [] X.env)).all (fun x => x.1.isSome) && decide ([Expr.Tuple [.Call (.Attribute (.Name y p) "pop" t) [e] [] q, eb] x1 tp].length + ([] : List Keyword).length + (if ([] : List Keyword).isEmpty then 0 else 1) < 30)) = true := by rfl) (hplain2 : (backTo r (starEach [] X.env)).any (·.1) = false := by rfl) (hline2 : (u.endLine == r.line) = true := by rfl)
    (hsw : swapsWith (.Call (.Attribute (.Name x p2) "append" u) [.Tuple [.Call (.Attribute (.Name y p) "pop" t) [e] [] q, eb] x1 tp] [] r) none pos.line X.env = pure false := by rfl) :
    DS K W ro X OL O O (.Expr (.Call (.Attribute (.Name x p2) "append" u) [.Tuple [.Call (.Attribute (.Name y p) "pop" t) [e] [] q, eb] x1 tp] [] r) pos) (pk O i j fk fb) := fun F0 H0 => by
  subst hK
  exact PS.imp (zg (pe_bm PySem.F.plainAttrs_list PySem.F.slot_list_append PySem.F.type_list_append xU (pv i hN2 hv2 hd2 hcd2) (dj (pe_tup (dj (pe_pop hk hN hv hd hcd hst hbase hfew hplain hline) (dj hb jf hsb) hsa)) jf hst2) hbase2 hfew2 hline2 hst2 hplain2) hsw) fun _ _ _ => AW hoi hoj hij
end
end L2
namespace Ru
open PySem L2 PyProof.Rows
noncomputable def iq (CR CP : Addr) (n : Nat) : ag -> M Flo :=
  sIf (fB (f2 ltD (ah 1) (fL ur (a9 (ah 0) aJ))))
      (i7 (f2 ixD (ah 0) (ah 1)))
      j9
noncomputable def kU (CR CP : Addr) (n : Nat) : ag -> M Flo :=
  sIf (fB (f2 eqM (ah 0) (fL cE aJ)))
      (i7 (fC (.int 0)))
      j9
noncomputable def iP (CR CP : Addr) (n : Nat) : ag -> M Flo :=
  (cB (iq CR CP n)
    (cB (kU CR CP n)
    (i7 (f2 nv (f2 wR (f2 ixD (ah 0) (f2 mZ (ah 1) (fL ur (a9 (ah 0) aJ)))) (fC (.int 69621))) (f2 wR (f2 wR (ah 1) (ah 1)) (fC (.int 48271)))))))
noncomputable def aB (CR CP : Addr) (n : Nat) : List Dat -> M Dat := dB 2 2 (iP CR CP n)
noncomputable def ej (CR CP : Addr) (n : Nat) : ag -> M Flo :=
  (cB (bF [3, 5] 7 (fL (aB CR CP n) (a9 (ah 0) (a9 (f2 nv (f2 nv (ah 1) (f2 wR (ah 2) (ah 4))) (ah 6)) aJ))))
    (lA [3, 5] 5 (f2 ixD (fL cE (a9 (fC (.int 0)) (a9 (f2 mZ (f2 ik (ah 7) (fC (.int 4))) (fC (.int 10))) (a9 (f2 mZ (f2 ik (ah 7) (fC (.int 4))) (fC (.int 10))) (a9 (f2 mZ (f2 ik (ah 7) (fC (.int 4))) (f2 ixD (fL cE (a9 (fC (.int 40)) (a9 (f2 nv (f2 powD (fC (.int 10)) (fC (.int 6))) (fC (.int 1))) aJ))) (f2 mZ (f2 ik (ah 7) (fC (.int 4))) (fC (.int 2))))) aJ))))) (f2 mZ (ah 7) (fC (.int 4))))))
noncomputable def gD (CR CP : Addr) (n : Nat) : ag -> M Flo :=
  (cB (bF [3] 5 (fL cE aJ))
    (cB (xk [3, 5] (vW v8 (a9 (ah 2) aJ)) (.nm 6) (ej CR CP n))
    (lA [3] 3 (ah 5))))
noncomputable def iO (CR CP : Addr) (n : Nat) : ag -> M Flo :=
  (cB (bF [] 3 (fL cE aJ))
    (cB (xk [3] (vW v8 (a9 (ah 2) aJ)) (.nm 4) (gD CR CP n))
    (i7 (ah 3))))
noncomputable def cG (CR CP : Addr) (n : Nat) : List Dat -> M Dat := dB 8 3 (iO CR CP n)
noncomputable def kT (CR CP : Addr) (n : Nat) : ag -> M Flo :=
  sIf (fB (f2 eqM (f2 mZ (f2 ik (fL (aB CR CP n) (a9 (ah 0) (a9 (fC (.int 0)) aJ))) (fC (.int 3))) (fC (.int 3))) (fC (.int 1))))
      (i7 (fL cE (a9 (ah 2) (a9 (fL (cG CR CP n) (a9 (ah 0) (a9 (f2 nv (fC (.int 3)) (f2 wR (ah 1) (ah 1))) (a9 (ah 1) aJ)))) aJ))))
      j9
noncomputable def kF (CR CP : Addr) (n : Nat) : ag -> M Flo :=
  (cB (bF [] 1 (f2 nv (fC (.int 1)) (f2 mZ (fL (aB CR CP n) (a9 (ah 0) (a9 (fC (.int 0)) aJ))) (fC (.int 3)))))
    (cB (bF [] 2 (fL (cG CR CP n) (a9 (ah 0) (a9 (fC (.int 3)) (a9 (ah 1) aJ)))))
    (cB (kT CR CP n)
    (i7 (fL cE (a9 (ah 2) aJ))))))
noncomputable def gA (CR CP : Addr) (n : Nat) : List Dat -> M Dat := dB 3 1 (kF CR CP n)
noncomputable def kE (CR CP : Addr) (n : Nat) : ag -> M Flo :=
  (i7 (fg (fIt (ah 0)) [none] (.nm 0) rp (fL pB (a9 (ah 0) aJ))))
noncomputable def fK (CR CP : Addr) (n : Nat) : List Dat -> M Dat := dB 1 1 (kE CR CP n)
noncomputable def uH (CR CP : Addr) (n : Nat) : ag -> M Flo :=
  sIf (fOr (yh (vV (f1 pF (ah 0)))) (vV (f1 m6 (ah 0))))
      (i7 (fC (.bl false)))
      j9
noncomputable def vT (CR CP : Addr) (n : Nat) : ag -> M Flo :=
  (cB (uH CR CP n)
    (i7 (jZ leD leD (fC (.int 0)) (ah 0) (fC (.int 1000000)))))
noncomputable def kq (CR CP : Addr) (n : Nat) : List Dat -> M Dat := dB 1 1 (vT CR CP n)
noncomputable def mf (CR CP : Addr) (n : Nat) : ag -> M Flo :=
  (i7 (vX (f1 pE (ah 0)) (vX (f2 eqM (fL ur (a9 (ah 0) aJ)) (ah 1)) (fL allD (a9 (fg (fIt (ah 0)) [none] (.nm 0) rp (fL (kq CR CP n) (a9 (ah 0) aJ))) aJ)))))
noncomputable def dM (CR CP : Addr) (n : Nat) : List Dat -> M Dat := dB 2 2 (mf CR CP n)
noncomputable def lu (CR CP : Addr) (n : Nat) : ag -> M Flo :=
  sIf (yh (fB (jZ leD leD (fC (.int 1)) (ah 1) (fC (.int 6)))))
      sStk
      j9
noncomputable def lr (CR CP : Addr) (n : Nat) : ag -> M Flo :=
  sIf (yh (vV (fL allD (a9 (fg (fIt (ah 0)) [none, some 1] (.nm 0) rp (fL (dM CR CP n) (a9 (ah 0) (a9 (ah 1) aJ)))) aJ))))
      sStk
      j9
noncomputable def jA (CR CP : Addr) (n : Nat) : ag -> M Flo :=
  (cB (bF [] 1 (fL ur (a9 (ah 0) aJ)))
    (cB (lu CR CP n)
    (cB (lr CR CP n)
    (i7 (fL (fK CR CP n) (a9 (ah 0) aJ))))))
noncomputable def az (CR CP : Addr) (n : Nat) : List Dat -> M Dat := dB 2 1 (jA CR CP n)
noncomputable def jF (CR CP : Addr) (n : Nat) : ag -> M Flo :=
  sIf (fB (f2 eqM (fL ur (a9 (ah 0) aJ)) (fC (.int 2))))
      (i7 (fL (newP CP (az CR CP n)) (a9 (f2 ixD (ah 0) (fC (.int 0))) (a9 (f2 ixD (ah 0) (fC (.int 1))) aJ))))
      j9
noncomputable def jh (CR CP : Addr) (n : Nat) : ag -> M Flo :=
  (cB (jF CR CP n)
    (i7 (fL (newR CR (az CR CP n)) (a9 (f2 ixD (ah 0) (fC (.int 0))) aJ))))
noncomputable def fw (CR CP : Addr) (n : Nat) : List Dat -> M Dat := dB 1 1 (jh CR CP n)
noncomputable def iZ (CR CP : Addr) (n : Nat) : ag -> M Flo :=
  (cB (bF [3] 5 (f2 nv (f2 ik (fL (aB CR CP n) (a9 (ah 0) (a9 (fC (.int 2)) aJ))) (f2 nv (f2 wR (ah 4) (ah 4)) (fC (.int 1)))) (f2 wR (f2 wR (fC (.int 17)) (ah 4)) (f2 mZ (f2 ik (ah 1) (fC (.int 32))) (fC (.int 3))))))
    (cB (bF [3] 6 (f2 mZ (ah 5) (fC (.int 50))))
    (lA [3] 3 (fL lB (a9 (ah 6) (a9 (f2 nv (f2 nv (ah 6) (fC (.int 1))) (f2 mZ (f2 ik (ah 5) (fC (.int 50))) (fC (.int 9)))) aJ))))))
noncomputable def kG (CR CP : Addr) (n : Nat) : ag -> M Flo :=
  (cB (bF [] 1 (fL (aB CR CP n) (a9 (ah 0) (a9 (fC (.int 1)) aJ))))
    (cB (bF [] 2 (f2 ixD (fL cE (a9 (f2 mZ (ah 1) (fC (.int 4))) (a9 (f2 mZ (ah 1) (fC (.int 4))) (a9 (fC (.int 20)) aJ)))) (f2 ik (f2 mZ (f2 ik (ah 1) (fC (.int 4))) (fC (.int 8))) (fC (.int 3)))))
    (cB (bF [] 3 (fL cE aJ))
    (cB (xk [3] (vW v8 (a9 (ah 2) aJ)) (.nm 4) (iZ CR CP n))
    (i7 (ah 3))))))
noncomputable def fM (CR CP : Addr) (n : Nat) : List Dat -> M Dat := dB 7 1 (kG CR CP n)
noncomputable def hZ (CR CP : Addr) (n : Nat) : ag -> M Flo :=
  (cB (bF [4] 6 (fL (aB CR CP n) (a9 (ah 0) (a9 (f2 nv (ah 1) (f2 wR (fC (.int 3)) (ah 5))) aJ))))
    (cB (bF [4] 7 (fL (aB CR CP n) (a9 (ah 0) (a9 (f2 nv (f2 nv (ah 1) (f2 wR (fC (.int 3)) (ah 5))) (fC (.int 1))) aJ))))
    (cB (bF [4] 8 (fL (aB CR CP n) (a9 (ah 0) (a9 (f2 nv (f2 nv (ah 1) (f2 wR (fC (.int 3)) (ah 5))) (fC (.int 2))) aJ))))
    (cB (bF [4] 9 (f2 mZ (f2 ik (ah 6) (fC (.int 3))) (f2 ixD (fL cE (a9 (fC (.int 20)) (a9 (fC (.int 20)) (a9 (fC (.int 60)) (a9 (f2 wR (fC (.int 9)) (f2 powD (fC (.int 10)) (fC (.int 8)))) aJ))))) (f2 mZ (f2 ik (ah 6) (fC (.int 3))) (fC (.int 4))))))
    (cB (bF [4] 10 (f2 nv (ah 9) (f2 mZ (f2 ik (ah 7) (fC (.int 5))) (f2 ixD (fL cE (a9 (fC (.int 5)) (a9 (fC (.int 30)) (a9 (fC (.int 80)) (a9 (f2 powD (fC (.int 10)) (fC (.int 6))) (a9 (f2 powD (fC (.int 10)) (fC (.int 7))) aJ)))))) (f2 mZ (ah 7) (fC (.int 5)))))))
    (cB (bF [4] 11 (f2 ixD (fL cE (a9 (f2 mZ (f2 ik (ah 8) (fC (.int 2))) (fC (.int 40))) (a9 (f2 mZ (f2 ik (ah 8) (fC (.int 2))) (f2 nv (f2 powD (fC (.int 10)) (fC (.int 9))) (fC (.int 1)))) aJ))) (f2 mZ (ah 8) (fC (.int 2)))))
    (cB (bF [4] 12 (f2 ixD (fL cE (a9 (f2 mZ (f2 ik (ah 8) (fC (.int 80))) (fC (.int 5))) (a9 (f2 mZ (f2 ik (ah 8) (fC (.int 80))) (fC (.int 5))) (a9 (f2 mZ (f2 ik (ah 8) (fC (.int 80))) (f2 nv (f2 powD (fC (.int 10)) (fC (.int 9))) (fC (.int 1)))) aJ)))) (f2 mZ (f2 ik (ah 8) (fC (.int 8))) (fC (.int 3)))))
    (lA [4] 4 (fL lB (a9 (f2 mZ (ah 6) (ah 2)) (a9 (ah 9) (a9 (ah 10) (a9 (ah 11) (a9 (ah 12) aJ))))))))))))))
noncomputable def jB (CR CP : Addr) (n : Nat) : ag -> M Flo :=
  (cB (bF [] 4 (fL cE aJ))
    (cB (xk [4] (vW v8 (a9 (ah 3) aJ)) (.nm 5) (hZ CR CP n))
    (i7 (ah 4))))
noncomputable def eE (CR CP : Addr) (n : Nat) : List Dat -> M Dat := dB 13 4 (jB CR CP n)
noncomputable def dr (CR CP : Addr) (n : Nat) : ag -> M Flo :=
  (i7 (fL ur (a9 (f1 (ue [CR, CP] "gaps") (ah 0)) aJ)))
noncomputable def aW (CR CP : Addr) (n : Nat) : List Dat -> M Dat := dB 1 1 (dr CR CP n)
noncomputable def f9 (CR CP : Addr) (n : Nat) : ag -> M Flo :=
  (i7 (fC (.int 1)))
noncomputable def bX (CR CP : Addr) (n : Nat) : List Dat -> M Dat := dB 1 1 (f9 CR CP n)
noncomputable def fU (CR CP : Addr) (n : Nat) : ag -> M Flo :=
  (i7 (fC (.int 2)))
noncomputable def c9 (CR CP : Addr) (n : Nat) : List Dat -> M Dat := dB 1 1 (fU CR CP n)
noncomputable def ig (CR CP : Addr) (n : Nat) : ag -> M Flo :=
  (cB (bF [] 1 (fL nA (a9 (fg (vW v8 (a9 (gY CR CP "many_kinds" (aW CR CP n) (aW CR CP n) (ah 0) aJ) aJ)) [none] (.nm 0) rp (f1 Bt (fC (.int 1)))) aJ)))
    (i7 (fL lB (a9 (fC (.int 0)) (a9 (fL nA (a9 (fg (vW v8 (a9 (gY CR CP "many_strips" (bX CR CP n) (c9 CR CP n) (ah 0) aJ) aJ)) [none, some 1] (.nm 0) rp (ah 1)) aJ)) aJ)))))
noncomputable def ie (CR CP : Addr) (n : Nat) : List Dat -> M Dat := dB 2 1 (ig CR CP n)
noncomputable def kY (CR CP : Addr) (n : Nat) : ag -> M Flo :=
  (cB (bF [3, 4] 6 (f2 mZ (f2 wR (fL (aB CR CP n) (a9 (ah 0) (a9 (f2 nv (fC (.int 40)) (ah 5)) aJ))) (fC (.int 48271))) (fC (.int 2147483647))))
    (pk [3, 4] 4 3 (f2 mZ (f2 ik (ah 6) (fC (.int 8))) (fL ur (a9 (ah 3) aJ))) (f2 mZ (f2 mZ (ah 6) (fC (.int 8))) (ah 2))))
noncomputable def oG (CR CP : Addr) (n : Nat) : ag -> M Flo :=
  (cB (bF [] 3 (fLR (vW v8 (a9 (ah 1) aJ))))
    (cB (bF [3] 4 (fL cE aJ))
    (cB (xk [3, 4] (vW v8 (a9 (ah 1) aJ)) (.nm 5) (kY CR CP n))
    (i7 (ah 4)))))
noncomputable def iH (CR CP : Addr) (n : Nat) : List Dat -> M Dat := dB 7 3 (oG CR CP n)
noncomputable def kS (CR CP : Addr) (n : Nat) : ag -> M Flo :=
  sIf (fB (f2 eqM (ah 2) (fL cE aJ)))
      (i7 (ah 1))
      j9
noncomputable def ib (CR CP : Addr) (n : Nat) : ag -> M Bool :=
  (vV (fC (.bl true)))
noncomputable def ee (CR CP : Addr) (n : Nat) : ag -> M Flo :=
  (cB (bF [] 2 (fg (fIt (ah 0)) [none, none, some 1] (.tp [0, 1]) (fB (jZ leD ltD (ah 0) (ah 2) (ah 1))) (ah 1)))
    (cB (kS CR CP n)
    (bF [] 1 (fL maxD (a9 (ah 2) aJ)))))
noncomputable def oH (CR CP : Addr) (n : Nat) : ag -> M Flo :=
  (i6 (ib CR CP n) (ee CR CP n) n)
noncomputable def iI (CR CP : Addr) (n : Nat) : List Dat -> M Dat := dB 3 2 (oH CR CP n)
noncomputable def cD (CR CP : Addr) (n : Nat) : ag -> M Flo :=
  sIf (fAnd (vV (ah 1)) (fB (f2 leD (ah 2) (f2 ixD (f2 ixD (ah 1) (f1 Bt (fC (.int 1)))) (fC (.int 1))))))
      (yZ 1 (f1 Bt (fC (.int 1))) (fL lB (a9 (f2 ixD (f2 ixD (ah 1) (f1 Bt (fC (.int 1)))) (fC (.int 0))) (a9 (fL maxD (a9 (ah 3) (a9 (f2 ixD (f2 ixD (ah 1) (f1 Bt (fC (.int 1)))) (fC (.int 1))) aJ))) aJ))))
      (lA [1] 1 (fL lB (a9 (ah 2) (a9 (ah 3) aJ))))
noncomputable def bM (CR CP : Addr) (n : Nat) : ag -> M Flo :=
  (cD CR CP n)
noncomputable def fT (CR CP : Addr) (n : Nat) : ag -> M Flo :=
  (cB (bF [] 1 (fL cE aJ))
    (cB (xk [1] (fIt (fL qh (a9 (ah 0) aJ))) (.tp [2, 3]) (bM CR CP n))
    (i7 (ah 1))))
noncomputable def c8 (CR CP : Addr) (n : Nat) : List Dat -> M Dat := dB 4 1 (fT CR CP n)
noncomputable def pW (CR CP : Addr) (n : Nat) : ag -> M Flo :=
  sIf (fB (jZ leD ltD (ah 2) (ah 1) (ah 3)))
      (i7 (ah 3))
      j9
noncomputable def kX (CR CP : Addr) (n : Nat) : ag -> M Flo :=
  (pW CR CP n)
noncomputable def kD (CR CP : Addr) (n : Nat) : ag -> M Flo :=
  (cB (xk [] (fIt (fL (c8 CR CP n) (a9 (ah 0) aJ))) (.tp [2, 3]) (kX CR CP n))
    (i7 (ah 1)))
noncomputable def gz (CR CP : Addr) (n : Nat) : List Dat -> M Dat := dB 4 2 (kD CR CP n)
noncomputable def md (CR CP : Addr) (n : Nat) : ag -> M Flo :=
  (cB (za 3 (fg (fIt (ah 0)) [none] (.nm 0) rp (fL pB (a9 (ah 0) aJ))) (ah 2) (f2 ixD (ah 1) (fC (.int 1))) (f2 ixD (ah 1) (fC (.int 0))))
    (i7 (fL nA (a9 (fg (fIt (ah 3)) [none] (.nm 0) rp (fL nA (a9 (ah 0) aJ))) aJ))))
noncomputable def gQ (CR CP : Addr) (n : Nat) : List Dat -> M Dat := dB 4 3 (md CR CP n)
noncomputable def oF (CR CP : Addr) (n : Nat) : ag -> M Flo :=
  (cB (bF [] 2 (f2 ixD (ah 0) (fC (.int 3))))
    (cB (bF [] 3 (f2 ixD (ah 0) (fC (.int 4))))
    (i7 (f2 wR (ah 3) (fL maxD (a9 (fC (.int 0)) (a9 (f2 subD (ah 1) (ah 2)) aJ)))))))
noncomputable def iG (CR CP : Addr) (n : Nat) : List Dat -> M Dat := dB 4 2 (oF CR CP n)
noncomputable def kH (CR CP : Addr) (n : Nat) : ag -> M Flo :=
  (i7 (f2 ixD (f2 ixD (f1 (ue [CR, CP] "gaps") (ah 0)) (f2 ixD (ah 1) (fC (.int 0)))) (f2 ixD (ah 2) (fC (.int 0)))))
noncomputable def e6 (CR CP : Addr) (n : Nat) : List Dat -> M Dat := dB 3 3 (kH CR CP n)
noncomputable def jj (CR CP : Addr) (n : Nat) : ag -> M Flo :=
  (cB (bF [] 3 (fIte (fB (f2 eqM (f2 ixD (ah 1) (fC (.int 1))) (f2 ixD (ah 2) (fC (.int 1))))) (f1 (ue [CR, CP] "gaps") (ah 0)) (f1 (ue [CP] "beside") (ah 0))))
    (i7 (f2 ixD (f2 ixD (ah 3) (f2 ixD (ah 1) (fC (.int 0)))) (f2 ixD (ah 2) (fC (.int 0))))))
noncomputable def dO (CR CP : Addr) (n : Nat) : List Dat -> M Dat := dB 4 3 (jj CR CP n)
noncomputable def gc (CR CP : Addr) (n : Nat) : ag -> M Flo :=
  sIf (fB (f2 neM (ah 7) (f1 Bt (fC (.int 1)))))
      (lA [3] 3 (f2 nv (ah 7) (gY CR CP "apart" (e6 CR CP n) (dO CR CP n) (ah 0) (a9 (fL lB (a9 (ah 6) (a9 (ah 4) aJ))) (a9 (ah 2) aJ)))))
      j9
noncomputable def cq (CR CP : Addr) (n : Nat) : ag -> M Flo :=
  (gc CR CP n)
noncomputable def dw (CR CP : Addr) (n : Nat) : ag -> M Flo :=
  (xk [3] (pK (ah 5)) (.tp [6, 7]) (cq CR CP n))
noncomputable def hV (CR CP : Addr) (n : Nat) : ag -> M Flo :=
  (cB (bF [] 3 (fL cE aJ))
    (cB (xk [3] (pK (ah 1)) (.tp [4, 5]) (dw CR CP n))
    (i7 (ah 3))))
noncomputable def d8 (CR CP : Addr) (n : Nat) : List Dat -> M Dat := dB 8 3 (hV CR CP n)
noncomputable def hX (CR CP : Addr) (n : Nat) : ag -> M Flo :=
  sIf (fB (f2 gtD (ah 8) (f2 ixD (ah 6) (fC (.int 2)))))
      (i7 (fC .non))
      j9
noncomputable def gG (CR CP : Addr) (n : Nat) : ag -> M Flo :=
  (cB (bF [] 6 (f2 ixD (ah 1) (ah 4)))
    (cB (bF [] 7 (fL lB (a9 (f2 ixD (ah 6) (fC (.int 0))) (a9 (ah 5) aJ))))
    (cB (bF [] 8 (fL (gz CR CP n) (a9 (ah 2) (a9 (fL maxD (a9 (f2 nv (fL cE (a9 (f2 ixD (ah 6) (fC (.int 1))) aJ)) (fL (d8 CR CP n) (a9 (ah 0) (a9 (f2 ixD (ah 3) (fC (.int 1))) (a9 (ah 7) aJ))))) aJ)) aJ))))
    (cB (hX CR CP n)
    (i7 (fL lB (a9 (f2 nv (f2 ixD (ah 3) (fC (.int 0))) (fL (iG CR CP n) (a9 (ah 6) (a9 (ah 8) aJ)))) (a9 (fL (gQ CR CP n) (a9 (f2 ixD (ah 3) (fC (.int 1))) (a9 (ah 7) (a9 (ah 8) aJ)))) aJ))))))))
noncomputable def di (CR CP : Addr) (n : Nat) : List Dat -> M Dat := dB 9 6 (gG CR CP n)
noncomputable def mh (CR CP : Addr) (n : Nat) : ag -> M Flo :=
  (i7 (vX (f1 pF (ah 0)) (f1 notD (f1 m6 (ah 0)))))
noncomputable def cJ (CR CP : Addr) (n : Nat) : List Dat -> M Dat := dB 1 1 (mh CR CP n)
noncomputable def kf (CR CP : Addr) (n : Nat) : ag -> M Flo :=
  sIf (fOr (yh (vV (f1 iw (ah 0)))) (fOr (fB (f2 neM (fL ur (a9 (ah 0) aJ)) (fC (.int 2)))) (fOr (yh (vV (fL (cJ CR CP n) (a9 (f2 ixD (ah 0) (fC (.int 0))) aJ)))) (yh (vV (f1 iw (f2 ixD (ah 0) (fC (.int 1)))))))))
      (i7 (fC (.bl false)))
      j9
noncomputable def ke (CR CP : Addr) (n : Nat) : ag -> M Flo :=
  sIf (fB (f2 neM (fL ur (a9 (f2 ixD (ah 0) (fC (.int 1))) aJ)) (fL ur (a9 (ah 1) aJ))))
      (i7 (fC (.bl false)))
      j9
noncomputable def kd (CR CP : Addr) (n : Nat) : ag -> M Flo :=
  sIf (fOr (yh (vV (f1 iw (ah 2)))) (fOr (fB (f2 neM (fL ur (a9 (ah 2) aJ)) (fL ur (a9 (f2 ixD (ah 1) (fC (.int 0))) aJ)))) (yh (vV (fL allD (a9 (fg (fIt (ah 2)) [none] (.nm 0) rp (fL (cJ CR CP n) (a9 (ah 0) aJ))) aJ))))))
      (i7 (fC (.bl false)))
      j9
noncomputable def gC (CR CP : Addr) (n : Nat) : ag -> M Flo :=
  (kd CR CP n)
noncomputable def iN (CR CP : Addr) (n : Nat) : ag -> M Flo :=
  (cB (kf CR CP n)
    (cB (ke CR CP n)
    (cB (xk [] (fIt (f2 ixD (ah 0) (fC (.int 1)))) (.nm 2) (gC CR CP n))
    (i7 (fC (.bl true))))))
noncomputable def cF (CR CP : Addr) (n : Nat) : List Dat -> M Dat := dB 3 2 (iN CR CP n)
noncomputable def qB (CR CP : Addr) (n : Nat) : ag -> M Flo :=
  (cB (kj 5 (fg (fIt (ah 0)) [none, some 0] (.nm 0) rp (f2 repD (fL cE (a9 (f1 Bt (fC (.int 1))) aJ)) (fL ur (a9 (f2 ixD (ah 1) (fC (.int 0))) aJ)))) (CA (ah 2) (ah 3)) (.tp [6, 7]) (ah 7) (f2 ixD (ah 6) (fC (.int 1))) (f2 ixD (ah 6) (fC (.int 0))))
    (i7 (fL lB (a9 (fL sumD (a9 (ah 4) aJ)) (a9 (fL nA (a9 (fg (fIt (ah 5)) [none] (.nm 0) rp (fL nA (a9 (ah 0) aJ))) aJ)) aJ)))))
noncomputable def gB (CR CP : Addr) (n : Nat) : List Dat -> M Dat := dB 8 5 (qB CR CP n)
noncomputable def jG (CR CP : Addr) (n : Nat) : ag -> M Flo :=
  sIf (fB (f2 eqM (f2 ixD (ah 1) (fC (.int 1))) (f2 ixD (ah 2) (fC (.int 1)))))
      (i7 (f2 ixD (f2 ixD (f2 ixD (ah 0) (fC (.int 0))) (f2 ixD (ah 1) (fC (.int 0)))) (f2 ixD (ah 2) (fC (.int 0)))))
      j9
noncomputable def ji (CR CP : Addr) (n : Nat) : ag -> M Flo :=
  (cB (jG CR CP n)
    (i7 (f2 ixD (f2 ixD (f2 ixD (ah 0) (fC (.int 1))) (f2 ixD (ah 1) (fC (.int 0)))) (f2 ixD (ah 2) (fC (.int 0))))))
noncomputable def dN (CR CP : Addr) (n : Nat) : List Dat -> M Dat := dB 3 3 (ji CR CP n)
noncomputable def zL (CR CP : Addr) (n : Nat) : ag -> M Flo :=
  sIf (fOr (yh (vV (fL (cF CR CP n) (a9 (ah 5) (a9 (ah 1) aJ))))) (fB (f2 neM (ah 5) (fL (gB CR CP n) (a9 (ah 1) (a9 (ah 4) (a9 (fL cE aJ) (a9 (fL cE aJ) (a9 (fL cE aJ) aJ)))))))))
      (i7 (fC (.bl false)))
      j9
noncomputable def zK (CR CP : Addr) (n : Nat) : ag -> M Flo :=
  sIf (fOr (fB (f2 neM (ah 5) (fL (gB CR CP n) (a9 (ah 1) (a9 (ah 4) (a9 (ah 6) (a9 (ah 7) (a9 (ah 8) aJ)))))))) (fB (f2 neM (ah 18) (fL cE (a9 (ah 4) (a9 (ah 3) aJ))))))
      (i7 (fC (.bl false)))
      j9
noncomputable def zJ (CR CP : Addr) (n : Nat) : ag -> M Flo :=
  sIf (fB (f2 gtD (ah 17) (ah 13)))
      (i7 (f2 isND (ah 19) (fC .non)))
      j9
noncomputable def CT (CR CP : Addr) (n : Nat) : ag -> M Flo :=
  sIf (fOr (yh (vV (fL (cF CR CP n) (a9 (ah 19) (a9 (ah 1) aJ))))) (fB (f2 neM (ah 19) (fL (gB CR CP n) (a9 (ah 1) (a9 (ah 4) (a9 (ah 6) (a9 (ah 7) (a9 (ah 8) aJ)))))))))
      (i7 (fC (.bl false)))
      j9
noncomputable def qI (CR CP : Addr) (n : Nat) : ag -> M Flo :=
  (cB (yY [6, 7, 8] (.tp [11, 12, 13, 14, 15]) (f2 ixD (ah 4) (ah 9)))
    (cB (z3 true 16 (fg (CA (ah 6) (ah 7)) [none, none, some 1, some 10, some 11] (.tp [0, 1]) rp (f2 nv (ah 1) (fL (dN CR CP n) (a9 (ah 2) (a9 (ah 0) (a9 (fL lB (a9 (ah 4) (a9 (ah 3) aJ))) aJ)))))))
    (cB (bF [6, 7, 8] 17 (fL (iI CR CP n) (a9 (ah 3) (a9 (fL maxD (a9 (f2 nv (fL cE (a9 (ah 12) aJ)) (ah 16)) aJ)) aJ))))
    (cB (bF [6, 7, 8] 18 (fL cE (a9 (fL pB (a9 (ah 4) aJ)) (a9 (fL pB (a9 (ah 3) aJ)) aJ))))
    (cB (bF [6, 7, 8] 19 (fL (di CR CP n) (a9 (ah 2) (a9 (f2 ixD (ah 18) (fC (.int 0))) (a9 (f2 ixD (ah 18) (fC (.int 1))) (a9 (ah 5) (a9 (ah 9) (a9 (ah 10) aJ))))))))
    (cB (zK CR CP n)
    (cB (zJ CR CP n)
    (cB (lA [6, 7, 8] 6 (fL lB (a9 (ah 11) (a9 (ah 10) aJ))))
    (cB (lA [6, 7, 8] 7 (ah 17))
    (cB (lA [6, 7, 8] 8 (f2 wR (ah 15) (fL maxD (a9 (fC (.int 0)) (a9 (f2 subD (ah 17) (ah 14)) aJ)))))
    (cB (CT CR CP n)
    (bF [6, 7, 8] 5 (ah 19)))))))))))))
noncomputable def g_law (CR CP : Addr) (n : Nat) : ag -> M Flo :=
  (cB (bF [] 1 (fL (gA CR CP n) (a9 (ah 0) aJ)))
    (cB (bF [] 2 (fL (fw CR CP n) (a9 (ah 1) aJ)))
    (cB (bF [] 3 (fL (fM CR CP n) (a9 (ah 0) aJ)))
    (cB (bF [] 4 (fL (eE CR CP n) (a9 (ah 0) (a9 (fC (.int 21)) (a9 (fL ur (a9 (f2 ixD (ah 1) (fC (.int 0))) aJ)) (a9 (f2 nv (fC (.int 1)) (f2 mZ (f2 ik (fL (aB CR CP n) (a9 (ah 0) (a9 (fC (.int 0)) aJ))) (fC (.int 9))) (fC (.int 12)))) aJ))))))
    (cB (bF [] 5 (fL (ie CR CP n) (a9 (ah 2) aJ)))
    (cB (zL CR CP n)
    (cB (bF [] 6 (fL cE aJ))
    (cB (bF [6] 7 (fL cE aJ))
    (cB (bF [6, 7] 8 (fL cE aJ))
    (cB (xk [6, 7, 8] (fIt (fL (iH CR CP n) (a9 (ah 0) (a9 (fL ur (a9 (ah 4) aJ)) (a9 (fL ur (a9 (ah 1) aJ)) aJ))))) (.tp [9, 10]) (qI CR CP n))
    (i7 (fC (.bl true)))))))))))))
noncomputable def Ca (CR CP : Addr) (n : Nat) : List Dat -> M Dat := dB 20 1 (g_law CR CP n)
noncomputable def top (i : Nat) : Stmt := PySem.Challenge.pw_wakeorder_k50_labels_along_plans.main.body.getD i (.Pass ⟨0, 0, 0, 0⟩)
noncomputable abbrev bK : Stmt := top 24
noncomputable abbrev bW : Stmt := top 27
noncomputable abbrev eX : Stmt := top 28
noncomputable abbrev cQ : Stmt := top 19
noncomputable abbrev ki : Stmt := top 17
noncomputable abbrev dD : Stmt := top 18
noncomputable abbrev bQ : Stmt := top 20
noncomputable abbrev dF : Stmt := top 29
noncomputable abbrev cR : Stmt := top 31
noncomputable abbrev cz : Stmt := top 30
noncomputable abbrev aK : Stmt := inClass (top 21) 1
noncomputable abbrev ba : Stmt := inClass (top 21) 2
noncomputable abbrev bj : Stmt := inClass (top 22) 1
noncomputable abbrev cP : Stmt := top 7
noncomputable abbrev eV : Stmt := top 34
noncomputable abbrev eW : Stmt := top 33
noncomputable abbrev bh : Stmt := top 4
noncomputable abbrev eT : Stmt := top 5
noncomputable abbrev dC : Stmt := top 9
noncomputable abbrev eU : Stmt := top 2
noncomputable abbrev cS : Stmt := inClass (top 21) 3
noncomputable abbrev dH : Stmt := inClass (top 22) 2
noncomputable abbrev bJ : Stmt := top 8
noncomputable abbrev cy : Stmt := top 10
noncomputable abbrev dE : Stmt := top 25
noncomputable abbrev bV : Stmt := top 26
noncomputable abbrev gw : Stmt := top 35
noncomputable abbrev dG : Stmt := top 32
noncomputable abbrev AU : Stmt := top 36
noncomputable abbrev s_nR : Stmt := inClass (top 21) 0
noncomputable abbrev s_nP : Stmt := inClass (top 22) 0
structure Zs (K : PySem.W.Frag) (mg : Str -> Option Value) (CR CP : Addr) : Prop where
  kR : Kls K mg "Rules" CR
  kP : Kls K mg "Pair" CP
  vU : ∀ C ∈ [CR, CP], Cls K C /\ lx K C "gaps"
  Be : ∀ C ∈ [CP], Cls K C /\ lx K C "beside"
  yT : mg "all" = none
  uk : mg "bool" = none
  gv : mg "enumerate" = none
  AL : mg "int" = none
  bq : mg "isinstance" = none
  jq : mg "len" = none
  nz : mg "list" = none
  t8 : mg "max" = none
  hG : mg "range" = none
  pf : mg "sorted" = none
  Bv : mg "sum" = none
  gu : mg "tuple" = none
  AK : mg "zip" = none
  eF : ∃ t, mg "GREATEST_GAP" = some (.int 1000000 t)
  gR : ∃ t, mg "MOST_KINDS" = some (.int 6 t)
  kit : Kit K
theorem xj : aO ["_law_script", "_law_k"] ["_law_script", "_law_k"] (ab bK) := ⟨rfl, rfl, rfl, by decide +kernel, rfl, by decide +kernel, by decide +kernel⟩
theorem xG {n : Nat} {P : Program} {w : World} {K : PySem.W.Frag} {mg : Str -> Option Value} {base : Heap} {CR CP : Addr} (Z : Zs K mg CR CP) {ar : Addr} {ax : FuncData} (af : Def K mg "_law_cell" bK ["_law_script", "_law_k"] ar ax) : c6 P w K mg base CX0 1 ar ax ["_law_script", "_law_k"] (spF K false (aB CR CP n) 2) :=
  pH (O' := []) af.fn xj false (iP CR CP n) fun cdv A outer s H E hr =>
    (ai (k7 (gq o_lt (aj 1) (aU nt Z.jq PySem.boot_len (a8 (aj 0) ae)))
      (ay (aX (bc eS (aj 0) (aj 1))))
      g8)
    (ai (k7 (gq (o_eq hr.units) (aj 0) (aG (cn ae)))
      (ay (aX aa))
      g8)
    (ay (aX (aG (aq hI (aq o9 (bc eS (aj 0) (aq eY (aj 1) (aU nt Z.jq PySem.boot_len (a8 (aj 0) ae)))) aa) (aq o9 (aq o9 (aj 1) (aj 1)) aa)))))))
theorem c7 : aO ["_law_script", "_law_start", "_law_kinds", "_law_rows", "_law_k", "_law_row", "_law_j", "_law_cell_here"] ["_law_script", "_law_start", "_law_kinds"] (ab bW) := ⟨rfl, rfl, rfl, by decide +kernel, rfl, by decide +kernel, by decide +kernel⟩
theorem rd {n : Nat} {P : Program} {w : World} {K : PySem.W.Frag} {mg : Str -> Option Value} {base : Heap} {CR CP : Addr} (Z : Zs K mg CR CP) {ar : Addr} {ax : FuncData} (af : Def K mg "_law_cell" bK ["_law_script", "_law_k"] ar ax) (ao : c6 P w K mg base CX0 1 ar ax ["_law_script", "_law_k"] (spF K false (aB CR CP n) 2)) {bp : Addr} {dc : FuncData} (aQ : Def K mg "_law_gap_rows" bW ["_law_script", "_law_start", "_law_kinds"] bp dc) : c6 P w K mg base CX0 2 bp dc ["_law_script", "_law_start", "_law_kinds"] (spF K false (cG CR CP n) 3) :=
  pH (O' := []) aQ.fn c7 false (iO CR CP n) fun cdv A outer s H E hr =>
    (ai (aA (i := 3) (own := true) c7.nd (cn ae))
    (ai (mm (pt := .nm 4) (oJ Z.hG (a8 (aj 2) ae)) (Bj c7.nd)
      (ai (aA (i := 5) (own := true) c7.nd (cn ae))
    (cC (O2 := [3, 5]) (ai (mm (pt := .nm 6) (oJ Z.hG (a8 (aj 2) ae)) (Bj c7.nd)
      (ai (aA (i := 7) (own := false) c7.nd (aM ao hr af.mg af.fn.kp af.bd (a8 (aj 0) (a8 (aG (aq hI (aG (aq hI (aj 1) (aq o9 (aj 2) (aj 4)))) (aj 6))) ae))))
    (ay (kJ (i := 5) (bc eS (aG (cn (a8 aa (a8 (aq eY (aq eD (aj 7) aa) aa) (a8 (aq eY (aq eD (aj 7) aa) aa) (a8 (aq eY (aq eD (aj 7) aa) (bc eS (aG (cn (a8 aa (a8 (aG (aq hI (aq B0 aa aa) aa)) ae)))) (aq eY (aq eD (aj 7) aa) aa))) ae)))))) (aq eY (aj 7) aa))))))
    (cC (O2 := [3]) (ay (kJ (i := 3) (aj 5))))))))
    (cC (O2 := []) (ay (aX (aj 3))))))
theorem lK : aO ["_law_script", "_law_kinds", "_law_gaps_here"] ["_law_script"] (ab eX) := ⟨rfl, rfl, rfl, by decide +kernel, rfl, by decide +kernel, by decide +kernel⟩
theorem xF {n : Nat} {P : Program} {w : World} {K : PySem.W.Frag} {mg : Str -> Option Value} {base : Heap} {CR CP : Addr} (Z : Zs K mg CR CP) {bp : Addr} {dc : FuncData} (aQ : Def K mg "_law_gap_rows" bW ["_law_script", "_law_start", "_law_kinds"] bp dc) (eR : c6 P w K mg base CX0 2 bp dc ["_law_script", "_law_start", "_law_kinds"] (spF K false (cG CR CP n) 3)) {ar : Addr} {ax : FuncData} (af : Def K mg "_law_cell" bK ["_law_script", "_law_k"] ar ax) (ao : c6 P w K mg base CX0 1 ar ax ["_law_script", "_law_k"] (spF K false (aB CR CP n) 2)) {cY : Addr} {gX : FuncData} (dX : Def K mg "_law_gaps" eX ["_law_script"] cY gX) : c6 P w K mg base CX0 3 cY gX ["_law_script"] (spF K false (gA CR CP n) 1) :=
  pH (O' := []) dX.fn lK false (kF CR CP n) fun cdv A outer s H E hr =>
    (ai (aA (i := 1) (own := false) lK.nd (aG (aq hI aa (aq eY (aM ao (hr.mono (by decide)) af.mg af.fn.kp af.bd (a8 (aj 0) (a8 aa ae))) aa))))
    (ai (aA (i := 2) (own := false) lK.nd (aM eR hr aQ.mg aQ.fn.kp aQ.bd (a8 (aj 0) (a8 aa (a8 (aj 1) ae)))))
    (ai (k7 (gq (o_eq hr.units) (aq eY (aq eD (aM ao (hr.mono (by decide)) af.mg af.fn.kp af.bd (a8 (aj 0) (a8 aa ae))) aa) aa) aa)
      (ay (aX (aG (cn (a8 (aj 2) (a8 (aM eR hr aQ.mg aQ.fn.kp aQ.bd (a8 (aj 0) (a8 (aG (aq hI aa (aq o9 (aj 1) (aj 1)))) (a8 (aj 1) ae)))) ae))))))
      g8)
    (ay (aX (aG (cn (a8 (aj 2) ae))))))))
theorem tB : aO ["rows"] ["rows"] (ab cQ) := ⟨rfl, rfl, rfl, by decide +kernel, rfl, by decide +kernel, by decide +kernel⟩
theorem tL {n : Nat} {P : Program} {w : World} {K : PySem.W.Frag} {mg : Str -> Option Value} {base : Heap} {CR CP : Addr} (Z : Zs K mg CR CP) {bO : Addr} {eI : FuncData} (cv : Def K mg "copied_rows" cQ ["rows"] bO eI) : c6 P w K mg base CX0 1 bO eI ["rows"] (spF K false (fK CR CP n) 1) :=
  pH (O' := []) cv.fn tB false (kE CR CP n) fun cdv A outer s H E hr =>
    (ay (aX (aG (mv ["row"] [none] (k8 (aj 0)) (fun _ _ _ _ _ => nF (by decide +kernel)) (cA rfl) (fun _ _ _ _ _ => iS) (fun _ _ _ _ _ => (aG (eN AD Z.nz PyProof.Rows.boot_list (a8 (aj 0) ae))))))))
theorem BG : aO ["number"] ["number"] (ab ki) := ⟨rfl, rfl, rfl, by decide +kernel, rfl, by decide +kernel, by decide +kernel⟩
theorem BX {n : Nat} {P : Program} {w : World} {K : PySem.W.Frag} {mg : Str -> Option Value} {base : Heap} {CR CP : Addr} (Z : Zs K mg CR CP) {il : Addr} {mj : FuncData} (jn : Def K mg "is_gap" ki ["number"] il mj) : c6 P w K mg base CX0 1 il mj ["number"] (spF K false (kq CR CP n) 1) :=
  pH (O' := []) jn.fn BG false (vT CR CP n) fun cdv A outer s H E hr =>
    (ai (k7 (PW.pt (wa (nE (lj (uB Z.kit Z.bq Z.AL (aj 0)))) (uz (lj (sM Z.kit Z.bq Z.uk (aj 0))))))
      (ay (aX u3))
      g8)
    (ay (aX (de_chain o_le o_le aa (aj 0) (CH Z.eF)))))
theorem uY : aO ["row", "kinds"] ["row", "kinds"] (ab dD) := ⟨rfl, rfl, rfl, by decide +kernel, rfl, by decide +kernel, by decide +kernel⟩
theorem vm {n : Nat} {P : Program} {w : World} {K : PySem.W.Frag} {mg : Str -> Option Value} {base : Heap} {CR CP : Addr} (Z : Zs K mg CR CP) {il : Addr} {mj : FuncData} (jn : Def K mg "is_gap" ki ["number"] il mj) (t5 : c6 P w K mg base CX0 1 il mj ["number"] (spF K false (kq CR CP n) 1)) {cf : Addr} {fW : FuncData} (cL : Def K mg "is_gap_row" dD ["row", "kinds"] cf fW) : c6 P w K mg base CX0 2 cf fW ["row", "kinds"] (spF K false (dM CR CP n) 2) :=
  pH (O' := []) cL.fn uY false (mf CR CP n) fun cdv A outer s H E hr =>
    (ay (aX (CI (zF Z.kit Z.bq Z.nz (aj 0)) (CI (de_cmp (o_eq hr.units) (aU nt Z.jq PySem.boot_len (a8 (aj 0) ae)) (aj 1)) (de_one (aU (c_all rfl) Z.yT boot_all (a8 (aG (mv ["number"] [none] (k8 (aj 0)) (fun _ _ _ _ _ => nF (by decide +kernel)) (cA rfl) (fun _ _ _ _ _ => iS) (fun _ _ _ _ _ => (aM t5 hr jn.mg jn.fn.kp jn.bd (a8 (aj 0) ae))))) ae)))))))
theorem lI : aO ["rows", "kinds"] ["rows"] (ab bQ) := ⟨rfl, rfl, rfl, by decide +kernel, rfl, by decide +kernel, by decide +kernel⟩
theorem rW {n : Nat} {P : Program} {w : World} {K : PySem.W.Frag} {mg : Str -> Option Value} {base : Heap} {CR CP : Addr} (Z : Zs K mg CR CP) {bO : Addr} {eI : FuncData} (cv : Def K mg "copied_rows" cQ ["rows"] bO eI) (jL : c6 P w K mg base CX0 1 bO eI ["rows"] (spF K false (fK CR CP n) 1)) {cf : Addr} {fW : FuncData} (cL : Def K mg "is_gap_row" dD ["row", "kinds"] cf fW) (l8 : c6 P w K mg base CX0 2 cf fW ["row", "kinds"] (spF K false (dM CR CP n) 2)) {aR : Addr} {bD : FuncData} (aI : Def K mg "checked_rows" bQ ["rows"] aR bD) : c6 P w K mg base CX0 3 aR bD ["rows"] (spF K false (az CR CP n) 1) :=
  pH (O' := []) aI.fn lI false (jA CR CP n) fun cdv A outer s H E hr =>
    (ai (aA (i := 1) (own := false) lI.nd (aU nt Z.jq PySem.boot_len (a8 (aj 0) ae)))
    (ai (k7 (nE (wb o_le o_le aa (aj 1) (CH Z.gR)))
      (ay ds_stk)
      g8)
    (ai (k7 (nE (lj (aU (c_all rfl) Z.yT boot_all (a8 (aG (mv ["row", "kinds"] [none, some 1] (k8 (aj 0)) (fun _ _ _ _ _ => nF (by decide +kernel)) (cA rfl) (fun _ _ _ _ _ => iS) (fun _ _ _ _ _ => (aM l8 hr cL.mg cL.fn.kp cL.bd (a8 (aj 0) (a8 (aj 1) ae)))))) ae))))
      (ay ds_stk)
      g8)
    (ay (aX (aM jL (hr.mono (by decide)) cv.mg cv.fn.kp cv.bd (a8 (aj 0) ae)))))))
theorem sc_nR : aO ["self", "gaps"] ["self", "gaps"] (ab s_nR) := ⟨rfl, rfl, rfl, by decide +kernel, rfl, by decide +kernel, by decide +kernel⟩
theorem okn_R {n : Nat} {P : Program} {w : World} {K : PySem.W.Frag} {mg : Str -> Option Value} {base : Heap} {CR CP : Addr} {C aR f : Addr} {bD fd : FuncData} (aI : Def K mg "checked_rows" bQ ["rows"] aR bD) (OK : c6 P w K mg base CX0 3 aR bD ["rows"] (spF K false (az CR CP n) 1))
    (N : Fun K "__init__" "Rules.__init__" s_nR f fd) (cl : Cls K C) (na : lx K C "gaps") : c6 P w K mg base CX0 4 f fd ["self", "gaps"] (spI1 K C (az CR CP n)) := by
  refine N.okX sc_nR (fun vs H Q E h => ?_) (fun cdv A outer s H vs Q E hr h => ?_)
  · obtain ⟨p, dx, v, F, d, rfl, _⟩ := h
    rfl
  · obtain ⟨p, dx, v, F, d, rfl, hp, hF, s1, qd, q⟩ := h
    refine ⟨_, v9 (ps_fld (pv 0) (zm OK hr (by rfl) aI.mg aI.fn.kp aI.bd .nil xA (dj (pv 1) jf)) rfl), ?_⟩
    refine ⟨v, rfl, F, [d], s1, ⟨v, [], rfl, qd, rfl⟩, rfl, ?_⟩
    skip
    cases hg : az CR CP n [d] with
    | error e => rw [hg] at q; exact q
    | ok r =>
      rw [hg] at q
      intro u F' H' st qw
      have hF1 : F' p = none := by
        cases hz : F' p with
        | none => rfl
        | some o =>
          rcases st.nw p o hz with z | z
          · rw [hF] at z; cases z
          · rw [hp] at z; cases z
      refine ⟨_, rfl, p, C, dx, [], rfl, st.hh _ _ hp, cl, na, (by show 0 < 1000; decide), ?_⟩
      refine q u F' _ st.ff (fun c o e => ?_) hF1 st.nw (fun c o e hc => by rw [av hc]; exact st.hh _ _ e) aE qw
      have hc : c ≠ p := fun z => by rw [z, hF1] at e; cases e
      rw [av hc]
      exact st.fh _ _ e
theorem putGB (a b : V) : wQ ("beside" : Str) b [(("gaps" : Str), a)] = [(("gaps" : Str), a), (("beside" : Str), b)] := by
  show (if ("gaps" : Str) = "beside" then _ else (("gaps" : Str), a) :: wQ "beside" b []) = _
  rw [if_neg (by decide +kernel)]
  rfl
theorem sc_nP : aO ["self", "gaps", "beside"] ["self", "gaps", "beside"] (ab s_nP) := ⟨rfl, rfl, rfl, by decide +kernel, rfl, by decide +kernel, by decide +kernel⟩
theorem okn_P {n : Nat} {P : Program} {w : World} {K : PySem.W.Frag} {mg : Str -> Option Value} {base : Heap} {CR CP : Addr} {aR f fR : Addr} {bD fd fdR : FuncData} {mc : Value} (aI : Def K mg "checked_rows" bQ ["rows"] aR bD) (OK : c6 P w K mg base CX0 3 aR bD ["rows"] (spF K false (az CR CP n) 1))
    (S : Stat K CR mc "__init__" fR) (bI : Binds K fdR ["self", "gaps"] []) (FI : c6 P w K mg base CX0 4 fR fdR ["self", "gaps"] (spI1 K CP (az CR CP n))) (mR : mg "Rules" = some (.ref CR)) (zl : mg "len" = none)
    (N : Fun K "__init__" "Pair.__init__" s_nP f fd) (cl : Cls K CP) (na : lx K CP "gaps") (nb : lx K CP "beside") : c6 P w K mg base CX0 5 f fd ["self", "gaps", "beside"] (spI2 K CP (az CR CP n)) := by
  refine N.okX sc_nP (fun vs H Q E h => ?_) (fun cdv A outer s H vs Q E hr h => ?_)
  · obtain ⟨p, dx, v, v2, F, d, d2, rfl, _⟩ := h
    rfl
  · obtain ⟨p, dx, v, v2, F, d, d2, rfl, hp, hF, s1, qd, qd2, q⟩ := h
    refine ⟨_, kn (zg (pe_cmeth S (by rfl) mR FI hr bI .nil xA (dj (pv 0) (dj (pv 1) jf))))
      (kn (ps_fld (pv 0) (zm OK (hr.mono (by decide)) (by rfl) aI.mg aI.fn.kp aI.bd .nil xA (dj (pv 2) jf)) rfl)
      (v9 (ps_if (BK op_ne (rF mG (by rfl) zl PySem.boot_len (dj (BS (pv 0) rfl) jf)) (rF mG (by rfl) zl PySem.boot_len (dj (BS (pv 0) rfl) jf)) (C5 _)) BM BL))), ?_⟩
    refine ⟨_, rfl, _, rfl, p, dx, v, F, d, rfl, hp, hF, s1, qd, ?_⟩
    cases hg : az CR CP n [d] with
    | error e => rw [hg] at q; exact q
    | ok r =>
      rw [hg, ak] at q
      intro u F1 H1 a1 a2 a3 a4 a5 a6 a7
      refine ⟨v2, rfl, F1, [d2], a2, ⟨v2, [], rfl, cI.mono a1 qd2, rfl⟩, rfl, ?_⟩
      skip
      cases hg2 : az CR CP n [d2] with
      | error e => rw [hg2] at q; exact False.elim q
      | ok r2 =>
        rw [hg2, ak] at q
        intro u2 F2 H2 st qw
        by_cases ht : twoL r r2 = true
        · rw [if_pos ht] at q
          have hF2 : F2 p = none := by
            cases hz : F2 p with
            | none => rfl
            | some o =>
              rcases st.nw p o hz with z | z
              · rw [a3] at z; cases z
              · rw [a6] at z; cases z
          refine ⟨_, rfl, p, CP, dx, _, rfl, st.hh _ _ a6, cl, nb, (by show 1 < 1000; decide), ?_⟩
          rw [putGB]
          have s3 : bg F2 (upd H2 p (.ins CP dx [("gaps", u), ("beside", u2)])) := fun c o e => by
            have hc : c ≠ p := fun z => by rw [z, hF2] at e; cases e
            rw [av hc]
            exact st.fh _ _ e
          cases r with
          | lst xs =>
            cases r2 with
            | lst ys =>
              have hl : xs.length = ys.length := of_decide_eq_true ht
              obtain ⟨g1, xs1, e1, t1, z1⟩ := cI.mono st.ff a7
              obtain ⟨g2, xs2, e2, t2, z2⟩ := id qw
              refine ⟨_, rfl, p, CP, dx, _, _, rfl, aE, cl, nb, rfl, g2, _, by rw [e2], .inl (s3.lst t2), _, rfl, p, CP, dx, _, _, rfl, aE, cl, na, rfl, g1, _, by rw [e1], .inl (s3.lst t1), rfl, _, rfl, ?_⟩
              refine iteNS (by rw [z1.length, z2.length, hl]) ?_
              refine q u u2 F2 _ (a1.trans st.ff) s3 hF2 (fun b o e => ?_) (fun c o e hc => by rw [av hc]; exact st.hh _ _ (a5 c o e hc)) aE (cI.mono st.ff a7) qw
              rcases st.nw b o e with z | z
              · exact a4 b o z
              · refine .inr ?_
                cases hz : H b with
                | none => rfl
                | some o' =>
                  by_cases hb : b = p
                  · subst hb; rw [hF2] at e; cases e
                  · rw [a5 b o' hz hb] at z; cases z
            | _ => cases ht
          | _ => cases ht
        · rw [if_neg ht] at q; exact False.elim q
theorem v3 : aO ["_law_gaps_here"] ["_law_gaps_here"] (ab dF) := ⟨rfl, rfl, rfl, by decide +kernel, rfl, by decide +kernel, by decide +kernel⟩
theorem vo {n : Nat} {P : Program} {w : World} {K : PySem.W.Frag} {mg : Str -> Option Value} {base : Heap} {CR CP : Addr} (Z : Zs K mg CR CP) {f_nR : Addr} {fd_nR : FuncData} (N_R : Mth K CR "__init__" "Rules.__init__" s_nR ["self", "gaps"] f_nR fd_nR) (OKN_R : c6 P w K mg base CX0 4 f_nR fd_nR ["self", "gaps"] (spI1 K CR (az CR CP n))) {f_nP : Addr} {fd_nP : FuncData} (N_P : Mth K CP "__init__" "Pair.__init__" s_nP ["self", "gaps", "beside"] f_nP fd_nP) (OKN_P : c6 P w K mg base CX0 5 f_nP fd_nP ["self", "gaps", "beside"] (spI2 K CP (az CR CP n))) {cj : Addr} {fY : FuncData} (cM : Def K mg "_law_rules" dF ["_law_gaps_here"] cj fY) : c6 P w K mg base CX0 7 cj fY ["_law_gaps_here"] (spF K false (fw CR CP n) 1) :=
  pH (O' := []) cM.fn v3 false (jh CR CP n) fun cdv A outer s H E hr =>
    (ai (k7 (gq (o_eq hr.units) (aU nt Z.jq PySem.boot_len (a8 (aj 0) ae)) aa)
      (ay (aX (de_newP ⟨Z.kP.mks, N_P.mt.at_, N_P.mt.fn, Z.kP.kp⟩ OKN_P hr Z.kP.mg N_P.bd (a8 (bc eS (aj 0) aa) (a8 (bc eS (aj 0) aa) ae)))))
      g8)
    (ay (aX (de_newR ⟨Z.kR.mks, N_R.mt.at_, N_R.mt.fn, Z.kR.kp⟩ OKN_R (hr.mono (by decide)) Z.kR.mg N_R.bd (a8 (bc eS (aj 0) aa) ae)))))
theorem cx : aO ["_law_script", "_law_cell_here", "_law_many", "_law_closed_here", "_law_k", "_law_there", "_law_start"] ["_law_script"] (ab cR) := ⟨rfl, rfl, rfl, by decide +kernel, rfl, by decide +kernel, by decide +kernel⟩
theorem tM {n : Nat} {P : Program} {w : World} {K : PySem.W.Frag} {mg : Str -> Option Value} {base : Heap} {CR CP : Addr} (Z : Zs K mg CR CP) {ar : Addr} {ax : FuncData} (af : Def K mg "_law_cell" bK ["_law_script", "_law_k"] ar ax) (ao : c6 P w K mg base CX0 1 ar ax ["_law_script", "_law_k"] (spF K false (aB CR CP n) 2)) {bP : Addr} {eJ : FuncData} (cw : Def K mg "_law_closed" cR ["_law_script"] bP eJ) : c6 P w K mg base CX0 2 bP eJ ["_law_script"] (spF K false (fM CR CP n) 1) :=
  pH (O' := []) cw.fn cx false (kG CR CP n) fun cdv A outer s H E hr =>
    (ai (aA (i := 1) (own := false) cx.nd (aM ao hr af.mg af.fn.kp af.bd (a8 (aj 0) (a8 aa ae))))
    (ai (aA (i := 2) (own := false) cx.nd (bc eS (aG (cn (a8 (aq eY (aj 1) aa) (a8 (aq eY (aj 1) aa) (a8 aa ae))))) (aq eD (aq eY (aq eD (aj 1) aa) aa) aa)))
    (ai (aA (i := 3) (own := true) cx.nd (cn ae))
    (ai (mm (pt := .nm 4) (oJ Z.hG (a8 (aj 2) ae)) (Bj cx.nd)
      (ai (aA (i := 5) (own := false) cx.nd (aG (aq hI (aq eD (aM ao hr af.mg af.fn.kp af.bd (a8 (aj 0) (a8 aa ae))) (aG (aq hI (aq o9 (aj 4) (aj 4)) aa))) (aq o9 (aq o9 aa (aj 4)) (aq eY (aq eD (aj 1) aa) aa)))))
    (ai (aA (i := 6) (own := false) cx.nd (aq eY (aj 5) aa))
    (ay (kJ (i := 3) (mq (a8 (aj 6) (a8 (aG (aq hI (aG (aq hI (aj 6) aa)) (aq eY (aq eD (aj 5) aa) aa))) ae))))))))
    (cC (O2 := []) (ay (aX (aj 3))))))))
theorem b8 : aO ["_law_script", "_law_start", "_law_kinds", "_law_many", "_law_flights_here", "_law_k", "_law_cell_here", "_law_wide", "_law_worth", "_law_first", "_law_last", "_law_due_here", "_law_price"] ["_law_script", "_law_start", "_law_kinds", "_law_many"] (ab cz) := ⟨rfl, rfl, rfl, by decide +kernel, rfl, by decide +kernel, by decide +kernel⟩
theorem rX {n : Nat} {P : Program} {w : World} {K : PySem.W.Frag} {mg : Str -> Option Value} {base : Heap} {CR CP : Addr} (Z : Zs K mg CR CP) {ar : Addr} {ax : FuncData} (af : Def K mg "_law_cell" bK ["_law_script", "_law_k"] ar ax) (ao : c6 P w K mg base CX0 1 ar ax ["_law_script", "_law_k"] (spF K false (aB CR CP n) 2)) {bB : Addr} {dQ : FuncData} (bT : Def K mg "_law_flights" cz ["_law_script", "_law_start", "_law_kinds", "_law_many"] bB dQ) : c6 P w K mg base CX0 2 bB dQ ["_law_script", "_law_start", "_law_kinds", "_law_many"] (spF K false (eE CR CP n) 4) :=
  pH (O' := []) bT.fn b8 false (jB CR CP n) fun cdv A outer s H E hr =>
    (ai (aA (i := 4) (own := true) b8.nd (cn ae))
    (ai (mm (pt := .nm 5) (oJ Z.hG (a8 (aj 3) ae)) (Bj b8.nd)
      (ai (aA (i := 6) (own := false) b8.nd (aM ao hr af.mg af.fn.kp af.bd (a8 (aj 0) (a8 (aG (aq hI (aj 1) (aq o9 aa (aj 5)))) ae))))
    (ai (aA (i := 7) (own := false) b8.nd (aM ao hr af.mg af.fn.kp af.bd (a8 (aj 0) (a8 (aG (aq hI (aG (aq hI (aj 1) (aq o9 aa (aj 5)))) aa)) ae))))
    (ai (aA (i := 8) (own := false) b8.nd (aM ao hr af.mg af.fn.kp af.bd (a8 (aj 0) (a8 (aG (aq hI (aG (aq hI (aj 1) (aq o9 aa (aj 5)))) aa)) ae))))
    (ai (aA (i := 9) (own := false) b8.nd (aq eY (aq eD (aj 6) aa) (bc eS (aG (cn (a8 aa (a8 aa (a8 aa (a8 (aq o9 aa (aq B0 aa aa)) ae)))))) (aq eY (aq eD (aj 6) aa) aa))))
    (ai (aA (i := 10) (own := false) b8.nd (aG (aq hI (aj 9) (aq eY (aq eD (aj 7) aa) (bc eS (aG (cn (a8 aa (a8 aa (a8 aa (a8 (aq B0 aa aa) (a8 (aq B0 aa aa) ae))))))) (aq eY (aj 7) aa))))))
    (ai (aA (i := 11) (own := false) b8.nd (bc eS (aG (cn (a8 (aq eY (aq eD (aj 8) aa) aa) (a8 (aq eY (aq eD (aj 8) aa) (aG (aq hI (aq B0 aa aa) aa))) ae)))) (aq eY (aj 8) aa)))
    (ai (aA (i := 12) (own := false) b8.nd (bc eS (aG (cn (a8 (aq eY (aq eD (aj 8) aa) aa) (a8 (aq eY (aq eD (aj 8) aa) aa) (a8 (aq eY (aq eD (aj 8) aa) (aG (aq hI (aq B0 aa aa) aa))) ae))))) (aq eY (aq eD (aj 8) aa) aa)))
    (ay (kJ (i := 4) (mq (a8 (aq eY (aj 6) (aj 2)) (a8 (aj 9) (a8 (aj 10) (a8 (aj 11) (a8 (aj 12) ae))))))))))))))))
    (cC (O2 := []) (ay (aX (aj 4))))))
theorem nP : aO ["self"] ["self"] (ab aK) := ⟨rfl, rfl, rfl, by decide +kernel, rfl, by decide +kernel, by decide +kernel⟩
theorem nX {n : Nat} {P : Program} {w : World} {K : PySem.W.Frag} {mg : Str -> Option Value} {base : Heap} {CR CP : Addr} (Z : Zs K mg CR CP) {aw : Addr} {bw : FuncData} (dz : Mth K CR "many_kinds" "Rules.many_kinds" aK ["self"] aw bw) : c6 P w K mg base CX0 1 aw bw ["self"] (spF K false (aW CR CP n) 1) :=
  pH (O' := []) dz.fn nP false (dr CR CP n) fun cdv A outer s H E hr =>
    (ay (aX (aU nt Z.jq PySem.boot_len (a8 (Az (Cs := [CR, CP]) Z.vU (aj 0)) ae))))
theorem nc : aO ["self"] ["self"] (ab ba) := ⟨rfl, rfl, rfl, by decide +kernel, rfl, by decide +kernel, by decide +kernel⟩
theorem nh {n : Nat} {P : Program} {w : World} {K : PySem.W.Frag} {mg : Str -> Option Value} {base : Heap} {CR CP : Addr} (Z : Zs K mg CR CP) {aC : Addr} {bL : FuncData} (d6 : Mth K CR "many_strips" "Rules.many_strips" ba ["self"] aC bL) : c6 P w K mg base CX0 1 aC bL ["self"] (spF K false (bX CR CP n) 1) :=
  pH (O' := []) d6.fn nc false (f9 CR CP n) fun cdv A outer s H E hr =>
    (ay (aX aa))
theorem nQ : aO ["self"] ["self"] (ab bj) := ⟨rfl, rfl, rfl, by decide +kernel, rfl, by decide +kernel, by decide +kernel⟩
theorem nY {n : Nat} {P : Program} {w : World} {K : PySem.W.Frag} {mg : Str -> Option Value} {base : Heap} {CR CP : Addr} (Z : Zs K mg CR CP) {aH : Addr} {bZ : FuncData} (dA : Mth K CP "many_strips" "Pair.many_strips" bj ["self"] aH bZ) : c6 P w K mg base CX0 1 aH bZ ["self"] (spF K false (c9 CR CP n) 1) :=
  pH (O' := []) dA.fn nQ false (fU CR CP n) fun cdv A outer s H E hr =>
    (ay (aX aa))
theorem nB : aO ["rules", "row"] ["rules"] (ab cP) := ⟨rfl, rfl, rfl, by decide +kernel, rfl, by decide +kernel, by decide +kernel⟩
theorem tK {n : Nat} {P : Program} {w : World} {K : PySem.W.Frag} {mg : Str -> Option Value} {base : Heap} {CR CP : Addr} (Z : Zs K mg CR CP) {aw : Addr} {bw : FuncData} (gI : Mth K CR "many_kinds" "Rules.many_kinds" aK ["self"] aw bw) (cZ : c6 P w K mg base CX0 1 aw bw ["self"] (spF K false (aW CR CP n) 1)) (gJ : Mth K CP "many_kinds" "Rules.many_kinds" aK ["self"] aw bw) {aC : Addr} {bL : FuncData} (gk : Mth K CR "many_strips" "Rules.many_strips" ba ["self"] aC bL) (eA : c6 P w K mg base CX0 1 aC bL ["self"] (spF K false (bX CR CP n) 1)) {aH : Addr} {bZ : FuncData} (gm : Mth K CP "many_strips" "Pair.many_strips" bj ["self"] aH bZ) (fv : c6 P w K mg base CX0 1 aH bZ ["self"] (spF K false (c9 CR CP n) 1)) {bN : Addr} {eG : FuncData} (cu : Def K mg "first_label" cP ["rules"] bN eG) : c6 P w K mg base CX0 2 bN eG ["rules"] (spF K false (ie CR CP n) 1) :=
  pH (O' := []) cu.fn nB false (ig CR CP n) fun cdv A outer s H E hr =>
    (ai (aA (i := 1) (own := false) nB.nd (eN qH Z.gu PyProof.Rows.boot_tuple (a8 (aG (mv ["kind"] [none] (oJ Z.hG (a8 (yo Z.kR.cl gI.mt cZ hr gI.bd Z.kP.cl gJ.mt cZ hr gJ.bd (aj 0)) ae)) (fun _ _ _ _ _ => nF (by decide +kernel)) (cA rfl) (fun _ _ _ _ _ => iS) (fun _ _ _ _ _ => (zE zt aa)))) ae)))
    (ay (aX (mq (a8 aa (a8 (eN qH Z.gu PyProof.Rows.boot_tuple (a8 (aG (mv ["strip", "row"] [none, some 1] (oJ Z.hG (a8 (yo Z.kR.cl gk.mt eA hr gk.bd Z.kP.cl gm.mt fv hr gm.bd (aj 0)) ae)) (fun _ _ _ _ _ => nF (by decide +kernel)) (cA rfl) (fun _ _ _ _ _ => iS) (fun _ _ _ _ _ => (aj 1)))) ae)) ae))))))
theorem gK : aO ["_law_script", "_law_many", "_law_strips", "_law_left", "_law_plan_here", "_law_k", "_law_cell_here"] ["_law_script", "_law_many", "_law_strips"] (ab eV) := ⟨rfl, rfl, rfl, by decide +kernel, rfl, by decide +kernel, by decide +kernel⟩
theorem xD {n : Nat} {P : Program} {w : World} {K : PySem.W.Frag} {mg : Str -> Option Value} {base : Heap} {CR CP : Addr} (Z : Zs K mg CR CP) {ar : Addr} {ax : FuncData} (af : Def K mg "_law_cell" bK ["_law_script", "_law_k"] ar ax) (ao : c6 P w K mg base CX0 1 ar ax ["_law_script", "_law_k"] (spF K false (aB CR CP n) 2)) {cW : Addr} {gU : FuncData} (dU : Def K mg "_law_plan" eV ["_law_script", "_law_many", "_law_strips"] cW gU) : c6 P w K mg base CX0 2 cW gU ["_law_script", "_law_many", "_law_strips"] (spF K false (iH CR CP n) 3) :=
  pH (O' := []) dU.fn gK false (oG CR CP n) fun cdv A outer s H E hr =>
    (ai (aA (i := 3) (own := true) gK.nd (de_lrng1 Z.nz Z.hG (a8 (aj 1) ae)))
    (ai (aA (i := 4) (own := true) gK.nd (cn ae))
    (cC (O2 := [3, 4]) (ai (mm (pt := .nm 5) (oJ Z.hG (a8 (aj 1) ae)) (Bj gK.nd)
      (ai (aA (i := 6) (own := false) gK.nd (aq eY (aq o9 (aM ao hr af.mg af.fn.kp af.bd (a8 (aj 0) (a8 (aG (aq hI aa (aj 5))) ae))) aa) aa))
    (ay (Bi (i := 4) (j := 3) (aq eY (aq eD (aj 6) aa) (aU nt Z.jq PySem.boot_len (a8 (aj 3) ae))) (aq eY (aq eY (aj 6) aa) (aj 2))))))
    (cC (O2 := []) (ay (aX (aj 4))))))))
theorem lJ : aO ["_law_closed_here", "_law_time", "_law_stops"] ["_law_closed_here", "_law_time"] (ab eW) := ⟨rfl, rfl, rfl, by decide +kernel, rfl, by decide +kernel, by decide +kernel⟩
theorem xE {n : Nat} {P : Program} {w : World} {K : PySem.W.Frag} {mg : Str -> Option Value} {base : Heap} {CR CP : Addr} (Z : Zs K mg CR CP) {cX : Addr} {gW : FuncData} (dW : Def K mg "_law_open" eW ["_law_closed_here", "_law_time"] cX gW) : c6 P w K mg base CX0 1 cX gW ["_law_closed_here", "_law_time"] (spF K false (iI CR CP n) 2) :=
  pH (O' := []) dW.fn lJ false (oH CR CP n) fun cdv A outer s H E hr =>
    (ay (ds_while (m := n) (lj u3)
      (ai (ds_compB (i := 2) false ["_law_start", "_law_stop", "_law_time"] [none, none, some 1] lJ.nd (k8 (aj 0)) (fun _ _ _ _ _ => wc rfl (pM (i := 0) (by decide +kernel) (pM (i := 1) (by decide +kernel) kK))) (xY (by decide)) (fun _ _ _ _ _ => pts_one (wb o_le o_lt (aj 0) (aj 2) (aj 1))) (fun _ _ _ _ _ => (aj 1)))
    (ai (k7 (gq (o_eq hr.units) (aj 2) (aG (cn ae)))
      (ay (aX (aj 1)))
      g8)
    (ay (aA (i := 1) (own := false) lJ.nd (aU (Bm rfl) Z.t8 boot_max (a8 (aj 2) ae))))))))
theorem cO : aO ["closed", "joined", "start", "stop"] ["closed"] (ab bh) := ⟨rfl, rfl, rfl, by decide +kernel, rfl, by decide +kernel, by decide +kernel⟩
theorem nW {n : Nat} {P : Program} {w : World} {K : PySem.W.Frag} {mg : Str -> Option Value} {base : Heap} {CR CP : Addr} (Z : Zs K mg CR CP) {aL : Addr} {bY : FuncData} (aZ : Def K mg "joined_stretches" bh ["closed"] aL bY) : c6 P w K mg base CX0 1 aL bY ["closed"] (spF K false (c8 CR CP n) 1) :=
  pH (O' := []) aZ.fn cO false (fT CR CP n) fun cdv A outer s H E hr =>
    (ai (aA (i := 1) (own := true) cO.nd (cn ae))
    (ai (mm (pt := .tp [2, 3]) (k8 (aG (aU c_sorted Z.pf boot_sorted (a8 (aj 0) ae)))) (wc rfl (cm (i := 2) cO.nd (cm (i := 3) cO.nd kK)))
      (ay (k7 (PW.pt (dw_and (lj (aj 1)) (dw_and1 (gq o_le (aj 2) (bc eS (bc eS (aj 1) (zE zt aa)) aa)))))
      (ay (ds_setI (i := 1) (mq (a8 (bc eS (bc eS (aj 1) (zE zt aa)) aa) (a8 (aU (Bm rfl) Z.t8 boot_max (a8 (aj 3) (a8 (bc eS (bc eS (aj 1) (zE zt aa)) aa) ae))) ae))) (zE zt aa)))
      (ay (kJ (i := 1) (mq (a8 (aj 2) (a8 (aj 3) ae))))))))
    (cC (O2 := []) (ay (aX (aj 1))))))
theorem lG : aO ["closed", "time", "start", "stop"] ["closed", "time"] (ab eT) := ⟨rfl, rfl, rfl, by decide +kernel, rfl, by decide +kernel, by decide +kernel⟩
theorem xB {n : Nat} {P : Program} {w : World} {K : PySem.W.Frag} {mg : Str -> Option Value} {base : Heap} {CR CP : Addr} (Z : Zs K mg CR CP) {aL : Addr} {bY : FuncData} (aZ : Def K mg "joined_stretches" bh ["closed"] aL bY) (fq : c6 P w K mg base CX0 1 aL bY ["closed"] (spF K false (c8 CR CP n) 1)) {cU : Addr} {gS : FuncData} (dR : Def K mg "next_open" eT ["closed", "time"] cU gS) : c6 P w K mg base CX0 2 cU gS ["closed", "time"] (spF K false (gz CR CP n) 2) :=
  pH (O' := []) dR.fn lG false (kD CR CP n) fun cdv A outer s H E hr =>
    (ai (mm (pt := .tp [2, 3]) (k8 (aM fq hr aZ.mg aZ.fn.kp aZ.bd (a8 (aj 0) ae))) (wc rfl (cm (i := 2) lG.nd (cm (i := 3) lG.nd kK)))
      (ay (k7 (wb o_le o_lt (aj 2) (aj 1) (aj 3))
      (ay (aX (aj 3)))
      g8)))
    (ay (aX (aj 1))))
theorem ph : aO ["lasts", "spot", "time", "rows"] ["lasts", "spot", "time"] (ab dC) := ⟨rfl, rfl, rfl, by decide +kernel, rfl, by decide +kernel, by decide +kernel⟩
theorem vl {n : Nat} {P : Program} {w : World} {K : PySem.W.Frag} {mg : Str -> Option Value} {base : Heap} {CR CP : Addr} (Z : Zs K mg CR CP) {cb : Addr} {fV : FuncData} (cK : Def K mg "lasts_with" dC ["lasts", "spot", "time"] cb fV) : c6 P w K mg base CX0 1 cb fV ["lasts", "spot", "time"] (spF K false (gQ CR CP n) 3) :=
  pH (O' := []) cK.fn ph false (md CR CP n) fun cdv A outer s H E hr =>
    (ds_rows (i := 3) ["row"] [none] ph.nd (k8 (aj 0)) (fun _ _ _ _ _ => nF (by decide +kernel)) (cA rfl) (fun _ _ _ _ _ => iS) (fun _ _ _ _ _ => (eN AD Z.nz PyProof.Rows.boot_list (a8 (aj 0) ae))) Ce (aj 2) (bc eS (aj 1) aa) (bc eS (aj 1) aa)
    (ay (aX (eN qH Z.gu PyProof.Rows.boot_tuple (a8 (aG (mv ["row"] [none] (k8 (aj 3)) (fun _ _ _ _ _ => nF (by decide +kernel)) (cA rfl) (fun _ _ _ _ _ => iS) (fun _ _ _ _ _ => (eN qH Z.gu PyProof.Rows.boot_tuple (a8 (aj 0) ae))))) ae)))))
theorem lH : aO ["flight", "time", "due", "price"] ["flight", "time"] (ab eU) := ⟨rfl, rfl, rfl, by decide +kernel, rfl, by decide +kernel, by decide +kernel⟩
theorem xC {n : Nat} {P : Program} {w : World} {K : PySem.W.Frag} {mg : Str -> Option Value} {base : Heap} {CR CP : Addr} (Z : Zs K mg CR CP) {cV : Addr} {gT : FuncData} (dS : Def K mg "late_cost" eU ["flight", "time"] cV gT) : c6 P w K mg base CX0 1 cV gT ["flight", "time"] (spF K false (iG CR CP n) 2) :=
  pH (O' := []) dS.fn lH false (oF CR CP n) fun cdv A outer s H E hr =>
    (ai (aA (i := 2) (own := false) lH.nd (bc eS (aj 0) aa))
    (ai (aA (i := 3) (own := false) lH.nd (bc eS (aj 0) aa))
    (ay (aX (aq o9 (aj 3) (aU (Bm rfl) Z.t8 boot_max (a8 aa (a8 (aq o_sub (aj 1) (aj 2)) ae))))))))
theorem tE : aO ["self", "one", "other"] ["self", "one", "other"] (ab cS) := ⟨rfl, rfl, rfl, by decide +kernel, rfl, by decide +kernel, by decide +kernel⟩
theorem tN {n : Nat} {P : Program} {w : World} {K : PySem.W.Frag} {mg : Str -> Option Value} {base : Heap} {CR CP : Addr} (Z : Zs K mg CR CP) {bC : Addr} {eK : FuncData} (iu : Mth K CR "apart" "Rules.apart" cS ["self", "one", "other"] bC eK) : c6 P w K mg base CX0 1 bC eK ["self", "one", "other"] (spF K false (e6 CR CP n) 3) :=
  pH (O' := []) iu.fn tE false (kH CR CP n) fun cdv A outer s H E hr =>
    (ay (aX (bc eS (bc eS (Az (Cs := [CR, CP]) Z.vU (aj 0)) (bc eS (aj 1) aa)) (bc eS (aj 2) aa))))
theorem pj : aO ["self", "one", "other", "rows"] ["self", "one", "other"] (ab dH) := ⟨rfl, rfl, rfl, by decide +kernel, rfl, by decide +kernel, by decide +kernel⟩
theorem vq {n : Nat} {P : Program} {w : World} {K : PySem.W.Frag} {mg : Str -> Option Value} {base : Heap} {CR CP : Addr} (Z : Zs K mg CR CP) {bR : Addr} {g7 : FuncData} (jo : Mth K CP "apart" "Pair.apart" dH ["self", "one", "other"] bR g7) : c6 P w K mg base CX0 1 bR g7 ["self", "one", "other"] (spF K false (dO CR CP n) 3) :=
  pH (O' := []) jo.fn pj false (jj CR CP n) fun cdv A outer s H E hr =>
    (ai (aA (i := 3) (own := false) pj.nd (de_ite (gq (o_eq hr.units) (bc eS (aj 1) aa) (bc eS (aj 2) aa)) (Az (Cs := [CR, CP]) Z.vU (aj 0)) (Az (Cs := [CP]) Z.Be (aj 0))))
    (ay (aX (bc eS (bc eS (aj 3) (bc eS (aj 1) aa)) (bc eS (aj 2) aa)))))
theorem bU : aO ["rules", "lasts", "spot", "times", "strip", "row", "kind", "last"] ["rules", "lasts", "spot"] (ab bJ) := ⟨rfl, rfl, rfl, by decide +kernel, rfl, by decide +kernel, by decide +kernel⟩
theorem qo {n : Nat} {P : Program} {w : World} {K : PySem.W.Frag} {mg : Str -> Option Value} {base : Heap} {CR CP : Addr} (Z : Zs K mg CR CP) {bC : Addr} {eK : FuncData} (q9 : Mth K CR "apart" "Rules.apart" cS ["self", "one", "other"] bC eK) (jN : c6 P w K mg base CX0 1 bC eK ["self", "one", "other"] (spF K false (e6 CR CP n) 3)) {bR : Addr} {g7 : FuncData} (qc : Mth K CP "apart" "Pair.apart" dH ["self", "one", "other"] bR g7) (lb : c6 P w K mg base CX0 1 bR g7 ["self", "one", "other"] (spF K false (dO CR CP n) 3)) {b9 : Addr} {cH : FuncData} (br : Def K mg "last_gap_times" bJ ["rules", "lasts", "spot"] b9 cH) : c6 P w K mg base CX0 2 b9 cH ["rules", "lasts", "spot"] (spF K false (d8 CR CP n) 3) :=
  pH (O' := []) br.fn bU false (hV CR CP n) fun cdv A outer s H E hr =>
    (ai (aA (i := 3) (own := true) bU.nd (cn ae))
    (ai (mm (pt := .tp [4, 5]) (Ax Z.gv (aj 1)) (wc rfl (cm (i := 4) bU.nd (cm (i := 5) bU.nd kK)))
      (ay (mm (pt := .tp [6, 7]) (Ax Z.gv (aj 5)) (wc rfl (cm (i := 6) bU.nd (cm (i := 7) bU.nd kK)))
      (ay (k7 (gq (o_ne hr.units) (aj 7) (zE zt aa))
      (ay (kJ (i := 3) (aG (aq hI (aj 7) (de_meth2 Z.kR.cl q9.mt jN hr q9.bd Z.kP.cl qc.mt lb hr qc.bd (aj 0) (a8 (mq (a8 (aj 6) (a8 (aj 4) ae))) (a8 (aj 2) ae)))))))
      g8)))))
    (cC (O2 := []) (ay (aX (aj 3))))))
theorem fH : aO ["rules", "flights", "closed", "label", "flight", "strip", "told", "spot", "time"] ["rules", "flights", "closed", "label", "flight", "strip"] (ab cy) := ⟨rfl, rfl, rfl, by decide +kernel, rfl, by decide +kernel, by decide +kernel⟩
theorem rV {n : Nat} {P : Program} {w : World} {K : PySem.W.Frag} {mg : Str -> Option Value} {base : Heap} {CR CP : Addr} (Z : Zs K mg CR CP) {cU : Addr} {gS : FuncData} (dR : Def K mg "next_open" eT ["closed", "time"] cU gS) (mP : c6 P w K mg base CX0 2 cU gS ["closed", "time"] (spF K false (gz CR CP n) 2)) {cb : Addr} {fV : FuncData} (cK : Def K mg "lasts_with" dC ["lasts", "spot", "time"] cb fV) (l7 : c6 P w K mg base CX0 1 cb fV ["lasts", "spot", "time"] (spF K false (gQ CR CP n) 3)) {cV : Addr} {gT : FuncData} (dS : Def K mg "late_cost" eU ["flight", "time"] cV gT) (mQ : c6 P w K mg base CX0 1 cV gT ["flight", "time"] (spF K false (iG CR CP n) 2)) {b9 : Addr} {cH : FuncData} (br : Def K mg "last_gap_times" bJ ["rules", "lasts", "spot"] b9 cH) (gE : c6 P w K mg base CX0 2 b9 cH ["rules", "lasts", "spot"] (spF K false (d8 CR CP n) 3)) {bA : Addr} {dP : FuncData} (bS : Def K mg "label_behind" cy ["rules", "flights", "closed", "label", "flight", "strip"] bA dP) : c6 P w K mg base CX0 3 bA dP ["rules", "flights", "closed", "label", "flight", "strip"] (spF K false (di CR CP n) 6) :=
  pH (O' := []) bS.fn fH false (gG CR CP n) fun cdv A outer s H E hr =>
    (ai (aA (i := 6) (own := false) fH.nd (bc eS (aj 1) (aj 4)))
    (ai (aA (i := 7) (own := false) fH.nd (mq (a8 (bc eS (aj 6) aa) (a8 (aj 5) ae))))
    (ai (aA (i := 8) (own := false) fH.nd (aM mP hr dR.mg dR.fn.kp dR.bd (a8 (aj 2) (a8 (aU (Bm rfl) Z.t8 boot_max (a8 (aG (aq hI (aG (cn (a8 (bc eS (aj 6) aa) ae))) (aM gE hr br.mg br.fn.kp br.bd (a8 (aj 0) (a8 (bc eS (aj 3) aa) (a8 (aj 7) ae)))))) ae)) ae))))
    (ai (k7 (gq o_gt (aj 8) (bc eS (aj 6) aa))
      (ay (aX de_non))
      g8)
    (ay (aX (mq (a8 (aG (aq hI (bc eS (aj 3) aa) (aM mQ (hr.mono (by decide)) dS.mg dS.fn.kp dS.bd (a8 (aj 6) (a8 (aj 8) ae))))) (a8 (aM l7 (hr.mono (by decide)) cK.mg cK.fn.kp cK.bd (a8 (bc eS (aj 3) aa) (a8 (aj 7) (a8 (aj 8) ae)))) ae)))))))))
theorem uZ : aO ["_law_found"] ["_law_found"] (ab dE) := ⟨rfl, rfl, rfl, by decide +kernel, rfl, by decide +kernel, by decide +kernel⟩
theorem vn {n : Nat} {P : Program} {w : World} {K : PySem.W.Frag} {mg : Str -> Option Value} {base : Heap} {CR CP : Addr} (Z : Zs K mg CR CP) {cg : Addr} {fX : FuncData} (bE : Def K mg "_law_whole" dE ["_law_found"] cg fX) : c6 P w K mg base CX0 1 cg fX ["_law_found"] (spF K false (cJ CR CP n) 1) :=
  pH (O' := []) bE.fn uZ false (mh CR CP n) fun cdv A outer s H E hr =>
    (ay (aX (CI (uB Z.kit Z.bq Z.AL (aj 0)) (de_one (de_not (sM Z.kit Z.bq Z.uk (aj 0)))))))
theorem lh : aO ["_law_found", "_law_gaps_here", "_law_row"] ["_law_found", "_law_gaps_here"] (ab bV) := ⟨rfl, rfl, rfl, by decide +kernel, rfl, by decide +kernel, by decide +kernel⟩
theorem r9 {n : Nat} {P : Program} {w : World} {K : PySem.W.Frag} {mg : Str -> Option Value} {base : Heap} {CR CP : Addr} (Z : Zs K mg CR CP) {cg : Addr} {fX : FuncData} (bE : Def K mg "_law_whole" dE ["_law_found"] cg fX) (ir : c6 P w K mg base CX0 1 cg fX ["_law_found"] (spF K false (cJ CR CP n) 1)) {bo : Addr} {d9 : FuncData} (aP : Def K mg "_law_is_label" bV ["_law_found", "_law_gaps_here"] bo d9) : c6 P w K mg base CX0 2 bo d9 ["_law_found", "_law_gaps_here"] (spF K false (cF CR CP n) 2) :=
  pH (O' := []) aP.fn lh false (iN CR CP n) fun cdv A outer s H E hr =>
    (ai (k7 (PW.pt (wa (nE (lj (mr Z.kit Z.bq Z.gu (aj 0)))) (wa (gq (o_ne hr.units) (aU nt Z.jq PySem.boot_len (a8 (aj 0) ae)) aa) (wa (nE (lj (aM ir hr bE.mg bE.fn.kp bE.bd (a8 (bc eS (aj 0) aa) ae)))) (uz (nE (lj (mr Z.kit Z.bq Z.gu (bc eS (aj 0) aa)))))))))
      (ay (aX u3))
      g8)
    (ai (k7 (gq (o_ne hr.units) (aU nt Z.jq PySem.boot_len (a8 (bc eS (aj 0) aa) ae)) (aU nt Z.jq PySem.boot_len (a8 (aj 1) ae)))
      (ay (aX u3))
      g8)
    (ai (mm (pt := .nm 2) (k8 (bc eS (aj 0) aa)) (Bj lh.nd)
      (ay (k7 (PW.pt (wa (nE (lj (mr Z.kit Z.bq Z.gu (aj 2)))) (wa (gq (o_ne hr.units) (aU nt Z.jq PySem.boot_len (a8 (aj 2) ae)) (aU nt Z.jq PySem.boot_len (a8 (bc eS (aj 1) aa) ae))) (uz (nE (lj (aU (c_all rfl) Z.yT boot_all (a8 (aG (mv ["_law_time"] [none] (k8 (aj 2)) (fun _ _ _ _ _ => nF (by decide +kernel)) (cA rfl) (fun _ _ _ _ _ => iS) (fun _ _ _ _ _ => (aM ir hr bE.mg bE.fn.kp bE.bd (a8 (aj 0) ae))))) ae))))))))
      (ay (aX u3))
      g8)))
    (ay (aX u3)))))
theorem kh : aO ["_law_gaps_here", "_law_flights_here", "_law_spots", "_law_times", "_law_costs", "_law_lasts", "_law_spot", "_law_time"] ["_law_gaps_here", "_law_flights_here", "_law_spots", "_law_times", "_law_costs"] (ab gw) := ⟨rfl, rfl, rfl, by decide +kernel, rfl, by decide +kernel, by decide +kernel⟩
theorem zo {n : Nat} {P : Program} {w : World} {K : PySem.W.Frag} {mg : Str -> Option Value} {base : Heap} {CR CP : Addr} (Z : Zs K mg CR CP) {e9 : Addr} {iQ : FuncData} (bH : Def K mg "_law_due" gw ["_law_gaps_here", "_law_flights_here", "_law_spots", "_law_times", "_law_costs"] e9 iQ) : c6 P w K mg base CX0 1 e9 iQ ["_law_gaps_here", "_law_flights_here", "_law_spots", "_law_times", "_law_costs"] (spF K false (gB CR CP n) 5) :=
  pH (O' := []) bH.fn kh false (qB CR CP n) fun cdv A outer s H E hr =>
    (Bh (i := 5) (pt := .tp [6, 7]) ["_law_rows", "_law_gaps_here"] [none, some 0] kh.nd (k8 (aj 0)) (fun _ _ _ _ _ => nF (by decide +kernel)) (cA rfl) (fun _ _ _ _ _ => iS) (fun _ _ _ _ _ => (de_rep (cn (a8 (zE zt aa) ae)) (aU nt Z.jq PySem.boot_len (a8 (bc eS (aj 1) aa) ae)))) repD_lst (di_zip Z.AK (aj 2) (aj 3)) (wc rfl (cm (i := 6) kh.nd (cm (i := 7) kh.nd kK))) (aj 7) (bc eS (aj 6) aa) (bc eS (aj 6) aa)
    (ay (aX (mq (a8 (aU (c_sum rfl) Z.Bv boot_sum (a8 (aj 4) ae)) (a8 (eN qH Z.gu PyProof.Rows.boot_tuple (a8 (aG (mv ["_law_row"] [none] (k8 (aj 5)) (fun _ _ _ _ _ => nF (by decide +kernel)) (cA rfl) (fun _ _ _ _ _ => iS) (fun _ _ _ _ _ => (eN qH Z.gu PyProof.Rows.boot_tuple (a8 (aj 0) ae))))) ae)) ae))))))
theorem v5 : aO ["_law_gaps_here", "_law_one", "_law_other"] ["_law_gaps_here", "_law_one", "_law_other"] (ab dG) := ⟨rfl, rfl, rfl, by decide +kernel, rfl, by decide +kernel, by decide +kernel⟩
theorem vp {n : Nat} {P : Program} {w : World} {K : PySem.W.Frag} {mg : Str -> Option Value} {base : Heap} {CR CP : Addr} (Z : Zs K mg CR CP) {ck : Addr} {fZ : FuncData} (cN : Def K mg "_law_apart" dG ["_law_gaps_here", "_law_one", "_law_other"] ck fZ) : c6 P w K mg base CX0 1 ck fZ ["_law_gaps_here", "_law_one", "_law_other"] (spF K false (dN CR CP n) 3) :=
  pH (O' := []) cN.fn v5 false (ji CR CP n) fun cdv A outer s H E hr =>
    (ai (k7 (gq (o_eq hr.units) (bc eS (aj 1) aa) (bc eS (aj 2) aa))
      (ay (aX (bc eS (bc eS (bc eS (aj 0) aa) (bc eS (aj 1) aa)) (bc eS (aj 2) aa))))
      g8)
    (ay (aX (bc eS (bc eS (bc eS (aj 0) aa) (bc eS (aj 1) aa)) (bc eS (aj 2) aa)))))
theorem eB : aO ["_law_script", "_law_gaps_here", "_law_rules_here", "_law_closed_here", "_law_flights_here", "_law_label", "_law_spots", "_law_times", "_law_costs", "_law_flight", "_law_strip", "_law_kind", "_law_first", "_law_last", "_law_due_here", "_law_price", "_law_ahead", "_law_time", "_law_handed", "_law_behind"] ["_law_script"] (ab AU) := ⟨rfl, rfl, rfl, by decide +kernel, rfl, by decide +kernel, by decide +kernel⟩
theorem ok_law {n : Nat} {P : Program} {w : World} {K : PySem.W.Frag} {mg : Str -> Option Value} {base : Heap} {CR CP : Addr} (Z : Zs K mg CR CP) {cY : Addr} {gX : FuncData} (dX : Def K mg "_law_gaps" eX ["_law_script"] cY gX) (mU : c6 P w K mg base CX0 3 cY gX ["_law_script"] (spF K false (gA CR CP n) 1)) {cj : Addr} {fY : FuncData} (cM : Def K mg "_law_rules" dF ["_law_gaps_here"] cj fY) (l9 : c6 P w K mg base CX0 7 cj fY ["_law_gaps_here"] (spF K false (fw CR CP n) 1)) {bP : Addr} {eJ : FuncData} (cw : Def K mg "_law_closed" cR ["_law_script"] bP eJ) (jM : c6 P w K mg base CX0 2 bP eJ ["_law_script"] (spF K false (fM CR CP n) 1)) {bB : Addr} {dQ : FuncData} (bT : Def K mg "_law_flights" cz ["_law_script", "_law_start", "_law_kinds", "_law_many"] bB dQ) (j7 : c6 P w K mg base CX0 2 bB dQ ["_law_script", "_law_start", "_law_kinds", "_law_many"] (spF K false (eE CR CP n) 4)) {bN : Addr} {eG : FuncData} (cu : Def K mg "first_label" cP ["rules"] bN eG) (jK : c6 P w K mg base CX0 2 bN eG ["rules"] (spF K false (ie CR CP n) 1)) {cW : Addr} {gU : FuncData} (dU : Def K mg "_law_plan" eV ["_law_script", "_law_many", "_law_strips"] cW gU) (mS : c6 P w K mg base CX0 2 cW gU ["_law_script", "_law_many", "_law_strips"] (spF K false (iH CR CP n) 3)) {cX : Addr} {gW : FuncData} (dW : Def K mg "_law_open" eW ["_law_closed_here", "_law_time"] cX gW) (mT : c6 P w K mg base CX0 1 cX gW ["_law_closed_here", "_law_time"] (spF K false (iI CR CP n) 2)) {bA : Addr} {dP : FuncData} (bS : Def K mg "label_behind" cy ["rules", "flights", "closed", "label", "flight", "strip"] bA dP) (j5 : c6 P w K mg base CX0 3 bA dP ["rules", "flights", "closed", "label", "flight", "strip"] (spF K false (di CR CP n) 6)) {bo : Addr} {d9 : FuncData} (aP : Def K mg "_law_is_label" bV ["_law_found", "_law_gaps_here"] bo d9) (eQ : c6 P w K mg base CX0 2 bo d9 ["_law_found", "_law_gaps_here"] (spF K false (cF CR CP n) 2)) {e9 : Addr} {iQ : FuncData} (bH : Def K mg "_law_due" gw ["_law_gaps_here", "_law_flights_here", "_law_spots", "_law_times", "_law_costs"] e9 iQ) (j8 : c6 P w K mg base CX0 1 e9 iQ ["_law_gaps_here", "_law_flights_here", "_law_spots", "_law_times", "_law_costs"] (spF K false (gB CR CP n) 5)) {ck : Addr} {fZ : FuncData} (cN : Def K mg "_law_apart" dG ["_law_gaps_here", "_law_one", "_law_other"] ck fZ) (la : c6 P w K mg base CX0 1 ck fZ ["_law_gaps_here", "_law_one", "_law_other"] (spF K false (dN CR CP n) 3)) {ar : Addr} {ax : FuncData} (af : Def K mg "_law_cell" bK ["_law_script", "_law_k"] ar ax) (ao : c6 P w K mg base CX0 1 ar ax ["_law_script", "_law_k"] (spF K false (aB CR CP n) 2)) {Bg : Addr} {fd_law : FuncData} (D_law : Def K mg "law" AU ["_law_script"] Bg fd_law) : c6 P w K mg base CX0 8 Bg fd_law ["_law_script"] (spF K false (Ca CR CP n) 1) :=
  pH (O' := []) D_law.fn eB false (g_law CR CP n) fun cdv A outer s H E hr =>
    (ai (aA (i := 1) (own := false) eB.nd (aM mU (hr.mono (by decide)) dX.mg dX.fn.kp dX.bd (a8 (aj 0) ae)))
    (ai (aA (i := 2) (own := false) eB.nd (aM l9 hr cM.mg cM.fn.kp cM.bd (a8 (aj 1) ae)))
    (ai (aA (i := 3) (own := false) eB.nd (aM jM (hr.mono (by decide)) cw.mg cw.fn.kp cw.bd (a8 (aj 0) ae)))
    (ai (aA (i := 4) (own := false) eB.nd (aM j7 (hr.mono (by decide)) bT.mg bT.fn.kp bT.bd (a8 (aj 0) (a8 aa (a8 (aU nt Z.jq PySem.boot_len (a8 (bc eS (aj 1) aa) ae)) (a8 (aG (aq hI aa (aq eY (aq eD (aM ao (hr.mono (by decide)) af.mg af.fn.kp af.bd (a8 (aj 0) (a8 aa ae))) aa) aa))) ae))))))
    (ai (aA (i := 5) (own := false) eB.nd (aM jK (hr.mono (by decide)) cu.mg cu.fn.kp cu.bd (a8 (aj 2) ae)))
    (ai (k7 (PW.pt (wa (nE (lj (aM eQ (hr.mono (by decide)) aP.mg aP.fn.kp aP.bd (a8 (aj 5) (a8 (aj 1) ae))))) (uz (gq (o_ne hr.units) (aj 5) (aM j8 (hr.mono (by decide)) bH.mg bH.fn.kp bH.bd (a8 (aj 1) (a8 (aj 4) (a8 (aG (cn ae)) (a8 (aG (cn ae)) (a8 (aG (cn ae)) ae))))))))))
      (ay (aX u3))
      g8)
    (ai (aA (i := 6) (own := true) eB.nd (cn ae))
    (ai (aA (i := 7) (own := true) eB.nd (cn ae))
    (cC (O2 := [6, 7]) (ai (aA (i := 8) (own := true) eB.nd (cn ae))
    (cC (O2 := [6, 7, 8]) (ai (mm (pt := .tp [9, 10]) (k8 (aM mS (hr.mono (by decide)) dU.mg dU.fn.kp dU.bd (a8 (aj 0) (a8 (aU nt Z.jq PySem.boot_len (a8 (aj 4) ae)) (a8 (aU nt Z.jq PySem.boot_len (a8 (aj 1) ae)) ae))))) (wc rfl (cm (i := 9) eB.nd (cm (i := 10) eB.nd kK)))
      (ai (ds_unpB (bc eS (aj 4) (aj 9)) (wc rfl (cm (i := 11) eB.nd (cm (i := 12) eB.nd (cm (i := 13) eB.nd (cm (i := 14) eB.nd (cm (i := 15) eB.nd kK)))))))
    (ai (ds_compA (i := 16) true ["_law_spot", "_law_time", "_law_gaps_here", "_law_strip", "_law_kind"] [none, none, some 1, some 10, some 11] eB.nd (di_zip Z.AK (aj 6) (aj 7)) (fun _ _ _ _ _ => wc rfl (pM (i := 0) (by decide +kernel) (pM (i := 1) (by decide +kernel) kK))) (xY (by decide)) (fun _ _ _ _ _ => iS) (fun _ _ _ _ _ => (aG (aq hI (aj 1) (aM la (hr.mono (by decide)) cN.mg cN.fn.kp cN.bd (a8 (aj 2) (a8 (aj 0) (a8 (mq (a8 (aj 4) (a8 (aj 3) ae))) ae))))))))
    (cC (O2 := [6, 7, 8]) (ai (aA (i := 17) (own := false) eB.nd (aM mT (hr.mono (by decide)) dW.mg dW.fn.kp dW.bd (a8 (aj 3) (a8 (aU (Bm rfl) Z.t8 boot_max (a8 (aG (aq hI (aG (cn (a8 (aj 12) ae))) (aj 16))) ae)) ae))))
    (ai (aA (i := 18) (own := false) eB.nd (aG (cn (a8 (aG (eN AD Z.nz PyProof.Rows.boot_list (a8 (aj 4) ae))) (a8 (aG (eN AD Z.nz PyProof.Rows.boot_list (a8 (aj 3) ae))) ae)))))
    (ai (aA (i := 19) (own := false) eB.nd (aM j5 (hr.mono (by decide)) bS.mg bS.fn.kp bS.bd (a8 (aj 2) (a8 (bc eS (aj 18) aa) (a8 (bc eS (aj 18) aa) (a8 (aj 5) (a8 (aj 9) (a8 (aj 10) ae))))))))
    (ai (k7 (PW.pt (wa (gq (o_ne hr.units) (aj 5) (aM j8 (hr.mono (by decide)) bH.mg bH.fn.kp bH.bd (a8 (aj 1) (a8 (aj 4) (a8 (aj 6) (a8 (aj 7) (a8 (aj 8) ae))))))) (uz (gq (o_ne hr.units) (aj 18) (aG (cn (a8 (aj 4) (a8 (aj 3) ae))))))))
      (cC (O2 := []) (ay (aX u3)))
      g8)
    (ai (k7 (gq o_gt (aj 17) (aj 13))
      (cC (O2 := []) (ay (aX (de_cmp o_isN (aj 19) de_non))))
      g8)
    (ai (kJ (i := 6) (mq (a8 (aj 11) (a8 (aj 10) ae))))
    (ai (kJ (i := 7) (aj 17))
    (ai (kJ (i := 8) (aq o9 (aj 15) (aU (Bm rfl) Z.t8 boot_max (a8 aa (a8 (aq o_sub (aj 17) (aj 14)) ae)))))
    (ai (k7 (PW.pt (wa (nE (lj (aM eQ (hr.mono (by decide)) aP.mg aP.fn.kp aP.bd (a8 (aj 19) (a8 (aj 1) ae))))) (uz (gq (o_ne hr.units) (aj 19) (aM j8 (hr.mono (by decide)) bH.mg bH.fn.kp bH.bd (a8 (aj 1) (a8 (aj 4) (a8 (aj 6) (a8 (aj 7) (a8 (aj 8) ae))))))))))
      (cC (O2 := []) (ay (aX u3)))
      g8)
    (ay (aA (i := 5) (own := false) eB.nd (aj 19))))))))))))))))
    (cC (O2 := []) (ay (aX u3)))))))))))))))
noncomputable abbrev eu := Int × Int
noncomputable def stD (p : eu) : Dat := .tup [.int p.1, .int p.2]
theorem wX : ∀ cs : List eu, n8 (cs.map stD) = .ok (cs.map fun p => [p.1, p.2])
  | [] => rfl
  | p :: cs => by simp [n8, tupD, stD, e8, wX cs]
theorem BD (cs : List eu) (hl : cs.length < 64) : ∃ ss : List eu, qh [.lst (cs.map stD)] = .ok (.lst (ss.map stD)) /\ ss.Perm cs /\ ss.Pairwise (fun p q => p.1 <= q.1) := by
  cases hc : cs with
  | nil => exact ⟨[], by simp [qh, xa, e8, pD], List.Perm.refl _, List.Pairwise.nil⟩
  | cons p ps =>
    rw [<- hc]
    have hi : ∃ e, e8 (cs.map stD) = .error e := ⟨.stuck, by rw [hc]; simp [e8, stD, asI]⟩
    obtain ⟨e, he⟩ := hi
    have hne : ((cs.map fun p => [p.1, p.2]).all fun t => !t.isEmpty) = true := by simp
    have es : qh [.lst (cs.map stD)] = .ok (.lst ((pD sj (cs.map fun p => [p.1, p.2])).map tupZ)) := by
      simp only [qh, xa, List.length_map, hl, if_true, he, wX, ak, hne]
    have hp := qz (lt := sj) (cs.map fun p => [p.1, p.2])
    have hs := m5 BV (cs.map fun p => [p.1, p.2])
    generalize pD sj (cs.map fun p => [p.1, p.2]) = L at *
    let back : List Int -> eu := fun l => (l.getD 0 0, l.getD 1 0)
    have hL : ∀ l ∈ L, ∃ p : eu, l = [p.1, p.2] := fun l h => by
      have := hp.mem_iff.mp h
      simp only [List.mem_map] at this
      obtain ⟨p, _, e⟩ := this
      exact ⟨p, e.symm⟩
    refine ⟨L.map back, ?_, ?_, ?_⟩
    · rw [es, List.map_map]
      congr 2
      refine List.map_congr_left fun l h => ?_
      obtain ⟨p, rfl⟩ := hL l h
      rfl
    · have := hp.map back
      rw [List.map_map] at this
      have e2 : List.map (back ∘ fun p => [p.1, p.2]) cs = cs := by
        rw [List.map_congr_left (g := id)]
        · simp
        · intro p _; rfl
      rwa [e2] at this
    · rw [List.pairwise_map]
      refine hs.imp_of_mem fun {a b} ha hb h => ?_
      obtain ⟨p, rfl⟩ := hL a ha
      obtain ⟨q, rfl⟩ := hL b hb
      show p.1 <= q.1
      simp only [sj] at h
      by_cases e1 : q.1 = p.1
      · omega
      · rw [if_neg e1] at h
        have := of_decide_eq_false h
        omega
@[simp] theorem getI_c0 (a : Dat) (l : List Dat) : n6 (a :: l) 0 = .ok a := by
  unfold n6 atI ixN
  rw [if_pos (by omega), if_pos (by simp <;> omega)]
  rfl
@[simp] theorem getI_c1 (a b : Dat) (l : List Dat) : n6 (a :: b :: l) 1 = .ok b := by
  unfold n6 atI ixN
  rw [if_pos (by omega), if_pos (by simp <;> omega)]
  rfl
@[simp] theorem getI_c2 (a b c : Dat) (l : List Dat) : n6 (a :: b :: c :: l) 2 = .ok c := by
  unfold n6 atI ixN
  rw [if_pos (by omega), if_pos (by simp <;> omega)]
  rfl
@[simp] theorem getI_c3 (a b c d : Dat) (l : List Dat) : n6 (a :: b :: c :: d :: l) 3 = .ok d := by
  unfold n6 atI ixN
  rw [if_pos (by omega), if_pos (by simp <;> omega)]
  rfl
@[simp] theorem getI_c4 (a b c d e : Dat) (l : List Dat) : n6 (a :: b :: c :: d :: e :: l) 4 = .ok e := by
  unfold n6 atI ixN
  rw [if_pos (by omega), if_pos (by simp <;> omega)]
  rfl
section
variable (CR CP : Addr)
noncomputable def ja (r : List Int) : Dat := .lst (r.map .int)
noncomputable def aS (rows : List (List Int)) : Dat := .lst (rows.map ja)
noncomputable def t7 (k : Nat) (r : List Int) : Prop := r.length = k /\ ∀ x ∈ r, 0 <= x /\ x <= 1000000
noncomputable def jm (k : Nat) (rows : List (List Int)) : Prop := rows.length = k /\ ∀ r ∈ rows, t7 k r
theorem AX {lo : Int} {m i : Nat} {d : Dat} (h : (bz lo m)[i]? = some d) : i < m /\ d = .int (lo + i) := by
  unfold bz at h
  rw [List.getElem?_map] at h
  obtain ⟨a, h1, h2⟩ := Option.map_eq_some_iff.mp h
  have hi := (List.getElem?_eq_some_iff.mp h1).1
  rw [List.length_range] at hi
  rw [List.getElem?_range hi] at h1
  cases h1
  exact ⟨hi, h2.symm⟩
theorem jP {m i : Nat} {d : Dat} (h : (bz 0 m)[i]? = some d) : i < m /\ d = .int i := by
  obtain ⟨h1, h2⟩ := AX h
  exact ⟨h1, by rw [h2, Int.zero_add]⟩
theorem dh (lo : Int) (m : Nat) : (bz lo m).length = m := by unfold bz; simp
end
section
variable (CR CP : Addr)
theorem Co (n : Nat) (x : Int) (h0 : 0 <= x) (h1 : x <= 1000000) : kq CR CP n [.int x] = .ok (.bl true) := by simp [kq, vT, uH, h0, h1]
theorem vQ (n : Nat) (k : Nat) (r : List Int) (hk : k <= 6) (h : t7 k r) : dM CR CP n [ja r, .int k] = .ok (.bl true) := by
  have hl : r.length <= 16777216 := by have := h.1; omega
  have hk' : k <= 16777216 := by omega
  have e : bf (.nm 0) rp (fL (kq CR CP n) (a9 (ah 0) aJ)) [none] (r.map .int) = .ok ((r.map fun _ => true).map Dat.bl) := by
    have := eO (p := .nm 0) (fe := fL (kq CR CP n) (a9 (ah 0) aJ)) (ρ0 := [none]) (fun _ => .bl true) (r.map .int) (fun d hd => by
      obtain ⟨x, hx, rfl⟩ := List.mem_map.mp hd
      exact ⟨[some (.int x)], by simp, by simp [Co CR CP n x (h.2 x hx).1 (h.2 x hx).2]⟩)
    rw [this, List.map_map, List.map_map]
    rfl
  simp [dM, mf, ja, e, hl, hk', h.1, -List.map_map]
theorem CM (n : Nat) (rows : List (List Int)) (hl : rows.length <= 1000) : fK CR CP n [aS rows] = .ok (aS rows) := by
  have hl2 : rows.length <= 16777216 := by omega
  have e : bf (.nm 0) rp (fL pB (a9 (ah 0) aJ)) [none] (rows.map ja) = .ok (rows.map ja) := by
    have := eO (p := .nm 0) (fe := fL pB (a9 (ah 0) aJ)) (ρ0 := [none]) id (rows.map ja) (fun d hd => by
      obtain ⟨x, hx, rfl⟩ := List.mem_map.mp hd
      exact ⟨[some (ja x)], by simp, by simp [ja]⟩)
    rw [this, List.map_id]
  simp [fK, kE, aS, e, hl2]
theorem uG (n : Nat) (k : Nat) (rows : List (List Int)) (h1 : 1 <= k) (h6 : k <= 6) (h : jm k rows) : az CR CP n [aS rows] = .ok (aS rows) := by
  have hl2 : rows.length <= 16777216 := by have := h.1; omega
  have e : bf (.nm 0) rp (fL (dM CR CP n) (a9 (ah 0) (a9 (ah 1) aJ))) [none, some (.int rows.length)] (rows.map ja) = .ok ((rows.map fun _ => true).map Dat.bl) := by
    have := eO (p := .nm 0) (fe := fL (dM CR CP n) (a9 (ah 0) (a9 (ah 1) aJ))) (ρ0 := [none, some (.int rows.length)]) (fun _ => .bl true) (rows.map ja) (fun d hd => by
      obtain ⟨x, hx, rfl⟩ := List.mem_map.mp hd
      exact ⟨[some (ja x), some (.int rows.length)], by simp, by simp [h.1, vQ CR CP n k x h6 (h.2 x hx)]⟩)
    rw [this, List.map_map, List.map_map]
    rfl
  have a1 : (1 : Int) <= rows.length := by have := h.1; omega
  have a2 : (rows.length : Int) <= 6 := by have := h.1; omega
  have e3 := CM CR CP n rows (by have := h.1; omega)
  simp only [aS] at e3
  simp [az, jA, lu, lr, aS, e, e3, hl2, a1, a2, -List.map_map]
noncomputable def aT (rows : List (List Int)) : Dat -> Dat
  | .non => .ins CR [("gaps", aS rows)]
  | o => .ins CP [("gaps", aS rows), ("beside", o)]
theorem vS (rows : List (List Int)) (o : Dat) (ho : o = .non \/ ∃ tF, o = aS tF) : ue [CR, CP] "gaps" (aT CR CP rows o) = .ok (aS rows) := by
  have h1 : ((("gaps" : Str) == ("gaps" : Str)) = true) := by decide +kernel
  rcases ho with rfl | ⟨tF, rfl⟩
  · show (if ([CR, CP].contains CR) = true then (match List.lookup ("gaps" : Str) [(("gaps" : Str), aS rows)] with | some d => Except.ok d | none => stk) else stk) = _
    rw [if_pos (by simp), List.lookup_cons, h1]
  · show (if ([CR, CP].contains CP) = true then (match List.lookup ("gaps" : Str) [(("gaps" : Str), aS rows), (("beside" : Str), aS tF)] with | some d => Except.ok d | none => stk) else stk) = _
    rw [if_pos (by simp), List.lookup_cons, h1]
end
structure Fli where
  kind : Int
  first : Int
  last : Int
  due : Int
  price : Int
noncomputable def flD (f : Fli) : Dat := .tup [.int f.kind, .int f.first, .int f.last, .int f.due, .int f.price]
structure yS (k : Nat) (f : Fli) : Prop where
  k0 : 0 <= f.kind
  k1 : f.kind < k
  f0 : 0 <= f.first
  f1 : f.first <= f.last
  l1 : f.last <= 1000000000
  d0 : 0 <= f.due
  d1 : f.due <= 1000000000
  p0 : 0 <= f.price
  p1 : f.price <= 1000000000
noncomputable def fy (fl : List Fli) (i : Int) : Fli := match fl[i.toNat]? with
  | some f => f
  | none => ⟨0, 0, 0, 0, 0⟩
theorem getFl {fl : List Fli} {i : Int} (h0 : 0 <= i) (h1 : i < fl.length) : n6 (fl.map flD) i = .ok (flD (fy fl i)) /\ fy fl i ∈ fl := by
  have hj : i.toNat < fl.length := by omega
  have e : fy fl i = fl[i.toNat] := by unfold fy; rw [List.getElem?_eq_getElem hj]
  refine ⟨?_, by rw [e]; exact List.getElem_mem hj⟩
  have := rH (ds := fl.map flD) (k := i.toNat) (by simpa using hj)
  rw [show ((i.toNat : Nat) : Int) = i by omega] at this
  rw [this, e]
  simp
noncomputable def Cov (cs : List eu) (t : Int) : Prop := ∃ p ∈ cs, p.1 <= t /\ t < p.2
noncomputable def t6 (cs : List eu) (t u : Int) : Prop := t <= u /\ ¬ Cov cs u /\ ∀ v, t <= v -> v < u -> Cov cs v
noncomputable def D7 (cs : List eu) (t u : Int) : Prop := u <= t /\ ¬ Cov cs u /\ ∀ v, u < v -> v <= t -> Cov cs v
theorem t6.uniq {cs : List eu} {t u v : Int} (h : t6 cs t u) (k : t6 cs t v) : u = v := by
  rcases Int.lt_trichotomy u v with e | e | e
  · exact absurd (k.2.2 u h.1 e) h.2.1
  · exact e
  · exact absurd (h.2.2 v k.1 e) k.2.1
theorem D7.uniq {cs : List eu} {t u v : Int} (h : D7 cs t u) (k : D7 cs t v) : u = v := by
  rcases Int.lt_trichotomy u v with e | e | e
  · exact absurd (h.2.2 v e k.1) k.2.1
  · exact e
  · exact absurd (k.2.2 u e h.1) h.2.1
theorem CL (t : Int) : ¬ Cov [] t := fun ⟨_, h, _⟩ => by simp at h
theorem AA {p : eu} {cs : List eu} {t : Int} : Cov (p :: cs) t ↔ (p.1 <= t /\ t < p.2) \/ Cov cs t := by
  constructor
  · rintro ⟨q, h, h2⟩
    rcases List.mem_cons.mp h with e | e
    · subst e; exact .inl h2
    · exact .inr ⟨q, e, h2⟩
  · rintro (h | ⟨q, h, h2⟩)
    · exact ⟨p, by simp, h⟩
    · exact ⟨q, by simp [h], h2⟩
theorem k9 {as bs : List eu} {t : Int} : Cov (as ++ bs) t ↔ Cov as t \/ Cov bs t := by
  constructor
  · rintro ⟨q, h, h2⟩
    rcases List.mem_append.mp h with e | e
    · exact .inl ⟨q, e, h2⟩
    · exact .inr ⟨q, e, h2⟩
  · rintro (⟨q, h, h2⟩ | ⟨q, h, h2⟩)
    · exact ⟨q, by simp [h], h2⟩
    · exact ⟨q, by simp [h], h2⟩
theorem cov_perm {as bs : List eu} (h : as.Perm bs) {t : Int} : Cov as t ↔ Cov bs t := ⟨fun ⟨p, m, q⟩ => ⟨p, h.mem_iff.mp m, q⟩, fun ⟨p, m, q⟩ => ⟨p, h.mem_iff.mpr m, q⟩⟩
theorem zI {p : eu} {t : Int} : Cov [p] t ↔ p.1 <= t /\ t < p.2 := by rw [AA]; simp [CL]
noncomputable def tAt (ts : List Int) (i : Nat) : Int := ts.getD i 0
noncomputable def rwAt (rows : List (List Int)) (i : Int) : List Int := rows.getD i.toNat []
noncomputable def at2 (rows : List (List Int)) (i j : Int) : Int := (rwAt rows i).getD j.toNat 0
noncomputable def apS (rows r2 : List (List Int)) (a b : eu) : Int := if a.2 = b.2 then at2 rows a.1 b.1 else at2 r2 a.1 b.1
noncomputable def spot (fl : List Fli) (p : eu) : eu := ((fy fl p.1).kind, p.2)
structure Wo where
  k : Nat
  rows : List (List Int)
  r2 : List (List Int)
  o : Dat
  fl : List Fli
  cs : List eu
  qs : List eu
structure Wo.Good (w : Wo) : Prop where
  k1 : 1 <= w.k
  k6 : w.k <= 6
  rows : jm w.k w.rows
  o : (w.o = .non /\ ∀ p ∈ w.qs, p.2 = 0) \/ (w.o = aS w.r2 /\ jm w.k w.r2)
  fl : ∀ f ∈ w.fl, yS w.k f
  fll : w.fl.length <= 60
  cs : ∀ p ∈ w.cs, p.1 < p.2
  csl : w.cs.length <= 20
  qs : ∀ p ∈ w.qs, 0 <= p.1 /\ p.1 < w.fl.length
  qsl : w.qs.length = w.fl.length
theorem getR {k : Nat} {rows : List (List Int)} (g : jm k rows) {i : Int} (h0 : 0 <= i) (h1 : i < k) : n6 (rows.map ja) i = .ok (ja (rwAt rows i)) /\ t7 k (rwAt rows i) := by
  have hl := g.1
  have hj : i.toNat < rows.length := by omega
  have e : rwAt rows i = rows[i.toNat] := by simp [rwAt, hj]
  refine ⟨?_, by rw [e]; exact g.2 _ (List.getElem_mem hj)⟩
  have := rH (ds := rows.map ja) (k := i.toNat) (by simpa using hj)
  rw [show ((i.toNat : Nat) : Int) = i by omega] at this
  rw [this, e]
  simp
theorem getA {k : Nat} {rows : List (List Int)} (g : jm k rows) {i j : Int} (h0 : 0 <= i) (h1 : i < k) (h2 : 0 <= j) (h3 : j < k) : n6 ((rwAt rows i).map .int) j = .ok (.int (at2 rows i j)) /\ 0 <= at2 rows i j := by
  have gr := (getR g h0 h1).2
  have hl := gr.1
  have hj : j.toNat < (rwAt rows i).length := by omega
  have e : at2 rows i j = (rwAt rows i)[j.toNat] := by simp [at2, hj]
  refine ⟨?_, by rw [e]; exact (gr.2 _ (List.getElem_mem hj)).1⟩
  rw [getI_int h2 (by omega), e]
theorem lookA1 (d : Dat) : List.lookup ("apart" : Str) [(("gaps" : Str), d)] = none := by
  rw [List.lookup_cons, show ((("apart" : Str) == ("gaps" : Str)) = false) from by decide +kernel]
  rfl
theorem lookA2 (d e : Dat) : List.lookup ("apart" : Str) [(("gaps" : Str), d), (("beside" : Str), e)] = none := by
  rw [List.lookup_cons, show ((("apart" : Str) == ("gaps" : Str)) = false) from by decide +kernel]
  show List.lookup ("apart" : Str) [(("beside" : Str), e)] = none
  rw [List.lookup_cons, show ((("apart" : Str) == ("beside" : Str)) = false) from by decide +kernel]
  rfl
section
variable (CR CP : Addr)
theorem CY (rows r2 : List (List Int)) : ue [CP] "beside" (aT CR CP rows (aS r2)) = .ok (aS r2) := by
  have h1 : ((("beside" : Str) == ("gaps" : Str)) = false) := by decide +kernel
  have h2 : ((("beside" : Str) == ("beside" : Str)) = true) := by decide +kernel
  show (if ([CP].contains CP) = true then (match List.lookup ("beside" : Str) [(("gaps" : Str), aS rows), (("beside" : Str), aS r2)] with | some d => Except.ok d | none => stk) else stk) = _
  rw [if_pos (by simp), List.lookup_cons, h1]
  show (match List.lookup ("beside" : Str) [(("beside" : Str), aS r2)] with | some d => Except.ok d | none => stk) = _
  rw [List.lookup_cons, h2]
end
theorem Av {p : Pat} {g : ag -> M Flo} (P : Nat -> ag -> Prop) (R : Dat -> Prop) : ∀ (ds : List Dat) (k : Nat) (ρ : ag), P k ρ ->
    (∀ (i : Nat) (d : Dat) (ρ : ag), ds[i]? = some d -> P (k + i) ρ -> ∃ ρ1, fD p d ρ = .ok ρ1 /\ ((∃ ρ2, g ρ1 = .ok (.nx ρ2) /\ P (k + i + 1) ρ2) \/ (∃ r, g ρ1 = .ok (.rt r) /\ R r))) ->
    (∃ ρ', mi p g ds ρ = .ok (.nx ρ') /\ P (k + ds.length) ρ') \/ (∃ r, mi p g ds ρ = .ok (.rt r) /\ R r)
  | [], k, ρ, h, _ => .inl ⟨ρ, rfl, h⟩
  | d :: ds, k, ρ, h, st => by
    obtain ⟨ρ1, e1, h1⟩ := st 0 d ρ rfl h
    rcases h1 with ⟨ρ2, e2, h2⟩ | ⟨r, e2, hr⟩
    · have ih := Av P R ds (k + 1) ρ2 h2 fun i d' ρ he hp => by
        have := st (i + 1) d' ρ (by simpa using he) (by rw [show k + (i + 1) = k + 1 + i by omega]; exact hp)
        rw [show k + (i + 1) = k + 1 + i by omega] at this
        exact this
      have e : mi p g (d :: ds) ρ = mi p g ds ρ2 := by rw [mi, e1]; simp only [ak, e2]
      rcases ih with ⟨ρ', e3, h3⟩ | ⟨r, e3, hr⟩
      · exact .inl ⟨ρ', by rw [e]; exact e3, by rw [show k + (d :: ds).length = k + 1 + ds.length by simp; omega]; exact h3⟩
      · exact .inr ⟨r, by rw [e]; exact e3, hr⟩
    · exact .inr ⟨r, by rw [mi, e1]; simp only [ak, e2], hr⟩
noncomputable def uL (js : List eu) : Prop := js.Pairwise (fun p q => p.2 < q.1) /\ ∀ p ∈ js, p.1 < p.2
theorem Ar (n : Nat) : ixN (n + 1) (-1) = some n := by unfold ixN; simp <;> omega
@[simp] theorem getI_last (ds : List Dat) (d : Dat) : n6 (ds ++ [d]) (-1) = .ok d := by
  unfold n6 atI
  rw [List.length_append, List.length_singleton, Ar]
  simp
noncomputable def lg (js done : List eu) : Prop := uL js /\ (∀ t, Cov js t ↔ Cov done t) /\ js.length <= done.length /\ ∀ j ∈ js, ∃ d ∈ done, d.1 = j.1
theorem lg.new {js done : List eu} {p : eu} (h : lg js done) (hp : p.1 < p.2) (hlt : ∀ x ∈ js, x.2 < p.1) : lg (js ++ [p]) (done ++ [p]) := by
  obtain ⟨⟨h1, h2⟩, h3, h4, h5⟩ := h
  refine ⟨⟨?_, ?_⟩, ?_, by simp; exact h4, ?_⟩
  · rw [List.pairwise_append]
    exact ⟨h1, by simp, fun a ha b hb => by simp at hb; subst hb; exact hlt a ha⟩
  · intro x hx
    rcases List.mem_append.mp hx with e | e
    · exact h2 x e
    · simp at e; subst e; exact hp
  · intro t; rw [k9, k9, h3]
  · intro j hj
    rcases List.mem_append.mp hj with e | e
    · obtain ⟨d, m, z⟩ := h5 j e; exact ⟨d, by simp [m], z⟩
    · simp at e; subst e; exact ⟨j, by simp, rfl⟩
theorem lg.more {js0 done : List eu} {q p : eu} (h : lg (js0 ++ [q]) done) (hp : p.1 < p.2) (h1 : q.1 <= p.1) (h2 : p.1 <= q.2) : lg (js0 ++ [(q.1, gZ p.2 q.2)]) (done ++ [p]) := by
  obtain ⟨⟨a1, a2⟩, a3, a4, a5⟩ := h
  have hq : q.1 < q.2 := a2 q (by simp)
  have hm1 : p.2 <= gZ p.2 q.2 := by unfold gZ; split <;> omega
  have hm2 : q.2 <= gZ p.2 q.2 := by unfold gZ; split <;> omega
  have hm3 : gZ p.2 q.2 = p.2 \/ gZ p.2 q.2 = q.2 := by unfold gZ; split <;> omega
  rw [List.pairwise_append] at a1
  refine ⟨⟨?_, ?_⟩, ?_, by simp at a4 ⊢; omega, ?_⟩
  · rw [List.pairwise_append]
    exact ⟨a1.1, by simp, fun a ha b hb => by simp at hb; subst hb; exact a1.2.2 a ha q (by simp)⟩
  · intro x hx
    rcases List.mem_append.mp hx with e | e
    · exact a2 x (by simp [e])
    · simp at e; subst e; show q.1 < gZ p.2 q.2; omega
  · intro t
    have := a3 t
    rw [k9, zI] at this
    rw [k9, k9, <- this, zI, zI]
    show Cov js0 t \/ q.1 <= t /\ t < gZ p.2 q.2 ↔ _
    constructor
    · rintro (z | z)
      · exact .inl (.inl z)
      · by_cases e : t < q.2
        · exact .inl (.inr ⟨z.1, e⟩)
        · exact .inr (by omega)
    · rintro ((z | z) | z)
      · exact .inl z
      · exact .inr (by omega)
      · exact .inr (by omega)
  · intro j hj
    rcases List.mem_append.mp hj with e | e
    · obtain ⟨d, m, z⟩ := a5 j (by simp [e]); exact ⟨d, by simp [m], z⟩
    · simp at e; subst e
      obtain ⟨d, m, z⟩ := a5 q (by simp)
      exact ⟨d, by simp [m], z⟩
theorem yg {g : ag -> M Flo} {c : Option Dat} {t : Int} (r : eu -> Dat) (hg : ∀ p : eu, g [c, some (.int t), some (.int p.1), some (.int p.2)] = if p.1 <= t /\ t < p.2 then .ok (.rt (r p)) else .ok (.nx [c, some (.int t), some (.int p.1), some (.int p.2)])) :
    ∀ (js : List eu) (z1 z2 : Option Dat), (∃ p ∈ js, (p.1 <= t /\ t < p.2) /\ mi (.tp [2, 3]) g (js.map stD) [c, some (.int t), z1, z2] = .ok (.rt (r p))) \/ (¬ Cov js t /\ ∃ z1' z2', mi (.tp [2, 3]) g (js.map stD) [c, some (.int t), z1, z2] = .ok (.nx [c, some (.int t), z1', z2']))
  | [], z1, z2 => .inr ⟨CL t, z1, z2, rfl⟩
  | p :: js, z1, z2 => by
    have hb : fD (.tp [2, 3]) (stD p) [c, some (.int t), z1, z2] = .ok [c, some (.int t), some (.int p.1), some (.int p.2)] := by simp [stD]
    by_cases h : p.1 <= t /\ t < p.2
    · refine .inl ⟨p, by simp, h, ?_⟩
      rw [List.map_cons, mi, hb, ak, hg, if_pos h]
      rfl
    · have e : mi (.tp [2, 3]) g ((p :: js).map stD) [c, some (.int t), z1, z2] = mi (.tp [2, 3]) g (js.map stD) [c, some (.int t), some (.int p.1), some (.int p.2)] := by
        rw [List.map_cons, mi, hb, ak, hg, if_neg h]
        rfl
      rcases yg r hg js (some (.int p.1)) (some (.int p.2)) with ⟨q, hq, h2, h3⟩ | ⟨h2, h3⟩
      · exact .inl ⟨q, by simp [hq], h2, by rw [e]; exact h3⟩
      · refine .inr ⟨fun z => ?_, by rw [e]; exact h3⟩
        rcases AA.mp z with z | z
        · exact h z
        · exact h2 z
theorem uL.tri : ∀ {js : List eu}, uL js -> ∀ p ∈ js, ∀ q ∈ js, p = q \/ p.2 < q.1 \/ q.2 < p.1
  | [], _, p, hp, _, _ => by simp at hp
  | a :: js, ⟨h1, h2⟩, p, hp, q, hq => by
    rw [List.pairwise_cons] at h1
    rcases List.mem_cons.mp hp with e | e <;> rcases List.mem_cons.mp hq with e2 | e2
    · exact .inl (e.trans e2.symm)
    · subst e; exact .inr (.inl (h1.1 q e2))
    · subst e2; exact .inr (.inr (h1.1 p e))
    · exact uL.tri (js := js) ⟨h1.2, fun x hx => h2 x (by simp [hx])⟩ p e q e2
section
variable (CR CP : Addr)
theorem Ci (n : Nat) (cs : List eu) (hl : cs.length < 64) (hs : ∀ p ∈ cs, p.1 < p.2) : ∃ js : List eu, c8 CR CP n [.lst (cs.map stD)] = .ok (.lst (js.map stD)) /\ uL js /\ (∀ t, Cov js t ↔ Cov cs t) /\ js.length <= cs.length := by
  obtain ⟨ss, e, hp, hw⟩ := BD cs hl
  have hlen : ss.length = cs.length := hp.length_eq
  have key := jk (p := .tp [2, 3]) (g := bM CR CP n)
    (fun k ρ => ∃ js z1 z2, ρ = [some (.lst (cs.map stD)), some (.lst (js.map stD)), z1, z2] /\ lg js (ss.take k)) (ss.map stD) 0 [some (.lst (cs.map stD)), some (.lst []), none, none] ⟨[], none, none, rfl, ⟨by simp [uL], fun t => Iff.rfl, by simp, by simp⟩⟩ (by
    rintro i d ρ hd ⟨js, z1, z2, rfl, hj⟩
    rw [List.getElem?_map] at hd
    obtain ⟨p, hpi, rfl⟩ := Option.map_eq_some_iff.mp hd
    obtain ⟨hi, hpe⟩ := List.getElem?_eq_some_iff.mp hpi
    have htk : ss.take (0 + i + 1) = ss.take (0 + i) ++ [p] := by rw [Nat.zero_add, List.take_succ, hpi]; rfl
    have hpp : p.1 < p.2 := hs p (hp.mem_iff.mp (List.mem_of_getElem? hpi))
    have hstart : ∀ j ∈ js, j.1 <= p.1 := fun j hjm => by
      obtain ⟨d, dm, de⟩ := hj.2.2.2 j hjm
      rw [Nat.zero_add] at dm
      obtain ⟨m, hm, hme⟩ := List.mem_take_iff_getElem.mp dm
      have := List.pairwise_iff_getElem.mp hw m i (by omega) hi (by omega)
      rw [hme, hpe] at this
      omega
    have hjl : js.length < 64 := by
      have := hj.2.2.1
      rw [List.length_take] at this
      omega
    refine ⟨_, by simp [stD]; rfl, ?_⟩
    rw [htk]
    rcases List.eq_nil_or_concat js with e0 | ⟨js0, q, e0⟩
    · subst e0
      refine ⟨_, .inl (by simp [bM, cD]; rfl), [p], some (.int p.1), some (.int p.2), by simp [stD], by simpa using hj.new hpp (by simp)⟩
    · rw [List.concat_eq_append] at e0
      subst e0
      by_cases hc : p.1 <= q.2
      · refine ⟨_, .inl (by simp [bM, cD, stD, hc, pI, qQ, Ar]; rfl), js0 ++ [(q.1, gZ p.2 q.2)], some (.int p.1), some (.int p.2), ?_, hj.more hpp (hstart q (by simp)) hc⟩
        simp [stD]
      · have hlt : ∀ x ∈ js0 ++ [q], x.2 < p.1 := fun x hx => by
          rcases List.mem_append.mp hx with e | e
          · have h1 := (List.pairwise_append.mp hj.1.1).2.2 x e q (by simp)
            have h2 := hj.1.2 q (by simp)
            omega
          · simp at e; subst e; omega
        simp at hjl
        have hjl2 : js0.length + 1 < 16777216 := by omega
        refine ⟨_, .inl (by simp [bM, cD, stD, hc, hjl2]; rfl), js0 ++ [q] ++ [p], some (.int p.1), some (.int p.2), by simp [stD], hj.new hpp hlt⟩)
  obtain ⟨ρ', e2, js, z1, z2, rfl, hj⟩ := key
  refine ⟨js, ?_, hj.1, fun t => ?_, ?_⟩
  · simp [c8, fT, e, e2]
  · rw [hj.2.1 t, Nat.zero_add, List.length_map, List.take_length]
    exact cov_perm hp
  · have := hj.2.2.1
    rw [List.length_take, List.length_map] at this
    omega
theorem next_ok (n : Nat) (cs : List eu) (t : Int) (hl : cs.length < 64) (hs : ∀ p ∈ cs, p.1 < p.2) : ∃ u, gz CR CP n [.lst (cs.map stD), .int t] = .ok (.int u) /\ t6 cs t u := by
  obtain ⟨js, e, hj, hc, _⟩ := Ci CR CP n cs hl hs
  rcases yg (g := kX CR CP n) (c := some (.lst (cs.map stD))) (t := t) (fun p => .int p.2) (fun p => by by_cases h1 : p.1 <= t <;> by_cases h2 : t < p.2 <;> simp [kX, pW, h1, h2]) js none none with ⟨p, hp, h, e2⟩ | ⟨h, z1, z2, e2⟩
  · refine ⟨p.2, by simp [gz, kD, e, e2], by omega, fun z => ?_, fun v h1 h2 => (hc v).mp ⟨p, hp, by omega, h2⟩⟩
    obtain ⟨q, hq, h3⟩ := (hc _).mpr z
    rcases hj.tri p hp q hq with e | e | e
    · subst e; omega
    · omega
    · have := hj.2 p hp; omega
  · exact ⟨t, by simp [gz, kD, e, e2], Int.le_refl _, fun z => h ((hc t).mpr z), fun v h1 h2 => by omega⟩
end
noncomputable def B6 (f : Fli) (t : Int) : Int := f.price * gZ 0 (t - f.due)
noncomputable def costs (fl : List Fli) : List eu -> List Int -> List Int
  | p :: qs, t :: ts => B6 (fy fl p.1) t :: costs fl qs ts
  | _, _ => []
section
variable (CR CP : Addr)
theorem late_ok (n : Nat) (f : Fli) (t : Int) (h0 : 0 <= f.price) (h1 : f.price <= 1000000000) : iG CR CP n [flD f, .int t] = .ok (.int (B6 f t)) := by
  have c1 : -18446744073709551616 < f.price := by omega
  have c2 : f.price < 18446744073709551616 := by omega
  simp [iG, oF, flD, c1, c2, B6]
end
theorem zp (n : Nat) : ∀ ts : List Int, jW (ts.map .int) (n + 1) = true
  | [] => by simp [jW]
  | p :: cs => by simp [jW, okE, zp n cs]
theorem CC : ∀ cs : List Int, qR (cs.map .int) (cs.map .int) = true
  | [] => by simp [qR]
  | p :: cs => by simp [qR, eqD, CC cs]
theorem yk (ns : List Int) : eqM (.lst (ns.map .int)) (.lst []) = .ok (.bl ns.isEmpty) := by
  have h : okE (.lst (ns.map .int)) 40 = true := by simp [okE, zp]
  unfold eqM
  rw [h]
  cases ns <;> simp [okE, jW, eqD, qR]
section
variable (CR CP : Addr)
theorem kQ (n : Nat) (ns : List Int) (k : Int) (h0 : 0 <= k) (h1 : k < 1000000) : ∃ x, aB CR CP n [.lst (ns.map .int), .int k] = .ok (.int x) := by
  by_cases hk : k < ns.length
  · exact ⟨_, by simp [aB, iP, iq, hk, getI_int h0 hk]; rfl⟩
  · have eq0 := yk ns
    by_cases hl : 0 < ns.length
    · have hl' : (0 : Int) < ns.length := by omega
      have hm0 : 0 <= k % (ns.length : Int) := Int.emod_nonneg _ (by omega)
      have hm1 : k % (ns.length : Int) < (ns.length : Int) := Int.emod_lt_of_pos _ hl'
      have hne : ns.isEmpty = false := by cases ns with | nil => simp at hl | cons a b => rfl
      have k1 : -18446744073709551616 < k := by omega
      have k2 : k < 18446744073709551616 := by omega
      rw [hne] at eq0
      exact ⟨_, by simp [aB, iP, iq, hk, kU, eq0, getI_int hm0 hm1, zC hl', k1, k2]; rfl⟩
    · have hne : ns.isEmpty = true := by cases ns with | nil => rfl | cons a b => simp at hl
      rw [hne] at eq0
      exact ⟨0, by simp [aB, iP, iq, hk, kU, eq0]⟩
theorem gap_v (c : Int) : ∃ v m : Int, 0 <= v /\ v <= 1000000 /\ 0 < m /\ n6 [.int 40, .int 1000001] (c / 4 % 2) = .ok (.int m) /\ n6 [.int 0, .int (c / 4 % 10), .int (c / 4 % 10), .int (c / 4 % m)] (c % 4) = .ok (.int v) := by
  obtain ⟨m, hm0, hm1, em⟩ : ∃ m : Int, 0 < m /\ m <= 1000001 /\ n6 [.int 40, .int 1000001] (c / 4 % 2) = .ok (.int m) := by
    have q : c / 4 % 2 = 0 \/ c / 4 % 2 = 1 := by omega
    rcases q with h | h
    · exact ⟨40, by omega, by omega, by rw [h]; simp⟩
    · exact ⟨1000001, by omega, by omega, by rw [h]; simp⟩
  have a0 : 0 <= c / 4 % m := Int.emod_nonneg _ (by omega)
  have a1 : c / 4 % m < m := Int.emod_lt_of_pos _ hm0
  have q : c % 4 = 0 \/ c % 4 = 1 \/ c % 4 = 2 \/ c % 4 = 3 := by omega
  rcases q with h | h | h | h
  · exact ⟨0, m, by omega, by omega, hm0, em, by rw [h]; simp⟩
  · exact ⟨c / 4 % 10, m, by omega, by omega, hm0, em, by rw [h]; simp⟩
  · exact ⟨c / 4 % 10, m, by omega, by omega, hm0, em, by rw [h]; simp⟩
  · exact ⟨c / 4 % m, m, by omega, by omega, hm0, em, by rw [h]; simp⟩
theorem gapr_row (n : Nat) (ns : List Int) (b : Nat) (k one : Nat) (rows : List Dat) (z6 z7 : Option Dat) (hb : b <= 100) (hk : k <= 3) (ho : one < k) :
    ∃ (r : List Int) (y6 y7 : Option Dat), t7 k r /\ mi (.nm 6) (ej CR CP n) (bz 0 k) [some (.lst (ns.map .int)), some (.int b), some (.int k), some (.lst rows), some (.int one), some (.lst []), z6, z7] = .ok (.nx [some (.lst (ns.map .int)), some (.int b), some (.int k), some (.lst rows), some (.int one), some (ja r), y6, y7]) := by
  obtain ⟨ρ', e, r, y6, y7, rfl, h1, h2⟩ := jk (p := .nm 6) (g := ej CR CP n)
    (fun i ρ => ∃ (r : List Int) (z6 z7 : Option Dat), ρ = [some (.lst (ns.map .int)), some (.int b), some (.int k), some (.lst rows), some (.int one), some (ja r), z6, z7] /\ r.length = i /\ ∀ x ∈ r, 0 <= x /\ x <= 1000000) (bz 0 k) 0 _ ⟨[], z6, z7, rfl, rfl, by simp⟩ (by
    rintro i d ρ hd ⟨r, z6, z7, rfl, hr1, hr2⟩
    obtain ⟨hi, rfl⟩ := jP hd
    have hm : (k : Int) * one <= 9 := by
      have : k * one <= 3 * 3 := Nat.mul_le_mul hk (by omega)
      exact_mod_cast this
    have hm0 : 0 <= (k : Int) * one := Int.mul_nonneg (by omega) (by omega)
    obtain ⟨c, ec⟩ := kQ CR CP n ns ((b : Int) + (k : Int) * one + (i : Int)) (by omega) (by omega)
    obtain ⟨v, m, hv0, hv1, hm1, em, ev⟩ := gap_v c
    have k1 : -18446744073709551616 < (k : Int) := by omega
    have k2 : (k : Int) < 18446744073709551616 := by omega
    have hl : r.length < 16777216 := by omega
    refine ⟨[some (.lst (ns.map .int)), some (.int b), some (.int k), some (.lst rows), some (.int one), some (ja r), some (.int i), z7], by simp, [some (.lst (ns.map .int)), some (.int b), some (.int k), some (.lst rows), some (.int one), some (ja (r ++ [v])), some (.int i), some (.int c)], .inl ?_, _, _, _, rfl, by simp; omega, fun y hy => ?_⟩
    · simp [ej, k1, k2, ec, em, zC hm1, ev, hl, ja]
    · rcases List.mem_append.mp hy with z | z
      · exact hr2 y z
      · simp at z; subst z; exact ⟨hv0, hv1⟩)
  rw [Nat.zero_add, dh] at h1
  exact ⟨r, y6, y7, ⟨h1, h2⟩, e⟩
theorem Cw (n : Nat) (ns : List Int) (b k : Nat) (hb : b <= 100) (hk : k <= 3) : ∃ rows, jm k rows /\ cG CR CP n [.lst (ns.map .int), .int b, .int k] = .ok (aS rows) := by
  have k1 : -4611686018427387904 <= (k : Int) := by omega
  have k2 : (k : Int) < 4611686018427387904 := by omega
  obtain ⟨ρ', e, rows, y4, y5, y6, y7, rfl, h1, h2⟩ := jk (p := .nm 4) (g := gD CR CP n)
    (fun i ρ => ∃ (rows : List (List Int)) (z4 z5 z6 z7 : Option Dat), ρ = [some (.lst (ns.map .int)), some (.int b), some (.int k), some (aS rows), z4, z5, z6, z7] /\ rows.length = i /\ ∀ r ∈ rows, t7 k r) (bz 0 k) 0 [some (.lst (ns.map .int)), some (.int b), some (.int k), some (.lst []), none, none, none, none] ⟨[], none, none, none, none, rfl, rfl, by simp⟩ (by
    rintro i d ρ hd ⟨rows, z4, z5, z6, z7, rfl, hr1, hr2⟩
    obtain ⟨hi, rfl⟩ := jP hd
    obtain ⟨r, y6, y7, hr, er⟩ := gapr_row CR CP n ns b k i (rows.map ja) z6 z7 hb hk hi
    have hl : rows.length < 16777216 := by omega
    refine ⟨[some (.lst (ns.map .int)), some (.int b), some (.int k), some (aS rows), some (.int i), z5, z6, z7], by simp, [some (.lst (ns.map .int)), some (.int b), some (.int k), some (aS (rows ++ [r])), some (.int i), some (ja r), y6, y7], .inl ?_, _, _, _, _, _, rfl, by simp; omega, fun y hy => ?_⟩
    · simp [gD, k1, k2, aS, er, hl]
    · rcases List.mem_append.mp hy with z | z
      · exact hr2 y z
      · simp at z; subst z; exact hr)
  rw [Nat.zero_add, dh] at h1
  exact ⟨rows, ⟨h1, h2⟩, by simp [cG, iO, k1, k2, e]⟩
end
structure Gp where
  k : Nat
  rows : List (List Int)
  two : Bool
  r2 : List (List Int)
structure Gp.Good (g : Gp) : Prop where
  k1 : 1 <= g.k
  k3 : g.k <= 3
  rows : jm g.k g.rows
  r2 : jm g.k g.r2
noncomputable def Gp.o (g : Gp) : Dat := if g.two = true then aS g.r2 else .non
noncomputable def Gp.s (g : Gp) : Nat := if g.two = true then 2 else 1
noncomputable def Gp.D (g : Gp) : Dat := .lst (if g.two = true then [aS g.rows, aS g.r2] else [aS g.rows])
section
variable (CR CP : Addr)
theorem gps_ok (n : Nat) (ns : List Int) : ∃ g : Gp, g.Good /\ gA CR CP n [.lst (ns.map .int)] = .ok g.D := by
  obtain ⟨c, ec⟩ := kQ CR CP n ns 0 (by omega) (by omega)
  obtain ⟨k, hk⟩ : ∃ k : Nat, 1 + c % 3 = k := ⟨(1 + c % 3).toNat, by omega⟩
  obtain ⟨rows, gr, er⟩ := Cw CR CP n ns 3 k (by omega) (by omega)
  have hkk : k * k <= 3 * 3 := Nat.mul_le_mul (by omega) (by omega)
  obtain ⟨r2, gr2, er2⟩ := Cw CR CP n ns (3 + k * k) k (by omega) (by omega)
  have hb2 : ((3 + k * k : Nat) : Int) = 3 + (k : Int) * k := by simp
  rw [hb2] at er2
  simp only [Int.cast_ofNat_Int] at er
  have k1 : -18446744073709551616 < (k : Int) := by omega
  have k2 : (k : Int) < 18446744073709551616 := by omega
  by_cases h : c / 3 % 3 = 1
  · exact ⟨⟨k, rows, true, r2⟩, ⟨by show 1 <= k; omega, by show k <= 3; omega, gr, gr2⟩, by simp [gA, kF, kT, ec, hk, er, h, k1, k2, er2, Gp.D]⟩
  · exact ⟨⟨k, rows, false, r2⟩, ⟨by show 1 <= k; omega, by show k <= 3; omega, gr, gr2⟩, by simp [gA, kF, kT, ec, hk, er, h, Gp.D]⟩
theorem Cu (n : Nat) {g : Gp} (hg : g.Good) : fw CR CP n [g.D] = .ok (aT CR CP g.rows g.o) := by
  have k1 := hg.k1
  have k3 := hg.k3
  have e1 := uG CR CP n g.k g.rows k1 (by omega) hg.rows
  have e2 := uG CR CP n g.k g.r2 k1 (by omega) hg.r2
  cases h : g.two with
  | false => simp [fw, jh, jF, Gp.D, Gp.o, h, newR, e1, aT]
  | true =>
    have ht : twoL (aS g.rows) (aS g.r2) = true := by simp [twoL, aS, hg.rows.1, hg.r2.1]
    have en : newP CP (az CR CP n) [aS g.rows, aS g.r2] = .ok (.ins CP [("gaps", aS g.rows), ("beside", aS g.r2)]) := by simp [newP, e1, e2, ht]
    have e3 : aT CR CP g.rows (aS g.r2) = .ins CP [("gaps", aS g.rows), ("beside", aS g.r2)] := rfl
    simp [fw, jh, jF, Gp.D, Gp.o, h, en, e3]
theorem Bd (n : Nat) (ns : List Int) : ∃ cs : List eu, cs.length <= 20 /\ (∀ p ∈ cs, p.1 < p.2) /\ fM CR CP n [.lst (ns.map .int)] = .ok (.lst (cs.map stD)) := by
  obtain ⟨c, ec⟩ := kQ CR CP n ns 1 (by omega) (by omega)
  obtain ⟨c2, ec2⟩ := kQ CR CP n ns 2 (by omega) (by omega)
  obtain ⟨many, hm, em⟩ : ∃ m : Nat, m <= 20 /\ n6 [.int (c % 4), .int (c % 4), .int 20] (c / 4 % 8 / 3) = .ok (.int m) := by
    have q : c / 4 % 8 / 3 = 0 \/ c / 4 % 8 / 3 = 1 \/ c / 4 % 8 / 3 = 2 := by omega
    have hc : ((c % 4).toNat : Int) = c % 4 := by omega
    rcases q with h | h | h
    · exact ⟨(c % 4).toNat, by omega, by rw [h, hc]; simp⟩
    · exact ⟨(c % 4).toNat, by omega, by rw [h, hc]; simp⟩
    · exact ⟨20, by omega, by rw [h]; simp⟩
  have k1 : -4611686018427387904 <= (many : Int) := by omega
  have k2 : (many : Int) < 4611686018427387904 := by omega
  obtain ⟨ρ', e, cs, y4, y5, y6, rfl, h1, h2⟩ := jk (p := .nm 4) (g := iZ CR CP n)
    (fun i ρ => ∃ (cs : List eu) (z4 z5 z6 : Option Dat), ρ = [some (.lst (ns.map .int)), some (.int c), some (.int many), some (.lst (cs.map stD)), z4, z5, z6] /\ cs.length = i /\ ∀ p ∈ cs, p.1 < p.2) (bz 0 many) 0 [some (.lst (ns.map .int)), some (.int c), some (.int many), some (.lst []), none, none, none] ⟨[], none, none, none, rfl, rfl, by simp⟩ (by
    rintro i d ρ hd ⟨cs, z4, z5, z6, rfl, hr1, hr2⟩
    obtain ⟨hi, rfl⟩ := jP hd
    have hl : cs.length < 16777216 := by omega
    have i0 : (0 : Int) <= (i : Int) * i := Int.mul_nonneg (by omega) (by omega)
    have i1 : (i : Int) * i <= 400 := by
      have : i * i <= 20 * 20 := Nat.mul_le_mul (by omega) (by omega)
      exact_mod_cast this
    have p0 : (0 : Int) < (i : Int) * i + 1 := by omega
    have p1 : (i : Int) * i + 1 < 18446744073709551616 := by omega
    have k1 : -18446744073709551616 < (i : Int) := by omega
    have k2 : (i : Int) < 18446744073709551616 := by omega
    have k3 : -18446744073709551616 < 17 * (i : Int) := by omega
    have k4 : 17 * (i : Int) < 18446744073709551616 := by omega
    obtain ⟨t, ht⟩ : ∃ t, t = c2 / ((i : Int) * i + 1) + 17 * (i : Int) * (c / 32 % 3) := ⟨_, rfl⟩
    refine ⟨[some (.lst (ns.map .int)), some (.int c), some (.int many), some (.lst (cs.map stD)), some (.int i), z5, z6], by simp, [some (.lst (ns.map .int)), some (.int c), some (.int many), some (.lst ((cs ++ [(t % 50, t % 50 + 1 + t / 50 % 9)]).map stD)), some (.int i), some (.int t), some (.int (t % 50))], .inl ?_, _, _, _, _, rfl, by simp; omega, fun y hy => ?_⟩
    · simp [iZ, ec2, k1, k2, k3, k4, e_fdiv p0 p1, <- ht, hl, stD]
    · rcases List.mem_append.mp hy with z | z
      · exact hr2 y z
      · simp at z; subst z; show t % 50 < t % 50 + 1 + t / 50 % 9; omega)
  rw [Nat.zero_add, dh] at h1
  exact ⟨cs, by omega, h2, by simp [fM, kG, ec, em, k1, k2, e]⟩
theorem zA (n : Nat) (ns : List Int) (k : Nat) (hk1 : 1 <= k) (many : Nat) (hm : many <= 40) : ∃ fl : List Fli, fl.length = many /\ (∀ f ∈ fl, yS k f) /\ eE CR CP n [.lst (ns.map .int), .int 21, .int k, .int many] = .ok (.lst (fl.map flD)) := by
  have k1 : -4611686018427387904 <= (many : Int) := by omega
  have k2 : (many : Int) < 4611686018427387904 := by omega
  have hk : (0 : Int) < k := by omega
  obtain ⟨ρ', e, fl, y5, y6, y7, y8, y9, y10, y11, y12, rfl, h1, h2⟩ := jk (p := .nm 5) (g := hZ CR CP n)
    (fun i ρ => ∃ (fl : List Fli) (z5 z6 z7 z8 z9 z10 z11 z12 : Option Dat), ρ = [some (.lst (ns.map .int)), some (.int 21), some (.int k), some (.int many), some (.lst (fl.map flD)), z5, z6, z7, z8, z9, z10, z11, z12] /\ fl.length = i /\ ∀ f ∈ fl, yS k f) (bz 0 many) 0 [some (.lst (ns.map .int)), some (.int 21), some (.int k), some (.int many), some (.lst []), none, none, none, none, none, none, none, none] ⟨[], none, none, none, none, none, none, none, none, rfl, rfl, by simp⟩ (by
    rintro i d ρ hd ⟨fl, z5, z6, z7, z8, z9, z10, z11, z12, rfl, hr1, hr2⟩
    obtain ⟨hi, rfl⟩ := jP hd
    have hl : fl.length < 16777216 := by omega
    obtain ⟨c, ec⟩ := kQ CR CP n ns (21 + 3 * (i : Int)) (by omega) (by omega)
    obtain ⟨w, ew⟩ := kQ CR CP n ns (21 + 3 * (i : Int) + 1) (by omega) (by omega)
    obtain ⟨v, ev⟩ := kQ CR CP n ns (21 + 3 * (i : Int) + 2) (by omega) (by omega)
    obtain ⟨m1, a0, a1, e1⟩ : ∃ m : Int, 0 < m /\ m <= 900000000 /\ n6 [.int 20, .int 20, .int 60, .int 900000000] (c / 3 % 4) = .ok (.int m) := by
      have q : c / 3 % 4 = 0 \/ c / 3 % 4 = 1 \/ c / 3 % 4 = 2 \/ c / 3 % 4 = 3 := by omega
      rcases q with h | h | h | h
      · exact ⟨20, by omega, by omega, by rw [h]; simp⟩
      · exact ⟨20, by omega, by omega, by rw [h]; simp⟩
      · exact ⟨60, by omega, by omega, by rw [h]; simp⟩
      · exact ⟨900000000, by omega, by omega, by rw [h]; simp⟩
    obtain ⟨m2, b0, b1, e2⟩ : ∃ m : Int, 0 < m /\ m <= 10000000 /\ n6 [.int 5, .int 30, .int 80, .int 1000000, .int 10000000] (w % 5) = .ok (.int m) := by
      have q : w % 5 = 0 \/ w % 5 = 1 \/ w % 5 = 2 \/ w % 5 = 3 \/ w % 5 = 4 := by omega
      rcases q with h | h | h | h | h
      · exact ⟨5, by omega, by omega, by rw [h]; simp⟩
      · exact ⟨30, by omega, by omega, by rw [h]; simp⟩
      · exact ⟨80, by omega, by omega, by rw [h]; simp⟩
      · exact ⟨1000000, by omega, by omega, by rw [h]; simp⟩
      · exact ⟨10000000, by omega, by omega, by rw [h]; simp⟩
    obtain ⟨due, d0, d1, e3⟩ : ∃ x : Int, 0 <= x /\ x <= 1000000000 /\ n6 [.int (v / 2 % 40), .int (v / 2 % 1000000001)] (v % 2) = .ok (.int x) := by
      have q : v % 2 = 0 \/ v % 2 = 1 := by omega
      rcases q with h | h
      · exact ⟨v / 2 % 40, by omega, by omega, by rw [h]; simp⟩
      · exact ⟨v / 2 % 1000000001, by omega, by omega, by rw [h]; simp⟩
    obtain ⟨pr, p0, p1, e4⟩ : ∃ x : Int, 0 <= x /\ x <= 1000000000 /\ n6 [.int (v / 80 % 5), .int (v / 80 % 5), .int (v / 80 % 1000000001)] (v / 8 % 3) = .ok (.int x) := by
      have q : v / 8 % 3 = 0 \/ v / 8 % 3 = 1 \/ v / 8 % 3 = 2 := by omega
      rcases q with h | h | h
      · exact ⟨v / 80 % 5, by omega, by omega, by rw [h]; simp⟩
      · exact ⟨v / 80 % 5, by omega, by omega, by rw [h]; simp⟩
      · exact ⟨v / 80 % 1000000001, by omega, by omega, by rw [h]; simp⟩
    have f0 : 0 <= c / 3 % m1 := Int.emod_nonneg _ (by omega)
    have f1 : c / 3 % m1 < m1 := Int.emod_lt_of_pos _ a0
    have w0 : 0 <= w / 5 % m2 := Int.emod_nonneg _ (by omega)
    have w1 : w / 5 % m2 < m2 := Int.emod_lt_of_pos _ b0
    have q0 : 0 <= c % (k : Int) := Int.emod_nonneg _ (by omega)
    have q1 : c % (k : Int) < k := Int.emod_lt_of_pos _ hk
    refine ⟨[some (.lst (ns.map .int)), some (.int 21), some (.int k), some (.int many), some (.lst (fl.map flD)), some (.int i), z6, z7, z8, z9, z10, z11, z12], by simp, [some (.lst (ns.map .int)), some (.int 21), some (.int k), some (.int many), some (.lst ((fl ++ [(⟨c % k, c / 3 % m1, c / 3 % m1 + w / 5 % m2, due, pr⟩ : Fli)]).map flD)), some (.int i), some (.int c), some (.int w), some (.int v), some (.int (c / 3 % m1)), some (.int (c / 3 % m1 + w / 5 % m2)), some (.int due), some (.int pr)], .inl ?_, _, _, _, _, _, _, _, _, _, rfl, by simp; omega, fun y hy => ?_⟩
    · simp [hZ, ec, ew, ev, e1, zC a0, e2, zC b0, e3, e4, zC hk, hl, flD]
    · rcases List.mem_append.mp hy with z | z
      · exact hr2 y z
      · simp at z; subst z
        exact ⟨q0, q1, f0, by show c / 3 % m1 <= c / 3 % m1 + w / 5 % m2; omega, by show c / 3 % m1 + w / 5 % m2 <= 1000000000; omega, d0, d1, p0, p1⟩)
  rw [Nat.zero_add, dh] at h1
  exact ⟨fl, h1, h2, by simp [eE, jB, k1, k2, e]⟩
end
noncomputable def tupI (r : List Int) : Dat := .tup (r.map .int)
noncomputable def jY (L : List (List Int)) : Dat := .tup (L.map tupI)
noncomputable def nC (c : Int) (L : List (List Int)) : Dat := .tup [.int c, jY L]
noncomputable def ny (s k : Nat) (L : List (List Int)) : Prop := L.length = s /\ ∀ r ∈ L, r.length = k
noncomputable def zc (ap : Nat -> Int) : Nat -> List Int -> List Int
  | _, [] => []
  | j, x :: xs => if x = -1 then zc ap (j + 1) xs else (x + ap j) :: zc ap (j + 1) xs
noncomputable def Br (ap : Nat -> Nat -> Int) : Nat -> List (List Int) -> List Int
  | _, [] => []
  | i, r :: L => zc (ap i) 0 r ++ Br ap (i + 1) L
theorem v7 (ap : Nat -> Int) : ∀ (j : Nat) (xs : List Int), (zc ap j xs).length <= xs.length
  | _, [] => by simp [zc]
  | j, x :: xs => by
    have := v7 ap (j + 1) xs
    unfold zc
    split <;> simp <;> omega
theorem AG (ap : Nat -> Nat -> Int) (k : Nat) : ∀ (i : Nat) (L : List (List Int)), (∀ r ∈ L, r.length = k) -> (Br ap i L).length <= k * L.length
  | i, [], _ => by simp [Br]
  | i, y :: L, h => by
    have h1 := AG ap k (i + 1) L fun r hr => h r (by simp [hr])
    have h2 := v7 (ap i) 0 y
    have h3 := h y (by simp)
    rw [Br, List.length_append, List.length_cons, Nat.mul_succ]
    omega
section
variable (CR CP : Addr)
theorem gmeth (n : Nat) (hne : CR ≠ CP) {g : Gp} (hg : g.Good) {a s b t : Int} (a0 : 0 <= a) (a1 : a < g.k) (b0 : 0 <= b) (b1 : b < g.k) (hst : g.two = false -> s = t) (fo f1 f2 : ag -> M Dat) (ρ : ag) (h0 : fo ρ = .ok (aT CR CP g.rows g.o)) (h1 : f1 ρ = .ok (.tup [.int a, .int s])) (h2 : f2 ρ = .ok (.tup [.int b, .int t])) :
    gY CR CP "apart" (e6 CR CP n) (dO CR CP n) fo (a9 f1 (a9 f2 aJ)) ρ = .ok (.int (apS g.rows g.r2 (a, s) (b, t))) := by
  obtain ⟨r1, _⟩ := getR hg.rows a0 a1
  obtain ⟨r2, _⟩ := getA hg.rows a0 a1 b0 b1
  unfold gY
  rw [h0, ak]
  cases h : g.two with
  | false =>
    have ho : g.o = .non := by simp [Gp.o, h]
    have hs := hst h
    have hc : isC CR "apart" (aT CR CP g.rows g.o) = true := by
      rw [ho]
      show ((CR == CR) && (List.lookup ("apart" : Str) [(("gaps" : Str), aS g.rows)]).isNone) = true
      rw [lookA1]; simp
    have hgg := vS CR CP g.rows g.o (.inl ho)
    rw [if_pos hc]
    simp [h1, h2, e6, kH, hgg, aS, r1, ja, r2, apS, hs]
  | true =>
    have ho : g.o = aS g.r2 := by simp [Gp.o, h]
    have hc : isC CR "apart" (aT CR CP g.rows g.o) = false := by
      rw [ho]
      show ((CP == CR) && (List.lookup ("apart" : Str) [(("gaps" : Str), aS g.rows), (("beside" : Str), aS g.r2)]).isNone) = false
      have : (CP == CR) = false := by simp; exact fun z => hne z.symm
      rw [this]; rfl
    have hc2 : isC CP "apart" (aT CR CP g.rows g.o) = true := by
      rw [ho]
      show ((CP == CP) && (List.lookup ("apart" : Str) [(("gaps" : Str), aS g.rows), (("beside" : Str), aS g.r2)]).isNone) = true
      rw [lookA2]; simp
    have hgg := vS CR CP g.rows g.o (.inr ⟨_, ho⟩)
    have hb : ue [CP] "beside" (aT CR CP g.rows g.o) = .ok (aS g.r2) := by rw [ho]; exact CY CR CP g.rows g.r2
    obtain ⟨r3, _⟩ := getR hg.r2 a0 a1
    obtain ⟨r4, _⟩ := getA hg.r2 a0 a1 b0 b1
    rw [if_neg (by rw [hc]; simp), if_pos hc2]
    by_cases hs : s = t
    · simp [h1, h2, dO, jj, hgg, hb, aS, r1, ja, r2, apS, hs]
    · simp [h1, h2, dO, jj, hgg, hb, aS, r3, ja, r4, apS, hs]
theorem Cf (n : Nat) (hne : CR ≠ CP) {g : Gp} (hg : g.Good) (b t : Int) (b0 : 0 <= b) (b1 : b < g.k) (bu z5 : Option Dat) (i : Nat) (hst : g.two = false -> (i : Int) = t) : ∀ (row : List Int) (j : Nat) (ts : List Int) (z6 z7 : Option Dat), j + row.length <= g.k -> ts.length + row.length <= 1000 ->
    ∃ y6 y7, mi (.tp [6, 7]) (cq CR CP n) (kI j (row.map .int)) [some (aT CR CP g.rows g.o), bu, some (.tup [.int b, .int t]), some (.lst (ts.map .int)), some (.int i), z5, z6, z7] = .ok (.nx [some (aT CR CP g.rows g.o), bu, some (.tup [.int b, .int t]), some (.lst ((ts ++ zc (fun j => apS g.rows g.r2 (j, i) (b, t)) j row).map .int)), some (.int i), z5, y6, y7])
  | [], j, ts, z6, z7, _, _ => ⟨z6, z7, by simp [kI, mi, zc]⟩
  | x :: row, j, ts, z6, z7, hj, hl => by
    simp only [List.length_cons] at hj hl
    by_cases hx : x = -1
    · obtain ⟨y6, y7, ih⟩ := Cf n hne hg b t b0 b1 bu z5 i hst row (j + 1) ts (some (.int j)) (some (.int x)) (by omega) (by omega)
      refine ⟨y6, y7, ?_⟩
      rw [List.map_cons, kI, mi]
      simp only [zc, if_pos hx]
      rw [<- ih]
      simp [cq, gc, hx]
    · obtain ⟨y6, y7, ih⟩ := Cf n hne hg b t b0 b1 bu z5 i hst row (j + 1) (ts ++ [x + apS g.rows g.r2 (j, i) (b, t)]) (some (.int j)) (some (.int x)) (by omega) (by simp; omega)
      refine ⟨y6, y7, ?_⟩
      have em := gmeth CR CP n hne hg (a := j) (s := i) (b := b) (t := t) (by omega) (by omega) b0 b1 hst (ah 0) (fL lB (a9 (ah 6) (a9 (ah 4) aJ))) (ah 2) (erase [3] [some (aT CR CP g.rows g.o), bu, some (.tup [.int b, .int t]), some (.lst (ts.map .int)), some (.int i), z5, some (.int j), some (.int x)]) (by simp [erase]) (by simp [erase]) (by simp [erase])
      have hts : ts.length < 16777216 := by omega
      rw [List.map_cons, kI, mi]
      simp only [zc, if_neg hx]
      rw [List.append_assoc, List.singleton_append] at ih
      rw [<- ih]
      have hb : fD (.tp [6, 7]) (.tup [.int j, .int x]) [some (aT CR CP g.rows g.o), bu, some (.tup [.int b, .int t]), some (.lst (ts.map .int)), some (.int i), z5, z6, z7] = .ok [some (aT CR CP g.rows g.o), bu, some (.tup [.int b, .int t]), some (.lst (ts.map .int)), some (.int i), z5, some (.int j), some (.int x)] := by simp
      have hg2 : cq CR CP n [some (aT CR CP g.rows g.o), bu, some (.tup [.int b, .int t]), some (.lst (ts.map .int)), some (.int i), z5, some (.int j), some (.int x)] = .ok (.nx [some (aT CR CP g.rows g.o), bu, some (.tup [.int b, .int t]), some (.lst ((ts ++ [x + apS g.rows g.r2 (j, i) (b, t)]).map .int)), some (.int i), z5, some (.int j), some (.int x)]) := by
        have hv : ah 7 (erase [3] [some (aT CR CP g.rows g.o), bu, some (.tup [.int b, .int t]), some (.lst (ts.map .int)), some (.int i), z5, some (.int j), some (.int x)]) = .ok (.int x) := by simp [erase]
        have es : lA [3] 3 (f2 nv (ah 7) (gY CR CP "apart" (e6 CR CP n) (dO CR CP n) (ah 0) (a9 (fL lB (a9 (ah 6) (a9 (ah 4) aJ))) (a9 (ah 2) aJ)))) [some (aT CR CP g.rows g.o), bu, some (.tup [.int b, .int t]), some (.lst (ts.map .int)), some (.int i), z5, some (.int j), some (.int x)] = .ok (.nx [some (aT CR CP g.rows g.o), bu, some (.tup [.int b, .int t]), some (.lst ((ts ++ [x + apS g.rows g.r2 (j, i) (b, t)]).map .int)), some (.int i), z5, some (.int j), some (.int x)]) := by
          unfold lA f2
          rw [em, hv]
          simp [jb, put, hts, sizeLine_eq]
        simp [cq, gc, hx, -e_appB, es]
      rw [hb, ak, hg2]
      rfl
end
section
variable (CR CP : Addr)
theorem lg_all (n : Nat) (hne : CR ≠ CP) {g : Gp} (hg : g.Good) (b t : Int) (b0 : 0 <= b) (b1 : b < g.k) (ht : 0 <= t /\ t < g.s) (bu : Option Dat) : ∀ (L : List (List Int)) (i : Nat) (ts : List Int) (z4 z5 z6 z7 : Option Dat), i + L.length <= g.s -> (∀ r ∈ L, r.length = g.k) -> ts.length + g.k * L.length <= 1000 ->
    ∃ y4 y5 y6 y7, mi (.tp [4, 5]) (dw CR CP n) (kI i (L.map tupI)) [some (aT CR CP g.rows g.o), bu, some (.tup [.int b, .int t]), some (.lst (ts.map .int)), z4, z5, z6, z7] = .ok (.nx [some (aT CR CP g.rows g.o), bu, some (.tup [.int b, .int t]), some (.lst ((ts ++ Br (fun i j => apS g.rows g.r2 (j, i) (b, t)) i L).map .int)), y4, y5, y6, y7])
  | [], i, ts, z4, z5, z6, z7, _, _, _ => ⟨z4, z5, z6, z7, by simp [kI, mi, Br]⟩
  | r :: L, i, ts, z4, z5, z6, z7, hi, hr, hl => by
    have hrl := hr r (by simp)
    simp only [List.length_cons] at hi hl
    rw [Nat.mul_succ] at hl
    have hst : g.two = false -> (i : Int) = t := fun h => by
      have hs : g.s = 1 := by simp [Gp.s, h]
      omega
    obtain ⟨y6, y7, e1⟩ := Cf CR CP n hne hg b t b0 b1 bu (some (tupI r)) i hst r 0 ts z6 z7 (by omega) (by omega)
    have hlen := v7 (fun j => apS g.rows g.r2 (j, i) (b, t)) 0 r
    obtain ⟨w4, w5, w6, w7, ih⟩ := lg_all n hne hg b t b0 b1 ht bu L (i + 1) (ts ++ zc (fun j => apS g.rows g.r2 (j, i) (b, t)) 0 r) (some (.int i)) (some (tupI r)) y6 y7 (by omega) (fun x hx => hr x (by simp [hx])) (by rw [List.length_append]; omega)
    refine ⟨w4, w5, w6, w7, ?_⟩
    rw [Br, <- List.append_assoc, <- ih, List.map_cons, kI, mi]
    have hb : fD (.tp [4, 5]) (.tup [.int i, tupI r]) [some (aT CR CP g.rows g.o), bu, some (.tup [.int b, .int t]), some (.lst (ts.map .int)), z4, z5, z6, z7] = .ok [some (aT CR CP g.rows g.o), bu, some (.tup [.int b, .int t]), some (.lst (ts.map .int)), some (.int i), some (tupI r), z6, z7] := by simp
    have hg3 : dw CR CP n [some (aT CR CP g.rows g.o), bu, some (.tup [.int b, .int t]), some (.lst (ts.map .int)), some (.int i), some (tupI r), z6, z7] = .ok (.nx [some (aT CR CP g.rows g.o), bu, some (.tup [.int b, .int t]), some (.lst ((ts ++ zc (fun j => apS g.rows g.r2 (j, i) (b, t)) 0 r).map .int)), some (.int i), some (tupI r), y6, y7]) := by
      rw [<- e1]
      simp [dw, tupI]
    rw [hb, ak, hg3]
    rfl
theorem lg_ok (n : Nat) (hne : CR ≠ CP) {g : Gp} (hg : g.Good) (b t : Int) (b0 : 0 <= b) (b1 : b < g.k) (ht : 0 <= t /\ t < g.s) {L : List (List Int)} (hL : ny g.s g.k L) : d8 CR CP n [aT CR CP g.rows g.o, jY L, .tup [.int b, .int t]] = .ok (.lst ((Br (fun i j => apS g.rows g.r2 (j, i) (b, t)) 0 L).map .int)) := by
  have k3 := hg.k3
  have hs : g.s <= 2 := by unfold Gp.s; split <;> omega
  have hl := hL.1
  have hk : g.k * L.length <= 3 * 2 := Nat.mul_le_mul k3 (by omega)
  obtain ⟨y4, y5, y6, y7, e⟩ := lg_all CR CP n hne hg b t b0 b1 ht (some (jY L)) L 0 [] none none none none (by omega) hL.2 (by simp; omega)
  rw [List.nil_append, List.map_nil] at e
  simp only [jY] at e ⊢
  simp [d8, hV, e, -List.map_map]
theorem Bb (n : Nat) {g : Gp} (hg : g.Good) {a s b t : Int} (a0 : 0 <= a) (a1 : a < g.k) (b0 : 0 <= b) (b1 : b < g.k) (hst : g.two = false -> s = t) : dN CR CP n [g.D, .tup [.int a, .int s], .tup [.int b, .int t]] = .ok (.int (apS g.rows g.r2 (a, s) (b, t))) := by
  obtain ⟨r1, _⟩ := getR hg.rows a0 a1
  obtain ⟨r2, _⟩ := getA hg.rows a0 a1 b0 b1
  obtain ⟨r3, _⟩ := getR hg.r2 a0 a1
  obtain ⟨r4, _⟩ := getA hg.r2 a0 a1 b0 b1
  by_cases hs : s = t
  · cases h : g.two <;> simp [dN, ji, jG, Gp.D, h, hs, aS, r1, ja, r2, apS]
  · cases h : g.two with
    | false => exact absurd (hst h) hs
    | true => simp [dN, ji, jG, Gp.D, h, hs, aS, r3, ja, r4, apS]
end
noncomputable def pe (L : List (List Int)) (i : Nat) : List Int := L.getD i []
theorem pC {s k : Nat} {L : List (List Int)} (h : ny s k L) {i : Nat} (hi : i < s) : pe L i ∈ L /\ (pe L i).length = k /\ n6 (L.map tupI) (i : Int) = .ok (tupI (pe L i)) /\ L.take (i + 1) = L.take i ++ [pe L i] := by
  have hl : i < L.length := by rw [h.1]; exact hi
  have e : pe L i = L[i] := by simp [pe, hl]
  have m : pe L i ∈ L := by rw [e]; exact List.getElem_mem hl
  refine ⟨m, h.2 _ m, ?_, ?_⟩
  · rw [rH (by simpa using hl), e]; simp
  · rw [List.take_add_one, List.getElem?_eq_getElem hl, e]; rfl
theorem ij : ∀ (xs : List Int) (x : Int), xs.foldl gZ x = x \/ xs.foldl gZ x ∈ xs
  | [], x => .inl rfl
  | y :: xs, x => by
    rw [List.foldl_cons]
    have hm : gZ x y = x \/ gZ x y = y := by unfold gZ; split <;> omega
    rcases ij xs (gZ x y) with h | h
    · rcases hm with z | z
      · exact .inl (h.trans z)
      · exact .inr (by rw [h, z]; simp)
    · exact .inr (by simp [h])
noncomputable def cnt (cs : List eu) (t : Int) : Nat := cs.countP fun p => decide (t < p.2)
theorem cnt_mono {cs : List eu} {t u : Int} (h : t <= u) : cnt cs u <= cnt cs t := by
  unfold cnt
  exact List.countP_mono_left fun p _ hp => by simp at hp ⊢; omega
theorem cnt_lt : ∀ {cs : List eu} {p : eu} {t : Int}, p ∈ cs -> t < p.2 -> cnt cs p.2 < cnt cs t
  | [], p, t, hp, _ => by simp at hp
  | a :: cs, p, t, hp, ht => by
    have hm := cnt_mono (cs := cs) (t := t) (u := p.2) (by omega)
    unfold cnt at *
    rw [List.countP_cons, List.countP_cons]
    rcases List.mem_cons.mp hp with e | e
    · subst e
      simp [ht]
      omega
    · have ih := cnt_lt (cs := cs) e ht
      unfold cnt at ih
      by_cases h1 : p.2 < a.2
      · have : t < a.2 := by omega
        simp [h1, this]; omega
      · by_cases h2 : t < a.2 <;> simp [h1, h2] <;> omega
noncomputable def x8 (cs : List eu) (t : Int) : List Int := (cs.filter fun p => decide (p.1 <= t) && decide (t < p.2)).map (·.2)
theorem uC (t : Int) : ∀ cs : List eu, bf (.tp [0, 1]) (fB (jZ leD ltD (ah 0) (ah 2) (ah 1))) (ah 1) [none, none, some (.int t)] (cs.map stD) = .ok ((x8 cs t).map .int)
  | [] => rfl
  | p :: cs => by
    have ih := uC t cs
    rw [List.map_cons, bf]
    unfold x8 at ih ⊢
    by_cases h1 : p.1 <= t <;> by_cases h2 : t < p.2 <;> simp [stD, h1, h2, ih]
section
variable (CR CP : Addr)
theorem open2 (n : Nat) (cs : List eu) (hl : cs.length <= 20) : ∀ (m : Nat) (t : Int) (z2 : Option Dat), cnt cs t + 1 < m -> ∃ u, t6 cs t u /\ i6 (ib CR CP n) (ee CR CP n) m [some (.lst (cs.map stD)), some (.int t), z2] = .ok (.rt (.int u))
  | 0, t, z2, h => by omega
  | m + 1, t, z2, h => by
    have ec := uC t cs
    have hlen : cs.length <= 16777216 := by omega
    have ht : ib CR CP n [some (.lst (cs.map stD)), some (.int t), z2] = .ok true := by simp [ib]
    have eq0 := yk (x8 cs t)
    cases hs : x8 cs t with
    | nil =>
      rw [hs] at eq0 ec
      refine ⟨t, ⟨Int.le_refl _, fun ⟨p, hp, h1, h2⟩ => ?_, fun v a b => by omega⟩, ?_⟩
      · have : p.2 ∈ x8 cs t := by
          unfold x8
          exact List.mem_map.mpr ⟨p, List.mem_filter.mpr ⟨hp, by simp [h1, h2]⟩, rfl⟩
        rw [hs] at this
        simp at this
      · rw [i6, ht, ak, if_pos rfl]
        simp only [List.map_nil, List.isEmpty_nil] at ec eq0
        have hb : ee CR CP n [some (.lst (cs.map stD)), some (.int t), z2] = .ok (.rt (.int t)) := by simp [ee, hlen, ec, kS, eq0]
        rw [hb]
        rfl
    | cons x xs =>
      rw [hs] at eq0 ec
      obtain ⟨u, hu⟩ : ∃ u, u = xs.foldl gZ x := ⟨_, rfl⟩
      have hmem : u ∈ x8 cs t := by
        rw [hs, hu]
        rcases ij xs x with z | z
        · rw [z]; simp
        · simp [z]
      unfold x8 at hmem
      obtain ⟨p, hp, hpu⟩ := List.mem_map.mp hmem
      obtain ⟨hp1, hp2⟩ := List.mem_filter.mp hp
      simp at hp2
      have hlt := cnt_lt hp1 hp2.2
      rw [hpu] at hlt
      obtain ⟨v, hv, ev⟩ := open2 n cs hl m u (some (.lst ((x :: xs).map .int))) (by omega)
      refine ⟨v, ⟨?_, hv.2.1, fun y a b => ?_⟩, ?_⟩
      · have := hv.1
        omega
      · by_cases hy : y < u
        · exact ⟨p, hp1, by omega, by omega⟩
        · exact hv.2.2 y (by omega) b
      · rw [i6, ht, ak, if_pos rfl]
        have em : maxD [.lst ((x :: xs).map .int)] = .ok (.int u) := by
          show (e8 ((x :: xs).map .int)).bind maxL = _
          rw [m8, ak, maxL, hu]
        simp only [List.isEmpty_cons] at eq0
        have hb : ee CR CP n [some (.lst (cs.map stD)), some (.int t), z2] = .ok (.nx [some (.lst (cs.map stD)), some (.int u), some (.lst ((x :: xs).map .int))]) := by
          simp only [List.map_cons] at ec eq0 em ⊢
          simp [ee, hlen, ec, kS, eq0, em, -ym]
        rw [hb]
        exact ev
theorem open2_ok (n : Nat) (hn : 64 <= n) (cs : List eu) (hl : cs.length <= 20) (t : Int) : ∃ u, t6 cs t u /\ iI CR CP n [.lst (cs.map stD), .int t] = .ok (.int u) := by
  have hc : cnt cs t <= cs.length := List.countP_le_length
  obtain ⟨u, hu, e⟩ := open2 CR CP n cs hl n t none (by omega)
  exact ⟨u, hu, by simp [iI, oH, e]⟩
end
theorem Bk (L : List (List Int)) (hk : ∀ r ∈ L, r.length <= 1000) : bf (.nm 0) rp (fL pB (a9 (ah 0) aJ)) [none] (L.map tupI) = .ok (L.map ja) := by
  have h := eO (p := .nm 0) (fe := fL pB (a9 (ah 0) aJ)) (ρ0 := [none]) (fun d => match d with | .tup ds => .lst ds | d => d) (L.map tupI) (fun d hd => by
    obtain ⟨r, hr, rfl⟩ := List.mem_map.mp hd
    have hl : r.length <= 16777216 := by have := hk r hr; omega
    exact ⟨[some (tupI r)], by simp, by simp [tupI, hl]⟩)
  rw [h, List.map_map]
  rfl
theorem yC (L : List (List Int)) (hk : ∀ r ∈ L, r.length <= 1000) : bf (.nm 0) rp (fL nA (a9 (ah 0) aJ)) [none] (L.map ja) = .ok (L.map tupI) := by
  have h := eO (p := .nm 0) (fe := fL nA (a9 (ah 0) aJ)) (ρ0 := [none]) (fun d => match d with | .lst ds => .tup ds | d => d) (L.map ja) (fun d hd => by
    obtain ⟨r, hr, rfl⟩ := List.mem_map.mp hd
    have hl : r.length <= 16777216 := by have := hk r hr; omega
    exact ⟨[some (ja r)], by simp, by simp [ja, hl]⟩)
  rw [h, List.map_map]
  rfl
noncomputable def putL (L : List (List Int)) (i j : Nat) (x : Int) : List (List Int) := L.set i ((pe L i).set j x)
theorem rP {s k : Nat} {L : List (List Int)} (h : ny s k L) {i j : Nat} (hi : i < s) (x : Int) : ny s k (putL L i j x) := by
  refine ⟨by unfold putL; rw [List.length_set]; exact h.1, fun r hr => ?_⟩
  unfold putL at hr
  rcases List.mem_or_eq_of_mem_set hr with z | z
  · exact h.2 r z
  · rw [z, List.length_set]; exact (pC h hi).2.1
theorem zx {n i : Nat} (h : i < n) : ixN n (i : Int) = some i := by
  unfold ixN
  rw [if_pos (by omega), if_pos (by omega)]
  simp
theorem Ag {s k : Nat} {L : List (List Int)} (hL : ny s k L) {i j : Nat} (hi : i < s) (hj : j < k) (x : Int) : rowAt (L.map ja) (i : Int) = .ok (i, (pe L i).map .int) /\ lE (L.map ja) (i, (pe L i).map .int) (j : Int) (.int x) = .ok ((putL L i j x).map ja) := by
  have hl : i < L.length := by rw [hL.1]; exact hi
  have e : pe L i = L[i] := by simp [pe, hl]
  have hr := (pC hL hi).2.1
  constructor
  · unfold rowAt
    rw [List.length_map, zx hl]
    simp [hl, e, ja]
  · unfold lE
    simp only [List.length_map]
    rw [zx (by omega)]
    unfold putL
    simp [List.map_set, ja]
noncomputable def tmin (g : Gp) (L : List (List Int)) (f : Fli) (s : Nat) : Int := (Br (fun i j => apS g.rows g.r2 (j, i) (f.kind, s)) 0 L).foldl gZ f.first
noncomputable def after (g : Gp) (c : Int) (L : List (List Int)) (f : Fli) (s : Nat) (u : Int) : Dat := if f.last < u then .non else nC (c + B6 f u) (putL L s f.kind.toNat u)
theorem ny.short {s k : Nat} {L : List (List Int)} (h : ny s k L) (hk : k <= 1000) : ∀ r ∈ L, r.length <= 1000 := fun r hr => by rw [h.2 r hr]; exact hk
section
variable (CR CP : Addr)
theorem lasts_ok (n : Nat) {s k : Nat} {L : List (List Int)} (hL : ny s k L) (hs : s <= 10) (hk : k <= 10) {i j : Nat} (hi : i < s) (hj : j < k) (x : Int) : gQ CR CP n [jY L, .tup [.int j, .int i], .int x] = .ok (jY (putL L i j x)) := by
  have h1 := Bk L (hL.short (by omega))
  have hp := rP (j := j) hL hi x
  have h2 := yC (putL L i j x) (hp.short (by omega))
  obtain ⟨e1, e2⟩ := Ag hL hi hj x
  have l1 : L.length <= 16777216 := by have := hL.1; omega
  have l2 : (putL L i j x).length <= 16777216 := by have := hp.1; omega
  simp only [jY]
  simp [gQ, md, za, BI, tF, xn, lstOf, asI, h1, l1, e1, e2, h2, l2]
theorem CZ (n : Nat) (hne : CR ≠ CP) {g : Gp} (hg : g.Good) {cs : List eu} (hc1 : cs.length <= 20) (hc2 : ∀ p ∈ cs, p.1 < p.2) {fl : List Fli} (hfl : ∀ f ∈ fl, yS g.k f) (c : Int) {L : List (List Int)} (hL : ny g.s g.k L) {q s : Nat} (hq : q < fl.length) (hs : s < g.s) {u : Int} (hu : t6 cs (tmin g L (fy fl q) s) u) :
    di CR CP n [aT CR CP g.rows g.o, .lst (fl.map flD), .lst (cs.map stD), nC c L, .int q, .int s] = .ok (after g c L (fy fl q) s u) := by
  obtain ⟨ef, hm⟩ := getFl (fl := fl) (i := q) (by omega) (by omega)
  have gf := hfl _ hm
  have k3 := hg.k3
  have hs2 : g.s <= 2 := by unfold Gp.s; split <;> omega
  have el := lg_ok CR CP n hne hg (fy fl q).kind s gf.k0 gf.k1 ⟨by omega, by omega⟩ hL
  have hal := AG (fun i j => apS g.rows g.r2 (j, i) ((fy fl q).kind, s)) g.k 0 L hL.2
  have hkk : g.k * L.length <= 3 * 2 := Nat.mul_le_mul k3 (by have := hL.1; omega)
  obtain ⟨v, ev, hv⟩ := next_ok CR CP n cs (tmin g L (fy fl q) s) (by omega) hc2
  have huv := hv.uniq hu
  subst huv
  have ec := late_ok CR CP n (fy fl q) v gf.p0 gf.p1
  obtain ⟨kk, hkk2⟩ : ∃ kk : Nat, (fy fl q).kind = kk := ⟨(fy fl q).kind.toNat, by have := gf.k0; omega⟩
  have ew := lasts_ok CR CP n hL (by omega) (by omega) hs (j := kk) (by have := gf.k1; omega) v
  rw [<- hkk2] at ew
  have hkt : (fy fl q).kind.toNat = kk := by omega
  unfold tmin at ev
  generalize hall : Br (fun i j => apS g.rows g.r2 (j, i) ((fy fl q).kind, s)) 0 L = A at el hal ev
  have eM : maxD [.lst (.int (fy fl q).first :: A.map .int)] = .ok (.int (A.foldl gZ (fy fl q).first)) := by
    show (e8 (((fy fl q).first :: A).map .int)).bind maxL = _
    rw [m8, ak, maxL]
  have hA : 1 + A.length <= 16777216 := by omega
  unfold after
  simp only [flD] at ef ec
  by_cases hlt : (fy fl q).last < v
  · rw [if_pos hlt]
    simp [di, gG, hX, ef, nC, el, nv, hA, eM, ev, hlt, -ym]
  · rw [if_neg hlt, hkt]
    simp [di, gG, hX, ef, nC, el, nv, hA, eM, ev, hlt, ec, ew, -ym]
end
section
variable (CR CP : Addr)
theorem g0 {g : Gp} (hg : g.Good) : ∃ ds, g.D = .lst ds /\ ds.length = g.s /\ n6 ds 0 = .ok (aS g.rows) /\ g.rows.length = g.k := by
  unfold Gp.D Gp.s
  cases g.two <;> exact ⟨_, rfl, rfl, by simp, hg.rows.1⟩
theorem whole_ok (n : Nat) (x : Int) : cJ CR CP n [.int x] = .ok (.bl true) := by simp [cJ, mh]
theorem As (n : Nat) {g : Gp} (hg : g.Good) (c : Int) {L : List (List Int)} (hL : ny g.s g.k L) : cF CR CP n [nC c L, g.D] = .ok (.bl true) := by
  have k3 := hg.k3
  have hs2 : g.s <= 2 := by unfold Gp.s; split <;> omega
  obtain ⟨ds, hD, hDl, hd0, hrl⟩ := g0 hg
  have hw := whole_ok CR CP n
  have ll := hL.1
  obtain ⟨ρ', e, y2, rfl⟩ := jk (p := .nm 2) (g := gC CR CP n)
    (fun i ρ => ∃ (z2 : Option Dat), ρ = [some (nC c L), some g.D, z2]) (L.map tupI) 0 [some (nC c L), some g.D, none] ⟨none, rfl⟩ (by
    rintro i d ρ hd ⟨z2, rfl⟩
    rw [List.getElem?_map] at hd
    obtain ⟨r, hr, rfl⟩ := Option.map_eq_some_iff.mp hd
    have hrk := hL.2 r (List.mem_of_getElem? hr)
    have ec : bf (.nm 0) rp (fL (cJ CR CP n) (a9 (ah 0) aJ)) [none] (r.map .int) = .ok ((r.map fun _ => true).map Dat.bl) := by
      have := eO (p := .nm 0) (fe := fL (cJ CR CP n) (a9 (ah 0) aJ)) (ρ0 := [none]) (fun _ => .bl true) (r.map .int) (fun d hd => by
        obtain ⟨x, hx, rfl⟩ := List.mem_map.mp hd
        exact ⟨[some (.int x)], by simp, by simp [hw]⟩)
      rw [this, List.map_map, List.map_map]
      rfl
    have hl : g.k <= 16777216 := by omega
    refine ⟨[some (nC c L), some g.D, some (tupI r)], by simp, [some (nC c L), some g.D, some (tupI r)], .inl ?_, _, rfl⟩
    rw [hD]
    simp [gC, kd, tupI, hd0, aS, hrl, hrk, ec, hl, -List.map_map])
  rw [hD] at e ⊢
  simp only [nC, jY] at e ⊢
  simp [cF, iN, kf, hw, ke, ll, hDl, e]
end
theorem An (n : Nat) : ∀ L : List (List Int), jW (L.map tupI) (n + 2) = true
  | [] => by simp [jW]
  | r :: L => by simp [jW, okE, tupI, zp n r, An n L]
theorem Aw : ∀ L : List (List Int), qR (L.map tupI) (L.map tupI) = true
  | [] => by simp [qR]
  | r :: L => by simp [qR, eqD, tupI, CC r, Aw L]
theorem C8 (c : Int) (L : List (List Int)) : neM (nC c L) (nC c L) = .ok (.bl false) := by
  have h : okE (nC c L) 40 = true := by simp [nC, jY, okE, jW, An]
  unfold neM
  rw [h]
  simp [nC, jY, eqD, qR, Aw]
theorem lookM1 (d : Dat) : List.lookup ("many_strips" : Str) [(("gaps" : Str), d)] = none := by
  rw [List.lookup_cons, show ((("many_strips" : Str) == ("gaps" : Str)) = false) from by decide +kernel]
  rfl
theorem lookM2 (d e : Dat) : List.lookup ("many_strips" : Str) [(("gaps" : Str), d), (("beside" : Str), e)] = none := by
  rw [List.lookup_cons, show ((("many_strips" : Str) == ("gaps" : Str)) = false) from by decide +kernel]
  show List.lookup ("many_strips" : Str) [(("beside" : Str), e)] = none
  rw [List.lookup_cons, show ((("many_strips" : Str) == ("beside" : Str)) = false) from by decide +kernel]
  rfl
theorem lookK1 (d : Dat) : List.lookup ("many_kinds" : Str) [(("gaps" : Str), d)] = none := by
  rw [List.lookup_cons, show ((("many_kinds" : Str) == ("gaps" : Str)) = false) from by decide +kernel]
  rfl
theorem lookK2 (d e : Dat) : List.lookup ("many_kinds" : Str) [(("gaps" : Str), d), (("beside" : Str), e)] = none := by
  rw [List.lookup_cons, show ((("many_kinds" : Str) == ("gaps" : Str)) = false) from by decide +kernel]
  show List.lookup ("many_kinds" : Str) [(("beside" : Str), e)] = none
  rw [List.lookup_cons, show ((("many_kinds" : Str) == ("beside" : Str)) = false) from by decide +kernel]
  rfl
section
variable (CR CP : Addr)
theorem gstrips (n : Nat) (hne : CR ≠ CP) {g : Gp} (fo : ag -> M Dat) (ρ : ag) (h0 : fo ρ = .ok (aT CR CP g.rows g.o)) : gY CR CP "many_strips" (bX CR CP n) (c9 CR CP n) fo aJ ρ = .ok (.int g.s) := by
  unfold gY
  rw [h0, ak]
  cases h : g.two with
  | false =>
    have ho : g.o = .non := by simp [Gp.o, h]
    have hc : isC CR "many_strips" (aT CR CP g.rows g.o) = true := by
      rw [ho]
      show ((CR == CR) && (List.lookup ("many_strips" : Str) [(("gaps" : Str), aS g.rows)]).isNone) = true
      rw [lookM1]; simp
    rw [if_pos hc]
    simp [bX, f9, Gp.s, h]
  | true =>
    have ho : g.o = aS g.r2 := by simp [Gp.o, h]
    have hc : isC CR "many_strips" (aT CR CP g.rows g.o) = false := by
      rw [ho]
      show ((CP == CR) && (List.lookup ("many_strips" : Str) [(("gaps" : Str), aS g.rows), (("beside" : Str), aS g.r2)]).isNone) = false
      have : (CP == CR) = false := by simp; exact fun z => hne z.symm
      rw [this]; rfl
    have hc2 : isC CP "many_strips" (aT CR CP g.rows g.o) = true := by
      rw [ho]
      show ((CP == CP) && (List.lookup ("many_strips" : Str) [(("gaps" : Str), aS g.rows), (("beside" : Str), aS g.r2)]).isNone) = true
      rw [lookM2]; simp
    rw [if_neg (by rw [hc]; simp), if_pos hc2]
    simp [c9, fU, Gp.s, h]
theorem gkinds (n : Nat) (hne : CR ≠ CP) {g : Gp} (hg : g.Good) (fo : ag -> M Dat) (ρ : ag) (h0 : fo ρ = .ok (aT CR CP g.rows g.o)) : gY CR CP "many_kinds" (aW CR CP n) (aW CR CP n) fo aJ ρ = .ok (.int g.k) := by
  have hrl := hg.rows.1
  unfold gY
  rw [h0, ak]
  cases h : g.two with
  | false =>
    have ho : g.o = .non := by simp [Gp.o, h]
    have hc : isC CR "many_kinds" (aT CR CP g.rows g.o) = true := by
      rw [ho]
      show ((CR == CR) && (List.lookup ("many_kinds" : Str) [(("gaps" : Str), aS g.rows)]).isNone) = true
      rw [lookK1]; simp
    have hgg := vS CR CP g.rows g.o (.inl ho)
    rw [if_pos hc]
    simp [aW, dr, hgg, aS, hrl]
  | true =>
    have ho : g.o = aS g.r2 := by simp [Gp.o, h]
    have hc : isC CR "many_kinds" (aT CR CP g.rows g.o) = false := by
      rw [ho]
      show ((CP == CR) && (List.lookup ("many_kinds" : Str) [(("gaps" : Str), aS g.rows), (("beside" : Str), aS g.r2)]).isNone) = false
      have : (CP == CR) = false := by simp; exact fun z => hne z.symm
      rw [this]; rfl
    have hc2 : isC CP "many_kinds" (aT CR CP g.rows g.o) = true := by
      rw [ho]
      show ((CP == CP) && (List.lookup ("many_kinds" : Str) [(("gaps" : Str), aS g.rows), (("beside" : Str), aS g.r2)]).isNone) = true
      rw [lookK2]; simp
    have hgg := vS CR CP g.rows g.o (.inr ⟨_, ho⟩)
    rw [if_neg (by rw [hc]; simp), if_pos hc2]
    simp [aW, dr, hgg, aS, hrl]
noncomputable def L0 (g : Gp) : List (List Int) := List.replicate g.s (List.replicate g.k (-1))
theorem A6 (g : Gp) : ny g.s g.k (L0 g) := ⟨by simp [L0], fun r hr => by rw [List.eq_of_mem_replicate hr]; simp⟩
theorem Cz (n : Nat) (hne : CR ≠ CP) {g : Gp} (hg : g.Good) : ie CR CP n [aT CR CP g.rows g.o] = .ok (nC 0 (L0 g)) := by
  have k3 := hg.k3
  have hs2 : g.s <= 2 := by unfold Gp.s; split <;> omega
  have ek := gkinds CR CP n hne hg (ah 0) [some (aT CR CP g.rows g.o), none] (by simp)
  have es := gstrips CR CP n hne (g := g) (ah 0) [some (aT CR CP g.rows g.o), some (tupI (List.replicate g.k (-1)))] (by simp)
  have k1 : -4611686018427387904 <= (g.k : Int) := by omega
  have k2 : (g.k : Int) < 4611686018427387904 := by omega
  have j1 : -4611686018427387904 <= (g.s : Int) := by omega
  have j2 : (g.s : Int) < 4611686018427387904 := by omega
  have c1 : bf (.nm 0) rp (f1 Bt (fC (.int 1))) [none] (bz 0 g.k) = .ok ((List.replicate g.k (-1)).map Dat.int) := by
    have := eO (p := .nm 0) (fe := f1 Bt (fC (.int 1))) (ρ0 := [none]) (fun _ => .int (-1)) (bz 0 g.k) (fun d _ => ⟨[some d], by simp, by simp⟩)
    rw [this, List.map_const', dh, List.map_replicate]
  have c2 : ∀ d : Dat, bf (.nm 0) rp (ah 1) [none, some d] (bz 0 g.s) = .ok (List.replicate g.s d) := fun d => by
    have := eO (p := .nm 0) (fe := ah 1) (ρ0 := [none, some d]) (fun _ => d) (bz 0 g.s) (fun e _ => ⟨[some e, some d], by simp, by simp⟩)
    rw [this, List.map_const', dh]
  have l1 : (bz 0 g.k).length <= 16777216 := by rw [dh]; omega
  have l2 : (bz 0 g.s).length <= 16777216 := by rw [dh]; omega
  have l3 : g.k <= 16777216 := by omega
  have l4 : g.s <= 16777216 := by omega
  have e1 : dB 2 1 (ig CR CP n) [aT CR CP g.rows g.o] = .ok (nC 0 (L0 g)) := by
    have c2' := c2 (tupI (List.replicate g.k (-1)))
    simp only [tupI] at c2' es
    have hL : jY (L0 g) = .tup (List.replicate g.s (.tup ((List.replicate g.k (-1)).map Dat.int))) := by simp [jY, L0, tupI]
    rw [nC, hL]
    generalize hr : (List.replicate g.k (-1)).map Dat.int = row at c1 c2' es ⊢
    have hrow : row.length <= 16777216 := by rw [<- hr]; simp; omega
    simp [ig, ek, k1, k2, l1, c1, hrow, es, j1, j2, l2, c2', l4, -List.map_replicate]
  exact e1
theorem vY (l : List Int) (j : Nat) : (l.map Dat.int).eraseIdx j = (l.eraseIdx j).map Dat.int := by
  induction l generalizing j with
  | nil => rfl
  | cons a l ih => cases j with
    | zero => rfl
    | succ j => simp [ih]
theorem popD_in {ls : List Int} {k : Int} (h0 : 0 <= k) (h1 : k < ls.length) (hl : ls.length <= 16777216) : popD (ls.map .int) (.int k) = .ok (.int (ls[k.toNat]'(by omega)), (ls.eraseIdx k.toNat).map .int) := by
  obtain ⟨j, rfl⟩ : ∃ j : Nat, k = j := ⟨k.toNat, by omega⟩
  have hj : j < ls.length := by omega
  have hz := sizeLine_eq
  have hn : ¬ sizeLine < ls.length := by omega
  show (asI (.int (j : Int))).bind _ = _
  unfold asI
  rw [ak]
  simp only [List.length_map, if_neg hn, zx hj, List.getElem?_map, List.getElem?_eq_getElem hj]
  simp [vY]
theorem plan_ok (n : Nat) (ns : List Int) (many s : Nat) (hm : many <= 40) (hs : 1 <= s) (hs2 : s <= 2) : ∃ qs : List eu, (∀ p ∈ qs, 0 <= p.1 /\ p.1 < many /\ 0 <= p.2 /\ p.2 < s) /\ qs.length <= many /\ iH CR CP n [.lst (ns.map .int), .int many, .int s] = .ok (.lst (qs.map stD)) := by
  have k1 : -4611686018427387904 <= (many : Int) := by omega
  have k2 : (many : Int) < 4611686018427387904 := by omega
  have hr0 : bz 0 many = (List.range many).map fun k : Nat => Dat.int k := by simp [bz]
  obtain ⟨ρ', e, ls, qs, y5, y6, rfl, h1, h2, h3, h4⟩ := jk (p := .nm 5) (g := kY CR CP n)
    (fun i ρ => ∃ (ls : List Int) (qs : List eu) (z5 z6 : Option Dat), ρ = [some (.lst (ns.map .int)), some (.int many), some (.int s), some (.lst (ls.map .int)), some (.lst (qs.map stD)), z5, z6] /\ ls.length + i = many /\ qs.length = i /\ (∀ x ∈ ls, 0 <= x /\ x < many) /\ ∀ p ∈ qs, 0 <= p.1 /\ p.1 < many /\ 0 <= p.2 /\ p.2 < s) (bz 0 many) 0 [some (.lst (ns.map .int)), some (.int many), some (.int s), some (.lst (bz 0 many)), some (.lst []), none, none]
    ⟨(List.range many).map fun k : Nat => (k : Int), [], none, none, by rw [hr0, List.map_map]; rfl, by simp, rfl, fun x hx => by obtain ⟨k, hk, rfl⟩ := List.mem_map.mp hx; have := List.mem_range.mp hk; omega, by simp⟩ (by
    rintro i d ρ hd ⟨ls, qs, z5, z6, rfl, a1, a2, a3, a4⟩
    obtain ⟨hi, rfl⟩ := jP hd
    obtain ⟨c, ec⟩ := kQ CR CP n ns (40 + (i : Int)) (by omega) (by omega)
    generalize hx : c * 48271 % 2147483647 = x
    have hl0 : (0 : Int) < ls.length := by omega
    have q0 : 0 <= x / 8 % (ls.length : Int) := Int.emod_nonneg _ (by omega)
    have q1 : x / 8 % (ls.length : Int) < ls.length := Int.emod_lt_of_pos _ hl0
    have s0 : (0 : Int) < s := by omega
    have t0 : 0 <= x % 8 % (s : Int) := Int.emod_nonneg _ (by omega)
    have t1 : x % 8 % (s : Int) < s := Int.emod_lt_of_pos _ s0
    have ep := popD_in q0 q1 (by omega)
    have hq : qs.length < 16777216 := by omega
    have hk : (x / 8 % (ls.length : Int)).toNat < ls.length := by omega
    refine ⟨[some (.lst (ns.map .int)), some (.int many), some (.int s), some (.lst (ls.map .int)), some (.lst (qs.map stD)), some (.int i), z6], by simp, [some (.lst (ns.map .int)), some (.int many), some (.int s), some (.lst ((ls.eraseIdx (x / 8 % (ls.length : Int)).toNat).map .int)), some (.lst ((qs ++ [(ls[(x / 8 % (ls.length : Int)).toNat], x % 8 % (s : Int))]).map stD)), some (.int i), some (.int x)], .inl ?_, _, _, _, _, rfl, ?_, by simp; omega, fun y hy => a3 y (List.mem_of_mem_eraseIdx hy), fun y hy => ?_⟩
    · have hs1 : (s : Int) < 18446744073709551616 := by omega
      simp [kY, ec, hx, pk, jb, zC hl0, ep, pZ, zC s0, put, sizeLine_eq, hq, stD]
    · rw [List.length_eraseIdx, if_pos hk]; omega
    · rcases List.mem_append.mp hy with z | z
      · exact a4 y z
      · simp at z; subst z
        have := a3 _ (List.getElem_mem hk)
        exact ⟨this.1, this.2, t0, t1⟩)
  rw [Nat.zero_add, dh] at h1 h2
  have hl : (bz 0 many).length <= 16777216 := by rw [dh]; omega
  exact ⟨qs, h4, by omega, by simp [iH, oG, k1, k2, hl, e]⟩
end
noncomputable def zf (L : List (List Int)) (h : eu × Int) : List (List Int) := putL L h.1.2.toNat h.1.1.toNat h.2
noncomputable def InG (g : Gp) (p : eu) : Prop := 0 <= p.1 /\ p.1 < g.k /\ 0 <= p.2 /\ p.2 < g.s
theorem uM : ∀ hs : List (eu × Int), uO ((hs.map (·.1)).map stD) ((hs.map (·.2)).map .int) = hs.map fun h => .tup [stD h.1, .int h.2]
  | [] => by rw [uO.eq_def]; rfl
  | h :: hs => by simp only [List.map_cons, uO, uM hs]
theorem xm {g : Gp} (a0 a1 a2 a3 a4 : Option Dat) : ∀ (hs : List (eu × Int)) (L : List (List Int)) (z6 z7 : Option Dat), ny g.s g.k L -> (∀ x ∈ hs, InG g x.1) -> ny g.s g.k (hs.foldl zf L) /\ ∃ y6 y7, eP (.tp [6, 7]) (ah 7) (f2 ixD (ah 6) (fC (.int 1))) (f2 ixD (ah 6) (fC (.int 0))) (hs.map fun h => .tup [stD h.1, .int h.2]) (L.map ja) [a0, a1, a2, a3, a4, none, z6, z7] = .ok ([a0, a1, a2, a3, a4, none, y6, y7], (hs.foldl zf L).map ja)
  | [], L, z6, z7, hL, _ => ⟨hL, z6, z7, rfl⟩
  | h :: hs, L, z6, z7, hL, hi => by
    obtain ⟨⟨⟨a, b⟩, t⟩, rfl⟩ : ∃ h' : eu × Int, h = h' := ⟨h, rfl⟩
    obtain ⟨i0, i1, i2, i3⟩ : 0 <= a /\ a < g.k /\ 0 <= b /\ b < g.s := hi ((a, b), t) (by simp)
    obtain ⟨j, rfl⟩ : ∃ j : Nat, a = j := ⟨a.toNat, by omega⟩
    obtain ⟨i, rfl⟩ : ∃ i : Nat, b = i := ⟨b.toNat, by omega⟩
    have hi' : i < g.s := by omega
    have hj' : j < g.k := by omega
    obtain ⟨e1, e2⟩ := Ag hL hi' hj' t
    have ep : zf L (((j : Int), (i : Int)), t) = putL L i j t := by simp [zf]
    obtain ⟨g1, y6, y7, ih⟩ := xm a0 a1 a2 a3 a4 hs (putL L i j t) (some (stD ((j : Int), (i : Int)))) (some (.int t)) (rP hL hi' t) (fun x hx => hi x (by simp [hx]))
    rw [List.foldl_cons, ep]
    refine ⟨g1, y6, y7, ?_⟩
    rw [List.map_cons, eP, <- ih]
    have hb : fD (.tp [6, 7]) (.tup [stD ((j : Int), (i : Int)), .int t]) [a0, a1, a2, a3, a4, none, z6, z7] = .ok [a0, a1, a2, a3, a4, none, some (stD ((j : Int), (i : Int))), some (.int t)] := by simp
    have hst : tj (L.map ja) (ah 7) (f2 ixD (ah 6) (fC (.int 1))) (f2 ixD (ah 6) (fC (.int 0))) [a0, a1, a2, a3, a4, none, some (stD ((j : Int), (i : Int))), some (.int t)] = .ok ((putL L i j t).map ja) := by
      simp [tj, rK, lD, stD, asI, e1, e2]
    show (fD (.tp [6, 7]) (.tup [stD ((j : Int), (i : Int)), .int t]) _).bind _ = _
    rw [hb, ak, hst, ak]
noncomputable def bu (g : Gp) (hs : List (eu × Int)) : List (List Int) := hs.foldl zf (L0 g)
section
variable (CR CP : Addr)
theorem CG (n : Nat) {g : Gp} (hg : g.Good) (fl : Dat) (hs : List (eu × Int)) (cs : List Int) (hi : ∀ x ∈ hs, InG g x.1) : ny g.s g.k (bu g hs) /\ gB CR CP n [g.D, fl, .lst ((hs.map (·.1)).map stD), .lst ((hs.map (·.2)).map .int), .lst (cs.map .int)] = .ok (nC cs.sum (bu g hs)) := by
  have k3 := hg.k3
  have hs2 : g.s <= 2 := by unfold Gp.s; split <;> omega
  obtain ⟨ds, hD, hDl, hd0, hrl⟩ := g0 hg
  have c1 : (g.k : Int) < 9223372036854775808 := by omega
  have c0 : (-9223372036854775808 : Int) <= (g.k : Int) := by omega
  have c2 : g.k <= 16777216 := by omega
  have hfl : ∀ k : Nat, (List.replicate k [Dat.int (-1)]).flatten = (List.replicate k (-1)).map Dat.int := fun k => by
    induction k with
    | zero => rfl
    | succ k ih => rw [List.replicate_succ, List.flatten_cons, ih, List.replicate_succ]; rfl
  have ec : bf (.nm 0) rp (f2 repD (fL cE (a9 (f1 Bt (fC (.int 1))) aJ)) (fL ur (a9 (f2 ixD (ah 1) (fC (.int 0))) aJ))) [none, some (.lst ds)] ds = .ok (ds.map fun _ => ja (List.replicate g.k (-1))) := by
    refine eO _ ds fun d hd => ⟨[some d, some (.lst ds)], by simp, ?_⟩
    have hz : ([Dat.int (-1)] : List Dat).length * g.k <= 16777216 := by simp; omega
    simp [hd0, aS, hrl, c0, c1, c2, hfl, ja]
  have em : (ds.map fun _ => ja (List.replicate g.k (-1))) = (L0 g).map ja := by
    rw [List.map_const', hDl, L0, List.map_replicate]
  rw [em] at ec
  obtain ⟨g1, y6, y7, el⟩ := xm (g := g) (some g.D) (some fl) (some (.lst ((hs.map (·.1)).map stD))) (some (.lst ((hs.map (·.2)).map .int))) (some (.lst (cs.map .int))) hs (L0 g) none none (A6 g) hi
  refine ⟨g1, ?_⟩
  have h2 := yC (bu g hs) (g1.short (by omega))
  have l2 : (bu g hs).length <= 16777216 := by have := g1.1; unfold bu; omega
  have hl : ds.length <= 16777216 := by omega
  have ez := uM hs
  rw [<- ez] at el
  change eP _ _ _ _ _ _ _ = .ok (_, (bu g hs).map ja) at el
  rw [hD] at el ⊢
  generalize (hs.map (·.1)).map stD = S at el ⊢
  generalize (hs.map (·.2)).map Dat.int = T at el ⊢
  generalize bu g hs = LL at el h2 l2 ⊢
  simp only [nC, jY]
  simp [gB, qB, kj, hl, ec, lstOf, nR, qj, el, h2, l2]
end
noncomputable def lAt (L : List (List Int)) (i j : Nat) : Int := tAt (pe L i) j
theorem lRow_set {L : List (List Int)} {i m : Nat} {r : List Int} (hi : i < L.length) : pe (L.set i r) m = if i = m then r else pe L m := by
  unfold pe
  by_cases h : i = m
  · subst h; simp [hi]
  · simp [h, List.getElem?_set_ne h]
theorem tAt_set {r : List Int} {j m : Nat} {x : Int} (hj : j < r.length) : tAt (r.set j x) m = if j = m then x else tAt r m := by
  unfold tAt
  by_cases h : j = m
  · subst h; simp [hj]
  · simp [h, List.getElem?_set_ne h]
theorem lAt_put {s k : Nat} {L : List (List Int)} (hL : ny s k L) {i j : Nat} (hi : i < s) (hj : j < k) (x : Int) (m p : Nat) : lAt (putL L i j x) m p = if i = m /\ j = p then x else lAt L m p := by
  have hl : i < L.length := by rw [hL.1]; exact hi
  have hr := (pC hL hi).2.1
  unfold lAt putL
  rw [lRow_set hl]
  by_cases h : i = m
  · subst h
    rw [if_pos rfl, tAt_set (by omega)]
    by_cases h2 : j = p <;> simp [h2]
  · simp [h]
structure LastOk (g : Gp) (hs : List (eu × Int)) : Prop where
  ing : ∀ h ∈ hs, InG g h.1 /\ 0 <= h.2
  good : ny g.s g.k (bu g hs)
  fr : ∀ i j : Nat, i < g.s -> j < g.k -> lAt (bu g hs) i j ≠ -1 -> (((j : Int), (i : Int)), lAt (bu g hs) i j) ∈ hs
  to : ∀ h ∈ hs, lAt (bu g hs) h.1.2.toNat h.1.1.toNat ≠ -1 /\ h.2 <= lAt (bu g hs) h.1.2.toNat h.1.1.toNat
theorem LastOk.nil (g : Gp) : LastOk g [] where
  ing := by simp
  good := A6 g
  fr := fun i j hi hj h => by
    refine absurd ?_ h
    show lAt (L0 g) i j = -1
    simp [lAt, pe, L0, tAt, hi, hj]
  to := by simp
theorem LastOk.push {g : Gp} {hs : List (eu × Int)} (h : LastOk g hs) {p : eu} {t : Int} (hp : InG g p) (ht : 0 <= t) (hm : ∀ x ∈ hs, x.2 <= t) : LastOk g (hs ++ [(p, t)]) := by
  obtain ⟨a, b⟩ := p
  obtain ⟨i0, i1, i2, i3⟩ : 0 <= a /\ a < g.k /\ 0 <= b /\ b < g.s := id hp
  obtain ⟨j, rfl⟩ : ∃ j : Nat, a = j := ⟨a.toNat, by omega⟩
  obtain ⟨i, rfl⟩ : ∃ i : Nat, b = i := ⟨b.toNat, by omega⟩
  have hi' : i < g.s := by omega
  have hj' : j < g.k := by omega
  have e : bu g (hs ++ [(((j : Int), (i : Int)), t)]) = putL (bu g hs) i j t := by simp [bu, zf]
  have ea := lAt_put h.good hi' hj' t
  refine ⟨fun x hx => ?_, by rw [e]; exact rP h.good hi' t, fun m q hm1 hq h1 => ?_, fun x hx => ?_⟩
  · rcases List.mem_append.mp hx with z | z
    · exact h.ing x z
    · simp at z; subst z; exact ⟨hp, ht⟩
  · rw [e, ea] at h1 ⊢
    by_cases c : i = m /\ j = q
    · rw [if_pos c, <- c.1, <- c.2]; simp
    · rw [if_neg c] at h1 ⊢
      exact List.mem_append.mpr (.inl (h.fr m q hm1 hq h1))
  · rw [e, ea]
    rcases List.mem_append.mp hx with z | z
    · obtain ⟨u1, u2⟩ := h.to x z
      by_cases c : i = x.1.2.toNat /\ j = x.1.1.toNat
      · rw [if_pos c]
        exact ⟨by omega, hm x z⟩
      · rw [if_neg c]; exact ⟨u1, u2⟩
    · simp at z; subst z
      rw [if_pos (by simp)]
      exact ⟨by omega, Int.le_refl _⟩
theorem Ap (ap : Nat -> Int) : ∀ (r : List Int) (j : Nat) (x : Int), x ∈ zc ap j r ↔ ∃ m, m < r.length /\ tAt r m ≠ -1 /\ x = tAt r m + ap (j + m)
  | [], j, x => by simp [zc]
  | y :: r, j, x => by
    have ih := Ap ap r (j + 1) x
    have key : (∃ m, m < (y :: r).length /\ tAt (y :: r) m ≠ -1 /\ x = tAt (y :: r) m + ap (j + m)) ↔ (y ≠ -1 /\ x = y + ap j) \/ ∃ m, m < r.length /\ tAt r m ≠ -1 /\ x = tAt r m + ap (j + 1 + m) := by
      constructor
      · rintro ⟨m, h1, h2, h3⟩
        cases m with
        | zero => exact .inl ⟨by simpa [tAt] using h2, by simpa [tAt] using h3⟩
        | succ m => exact .inr ⟨m, by simpa using h1, by simpa [tAt] using h2, by rw [show j + 1 + m = j + (m + 1) by omega]; simpa [tAt] using h3⟩
      · rintro (⟨h1, h2⟩ | ⟨m, h1, h2, h3⟩)
        · exact ⟨0, by simp, by simpa [tAt] using h1, by simpa [tAt] using h2⟩
        · exact ⟨m + 1, by simpa using h1, by simpa [tAt] using h2, by rw [show j + 1 + m = j + (m + 1) by omega] at h3; simpa [tAt] using h3⟩
    rw [key]
    unfold zc
    by_cases hy : y = -1
    · simp [hy, ih]
    · simp [hy, ih]
theorem vG (ap : Nat -> Nat -> Int) : ∀ (L : List (List Int)) (i : Nat) (x : Int), x ∈ Br ap i L ↔ ∃ m q, m < L.length /\ q < (pe L m).length /\ lAt L m q ≠ -1 /\ x = lAt L m q + ap (i + m) q
  | [], i, x => by simp [Br]
  | r :: L, i, x => by
    have ih := vG ap L (i + 1) x
    rw [Br, List.mem_append, Ap, ih]
    constructor
    · rintro (⟨q, h1, h2, h3⟩ | ⟨m, q, h1, h2, h3, h4⟩)
      · exact ⟨0, q, by simp, by simpa [pe] using h1, by simpa [lAt, pe] using h2, by simpa [lAt, pe] using h3⟩
      · exact ⟨m + 1, q, by simpa using h1, by simpa [pe] using h2, by simpa [lAt, pe] using h3, by rw [show i + 1 + m = i + (m + 1) by omega] at h4; simpa [lAt, pe] using h4⟩
    · rintro ⟨m, q, h1, h2, h3, h4⟩
      cases m with
      | zero => exact .inl ⟨q, by simpa [pe] using h2, by simpa [lAt, pe] using h3, by simpa [lAt, pe] using h4⟩
      | succ m => exact .inr ⟨m, q, by simpa using h1, by simpa [pe] using h2, by simpa [lAt, pe] using h3, by rw [show i + 1 + m = i + (m + 1) by omega]; simpa [lAt, pe] using h4⟩
theorem jl : ∀ (xs : List Int) (x : Int), x <= xs.foldl gZ x /\ ∀ y ∈ xs, y <= xs.foldl gZ x
  | [], x => ⟨Int.le_refl _, by simp⟩
  | z :: xs, x => by
    obtain ⟨h1, h2⟩ := jl xs (gZ x z)
    have hm : x <= gZ x z /\ z <= gZ x z := by unfold gZ; split <;> omega
    rw [List.foldl_cons]
    refine ⟨by omega, fun y hy => ?_⟩
    rcases List.mem_cons.mp hy with e | e
    · subst e; omega
    · exact h2 y e
theorem yf {xs ys : List Int} (f : Int) (h1 : ∀ x ∈ xs, ∃ y ∈ ys, x <= y) (h2 : ∀ y ∈ ys, ∃ x ∈ xs, y <= x) : xs.foldl gZ f = ys.foldl gZ f := by
  obtain ⟨a1, a2⟩ := jl xs f
  obtain ⟨b1, b2⟩ := jl ys f
  have u : xs.foldl gZ f <= ys.foldl gZ f := by
    rcases ij xs f with e | e
    · omega
    · obtain ⟨y, hy, hxy⟩ := h1 _ e
      have := b2 y hy
      omega
  have v : ys.foldl gZ f <= xs.foldl gZ f := by
    rcases ij ys f with e | e
    · omega
    · obtain ⟨x, hx, hxy⟩ := h2 _ e
      have := a2 x hx
      omega
  omega
noncomputable def ahead (g : Gp) (hs : List (eu × Int)) (p : eu) : List Int := hs.map fun h => h.2 + apS g.rows g.r2 h.1 p
theorem tmin_eq {g : Gp} {hs : List (eu × Int)} (h : LastOk g hs) (f : Fli) (s : Nat) : tmin g (bu g hs) f s = (ahead g hs (f.kind, s)).foldl gZ f.first := by
  unfold tmin
  refine yf _ (fun x hx => ?_) (fun y hy => ?_)
  · obtain ⟨m, q, h1, h2, h3, h4⟩ := (vG _ _ _ _).mp hx
    have hm : m < g.s := by rw [<- h.good.1]; exact h1
    rw [(pC h.good hm).2.1] at h2
    rw [Nat.zero_add] at h4
    exact ⟨x, List.mem_map.mpr ⟨_, h.fr m q hm h2 h3, h4.symm⟩, Int.le_refl _⟩
  · obtain ⟨z, hz, rfl⟩ := List.mem_map.mp hy
    obtain ⟨⟨i0, i1, i2, i3⟩, _⟩ := h.ing z hz
    obtain ⟨u1, u2⟩ := h.to z hz
    have hm : z.1.2.toNat < g.s := by omega
    refine ⟨_, (vG _ _ _ _).mpr ⟨z.1.2.toNat, z.1.1.toNat, by rw [h.good.1]; exact hm, by rw [(pC h.good hm).2.1]; omega, u1, rfl⟩, ?_⟩
    have e : (((z.1.1.toNat : Nat) : Int), ((0 + z.1.2.toNat : Nat) : Int)) = z.1 := by
      rw [Nat.zero_add]
      exact Prod.ext (by show ((z.1.1.toNat : Nat) : Int) = z.1.1; omega) (by show ((z.1.2.toNat : Nat) : Int) = z.1.2; omega)
    show z.2 + apS g.rows g.r2 z.1 (f.kind, s) <= lAt (bu g hs) z.1.2.toNat z.1.1.toNat + apS g.rows g.r2 (((z.1.1.toNat : Nat) : Int), ((0 + z.1.2.toNat : Nat) : Int)) (f.kind, s)
    rw [e]
    omega
theorem BY (n : Nat) : ∀ cs : List eu, jW (cs.map stD) (n + 2) = true
  | [] => by simp [jW]
  | p :: cs => by simp [jW, okE, stD, BY n cs]
theorem C0 (n : Nat) : ∀ cs : List Fli, jW (cs.map flD) (n + 2) = true
  | [] => by simp [jW]
  | p :: cs => by simp [jW, okE, flD, C0 n cs]
theorem CB : ∀ cs : List eu, qR (cs.map stD) (cs.map stD) = true
  | [] => by simp [qR]
  | p :: cs => by simp [qR, eqD, stD, CB cs]
theorem CD : ∀ cs : List Fli, qR (cs.map flD) (cs.map flD) = true
  | [] => by simp [qR]
  | p :: cs => by simp [qR, eqD, flD, CD cs]
theorem C9 (fl : List Fli) (cs : List eu) : neM (.lst [.lst (fl.map flD), .lst (cs.map stD)]) (.lst [.lst (fl.map flD), .lst (cs.map stD)]) = .ok (.bl false) := by
  have h : okE (.lst [.lst (fl.map flD), .lst (cs.map stD)]) 40 = true := by simp [okE, jW, C0, BY]
  unfold neM
  rw [h]
  simp [eqD, qR, CD, CB]
theorem apS_pos {g : Gp} (hg : g.Good) {p q : eu} (hp : InG g p) (hq : InG g q) : 0 <= apS g.rows g.r2 p q := by
  obtain ⟨a0, a1, _⟩ := hp
  obtain ⟨b0, b1, _⟩ := hq
  unfold apS
  split
  · exact (getA hg.rows a0 a1 b0 b1).2
  · exact (getA hg.r2 a0 a1 b0 b1).2
section
variable (CR CP : Addr)
theorem ahead_ok (n : Nat) {g : Gp} (hg : g.Good) (k s : Int) (hk : InG g (k, s)) (hs : List (eu × Int)) (hi : ∀ x ∈ hs, InG g x.1) : bf (.tp [0, 1]) rp (f2 nv (ah 1) (fL (dN CR CP n) (a9 (ah 2) (a9 (ah 0) (a9 (fL lB (a9 (ah 4) (a9 (ah 3) aJ))) aJ))))) [none, none, some g.D, some (.int s), some (.int k)] (uO ((hs.map (·.1)).map stD) ((hs.map (·.2)).map .int)) = .ok ((ahead g hs (k, s)).map .int) := by
  rw [uM]
  induction hs with
  | nil => rfl
  | cons h hs ih =>
    have ih := ih fun x hx => hi x (by simp [hx])
    obtain ⟨⟨a, b⟩, t⟩ := h
    obtain ⟨a0, a1, b0, b1⟩ := hi _ (List.mem_cons_self ..)
    obtain ⟨k0, k1, s0, s1⟩ := id hk
    have hst : g.two = false -> b = s := fun h => by
      have h1 : g.s = 1 := by simp [Gp.s, h]
      have b0 : 0 <= b := b0
      have b1 : b < g.s := b1
      have s0 : 0 <= s := s0
      have s1 : s < g.s := s1
      omega
    have ea := Bb CR CP n hg (a := a) (s := b) (b := k) (t := s) a0 a1 k0 k1 hst
    have hb : fD (.tp [0, 1]) (.tup [stD (a, b), .int t]) [none, none, some g.D, some (.int s), some (.int k)] = .ok [some (stD (a, b)), some (.int t), some g.D, some (.int s), some (.int k)] := by simp
    rw [List.map_cons, bf]
    show (fD (.tp [0, 1]) (.tup [stD (a, b), .int t]) _).bind _ = _
    rw [hb, ak, ih]
    simp [stD, ea, ahead]
theorem step_ok (n : Nat) (hn : 64 <= n) (hne : CR ≠ CP) {g : Gp} (hg : g.Good) {cs : List eu} (hc1 : cs.length <= 20) (hc2 : ∀ p ∈ cs, p.1 < p.2) {fl : List Fli} (hfl : ∀ f ∈ fl, yS g.k f) (hl : fl.length <= 40) {hs : List (eu × Int)} (ho : LastOk g hs) (hhl : hs.length <= 1000) (cst : List Int) (hcl : cst.length <= 1000) (q s : Nat) (hq : q < fl.length) (hs' : s < g.s) (a0 z11 z12 z13 z14 z15 z16 z17 z18 z19 : Option Dat) :
    qI CR CP n [a0, some g.D, some (aT CR CP g.rows g.o), some (.lst (cs.map stD)), some (.lst (fl.map flD)), some (nC cst.sum (bu g hs)), some (.lst ((hs.map (·.1)).map stD)), some (.lst ((hs.map (·.2)).map .int)), some (.lst (cst.map .int)), some (.int q), some (.int s), z11, z12, z13, z14, z15, z16, z17, z18, z19] = .ok (.rt (.bl true)) \/
    ∃ (u c : Int) (y11 y12 y13 y14 y15 y16 y17 y18 y19 : Option Dat), LastOk g (hs ++ [(((fy fl q).kind, (s : Int)), u)]) /\ qI CR CP n [a0, some g.D, some (aT CR CP g.rows g.o), some (.lst (cs.map stD)), some (.lst (fl.map flD)), some (nC cst.sum (bu g hs)), some (.lst ((hs.map (·.1)).map stD)), some (.lst ((hs.map (·.2)).map .int)), some (.lst (cst.map .int)), some (.int q), some (.int s), z11, z12, z13, z14, z15, z16, z17, z18, z19] = .ok (.nx [a0, some g.D, some (aT CR CP g.rows g.o), some (.lst (cs.map stD)), some (.lst (fl.map flD)), some (nC (cst ++ [c]).sum (bu g (hs ++ [(((fy fl q).kind, (s : Int)), u)]))), some (.lst (((hs ++ [(((fy fl q).kind, (s : Int)), u)]).map (·.1)).map stD)), some (.lst (((hs ++ [(((fy fl q).kind, (s : Int)), u)]).map (·.2)).map .int)), some (.lst ((cst ++ [c]).map .int)), some (.int q), some (.int s), y11, y12, y13, y14, y15, y16, y17, y18, y19]) := by
  obtain ⟨ef, hm⟩ := getFl (fl := fl) (i := q) (by omega) (by omega)
  have gf := hfl _ hm
  have hs2 : g.s <= 2 := by unfold Gp.s; split <;> omega
  have hin : InG g ((fy fl q).kind, (s : Int)) := ⟨gf.k0, gf.k1, by show (0 : Int) <= s; omega, by show (s : Int) < g.s; omega⟩
  have ea := ahead_ok CR CP n hg (fy fl q).kind s hin hs fun x hx => (ho.ing x hx).1
  have et := tmin_eq ho (fy fl q) s
  obtain ⟨u, hu, eo⟩ := open2_ok CR CP n hn cs hc1 (tmin g (bu g hs) (fy fl q) s)
  have eb := CZ CR CP n hne hg hc1 hc2 hfl cst.sum ho.good hq hs' hu
  have ed := (CG CR CP n hg (.lst (fl.map flD)) hs cst fun x hx => (ho.ing x hx).1).2
  have en := C8 cst.sum (bu g hs)
  have eh := C9 fl cs
  have s1 : fl.length <= 16777216 := by omega
  have s2 : cs.length <= 16777216 := by omega
  have hge := jl (ahead g hs ((fy fl q).kind, (s : Int))) (fy fl q).first
  rw [<- et] at hge
  have hlen : (ahead g hs ((fy fl q).kind, (s : Int))).length = hs.length := by simp [ahead]
  have hzl : (uO ((hs.map (·.1)).map stD) ((hs.map (·.2)).map .int)).length <= 16777216 := by rw [uM]; simp; omega
  have hmono : ∀ x ∈ hs, x.2 <= u := fun x hx => by
    have h1 := hge.2 _ (List.mem_map.mpr ⟨x, hx, rfl⟩)
    have h2 := apS_pos hg (ho.ing x hx).1 hin
    have h3 := hu.1
    omega
  have hu0 : 0 <= u := by
    have h1 := hge.1
    have h3 := hu.1
    have h4 := gf.f0
    omega
  have ho2 := ho.push hin hu0 hmono
  have el2 : bu g (hs ++ [(((fy fl q).kind, (s : Int)), u)]) = putL (bu g hs) s (fy fl q).kind.toNat u := by simp [bu, zf]
  have ed2 := (CG CR CP n hg (.lst (fl.map flD)) (hs ++ [(((fy fl q).kind, (s : Int)), u)]) (cst ++ [B6 (fy fl q) u]) fun x hx => (ho2.ing x hx).1).2
  have ei2 := As CR CP n hg (cst ++ [B6 (fy fl q) u]).sum ho2.good
  have en2 := C8 (cst ++ [B6 (fy fl q) u]).sum (bu g (hs ++ [(((fy fl q).kind, (s : Int)), u)]))
  rw [et] at eo
  have eM : maxD [.lst (.int (fy fl q).first :: (ahead g hs ((fy fl q).kind, (s : Int))).map .int)] = .ok (.int ((ahead g hs ((fy fl q).kind, (s : Int))).foldl gZ (fy fl q).first)) := by
    show (e8 (((fy fl q).first :: ahead g hs ((fy fl q).kind, (s : Int))).map .int)).bind maxL = _
    rw [m8, ak, maxL]
  have hA : 1 + (ahead g hs ((fy fl q).kind, (s : Int))).length <= 16777216 := by omega
  have c1 : -18446744073709551616 < (fy fl q).price := by have := gf.p0; omega
  have c2 : (fy fl q).price < 18446744073709551616 := by have := gf.p1; omega
  have hz1 : hs.length < 16777216 := by omega
  have hz2 : cst.length < 16777216 := by omega
  have hsum : (cst ++ [B6 (fy fl q) u]).sum = cst.sum + B6 (fy fl q) u := by simp
  unfold after at eb
  generalize hAA : ahead g hs ((fy fl q).kind, (s : Int)) = A at ea eo eM hA
  simp only [List.map_append, List.map_cons, List.map_nil] at ed2
  have hft : qD true (.lst (A.map .int)) = true := sG A
  by_cases hlt : (fy fl q).last < u
  · left
    rw [if_pos hlt] at eb
    simp only [flD] at ef
    generalize nC cst.sum (bu g hs) = lab at *
    generalize hS : (hs.map (·.1)).map stD = S at *
    generalize hT : (hs.map (·.2)).map Dat.int = T at *
    simp [qI, ef, hzl, ea, hft, nv, hA, eM, eo, s1, s2, eb, zK, ed, en, eh, zJ, hlt, -ym]
  · right
    rw [if_neg hlt, <- el2, <- hsum] at eb
    have gn : ∀ c L, isND (nC c L) .non = .ok (.bl false) := fun c L => by simp [nC]
    refine ⟨u, B6 (fy fl q) u, some (.int (fy fl q).kind), some (.int (fy fl q).first), some (.int (fy fl q).last), some (.int (fy fl q).due), some (.int (fy fl q).price), some (.lst (A.map .int)), some (.int u), some (.lst [.lst (fl.map flD), .lst (cs.map stD)]), some (nC (cst ++ [B6 (fy fl q) u]).sum (bu g (hs ++ [(((fy fl q).kind, (s : Int)), u)]))), ho2, ?_⟩
    simp only [List.map_append, List.map_cons, List.map_nil]
    generalize nC cst.sum (bu g hs) = lab at *
    generalize nC (cst ++ [B6 (fy fl q) u]).sum (bu g (hs ++ [(((fy fl q).kind, (s : Int)), u)])) = lab2 at *
    have hSl : ((hs.map (·.1)).map stD).length = hs.length := by simp
    have hTl : ((hs.map (·.2)).map Dat.int).length = hs.length := by simp
    generalize hS : (hs.map (·.1)).map stD = S at *
    generalize hT : (hs.map (·.2)).map Dat.int = T at *
    simp only [flD, stD, B6] at ef ed2 ⊢
    simp [qI, ef, hzl, ea, hft, nv, hA, eM, eo, s1, s2, eb, zK, ed, en, eh, zJ, hlt, hz1, hz2, hSl, hTl, c1, c2, CT, ei2, ed2, en2, -ym]
theorem law_true (hne : CR ≠ CP) : ∀ ns : List Int, ns.length <= 63 -> ∃ n, Ca CR CP n [.lst (ns.map .int)] = .ok (.bl true) := by
  intro ns hns
  refine ⟨64, ?_⟩
  obtain ⟨g, hg, egp⟩ := gps_ok CR CP 64 ns
  have hs2 : g.s <= 2 /\ 1 <= g.s := by unfold Gp.s; split <;> omega
  obtain ⟨ds, hD, hDl, hd0, hrl⟩ := g0 hg
  have er := Cu CR CP 64 hg
  obtain ⟨cs, hc1, hc2, ec⟩ := Bd CR CP 64 ns
  obtain ⟨c, ecell⟩ := kQ CR CP 64 ns 0 (by omega) (by omega)
  obtain ⟨many, hmany⟩ : ∃ m : Nat, 1 + c / 9 % 12 = m := ⟨(1 + c / 9 % 12).toNat, by omega⟩
  obtain ⟨fl, hf1, hf2, ef⟩ := zA CR CP 64 ns g.k hg.k1 many (by omega)
  have e0 := Cz CR CP 64 hne hg
  obtain ⟨qs, hq1, hq2, eq⟩ := plan_ok CR CP 64 ns many g.s (by omega) hs2.2 hs2.1
  have ei := As CR CP 64 hg 0 (A6 g)
  have ed := (CG CR CP 64 hg (.lst (fl.map flD)) [] [] (by simp)).2
  have en := C8 0 (L0 g)
  have el : bu g [] = L0 g := rfl
  simp only [List.map_nil, List.sum_nil, el] at ed
  have main := Av (p := .tp [9, 10]) (g := qI CR CP 64)
    (fun i ρ => ∃ (hs : List (eu × Int)) (cst : List Int) (z9 z10 z11 z12 z13 z14 z15 z16 z17 z18 z19 : Option Dat), LastOk g hs /\ hs.length = i /\ cst.length = i /\ ρ = [some (.lst (ns.map .int)), some g.D, some (aT CR CP g.rows g.o), some (.lst (cs.map stD)), some (.lst (fl.map flD)), some (nC cst.sum (bu g hs)), some (.lst ((hs.map (·.1)).map stD)), some (.lst ((hs.map (·.2)).map .int)), some (.lst (cst.map .int)), z9, z10, z11, z12, z13, z14, z15, z16, z17, z18, z19]) (fun r => r = .bl true) (qs.map stD) 0
    [some (.lst (ns.map .int)), some g.D, some (aT CR CP g.rows g.o), some (.lst (cs.map stD)), some (.lst (fl.map flD)), some (nC 0 (L0 g)), some (.lst []), some (.lst []), some (.lst []), none, none, none, none, none, none, none, none, none, none, none]
    ⟨[], [], none, none, none, none, none, none, none, none, none, none, none, LastOk.nil g, rfl, rfl, rfl⟩ (by
    rintro i d ρ hd ⟨hs, cst, z9, z10, z11, z12, z13, z14, z15, z16, z17, z18, z19, ho, h1, h2, rfl⟩
    rw [List.getElem?_map] at hd
    obtain ⟨p, hp, rfl⟩ := Option.map_eq_some_iff.mp hd
    have hil := (List.getElem?_eq_some_iff.mp hp).1
    obtain ⟨a, b⟩ := p
    obtain ⟨p0, p1, p2, p3⟩ : 0 <= a /\ a < many /\ 0 <= b /\ b < g.s := hq1 _ (List.mem_of_getElem? hp)
    obtain ⟨q, rfl⟩ : ∃ q : Nat, a = q := ⟨a.toNat, by omega⟩
    obtain ⟨s, rfl⟩ : ∃ s : Nat, b = s := ⟨b.toNat, by omega⟩
    refine ⟨[some (.lst (ns.map .int)), some g.D, some (aT CR CP g.rows g.o), some (.lst (cs.map stD)), some (.lst (fl.map flD)), some (nC cst.sum (bu g hs)), some (.lst ((hs.map (·.1)).map stD)), some (.lst ((hs.map (·.2)).map .int)), some (.lst (cst.map .int)), some (.int q), some (.int s), z11, z12, z13, z14, z15, z16, z17, z18, z19], by simp [stD], ?_⟩
    rcases step_ok CR CP 64 (by omega) hne hg hc1 hc2 hf2 (by omega) ho (by omega) cst (by omega) q s (by omega) (by omega) (some (.lst (ns.map .int))) z11 z12 z13 z14 z15 z16 z17 z18 z19 with z | ⟨u, c, y11, y12, y13, y14, y15, y16, y17, y18, y19, ho2, z⟩
    · exact .inr ⟨_, z, rfl⟩
    · exact .inl ⟨_, z, _, _, _, _, _, _, _, _, _, _, _, _, _, ho2, by simp; omega, by simp; omega, rfl⟩)
  rw [<- hf1] at eq
  simp only [hD] at egp er ei ed main ⊢
  rcases main with ⟨ρ', e, _⟩ | ⟨r, e, rfl⟩
  · simp [Ca, g_law, egp, er, ec, hd0, aS, hrl, ecell, hmany, ef, e0, zL, ei, ed, en, hDl, eq, e]
  · simp [Ca, g_law, egp, er, ec, hd0, aS, hrl, ecell, hmany, ef, e0, zL, ei, ed, en, hDl, eq, e]
end
theorem fin_mk {P : Program} {w : World} {K : PySem.W.Frag} {mg : Str -> Option Value} {st : Stmt} {ps : List Str} {f : Addr} {fd : FuncData} {k : Nat} (_ : Def K mg "law" st ps f fd) (hb : ∀ (s : Shared) (v : Value), BindsTo s fd ⟨[v], []⟩ [("_law_script", v)]) (h : ∀ base : Heap, c6 P w K mg base CX0 k f fd ["_law_script"] (AQ K)) : ∃ fd : FuncData, (∀ (s : Shared) (v : Value), BindsTo s fd ⟨[v], []⟩ [("_law_script", v)]) /\ ∀ base : Heap, K.In base -> base.Ns mainGlobals mg -> c6 P w K mg base CX0 k f fd ["_law_script"] (AQ K) := ⟨fd, hb, fun base _ _ => h base⟩
theorem all_mk {l : PySem.W.OpenLaw} {w : World} {K : PySem.W.Frag} {h : Heap} {mg : Str -> Option Value} {fa CR CP ar bp cY bO il cf aR cj bP bB aw aC aH bN cW cX aL cU cb cV bC bR b9 bA cg bo e9 ck Bg f_nR f_nP : Addr} {xN yQ rh rD xM yP tP ug C3 D4 vu wG rZ sY vw wI tQ uh s9 sZ o4 oZ ni nu o5 p5 tO uf xJ yN xK yO nZ oY xH yL vt wF xI yM tR ui vy wK qp qK rY sX vv wH rg rC zq A5 vx wJ od_law an_law od_nR an_nR od_nP an_nP : Option Addr} {xi qZ xh tu BE uT rM uV tw rN nM n9 nO tm xf xg nL xb uS xc tx uX qi rL uU qY yX uW sl_law sl_nR sl_nP : Array (Option Value)} {xT yc yv xv qX yB rl rn rz r6 lq rB xS yb yu xu qW yA tU tY u5 tH nH ua C4 Cg CJ BO yF CK vA vL wg vd pQ wu se su sO rR mE sR vC vN wk vf pS wy tV tZ u6 tI nI uc sf sv sP rS mF sS o7 oC oM nT iW oV nj nk nq ng ia nr o8 oE oN nU iX oW tT tX u4 tG nG u9 xQ y3 yr xr qU yy xR ya yt xt qV yz o6 oB oK nS iV oU xO xZ yp xp qS yw vz vK we vc pP wt xP y0 yq xq qT yx tW u0 u7 tJ nJ ud vE vP wo vh pV wA qq qv qE ql kc qG sd sr sN rQ mD sQ vB vM wj ve pR wx rj rm rq r0 lp rA zr zw zG zh sW zH vD vO wm vg pU wz oc_law kV_law dc_law pm_law cd_law ct_law oc_nR kV_nR dc_nR pm_nR cd_nR ct_nR oc_nP kV_nP dc_nP pm_nP cd_nP ct_nP : Value} {t9 x5 : Tok} (KX : K.In h) (G : h.Ns mainGlobals mg) (hfa : mg "law" = some (.ref fa))
    (CV : PySem.W.nsIn K mainGlobals "Rules" = some (some (.ref CR)))
    (zP : PySem.W.plainGet K CR Str.empty = true)
    (zS : PySem.W.hasDictIn K CR = true)
    (zO : PySem.W.plainOver K CR = true)
    (zN : PySem.W.findIn K (.ref CR) "__setattr__" = some (some (.builtin "object.__setattr__")))
    (zQ : PySem.W.makesIn K CR = true)
    (zR : PySem.W.keepIn K (.ref CR) = true)
    (zU : PySem.W.findIn K (.ref CR) "__class__" = some (some (.builtin "object.__class__")))
    (zT : PySem.W.mroIn K CR (.type "object") = some true)
    (pz : PySem.W.findIn K (.ref CR) "gaps" = some none)
    (sh : PySem.W.findIn K (.ref CR) "beside" = some none)
    (CW : PySem.W.nsIn K mainGlobals "Pair" = some (some (.ref CP)))
    (zX : PySem.W.plainGet K CP Str.empty = true)
    (A0 : PySem.W.hasDictIn K CP = true)
    (zW : PySem.W.plainOver K CP = true)
    (zV : PySem.W.findIn K (.ref CP) "__setattr__" = some (some (.builtin "object.__setattr__")))
    (zY : PySem.W.makesIn K CP = true)
    (zZ : PySem.W.keepIn K (.ref CP) = true)
    (A2 : PySem.W.findIn K (.ref CP) "__class__" = some (some (.builtin "object.__class__")))
    (A1 : PySem.W.mroIn K CP (.type "object") = some true)
    (lO : PySem.W.findIn K (.ref CP) "gaps" = some none)
    (ko : PySem.W.findIn K (.ref CP) "beside" = some none)
    (o2 : PySem.W.specialIn K (.builtin "object.__class__") "__get__" = some (some (.builtin "getset_descriptor.__get__")))
    (o3 : PySem.W.takesIn K (.builtin "object.__class__") = some true)
    (x_ne : CR ≠ CP)
    (pd : PySem.W.nsIn K mainGlobals "_law_cell" = some (some (.ref ar)))
    (om : K.lookup ar = some ⟨xT, xN, .func (PySem.W.fnOf "_law_cell" "_law_cell" (aF bK) (aD bK) (ab bK) .none yc yv xv yQ qX yB), xi⟩)
    (oT : PySem.W.codeIn K qX "_law_cell" = true)
    (oA : PySem.W.keepIn K (.ref ar) = true)
    (j3 : PySem.W.nsIn K mainGlobals "_law_gap_rows" = some (some (.ref bp)))
    (iK : K.lookup bp = some ⟨rl, rh, .func (PySem.W.fnOf "_law_gap_rows" "_law_gap_rows" (aF bW) (aD bW) (ab bW) .none rn rz r6 rD lq rB), qZ⟩)
    (iU : PySem.W.codeIn K lq "_law_gap_rows" = true)
    (iM : PySem.W.keepIn K (.ref bp) = true)
    (pb : PySem.W.nsIn K mainGlobals "_law_gaps" = some (some (.ref cY)))
    (oj : K.lookup cY = some ⟨xS, xM, .func (PySem.W.fnOf "_law_gaps" "_law_gaps" (aF eX) (aD eX) (ab eX) .none yb yu xu yP qW yA), xh⟩)
    (oS : PySem.W.codeIn K qW "_law_gaps" = true)
    (oz : PySem.W.keepIn K (.ref cY) = true)
    (l0 : PySem.W.nsIn K mainGlobals "copied_rows" = some (some (.ref bO)))
    (ku : K.lookup bO = some ⟨tU, tP, .func (PySem.W.fnOf "copied_rows" "copied_rows" (aF cQ) (aD cQ) (ab cQ) .none tY u5 tH ug nH ua), tu⟩)
    (kM : PySem.W.codeIn K nH "copied_rows" = true)
    (kz : PySem.W.keepIn K (.ref bO) = true)
    (wL : PySem.W.nsIn K mainGlobals "is_gap" = some (some (.ref il)))
    (vI : K.lookup il = some ⟨C4, C3, .func (PySem.W.fnOf "is_gap" "is_gap" (aF ki) (aD ki) (ab ki) .none Cg CJ BO D4 yF CK), BE⟩)
    (wq : PySem.W.codeIn K yF "is_gap" = true)
    (vJ : PySem.W.keepIn K (.ref il) = true)
    (mJ : PySem.W.nsIn K mainGlobals "is_gap_row" = some (some (.ref cf)))
    (lQ : K.lookup cf = some ⟨vA, vu, .func (PySem.W.fnOf "is_gap_row" "is_gap_row" (aF dD) (aD dD) (ab dD) .none vL wg vd wG pQ wu), uT⟩)
    (mx : PySem.W.codeIn K pQ "is_gap_row" = true)
    (lW : PySem.W.keepIn K (.ref cf) = true)
    (jI : PySem.W.nsIn K mainGlobals "checked_rows" = some (some (.ref aR)))
    (jv : K.lookup aR = some ⟨se, rZ, .func (PySem.W.fnOf "checked_rows" "checked_rows" (aF bQ) (aD bQ) (ab bQ) .none su sO rR sY mE sR), rM⟩)
    (jD : PySem.W.codeIn K mE "checked_rows" = true)
    (jy : PySem.W.keepIn K (.ref aR) = true)
    (mL : PySem.W.nsIn K mainGlobals "_law_rules" = some (some (.ref cj)))
    (lS : K.lookup cj = some ⟨vC, vw, .func (PySem.W.fnOf "_law_rules" "_law_rules" (aF dF) (aD dF) (ab dF) .none vN wk vf wI pS wy), uV⟩)
    (mz : PySem.W.codeIn K pS "_law_rules" = true)
    (lY : PySem.W.keepIn K (.ref cj) = true)
    (l5 : PySem.W.nsIn K mainGlobals "_law_closed" = some (some (.ref bP)))
    (kv : K.lookup bP = some ⟨tV, tQ, .func (PySem.W.fnOf "_law_closed" "_law_closed" (aF cR) (aD cR) (ab cR) .none tZ u6 tI uh nI uc), tw⟩)
    (kN : PySem.W.codeIn K nI "_law_closed" = true)
    (kA : PySem.W.keepIn K (.ref bP) = true)
    (jJ : PySem.W.nsIn K mainGlobals "_law_flights" = some (some (.ref bB)))
    (jw : K.lookup bB = some ⟨sf, s9, .func (PySem.W.fnOf "_law_flights" "_law_flights" (aF cz) (aD cz) (ab cz) .none sv sP rS sZ mF sS), rN⟩)
    (jE : PySem.W.codeIn K mF "_law_flights" = true)
    (jz : PySem.W.keepIn K (.ref bB) = true)
    (gg : PySem.W.findIn K (.ref CR) "many_kinds" = some (some (.ref aw)))
    (dq : PySem.W.isFn K (.ref aw) = true)
    (dk : K.lookup aw = some ⟨o7, o4, .func (PySem.W.fnOf "many_kinds" "Rules.many_kinds" (aF aK) (aD aK) (ab aK) .none oC oM nT oZ iW oV), nM⟩)
    (dv : PySem.W.codeIn K iW "Rules.many_kinds" = true)
    (dn : PySem.W.keepIn K (.ref aw) = true)
    (fm : PySem.W.findIn K (.ref CR) "many_strips" = some (some (.ref aC)))
    (f7 : PySem.W.isFn K (.ref aC) = true)
    (eZ : K.lookup aC = some ⟨nj, ni, .func (PySem.W.fnOf "many_strips" "Rules.many_strips" (aF ba) (aD ba) (ab ba) .none nk nq ng nu ia nr), n9⟩)
    (fj : PySem.W.codeIn K ia "Rules.many_strips" = true)
    (f6 : PySem.W.keepIn K (.ref aC) = true)
    (gh : PySem.W.findIn K (.ref CP) "many_strips" = some (some (.ref aH)))
    (fS : PySem.W.isFn K (.ref aH) = true)
    (fO : K.lookup aH = some ⟨o8, o5, .func (PySem.W.fnOf "many_strips" "Pair.many_strips" (aF bj) (aD bj) (ab bj) .none oE oN nU p5 iX oW), nO⟩)
    (gb : PySem.W.codeIn K iX "Pair.many_strips" = true)
    (fQ : PySem.W.keepIn K (.ref aH) = true)
    (kZ : PySem.W.nsIn K mainGlobals "first_label" = some (some (.ref bN)))
    (kr : K.lookup bN = some ⟨tT, tO, .func (PySem.W.fnOf "first_label" "first_label" (aF cP) (aD cP) (ab cP) .none tX u4 tG uf nG u9), tm⟩)
    (kL : PySem.W.codeIn K nG "first_label" = true)
    (ky : PySem.W.keepIn K (.ref bN) = true)
    (p8 : PySem.W.nsIn K mainGlobals "_law_plan" = some (some (.ref cW)))
    (oh : K.lookup cW = some ⟨xQ, xJ, .func (PySem.W.fnOf "_law_plan" "_law_plan" (aF eV) (aD eV) (ab eV) .none y3 yr xr yN qU yy), xf⟩)
    (oQ : PySem.W.codeIn K qU "_law_plan" = true)
    (ou : PySem.W.keepIn K (.ref cW) = true)
    (p9 : PySem.W.nsIn K mainGlobals "_law_open" = some (some (.ref cX)))
    (oi : K.lookup cX = some ⟨xR, xK, .func (PySem.W.fnOf "_law_open" "_law_open" (aF eW) (aD eW) (ab eW) .none ya yt xt yO qV yz), xg⟩)
    (oR : PySem.W.codeIn K qV "_law_open" = true)
    (oy : PySem.W.keepIn K (.ref cX) = true)
    (gd : PySem.W.nsIn K mainGlobals "joined_stretches" = some (some (.ref aL)))
    (fN : K.lookup aL = some ⟨o6, nZ, .func (PySem.W.fnOf "joined_stretches" "joined_stretches" (aF bh) (aD bh) (ab bh) .none oB oK nS oY iV oU), nL⟩)
    (g9 : PySem.W.codeIn K iV "joined_stretches" = true)
    (fP : PySem.W.keepIn K (.ref aL) = true)
    (p6 : PySem.W.nsIn K mainGlobals "next_open" = some (some (.ref cU)))
    (oe : K.lookup cU = some ⟨xO, xH, .func (PySem.W.fnOf "next_open" "next_open" (aF eT) (aD eT) (ab eT) .none xZ yp xp yL qS yw), xb⟩)
    (oO : PySem.W.codeIn K qS "next_open" = true)
    (oo : PySem.W.keepIn K (.ref cU) = true)
    (mI : PySem.W.nsIn K mainGlobals "lasts_with" = some (some (.ref cb)))
    (lP : K.lookup cb = some ⟨vz, vt, .func (PySem.W.fnOf "lasts_with" "lasts_with" (aF dC) (aD dC) (ab dC) .none vK we vc wF pP wt), uS⟩)
    (mw : PySem.W.codeIn K pP "lasts_with" = true)
    (lV : PySem.W.keepIn K (.ref cb) = true)
    (p7 : PySem.W.nsIn K mainGlobals "late_cost" = some (some (.ref cV)))
    (og : K.lookup cV = some ⟨xP, xI, .func (PySem.W.fnOf "late_cost" "late_cost" (aF eU) (aD eU) (ab eU) .none y0 yq xq yM qT yx), xc⟩)
    (oP : PySem.W.codeIn K qT "late_cost" = true)
    (ot : PySem.W.keepIn K (.ref cV) = true)
    (l6 : PySem.W.findIn K (.ref CR) "apart" = some (some (.ref bC)))
    (kC : PySem.W.isFn K (.ref bC) = true)
    (kx : K.lookup bC = some ⟨tW, tR, .func (PySem.W.fnOf "apart" "Rules.apart" (aF cS) (aD cS) (ab cS) .none u0 u7 tJ ui nJ ud), tx⟩)
    (kO : PySem.W.codeIn K nJ "Rules.apart" = true)
    (kB : PySem.W.keepIn K (.ref bC) = true)
    (mN : PySem.W.findIn K (.ref CP) "apart" = some (some (.ref bR)))
    (m9 : PySem.W.isFn K (.ref bR) = true)
    (lU : K.lookup bR = some ⟨vE, vy, .func (PySem.W.fnOf "apart" "Pair.apart" (aF dH) (aD dH) (ab dH) .none vP wo vh wK pV wA), uX⟩)
    (mC : PySem.W.codeIn K pV "Pair.apart" = true)
    (m3 : PySem.W.keepIn K (.ref bR) = true)
    (i4 : PySem.W.nsIn K mainGlobals "last_gap_times" = some (some (.ref b9)))
    (hR : K.lookup b9 = some ⟨qq, qp, .func (PySem.W.fnOf "last_gap_times" "last_gap_times" (aF bJ) (aD bJ) (ab bJ) .none qv qE ql qK kc qG), qi⟩)
    (hW : PySem.W.codeIn K kc "last_gap_times" = true)
    (hU : PySem.W.keepIn K (.ref b9) = true)
    (jH : PySem.W.nsIn K mainGlobals "label_behind" = some (some (.ref bA)))
    (ju : K.lookup bA = some ⟨sd, rY, .func (PySem.W.fnOf "label_behind" "label_behind" (aF cy) (aD cy) (ab cy) .none sr sN rQ sX mD sQ), rL⟩)
    (jC : PySem.W.codeIn K mD "label_behind" = true)
    (jx : PySem.W.keepIn K (.ref bA) = true)
    (mK : PySem.W.nsIn K mainGlobals "_law_whole" = some (some (.ref cg)))
    (lR : K.lookup cg = some ⟨vB, vv, .func (PySem.W.fnOf "_law_whole" "_law_whole" (aF dE) (aD dE) (ab dE) .none vM wj ve wH pR wx), uU⟩)
    (my : PySem.W.codeIn K pR "_law_whole" = true)
    (lX : PySem.W.keepIn K (.ref cg) = true)
    (j0 : PySem.W.nsIn K mainGlobals "_law_is_label" = some (some (.ref bo)))
    (iJ : K.lookup bo = some ⟨rj, rg, .func (PySem.W.fnOf "_law_is_label" "_law_is_label" (aF bV) (aD bV) (ab bV) .none rm rq r0 rC lp rA), qY⟩)
    (iT : PySem.W.codeIn K lp "_law_is_label" = true)
    (iL : PySem.W.keepIn K (.ref bo) = true)
    (qL : PySem.W.nsIn K mainGlobals "_law_due" = some (some (.ref e9)))
    (qr : K.lookup e9 = some ⟨zr, zq, .func (PySem.W.fnOf "_law_due" "_law_due" (aF gw) (aD gw) (ab gw) .none zw zG zh A5 sW zH), yX⟩)
    (qF : PySem.W.codeIn K sW "_law_due" = true)
    (qu : PySem.W.keepIn K (.ref e9) = true)
    (mM : PySem.W.nsIn K mainGlobals "_law_apart" = some (some (.ref ck)))
    (lT : K.lookup ck = some ⟨vD, vx, .func (PySem.W.fnOf "_law_apart" "_law_apart" (aF dG) (aD dG) (ab dG) .none vO wm vg wJ pU wz), uW⟩)
    (mB : PySem.W.codeIn K pU "_law_apart" = true)
    (lZ : PySem.W.keepIn K (.ref ck) = true)
    (a_law : PySem.W.nsIn K mainGlobals "law" = some (some (.ref Bg)))
    (l_law : K.lookup Bg = some ⟨oc_law, od_law, .func (PySem.W.fnOf "law" "law" (aF AU) (aD AU) (ab AU) .none kV_law dc_law pm_law an_law cd_law ct_law), sl_law⟩)
    (d_law : PySem.W.codeIn K cd_law "law" = true)
    (k_law : PySem.W.keepIn K (.ref Bg) = true)
    (j4 : PySem.W.findIn K (.ref CP) "many_kinds" = some (some (.ref aw)))
    (a_nR : PySem.W.findIn K (.ref CR) "__init__" = some (some (.ref f_nR)))
    (i_nR : PySem.W.isFn K (.ref f_nR) = true)
    (l_nR : K.lookup f_nR = some ⟨oc_nR, od_nR, .func (PySem.W.fnOf "__init__" "Rules.__init__" (aF s_nR) (aD s_nR) (ab s_nR) .none kV_nR dc_nR pm_nR an_nR cd_nR ct_nR), sl_nR⟩)
    (d_nR : PySem.W.codeIn K cd_nR "Rules.__init__" = true)
    (k_nR : PySem.W.keepIn K (.ref f_nR) = true)
    (a_nP : PySem.W.findIn K (.ref CP) "__init__" = some (some (.ref f_nP)))
    (i_nP : PySem.W.isFn K (.ref f_nP) = true)
    (l_nP : K.lookup f_nP = some ⟨oc_nP, od_nP, .func (PySem.W.fnOf "__init__" "Pair.__init__" (aF s_nP) (aD s_nP) (ab s_nP) .none kV_nP dc_nP pm_nP an_nP cd_nP ct_nP), sl_nP⟩)
    (d_nP : PySem.W.codeIn K cd_nP "Pair.__init__" = true)
    (k_nP : PySem.W.keepIn K (.ref f_nP) = true)
    (x_s1 : PySem.W.specialIn K (.ref CR) "__getattribute__" = some (some (.builtin "type.__getattribute__")))
    (x_s2 : PySem.W.readsIn K CR (.type "type") = true)
    (x_s3 : PySem.W.findCls K (.ref CR) (.type "type") "__init__" = some (.val (.ref f_nR)))
    (yT : PySem.W.nsIn K mainGlobals "all" = some none)
    (uk : PySem.W.nsIn K mainGlobals "bool" = some none)
    (gv : PySem.W.nsIn K mainGlobals "enumerate" = some none)
    (AL : PySem.W.nsIn K mainGlobals "int" = some none)
    (bq : PySem.W.nsIn K mainGlobals "isinstance" = some none)
    (jq : PySem.W.nsIn K mainGlobals "len" = some none)
    (nz : PySem.W.nsIn K mainGlobals "list" = some none)
    (t8 : PySem.W.nsIn K mainGlobals "max" = some none)
    (hG : PySem.W.nsIn K mainGlobals "range" = some none)
    (pf : PySem.W.nsIn K mainGlobals "sorted" = some none)
    (Bv : PySem.W.nsIn K mainGlobals "sum" = some none)
    (gu : PySem.W.nsIn K mainGlobals "tuple" = some none)
    (AK : PySem.W.nsIn K mainGlobals "zip" = some none)
    (eF : PySem.W.nsIn K mainGlobals "GREATEST_GAP" = some (some (.int 1000000 t9)))
    (gR : PySem.W.nsIn K mainGlobals "MOST_KINDS" = some (some (.int 6 x5)))
    (lM : PySem.W.kitOne K (.type "int") (.type "int") = some true)
    (jV : PySem.W.kitOne K (.type "bool") (.type "int") = some true)
    (jS : PySem.W.kitOne K (.type "list") (.type "int") = some false)
    (iy : PySem.W.kitOne K (.type "tuple") (.type "int") = some false)
    (lL : PySem.W.kitOne K (.type "str") (.type "int") = some false)
    (eC : PySem.W.kitOne K (.type "NoneType") (.type "int") = some false)
    (jU : PySem.W.kitOne K (.type "int") (.type "bool") = some false)
    (iF : PySem.W.kitOne K (.type "bool") (.type "bool") = some true)
    (iB : PySem.W.kitOne K (.type "list") (.type "bool") = some false)
    (gM : PySem.W.kitOne K (.type "tuple") (.type "bool") = some false)
    (jR : PySem.W.kitOne K (.type "str") (.type "bool") = some false)
    (dJ : PySem.W.kitOne K (.type "NoneType") (.type "bool") = some false)
    (jT : PySem.W.kitOne K (.type "int") (.type "list") = some false)
    (iE : PySem.W.kitOne K (.type "bool") (.type "list") = some false)
    (iA : PySem.W.kitOne K (.type "list") (.type "list") = some true)
    (gL : PySem.W.kitOne K (.type "tuple") (.type "list") = some false)
    (jQ : PySem.W.kitOne K (.type "str") (.type "list") = some false)
    (dI : PySem.W.kitOne K (.type "NoneType") (.type "list") = some false)
    (iC : PySem.W.kitOne K (.type "int") (.type "tuple") = some false)
    (gO : PySem.W.kitOne K (.type "bool") (.type "tuple") = some false)
    (gN : PySem.W.kitOne K (.type "list") (.type "tuple") = some false)
    (fJ : PySem.W.kitOne K (.type "tuple") (.type "tuple") = some true)
    (iz : PySem.W.kitOne K (.type "str") (.type "tuple") = some false)
    (d7 : PySem.W.kitOne K (.type "NoneType") (.type "tuple") = some false)
    (px : PySem.W.kitOne K (.type "int") (.type "str") = some false)
    (mX : PySem.W.kitOne K (.type "bool") (.type "str") = some false)
    (mW : PySem.W.kitOne K (.type "list") (.type "str") = some false)
    (km : PySem.W.kitOne K (.type "tuple") (.type "str") = some false)
    (pw : PySem.W.kitOne K (.type "str") (.type "str") = some true)
    (gF : PySem.W.kitOne K (.type "NoneType") (.type "str") = some false) :
    ∃ fd : FuncData, (∀ (s : Shared) (v : Value), BindsTo s fd ⟨[v], []⟩ [("_law_script", v)]) /\ ∀ base : Heap, K.In base -> base.Ns mainGlobals mg -> c6 l.prog w K mg base CX0 8 fa fd ["_law_script"] (AQ K) := by
  have e := hfa.symm.trans (PySem.W.mg_of KX G a_law)
  cases e
  have K_CR := kls_of (mg := mg) KX G CV zP zS zO zN zQ zR zU o2 o3 zT
  have K_CP := kls_of (mg := mg) KX G CW zX A0 zW zV zY zZ A2 o2 o3 A1
  have af := du (mg := mg) (st := bK) (ps := ["_law_script", "_law_k"]) KX G pd om oT oA fun _ _ _ _ _ _ us hl => match us, hl with | [_, _], _ => rfl
  have aQ := du (mg := mg) (st := bW) (ps := ["_law_script", "_law_start", "_law_kinds"]) KX G j3 iK iU iM fun _ _ _ _ _ _ us hl => match us, hl with | [_, _, _], _ => rfl
  have dX := du (mg := mg) (st := eX) (ps := ["_law_script"]) KX G pb oj oS oz fun _ _ _ _ _ _ us hl => match us, hl with | [_], _ => rfl
  have cv := du (mg := mg) (st := cQ) (ps := ["rows"]) KX G l0 ku kM kz fun _ _ _ _ _ _ us hl => match us, hl with | [_], _ => rfl
  have jn := du (mg := mg) (st := ki) (ps := ["number"]) KX G wL vI wq vJ fun _ _ _ _ _ _ us hl => match us, hl with | [_], _ => rfl
  have cL := du (mg := mg) (st := dD) (ps := ["row", "kinds"]) KX G mJ lQ mx lW fun _ _ _ _ _ _ us hl => match us, hl with | [_, _], _ => rfl
  have aI := du (mg := mg) (st := bQ) (ps := ["rows"]) KX G jI jv jD jy fun _ _ _ _ _ _ us hl => match us, hl with | [_], _ => rfl
  have cM := du (mg := mg) (st := dF) (ps := ["_law_gaps_here"]) KX G mL lS mz lY fun _ _ _ _ _ _ us hl => match us, hl with | [_], _ => rfl
  have cw := du (mg := mg) (st := cR) (ps := ["_law_script"]) KX G l5 kv kN kA fun _ _ _ _ _ _ us hl => match us, hl with | [_], _ => rfl
  have bT := du (mg := mg) (st := cz) (ps := ["_law_script", "_law_start", "_law_kinds", "_law_many"]) KX G jJ jw jE jz fun _ _ _ _ _ _ us hl => match us, hl with | [_, _, _, _], _ => rfl
  have dz := qN (C := CR) (st := aK) (ps := ["self"]) gg dq dk dv dn fun _ _ _ _ _ _ us hl => match us, hl with | [_], _ => rfl
  have d6 := qN (C := CR) (st := ba) (ps := ["self"]) fm f7 eZ fj f6 fun _ _ _ _ _ _ us hl => match us, hl with | [_], _ => rfl
  have dA := qN (C := CP) (st := bj) (ps := ["self"]) gh fS fO gb fQ fun _ _ _ _ _ _ us hl => match us, hl with | [_], _ => rfl
  have cu := du (mg := mg) (st := cP) (ps := ["rules"]) KX G kZ kr kL ky fun _ _ _ _ _ _ us hl => match us, hl with | [_], _ => rfl
  have dU := du (mg := mg) (st := eV) (ps := ["_law_script", "_law_many", "_law_strips"]) KX G p8 oh oQ ou fun _ _ _ _ _ _ us hl => match us, hl with | [_, _, _], _ => rfl
  have dW := du (mg := mg) (st := eW) (ps := ["_law_closed_here", "_law_time"]) KX G p9 oi oR oy fun _ _ _ _ _ _ us hl => match us, hl with | [_, _], _ => rfl
  have aZ := du (mg := mg) (st := bh) (ps := ["closed"]) KX G gd fN g9 fP fun _ _ _ _ _ _ us hl => match us, hl with | [_], _ => rfl
  have dR := du (mg := mg) (st := eT) (ps := ["closed", "time"]) KX G p6 oe oO oo fun _ _ _ _ _ _ us hl => match us, hl with | [_, _], _ => rfl
  have cK := du (mg := mg) (st := dC) (ps := ["lasts", "spot", "time"]) KX G mI lP mw lV fun _ _ _ _ _ _ us hl => match us, hl with | [_, _, _], _ => rfl
  have dS := du (mg := mg) (st := eU) (ps := ["flight", "time"]) KX G p7 og oP ot fun _ _ _ _ _ _ us hl => match us, hl with | [_, _], _ => rfl
  have iu := qN (C := CR) (st := cS) (ps := ["self", "one", "other"]) l6 kC kx kO kB fun _ _ _ _ _ _ us hl => match us, hl with | [_, _, _], _ => rfl
  have jo := qN (C := CP) (st := dH) (ps := ["self", "one", "other"]) mN m9 lU mC m3 fun _ _ _ _ _ _ us hl => match us, hl with | [_, _, _], _ => rfl
  have br := du (mg := mg) (st := bJ) (ps := ["rules", "lasts", "spot"]) KX G i4 hR hW hU fun _ _ _ _ _ _ us hl => match us, hl with | [_, _, _], _ => rfl
  have bS := du (mg := mg) (st := cy) (ps := ["rules", "flights", "closed", "label", "flight", "strip"]) KX G jH ju jC jx fun _ _ _ _ _ _ us hl => match us, hl with | [_, _, _, _, _, _], _ => rfl
  have bE := du (mg := mg) (st := dE) (ps := ["_law_found"]) KX G mK lR my lX fun _ _ _ _ _ _ us hl => match us, hl with | [_], _ => rfl
  have aP := du (mg := mg) (st := bV) (ps := ["_law_found", "_law_gaps_here"]) KX G j0 iJ iT iL fun _ _ _ _ _ _ us hl => match us, hl with | [_, _], _ => rfl
  have bH := du (mg := mg) (st := gw) (ps := ["_law_gaps_here", "_law_flights_here", "_law_spots", "_law_times", "_law_costs"]) KX G qL qr qF qu fun _ _ _ _ _ _ us hl => match us, hl with | [_, _, _, _, _], _ => rfl
  have cN := du (mg := mg) (st := dG) (ps := ["_law_gaps_here", "_law_one", "_law_other"]) KX G mM lT mB lZ fun _ _ _ _ _ _ us hl => match us, hl with | [_, _, _], _ => rfl
  have D_law := du (mg := mg) (st := AU) (ps := ["_law_script"]) KX G a_law l_law d_law k_law fun _ _ _ _ _ _ us hl => match us, hl with | [_], _ => rfl
  have q9 := iu
  have qc := jo
  have gI := dz
  have gJ := qN (C := CP) (st := aK) (ps := ["self"]) j4 dq dk dv dn fun _ _ _ _ _ _ us hl => match us, hl with | [_], _ => rfl
  have gk := d6
  have gm := dA
  have N_R := qN (C := CR) (st := s_nR) (ps := ["self", "gaps"]) a_nR i_nR l_nR d_nR k_nR fun _ _ _ _ _ _ us hl => match us, hl with | [_, _], _ => rfl
  have N_P := qN (C := CP) (st := s_nP) (ps := ["self", "gaps", "beside"]) a_nP i_nP l_nP d_nP k_nP fun _ _ _ _ _ _ us hl => match us, hl with | [_, _, _], _ => rfl
  have Z : Zs K mg CR CP := ⟨K_CR, K_CP, (by intro C h; simp only [List.mem_cons, List.not_mem_nil, or_false] at h; exact h.elim (fun e => by subst e; exact ⟨K_CR.cl, pz⟩) (fun e => by subst e; exact ⟨K_CP.cl, lO⟩)), (by intro C h; simp only [List.mem_cons, List.not_mem_nil, or_false] at h; subst h; exact ⟨K_CP.cl, ko⟩), PySem.W.mg_none_of KX G yT, PySem.W.mg_none_of KX G uk, PySem.W.mg_none_of KX G gv, PySem.W.mg_none_of KX G AL, PySem.W.mg_none_of KX G bq, PySem.W.mg_none_of KX G jq, PySem.W.mg_none_of KX G nz, PySem.W.mg_none_of KX G t8, PySem.W.mg_none_of KX G hG, PySem.W.mg_none_of KX G pf, PySem.W.mg_none_of KX G Bv, PySem.W.mg_none_of KX G gu, PySem.W.mg_none_of KX G AK, ⟨_, PySem.W.mg_of KX G eF⟩, ⟨_, PySem.W.mg_of KX G gR⟩, ⟨lM, jV, jS, iy, lL, eC, jU, iF, iB, gM, jR, dJ, jT, iE, iA, gL, jQ, dI, iC, gO, gN, fJ, iz, d7, px, mX, mW, km, pw, gF⟩⟩
  refine fin_mk D_law (fun s v => .of_eq rfl) fun base => law_ok (ro := false) (mlaw := Ca CR CP) (fun n => ?_) (law_true CR CP x_ne)
  have ao := xG (n := n) (P := l.prog) (w := w) (base := base) Z  af
  have eR := rd (n := n) (P := l.prog) (w := w) (base := base) Z af ao aQ
  have mU := xF (n := n) (P := l.prog) (w := w) (base := base) Z aQ eR af ao dX
  have jL := tL (n := n) (P := l.prog) (w := w) (base := base) Z  cv
  have t5 := BX (n := n) (P := l.prog) (w := w) (base := base) Z  jn
  have l8 := vm (n := n) (P := l.prog) (w := w) (base := base) Z jn t5 cL
  have j6 := rW (n := n) (P := l.prog) (w := w) (base := base) Z cv jL cL l8 aI
  have OKN_R := okn_R (n := n) (P := l.prog) (w := w) (base := base) (CR := CR) (CP := CP) (C := CR) aI j6 N_R.fn K_CR.cl pz
  have OKN_RP := okn_R (n := n) (P := l.prog) (w := w) (base := base) (CR := CR) (CP := CP) (C := CP) aI j6 N_R.fn K_CP.cl lO
  have OKN_P := okn_P (n := n) (P := l.prog) (w := w) (base := base) (CR := CR) (CP := CP) aI j6 ⟨x_s1, x_s2, x_s3, k_nR⟩ N_R.bd OKN_RP K_CR.mg (PySem.W.mg_none_of KX G jq) N_P.fn K_CP.cl lO ko
  have l9 := vo (n := n) (P := l.prog) (w := w) (base := base) Z N_R OKN_R N_P OKN_P cM
  have jM := tM (n := n) (P := l.prog) (w := w) (base := base) Z af ao cw
  have j7 := rX (n := n) (P := l.prog) (w := w) (base := base) Z af ao bT
  have cZ := nX (n := n) (P := l.prog) (w := w) (base := base) Z  dz
  have eA := nh (n := n) (P := l.prog) (w := w) (base := base) Z  d6
  have fv := nY (n := n) (P := l.prog) (w := w) (base := base) Z  dA
  have jK := tK (n := n) (P := l.prog) (w := w) (base := base) Z gI cZ gJ gk eA gm fv cu
  have mS := xD (n := n) (P := l.prog) (w := w) (base := base) Z af ao dU
  have mT := xE (n := n) (P := l.prog) (w := w) (base := base) Z  dW
  have fq := nW (n := n) (P := l.prog) (w := w) (base := base) Z  aZ
  have mP := xB (n := n) (P := l.prog) (w := w) (base := base) Z aZ fq dR
  have l7 := vl (n := n) (P := l.prog) (w := w) (base := base) Z  cK
  have mQ := xC (n := n) (P := l.prog) (w := w) (base := base) Z  dS
  have jN := tN (n := n) (P := l.prog) (w := w) (base := base) Z  iu
  have lb := vq (n := n) (P := l.prog) (w := w) (base := base) Z  jo
  have gE := qo (n := n) (P := l.prog) (w := w) (base := base) Z q9 jN qc lb br
  have j5 := rV (n := n) (P := l.prog) (w := w) (base := base) Z dR mP cK l7 dS mQ br gE bS
  have ir := vn (n := n) (P := l.prog) (w := w) (base := base) Z  bE
  have eQ := r9 (n := n) (P := l.prog) (w := w) (base := base) Z bE ir aP
  have j8 := zo (n := n) (P := l.prog) (w := w) (base := base) Z  bH
  have la := vp (n := n) (P := l.prog) (w := w) (base := base) Z  cN
  have OK_law := ok_law (n := n) (P := l.prog) (w := w) (base := base) Z dX mU cM l9 cw jM bT j7 cu jK dU mS dW mT bS j5 aP eQ bH j8 cN la af ao D_law
  exact OK_law
theorem walk {l : PySem.W.OpenLaw} {q : Program} {loose : List Str} {XP : (Str -> Option Value) -> Heap -> Prop} {YP : World -> Heap -> Prop} {d : DefRec} {K : Params -> PySem.W.Frag} (hn : l.most = some 63) (hdf : d.params.defaults = [])
    (hY : ∀ (w : World) (h : Heap), YP w h -> (K w.params).In h)
    (F : ∀ (w : World) (mg : Str -> Option Value) (fa : Addr) (h : Heap), (K w.params).In h -> h.Ns mainGlobals mg -> mg d.name = some (.ref fa) ->
      ∃ fd : FuncData, (∀ (s : Shared) (u : Value), BindsTo s fd ⟨[u], []⟩ [("_law_script", u)]) /\ ∀ base : Heap, (K w.params).In base -> base.Ns mainGlobals mg -> c6 l.prog w (K w.params) mg base CX0 8 fa fd ["_law_script"] (AQ (K w.params))) :
    PySem.W.WalkO q loose XP YP l.row.toRowW d [] (fun f vs => PySem.call f vs) :=
  L2.walk_of (n := 63) (k := 8) (x := "_law_script") (CX := fun _ => CX0) (sp := fun w => AQ (K w.params)) hn (by decide) hdf ⟨rfl, by decide, by decide⟩ hY F (fun _ _ a ns hl _ hS => ⟨a, ns, rfl, hS, hl, fun _ => rfl⟩) fun _ _ _ _ _ z => z
end Ru
open PySem PySem.W PyProof.Rows
noncomputable def _root_.PySem.W.Fast.tw12057748709235402973 : Nat := 0
noncomputable def _root_.PySem.W.Fast.tw12940542558900012280 : Nat := 0
noncomputable def _root_.PySem.W.Fast.tw10835982235683740428 : Nat := 0
noncomputable def _root_.PySem.W.Fast.tw5123029666650008381 : Nat := 0
noncomputable def _root_.PySem.W.Fast.tw2853244190407964276 : Nat := 0
noncomputable def _root_.PySem.W.Fast.tw16957858566064423839 : Nat := 0
noncomputable def _root_.PySem.W.Fast.tw16266796768119244703 : Nat := 0
noncomputable def _root_.PySem.W.Fast.tw13771533239292243195 : Nat := 0
noncomputable def _root_.PySem.W.Fast.tw18046402925408054947 : Nat := 0
noncomputable def _root_.PySem.W.Fast.tw3619201348395089470 : Nat := 0
noncomputable def _root_.PySem.W.Fast.tw10622802669347486816 : Nat := 0
noncomputable def _root_.PySem.W.Fast.tw8169357245135394909 : Nat := 0
noncomputable def _root_.PySem.W.Fast.tw6544818242381335550 : Nat := 0
noncomputable def _root_.PySem.W.Fast.tw13893980841270907573 : Nat := 0
noncomputable def _root_.PySem.W.Fast.tw13300656326779525105 : Nat := 0
noncomputable def _root_.PySem.W.Fast.tw9639680025593544119 : Nat := 0
noncomputable def _root_.PySem.W.Fast.tw8647445680355005101 : Nat := 0
noncomputable def _root_.PySem.W.Fast.tw16731113200832624058 : Nat := 0
noncomputable def _root_.PySem.W.Fast.tw106261553844675516 : Nat := 0
noncomputable def _root_.PySem.W.Fast.tw11946236591557364797 : Nat := 0
noncomputable def _root_.PySem.W.Fast.tw5628797946321670526 : Nat := 0
noncomputable def _root_.PySem.W.Fast.tw8740343372851519567 : Nat := 0
noncomputable def _root_.PySem.W.Fast.tw1470532649876250166 : Nat := 0
noncomputable def _root_.PySem.W.Fast.tw10273654674577439869 : Nat := 0
noncomputable def _root_.PySem.W.Fast.tw301171197639013193 : Nat := 0
noncomputable def _root_.PySem.W.Fast.tw8847170686992989519 : Nat := 0
noncomputable def _root_.PySem.W.Fast.tw10450816543676191130 : Nat := 0
noncomputable def _root_.PySem.W.Fast.tw16319425233197339491 : Nat := 0
noncomputable def _root_.PySem.W.Fast.tw4052803559328050234 : Nat := 0
noncomputable def _root_.PySem.W.Fast.tw7300887952295774505 : Nat := 0
noncomputable def _root_.PySem.W.Fast.tw15522645204503568264 : Nat := 0
noncomputable def _root_.PySem.W.Fast.tw13319709876880435510 : Nat := 0
noncomputable def _root_.PySem.W.Fast.tw15839989574437646435 : Nat := 0
noncomputable def _root_.PySem.W.Fast.tw359149101088273636 : Nat := 0
noncomputable def _root_.PySem.W.Fast.tw7999670070817160675 : Nat := 0
noncomputable def _root_.PySem.W.Fast.tw6740413968960318255 : Nat := 0
noncomputable def _root_.PySem.W.Fast.tw895140050916601094 : Nat := 0
noncomputable def _root_.PySem.W.Fast.tw17640470765745047418 : Nat := 0
noncomputable def _root_.PySem.W.Fast.tw15307458723715517609 : Nat := 0
noncomputable def _root_.PySem.W.Fast.tw17751997535573698556 : Nat := 0
noncomputable def _root_.PySem.W.Fast.tw12557863613511208153 : Nat := 0
noncomputable def _root_.PySem.W.Fast.tw6012920257699256187 : Nat := 0
noncomputable def _root_.PySem.W.Fast.tw8495919327809510138 : Nat := 0
noncomputable def _root_.PySem.W.Fast.tw10181586258764631509 : Nat := 0
noncomputable def _root_.PySem.W.Fast.tw13002233779444979917 : Nat := 0
noncomputable def _root_.PySem.W.Fast.tw2333832152200921041 : Nat := 0
noncomputable def _root_.PySem.W.Fast.tw18101202849125821297 : Nat := 0
noncomputable def _root_.PySem.W.Fast.tw14795341798918018103 : Nat := 0
noncomputable def _root_.PySem.W.Fast.tw3884907909066474399 : Nat := 0
noncomputable def _root_.PySem.W.Fast.tw7207987259862348868 : Nat := 0
noncomputable def _root_.PySem.W.Fast.tw10113757391923952494 : Nat := 0
noncomputable def _root_.PySem.W.Fast.tw3343404892103387823 : Nat := 0
noncomputable def _root_.PySem.W.Fast.tw4907970433580873859 : Nat := 0
noncomputable def _root_.PySem.W.Fast.tw16502642540349023702 : Nat := 0
noncomputable def _root_.PySem.W.Fast.tw12416946011533284027 : Nat := 0
noncomputable def _root_.PySem.W.Fast.tw9153067771286981788 : Nat := 0
noncomputable def _root_.PySem.W.Fast.tw3265015830387550479 : Nat := 0
noncomputable def _root_.PySem.W.Fast.tw9430544104996169379 : Nat := 0
set_option maxRecDepth 100000 in
set_option maxHeartbeats 0 in
theorem PySem.Challenge.cw_wakeorder_k50_labels_along_plans_holds : PySem.Challenge.rw_wakeorder_k50_labels_along_plans.Holds := by
  w_on; o_law; k_head; (case hw => w_witness2)
  k_fill
  refine Ru.walk (l := PySem.Challenge.rw_wakeorder_k50_labels_along_plans) rfl rfl (fun w h Y => PySem.W.kIn_of Y) ?F
  case F =>
    intro w mg fa h KX G hmg
    refine' Ru.all_mk KX G hmg ?CV ?zP ?zS ?zO ?zN ?zQ ?zR ?zU ?zT ?pz ?sh ?CW ?zX ?A0 ?zW ?zV ?zY ?zZ ?A2 ?A1 ?lO ?ko ?o2 ?o3 ?x_ne ?pd ?om ?oT ?oA ?j3 ?iK ?iU ?iM ?pb ?oj ?oS ?oz ?l0 ?ku ?kM ?kz ?wL ?vI ?wq ?vJ ?mJ ?lQ ?mx ?lW ?jI ?jv ?jD ?jy ?mL ?lS ?mz ?lY ?l5 ?kv ?kN ?kA ?jJ ?jw ?jE ?jz ?gg ?dq ?dk ?dv ?dn ?fm ?f7 ?eZ ?fj ?f6 ?gh ?fS ?fO ?gb ?fQ ?kZ ?kr ?kL ?ky ?p8 ?oh ?oQ ?ou ?p9 ?oi ?oR ?oy ?gd ?fN ?g9 ?fP ?p6 ?oe ?oO ?oo ?mI ?lP ?mw ?lV ?p7 ?og ?oP ?ot ?l6 ?kC ?kx ?kO ?kB ?mN ?m9 ?lU ?mC ?m3 ?i4 ?hR ?hW ?hU ?jH ?ju ?jC ?jx ?mK ?lR ?my ?lX ?j0 ?iJ ?iT ?iL ?qL ?qr ?qF ?qu ?mM ?lT ?mB ?lZ ?a_law ?l_law ?d_law ?k_law ?j4 ?a_nR ?i_nR ?l_nR ?d_nR ?k_nR ?a_nP ?i_nP ?l_nP ?d_nP ?k_nP ?x_s1 ?x_s2 ?x_s3 ?yT ?uk ?gv ?AL ?bq ?jq ?nz ?t8 ?hG ?pf ?Bv ?gu ?AK ?eF ?gR ?lM ?jV ?jS ?iy ?lL ?eC ?jU ?iF ?iB ?gM ?jR ?dJ ?jT ?iE ?iA ?gL ?jQ ?dI ?iC ?gO ?gN ?fJ ?iz ?d7 ?px ?mX ?mW ?km ?pw ?gF
    (case CV => k_is)
    (case zP => k_is)
    (case zS => k_is)
    (case zO => k_is)
    (case zN => k_is)
    (case zQ => k_is)
    (case zR => k_is)
    (case zU => k_is)
    (case zT => k_is)
    (case pz => k_is)
    (case sh => k_is)
    (case CW => k_is)
    (case zX => k_is)
    (case A0 => k_is)
    (case zW => k_is)
    (case zV => k_is)
    (case zY => k_is)
    (case zZ => k_is)
    (case A2 => k_is)
    (case A1 => k_is)
    (case lO => k_is)
    (case ko => k_is)
    (case o2 => k_is)
    (case o3 => k_is)
    (case x_ne => first | k_is | rfl | decide +kernel)
    (case pd => k_is)
    (case om => k_is)
    (case oT => k_is)
    (case oA => k_is)
    (case j3 => k_is)
    (case iK => k_is)
    (case iU => k_is)
    (case iM => k_is)
    (case pb => k_is)
    (case oj => k_is)
    (case oS => k_is)
    (case oz => k_is)
    (case l0 => k_is)
    (case ku => k_is)
    (case kM => k_is)
    (case kz => k_is)
    (case wL => k_is)
    (case vI => k_is)
    (case wq => k_is)
    (case vJ => k_is)
    (case mJ => k_is)
    (case lQ => k_is)
    (case mx => k_is)
    (case lW => k_is)
    (case jI => k_is)
    (case jv => k_is)
    (case jD => k_is)
    (case jy => k_is)
    (case mL => k_is)
    (case lS => k_is)
    (case mz => k_is)
    (case lY => k_is)
    (case l5 => k_is)
    (case kv => k_is)
    (case kN => k_is)
    (case kA => k_is)
    (case jJ => k_is)
    (case jw => k_is)
    (case jE => k_is)
    (case jz => k_is)
    (case gg => k_is)
    (case dq => k_is)
    (case dk => k_is)
    (case dv => k_is)
    (case dn => k_is)
    (case fm => k_is)
    (case f7 => k_is)
    (case eZ => k_is)
    (case fj => k_is)
    (case f6 => k_is)
    (case gh => k_is)
    (case fS => k_is)
    (case fO => k_is)
    (case gb => k_is)
    (case fQ => k_is)
    (case kZ => k_is)
    (case kr => k_is)
    (case kL => k_is)
    (case ky => k_is)
    (case p8 => k_is)
    (case oh => k_is)
    (case oQ => k_is)
    (case ou => k_is)
    (case p9 => k_is)
    (case oi => k_is)
    (case oR => k_is)
    (case oy => k_is)
    (case gd => k_is)
    (case fN => k_is)
    (case g9 => k_is)
    (case fP => k_is)
    (case p6 => k_is)
    (case oe => k_is)
    (case oO => k_is)
    (case oo => k_is)
    (case mI => k_is)
    (case lP => k_is)
    (case mw => k_is)
    (case lV => k_is)
    (case p7 => k_is)
    (case og => k_is)
    (case oP => k_is)
    (case ot => k_is)
    (case l6 => k_is)
    (case kC => k_is)
    (case kx => k_is)
    (case kO => k_is)
    (case kB => k_is)
    (case mN => k_is)
    (case m9 => k_is)
    (case lU => k_is)
    (case mC => k_is)
    (case m3 => k_is)
    (case i4 => k_is)
    (case hR => k_is)
    (case hW => k_is)
    (case hU => k_is)
    (case jH => k_is)
    (case ju => k_is)
    (case jC => k_is)
    (case jx => k_is)
    (case mK => k_is)
    (case lR => k_is)
    (case my => k_is)
    (case lX => k_is)
    (case j0 => k_is)
    (case iJ => k_is)
    (case iT => k_is)
    (case iL => k_is)
    (case qL => k_is)
    (case qr => k_is)
    (case qF => k_is)
    (case qu => k_is)
    (case mM => k_is)
    (case lT => k_is)
    (case mB => k_is)
    (case lZ => k_is)
    (case a_law => k_is)
    (case l_law => k_is)
    (case d_law => k_is)
    (case k_law => k_is)
    (case j4 => k_is)
    (case a_nR => k_is)
    (case i_nR => k_is)
    (case l_nR => k_is)
    (case d_nR => k_is)
    (case k_nR => k_is)
    (case a_nP => k_is)
    (case i_nP => k_is)
    (case l_nP => k_is)
    (case d_nP => k_is)
    (case k_nP => k_is)
    (case x_s1 => first | k_is | rfl | decide +kernel)
    (case x_s2 => first | k_is | rfl | decide +kernel)
    (case x_s3 => first | k_is | rfl | decide +kernel)
    (case yT => k_is)
    (case uk => k_is)
    (case gv => k_is)
    (case AL => k_is)
    (case bq => k_is)
    (case jq => k_is)
    (case nz => k_is)
    (case t8 => k_is)
    (case hG => k_is)
    (case pf => k_is)
    (case Bv => k_is)
    (case gu => k_is)
    (case AK => k_is)
    (case eF => k_is)
    (case gR => k_is)
    (case lM => first | k_is | rfl | decide +kernel)
    (case jV => first | k_is | rfl | decide +kernel)
    (case jS => first | k_is | rfl | decide +kernel)
    (case iy => first | k_is | rfl | decide +kernel)
    (case lL => first | k_is | rfl | decide +kernel)
    (case eC => first | k_is | rfl | decide +kernel)
    (case jU => first | k_is | rfl | decide +kernel)
    (case iF => first | k_is | rfl | decide +kernel)
    (case iB => first | k_is | rfl | decide +kernel)
    (case gM => first | k_is | rfl | decide +kernel)
    (case jR => first | k_is | rfl | decide +kernel)
    (case dJ => first | k_is | rfl | decide +kernel)
    (case jT => first | k_is | rfl | decide +kernel)
    (case iE => first | k_is | rfl | decide +kernel)
    (case iA => first | k_is | rfl | decide +kernel)
    (case gL => first | k_is | rfl | decide +kernel)
    (case jQ => first | k_is | rfl | decide +kernel)
    (case dI => first | k_is | rfl | decide +kernel)
    (case iC => first | k_is | rfl | decide +kernel)
    (case gO => first | k_is | rfl | decide +kernel)
    (case gN => first | k_is | rfl | decide +kernel)
    (case fJ => first | k_is | rfl | decide +kernel)
    (case iz => first | k_is | rfl | decide +kernel)
    (case d7 => first | k_is | rfl | decide +kernel)
    (case px => first | k_is | rfl | decide +kernel)
    (case mX => first | k_is | rfl | decide +kernel)
    (case mW => first | k_is | rfl | decide +kernel)
    (case km => first | k_is | rfl | decide +kernel)
    (case pw => first | k_is | rfl | decide +kernel)
    (case gF => first | k_is | rfl | decide +kernel)
