import PyProof.Rows.All
import Wide.All
import OpenK.AllK
import Wide.FinOn
import Lean
import PyProof.EqAt
import PyProof.EqKinds
import PyProof.NeKinds
import PyProof.TupleCall
import PySem.Challenge.RW_wakeorder_k52_no_worse_labels
set_option Elab.async false
set_option linter.all false
set_option maxRecDepth 100000
namespace L2
open PySem PySem.Spec PyProof.Rows
noncomputable abbrev Key := Sum Int Str
noncomputable def keyIs : Key → Value → Bool
  | .inl k, v => Value.isInt k v
  | .inr x, v => Value.isStrOf x v
noncomputable def keyH (w : World) : Key → Int
  | .inl k => hashInt k
  | .inr x => hashStr w x
theorem keyIs_shape : ∀ {k : Key} {v : Value}, keyIs k v = true → (∃ i t, k = Sum.inl i ∧ v = Value.int i t) ∨ (∃ x t, k = Sum.inr x ∧ v = Value.str x t)
  | .inl i, v, h => by
    obtain ⟨t, e⟩ := Value.isInt_shape (k := i) (v := v) h
    exact .inl ⟨i, t, rfl, e⟩
  | .inr x, v, h => by
    obtain ⟨t, e⟩ := Value.isStrOf_shape (x := x) (v := v) h
    exact .inr ⟨x, t, rfl, e⟩
theorem key_ll (a b : Int) : decide ((Sum.inl a : Key) = Sum.inl b) = (a == b) := by
  by_cases e : a = b
  · subst e; simp
  · have h : ¬ (Sum.inl a : Key) = Sum.inl b := fun q => e (Sum.inl.inj q)
    rw [decide_eq_false h]
    exact (beq_eq_false_iff_ne.mpr e).symm
theorem key_rr (a b : Str) : decide ((Sum.inr a : Key) = Sum.inr b) = decide (a = b) := by
  by_cases e : a = b
  · subst e; simp
  · have h : ¬ (Sum.inr a : Key) = Sum.inr b := fun q => e (Sum.inr.inj q)
    rw [decide_eq_false h, decide_eq_false e]
theorem key_lr (a : Int) (b : Str) : decide ((Sum.inl a : Key) = Sum.inr b) = false := decide_eq_false (fun q => nomatch q)
theorem key_rl (a : Str) (b : Int) : decide ((Sum.inr a : Key) = Sum.inl b) = false := decide_eq_false (fun q => nomatch q)
noncomputable def mixKind (prog : Program) (w : World) : PySem.KeyKind prog w Key where
  is := keyIs
  hash := keyH w
  inj := fun v a b ha hb => by
    rcases keyIs_shape ha with ⟨i, t, rfl, rfl⟩ | ⟨x, t, rfl, rfl⟩
    · rcases keyIs_shape hb with ⟨j, u, rfl, e⟩ | ⟨y, u, rfl, e⟩
      · injection e with e1 _; rw [e1]
      · exact nomatch e
    · rcases keyIs_shape hb with ⟨j, u, rfl, e⟩ | ⟨y, u, rfl, e⟩
      · exact nomatch e
      · injection e with e1 _; rw [e1]
  byValue := fun k v h => by
    rcases keyIs_shape h with ⟨i, t, rfl, rfl⟩ | ⟨x, t, rfl, rfl⟩ <;> rfl
  pyHash := fun hv h => by
    rcases keyIs_shape hv with ⟨i, t, rfl, rfl⟩ | ⟨x, t, rfl, rfl⟩
    · exact wpAny_pyHash_int h
    · exact wpAny_pyHash_str h
  eqBool := fun hu hv h => by
    rcases keyIs_shape hu with ⟨i, t, rfl, rfl⟩ | ⟨x, t, rfl, rfl⟩
    · rcases keyIs_shape hv with ⟨j, u, rfl, rfl⟩ | ⟨y, u, rfl, rfl⟩
      · rw [key_ll] at h; exact wpAny_eqBool_int h
      · rw [key_lr] at h; exact SeqAt.EqAt.int_str i t y u _ _ _ _ h
    · rcases keyIs_shape hv with ⟨j, u, rfl, rfl⟩ | ⟨y, u, rfl, rfl⟩
      · rw [key_rl] at h; exact SeqAt.EqAt.str_int x t j u _ _ _ _ h
      · rw [key_rr] at h; exact wpAny_eqBool_str h
  «strs» := fun k x t v h => by
    rcases keyIs_shape h with ⟨i, u, rfl, e⟩ | ⟨y, u, rfl, e⟩
    · exact nomatch e
    · injection e with e1 _
      subst e1
      cases v <;> rfl
end L2
namespace L2
open PySem PySem.Spec PyProof.Rows
inductive V where
  | non | bl (b : Bool) | int (i : Int) | str (x : Str) | byt (b : Array UInt8) | flt (b : UInt64) | ref (a : Addr) | ty (n : String)
  deriving DecidableEq
noncomputable def RelV : V → Value → Prop
  | .non, u => u = Value.none
  | .bl b, u => u = Value.bool b
  | .int i, u => ∃ t, u = Value.int i t
  | .str x, u => ∃ t, u = Value.str x t
  | .byt b, u => ∃ t, u = Value.bytes b t
  | .flt b, u => ∃ t, u = Value.float b t
  | .ref a, u => u = Value.ref a
  | .ty n, u => u = Value.type n
noncomputable abbrev Vals : List V → List Value → Prop := Paired RelV
theorem Vals.length {xs : List V} {us : List Value} (r : Vals xs us) : xs.length = us.length := Paired.length r
theorem Vals.get : ∀ {xs : List V} {us : List Value} {i : Nat} {x : V}, Vals xs us → xs[i]? = some x → ∃ u, us[i]? = some u ∧ RelV x u
  | _, _, _, _, .nil, e => by simp at e
  | _, _, 0, _, .cons r _, e => by simp at e; subst e; exact ⟨_, rfl, r⟩
  | _, _, i + 1, x, .cons _ t, e => by
    obtain ⟨u, h1, h2⟩ := Vals.get (i := i) (x := x) t (by simpa using e)
    exact ⟨u, by simpa using h1, h2⟩
theorem Vals.set {x : V} {u : Value} (r : RelV x u) : ∀ {xs : List V} {us : List Value} (i : Nat), Vals xs us → Vals (xs.set i x) (us.set i u)
  | _, _, _, .nil => .nil
  | _, _, 0, .cons _ t => .cons r t
  | _, _, i + 1, .cons q t => .cons q (Vals.set r i t)
theorem Vals.append : ∀ {xs ys : List V} {us ws : List Value}, Vals xs us → Vals ys ws → Vals (xs ++ ys) (us ++ ws)
  | _, _, _, _, .nil, s => s
  | _, _, _, _, .cons r t, s => .cons r (Vals.append t s)
theorem Vals.take : ∀ {xs : List V} {us : List Value} (n : Nat), Vals xs us → Vals (xs.take n) (us.take n)
  | _, _, 0, _ => .nil
  | _, _, _ + 1, .nil => .nil
  | _, _, n + 1, .cons r t => .cons r (Vals.take n t)
noncomputable def RelO : Option V → Option Value → Prop
  | some v, some u => RelV v u
  | none, none => True
  | _, _ => False
noncomputable def KV {κ : Type} : List (κ × V) → List (κ × Value) → Prop := Paired fun (p : κ × V) (q : κ × Value) => p.1 = q.1 ∧ RelV p.2 q.2
noncomputable def kV : Key → V
  | .inl i => .int i
  | .inr x => .str x
inductive HO where
    | lst (xs : List V)
    | tup (xs : List V)
    | dK (kvs : List (Key × V)) | dT (kvs : List (List Key × V))
    | set (S : Int → Bool) (n : Nat)
    | ins (C dx : Addr) (fs : List (Str × V))
    | own (x : Addr)
    | xd (fs : List (Str × V))
    | met (f x : Addr)
    | rng (lo hi : Int)
    | frz (o : Obj) (u : HO)
    | tbl (ps : Array Value)
    | ext (φ : Heap → Prop)
noncomputable abbrev Hp := Addr → Option HO
noncomputable def upd (H : Hp) (a : Addr) (o : HO) : Hp := fun b => if b = a then some o else H b
theorem upd_same {H : Hp} {a : Addr} {o : HO} : upd H a o a = some o := by unfold upd; rw [if_pos rfl]
theorem upd_ne {H : Hp} {a b : Addr} {o : HO} (h : b ≠ a) : upd H a o b = H b := by unfold upd; rw [if_neg h]
theorem ne_of_none {H : Hp} {a b : Addr} {o : HO} (h : H a = some o) (h' : H b = none) : a ≠ b := by
  intro e; subst e; rw [h] at h'; cases h'
section
variable (P : Program) (w : World)
noncomputable def ObjOk (H : Hp) (h : Heap) (a : Addr) : HO → Prop
  | .lst xs => xs.length ≤ sizeLine ∧ ∃ (its : List Value) (n : Nat), Vals xs its ∧ h.get? a = some { cls := .type "list", data := .seq its.toArray n }
  | .tup xs => xs.length ≤ sizeLine ∧ ∃ its : List Value, Vals xs its ∧ IsTup h a its.toArray
  | .dK kvs => kvs.length ≤ sizeLine ∧ (a == sysModules) = false ∧ ∃ vs, KV kvs vs ∧ h.DictOf (mixKind P w) a vs
  | .dT kvs => kvs.length ≤ sizeLine ∧ (a == sysModules) = false ∧ ∃ xs : List (List Key × Addr × Value),
      Paired (fun (p : List Key × V) (q : List Key × Addr × Value) => p.1 = q.1 ∧ H q.2.1 = some (.tup (p.1.map kV)) ∧ RelV p.2 q.2.2) kvs xs ∧
      ∃ o es ep, h.get? a = some o ∧ o.ExactDict ∧ o.data = .dict es ep ∧ es.toList = xs.map (entryOfKey (tupleKind (mixKind P w))) ∧ (xs.map (·.1)).Nodup
  | .set S n => h.SetOf (intKind P w) a S n
  | .ins C dx fs => H dx = some (.own a) ∧ fs.length ≤ 1000 ∧ dx ≠ a ∧ h.get? a = some (PySem.W.instObj C dx) ∧
      ∃ mA, h.Ns1 dx mA ∧ (∀ f, RelO (fs.lookup f) (mA f)) ∧ PySem.Within mA (fs.map (·.1))
  | .own _ => ∃ o, h.get? a = some o
  | .xd fs => ∃ mA, h.Ns1 a mA ∧ ∀ f, RelO (fs.lookup f) (mA f)
  | .rng lo hi => ∃ t u v, h.get? a = some { cls := .type "range", data := .fields #[.int lo t, .int hi u, .int 1 v] }
  | .frz o u => h.get? a = some o ∧ ObjOk H h a u
  | .tbl ps => h.get? a = some { cls := .none, data := .fields ps }
  | .met f x => h.get? a = some (PySem.W.methodObj (.ref f) (.ref x))
  | .ext φ => φ h ∧ (∃ o, h.get? a = some o) ∧ ∀ h1 h2 : Heap, φ h1 → (∀ o, h1.get? a = some o → h2.get? a = some o) → φ h2
noncomputable def HOk (H : Hp) (h : Heap) : Prop := ∀ a o, H a = some o → ObjOk P w H h a o
end
section
variable {P : Program} {w : World} {H H' : Hp} {h h' : Heap} {a : Addr} {o : HO}
theorem ObjOk.lt (x : ObjOk P w H h a o) : a < h.objs.size := by
  cases o with
  | lst xs => obtain ⟨_, _, _, _, e⟩ := x; exact Heap.lt_size e
  | tup xs => obtain ⟨_, _, _, p⟩ := x; exact p.lt
  | dK kvs => obtain ⟨_, _, _, _, o, _, _, e, _⟩ := x; exact Heap.lt_size e
  | dT kvs => obtain ⟨_, _, _, _, o, _, _, e, _⟩ := x; exact Heap.lt_size e
  | set S n => obtain ⟨o, _, _, _, e, _⟩ := x; exact Heap.lt_size e
  | ins C dx fs => obtain ⟨_, _, _, e, _⟩ := x; exact Heap.lt_size e
  | own y => obtain ⟨_, e⟩ := x; exact Heap.lt_size e
  | xd fs => obtain ⟨_, ⟨_, _, _, e, _⟩, _⟩ := x; exact Heap.lt_size e
  | rng lo hi => obtain ⟨_, _, _, e⟩ := x; exact Heap.lt_size e
  | frz ob u => obtain ⟨e, _⟩ := x; exact Heap.lt_size e
  | tbl ps => exact Heap.lt_size (show h.get? a = some _ from x)
  | met f y => exact Heap.lt_size (show h.get? a = some _ from x)
  | ext φ => obtain ⟨_, ⟨_, e⟩, _⟩ := x; exact Heap.lt_size e
theorem Paired.mapP {α β : Type} {F G : α → β → Prop} : ∀ {l₁ : List α} {l₂ : List β}, Paired F l₁ l₂ → (∀ a b, F a b → G a b) → Paired G l₁ l₂
  | _, _, .nil, _ => .nil
  | _, _, .cons r t, f => .cons (f _ _ r) (Paired.mapP t f)
theorem ObjOk.stay (x : ObjOk P w H h a o) (k : ∀ b u, (b = a ∨ H b = some (.own a)) → h.get? b = some u → h'.get? b = some u)
    (ho : ∀ b, H b = some (.own a) → H' b = some (.own a)) (ht : ∀ b xs, H b = some (.tup xs) → H' b = some (.tup xs)) : ObjOk P w H' h' a o := by
  induction o with
  | lst xs => obtain ⟨z, its, n, r, e⟩ := x; exact ⟨z, its, n, r, k _ _ (.inl rfl) e⟩
  | tup xs => obtain ⟨z, its, r, ob, e, c⟩ := x; exact ⟨z, its, r, ob, k _ _ (.inl rfl) e, c⟩
  | dK kvs => obtain ⟨z, y, vs, r, ob, es, ep, e, c⟩ := x; exact ⟨z, y, vs, r, ob, es, ep, k _ _ (.inl rfl) e, c⟩
  | dT kvs =>
    obtain ⟨z, y, xs, r, ob, es, ep, e, c⟩ := x
    exact ⟨z, y, xs, Paired.mapP r fun p q z => ⟨z.1, ht _ _ z.2.1, z.2.2⟩, ob, es, ep, k _ _ (.inl rfl) e, c⟩
  | set S n => obtain ⟨ob, es, ep, t, e, c⟩ := x; exact ⟨ob, es, ep, t, k _ _ (.inl rfl) e, c⟩
  | ins C dx fs =>
    obtain ⟨d, z, ne, e, mA, ⟨od, es, ep, e2, c⟩, r⟩ := x
    exact ⟨ho _ d, z, ne, k _ _ (.inl rfl) e, mA, ⟨od, es, ep, k _ _ (.inr d) e2, c⟩, r⟩
  | own y => obtain ⟨ob, e⟩ := x; exact ⟨ob, k _ _ (.inl rfl) e⟩
  | xd fs => obtain ⟨mA, ⟨od, es, ep, e, c⟩, r⟩ := x; exact ⟨mA, ⟨od, es, ep, k _ _ (.inl rfl) e, c⟩, r⟩
  | rng lo hi => obtain ⟨t, u, v, e⟩ := x; exact ⟨t, u, v, k _ _ (.inl rfl) e⟩
  | frz ob u ih => obtain ⟨e, q⟩ := x; exact ⟨k _ _ (.inl rfl) e, ih q⟩
  | tbl ps =>
    have e : h.get? a = some { cls := .none, data := .fields ps } := x
    show h'.get? a = some { cls := .none, data := .fields ps }
    exact k a _ (.inl rfl) e
  | met f y =>
    have e : h.get? a = some (PySem.W.methodObj (.ref f) (.ref y)) := x
    show h'.get? a = some (PySem.W.methodObj (.ref f) (.ref y))
    exact k a _ (.inl rfl) e
  | ext φ => obtain ⟨p, ⟨o, e⟩, st⟩ := x; exact ⟨st _ _ p fun o q => k _ _ (.inl rfl) q, ⟨o, k _ _ (.inl rfl) e⟩, st⟩
theorem HOk.lt (x : HOk P w H h) (e : H a = some o) : a < h.objs.size := (x a o e).lt
theorem HOk.fresh (x : HOk P w H h) (e : h.objs.size ≤ a) : H a = none := by
  cases q : H a with
  | none => rfl
  | some u => exact absurd (Nat.lt_of_lt_of_le (x.lt q) e) (Nat.lt_irrefl _)
theorem HOk.kept (x : HOk P w H h) (k : ∀ b u, h.get? b = some u → h'.get? b = some u) : HOk P w H h' := fun a o e =>
  (x a o e).stay (fun b u _ q => k b u q) (fun _ q => q) fun _ _ q => q
theorem HOk.laid (x : HOk P w H h) (k : ∀ b u, h.get? b = some u → h'.get? b = some u) (hp : h.objs.size ≤ a) (new : ObjOk P w (upd H a o) h' a o) : HOk P w (upd H a o) h' := fun b u e => by
  have hn := x.fresh hp
  by_cases hb : b = a
  · subst hb; rw [upd_same] at e; cases e; exact new
  · rw [upd_ne hb] at e
    exact (x b u e).stay (fun c v _ q => k c v q) (fun c q => by rw [upd_ne (ne_of_none q hn)]; exact q) fun c xs q => by rw [upd_ne (ne_of_none q hn)]; exact q
end
noncomputable def Rd (H : Hp) (a : Addr) (u : HO) : Prop := H a = some u ∨ ∃ o, H a = some (.frz o u)
theorem Rd.ok {P : Program} {w : World} {H : Hp} {h : Heap} {a : Addr} {u : HO} (r : Rd H a u) (x : HOk P w H h) : ObjOk P w H h a u := by
  rcases r with r | ⟨o, r⟩
  · exact x a u r
  · obtain ⟨_, q⟩ := x a _ r
    exact q
noncomputable def Mut : Option HO → Prop
  | some (.lst _) => True
  | some (.dK _) => True
  | some (.dT _) => True
  | some (.set _ _) => True
  | some (.ins _ _ _) => True
  | some (.ext _) => True
  | _ => False
section
variable {P : Program} {w : World} {H : Hp} {h h' : Heap} {x e : Addr} {o' : HO}
theorem HOk.write (ok : HOk P w H h) (mu : Mut (H x)) (he : e = x ∨ H e = some (.own x)) (k : ∀ b u, b ≠ e → h.get? b = some u → h'.get? b = some u) (heo : ∃ u, h'.get? e = some u)
    (new : ObjOk P w (upd H x o') h' x o') : HOk P w (upd H x o') h' := fun b u q => by
  have nown : ∀ c y, H c = some (.own y) → c ≠ x := fun c y r z => by subst z; rw [r] at mu; exact mu
  have ntup : ∀ c xs, H c = some (.tup xs) → c ≠ x := fun c xs r z => by subst z; rw [r] at mu; exact mu
  by_cases hb : b = x
  · subst hb; rw [upd_same] at q; cases q; exact new
  · rw [upd_ne hb] at q
    by_cases hbe : b = e
    · have q' : H b = some (.own x) := by
        rcases he with z | z
        · exact absurd (hbe.trans z) hb
        · rw [hbe]; exact z
      rw [q] at q'; cases q'
      obtain ⟨v, hv⟩ := heo
      exact ⟨v, by rw [hbe]; exact hv⟩
    · refine (ok b u q).stay (fun c v hc r => k c v ?_ r) (fun c r => by rw [upd_ne (nown c b r)]; exact r) fun c xs r => by rw [upd_ne (ntup c xs r)]; exact r
      rcases hc with rfl | hc
      · exact hbe
      · rintro rfl
        rcases he with z | z
        · exact nown c b hc z
        · rw [hc] at z; cases z; exact hb rfl
end
structure Un (fs ex : List Addr) (H H' : Hp) (h h' : Heap) : Prop where
  keep : ∀ b o, h.get? b = some o → H b = none → b ∉ fs → b ∉ ex → h'.get? b = some o
  slot : ∀ b o, h.get? b = some o → H b = none → b ∈ fs → b ∉ ex → ∃ sl, h'.get? b = some { o with slots := sl }
  free : ∀ b o, h.get? b = some o → H b = none → b ∉ ex → H' b = none
  there : ∀ b o, h.get? b = some o → b ∉ ex → ∃ o', h'.get? b = some o'
  tups : ∀ b xs, H b = some (.tup xs) → H' b = some (.tup xs)
  frzs : ∀ b o u, H b = some (.frz o u) → H' b = some (.frz o u)
  tbls : ∀ b ps, H b = some (.tbl ps) → ∃ more, H' b = some (.tbl (ps ++ more))
section
variable {fs fs' ex ex' : List Addr} {H H1 H2 : Hp} {h h1 h2 h' : Heap} {a x e : Addr} {o : HO}
theorem Un.any (u : Un fs ex H H1 h h1) {b : Addr} {ob : Obj} (q : h.get? b = some ob) (n : H b = none) (hx : b ∉ ex) : ∃ sl, h1.get? b = some { ob with slots := sl } := by
  by_cases hb : b ∈ fs
  · exact u.slot b ob q n hb hx
  · exact ⟨ob.slots, u.keep b ob q n hb hx⟩
theorem Un.trans (a : Un fs ex H H1 h h1) (b : Un fs ex H1 H2 h1 h2) : Un fs ex H H2 h h2 where
  keep := fun c ob q n hc hx => b.keep c ob (a.keep c ob q n hc hx) (a.free c ob q n hx) hc hx
  slot := fun c ob q n hc hx => by
    obtain ⟨sl, e1⟩ := a.slot c ob q n hc hx
    obtain ⟨sl', e2⟩ := b.slot c _ e1 (a.free c ob q n hx) hc hx
    exact ⟨sl', e2⟩
  free := fun c ob q n hx => by
    obtain ⟨o', e1⟩ := a.there c ob q hx
    exact b.free c o' e1 (a.free c ob q n hx) hx
  there := fun c ob q hx => by
    obtain ⟨o', e1⟩ := a.there c ob q hx
    exact b.there c o' e1 hx
  tups := fun c xs q => b.tups c xs (a.tups c xs q)
  frzs := fun c ob xs q => b.frzs c ob xs (a.frzs c ob xs q)
  tbls := fun c ps q => by
    obtain ⟨m1, e1⟩ := a.tbls c ps q
    obtain ⟨m2, e2⟩ := b.tbls c _ e1
    exact ⟨m1 ++ m2, by rw [e2, Array.append_assoc]⟩
theorem Un.kept (k : ∀ b u, h.get? b = some u → h'.get? b = some u) : Un fs ex H H h h' :=
  ⟨fun b ob q _ _ _ => k b ob q, fun b ob q _ _ _ => ⟨ob.slots, k b ob q⟩, fun _ _ _ n _ => n, fun b ob q _ => ⟨ob, k b ob q⟩, fun _ _ q => q, fun _ _ _ q => q, fun _ ps q => ⟨#[], by rw [q]; simp⟩⟩
theorem Un.refl : Un fs ex H H h h := Un.kept fun _ _ q => q
theorem Un.laid (k : ∀ b u, h.get? b = some u → h'.get? b = some u) (hp : h.objs.size ≤ a) (hn : H a = none) : Un fs ex H (upd H a o) h h' where
  keep := fun b u q _ _ _ => k b u q
  slot := fun b u q _ _ _ => ⟨u.slots, k b u q⟩
  free := fun b u q n _ => by rw [upd_ne (Nat.ne_of_lt (Nat.lt_of_lt_of_le (Heap.lt_size q) hp))]; exact n
  there := fun b u q _ => ⟨u, k b u q⟩
  tups := fun b xs q => by rw [upd_ne (ne_of_none q hn)]; exact q
  frzs := fun b u xs q => by rw [upd_ne (ne_of_none q hn)]; exact q
  tbls := fun b ps q => ⟨#[], by rw [upd_ne (ne_of_none q hn), q]; simp⟩
theorem Un.write (mu : Mut (H x)) (he : e = x ∨ H e = some (.own x)) (k : ∀ b u, b ≠ e → h.get? b = some u → h'.get? b = some u) (heo : ∃ u, h'.get? e = some u) : Un fs ex H (upd H x o) h h' := by
  have hx : ∀ b, H b = none → b ≠ x := fun b n z => by subst z; rw [n] at mu; exact mu
  have hb : ∀ b, H b = none → b ≠ e := fun b n z => by
    subst z
    rcases he with r | r
    · exact hx b n r
    · rw [n] at r; cases r
  have hm : ∀ b u, H b = some u → ¬ Mut (some u) → b ≠ x := fun b u q nm z => by subst z; rw [q] at mu; exact nm mu
  refine ⟨fun b u q n _ _ => k b u (hb b n) q, fun b u q n _ _ => ⟨u.slots, k b u (hb b n) q⟩, fun b u q n _ => by rw [upd_ne (hx b n)]; exact n, fun b u q _ => ?_,
    fun b xs q => by rw [upd_ne (hm b _ q fun z => z)]; exact q, fun b u xs q => by rw [upd_ne (hm b _ q fun z => z)]; exact q, fun b ps q => ⟨#[], by rw [upd_ne (hm b _ q fun z => z), q]; simp⟩⟩
  by_cases hbe : b = e
  · subst hbe; exact heo
  · exact ⟨u, k b u hbe q⟩
theorem Un.mono (u : Un fs ex H H1 h h1) (hs : ∀ b ∈ fs, b ∈ fs') (hx : ∀ b ∈ ex, b ∈ ex') : Un fs' ex' H H1 h h1 :=
  ⟨fun b ob q n hb he => u.keep b ob q n (fun z => hb (hs b z)) fun z => he (hx b z), fun _ _ q n _ he => u.any q n fun z => he (hx _ z), fun b ob q n he => u.free b ob q n fun z => he (hx b z), fun b ob q he => u.there b ob q fun z => he (hx b z), u.tups, u.frzs, u.tbls⟩
end
noncomputable def trk (h : Heap) (H : Hp) : List Addr := (List.range h.objs.size).filter fun a => (H a).isSome
noncomputable def hidT (h : Heap) (H : Hp) : Heap := PySem.W.hideAll h (trk h H)
theorem hidT_size (h : Heap) (H : Hp) : (hidT h H).objs.size = h.objs.size := PySem.W.hideAll_size _ _
theorem hidT_get {h : Heap} {H : Hp} {b : Addr} {o : Obj} (e : h.get? b = some o) (n : H b = none) : (hidT h H).get? b = some o :=
  PySem.W.hideAll_get _ e fun hm => by
    have q : (H b).isSome = true := (List.mem_filter.mp hm).2
    rw [n] at q; simp at q
theorem of_hidT {h : Heap} {H : Hp} {b : Addr} {o : Obj} (e : (hidT h H).get? b = some o) : h.get? b = some o ∧ H b = none := by
  have e' : h.get? b = some o := PySem.W.of_hideAll (trk h H) e
  refine ⟨e', ?_⟩
  cases q : H b with
  | none => rfl
  | some x =>
    have hm : b ∈ trk h H := List.mem_filter.mpr ⟨List.mem_range.mpr (Heap.lt_size e'), by simp [q]⟩
    have z : (hidT h H).get? b = none := PySem.W.hideAll_none (trk h H) hm
    rw [z] at e; cases e
end L2
namespace L2
open PySem PySem.Spec PyProof.Rows
structure Mod (K : PySem.W.Frag) (mg : Str → Option Value) (base : Heap) : Prop where
  kin : K.In base
  glob : base.Ns mainGlobals mg
  blt : ∃ mb, base.Ns builtinsNs mb ∧ ∀ x : Str, x ≠ "__name__" → mb x = bootBuiltins x
  nolimit : base.NoLimit
structure Cx where
  prog : Program
  w : World
  K : PySem.W.Frag
  mg : Str → Option Value
  base : Heap
  A : Around
  N : List Str
  s₀ : Shared
  H₀ : Hp
  env : Env
  outer : List Env
  stack : List Env
  ex : List Addr
  fn : Str → Bool
  calm : Bool
  pn : List (Addr × Obj)
  xe : Value → Shared → Prop
noncomputable def frs (l : List Env) : List Addr := l.filterMap (·.frame)
noncomputable abbrev Cx.fs (X : Cx) : List Addr := frs X.outer
noncomputable def Vis (sc : Scope) (x : Str) : Prop := sc.names.lookup x = some .local ∨ sc.names.lookup x = some .cell ∨ sc.names.lookup x = some .free
noncomputable def Loc (sc : Scope) (x : Str) : Prop := sc.names.lookup x = some .local ∨ sc.names.lookup x = some .cell
noncomputable def Look (env : Env) (h : Heap) (m : Str → Option Value) (x : Str) (u : Value) : Prop :=
  (env.kindOf x = some .local ∧ m x = some u) ∨ ((env.kindOf x = some .cell ∨ env.kindOf x = some .free) ∧ ∃ c, env.cells.lookup x = some c ∧ h.IsCell c (some u))
structure Cx.Ok (X : Cx) : Prop where
  mod : Mod X.K X.mg X.base
  kind : X.env.scope.kind = .function
  glob : X.env.globals = mainGlobals
  blt : X.env.builtins = builtinsNs
  above : X.s₀.heap.objs.size ≤ X.env.locals
  inj : ∀ x y c, X.env.cells.lookup x = some c → X.env.cells.lookup y = some c → x = y
  has : ∀ x, (X.env.kindOf x = some .cell ∨ X.env.kindOf x = some .free) → ∃ c, X.env.cells.lookup x = some c
  cab : ∀ x c, X.fn x = true → X.env.cells.lookup x = some c → X.s₀.heap.objs.size ≤ c
  hd : X.calm = true → X.A.handled = none
  frames : X.A.frames = some X.stack
  stk : X.stack = X.outer ∨ (X.stack = X.env :: X.outer ∧ X.env.frame = some X.env.locals)
  exf : ∀ b ∈ X.ex, b ≠ X.env.locals ∧ ∀ x c, X.env.cells.lookup x = some c → c ≠ b
  bs : ∀ b o, X.base.get? b = some o → X.s₀.heap.get? b = some o ∧ X.H₀ b = none
  bsz : X.base.objs.size ≤ X.s₀.heap.objs.size
  noex : ∀ b o, X.base.get? b = some o → b ∉ X.ex
  exfs : ∀ b ∈ X.ex, b ∉ X.fs
  funs : X.s₀.heap.FunFrames X.base X.outer
  frf : ∀ b ∈ X.fs, X.H₀ b = none
structure Inv (X : Cx) (pins : List (Addr × Obj)) (σ : List (Option V)) (H : Hp) (s : Shared) : Prop where
  ok : X.Ok
  os : s.os = X.s₀.os
  bare : AllBare s.gens
  base : Un X.fs X.ex X.H₀ H X.s₀.heap s.heap
  loc : ∃ m, s.heap.Ns X.env.locals m ∧ ∀ (i : Nat) (x : Str) (v : V), X.N[i]? = some x → σ[i]? = some (some v) → Vis X.env.scope x → ∃ u, RelV v u ∧ Look X.env s.heap m x u
  cell : ∀ x c, X.env.cells.lookup x = some c → ∃ v, s.heap.IsCell c v
  free : H X.env.locals = none
  freeC : ∀ x c, X.env.cells.lookup x = some c → H c = none
  pin : ∀ p ∈ X.pn ++ pins, s.heap.get? p.1 = some p.2 ∧ H p.1 = none ∧ p.1 ≠ X.env.locals ∧ p.1 ∉ X.fs ∧ ∀ v, p.2.data ≠ .cell v
  hok : HOk X.prog X.w H s.heap
  len : σ.length = X.N.length
section
variable {X : Cx} {pins : List (Addr × Obj)} {σ : List (Option V)} {H H' : Hp} {s : Shared} {h' : Heap}
theorem Cx.Ok.nofr (ok : X.Ok) {b : Addr} {o : Obj} (e : X.base.get? b = some o) : b ∉ X.fs := fun hb => by
  have := (ok.funs.mem hb).1
  rw [e] at this; cases this
theorem Inv.bs (I : Inv X pins σ H s) : ∀ b o, X.base.get? b = some o → s.heap.get? b = some o ∧ H b = none := fun b o e =>
  ⟨I.base.keep b o (I.ok.bs b o e).1 (I.ok.bs b o e).2 (I.ok.nofr e) (I.ok.noex b o e), I.base.free b o (I.ok.bs b o e).1 (I.ok.bs b o e).2 (I.ok.noex b o e)⟩
theorem Inv.bk (I : Inv X pins σ H s) : ∀ b o, X.base.get? b = some o → s.heap.get? b = some o := fun b o e => (I.bs b o e).1
theorem Inv.mod (I : Inv X pins σ H s) : Mod X.K X.mg X.base := I.ok.mod
theorem Inv.kIn (I : Inv X pins σ H s) : X.K.In s.heap := I.ok.mod.kin.keeps I.bk
theorem Inv.lt (I : Inv X pins σ H s) : X.env.locals < s.heap.objs.size := let ⟨_, hn, _⟩ := I.loc; hn.lt
theorem Inv.sz (I : Inv X pins σ H s) : X.s₀.heap.objs.size ≤ s.heap.objs.size := Nat.le_trans I.ok.above (Nat.le_of_lt I.lt)
theorem Inv.nofs (I : Inv X pins σ H s) {a : Addr} (h : s.heap.objs.size ≤ a) : a ∉ X.fs := fun hb => by
  obtain ⟨_, o, ho, _⟩ := I.ok.funs.mem hb
  exact absurd (Nat.lt_of_lt_of_le (Heap.lt_size ho) (Nat.le_trans I.sz h)) (Nat.lt_irrefl _)
theorem Inv.cne (I : Inv X pins σ H s) : ∀ x c, X.env.cells.lookup x = some c → c ≠ X.env.locals := fun x c e z => by
  obtain ⟨v, o, ho, hd⟩ := I.cell x c e
  obtain ⟨m, ⟨o', es, ep, ho', hd', _⟩, _⟩ := I.loc
  rw [z, ho'] at ho; cases ho; rw [hd'] at hd; cases hd
theorem Inv.funs (I : Inv X pins σ H s) : s.heap.FunFrames X.base X.outer := by
  have all : ∀ (l : List Env), (∀ b ∈ frs l, b ∈ X.fs) → X.s₀.heap.FunFrames X.base l → s.heap.FunFrames X.base l := by
    intro l
    induction l with
    | nil => intro _ _; trivial
    | cons env r ih =>
      intro hs hl
      obtain ⟨hk, ⟨L, o, hf, hn, ho, hd⟩, hr⟩ := hl
      have hL : L ∈ X.fs := hs L (by unfold frs; rw [List.filterMap_cons, hf]; exact List.mem_cons_self)
      obtain ⟨sl, e⟩ := I.base.slot L o ho (I.ok.frf L hL) hL fun z => I.ok.exfs L z hL
      exact ⟨hk, ⟨L, _, hf, hn, e, hd⟩, ih (fun b hb => hs b (by unfold frs; rw [List.filterMap_cons, hf]; exact List.mem_cons_of_mem _ hb)) hr⟩
  exact all X.outer (fun _ hb => hb) I.ok.funs
theorem Inv.stack (I : Inv X pins σ H s) : s.heap.FunFrames X.base X.stack := by
  rcases I.ok.stk with e | ⟨e, hf⟩
  · rw [e]; exact I.funs
  · rw [e]
    obtain ⟨m, hn, _⟩ := I.loc
    refine .cons (by rw [I.ok.kind]; decide) hf hn ?_ I.funs
    exact Heap.get?_none_of_le (Nat.le_trans I.ok.bsz I.ok.above)
theorem Inv.stkSub (I : Inv X pins σ H s) : ∀ b ∈ frs X.stack, b ∈ X.env.locals :: X.fs := fun b hb => by
  rcases I.ok.stk with e | ⟨e, hf⟩
  · rw [e] at hb; exact List.mem_cons_of_mem _ hb
  · rw [e] at hb
    unfold frs at hb
    rw [List.filterMap_cons, hf] at hb
    exact hb
theorem Inv.stkFree (I : Inv X pins σ H s) : ∀ b ∈ frs X.stack, H b = none := fun b hb => by
  rcases List.mem_cons.mp (I.stkSub b hb) with e | hb
  · rw [e]; exact I.free
  · obtain ⟨_, o, ho, _⟩ := I.ok.funs.mem hb
    exact I.base.free b o ho (I.ok.frf b hb) fun z => I.ok.exfs b z hb
theorem Inv.step {g' : Array GenState} {t' : Nat} {d' : Drawn} {ch : List Addr} (I : Inv X pins σ H s)
    (hch : ∀ b ∈ ch, (b ∈ X.ex ∨ X.s₀.heap.objs.size ≤ b) ∧ b ≠ X.env.locals ∧ (∀ x c, X.env.cells.lookup x = some c → c ≠ b) ∧ ∀ p ∈ X.pn ++ pins, p.1 ≠ b)
    (keep : ∀ b o, b ≠ X.env.locals → b ∉ X.fs → b ∉ ch → s.heap.get? b = some o → H b = none → h'.get? b = some o)
    (slot : ∀ b o, b ≠ X.env.locals → b ∈ X.fs → b ∉ ch → s.heap.get? b = some o → H b = none → ∃ sl, h'.get? b = some { o with slots := sl }) (free : ∀ b o, b ∉ ch → s.heap.get? b = some o → H b = none → H' b = none)
    (there : ∀ b o, b ∉ ch → s.heap.get? b = some o → ∃ o', h'.get? b = some o')
    (tups : ∀ b xs, H b = some (.tup xs) → H' b = some (.tup xs)) (frzs : ∀ b o u, H b = some (.frz o u) → H' b = some (.frz o u)) (tbls : ∀ b ps, H b = some (.tbl ps) → ∃ more, H' b = some (.tbl (ps ++ more)))
    (ns : ∀ m, s.heap.Ns X.env.locals m → h'.Ns X.env.locals m) (hok : HOk X.prog X.w H' h') (hg : AllBare g') :
    Inv X pins σ H' { s with heap := h', gens := g', drawn := d', toks := t' } := by
  have neL : ∀ b o, X.s₀.heap.get? b = some o → b ≠ X.env.locals := fun b o e => Nat.ne_of_lt (Nat.lt_of_lt_of_le (Heap.lt_size e) I.ok.above)
  have neC : ∀ b o, X.s₀.heap.get? b = some o → b ∉ X.ex → b ∉ ch := fun b o e hx hb => by
    rcases (hch b hb).1 with z | z
    · exact hx z
    · exact absurd (Nat.lt_of_lt_of_le (Heap.lt_size e) z) (Nat.lt_irrefl _)
  have cellK : ∀ x c, X.env.cells.lookup x = some c → ∀ v, s.heap.IsCell c v → h'.IsCell c v := fun x c e v ⟨o, ho, hd⟩ => by
    have nch : c ∉ ch := fun z => (hch c z).2.2.1 x c e rfl
    by_cases hc : c ∈ X.fs
    · obtain ⟨sl, q⟩ := slot c o (I.cne x c e) hc nch ho (I.freeC x c e)
      exact ⟨_, q, hd⟩
    · exact ⟨o, keep c o (I.cne x c e) hc nch ho (I.freeC x c e), hd⟩
  refine ⟨I.ok, I.os, hg, ⟨fun b o e n hb hx => ?_, fun b o e n hb hx => ?_, fun b o e n hx => ?_, fun b o e hx => ?_, fun b xs e => tups b xs (I.base.tups b xs e), fun b o xs e => frzs b o xs (I.base.frzs b o xs e), fun b ps e => ?_⟩, ?_, fun x c e => ?_, ?_, fun x c e => ?_, fun p hp => ?_, hok, I.len⟩
  · exact keep b o (neL b o e) hb (neC b o e hx) (I.base.keep b o e n hb hx) (I.base.free b o e n hx)
  · obtain ⟨sl, e1⟩ := I.base.slot b o e n hb hx
    obtain ⟨sl', e2⟩ := slot b _ (neL b o e) hb (neC b o e hx) e1 (I.base.free b o e n hx)
    exact ⟨sl', e2⟩
  · obtain ⟨o', e1⟩ := I.base.there b o e hx
    exact free b o' (neC b o e hx) e1 (I.base.free b o e n hx)
  · obtain ⟨o', e1⟩ := I.base.there b o e hx
    exact there b o' (neC b o e hx) e1
  · obtain ⟨m1, e1⟩ := I.base.tbls b ps e
    obtain ⟨m2, e2⟩ := tbls b _ e1
    exact ⟨m1 ++ m2, by rw [e2, Array.append_assoc]⟩
  · obtain ⟨m, hn, hl⟩ := I.loc
    refine ⟨m, ns m hn, fun i x v e1 e2 e3 => ?_⟩
    obtain ⟨u, r, l⟩ := hl i x v e1 e2 e3
    refine ⟨u, r, ?_⟩
    rcases l with l | ⟨k, c, e, z⟩
    · exact .inl l
    · exact .inr ⟨k, c, e, cellK x c e _ z⟩
  · obtain ⟨v, z⟩ := I.cell x c e
    exact ⟨v, cellK x c e v z⟩
  · obtain ⟨m, ⟨o, _, _, ho, _⟩, _⟩ := I.loc
    exact free _ o (fun z => (hch _ z).2.1 rfl) ho I.free
  · obtain ⟨v, o, ho, hd⟩ := I.cell x c e
    exact free c o (fun z => (hch c z).2.2.1 x c e rfl) ho (I.freeC x c e)
  · obtain ⟨e, n, ne, nf, d⟩ := I.pin p hp
    have nch : p.1 ∉ ch := fun z => (hch p.1 z).2.2.2 p hp rfl
    exact ⟨keep p.1 p.2 ne nf nch e n, free p.1 p.2 nch e n, ne, nf, d⟩
theorem Inv.un {t' : Nat} (I : Inv X pins σ H s) (u : Un X.fs [] H H' s.heap h') (hok : HOk X.prog X.w H' h') : Inv X pins σ H' { s with heap := h', toks := t' } := by
  obtain ⟨m, ⟨o, es, ep, ho, r⟩, _⟩ := id I.loc
  obtain ⟨sl, hL⟩ := u.any ho I.free (by simp)
  exact I.step (g' := s.gens) (d' := s.drawn) (ch := []) (fun _ z => nomatch z) (fun b o _ hb _ e n => u.keep b o e n hb (by simp)) (fun b o _ hb _ e n => u.slot b o e n hb (by simp)) (fun b o _ e n => u.free b o e n (by simp)) (fun b o _ e => u.there b o e (by simp)) u.tups u.frzs u.tbls (fun m' hm => by
    obtain ⟨o', es', ep', ho', r'⟩ := hm
    rw [ho] at ho'; cases ho'
    exact ⟨_, es', ep', hL, r'⟩) hok I.bare
theorem Inv.call {g' : Array GenState} {t' : Nat} {d' : Drawn} {ch : List Addr} (I : Inv X pins σ H s) (u : Un (frs X.stack) ch H H' s.heap h') (hok : HOk X.prog X.w H' h') (hg : AllBare g')
    (hch : ∀ b ∈ ch, (b ∈ X.ex ∨ X.s₀.heap.objs.size ≤ b) ∧ b ≠ X.env.locals ∧ (∀ x c, X.env.cells.lookup x = some c → c ≠ b) ∧ ∀ p ∈ X.pn ++ pins, p.1 ≠ b) :
    Inv X pins σ H' { s with heap := h', gens := g', drawn := d', toks := t' } := by
  obtain ⟨m, ⟨o, es, ep, ho, r⟩, _⟩ := id I.loc
  obtain ⟨sl, hL⟩ := u.any ho I.free fun z => (hch _ z).2.1 rfl
  exact I.step (ch := ch) hch (fun b o hL hb hc e n => u.keep b o e n (fun z => (List.mem_cons.mp (I.stkSub b z)).elim hL hb) hc) (fun b o _ _ hc e n => u.any e n hc) (fun b o hc e n => u.free b o e n hc) (fun b o hc e => u.there b o e hc) u.tups u.frzs u.tbls (fun m' hm => by
    obtain ⟨o', es', ep', ho', r'⟩ := hm
    rw [ho] at ho'; cases ho'
    exact ⟨_, es', ep', hL, r'⟩) hok hg
theorem Inv.turned {t' : Nat} {it : Addr} (I : Inv X pins σ H s) (k : ∀ b o, b ≠ it → s.heap.get? b = some o → h'.get? b = some o) (hn : H it = none) (hL : it ≠ X.env.locals)
    (h1 : it ∈ X.ex ∨ X.s₀.heap.objs.size ≤ it) (h2 : ∀ x c, X.env.cells.lookup x = some c → c ≠ it) (h3 : ∀ p ∈ X.pn ++ pins, p.1 ≠ it) : Inv X pins σ H { s with heap := h', toks := t' } := by
  have nit : ∀ b u, H b = some u → b ≠ it := fun b u e z => by rw [z, hn] at e; cases e
  refine I.step (g' := s.gens) (d' := s.drawn) (ch := [it]) (fun b hb => ?_) (fun b o _ _ hc e _ => k b o (fun z => hc (by simp [z])) e) (fun b o _ _ hc e _ => ⟨o.slots, k b o (fun z => hc (by simp [z])) e⟩) (fun _ _ _ _ n => n)
    (fun b o hc e => ⟨o, k b o (fun z => hc (by simp [z])) e⟩) (fun _ _ e => e) (fun _ _ _ e => e) (fun b ps e => ⟨#[], by rw [e]; simp⟩) (fun m hm => ?_) (fun b u e => ?_) I.bare
  · have e : b = it := by simpa using hb
    subst e
    exact ⟨h1, hL, h2, h3⟩
  · obtain ⟨o, es, ep, ho, r⟩ := hm
    exact ⟨o, es, ep, k _ o (Ne.symm hL) ho, r⟩
  · refine (I.hok b u e).stay (fun c v hc q => k c v ?_ q) (fun _ q => q) fun _ _ q => q
    rcases hc with z | z
    · rw [z]; exact nit b u e
    · exact nit c _ z
theorem Inv.tok (I : Inv X pins σ H s) (t : Nat) : Inv X pins σ H { s with toks := t } := I.un (h' := s.heap) (t' := t) Un.refl I.hok
theorem Inv.kept {t' : Nat} (I : Inv X pins σ H s) (k : ∀ b u, s.heap.get? b = some u → h'.get? b = some u) : Inv X pins σ H { s with heap := h', toks := t' } := I.un (Un.kept k) (I.hok.kept k)
theorem Inv.laid {a : Addr} {o : HO} {t' : Nat} (I : Inv X pins σ H s) (k : ∀ b u, s.heap.get? b = some u → h'.get? b = some u) (hp : s.heap.objs.size ≤ a) (new : ObjOk X.prog X.w (upd H a o) h' a o) :
    Inv X pins σ (upd H a o) { s with heap := h', toks := t' } := I.un (Un.laid k hp (I.hok.fresh hp)) (I.hok.laid k hp new)
theorem Inv.write {x e : Addr} {o : HO} {t' : Nat} (I : Inv X pins σ H s) (mu : Mut (H x)) (he : e = x ∨ H e = some (.own x)) (k : ∀ b u, b ≠ e → s.heap.get? b = some u → h'.get? b = some u) (heo : ∃ u, h'.get? e = some u)
    (new : ObjOk X.prog X.w (upd H x o) h' x o) : Inv X pins σ (upd H x o) { s with heap := h', toks := t' } := I.un (Un.write mu he k heo) (I.hok.write mu he k heo new)
theorem Inv.weak {σ' : List (Option V)} (I : Inv X pins σ H s) (hl : σ'.length = σ.length) (w : ∀ (i : Nat) v, σ'[i]? = some (some v) → σ[i]? = some (some v)) : Inv X pins σ' H s :=
  ⟨I.ok, I.os, I.bare, I.base, let ⟨m, hn, hl'⟩ := I.loc; ⟨m, hn, fun i x v e1 e2 e3 => hl' i x v e1 (w i v e2) e3⟩, I.cell, I.free, I.freeC, I.pin, I.hok, hl.trans I.len⟩
theorem Inv.pins_of {pins' : List (Addr × Obj)} (I : Inv X pins σ H s) (h : ∀ p ∈ pins', s.heap.get? p.1 = some p.2 ∧ H p.1 = none ∧ p.1 ≠ X.env.locals ∧ p.1 ∉ X.fs ∧ ∀ v, p.2.data ≠ .cell v) : Inv X pins' σ H s :=
  ⟨I.ok, I.os, I.bare, I.base, I.loc, I.cell, I.free, I.freeC, fun p hp => (List.mem_append.mp hp).elim (fun z => I.pin p (List.mem_append_left _ z)) (h p), I.hok, I.len⟩
theorem nodup_ix {N : List Str} (hN : N.Nodup) {i j : Nat} {x : Str} (a : N[i]? = some x) (b : N[j]? = some x) : i = j := by
  obtain ⟨h1, e1⟩ := List.getElem?_eq_some_iff.mp a
  obtain ⟨h2, e2⟩ := List.getElem?_eq_some_iff.mp b
  exact (List.getElem_inj hN).mp (e1.trans e2.symm)
theorem store_ok2 {M : Model} {A : Around} {E : Value → Shared → Prop} {i : Nat} {x : Str} {v : V} {u : Value} {Q : Unit → Shared → Prop} (I : Inv X pins σ H s) (hN : X.N.Nodup) (hi : X.N[i]? = some x) (hx : Loc X.env.scope x) (r : RelV v u)
    (h : ∀ s', Inv X pins (σ.set i (some v)) H s' → (∃ a, Heap.SameBut a s.heap s'.heap ∧ (a = X.env.locals ∨ X.env.cells.lookup x = some a)) → Q () s') (hf : X.fn x = true ∨ X.env.scope.names.lookup x = some .local := by first | exact .inl rfl | exact .inr rfl | assumption) : wpAny M A (storeName X.env x u) Q E s := by
  obtain ⟨m, hn, hl⟩ := id I.loc
  have hcls : (X.env.scope.kind == .class || (X.env.scope.kind == .module && X.env.locals != X.env.globals)) = false := by rw [I.ok.kind]; rfl
  have hiσ : i < σ.length := by rw [I.len]; exact (List.getElem?_eq_some_iff.mp hi).1
  have cne := I.cne
  have tracked : ∀ {a : Addr} {h' : Heap}, (∃ o, s.heap.get? a = some o ∧ H a = none) → Heap.SameBut a s.heap h' → HOk X.prog X.w H h' := fun {a h'} ha hs b ob e => by
    obtain ⟨_, _, hfree⟩ := ha
    refine (I.hok b ob e).stay (fun c w' hc q => (hs.2 c ?_).trans q) (fun _ q => q) fun _ _ q => q
    rintro rfl
    rcases hc with rfl | hc
    · rw [hfree] at e; cases e
    · rw [hfree] at hc; cases hc
  rcases hx with hk | hk
  · refine wpAny_storeName_local hk hn (fun h' hn' hs => ?_) hcls
    obtain ⟨oL, _, _, hoL, _⟩ := id hn
    refine h _ ⟨I.ok, I.os, I.bare, ⟨fun b o e n hb hx => ?_, fun b o e n hb hx => ?_, I.base.free, fun b o e hx => ?_, I.base.tups, I.base.frzs, I.base.tbls⟩, ⟨_, hn', fun j y v' e1 e2 e3 => ?_⟩, fun y c e => ?_, I.free, I.freeC, fun p hp => ?_, tracked ⟨oL, hoL, I.free⟩ hs, by simpa using I.len⟩ ⟨_, hs, .inl rfl⟩
    · exact (hs.2 b (Nat.ne_of_lt (Nat.lt_of_lt_of_le (Heap.lt_size e) I.ok.above))).trans (I.base.keep b o e n hb hx)
    · obtain ⟨sl, e1⟩ := I.base.slot b o e n hb hx
      exact ⟨sl, (hs.2 b (Nat.ne_of_lt (Nat.lt_of_lt_of_le (Heap.lt_size e) I.ok.above))).trans e1⟩
    · obtain ⟨o', e1⟩ := I.base.there b o e hx
      exact ⟨o', (hs.2 b (Nat.ne_of_lt (Nat.lt_of_lt_of_le (Heap.lt_size e) I.ok.above))).trans e1⟩
    · by_cases hj : j = i
      · subst hj
        rw [hi] at e1; cases e1
        rw [List.getElem?_set_self hiσ] at e2
        cases e2
        exact ⟨u, r, .inl ⟨hk, by simp⟩⟩
      · rw [List.getElem?_set_ne (Ne.symm hj)] at e2
        obtain ⟨u', r', q⟩ := hl j y v' e1 e2 e3
        refine ⟨u', r', ?_⟩
        rcases q with ⟨k, e⟩ | ⟨k, c, e, z⟩
        · refine .inl ⟨k, ?_⟩
          have : y ≠ x := fun e => hj (nodup_ix hN e1 (e ▸ hi))
          simp [this, e]
        · exact .inr ⟨k, c, e, z.sameBut hs (cne y c e)⟩
    · obtain ⟨w', z⟩ := I.cell y c e
      exact ⟨w', z.sameBut hs (cne y c e)⟩
    · obtain ⟨e, n, ne, nf, d⟩ := I.pin p hp
      exact ⟨(hs.2 p.1 ne).trans e, n, ne, nf, d⟩
  · have hfn : X.fn x = true := by
      rcases hf with z | z
      · exact z
      · rw [z] at hk; cases hk
    obtain ⟨c, hc⟩ := I.ok.has x (.inl hk)
    obtain ⟨w', z⟩ := I.cell x c hc
    refine wpAny_storeName_cell I.ok.kind hk hc z (fun h' hc' hs => ?_)
    obtain ⟨oc, hoc, hocd⟩ := id z
    refine h { s with heap := h' } ⟨I.ok, I.os, I.bare, ⟨fun b o e n hb hx => ?_, fun b o e n hb hx => ?_, I.base.free, fun b o e hx => ?_, I.base.tups, I.base.frzs, I.base.tbls⟩, ⟨m, hn.sameBut hs (Ne.symm (cne x c hc)), fun j y v' e1 e2 e3 => ?_⟩, fun y c' e => ?_, I.free, I.freeC, fun p hp => ?_, tracked ⟨oc, hoc, I.freeC x c hc⟩ hs, by simpa using I.len⟩ ⟨c, hs, .inr hc⟩
    · exact (hs.2 b (Nat.ne_of_lt (Nat.lt_of_lt_of_le (Heap.lt_size e) (I.ok.cab x c hfn hc)))).trans (I.base.keep b o e n hb hx)
    · obtain ⟨sl, e1⟩ := I.base.slot b o e n hb hx
      exact ⟨sl, (hs.2 b (Nat.ne_of_lt (Nat.lt_of_lt_of_le (Heap.lt_size e) (I.ok.cab x c hfn hc)))).trans e1⟩
    · obtain ⟨o', e1⟩ := I.base.there b o e hx
      exact ⟨o', (hs.2 b (Nat.ne_of_lt (Nat.lt_of_lt_of_le (Heap.lt_size e) (I.ok.cab x c hfn hc)))).trans e1⟩
    · by_cases hj : j = i
      · subst hj
        rw [hi] at e1; cases e1
        rw [List.getElem?_set_self hiσ] at e2
        cases e2
        exact ⟨u, r, .inr ⟨.inl hk, c, hc, hc'⟩⟩
      · rw [List.getElem?_set_ne (Ne.symm hj)] at e2
        obtain ⟨u', r', q⟩ := hl j y v' e1 e2 e3
        refine ⟨u', r', ?_⟩
        rcases q with q | ⟨k, c', e, z'⟩
        · exact .inl q
        · refine .inr ⟨k, c', e, z'.sameBut hs ?_⟩
          rintro rfl
          exact hj (nodup_ix hN e1 (I.ok.inj _ _ _ e hc ▸ hi))
    · by_cases hcc : c' = c
      · subst hcc; exact ⟨_, hc'⟩
      · obtain ⟨w2, z2⟩ := I.cell y c' e
        exact ⟨w2, z2.sameBut hs hcc⟩
    · obtain ⟨e, n, ne, nf, d⟩ := I.pin p hp
      refine ⟨(hs.2 p.1 ?_).trans e, n, ne, nf, d⟩
      intro q
      rw [q, hoc] at e
      have q' : oc = p.2 := Option.some.inj e
      exact d w' (by rw [← q']; exact hocd)
theorem store_ok {M : Model} {A : Around} {E : Value → Shared → Prop} {i : Nat} {x : Str} {v : V} {u : Value} {Q : Unit → Shared → Prop} (I : Inv X pins σ H s) (hN : X.N.Nodup) (hi : X.N[i]? = some x) (hx : Loc X.env.scope x) (r : RelV v u)
    (h : ∀ s', Inv X pins (σ.set i (some v)) H s' → Q () s') (hf : X.fn x = true ∨ X.env.scope.names.lookup x = some .local := by first | exact .inl rfl | exact .inr rfl | assumption) : wpAny M A (storeName X.env x u) Q E s :=
  store_ok2 I hN hi hx r (fun s' I' _ => h s' I') hf
theorem Inv.call' {s' : Shared} {ch : List Addr} (I : Inv X pins σ H s) (ho : s'.os = s.os) (u : Un (frs X.stack) ch H H' s.heap s'.heap) (hok : HOk X.prog X.w H' s'.heap) (hg : AllBare s'.gens)
    (hch : ∀ b ∈ ch, (b ∈ X.ex ∨ X.s₀.heap.objs.size ≤ b) ∧ b ≠ X.env.locals ∧ (∀ x c, X.env.cells.lookup x = some c → c ≠ b) ∧ ∀ p ∈ X.pn ++ pins, p.1 ≠ b) : Inv X pins σ H' s' := by
  obtain ⟨h', g', d', t', o'⟩ := s'
  have e : o' = s.os := ho
  subst e
  exact I.call (g' := g') (t' := t') (d' := d') u hok hg hch
end
noncomputable abbrev XK := Value → Option Addr → Hp → Prop
noncomputable abbrev St := List (Option V)
noncomputable abbrev VK := V → Hp → Prop
noncomputable abbrev TE := St → Hp → VK → Prop
noncomputable abbrev TT := St → Hp → (Bool → Hp → Prop) → Prop
noncomputable abbrev TA := St → Hp → (List V → Hp → Prop) → Prop
structure Ends where
  nx : St → Hp → Prop
  rt : VK
  bk : St → Hp → Prop := fun _ _ => False
  ct : St → Hp → Prop := fun _ _ => False
noncomputable abbrev TS := Ends → St → Hp → Prop
noncomputable def EP (X : Cx) (pins : List (Addr × Obj)) (σ : St) (Q : VK) (u : Value) (s' : Shared) : Prop := ∃ v H', Inv X pins σ H' s' ∧ RelV v u ∧ Q v H'
noncomputable def TP (X : Cx) (pins : List (Addr × Obj)) (σ : St) (Q : Bool → Hp → Prop) (b : Bool) (s' : Shared) : Prop := ∃ H', Inv X pins σ H' s' ∧ Q b H'
noncomputable def AP (X : Cx) (pins : List (Addr × Obj)) (σ : St) (Q : List V → Hp → Prop) (us : List Value) (s' : Shared) : Prop := ∃ vs H', Inv X pins σ H' s' ∧ Vals vs us ∧ Q vs H'
noncomputable def SP (X : Cx) (pins : List (Addr × Obj)) (D : Ends) (f : Flow) (s' : Shared) : Prop :=
  match f with
  | .next => ∃ σ' H', Inv X pins σ' H' s' ∧ D.nx σ' H'
  | .brk => ∃ σ' H', Inv X pins σ' H' s' ∧ D.bk σ' H'
  | .cont => ∃ σ' H', Inv X pins σ' H' s' ∧ D.ct σ' H'
  | .ret u => ∃ v σ' H', Inv X pins σ' H' s' ∧ RelV v u ∧ D.rt v H'
noncomputable def PE (X : Cx) (e : Expr) (t : TE) : Prop :=
  ∀ (pins : List (Addr × Obj)) (s : Shared) (σ : St) (H : Hp) (Q : VK), Inv X pins σ H s → t σ H Q → wpAny (model X.prog X.w) X.A (eval e X.env) (EP X pins σ Q) X.xe s
noncomputable def PT (X : Cx) (e : Expr) (t : TT) : Prop :=
  ∀ (pins : List (Addr × Obj)) (s : Shared) (σ : St) (H : Hp) (Q : Bool → Hp → Prop), Inv X pins σ H s → t σ H Q → wpAny (model X.prog X.w) X.A (isTrue e X.env (eval e X.env)) (TP X pins σ Q) X.xe s
noncomputable def PW (X : Cx) (e : Expr) (t : TT) : Prop :=
  ∀ (whole : Sem Value) (pins : List (Addr × Obj)) (s : Shared) (σ : St) (H : Hp) (Q : Bool → Hp → Prop), Inv X pins σ H s → t σ H Q → wpAny (model X.prog X.w) X.A (isTrue e X.env whole) (TP X pins σ Q) X.xe s
theorem PW.pt {X : Cx} {e : Expr} {t : TT} (h : PW X e t) : PT X e t := h _
noncomputable def PA (X : Cx) (es : List Expr) (t : TA) : Prop :=
  ∀ (pos : Pos) (pins : List (Addr × Obj)) (s : Shared) (σ : St) (H : Hp) (Q : List V → Hp → Prop), Inv X pins σ H s → t σ H Q → wpAny (model X.prog X.w) X.A (spliced (backTo pos (starEach es X.env))) (AP X pins σ Q) X.xe s
noncomputable def PS (X : Cx) (st : Stmt) (t : TS) : Prop :=
  ∀ (pins : List (Addr × Obj)) (s : Shared) (σ : St) (H : Hp) (D : Ends), Inv X pins σ H s → t D σ H → wpAny (model X.prog X.w) X.A (exec st X.env) (SP X pins D) X.xe s
noncomputable def PSs (X : Cx) (st : List Stmt) (t : TS) : Prop :=
  ∀ (pins : List (Addr × Obj)) (s : Shared) (σ : St) (H : Hp) (D : Ends), Inv X pins σ H s → t D σ H → wpAny (model X.prog X.w) X.A (execs st X.env) (SP X pins D) X.xe s
theorem thn {α : Type} {t : Sem α} {Q Q' : α → Shared → Prop} {M : Model} {A : Around} {E : Value → Shared → Prop} {s : Shared} (h : wpAny M A t Q E s) (hQ : ∀ a s, Q a s → Q' a s) : wpAny M A t Q' E s := wpAny_mono h hQ fun _ _ x => x
end L2
namespace L2
open PySem PySem.Spec PyProof.Rows
section
variable {X : Cx}
noncomputable def tVar (i : Nat) : TE := fun σ H Q => ∃ v, σ[i]? = some (some v) ∧ Q v H
noncomputable def tC (v : V) : TE := fun _ H Q => Q v H
theorem pe_var {i : Nat} {x : Str} {pos : Pos} (hN : X.N[i]? = some x) (hv : Vis X.env.scope x) (hd : (x == ("__debug__" : Str)) = false := by decide) (hcd : (x == ("__classdict__" : Str)) = false := by decide) : PE X (.Name x pos) (tVar i) := by
  intro pins s σ H Q I h
  obtain ⟨v, e, h⟩ := h
  obtain ⟨m, hn, hl⟩ := I.loc
  obtain ⟨u, r, l⟩ := hl i x v hN e hv
  have fin : EP X pins σ Q u s := ⟨v, H, I, r, h⟩
  rcases l with ⟨hk, hm⟩ | ⟨hk, c, hc, hcell⟩
  · exact wpAny_Name (wpAny_loadName_local I.ok.kind hk hn hm fin) hd
  · rcases hk with hk | hk
    · exact wpAny_Name (wpAny_loadName_cell I.ok.kind hk hc hcell fin) hd
    · exact wpAny_Name (wpAny_loadName_free I.ok.kind hk hc hcell fin hcd) hd
theorem pe_int {i j pos} : PE X (.Constant (.int i) j pos) (tC (.int i)) := fun _ _ _ H _ I h => wpAny_Constant_int ⟨.int i, H, I.tok _, ⟨_, rfl⟩, h⟩
theorem pe_bl {b j pos} : PE X (.Constant (.bool b) j pos) (tC (.bl b)) := fun _ _ _ H _ I h => Constant_bool ⟨.bl b, H, I, rfl, h⟩
theorem pe_non {j pos} : PE X (.Constant .none j pos) (tC .non) := fun _ _ _ H _ I h => Constant_none ⟨.non, H, I, rfl, h⟩
noncomputable def Gl (X : Cx) (x : Str) : Prop := X.env.kindOf x = some .globalImplicit
theorem ld_glob {E : Value → Shared → Prop} {pins : List (Addr × Obj)} {s : Shared} {σ : St} {H : Hp} {x : Str} {u : Value} {pos : Pos} {Q : Value → Shared → Prop} (I : Inv X pins σ H s) (hg : Gl X x) (hm : X.mg x = some u) (h : Q u s)
    (hd : (x == ("__debug__" : Str)) = false := by decide) : wpAny (model X.prog X.w) X.A (eval (.Name x pos) X.env) Q E s :=
  Calls.Name_function_global I.ok.kind hg (Calls.loadGlobal_global (by rw [I.ok.glob]; exact I.mod.glob.keeps I.bk) hm h) hd
theorem ld_blt {E : Value → Shared → Prop} {pins : List (Addr × Obj)} {s : Shared} {σ : St} {H : Hp} {x : Str} {u : Value} {pos : Pos} {Q : Value → Shared → Prop} (I : Inv X pins σ H s) (hg : Gl X x) (hm : X.mg x = none) (hv : bootBuiltins x = some u) (h : Q u s)
    (hn : x ≠ "__name__" := by decide) (hd : (x == ("__debug__" : Str)) = false := by decide) : wpAny (model X.prog X.w) X.A (eval (.Name x pos) X.env) Q E s := by
  obtain ⟨mb, h1, h2⟩ := I.mod.blt
  exact Calls.Name_function_global I.ok.kind hg (Calls.loadGlobal_builtin (by rw [I.ok.glob]; exact I.mod.glob.keeps I.bk) hm (by rw [I.ok.blt]; exact h1.keeps I.bk) ((h2 x hn).trans hv) h) hd
theorem pe_glob {x : Str} {v : V} {u : Value} {pos : Pos} (hg : Gl X x) (hm : X.mg x = some u) (r : RelV v u) (hd : (x == ("__debug__" : Str)) = false := by decide) : PE X (.Name x pos) (tC v) :=
  fun _ _ _ H _ I h => ld_glob I hg hm ⟨v, H, I, r, h⟩ hd
theorem pe_bltn {x : Str} {v : V} {u : Value} {pos : Pos} (hg : Gl X x) (hm : X.mg x = none) (hv : bootBuiltins x = some u) (r : RelV v u) (hn : x ≠ "__name__" := by decide) (hd : (x == ("__debug__" : Str)) = false := by decide) : PE X (.Name x pos) (tC v) :=
  fun _ _ _ H _ I h => ld_blt I hg hm hv ⟨v, H, I, r, h⟩ hn hd
variable {a b : Expr} {ta tb : TE} {pos : Pos}
variable {tA tB' : TT} {rest : List Expr}
noncomputable def tAnd (t u : TT) : TT := fun σ H Q => t σ H fun c H1 => if c = true then u σ H1 Q else Q false H1
noncomputable def tOr (t u : TT) : TT := fun σ H Q => t σ H fun c H1 => if c = true then Q true H1 else u σ H1 Q
noncomputable def tNot (t : TT) : TT := fun σ H Q => t σ H fun c H1 => Q (!c) H1
theorem pw_and1 (ha : PT X a tA) : PW X (.BoolOp .And [a] pos) tA := by
  intro wh pins s σ H Q I h
  refine isTrue_and (thn (ha pins s σ H Q I h) fun c s1 e => ?_)
  cases c with
  | true => exact isTrue_and_nil e
  | false => exact e
theorem pw_or1 (ha : PT X a tA) : PW X (.BoolOp .Or [a] pos) tA := by
  intro wh pins s σ H Q I h
  refine isTrue_or (thn (ha pins s σ H Q I h) fun c s1 e => ?_)
  cases c with
  | false => exact isTrue_or_nil e
  | true => exact e
theorem pw_and (ha : PT X a tA) (hb : PW X (.BoolOp .And (b :: rest) pos) tB') : PW X (.BoolOp .And (a :: b :: rest) pos) (tAnd tA tB') := by
  intro wh pins s σ H Q I h
  refine isTrue_and (thn (ha pins s σ H _ I h) fun c s1 ⟨H1, I1, q1⟩ => ?_)
  cases c with
  | true => exact hb wh pins s1 σ H1 Q I1 q1
  | false => exact ⟨H1, I1, q1⟩
theorem pw_or (ha : PT X a tA) (hb : PW X (.BoolOp .Or (b :: rest) pos) tB') : PW X (.BoolOp .Or (a :: b :: rest) pos) (tOr tA tB') := by
  intro wh pins s σ H Q I h
  refine isTrue_or (thn (ha pins s σ H _ I h) fun c s1 ⟨H1, I1, q1⟩ => ?_)
  cases c with
  | true => exact ⟨H1, I1, q1⟩
  | false => exact hb wh pins s1 σ H1 Q I1 q1
theorem pt_not (ha : PT X a tA) : PT X (.UnaryOp .Not a pos) (tNot tA) := by
  intro pins s σ H Q I h
  exact isTrue_not (ha pins s σ H (fun c H1 => Q (!c) H1) I h)
noncomputable def tAndV (ta tb : TE) : TE := fun σ H Q => ta σ H fun x H1 => ∃ c, x = .bl c ∧ if c = true then tb σ H1 Q else Q (.bl false) H1
theorem pe_one {op} {t : TE} (h : PE X a t) : PE X (.BoolOp op [a] pos) t := fun pins s σ H Q I hw => BoolOp_one (h pins s σ H Q I hw)
theorem pe_and (ha : PE X a ta) (hb : PE X (.BoolOp .And (b :: rest) pos) tb) : PE X (.BoolOp .And (a :: b :: rest) pos) (tAndV ta tb) := by
  intro pins s σ H Q I h
  refine BoolOp_and (thn (ha pins s σ H _ I h) fun v s1 ⟨x, H1, I1, r1, q1⟩ => ?_)
  obtain ⟨c, rfl, q1⟩ := q1
  cases r1
  refine wpAny_truthy_bool ?_
  cases c with
  | true => exact hb pins s1 σ H1 Q I1 q1
  | false => exact ⟨.bl false, H1, I1, rfl, q1⟩
noncomputable def tIf (t : TT) (ta tb : TE) : TE := fun σ H Q => t σ H fun c H1 => if c = true then ta σ H1 Q else tb σ H1 Q
theorem pe_ifExp {c : Expr} (hc : PT X c tA) (ha : PE X a ta) (hb : PE X b tb) : PE X (.IfExp c a b pos) (tIf tA ta tb) := by
  intro pins s σ H Q I h
  refine wpAny_IfExp (thn (hc pins s σ H _ I h) fun d s1 ⟨H1, I1, q1⟩ => ?_)
  cases d with
  | true => exact ha pins s1 σ H1 Q I1 q1
  | false => exact hb pins s1 σ H1 Q I1 q1
end
end L2
namespace L2
open PySem PySem.Spec PyProof.Rows
noncomputable def SqL (K : PySem.W.Frag) (H : Hp) (a : Addr) (xs : List V) : Prop :=
  Rd H a (.lst xs) ∨
    ∃ (o : Obj) (its : Array Value) (n : Nat), K.lookup a = some o ∧ o.cls = .type "list" ∧ o.dict = none ∧ o.data = .seq its n ∧ its.size ≤ sizeLine ∧ Vals xs its.toList
noncomputable def SqT (K : PySem.W.Frag) (H : Hp) (a : Addr) (xs : List V) : Prop :=
  Rd H a (.tup xs) ∨
    ∃ (o : Obj) (its : Array Value) (n : Nat), K.lookup a = some o ∧ o.cls = .type "tuple" ∧ o.data = .seq its n ∧ its.size ≤ sizeLine ∧ Vals xs its.toList
noncomputable def absV : Value → Option V
  | .none => some .non
  | .bool b => some (.bl b)
  | .int i _ => some (.int i)
  | .str x _ => some (.str x)
  | .bytes b _ => some (.byt b)
  | .float b _ => some (.flt b)
  | .ref a => some (.ref a)
  | .type n => some (.ty n)
  | _ => none
theorem RelV.abs {x : V} {u : Value} (r : RelV x u) : absV u = some x := by
  cases x with
  | non => cases r; rfl
  | bl _ => cases r; rfl
  | int _ => obtain ⟨t, rfl⟩ := r; rfl
  | str _ => obtain ⟨t, rfl⟩ := r; rfl
  | byt _ => obtain ⟨t, rfl⟩ := r; rfl
  | flt _ => obtain ⟨t, rfl⟩ := r; rfl
  | ref _ => cases r; rfl
  | ty _ => cases r; rfl
theorem RelV.inj {x y : V} {u : Value} (r : RelV x u) (q : RelV y u) : x = y := Option.some.inj (r.abs.symm.trans q.abs)
theorem Vals.inj : ∀ {xs ys : List V} {us : List Value}, Vals xs us → Vals ys us → xs = ys
  | _, _, _, .nil, .nil => rfl
  | _, _, _, .cons r t, .cons r' t' => by rw [r.inj r', Vals.inj t t']
section
variable {X : Cx} {pins : List (Addr × Obj)} {σ : St} {H : Hp} {s : Shared} {a : Addr} {xs ys : List V}
theorem SqL.of {K : PySem.W.Frag} (h : H a = some (.lst xs)) : SqL K H a xs := .inl (.inl h)
theorem SqT.of {K : PySem.W.Frag} (h : H a = some (.tup xs)) : SqT K H a xs := .inl (.inl h)
theorem Inv.list (I : Inv X pins σ H s) (h : SqL X.K H a xs) : ∃ its : List Value, Vals xs its ∧ PlainL s.heap a its.toArray ∧ xs.length ≤ sizeLine := by
  rcases h with h | ⟨o, its, n, hk, hc, hd, hs, hz, r⟩
  · obtain ⟨z, its, n, r, e⟩ := h.ok I.hok
    exact ⟨its, r, ⟨_, n, e, rfl, rfl, rfl⟩, z⟩
  · refine ⟨its.toList, r, ⟨o, n, I.kIn a o hk, hc, hd, by simpa using hs⟩, ?_⟩
    have e := r.length
    simp only [Array.length_toList] at e
    omega
theorem Inv.tuple (I : Inv X pins σ H s) (h : SqT X.K H a xs) : ∃ its : List Value, Vals xs its ∧ IsTup s.heap a its.toArray ∧ xs.length ≤ sizeLine := by
  rcases h with h | ⟨o, its, n, hk, hc, hs, hz, r⟩
  · obtain ⟨z, its, r, p⟩ := h.ok I.hok
    exact ⟨its, r, p, z⟩
  · refine ⟨its.toList, r, ⟨o, I.kIn a o hk, hc, n, by simpa using hs⟩, ?_⟩
    have e := r.length
    simp only [Array.length_toList] at e
    omega
theorem Inv.list_inj (I : Inv X pins σ H s) (h : SqL X.K H a xs) (h' : SqL X.K H a ys) : xs = ys := by
  obtain ⟨its, r, ⟨o, n, e, _, _, d⟩, _⟩ := I.list h
  obtain ⟨its', r', ⟨o', n', e', _, _, d'⟩, _⟩ := I.list h'
  rw [e] at e'; cases e'
  rw [d] at d'
  injection d' with d1 _
  have : its = its' := by simpa using congrArg Array.toList d1
  subst this
  exact r.inj r'
theorem Inv.tuple_inj (I : Inv X pins σ H s) (h : SqT X.K H a xs) (h' : SqT X.K H a ys) : xs = ys := by
  obtain ⟨its, r, ⟨o, e, _, n, d⟩, _⟩ := I.tuple h
  obtain ⟨its', r', ⟨o', e', _, n', d'⟩, _⟩ := I.tuple h'
  rw [e] at e'; cases e'
  rw [d] at d'
  injection d' with d1 _
  have : its = its' := by simpa using congrArg Array.toList d1
  subst this
  exact r.inj r'
end
noncomputable abbrev Cx.wish (X : Cx) (E : Value → Shared → Prop) : Cx := { X with xe := E }
noncomputable abbrev Cx.nox (X : Cx) : Cx := X.wish fun _ _ => False
theorem Cx.Ok.wish {X : Cx} (ok : X.Ok) (E : Value → Shared → Prop) : (X.wish E).Ok :=
  ⟨ok.mod, ok.kind, ok.glob, ok.blt, ok.above, ok.inj, ok.has, ok.cab, ok.hd, ok.frames, ok.stk, ok.exf, ok.bs, ok.bsz, ok.noex, ok.exfs, ok.funs, ok.frf⟩
theorem Cx.Ok.unwish {X : Cx} {E : Value → Shared → Prop} (ok : (X.wish E).Ok) : X.Ok :=
  ⟨ok.mod, ok.kind, ok.glob, ok.blt, ok.above, ok.inj, ok.has, ok.cab, ok.hd, ok.frames, ok.stk, ok.exf, ok.bs, ok.bsz, ok.noex, ok.exfs, ok.funs, ok.frf⟩
section
variable {X : Cx} {pins : List (Addr × Obj)} {σ : St} {H : Hp} {s : Shared} {E : Value → Shared → Prop}
theorem Inv.wish (I : Inv X pins σ H s) (E : Value → Shared → Prop) : Inv (X.wish E) pins σ H s := ⟨I.ok.wish E, I.os, I.bare, I.base, I.loc, I.cell, I.free, I.freeC, I.pin, I.hok, I.len⟩
theorem Inv.unwish (I : Inv (X.wish E) pins σ H s) : Inv X pins σ H s := ⟨I.ok.unwish, I.os, I.bare, I.base, I.loc, I.cell, I.free, I.freeC, I.pin, I.hok, I.len⟩
theorem SP.unwish {D : Ends} {f : Flow} {s' : Shared} (h : SP (X.wish E) pins D f s') : SP X pins D f s' := by
  cases f with
  | next => obtain ⟨σ', H', I, q⟩ := h; exact ⟨σ', H', I.unwish, q⟩
  | brk => obtain ⟨σ', H', I, q⟩ := h; exact ⟨σ', H', I.unwish, q⟩
  | cont => obtain ⟨σ', H', I, q⟩ := h; exact ⟨σ', H', I.unwish, q⟩
  | ret u => obtain ⟨v, σ', H', I, r, q⟩ := h; exact ⟨v, σ', H', I.unwish, r, q⟩
theorem PSs.nox {st : List Stmt} {t : TS} (h : PSs X.nox st t) : PSs X st t := fun pins s σ H D I hw =>
  wpAny_mono (h pins s σ H D (I.wish _) hw) (fun _ _ q => q.unwish) fun _ _ z => False.elim z
end
section
variable {X : Cx} {st : Stmt} {rest : List Stmt} {t u : TS} {e : Expr} {te : TE} {pos : Pos}
noncomputable def tNext : TS := fun D σ H => D.nx σ H
noncomputable def tSeq (t u : TS) : TS := fun D σ H => t { D with nx := u D } σ H
theorem pss_nil : PSs X [] tNext := fun _ _ σ H _ I h => wpAny_execs_nil ⟨σ, H, I, h⟩
theorem pss_cons (h1 : PS X st t) (h2 : PSs X rest u) : PSs X (st :: rest) (tSeq t u) := by
  intro pins s σ H D I h
  refine wpAny_execs_cons (thn (h1 pins s σ H { D with nx := u D } I h) fun f s1 q => ?_)
  cases f with
  | next =>
    obtain ⟨σ', H', I', q⟩ := q
    exact h2 pins s1 σ' H' D I' q
  | ret v => exact q
  | brk => exact q
  | cont => exact q
theorem pss_one (h1 : PS X st t) : PSs X [st] t := by
  intro pins s σ H D I h
  refine wpAny_execs_cons (thn (h1 pins s σ H D I h) fun f s1 q => ?_)
  cases f with
  | next => exact wpAny_execs_nil q
  | ret v => exact q
  | brk => exact q
  | cont => exact q
noncomputable def tCont : TS := fun D σ H => D.ct σ H
theorem ps_continue : PS X (.Continue pos) tCont := fun _ _ σ H _ I h => wpAny_Continue ⟨σ, H, I, h⟩
theorem Inv.quiet {pins : List (Addr × Obj)} {σ : St} {H : Hp} {s : Shared} (I : Inv X pins σ H s) : interactive X.env = false := by simp [interactive, I.ok.kind]
noncomputable def tDrop (te : TE) : TS := fun D σ H => te σ H fun _ H1 => D.nx σ H1
theorem ps_expr (he : PE X e te) (hs : swapsWith e none pos.line X.env = pure false := by rfl) : PS X (.Expr e pos) (tDrop te) := by
  intro pins s σ H D I h
  exact wpAny_Expr_any (thn (he pins s σ H _ I h) fun v s1 ⟨x, H1, I1, r1, q1⟩ => ⟨σ, H1, I1, q1⟩) I.quiet hs
noncomputable def tRet (te : TE) : TS := fun D σ H => te σ H D.rt
theorem ps_ret (he : PE X e te) : PS X (.Return (some e) pos) (tRet te) := by
  intro pins s σ H D I h
  exact wpAny_Return_some (thn (he pins s σ H _ I h) fun v s1 ⟨x, H1, I1, r1, q1⟩ => ⟨x, σ, H1, I1, r1, q1⟩)
noncomputable def tIfS (c : TT) (t u : TS) : TS := fun D σ H => c σ H fun b H1 => if b = true then t D σ H1 else u D σ H1
theorem ps_if {c : Expr} {a b : List Stmt} {tc : TT} (hc : PT X c tc) (ha : PSs X a t) (hb : PSs X b u) : PS X (.If c a b pos) (tIfS tc t u) := by
  intro pins s σ H D I h
  refine wpAny_If (thn (hc pins s σ H _ I h) fun d s1 ⟨H1, I1, q1⟩ => ?_)
  cases d with
  | true => exact ha pins s1 σ H1 D I1 q1
  | false => exact hb pins s1 σ H1 D I1 q1
noncomputable def tNever : TS := fun _ _ _ => False
theorem pss_never {sts : List Stmt} : PSs X sts tNever := fun _ _ _ _ _ _ h => h.elim
end
noncomputable abbrev TG := V → St → Hp → (St → Hp → Prop) → Prop
noncomputable abbrev TGs := List V → St → Hp → (St → Hp → Prop) → Prop
noncomputable def PG (X : Cx) (target : Expr) (t : TG) : Prop :=
  ∀ (pins : List (Addr × Obj)) (s : Shared) (σ : St) (H : Hp) (v : V) (u : Value) (Q : St → Hp → Prop), Inv X pins σ H s → RelV v u → t v σ H Q →
    wpAny (model X.prog X.w) X.A (assign target X.env u) (fun _ s' => ∃ σ' H', Inv X pins σ' H' s' ∧ Q σ' H') X.xe s
noncomputable def PGs (X : Cx) (ts : List Expr) (t : TGs) : Prop :=
  ∀ (pins : List (Addr × Obj)) (s : Shared) (σ : St) (H : Hp) (vs : List V) (us : List Value) (Q : St → Hp → Prop), Inv X pins σ H s → Vals vs us → t vs σ H Q →
    wpAny (model X.prog X.w) X.A (assignInOrder ((assignEach ts X.env).map (·.2)) us) (fun _ s' => ∃ σ' H', Inv X pins σ' H' s' ∧ Q σ' H') X.xe s
noncomputable abbrev TSet := V → V → V → Hp → (Hp → Prop) → Prop
noncomputable def PSet (X : Cx) (t : TSet) : Prop :=
  ∀ (pins : List (Addr × Obj)) (s : Shared) (σ : St) (H : Hp) (o i v : V) (ov iv u : Value) (Q : Hp → Prop), Inv X pins σ H s → RelV o ov → RelV i iv → RelV v u → t o i v H Q →
    wpAny (model X.prog X.w) X.A (setItem ov iv u) (fun _ s' => ∃ H', Inv X pins σ H' s' ∧ Q H') X.xe s
section
variable {X : Cx} {pos : Pos}
noncomputable def gName (i : Nat) : TG := fun v σ H Q => Q (σ.set i (some v)) H
theorem pg_name {i : Nat} {x : Str} (hN : X.N.Nodup) (hi : X.N[i]? = some x) (hx : Loc X.env.scope x) (hf : X.fn x = true ∨ X.env.scope.names.lookup x = some .local := by first | exact .inl rfl | exact .inr rfl | assumption) : PG X (.Name x pos) (gName i) := by
  intro pins s σ H v u Q I r h
  exact wpAny_assign_Name (store_ok I hN hi hx r (fun s' I' => ⟨_, H, I', h⟩) hf)
noncomputable def gNil : TGs := fun vs σ H Q => vs = [] ∧ Q σ H
noncomputable def gCons (t : TG) (u : TGs) : TGs := fun vs σ H Q => ∃ v r, vs = v :: r ∧ t v σ H fun σ' H' => u r σ' H' Q
theorem pgs_nil : PGs X [] gNil := by
  intro pins s σ H vs us Q I r h
  obtain ⟨e, h⟩ := h
  subst e
  cases r
  exact assignInOrder_nil ⟨σ, H, I, h⟩
theorem pgs_cons {e : Expr} {es : List Expr} {t : TG} {u : TGs} (h1 : PG X e t) (h2 : PGs X es u)
    (hs : (assignEach (e :: es) X.env).map (·.2) = assign e X.env :: (assignEach es X.env).map (·.2) := by rfl) : PGs X (e :: es) (gCons t u) := by
  intro pins s σ H vs us Q I r h
  obtain ⟨v, vr, e1, h⟩ := h
  subst e1
  cases r with
  | cons r rr =>
    rw [hs]
    refine assignInOrder_cons (thn (h1 pins s σ H _ _ _ I r h) fun _ s1 ⟨σ1, H1, I1, q1⟩ => ?_)
    exact h2 pins s1 σ1 H1 _ _ Q I1 rr q1
noncomputable def gTup (K : PySem.W.Frag) (n : Nat) (t : TGs) : TG := fun v σ H Q => ∃ a xs, v = .ref a ∧ SqT K H a xs ∧ xs.length = n ∧ t xs σ H Q
theorem pg_tup {es : List Expr} {k : Nat} {t : TGs} {n : Nat} (hc : X.calm = true) (h : PGs X es t)
    (hn : (assignEach es X.env).length = n := by rfl) (hst : (assignEach es X.env).findIdx? (·.1) = none := by rfl) : PG X (.Tuple es k pos) (gTup X.K n t) := by
  intro pins s σ H v u Q I r hw
  obtain ⟨a, xs, e1, hq, hl, hw⟩ := hw
  subst e1
  cases r
  obtain ⟨its, rv, ht, hz⟩ := I.tuple hq
  refine assign_Tuple_tuple (I.ok.hd hc) ht (by simp [hn, ← hl, rv.length]) hst fun h' hx => ?_
  have I1 : Inv X pins σ H { s with heap := h' } := I.kept (t' := s.toks) fun b o e => hx b o (Nat.ne_of_lt (Heap.lt_size e)) e
  exact h pins _ σ H xs _ Q I1 (by simpa using rv) hw
noncomputable def gSub (to ti : TE) (t : TSet) : TG := fun v σ H Q => to σ H fun o H1 => ti σ H1 fun i H2 => t o i v H2 fun H3 => Q σ H3
theorem pg_sub {o i : Expr} {to ti : TE} {t : TSet} (ho : PE X o to) (hi : PE X i ti) (hs : PSet X t)
    (ha : ∀ v, assign (.Subscript o i pos) X.env v = (do
      let ov ← holding [v] (eval o X.env)
      let iv ← holding [v, ov] (eval i X.env)
      standAt pos
      holding [v, ov, iv] (setItem ov iv v)
      release [v, ov, iv] []) := by intro _; rfl) : PG X (.Subscript o i pos) (gSub to ti t) := by
  intro pins s σ H v u Q I r h
  rw [ha]
  refine wpAny_bind (wpAny_holding (thn (ho pins s σ H _ I h) fun ov s1 ⟨x, H1, I1, r1, q1⟩ => ?_))
  refine wpAny_bind (wpAny_holding (thn (hi pins s1 σ H1 _ I1 q1) fun iv s2 ⟨y, H2, I2, r2, q2⟩ => ?_))
  refine wpAny_bind (wpAny_standAt (wpAny_bind (wpAny_holding (thn (hs pins s2 σ H2 x y v ov iv u _ I2 r1 r2 r q2) fun _ s3 ⟨H3, I3, q3⟩ => ?_))))
  exact wpAny_release ⟨σ, H3, I3, q3⟩
noncomputable def tAsg (te : TE) (g : TG) : TS := fun D σ H => te σ H fun x H1 => g x σ H1 D.nx
theorem ps_asg {tg e : Expr} {te : TE} {g : TG} (he : PE X e te) (hg : PG X tg g) (hs : swapsWithSole [tg] e pos.line X.env = pure false := by rfl) (hw : swappedStores [tg] e X.env = pure none := by rfl)
    (h1 : (assignEach [tg] X.env).map (·.2) = [assign tg X.env] := by rfl) : PS X (.Assign [tg] e pos) (tAsg te g) := by
  intro pins s σ H D I h
  refine wpAny_Assign_stores (thn (he pins s σ H _ I h) fun v s1 ⟨x, H1, I1, r1, q1⟩ => ?_) hs hw
  rw [h1]
  exact thn (hg pins s1 σ H1 x v _ I1 r1 q1) fun _ s2 q => q
theorem ps_set {i : Nat} {x : Str} {e : Expr} {te : TE} {pos' : Pos} (hN : X.N.Nodup) (hi : X.N[i]? = some x) (hx : Loc X.env.scope x) (he : PE X e te) (hs : swapsWith e (some (.Name x pos')) pos.line X.env = pure false := by rfl) (hf : X.fn x = true ∨ X.env.scope.names.lookup x = some .local := by first | exact .inl rfl | exact .inr rfl | assumption) :
    PS X (.Assign [.Name x pos'] e pos) (tAsg te (gName i)) := by
  intro pins s σ H D I h
  refine wpAny_Assign_Name (thn (he pins s σ H _ I h) fun v s1 ⟨y, H1, I1, r1, q1⟩ => ?_) hs
  exact store_ok I1 hN hi hx r1 (fun s2 I2 => ⟨_, H1, I2, q1⟩) hf
end
structure It where
  go : Nat → Hp → Prop
  yld : Nat → Hp → V → Hp → Prop
  stop : Nat → Hp → Prop
noncomputable def FpOk (X : Cx) (pins : List (Addr × Obj)) (H : Hp) (b : Addr) : Prop :=
  H b = none ∧ b ≠ X.env.locals ∧ b ∉ X.fs ∧ (b ∈ X.ex ∨ X.s₀.heap.objs.size ≤ b) ∧ (∀ x c, X.env.cells.lookup x = some c → c ≠ b) ∧ ∀ p ∈ X.pn ++ pins, p.1 ≠ b
theorem Inv.fpOk {X : Cx} {pins : List (Addr × Obj)} {σ : St} {H H' : Hp} {s : Shared} {b : Addr} (I : Inv X pins σ H s) (hb : s.heap.objs.size ≤ b) (hn : H' b = none) : FpOk X pins H' b := by
  refine ⟨hn, Nat.ne_of_gt (Nat.lt_of_lt_of_le I.lt hb), I.nofs hb, .inr (Nat.le_trans I.sz hb), fun x c e z => ?_, fun p hp z => ?_⟩
  · obtain ⟨v, q⟩ := I.cell x c e
    exact absurd (Nat.lt_of_lt_of_le q.lt (by rw [z]; exact hb)) (Nat.lt_irrefl _)
  · exact absurd (Nat.lt_of_lt_of_le (Heap.lt_size (I.pin p hp).1) (by rw [z]; exact hb)) (Nat.lt_irrefl _)
structure Turn (P : Program) (w : World) (K : PySem.W.Frag) (tg : Expr) (J : It) (fp : List Addr) (it : Addr) (tn : Nat → Heap → Prop) : Prop where
  mem : it ∈ fp
  obj : ∀ i h, tn i h → ∀ b ∈ fp, ∃ o, h.get? b = some o ∧ ∀ v, o.data ≠ .cell v
  keep : ∀ i h h', tn i h → (∀ b ∈ fp, ∀ o, h.get? b = some o → h'.get? b = some o) → tn i h'
  item : ∀ (X : Cx), X.prog = P → X.w = w → X.K = K → X.calm = true → ∀ (i : Nat) (pins : List (Addr × Obj)) (s : Shared) (σ : St) (H : Hp) (E : Value → Shared → Prop), Inv X pins σ H s → (∀ b ∈ fp, FpOk X pins H b) → tn i s.heap → J.go i H →
    wpAny (model P w) X.A (pyNext (.ref it)) (fun r s1 => ∃ u, r = some u ∧
      wpAny (model P w) X.A (letOwnedTupleGo tg (.ref it) u) (fun _ s2 => ∃ x H', Inv X pins σ H' s2 ∧ RelV x u ∧ J.yld i H x H' ∧ tn (i + 1) s2.heap ∧ ∀ b ∈ fp, H' b = none) E s1) E s
  done : ∀ (X : Cx), X.prog = P → X.w = w → X.K = K → X.calm = true → ∀ (i : Nat) (pins : List (Addr × Obj)) (s : Shared) (σ : St) (H : Hp) (E : Value → Shared → Prop), Inv X pins σ H s → (∀ b ∈ fp, FpOk X pins H b) → tn i s.heap → J.stop i H →
    wpAny (model P w) X.A (pyNext (.ref it)) (fun r s1 => r = none ∧ Inv X pins σ H s1) E s
  self : ∀ (A : Around) (i : Nat) (s : Shared) (Q : Value → Shared → Prop) (E : Value → Shared → Prop), tn i s.heap → Q (.ref it) s → wpAny (model P w) A (pyIter (.ref it)) Q E s
noncomputable abbrev TI := St → Hp → (It → Hp → Prop) → Prop
noncomputable def PIE (X : Cx) (pins : List (Addr × Obj)) (σ : St) (tg : Expr) (R : It → Hp → Prop) (itv : Value) (s2 : Shared) : Prop :=
  ∃ (it : Addr) (fp : List Addr) (tn : Nat → Heap → Prop) (J : It) (H' : Hp), itv = .ref it ∧ Inv X pins σ H' s2 ∧ Turn X.prog X.w X.K tg J fp it tn ∧ tn 0 s2.heap ∧ (∀ b ∈ fp, FpOk X pins H' b) ∧ R J H'
noncomputable def PI (X : Cx) (tg iter : Expr) (wi : TI) : Prop :=
  ∀ (pins : List (Addr × Obj)) (s : Shared) (σ : St) (H : Hp) (R : It → Hp → Prop), Inv X pins σ H s → wi σ H R →
    wpAny (model X.prog X.w) X.A (eval iter X.env) (fun v s1 => wpAny (model X.prog X.w) X.A (pyIter v) (PIE X pins σ tg R) X.xe s1) X.xe s
theorem go_of {M : Model} {A : Around} {E : Value → Shared → Prop} {s : Shared} {tg : Expr} {it : Addr} {u : Value} {o : Obj} {n : String} {vs : Array Value} {Q : Unit → Shared → Prop} (ho : s.heap.get? it = some o) (hc : o.cls = .type n) (hd : o.data = .fields vs)
    (hn : ["enumerate", "zip", "dict_itemiterator", "dict_reverseitemiterator", "odict_iterator", "itertools.zip_longest", "itertools.pairwise"].contains n = false) (hQ : Q () s) : wpAny M A (letOwnedTupleGo tg (.ref it) u) Q E s := by
  unfold letOwnedTupleGo
  cases tg <;> first
    | exact wpAny_pure hQ
    | (cases u <;> first
        | exact wpAny_pure hQ
        | (refine wpAny_bind (wpAny_load ho ?_)
           rw [hc, hd]
           show wpAny M A (if (["enumerate", "zip", "dict_itemiterator", "dict_reverseitemiterator", "odict_iterator", "itertools.zip_longest", "itertools.pairwise"].contains n && vs[0]? == some (rawInt _)) = true then _ else _) Q E s
           rw [if_neg (by intro h; rw [hn, Bool.false_and] at h; cases h)]
           exact wpAny_pure hQ))
noncomputable def Itl (K : PySem.W.Frag) (a : Addr) : It :=
  ⟨fun i H => ∃ xs x, SqL K H a xs ∧ xs[i]? = some x, fun i H x H' => H' = H ∧ ∀ xs, SqL K H a xs → xs[i]? = some x, fun i H => ∃ xs, SqL K H a xs ∧ xs.length ≤ i⟩
noncomputable def Itt (K : PySem.W.Frag) (a : Addr) : It :=
  ⟨fun i H => ∃ xs x, SqT K H a xs ∧ xs[i]? = some x, fun i H x H' => H' = H ∧ ∀ xs, SqT K H a xs → xs[i]? = some x, fun i H => ∃ xs, SqT K H a xs ∧ xs.length ≤ i⟩
noncomputable def Itr (lo : Int) (n : Nat) : It := ⟨fun i _ => i < n, fun i H x H' => H' = H ∧ x = .int (lo + i), fun i _ => n ≤ i⟩
theorem turn_list {P : Program} {w : World} {K : PySem.W.Frag} {tg : Expr} (a it : Addr) : Turn P w K tg (Itl K a) [it] it (fun i h => h.IsListIter it a i) where
  mem := by simp
  obj := fun i h st b hb => by
    have e : b = it := by simpa using hb
    subst e
    obtain ⟨o, e, c, d⟩ := st
    exact ⟨o, e, fun v z => by rw [d] at z; cases z⟩
  keep := fun i h h' st k => st.at fun o e => k it (by simp) o e
  item := by
    intro X hP hw hK hc i pins s σ H E I hf st hg
    subst hP hw hK
    obtain ⟨xs, x, hq, hx⟩ := hg
    obtain ⟨its, rv, p, hz⟩ := I.list hq
    obtain ⟨u, hu, ru⟩ := rv.get hx
    obtain ⟨f0, f1, f2, f3, f4, f5⟩ := hf it (by simp)
    refine wpAny_pyNext_list_item st p.isList (x := u) (by simpa using hu) fun h' st' sb => ?_
    have I1 : Inv X pins σ H { s with heap := h' } := I.turned (t' := s.toks) (fun b o hb e => (sb.2 b hb).trans e) f0 f1 f3 f4 f5
    obtain ⟨o, e, c, d⟩ := id st'
    exact ⟨u, rfl, go_of (s := { s with heap := h' }) e c d (by decide) ⟨x, H, I1, ru, ⟨rfl, fun ys hy => by rw [I.list_inj hy hq]; exact hx⟩, st', fun b hb => (hf b hb).1⟩⟩
  done := by
    intro X hP hw hK hc i pins s σ H E I hf st hg
    subst hP hw hK
    obtain ⟨xs, hq, hx⟩ := hg
    obtain ⟨its, rv, p, hz⟩ := I.list hq
    obtain ⟨f0, f1, f2, f3, f4, f5⟩ := hf it (by simp)
    have hl := rv.length
    exact wpAny_pyNext_list_end (I.ok.hd hc) st p.isList (by simp; omega) fun h' eb => ⟨rfl, I.turned (t' := s.toks) (fun b o hb e => eb b o hb e) f0 f1 f3 f4 f5⟩
  self := fun _ _ _ _ _ st h => wpAny_pyIter_listiter st h
theorem turn_tuple {P : Program} {w : World} {K : PySem.W.Frag} {tg : Expr} (a it : Addr) : Turn P w K tg (Itt K a) [it] it (fun i h => h.IsTupleIter it a i) where
  mem := by simp
  obj := fun i h st b hb => by
    have e : b = it := by simpa using hb
    subst e
    obtain ⟨o, e, c, d⟩ := st
    exact ⟨o, e, fun v z => by rw [d] at z; cases z⟩
  keep := fun i h h' st k => st.at fun o e => k it (by simp) o e
  item := by
    intro X hP hw hK hc i pins s σ H E I hf st hg
    subst hP hw hK
    obtain ⟨xs, x, hq, hx⟩ := hg
    obtain ⟨its, rv, p, hz⟩ := I.tuple hq
    obtain ⟨u, hu, ru⟩ := rv.get hx
    obtain ⟨f0, f1, f2, f3, f4, f5⟩ := hf it (by simp)
    refine wpAny_pyNext_tuple_item st (show s.heap.IsTuple a its.toArray from p) (x := u) (by simpa using hu) fun h' st' sb => ?_
    have I1 : Inv X pins σ H { s with heap := h' } := I.turned (t' := s.toks) (fun b o hb e => (sb.2 b hb).trans e) f0 f1 f3 f4 f5
    obtain ⟨o, e, c, d⟩ := id st'
    exact ⟨u, rfl, go_of (s := { s with heap := h' }) e c d (by decide) ⟨x, H, I1, ru, ⟨rfl, fun ys hy => by rw [I.tuple_inj hy hq]; exact hx⟩, st', fun b hb => (hf b hb).1⟩⟩
  done := by
    intro X hP hw hK hc i pins s σ H E I hf st hg
    subst hP hw hK
    obtain ⟨xs, hq, hx⟩ := hg
    obtain ⟨its, rv, p, hz⟩ := I.tuple hq
    obtain ⟨f0, f1, f2, f3, f4, f5⟩ := hf it (by simp)
    have hl := rv.length
    exact wpAny_pyNext_tuple_end (I.ok.hd hc) st (show s.heap.IsTuple a its.toArray from p) (by simp; omega) fun h' eb => ⟨rfl, I.turned (t' := s.toks) (fun b o hb e => eb b o hb e) f0 f1 f3 f4 f5⟩
  self := fun _ _ _ _ _ st h => wpAny_pyIter_tupleiter st h
theorem turn_range {P : Program} {w : World} {K : PySem.W.Frag} {tg : Expr} (it : Addr) (lo : Int) (n : Nat) : Turn P w K tg (Itr lo n) [it] it (fun i h => IsRangeIter h it (lo + (i : Nat) * 1) ((n : Int) - (i : Nat)) 1) where
  mem := by simp
  obj := fun i h st b hb => by
    have e : b = it := by simpa using hb
    subst e
    exact ⟨_, st, fun v z => by
      have z' : Data.fields _ = Data.cell v := z
      cases z'⟩
  keep := fun i h h' st k => k it (by simp) _ st
  item := by
    intro X hP hw hK hc i pins s σ H E I hf st hg
    subst hP hw hK
    obtain ⟨f0, f1, f2, f3, f4, f5⟩ := hf it (by simp)
    have W := Walks.range (prog := X.prog) (w := X.w) (I.ok.hd hc) it lo 1 n
    refine W.item i s _ _ hg st fun v h' tk hv st' kk => ?_
    obtain ⟨t, rfl⟩ := hv
    have I1 : Inv X pins σ H { s with heap := h', toks := tk } := I.turned (fun b o hb e => kk b o (by simpa using hb) e) f0 f1 f3 f4 f5
    refine ⟨_, rfl, go_of (s := { s with heap := h', toks := tk }) (n := "range_iterator") st' rfl rfl (by decide) ⟨.int (lo + i), H, I1, ⟨t, ?_⟩, ⟨rfl, rfl⟩, st', fun b hb => (hf b hb).1⟩⟩
    rw [Int.mul_one]
  done := by
    intro X hP hw hK hc i pins s σ H E I hf st hg
    subst hP hw hK
    obtain ⟨f0, f1, f2, f3, f4, f5⟩ := hf it (by simp)
    exact wpAny_pyNext_range_end (I.ok.hd hc) st (by have : n ≤ i := hg; omega) fun h' eb => ⟨rfl, I.turned (t' := s.toks) (fun b o hb e => eb b o hb e) f0 f1 f3 f4 f5⟩
  self := fun _ _ _ _ _ st h => wpAny_pyIter_rangeiter st h
end L2
namespace L2
open PySem PySem.Spec PyProof.Rows
section
variable {X : Cx} {tg : Expr}
theorem range_it {pins : List (Addr × Obj)} {σ : St} {H : Hp} {s : Shared} {R : It → Hp → Prop} {E : Value → Shared → Prop} {lo hi : Int} {t u v : Tok} {tk : Nat} (I : Inv X pins σ H s) (h1 : -(2 ^ 62) ≤ lo) (h2 : lo < 2 ^ 62) (h3 : -(2 ^ 62) ≤ hi) (h4 : hi < 2 ^ 62)
    (q : R (Itr lo (hi - lo).toNat) H) : wpAny (model X.prog X.w) X.A (pyIter (.ref s.heap.objs.size)) (PIE X pins σ tg R) E { s with heap := s.heap.push { cls := .type "range", data := .fields #[.int lo t, .int hi u, .int 1 v] }, toks := tk } := by
  refine wpAny_pyIter_range (IsRange.new ..) (small_one h1 h2 h3 h4) ?_
  have I1 : Inv X pins σ H { s with heap := s.heap.push { cls := .type "range", data := .fields #[.int lo t, .int hi u, .int 1 v] }, toks := tk } := I.kept fun b o e => Heap.get?_push_of_some _ e
  refine ⟨(s.heap.push { cls := .type "range", data := .fields #[.int lo t, .int hi u, .int 1 v] }).objs.size, [(s.heap.push { cls := .type "range", data := .fields #[.int lo t, .int hi u, .int 1 v] }).objs.size], _, _, H, rfl,
    I1.kept (t' := tk) fun b o e => Heap.get?_push_of_some _ e, turn_range _ lo (hi - lo).toNat, ?_, fun b hb => ?_, q⟩
  · have e1 : lo + ((0 : Nat) : Int) * 1 = lo := by simp
    have e2 : (((hi - lo).toNat : Nat) : Int) - ((0 : Nat) : Int) = Builtin.Range.rangeSize lo hi 1 := by rw [rangeSize_one]; split <;> omega
    show IsRangeIter _ _ (lo + ((0 : Nat) : Int) * 1) ((((hi - lo).toNat : Nat) : Int) - ((0 : Nat) : Int)) 1
    rw [e1, e2]
    exact Heap.get?_push_size _ rfl
  · have e : b = (s.heap.push { cls := .type "range", data := .fields #[.int lo t, .int hi u, .int 1 v] }).objs.size := by simpa using hb
    subst e
    exact I1.fpOk (Nat.le_refl _) (I1.hok.fresh (Nat.le_refl _))
noncomputable def iRng1 (ta : TA) : TI := fun σ H R => ta σ H fun vs H1 => ∃ j : Int, vs = [.int j] ∧ -(2 ^ 62) ≤ j ∧ j < 2 ^ 62 ∧ R (Itr 0 j.toNat) H1
theorem pi_range1 {a : Expr} {ta : TA} {p pos : Pos} (hg : Gl X "range") (hm : X.mg "range" = none) (ha : PA X [a] ta) (hs : starEach [a] X.env = [(false, eval a X.env)] := by rfl) : PI X tg (.Call (.Name "range" p) [a] [] pos) (iRng1 ta) := by
  intro pins s σ H R I h
  refine Call_ (ld_blt I hg hm boot_range (PyProof.Rows.callWith_type1 (thn (ha pos pins s σ H _ I h) fun us s1 ⟨vs, H1, I1, r1, q1⟩ => ?_) hs rfl))
  obtain ⟨j, e, q1, q2, q⟩ := q1
  subst e
  cases r1 with
  | cons r rr =>
    cases rr
    obtain ⟨t, rfl⟩ := r
    exact call_range_1 (range_it I1 (by omega) (by omega) q1 q2 (by simpa using q))
noncomputable def tFor (wi : TI) (g : TG) (tb : TS) : TS := fun D σ H => wi σ H fun J H1 => ∃ W : Nat → Nat → St → Hp → Prop, (∃ m, W 0 m σ H1) ∧ ∀ i m σ H, W i m σ H →
  (J.stop i H ∧ D.nx σ H) ∨ (J.go i H ∧ ∃ N : St → Hp → Prop, (∀ σ' H', N σ' H' → ∃ m', m' < m ∧ W (i + 1) m' σ' H') ∧ ∀ x H', J.yld i H x H' → g x σ H' fun σ2 H2 => tb { D with nx := N, ct := N, bk := D.nx } σ2 H2)
noncomputable def pinsAt (fp : List Addr) (h : Heap) : List (Addr × Obj) := fp.filterMap fun b => (h.get? b).map fun o => (b, o)
theorem mem_pinsAt {fp : List Addr} {h : Heap} {b : Addr} {o : Obj} (hb : b ∈ fp) (e : h.get? b = some o) : (b, o) ∈ pinsAt fp h := List.mem_filterMap.mpr ⟨b, hb, by rw [e]; rfl⟩
theorem of_pinsAt {fp : List Addr} {h : Heap} {p : Addr × Obj} (hp : p ∈ pinsAt fp h) : p.1 ∈ fp ∧ h.get? p.1 = some p.2 := by
  obtain ⟨b, hb, e⟩ := List.mem_filterMap.mp hp
  cases q : h.get? b with
  | none => rw [q] at e; cases e
  | some o =>
    rw [q] at e
    have e' : (b, o) = p := Option.some.inj e
    subst e'
    exact ⟨hb, q⟩
theorem Inv.pinned {pins : List (Addr × Obj)} {σ : St} {H : Hp} {s : Shared} {fp : List Addr} (I : Inv X pins σ H s) (hf : ∀ b ∈ fp, FpOk X pins H b) (ho : ∀ b ∈ fp, ∃ o, s.heap.get? b = some o ∧ ∀ v, o.data ≠ .cell v) : Inv X (pins ++ pinsAt fp s.heap) σ H s :=
  I.pins_of fun p hp => (List.mem_append.mp hp).elim (fun z => I.pin p (List.mem_append_right _ z)) fun z => by
    obtain ⟨hb, e⟩ := of_pinsAt z
    obtain ⟨f0, f1, f2, _⟩ := hf p.1 hb
    obtain ⟨o, e', d⟩ := ho p.1 hb
    rw [e] at e'; cases e'
    exact ⟨e, f0, f1, f2, d⟩
theorem Inv.unpinned {pins pl : List (Addr × Obj)} {σ : St} {H : Hp} {s : Shared} (I : Inv X (pins ++ pl) σ H s) : Inv X pins σ H s := I.pins_of fun p hp => I.pin p (List.mem_append_right _ (List.mem_append_left _ hp))
theorem ps_for {iter : Expr} {body : List Stmt} {wi : TI} {g : TG} {tb : TS} {pos : Pos} (hp : PassesOwn (model X.prog X.w) X.A X.env X.xe) (hc : X.calm = true) (hi : PI X tg iter wi) (hg : PG X tg g) (hb : PSs X body tb)
    (hs : ∀ x, foldedSetIterable iter X.env x = pure x := by intro _; rfl) : PS X (.For tg iter body [] pos) (tFor wi g tb) := by
  intro pins s σ H D I h
  refine wpAny_For (thn (hi pins s σ H _ I h) fun v s1 h1 => thn h1 fun itv s2 h2 => ?_) hs
  obtain ⟨it, fp, tn, J, H2, e, I2, T, st2, f2, W, ⟨m0, w0⟩, turn⟩ := h2
  subst e
  have stat : ∀ {H' : Hp}, (∀ b ∈ fp, H' b = none) → ∀ b ∈ fp, FpOk X pins H' b := fun hn b hb => ⟨hn b hb, (f2 b hb).2⟩
  refine codeAny_forLoop_any (fun n s' => ∃ i σ' H', Inv X pins σ' H' s' ∧ tn i s'.heap ∧ (∀ b ∈ fp, H' b = none) ∧ W i n σ' H') ?_ m0 ⟨0, σ, H2, I2, st2, fun b hb => (f2 b hb).1, w0⟩
  rintro n s3 ⟨i, σ3, H3, I3, st3, fr3, w3⟩
  rcases turn i n σ3 H3 w3 with ⟨stop, qn⟩ | ⟨go, N, hN, step⟩
  · refine wpAny_passesOwn hp (thn (T.done X rfl rfl rfl hc i pins s3 σ3 H3 X.xe I3 (stat fr3) st3 stop) fun r s4 ⟨hr, I4⟩ => ?_)
    subst hr
    exact wpAny_execs_nil ⟨σ3, H3, I4, qn⟩
  · refine wpAny_passesOwn hp (thn (T.item X rfl rfl rfl hc i pins s3 σ3 H3 X.xe I3 (stat fr3) st3 go) fun r s4 ⟨u, hr, h4⟩ => ?_)
    subst hr
    refine wpAny_passesOwn hp (thn h4 fun _ s5 ⟨x, H5, I5, r5, y5, st5, fr5⟩ => ?_)
    have I5' := I5.pinned (stat fr5) (T.obj _ _ st5)
    refine wpAny_passesOwn hp (thn (hg _ s5 σ3 H5 x u _ I5' r5 (step x H5 y5)) fun _ s6 ⟨σ6, H6, I6, q6⟩ => ?_)
    refine wpAny_passesOwn hp (thn (hb _ s6 σ6 H6 _ I6 q6) fun f s7 q7 => ?_)
    have again : ∀ {σ7 : St} {H7 : Hp}, Inv X (pins ++ pinsAt fp s5.heap) σ7 H7 s7 → N σ7 H7 → ∃ m, m < n ∧ ∃ i σ' H', Inv X pins σ' H' s7 ∧ tn i s7.heap ∧ (∀ b ∈ fp, H' b = none) ∧ W i m σ' H' := fun {σ7 H7} I7 n7 => by
      obtain ⟨m', hm, w7⟩ := hN σ7 H7 n7
      refine ⟨m', hm, i + 1, σ7, H7, I7.unpinned, T.keep _ _ _ st5 fun b hb o e => (I7.pin (b, o) (List.mem_append_right _ (List.mem_append_right _ (mem_pinsAt hb e)))).1, fun b hb => ?_, w7⟩
      obtain ⟨o, e, d⟩ := T.obj _ _ st5 b hb
      exact (I7.pin (b, o) (List.mem_append_right _ (List.mem_append_right _ (mem_pinsAt hb e)))).2.1
    cases f with
    | next => obtain ⟨σ7, H7, I7, n7⟩ := q7; exact again I7 n7
    | cont => obtain ⟨σ7, H7, I7, n7⟩ := q7; exact again I7 n7
    | brk => obtain ⟨σ7, H7, I7, q7⟩ := q7; exact ⟨σ7, H7, I7.unpinned, q7⟩
    | ret v => obtain ⟨x7, σ7, H7, I7, r7, q7⟩ := q7; exact ⟨x7, σ7, H7, I7.unpinned, r7, q7⟩
end
end L2
namespace L2
open PySem PySem.Spec PyProof.Rows
noncomputable abbrev R2 := V → V → Hp → VK → Prop
noncomputable def OpR (X : Cx) (f : Value → Value → Sem Value) (r : R2) : Prop :=
  ∀ (pins : List (Addr × Obj)) (s : Shared) (σ : St) (H : Hp) (x y : V) (v u : Value) (Q : VK), Inv X pins σ H s → RelV x v → RelV y u → r x y H Q →
    wpAny (model X.prog X.w) X.A (f v u) (EP X pins σ Q) X.xe s
noncomputable def UnR (X : Cx) (f : Value → Sem Value) (r : V → Hp → VK → Prop) : Prop :=
  ∀ (pins : List (Addr × Obj)) (s : Shared) (σ : St) (H : Hp) (x : V) (v : Value) (Q : VK), Inv X pins σ H s → RelV x v → r x H Q →
    wpAny (model X.prog X.w) X.A (f v) (EP X pins σ Q) X.xe s
noncomputable def CallR (X : Cx) (f : Value) (r : List V → Hp → VK → Prop) : Prop :=
  ∀ (pins : List (Addr × Obj)) (s : Shared) (σ : St) (H : Hp) (xs : List V) (us : List Value) (Q : VK), Inv X pins σ H s → Vals xs us → r xs H Q →
    wpAny (model X.prog X.w) X.A (call f us) (EP X pins σ Q) X.xe s
noncomputable def TruR (X : Cx) (r : V → Hp → (Bool → Hp → Prop) → Prop) : Prop :=
  ∀ (pins : List (Addr × Obj)) (s : Shared) (σ : St) (H : Hp) (x : V) (v : Value) (Q : Bool → Hp → Prop), Inv X pins σ H s → RelV x v → r x H Q →
    wpAny (model X.prog X.w) X.A (truthy v) (TP X pins σ Q) X.xe s
noncomputable def tOp (r : R2) (ta tb : TE) : TE := fun σ H Q => ta σ H fun x H1 => tb σ H1 fun y H2 => r x y H2 Q
noncomputable def tUn (r : V → Hp → VK → Prop) (ta : TE) : TE := fun σ H Q => ta σ H fun x H1 => r x H1 Q
noncomputable def rI (C : Int → Int → Prop) (g : Int → Int → V) : R2 := fun x y H Q => ∃ i j, x = .int i ∧ y = .int j ∧ C i j ∧ Q (g i j) H
noncomputable def rI0 (g : Int → Int → V) : R2 := fun x y H Q => ∃ i j, x = .int i ∧ y = .int j ∧ Q (g i j) H
noncomputable def rU (g : Int → V) : V → Hp → VK → Prop := fun x H Q => ∃ i, x = .int i ∧ Q (g i) H
section
variable {X : Cx} {a b c : Expr} {ta tb tc : TE} {pos : Pos}
theorem binT (ha : PE X a ta) (hb : PE X b tb) {pins : List (Addr × Obj)} {s : Shared} {σ : St} {H : Hp} {R : V → V → Hp → Prop} (I : Inv X pins σ H s)
    (h : ta σ H fun x H1 => tb σ H1 fun y H2 => R x y H2) {Q : Value → Shared → Prop} {f : Value → Value → Sem Value}
    (hf : ∀ v u s2 x y H2, Inv X pins σ H2 s2 → RelV x v → RelV y u → R x y H2 → wpAny (model X.prog X.w) X.A (f v u) Q X.xe s2) :
    wpAny (model X.prog X.w) X.A (eval a X.env) (fun v s₁ => wpAny (model X.prog X.w) X.A (eval b X.env) (fun u s₂ => wpAny (model X.prog X.w) X.A (f v u) Q X.xe s₂) X.xe s₁) X.xe s := by
  refine thn (ha pins s σ H _ I h) fun v s1 ⟨x, H1, I1, r1, q1⟩ => ?_
  refine thn (hb pins s1 σ H1 _ I1 q1) fun u s2 ⟨y, H2, I2, r2, q2⟩ => ?_
  exact hf v u s2 x y H2 I2 r1 r2 q2
theorem pe_op {op : Operator} {r : R2} (ho : OpR X (binaryOp op) r) (ha : PE X a ta) (hb : PE X b tb) : PE X (.BinOp a op b pos) (tOp r ta tb) := by
  intro pins s σ H Q I h
  exact wpAny_BinOp (binT ha hb I h fun v u s2 x y H2 I2 rx ry q => ho pins s2 σ H2 x y v u Q I2 rx ry q)
theorem pe_un {op : UnaryOp} {r : V → Hp → VK → Prop} (ho : UnR X (unaryOp op) r) (ha : PE X a ta) : PE X (.UnaryOp op a pos) (tUn r ta) := by
  intro pins s σ H Q I h
  exact UnaryOp_ (thn (ha pins s σ H _ I h) fun v s1 ⟨x, H1, I1, r1, q1⟩ => ho pins s1 σ H1 x v Q I1 r1 q1)
theorem opI {f : Value → Value → Sem Value} {C : Int → Int → Prop} {g : Int → Int → Int}
    (rule : ∀ (i j : Int) (t u : Tok) (s : Shared) (Q : Value → Shared → Prop) (E : Value → Shared → Prop), C i j → Q (.int (g i j) s.toks) { s with toks := s.toks + 1 } → wpAny (model X.prog X.w) X.A (f (.int i t) (.int j u)) Q E s) :
    OpR X f (rI C fun i j => .int (g i j)) := by
  intro pins s σ H x y v u Q I rx ry h
  obtain ⟨i, j, rfl, rfl, hc, q⟩ := h
  obtain ⟨t, rfl⟩ := rx
  obtain ⟨t', rfl⟩ := ry
  exact rule i j t t' s _ _ hc ⟨.int (g i j), H, I.tok _, ⟨_, rfl⟩, q⟩
theorem opI0 {f : Value → Value → Sem Value} {g : Int → Int → Int}
    (rule : ∀ (i j : Int) (t u : Tok) (s : Shared) (Q : Value → Shared → Prop) (E : Value → Shared → Prop), Q (.int (g i j) s.toks) { s with toks := s.toks + 1 } → wpAny (model X.prog X.w) X.A (f (.int i t) (.int j u)) Q E s) :
    OpR X f (rI0 fun i j => .int (g i j)) := by
  intro pins s σ H x y v u Q I rx ry h
  obtain ⟨i, j, rfl, rfl, q⟩ := h
  obtain ⟨t, rfl⟩ := rx
  obtain ⟨t', rfl⟩ := ry
  exact rule i j t t' s _ _ ⟨.int (g i j), H, I.tok _, ⟨_, rfl⟩, q⟩
theorem opB0 {f : Value → Value → Sem Value} {g : Int → Int → Bool}
    (rule : ∀ (i j : Int) (t u : Tok) (s : Shared) (Q : Value → Shared → Prop) (E : Value → Shared → Prop), Q (.bool (g i j)) s → wpAny (model X.prog X.w) X.A (f (.int i t) (.int j u)) Q E s) :
    OpR X f (rI0 fun i j => .bl (g i j)) := by
  intro pins s σ H x y v u Q I rx ry h
  obtain ⟨i, j, rfl, rfl, q⟩ := h
  obtain ⟨t, rfl⟩ := rx
  obtain ⟨t', rfl⟩ := ry
  exact rule i j t t' s _ _ ⟨.bl (g i j), H, I, rfl, q⟩
noncomputable def CPow (i j : Int) : Prop := 0 ≤ j ∧ j ≤ 1000000 ∧ i.natAbs < 2 ^ 64
noncomputable def CMul (i j : Int) : Prop := (-(2 ^ 64) < i ∧ i < 2 ^ 64) ∨ (-(2 ^ 64) < j ∧ j < 2 ^ 64)
theorem CMul.ok {i j : Int} (h : CMul i j) : IntMulOk i j := by
  rcases h with ⟨h1, h2⟩ | ⟨h1, h2⟩
  · exact .of_left (intBits_le_64 h1 h2)
  · exact .of_right (intBits_le_64 h1 h2)
theorem op_add : OpR X (binaryOp .Add) (rI0 fun i j => .int (i + j)) := opI0 fun _ _ _ _ _ _ _ q => add_int q
theorem op_sub : OpR X (binaryOp .Sub) (rI0 fun i j => .int (i - j)) := opI0 fun _ _ _ _ _ _ _ q => sub_int q
theorem op_mul : OpR X (binaryOp .Mult) (rI CMul fun i j => .int (i * j)) := opI fun _ _ _ _ _ _ _ hc q => mul_int q hc.ok
theorem op_mod : OpR X (binaryOp .Mod) (rI (fun _ j => 0 < j) fun i j => .int (i % j)) := opI fun i j _ _ _ _ _ hc q => by
  have h1 : (0 : Int) < j := hc
  exact mod_int' (by omega) (by rw [Int.fmod_eq_emod_of_nonneg i (by omega)]; exact q)
theorem op_pow : OpR X (binaryOp .Pow) (rI CPow fun i j => .int (i ^ j.toNat)) := opI fun _ _ _ _ _ _ _ hc q => pow_int_small hc.1 hc.2.1 hc.2.2 q
theorem unI {f : Value → Sem Value} {g : Int → Int}
    (rule : ∀ (i : Int) (t : Tok) (s : Shared) (Q : Value → Shared → Prop) (E : Value → Shared → Prop), Q (.int (g i) s.toks) { s with toks := s.toks + 1 } → wpAny (model X.prog X.w) X.A (f (.int i t)) Q E s) :
    UnR X f (rU fun i => .int (g i)) := by
  intro pins s σ H x v Q I rx h
  obtain ⟨i, rfl, q⟩ := h
  obtain ⟨t, rfl⟩ := rx
  exact rule i t s _ _ ⟨.int (g i), H, I.tok _, ⟨_, rfl⟩, q⟩
theorem un_neg : UnR X (unaryOp .USub) (rU fun i => .int (-i)) := unI fun _ _ _ _ _ q => neg_int q
end
noncomputable def scal : V → V → Bool
  | .non, .non => true | .non, .int _ => true | .int _, .non => true | .non, .bl _ => true | .bl _, .non => true | .non, .str _ => true | .str _, .non => true
  | .int _, .int _ => true | .bl _, .bl _ => true | .str _, .str _ => true | .byt _, .byt _ => true
  | .int _, .str _ => true | .str _, .int _ => true | .bl _, .str _ => true | .str _, .bl _ => true
  | _, _ => false
noncomputable def rNe : R2 := fun x y H Q => scal x y = true ∧ Q (.bl (!decide (x = y))) H
theorem dec_int {i j : Int} : decide (V.int i = V.int j) = (i == j) := by
  rw [Bool.eq_iff_iff]
  simp
theorem dec_bl {i j : Bool} : decide (V.bl i = V.bl j) = (i == j) := by
  rw [Bool.eq_iff_iff]
  simp
theorem dec_str {i j : Str} : decide (V.str i = V.str j) = (i == j) := by
  rw [Bool.eq_iff_iff]
  simp
theorem dec_byt {i j : Array UInt8} : decide (V.byt i = V.byt j) = (i.toList == j.toList) := by
  rw [Bool.eq_iff_iff]
  cases i
  cases j
  simp
section
variable {X : Cx} {a b c : Expr} {ta tb tc : TE} {pos : Pos}
theorem fin_bl {pins : List (Addr × Obj)} {σ : St} {H : Hp} {s : Shared} {Q : VK} {k k' : Bool} (I : Inv X pins σ H s) (q : Q (.bl k) H) (e : k = k') : EP X pins σ Q (.bool k') s := by
  subst e
  exact ⟨.bl k, H, I, rfl, q⟩
theorem op_ne : OpR X (compareOp .NotEq) rNe := by
  intro pins s σ H x y v u Q I rx ry h
  obtain ⟨hs, q⟩ := h
  cases x with
  | non =>
    cases rx
    cases y with
    | non => cases ry; exact PySem.EqNone.ne_none_none (fin_bl I q (by simp))
    | bl j => cases ry; exact PySem.EqNone.ne_none_bool (fin_bl I q (by simp))
    | int j => obtain ⟨t', rfl⟩ := ry; exact PySem.EqNone.ne_none_int (fin_bl I q (by simp))
    | str j => obtain ⟨t', rfl⟩ := ry; exact PySem.EqNone.ne_none_str (fin_bl I q (by simp))
    | _ => exact absurd (show false = true from hs) Bool.false_ne_true
  | bl i =>
    cases rx
    cases y with
    | non => cases ry; exact PySem.EqNone.ne_bool_none (fin_bl I q (by simp))
    | bl j => cases ry; exact ne_bool (fin_bl I q (congrArg not dec_bl))
    | str j => obtain ⟨t', rfl⟩ := ry; exact PySem.EqMixed.ne_bool_str (fin_bl I q (by simp))
    | _ => exact absurd (show false = true from hs) Bool.false_ne_true
  | int i =>
    obtain ⟨t, rfl⟩ := rx
    cases y with
    | non => cases ry; exact PySem.EqNone.ne_int_none (fin_bl I q (by simp))
    | int j => obtain ⟨t', rfl⟩ := ry; exact ne_int (fin_bl I q (congrArg not dec_int))
    | str j => obtain ⟨t', rfl⟩ := ry; exact PySem.EqMixed.ne_int_str (fin_bl I q (by simp))
    | _ => exact absurd (show false = true from hs) Bool.false_ne_true
  | str i =>
    obtain ⟨t, rfl⟩ := rx
    cases y with
    | non => cases ry; exact PySem.EqNone.ne_str_none (fin_bl I q (by simp))
    | bl j => cases ry; exact PySem.EqMixed.ne_str_bool (fin_bl I q (by simp))
    | int j => obtain ⟨t', rfl⟩ := ry; exact PySem.EqMixed.ne_str_int (fin_bl I q (by simp))
    | str j => obtain ⟨t', rfl⟩ := ry; exact ne_str (fin_bl I q (congrArg not dec_str))
    | _ => exact absurd (show false = true from hs) Bool.false_ne_true
  | byt i =>
    obtain ⟨t, rfl⟩ := rx
    cases y with
    | byt j => obtain ⟨t', rfl⟩ := ry; exact PySem.W.ne_bytes (fin_bl I q (congrArg not dec_byt))
    | _ => exact absurd (show false = true from hs) Bool.false_ne_true
  | _ => cases y <;> exact absurd (show false = true from hs) Bool.false_ne_true
theorem op_lt : OpR X (compareOp .Lt) (rI0 fun i j => .bl (decide (i < j))) := opB0 fun _ _ _ _ _ _ _ q => lt_int q
theorem op_le : OpR X (compareOp .LtE) (rI0 fun i j => .bl (decide (i ≤ j))) := opB0 fun _ _ _ _ _ _ _ q => le_int q
theorem op_gt : OpR X (compareOp .Gt) (rI0 fun i j => .bl (decide (j < i))) := opB0 fun _ _ _ _ _ _ _ q => gt_int q
theorem op_isN : OpR X (compareOp .Is) (fun x y H Q => y = .non ∧ Q (.bl (decide (x = .non))) H) := by
  intro pins s σ H x y v u Q I rx ry h
  obtain ⟨rfl, q⟩ := h
  cases ry
  refine is_none_gen (fin_bl I q ?_)
  cases x <;> first
    | (cases rx; rfl)
    | (obtain ⟨t, rfl⟩ := rx; rfl)
theorem op_notN : OpR X (compareOp .IsNot) (fun x y H Q => y = .non ∧ Q (.bl (!decide (x = .non))) H) := by
  intro pins s σ H x y v u Q I rx ry h
  obtain ⟨rfl, q⟩ := h
  cases ry
  refine isnot_none_gen (fin_bl I q ?_)
  cases x <;> first
    | (cases rx; rfl)
    | (obtain ⟨t, rfl⟩ := rx; rfl)
noncomputable def isObj : HO → Bool
  | .lst _ => true
  | .ins _ _ _ => true
  | _ => false
theorem OpR.or {f : Value → Value → Sem Value} {r r' : R2} (h : OpR X f r) (h' : OpR X f r') : OpR X f (fun x y H Q => r x y H Q ∨ r' x y H Q) := by
  intro pins s σ H x y v u Q I rx ry q
  rcases q with q | q
  · exact h pins s σ H x y v u Q I rx ry q
  · exact h' pins s σ H x y v u Q I rx ry q
theorem nomark (b : Expr) {op : CmpOp} (h : op ≠ .In := by decide) (h2 : op ≠ .NotIn := by decide) : behindInMarks op b = false := by
  have e1 : (op == CmpOp.In) = false := by cases op <;> first | rfl | exact absurd rfl h
  have e2 : (op == CmpOp.NotIn) = false := by cases op <;> first | rfl | exact absurd rfl h2
  cases b <;> simp [behindInMarks, e1, e2]
theorem pe_cmpR {op : CmpOp} {r : R2} (ho : OpR X (compareOp op) r) (ha : PE X a ta) (hb : PE X b tb) (hm : behindInMarks op b = false) : PE X (.Compare a [op] [b] pos) (tOp r ta tb) := by
  intro pins s σ H Q I h
  exact wpAny_Compare1 (binT ha hb I h fun v u s2 x y H2 I2 rx ry q => ho pins s2 σ H2 x y v u Q I2 rx ry q) hm
noncomputable def tTest (t : TE) : TT := fun σ H Q => t σ H fun x H' => ∃ k, x = .bl k ∧ Q k H'
theorem pt_cmpR {op : CmpOp} {r : R2} (ho : OpR X (compareOp op) r) (ha : PE X a ta) (hb : PE X b tb) (hm : behindInMarks op b = false) : PT X (.Compare a [op] [b] pos) (tTest (tOp r ta tb)) := by
  intro pins s σ H Q I h
  refine wpAny_isTrue_Compare1 (thn (ha pins s σ H _ I h) fun v s1 ⟨x, H1, I1, r1, q1⟩ => thn (hb pins s1 σ H1 _ I1 q1) fun u s2 ⟨y, H2, I2, r2, q2⟩ =>
    thn (ho pins s2 σ H2 x y v u _ I2 r1 r2 q2) fun c s3 ⟨z, H3, I3, r3, k, e, q3⟩ => ?_) hm
  subst e
  cases r3
  exact wpAny_truthy_bool ⟨H3, I3, q3⟩
noncomputable def tChain (r r' : R2) (ta tb tc : TE) : TE := fun σ H Q => ta σ H fun x H1 => tb σ H1 fun y H2 => r x y H2 fun z H3 => ∃ k, z = .bl k ∧
  (if k = true then tc σ H3 fun w' H4 => r' y w' H4 Q else Q (.bl false) H3)
theorem pe_chain {op op' : CmpOp} {r r' : R2} (ho : OpR X (compareOp op) r) (ho' : OpR X (compareOp op') r') (ha : PE X a ta) (hb : PE X b tb) (hc : PE X c tc)
    (hm : lastMarks [op, op'] [b, c] = false := by with_unfolding_all rfl) : PE X (.Compare a [op, op'] [b, c] pos) (tChain r r' ta tb tc) := by
  intro pins s σ H Q I h
  refine Compare_chain (thn (ha pins s σ H _ I h) fun v s1 ⟨x, H1, I1, r1, q1⟩ => chain_link (thn (hb pins s1 σ H1 _ I1 q1) fun u s2 ⟨y, H2, I2, r2, q2⟩ =>
    thn (ho pins s2 σ H2 x y v u _ I2 r1 r2 q2) fun d s3 ⟨z, H3, I3, r3, k, e, q3⟩ => ?_)) hm
  subst e
  cases r3
  refine wpAny_truthy_bool ?_
  cases k with
  | false => exact ite_ff ⟨.bl false, H3, I3, rfl, q3⟩
  | true => exact ite_tt (chain_last (thn (hc pins s3 σ H3 _ I3 q3) fun w' s4 ⟨z', H4, I4, r4, q4⟩ => ho' pins s4 σ H4 y z' u w' Q I4 r2 r4 q4))
theorem pt_chain {op op' : CmpOp} {r r' : R2} (ho : OpR X (compareOp op) r) (ho' : OpR X (compareOp op') r') (ha : PE X a ta) (hb : PE X b tb) (hc : PE X c tc)
    (hm : lastMarks [op, op'] [b, c] = false := by with_unfolding_all rfl) : PT X (.Compare a [op, op'] [b, c] pos) (tTest (tChain r r' ta tb tc)) := by
  intro pins s σ H Q I h
  refine isTrue_chain (thn (ha pins s σ H _ I h) fun v s1 ⟨x, H1, I1, r1, q1⟩ => test_link (thn (hb pins s1 σ H1 _ I1 q1) fun u s2 ⟨y, H2, I2, r2, q2⟩ =>
    thn (ho pins s2 σ H2 x y v u _ I2 r1 r2 q2) fun d s3 ⟨z, H3, I3, r3, k, e, q3⟩ => ?_)) hm
  subst e
  cases r3
  refine wpAny_truthy_bool ?_
  cases k with
  | false =>
    obtain ⟨k', e', q'⟩ := q3
    cases e'
    exact ite_ff ⟨H3, I3, q'⟩
  | true =>
    refine ite_tt (test_last (thn (hc pins s3 σ H3 _ I3 q3) fun w' s4 ⟨z', H4, I4, r4, q4⟩ => thn (ho' pins s4 σ H4 y z' u w' _ I4 r2 r4 q4) fun d' s5 ⟨z2, H5, I5, r5, k2, e2, q5⟩ => ?_))
    subst e2
    cases r5
    exact wpAny_truthy_bool ⟨H5, I5, q5⟩
noncomputable def TruV (K : PySem.W.Frag) (x : V) (H : Hp) (k : Bool) : Prop :=
  match x with
  | .non => k = false
  | .bl b => k = b
  | .int i => k = (i != 0)
  | .str y => y.length ≤ sizeLine ∧ k = ((y.length : Int) != 0)
  | .byt y => y.size ≤ sizeLine ∧ k = ((y.size : Int) != 0)
  | .ref p => (∃ xs, SqL K H p xs ∧ k = !xs.isEmpty) ∨ (∃ xs, SqT K H p xs ∧ k = !xs.isEmpty) ∨ ∃ kvs, H p = some (.dK kvs) ∧ k = !kvs.isEmpty
  | _ => False
theorem isEmpty_kv {κ : Type} {kvs : List (κ × V)} {vs : List (κ × Value)} (r : KV kvs vs) : (!vs.isEmpty) = !kvs.isEmpty := by
  cases r <;> rfl
theorem isEmpty_of {xs : List V} {its : List Value} (r : Vals xs its) : (!its.toArray.isEmpty) = !xs.isEmpty := by
  cases r <;> simp
theorem line63 : (sizeLine : Nat) < 2 ^ 63 := by rw [sizeLine_eq]; decide
theorem tru_ok : TruR X (fun x H Q => ∃ k, TruV X.K x H k ∧ Q k H) := by
  intro pins s σ H x v Q I rx h
  obtain ⟨k, e, q⟩ := h
  have hl := line63
  have hs : sizeLine = 16777216 := sizeLine_eq
  cases x with
  | non =>
    cases rx
    have e' : k = false := e
    subst e'
    exact truthy_none ⟨H, I, q⟩
  | bl b =>
    cases rx
    have e' : k = b := e
    subst e'
    exact wpAny_truthy_bool ⟨H, I, q⟩
  | int i =>
    obtain ⟨t, rfl⟩ := rx
    have e' : k = (i != 0) := e
    subst e'
    exact PySem.P.truthy_int ⟨H, I, q⟩
  | str y =>
    obtain ⟨t, rfl⟩ := rx
    obtain ⟨hy, e'⟩ : y.length ≤ sizeLine ∧ k = ((y.length : Int) != 0) := e
    subst e'
    exact PySem.P.truthy_str (by omega) ⟨H, I.tok _, q⟩
  | byt y =>
    obtain ⟨t, rfl⟩ := rx
    obtain ⟨hy, e'⟩ : y.size ≤ sizeLine ∧ k = ((y.size : Int) != 0) := e
    subst e'
    exact PySem.W.truthy_bytes (by omega) ⟨H, I.tok _, q⟩
  | ref p =>
    cases rx
    have e' : (∃ xs, SqL X.K H p xs ∧ k = !xs.isEmpty) ∨ (∃ xs, SqT X.K H p xs ∧ k = !xs.isEmpty) ∨ ∃ kvs, H p = some (.dK kvs) ∧ k = !kvs.isEmpty := e
    rcases e' with ⟨xs, hx, e'⟩ | ⟨xs, hx, e'⟩ | ⟨kvs, hx, e'⟩
    · subst e'
      obtain ⟨its, r, pl, hz⟩ := I.list hx
      have hlen := r.length
      exact wpAny_truthy_list pl.isList (by simp only [List.size_toArray]; omega) ⟨H, I.tok _, by rw [isEmpty_of r]; exact q⟩
    · subst e'
      obtain ⟨its, r, pl, hz⟩ := I.tuple hx
      have hlen := r.length
      exact truthy_tuple pl (by simp only [List.size_toArray]; omega) ⟨H, I.tok _, by rw [isEmpty_of r]; exact q⟩
    · subst e'
      obtain ⟨hz, hS, vs, r, m⟩ : kvs.length ≤ sizeLine ∧ (p == sysModules) = false ∧ ∃ vs, KV kvs vs ∧ s.heap.DictOf (mixKind X.prog X.w) p vs := I.hok p _ hx
      have hlen : kvs.length = vs.length := Paired.length r
      exact wpAny_truthy_dict hS m (by omega) ⟨H, I.tok _, by rw [isEmpty_kv r]; exact q⟩
  | _ => exact (show False from e).elim
theorem pt_truth (ha : PE X a ta) (he : ∀ whole, isTrue a X.env whole = (do let v ← whole; standAt a.pos; holding [v] (truthy v))) :
    PT X a (fun σ H Q => ta σ H fun x H' => ∃ k, TruV X.K x H' k ∧ Q k H') := by
  intro pins s σ H Q I h
  exact isTrue_plain (thn (ha pins s σ H _ I h) fun v s1 ⟨x, H1, I1, r1, q1⟩ => tru_ok pins s1 σ H1 x v Q I1 r1 q1) (he _)
theorem op_add_str : OpR X (binaryOp .Add) (fun x y H Q => ∃ i j, x = .str i ∧ y = .str j ∧ i.length + j.length ≤ sizeLine ∧ Q (.str (i ++ j)) H) := by
  intro pins s σ H x y v u Q I rx ry h
  obtain ⟨i, j, rfl, rfl, hz, q⟩ := h
  obtain ⟨t, rfl⟩ := rx
  obtain ⟨t', rfl⟩ := ry
  exact add_str (fun t' tk => ⟨.str (i ++ j), H, I.tok _, ⟨_, rfl⟩, q⟩) hz
theorem vals1 {x : V} {us : List Value} (r : Vals [x] us) : ∃ u, us = [u] ∧ RelV x u := by
  cases r with
  | cons r1 r2 => cases r2; exact ⟨_, rfl, r1⟩
theorem vals2 {x y : V} {us : List Value} (r : Vals [x, y] us) : ∃ u w', us = [u, w'] ∧ RelV x u ∧ RelV y w' := by
  cases r with
  | cons r1 r2 =>
    cases r2 with
    | cons r3 r4 => cases r4; exact ⟨_, _, rfl, r1, r3⟩
theorem call_max2 (hc : X.calm = true) : CallR X (.builtin "max") (fun xs H Q => ∃ i j, xs = [.int i, .int j] ∧ Q (.int (if j > i then j else i)) H) := by
  intro pins s σ H xs us Q I r h
  obtain ⟨i, j, rfl, q⟩ := h
  obtain ⟨u, w', rfl, ⟨t, rfl⟩, ⟨t', rfl⟩⟩ := vals2 r
  refine max_two_ints (I.ok.hd hc) fun h' tk k => ⟨_, H, I.kept k, ?_, q⟩
  by_cases hj : j > i
  · rw [if_pos hj, if_pos hj]; exact ⟨_, rfl⟩
  · rw [if_neg hj, if_neg hj]; exact ⟨_, rfl⟩
end
end L2
namespace L2
open PySem PySem.Spec PyProof.Rows
structure ObjM (h : Heap) (x dx C : Addr) (mA : Str → Option Value) : Prop where
  obj : h.get? x = some (PySem.W.instObj C dx)
  ns : h.Ns1 dx mA
  ne : dx ≠ x
theorem lookIn_ns {h : Heap} {dx : Addr} {mA : Str → Option Value} (n : h.Ns1 dx mA) : ∃ od, h.get? dx = some od ∧ ∀ name, PySem.W.lookIn name od = some (mA name) := by
  obtain ⟨o, es, ep, ho, hd, hk, _, hm⟩ := n
  refine ⟨o, ho, fun name => ?_⟩
  have e := hm name
  unfold nsFind findBy at e
  rw [← Array.find?_toList] at e
  unfold PySem.W.lookIn
  rw [hd]
  dsimp only
  split
  · rename_i y q
    rw [q] at e
    exact congrArg some e
  · rename_i q
    rw [q] at e
    have a : es.toList.any (·.refKey) = false := by
      rw [List.any_eq_false]
      intro y hy
      obtain ⟨z, t, hkey⟩ := hk y (Array.mem_toList_iff.mp hy)
      simp [DictEntry.refKey, hkey]
    have a' : ¬ es.toList.any (·.refKey) = true := by rw [a]; exact Bool.false_ne_true
    rw [if_neg a']
    exact congrArg some e
theorem ObjM.look {h : Heap} {x dx C : Addr} {mA : Str → Option Value} (I : ObjM h x dx C mA) : ∃ od, PySem.W.InstAt h x (PySem.W.instObj C dx) C (some od) ∧ ∀ name, PySem.W.lookIn name od = some (mA name) :=
  let ⟨od, ho, hl⟩ := lookIn_ns I.ns
  ⟨od, ⟨I.obj, rfl, rfl, ho⟩, hl⟩
section
variable {prog : Program} {w : World} {A : Around} {E : Value → Shared → Prop} {s : Shared} {K : PySem.W.Frag} {x dx C f : Addr} {mA : Str → Option Value} {name : Str} {v : Value}
theorem get_map {expr : Bool} {Q : Value → Shared → Prop} (X : K.In s.heap) (I : ObjM s.heap x dx C mA) (hg : PySem.W.plainGet K C name = true) (hh : PySem.W.hasDictIn K C = true)
    (ha : PySem.W.findIn K (.ref C) name = some none) (hv : mA name = some v) (hv' : PySem.W.handedIn v = true) (h : Q v { s with toks := s.toks + 1 }) :
    wpAny (model prog w) A (getAttr (.ref x) name expr) Q E s := by
  obtain ⟨od, J, hl⟩ := I.look
  exact PySem.W.get_value X J (PySem.W.plainGet_of hg).1 (PySem.W.findObj_own hh ha rfl (by rw [hl, hv])) hv' h
theorem get_meth {pl : Sem Bool} {Q : Value × List Value → Shared → Prop} (X : K.In s.heap) (I : ObjM s.heap x dx C mA) (hg : PySem.W.plainGet K C name = true)
    (hf : PySem.W.findIn K (.ref C) name = some (some (.ref f))) (ht : PySem.W.isFn K (.ref f) = true) (hv : mA name = none) (h : Q (.ref f, [.ref x]) s) :
    wpAny (model prog w) A (getMethod (.ref x) name pl) Q E s := by
  obtain ⟨od, J, hl⟩ := I.look
  exact PySem.W.method_fn X J (PySem.W.plainGet_of hg).1 (PySem.W.plainGet_of hg).2 hf (beq_iff_eq.mp ht) (by show (PySem.W.lookIn name od).map (·.isSome) = some false; rw [hl, hv]; rfl) h
theorem set_map {ns : List Str} {Q : Unit → Shared → Prop} (X : K.In s.heap) (I : ObjM s.heap x dx C mA)
    (hs : PySem.W.findIn K (.ref C) "__setattr__" = some (some (.builtin "object.__setattr__"))) (hp : PySem.W.plainOver K C = true) (ht : PySem.W.takerIn K C name = some none) (hh : PySem.W.hasDictIn K C = true)
    (hw : PySem.Within mA ns) (hsz : ns.length ≤ sizeLine)
    (h : ∀ h', ObjM h' x dx C (fun y => if y = name then some v else mA y) → Heap.SameBut dx s.heap h' → Q () { s with heap := h', toks := s.toks + 2 }) :
    wpAny (model prog w) A (setAttr (.ref x) name v) Q E s := by
  obtain ⟨od, J, hl⟩ := I.look
  refine PySem.W.set_plain X J hs (PySem.W.osa_open (s := { s with toks := s.toks + 1 }) (r := none) X J hp ht fun b => ?_)
  obtain ⟨cd, hc, hd'⟩ := PySem.W.any_some hh
  have hx : s.heap.get? x = some ⟨.ref C, some dx, .plain, #[]⟩ := I.obj
  refine wpAny_bind (wpAny_pure (wpAny_bind (wpAny_bind (wpAny_loadPart hx (wpAny_bind (PySem.W.Looks.here (s := { s with toks := s.toks + 1 }) (PySem.W.looks_clsIn X hc) ?_))))))
  rw [hd']
  refine wpAny_pure (a := some dx) (wpAny_bind (wpAny_pure (wpAny_bind ?_)))
  refine wpAny_nsSet1 (s := { s with toks := s.toks + 1 }) I.ns fun h' hn2 hs2 => ?_
  obtain ⟨oD, esD, epD, hoD, hdD, hcD⟩ := hn2.count (PySem.Within.cons name v hw)
  refine wpAny_bind (wpAny_lookBehind hoD (by rw [hdD]; exact pastItsLine_dict (Nat.le_trans hcD (by rw [List.length_cons]; omega))) ?_)
  exact wpAny_pure (h _ ⟨(hs2.2 _ (Ne.symm I.ne)).trans I.obj, hn2, I.ne⟩ hs2)
theorem make_map {R : Result → Shared → Prop} {vs : List Value} {kw : List (Str × Value)} (X : K.In s.heap) (hm : PySem.W.makesIn K C = true)
    (hi : PySem.W.findIn K (.ref C) "__init__" = some (some (.ref f))) (hf : PySem.W.typeIn K (.ref f) = some (.type "function"))
    (h : codeAny (model prog w) (A.under (.builtin "type.__call__" ⟨.ref C :: vs, kw⟩)) (.call (.ref f) ⟨.ref (s.heap.objs.size + 1) :: vs, kw⟩) (PySem.W.InitBack (s.heap.objs.size + 1) R)
      { s with heap := (s.heap.push PySem.W.emptyDict).push (PySem.W.instObj C s.heap.objs.size) }) :
    codeAny (model prog w) A (.call (.ref C) ⟨vs, kw⟩) R s := by
  obtain ⟨hh, g, d, t, os⟩ := s
  exact PySem.W.make_core (PySem.W.makes_of X hm) (PySem.W.looks_findIn X hi) (fun self => PySem.W.bind_fn X self hf) (.inl rfl) h
end
noncomputable def putF (f : Str) (v : V) : List (Str × V) → List (Str × V)
  | [] => [(f, v)]
  | (g, x) :: r => if g = f then (g, v) :: r else (g, x) :: putF f v r
theorem lookup_putF (f g : Str) (v : V) : ∀ fs : List (Str × V), (putF f v fs).lookup g = if g = f then some v else fs.lookup g
  | [] => by
    show List.lookup g [(f, v)] = _
    by_cases h : g = f
    · have hb : (g == f) = true := beq_iff_eq.mpr h
      simp only [List.lookup, hb, if_pos h]
    · have hb : (g == f) = false := beq_eq_false_iff_ne.mpr h
      simp only [List.lookup, hb, if_neg h]
  | (k, x) :: r => by
    have ih := lookup_putF f g v r
    rw [show putF f v ((k, x) :: r) = (if k = f then (k, v) :: r else (k, x) :: putF f v r) from rfl]
    by_cases hk : k = f
    · rw [if_pos hk]
      by_cases h : g = k
      · have hb : (g == k) = true := beq_iff_eq.mpr h
        simp only [List.lookup, hb, if_pos (h.trans hk)]
      · have hb : (g == k) = false := beq_eq_false_iff_ne.mpr h
        simp only [List.lookup, hb, if_neg (fun e : g = f => h (e.trans hk.symm))]
    · rw [if_neg hk]
      by_cases h : g = k
      · have hb : (g == k) = true := beq_iff_eq.mpr h
        simp only [List.lookup, hb, if_neg (fun e : g = f => hk (h.symm.trans e))]
      · have hb : (g == k) = false := beq_eq_false_iff_ne.mpr h
        simp only [List.lookup, hb]
        exact ih
theorem keys_putF (f : Str) (v : V) : ∀ fs : List (Str × V), f ∈ (putF f v fs).map (·.1) ∧ ∀ g, g ∈ fs.map (·.1) → g ∈ (putF f v fs).map (·.1)
  | [] => ⟨by simp [putF], fun g h => by simp at h⟩
  | (k, x) :: r => by
    obtain ⟨i1, i2⟩ := keys_putF f v r
    rw [show putF f v ((k, x) :: r) = (if k = f then (k, v) :: r else (k, x) :: putF f v r) from rfl]
    by_cases hk : k = f
    · rw [if_pos hk]
      subst hk
      exact ⟨by simp, fun g h => by simpa using h⟩
    · rw [if_neg hk]
      refine ⟨?_, fun g h => ?_⟩
      · rw [List.map_cons]
        exact List.mem_cons_of_mem _ i1
      · rw [List.map_cons] at h ⊢
        rcases List.mem_cons.mp h with e | e
        · exact List.mem_cons.mpr (.inl e)
        · exact List.mem_cons_of_mem _ (i2 g e)
theorem length_putF (f : Str) (v : V) : ∀ fs : List (Str × V), (putF f v fs).length ≤ fs.length + 1
  | [] => by simp [putF]
  | (k, x) :: r => by
    have ih := length_putF f v r
    rw [show putF f v ((k, x) :: r) = (if k = f then (k, v) :: r else (k, x) :: putF f v r) from rfl]
    by_cases hk : k = f
    · rw [if_pos hk, List.length_cons, List.length_cons]; omega
    · rw [if_neg hk, List.length_cons, List.length_cons]; omega
theorem RelO.some_of {v : V} {o : Option Value} (r : RelO (some v) o) : ∃ u, o = some u ∧ RelV v u := by
  cases o with
  | none => exact (show False from r).elim
  | some u => exact ⟨u, rfl, r⟩
theorem RelO.none_of {o : Option Value} (r : RelO none o) : o = none := by
  cases o with
  | none => rfl
  | some u => exact (show False from r).elim
theorem handed_of {v : V} {u : Value} (r : RelV v u) : PySem.W.handedIn u = true := by
  cases v with
  | non => cases (show u = Value.none from r); rfl
  | bl b => cases (show u = Value.bool b from r); rfl
  | int i => obtain ⟨t, e⟩ := (show ∃ t, u = Value.int i t from r); cases e; rfl
  | str x => obtain ⟨t, e⟩ := (show ∃ t, u = Value.str x t from r); cases e; rfl
  | byt b => obtain ⟨t, e⟩ := (show ∃ t, u = Value.bytes b t from r); cases e; rfl
  | flt b => obtain ⟨t, e⟩ := (show ∃ t, u = Value.float b t from r); cases e; rfl
  | ref a => cases (show u = Value.ref a from r); rfl
  | ty n => cases (show u = Value.type n from r); rfl
section
variable {P : Program} {w : World} {H H' : Hp} {h h' : Heap} {a C dx : Addr} {fs fs' : List (Str × V)}
theorem ins_get (hok : HOk P w H h) (e : H a = some (.ins C dx fs)) : ∃ mA, ObjM h a dx C mA ∧ (∀ f, RelO (fs.lookup f) (mA f)) ∧ PySem.Within mA (fs.map (·.1)) ∧ fs.length ≤ 1000 ∧ H dx = some (.own a) := by
  obtain ⟨d, z, ne, ob, mA, n, r, q⟩ := (show ObjOk P w H h a (.ins C dx fs) from hok a _ e)
  exact ⟨mA, ⟨ob, n, ne⟩, r, q, z, d⟩
end
structure Cls (K : PySem.W.Frag) (C : Addr) : Prop where
  pg : PySem.W.plainGet K C Str.empty = true
  hd : PySem.W.hasDictIn K C = true
  po : PySem.W.plainOver K C = true
  sa : PySem.W.findIn K (.ref C) "__setattr__" = some (some (.builtin "object.__setattr__"))
theorem Cls.get {K : PySem.W.Frag} {C : Addr} (c : Cls K C) (f : Str) : PySem.W.plainGet K C f = true := c.pg
noncomputable def NoAttr (K : PySem.W.Frag) (C : Addr) (f : Str) : Prop := PySem.W.findIn K (.ref C) f = some none
theorem NoAttr.taker {K : PySem.W.Frag} {C : Addr} {f : Str} (n : NoAttr K C f) : PySem.W.takerIn K C f = some none := by
  unfold PySem.W.takerIn
  rw [show PySem.W.findIn K (.ref C) f = some none from n]
  rfl
structure Con (K : PySem.W.Frag) (C : Addr) (f : Str) (v : V) (u : Value) : Prop where
  at_ : PySem.W.findIn K (.ref C) f = some (some u)
  rel : RelV v u
  get : PySem.W.specialIn K u "__get__" = some none
  cp : PySem.W.copiedNames.contains f = false
structure Meth (K : PySem.W.Frag) (C : Addr) (m : Str) (f : Addr) : Prop where
  at_ : PySem.W.findIn K (.ref C) m = some (some (.ref f))
  fn : PySem.W.isFn K (.ref f) = true
  kp : PySem.W.keepIn K (.ref f) = true
section
variable {X : Cx} {pins : List (Addr × Obj)} {σ : St} {H : Hp} {s : Shared} {a C dx : Addr} {fs : List (Str × V)} {f : Str} {v : V} {A : Around} {E : Value → Shared → Prop}
theorem getattr_ok {b : Bool} {Q : Value → Shared → Prop} (I : Inv X pins σ H s) (e : H a = some (.ins C dx fs)) (c : Cls X.K C) (n : NoAttr X.K C f) (l : fs.lookup f = some v)
    (h : ∀ u s', Inv X pins σ H s' → RelV v u → Q u s') : wpAny (model X.prog X.w) A (getAttr (.ref a) f b) Q E s := by
  obtain ⟨mA, O, r, _, _, _⟩ := ins_get I.hok e
  obtain ⟨u, hu, ru⟩ := RelO.some_of (v := v) (o := mA f) (by rw [← l]; exact r f)
  exact get_map I.kIn O (c.get f) c.hd n hu (handed_of ru) (h u _ (I.tok _) ru)
theorem getmeth_ok {m : Str} {g : Addr} {pl : Sem Bool} {Q : Value × List Value → Shared → Prop} (I : Inv X pins σ H s) (e : H a = some (.ins C dx fs)) (c : Cls X.K C) (k : Meth X.K C m g) (l : fs.lookup m = none)
    (h : Q (.ref g, [.ref a]) s) : wpAny (model X.prog X.w) A (getMethod (.ref a) m pl) Q E s := by
  obtain ⟨mA, O, r, _, _, _⟩ := ins_get I.hok e
  have hn : mA m = none := RelO.none_of (by rw [← l]; exact r m)
  exact get_meth I.kIn O (c.get m) k.at_ k.fn hn h
theorem setattr_ok {y : V} {u : Value} {Q : Unit → Shared → Prop} (I : Inv X pins σ H s) (e : H a = some (.ins C dx fs)) (c : Cls X.K C) (n : NoAttr X.K C f) (hl : fs.length < 1000) (ry : RelV y u)
    (h : ∀ s', Inv X pins σ (upd H a (.ins C dx (putF f y fs))) s' → Q () s') : wpAny (model X.prog X.w) A (setAttr (.ref a) f u) Q E s := by
  obtain ⟨mA, O, r, wi, _, ho⟩ := ins_get I.hok e
  have hz : (fs.map (·.1)).length ≤ sizeLine := by rw [List.length_map, sizeLine_eq]; omega
  refine set_map I.kIn O c.sa c.po n.taker c.hd wi hz fun h' O' sb => h _ ?_
  have hd : ∃ o, h'.get? dx = some o := let ⟨o, _, _, e', _⟩ := O'.ns; ⟨o, e'⟩
  refine I.write (x := a) (e := dx) (by rw [e]; exact True.intro) (.inr ho) (fun b q hb z => (sb.2 b hb).trans z) hd ?_
  refine ⟨by rw [upd_ne O.ne]; exact ho, ?_, O.ne, O'.obj, _, O'.ns, fun g => ?_, fun g hg => ?_⟩
  · have := length_putF f y fs; omega
  · show RelO ((putF f y fs).lookup g) (if g = f then some u else mA g)
    rw [lookup_putF]
    by_cases q : g = f
    · rw [if_pos q, if_pos q]; exact ry
    · rw [if_neg q, if_neg q]; exact r g
  · by_cases q : g = f
    · rw [q]; exact (keys_putF f y fs).1
    · refine (keys_putF f y fs).2 g (wi g fun z => hg ?_)
      show (if g = f then some u else mA g) = none
      rw [if_neg q]; exact z
theorem Inv.made (I : Inv X pins σ H s) : Inv X pins σ (upd (upd H s.heap.objs.size (.own (s.heap.objs.size + 1))) (s.heap.objs.size + 1) (.ins C s.heap.objs.size []))
    { s with heap := (s.heap.push PySem.W.emptyDict).push (PySem.W.instObj C s.heap.objs.size) } := by
  have e1 : (s.heap.push PySem.W.emptyDict).get? s.heap.objs.size = some PySem.W.emptyDict := Heap.get?_push_size s.heap rfl
  have e2 : ((s.heap.push PySem.W.emptyDict).push (PySem.W.instObj C s.heap.objs.size)).get? (s.heap.objs.size + 1) = some (PySem.W.instObj C s.heap.objs.size) := by
    have := Heap.get?_push_size (s.heap.push PySem.W.emptyDict) (o := PySem.W.instObj C s.heap.objs.size) rfl
    rwa [Heap.size_push] at this
  have e3 : (s.heap.push PySem.W.emptyDict).Ns s.heap.objs.size (fun _ => none) := ⟨PySem.W.emptyDict, #[], _, e1, rfl, (fun e he => absurd he (by simp)), fun _ => rfl⟩
  have I1 := I.laid (a := s.heap.objs.size) (o := .own (s.heap.objs.size + 1)) (h' := s.heap.push PySem.W.emptyDict) (t' := s.toks) (fun b u q => Heap.get?_push_of_some _ q) (Nat.le_refl _) ⟨_, e1⟩
  refine I1.laid (a := s.heap.objs.size + 1) (o := .ins C s.heap.objs.size []) (t' := s.toks) (fun b u q => Heap.get?_push_of_some _ q) (Nat.le_of_eq (Heap.size_push _ _)) ?_
  have ne : s.heap.objs.size ≠ s.heap.objs.size + 1 := Nat.ne_of_lt (Nat.lt_succ_self _)
  refine ⟨by rw [upd_ne ne, upd_same], Nat.zero_le _, ne, e2, fun _ => none, (Heap.Ns1.of_empty e3).at fun o q => Heap.get?_push_of_some _ q, fun _ => True.intro, fun y hy => absurd rfl hy⟩
theorem attr_of {prog : Program} {w : World} {env : Env} {e : Expr} {f : Str} {pos : Pos} {s : Shared} {Q : Value → Shared → Prop} (hb : attributeBase e f env (eval e env) = eval e env)
    (h : wpAny (model prog w) A (eval e env) (fun o s₁ => wpAny (model prog w) A (getAttr o f true) Q E s₁) E s) : wpAny (model prog w) A (eval (.Attribute e f pos) env) Q E s :=
  Attribute_any_ h (by rw [arm_eval_Attribute, hb])
end
noncomputable def tFld (K : PySem.W.Frag) (ta : TE) (f : Str) : TE := fun σ H Q => ta σ H fun x H1 => ∃ a C dx fs v, x = .ref a ∧ H1 a = some (.ins C dx fs) ∧ Cls K C ∧ NoAttr K C f ∧ fs.lookup f = some v ∧ Q v H1
noncomputable def sFld (K : PySem.W.Frag) (ta tv : TE) (f : Str) : TS := fun D σ H => tv σ H fun y H1 => ta σ H1 fun x H2 => ∃ a C dx fs, x = .ref a ∧ H2 a = some (.ins C dx fs) ∧ Cls K C ∧ NoAttr K C f ∧ fs.length < 1000 ∧
  D.nx σ (upd H2 a (.ins C dx (putF f y fs)))
section
variable {X : Cx} {o e value : Expr} {f : Str} {pos pos' tpos : Pos} {ta tv : TE}
theorem pe_fld (he : PE X e ta) (hb : attributeBase e f X.env (eval e X.env) = eval e X.env) : PE X (.Attribute e f pos) (tFld X.K ta f) := by
  intro pins s σ H Q I h
  refine attr_of hb (thn (he pins s σ H _ I h) fun u s1 ⟨x, H1, I1, rx, a, C, dx, fs, v, ex, ea, c, n, l, q⟩ => ?_)
  subst ex
  obtain rfl : u = Value.ref a := rx
  exact getattr_ok I1 ea c n l fun u' s2 I2 ru => ⟨v, H1, I2, ru, q⟩
theorem ps_fld (ha : PE X o ta) (hv : PE X value tv) (hs : swapsWith value (some (.Attribute o f pos')) pos.line X.env = pure false) : PS X (.Assign [.Attribute o f pos'] value pos) (sFld X.K ta tv f) := by
  intro pins s σ H D I h
  refine plainObj_wpAny_Assign_Attribute (thn (hv pins s σ H _ I h) fun u s1 ⟨y, H1, I1, ry, q⟩ => thn (ha pins s1 σ H1 _ I1 q) fun ov s2 ⟨x, H2, I2, rx, a, C, dx, fs, ex, ea, c, n, l, q2⟩ => ?_) hs
  subst ex
  obtain rfl : ov = Value.ref a := rx
  exact setattr_ok I2 ea c n l ry fun s3 I3 => ⟨σ, _, I3, q2⟩
theorem methcall_of {pl : Sem Bool} {m : Str} {apos : Pos} {args : List Expr} {pins : List (Addr × Obj)} {s : Shared} {σ : St} {H : Hp} {Q : Value → Shared → Prop} {te : TE} (he : PE X e te) (I : Inv X pins σ H s)
    (h : te σ H fun x H1 => ∃ a C dx fs g, x = .ref a ∧ H1 a = some (.ins C dx fs) ∧ Cls X.K C ∧ Meth X.K C m g ∧ fs.lookup m = none ∧
      ∀ s1, Inv X pins σ H1 s1 → wpAny (model X.prog X.w) X.A (callWith pos (.ref g) [.ref a] (backTo pos (starEach args X.env)) (backToKw pos (keywordEach [] X.env))) Q X.xe s1)
    (ht : eval (.Call (.Attribute e m apos) args [] pos) X.env = (do
      let ov ← eval e X.env
      standAt apos.atName
      let (f, first) ← holding [ov] (getMethod ov m pl)
      callWith pos f first (backTo pos (starEach args X.env)) (backToKw pos (keywordEach [] X.env)))) :
    wpAny (model X.prog X.w) X.A (eval (.Call (.Attribute e m apos) args [] pos) X.env) Q X.xe s := by
  refine PySem.W.methodCall_KW (pl := pl) (thn (he pins s σ H _ I h) fun u s1 ⟨x, H1, I1, rx, a, C, dx, fs, g, ex, ea, c, k, l, q⟩ => ?_) ht
  subst ex
  obtain rfl : u = Value.ref a := rx
  exact getmeth_ok I1 ea c k l (q s1 I1)
end
section
variable {X : Cx} {pins : List (Addr × Obj)} {σ : St} {H : Hp} {s : Shared} {A : Around} {E : Value → Shared → Prop} {Q : Value → Shared → Prop} {c : Value} {b : Bool}
inductive TyOf (K : PySem.W.Frag) (H : Hp) : V → Value → Prop where
  | non : TyOf K H .non (.type "NoneType")
  | bl (x : Bool) : TyOf K H (.bl x) (.type "bool")
  | int (i : Int) : TyOf K H (.int i) (.type "int")
  | str (x : Str) : TyOf K H (.str x) (.type "str")
  | flt (x : UInt64) : TyOf K H (.flt x) (.type "float")
  | lst {a : Addr} {xs : List V} (e : H a = some (.lst xs)) : TyOf K H (.ref a) (.type "list")
  | frz {a : Addr} {o : Obj} {xs : List V} (e : H a = some (.frz o (.lst xs))) : TyOf K H (.ref a) (.type "list")
  | tup {a : Addr} {xs : List V} (e : H a = some (.tup xs)) : TyOf K H (.ref a) (.type "tuple")
  | dK {a : Addr} {kvs : List (Key × V)} (e : H a = some (.dK kvs)) : TyOf K H (.ref a) (.type "dict")
  | dT {a : Addr} {kvs : List (List Key × V)} (e : H a = some (.dT kvs)) : TyOf K H (.ref a) (.type "dict")
  | ins {a C dx : Addr} {fs : List (Str × V)} (e : H a = some (.ins C dx fs)) (cl : Cls K C) (ha : PySem.W.findIn K (.ref C) "__class__" = some (some (.builtin "object.__class__")))
      (hn : PySem.W.specialIn K (.builtin "object.__class__") "__get__" = some (some (.builtin "getset_descriptor.__get__"))) (htk : PySem.W.takesIn K (.builtin "object.__class__") = some true)
      (hm : PySem.W.mroIn K C (.type "object") = some true) : TyOf K H (.ref a) (.ref C)
theorem isinst_ok {x : V} {u t : Value} (I : Inv X pins σ H s) (rx : RelV x u) (ty : TyOf X.K H x t) (e : PySem.W.kitOne X.K t c = some b) (h : ∀ tk, Q (.bool b) { s with toks := tk }) :
    wpAny (model X.prog X.w) A (call (.builtin "isinstance") [u, c]) Q E s := by
  cases ty with
  | non => cases (show u = Value.none from rx); exact PySem.W.kia_one PySem.W.kitx_none I.kIn True.intro e (fun z => nomatch z) h
  | bl y => cases (show u = Value.bool y from rx); exact PySem.W.kia_one PySem.W.kitx_bool I.kIn True.intro e (fun z => nomatch z) h
  | int i => obtain ⟨t, q⟩ := (show ∃ t, u = Value.int i t from rx); cases q; exact PySem.W.kia_one PySem.W.kitx_int I.kIn True.intro e (fun z => nomatch z) h
  | str y => obtain ⟨t, q⟩ := (show ∃ t, u = Value.str y t from rx); cases q; exact PySem.W.kia_one PySem.W.kitx_str I.kIn True.intro e (fun z => nomatch z) h
  | flt y => obtain ⟨t, q⟩ := (show ∃ t, u = Value.float y t from rx); cases q; exact PySem.W.kia_one PySem.W.kitx_float I.kIn True.intro e (fun z => nomatch z) h
  | @lst a xs ea =>
    cases (show u = Value.ref a from rx)
    obtain ⟨_, _, n, _, h1⟩ := (show ObjOk X.prog X.w H s.heap a (.lst xs) from I.hok a _ ea)
    exact PySem.W.kia_one PySem.W.kitx_list I.kIn ⟨_, h1, rfl⟩ e (fun z => nomatch z) h
  | @frz a ob xs ea =>
    cases (show u = Value.ref a from rx)
    obtain ⟨_, _, _, n, _, h1⟩ := (show ObjOk X.prog X.w H s.heap a (.frz ob (.lst xs)) from I.hok a _ ea)
    exact PySem.W.kia_one PySem.W.kitx_list I.kIn ⟨_, h1, rfl⟩ e (fun z => nomatch z) h
  | @tup a xs ea =>
    cases (show u = Value.ref a from rx)
    obtain ⟨_, _, _, p⟩ := (show ObjOk X.prog X.w H s.heap a (.tup xs) from I.hok a _ ea)
    obtain ⟨o, h1, h2, _⟩ := p
    exact PySem.W.kia_one PySem.W.kitx_tuple I.kIn ⟨o, h1, h2⟩ e (fun z => nomatch z) h
  | @dK a kvs ea =>
    cases (show u = Value.ref a from rx)
    obtain ⟨_, _, vs, _, p⟩ := (show ObjOk X.prog X.w H s.heap a (.dK kvs) from I.hok a _ ea)
    obtain ⟨o, es, ep, h1, h2, _⟩ := p
    exact PySem.W.kia_one PySem.W.kitx_dict I.kIn ⟨o, h1, h2.1⟩ e (fun z => nomatch z) h
  | @dT a kvs ea =>
    cases (show u = Value.ref a from rx)
    obtain ⟨_, _, xs, _, o, es, ep, h1, h2, _⟩ := (show ObjOk X.prog X.w H s.heap a (.dT kvs) from I.hok a _ ea)
    exact PySem.W.kia_one PySem.W.kitx_dict I.kIn ⟨o, h1, h2.1⟩ e (fun z => nomatch z) h
  | @ins a C dx fs ea cl ha hn htk hm =>
    cases (show u = Value.ref a from rx)
    obtain ⟨mA, O, _⟩ := ins_get I.hok ea
    obtain ⟨od, J, _⟩ := O.look
    exact PySem.W.kia_one (PySem.W.kitx_own (cl.get _) cl.hd ha hn htk hm) I.kIn J e (fun z => nomatch z) h
end
end L2
namespace L2
open PySem PySem.Spec PyProof.Rows
structure Room (k : Nat) (A : Around) : Prop where
  hd : A.handled = none
  dp : A.depth + 3 * k + 5 < recursionLimit
  un : A.units + 16 * k + 200 < cLine
theorem Room.mono {j k : Nat} {A : Around} (r : Room k A) (h : j ≤ k) : Room j A := ⟨r.hd, by have := r.dp; omega, by have := r.un; omega⟩
theorem Room.deeper {k : Nat} {A : Around} (r : Room (k + 1) A) (env : Env) : Room k (A.deeper env) :=
  ⟨r.hd, by have := r.dp; show A.depth + 1 + 3 * k + 5 < _; omega, by have := r.un; show A.units + 3 + 16 * k + 200 < _; omega⟩
theorem make_depth {A : Around} {C : Addr} {us : List Value} {kw : List (Str × Value)} : (A.under (.builtin "type.__call__" ⟨.ref C :: us, kw⟩)).depth = A.depth + 1 := by
  first | rfl | simp [Around.under, Code.weight, Code.isCreation, Code.isGuard, Code.isCaller, Code.frames, Code.isFrame, guardIds]
theorem make_units {A : Around} {C : Addr} {us : List Value} {kw : List (Str × Value)} : (A.under (.builtin "type.__call__" ⟨.ref C :: us, kw⟩)).units = A.units + 1 := by
  first | rfl | simp [Around.under, Code.cUnits, Code.frames, Code.isFrame]
theorem Room.make {k : Nat} {A : Around} (r : Room (k + 1) A) (C : Addr) (us : List Value) (kw : List (Str × Value)) : Room k (A.under (.builtin "type.__call__" ⟨.ref C :: us, kw⟩)) :=
  ⟨r.hd, by have := r.dp; rw [make_depth]; omega, by have := r.un; rw [make_units]; omega⟩
theorem Room.depth {k : Nat} {A : Around} (r : Room k A) : A.depth < recursionLimit := by have := r.dp; omega
theorem Room.units {k : Nat} {A : Around} (r : Room k A) : A.units + 64 < cLine := by have := r.un; omega
noncomputable def tNil : TA := fun _ H Q => Q [] H
noncomputable def tCons (ta : TE) (tr : TA) : TA := fun σ H Q => ta σ H fun x H1 => tr σ H1 fun xs H2 => Q (x :: xs) H2
section
variable {X : Cx} {e : Expr} {es : List Expr} {te : TE} {t : TA} {pos : Pos}
theorem pa_nil : PA X [] tNil := fun _ _ _ _ H Q I h => Calls.spliced_nil ⟨[], H, I, .nil, h⟩
theorem pa_cons (ha : PE X e te) (hr : PA X es t) (hs : starEach (e :: es) X.env = (false, eval e X.env) :: starEach es X.env := by rfl) : PA X (e :: es) (tCons te t) := by
  intro pos pins s σ H Q I h
  rw [hs]
  show wpAny _ _ (spliced ((false, eval e X.env) :: backTo pos (starEach es X.env))) _ _ s
  refine Calls.spliced_cons (thn (ha pins s σ H _ I h) fun u s1 ⟨x, H1, I1, r1, q1⟩ => ?_)
  exact thn (hr pos pins s1 σ H1 _ I1 q1) fun us s2 ⟨xs, H2, I2, r2, q2⟩ => ⟨x :: xs, H2, I2, .cons r1 r2, q2⟩
noncomputable def tTup (t : TA) : TE := fun σ H Q => t σ H fun xs H1 => xs.length ≤ sizeLine ∧ ∀ p, H1 p = none → Q (.ref p) (upd H1 p (.tup xs))
noncomputable def tLst (t : TA) : TE := fun σ H Q => t σ H fun xs H1 => xs.length ≤ sizeLine ∧ ∀ p, H1 p = none → Q (.ref p) (upd H1 p (.lst xs))
theorem pe_tup {x1} (h : PA X es t) : PE X (.Tuple es x1 pos) (tTup t) := by
  intro pins s σ H Q I hq
  refine wpAny_Tuple_spliced (thn (h pos pins s σ H _ I hq) fun us s1 ⟨xs, H1, I1, r, z, q⟩ => ⟨by rw [← r.length]; exact z, ?_⟩)
  have hf : H1 s1.heap.objs.size = none := I1.hok.fresh (Nat.le_refl _)
  refine ⟨.ref s1.heap.objs.size, upd H1 s1.heap.objs.size (.tup xs), I1.laid (t' := s1.toks) (fun b u e => Heap.get?_push_of_some _ e) (Nat.le_refl _) ?_, rfl, q _ hf⟩
  exact ⟨z, us, r, ⟨_, Heap.get?_push_size _ rfl, rfl, _, rfl⟩⟩
theorem pe_lst (h : PA X es t) : PE X (.List es pos) (tLst t) := by
  intro pins s σ H Q I hq
  refine wpAny_List_spliced (thn (h pos pins s σ H _ I hq) fun us s1 ⟨xs, H1, I1, r, z, q⟩ => ⟨by rw [← r.length]; exact z, ?_⟩)
  have hf : H1 s1.heap.objs.size = none := I1.hok.fresh (Nat.le_refl _)
  refine ⟨.ref s1.heap.objs.size, upd H1 s1.heap.objs.size (.lst xs), I1.laid (t' := s1.toks) (fun b u e => Heap.get?_push_of_some _ e) (Nat.le_refl _) ?_, rfl, q _ hf⟩
  exact ⟨z, us, 0, r, Heap.get?_push_size _ rfl⟩
end
noncomputable abbrev Sp := List V → Hp → VK → XK → Prop
noncomputable abbrev CXT := List Env → Hp → Shared → XK → Value → Shared → Prop
structure Env0 (P : Program) (w : World) (K : PySem.W.Frag) (mg : Str → Option Value) (base : Heap) (A : Around) (outer : List Env) (s : Shared) (H : Hp) : Prop where
  frames : A.frames = some outer
  mod : Mod K mg base
  bs : ∀ b o, base.get? b = some o → s.heap.get? b = some o ∧ H b = none
  bsz : base.objs.size ≤ s.heap.objs.size
  funs : s.heap.FunFrames base outer
  frf : ∀ b ∈ frs outer, H b = none
  hok : HOk P w H s.heap
  bare : AllBare s.gens
noncomputable def CE (outer : List Env) (P : Program) (w : World) (H : Hp) (s : Shared) (Q : VK) (u : Value) (s' : Shared) : Prop :=
  ∃ v H', s'.os = s.os ∧ AllBare s'.gens ∧ Un (frs outer) [] H H' s.heap s'.heap ∧ HOk P w H' s'.heap ∧ RelV v u ∧ Q v H'
noncomputable def CR (CX : CXT) (outer : List Env) (P : Program) (w : World) (H : Hp) (s : Shared) (Q : VK) (E : XK) (r : Result) (s' : Shared) : Prop :=
  match r with
  | .ok (.ret u) => CE outer P w H s Q u s'
  | .ok _ => False
  | .error e => CX outer H s E e s'
structure FnOk (P : Program) (w : World) (K : PySem.W.Frag) (mg : Str → Option Value) (base : Heap) (CX : CXT) (k : Nat) (f : Addr) (fd : FuncData) (ps : List Str) (sp : Sp) : Prop where
  len : ∀ vs H Q E, sp vs H Q E → vs.length = ps.length
  run : ∀ (A : Around) (outer : List Env) (s : Shared) (H : Hp) (args : Args) (us : List Value) (vs : List V) (Q : VK) (E : XK), Room k A → Env0 P w K mg base A outer s H → BindsTo s fd args (ps.zip us) → Vals vs us → sp vs H Q E →
    codeAny (model P w) A (.call (.ref f) args) (CR CX outer P w H s Q E) s
theorem FnOk.mono {P : Program} {w : World} {K : PySem.W.Frag} {mg : Str → Option Value} {base : Heap} {CX : CXT} {j k : Nat} {f : Addr} {fd : FuncData} {ps : List Str} {sp : Sp} (F : FnOk P w K mg base CX j f fd ps sp) (h : j ≤ k) :
    FnOk P w K mg base CX k f fd ps sp := ⟨F.len, fun A outer s H args us vs Q E hr => F.run A outer s H args us vs Q E (hr.mono h)⟩
theorem Env0.make {P : Program} {w : World} {K : PySem.W.Frag} {mg : Str → Option Value} {base : Heap} {A : Around} {outer : List Env} {s : Shared} {H : Hp} (e : Env0 P w K mg base A outer s H) (C : Addr) (us : List Value) (kw : List (Str × Value)) :
    Env0 P w K mg base (A.under (.builtin "type.__call__" ⟨.ref C :: us, kw⟩)) outer s H := ⟨by first | exact e.frames | (simpa [Around.under, Code.envs, Code.isFrame, pushEnvs] using e.frames), e.mod, e.bs, e.bsz, e.funs, e.frf, e.hok, e.bare⟩
section
variable {X : Cx} {pins : List (Addr × Obj)} {σ : St} {H : Hp} {s s' : Shared}
theorem Inv.env0 (I : Inv X pins σ H s) : Env0 X.prog X.w X.K X.mg X.base X.A X.stack s H :=
  ⟨I.ok.frames, I.ok.mod, I.bs, Nat.le_trans I.ok.bsz I.sz, I.stack, I.stkFree, I.hok, I.bare⟩
theorem Inv.after {Q : VK} {u : Value} (I : Inv X pins σ H s) (h : CE X.stack X.prog X.w H s Q u s') : EP X pins σ Q u s' := by
  obtain ⟨v, H', os, bare, un, hok, r, q⟩ := h
  obtain ⟨hh, g, d, t, os'⟩ := s'
  obtain rfl : os' = s.os := os
  exact ⟨v, H', I.call (h' := hh) (g' := g) (d' := d) (t' := t) (ch := []) un hok bare (fun b z => absurd z (by simp)), r, q⟩
end
noncomputable def tCall (sp : Sp) (dvs : List V) (E : XK) (t : TA) : TE := fun σ H Q => t σ H fun vs H1 => sp (vs ++ dvs) H1 Q E
noncomputable def tMeth (C : Addr) (m : Str) (sp : Sp) (dvs : List V) (E : XK) (ta : TE) (t : TA) : TE := fun σ H Q => ta σ H fun x H1 => ∃ a dx fs, x = .ref a ∧ H1 a = some (.ins C dx fs) ∧ fs.lookup m = none ∧
  t σ H1 fun vs H2 => sp (x :: (vs ++ dvs)) H2 Q E
noncomputable def tMake (C : Addr) (sp : Sp) (dvs : List V) (E : XK) (t : TA) : TE := fun σ H Q => t σ H fun vs H1 => ∀ x dx, H1 x = none → H1 dx = none → dx ≠ x →
  sp (.ref x :: (vs ++ dvs)) (upd (upd H1 dx (.own x)) x (.ins C dx [])) (fun v H2 => v = .non ∧ Q (.ref x) H2) E
noncomputable def Binds (K : PySem.W.Frag) (fd : FuncData) (ps : List Str) (ds : List Value) : Prop :=
  ∀ (s : Shared) (us : List Value), K.In s.heap → (us ++ ds).length = ps.length → BindsTo s fd ⟨us, []⟩ (ps.zip (us ++ ds))
theorem Binds.all {K : PySem.W.Frag} {fd : FuncData} {ps : List Str} (h : ∀ us : List Value, us.length = ps.length → bindArgs fd ⟨us, []⟩ = pure (ps.zip us)) : Binds K fd ps [] := fun s us _ hl => by
  rw [List.append_nil] at hl ⊢
  exact .of_eq (h us hl)
noncomputable def Passes (CX : CXT) (X : Cx) (E : XK) : Prop := ∀ (pins : List (Addr × Obj)) (σ : St) (H : Hp) (s : Shared) (e : Value) (s' : Shared), Inv X pins σ H s → CX X.stack H s E e s' → X.xe e s'
section
variable {X : Cx} {CX : CXT} {k : Nat} {f C : Addr} {fd : FuncData} {ps : List Str} {sp : Sp} {dvs : List V} {ds : List Value} {E : XK} {x m : Str} {p pos apos : Pos} {e o : Expr} {es : List Expr} {ta : TE} {t : TA}
theorem run_fn {pins : List (Addr × Obj)} {σ : St} {H : Hp} {s : Shared} {Q : VK} {us : List Value} {vs : List V} (F : FnOk X.prog X.w X.K X.mg X.base CX k f fd ps sp) (hr : Room k X.A) (hb : Binds X.K fd ps ds) (hd : Vals dvs ds) (hx : Passes CX X E)
    (I : Inv X pins σ H s) (r : Vals vs us) (h : sp (vs ++ dvs) H Q E) : wpAny (model X.prog X.w) X.A (call (.ref f) us) (EP X pins σ Q) X.xe s := by
  have r2 : Vals (vs ++ dvs) (us ++ ds) := r.append hd
  have hl : (us ++ ds).length = ps.length := by rw [← r2.length]; exact F.len _ _ _ _ h
  refine wpAny_call (codeAny_mono (F.run X.A X.stack s H ⟨us, []⟩ (us ++ ds) (vs ++ dvs) Q E hr I.env0 (hb s us I.kIn hl) r2 h) fun r s' hq => ?_)
  cases r with
  | error e => exact hx pins σ H s e s' I hq
  | ok fl =>
    cases fl with
    | ret u => exact I.after hq
    | next => exact False.elim hq
    | brk => exact False.elim hq
    | cont => exact False.elim hq
theorem pe_call (F : FnOk X.prog X.w X.K X.mg X.base CX k f fd ps sp) (hr : Room k X.A) (hg : Gl X x) (hm : X.mg x = some (.ref f)) (hk : PySem.W.keepIn X.K (.ref f) = true) (hb : Binds X.K fd ps ds) (hd : Vals dvs ds) (hx : Passes CX X E)
    (ha : PA X (e :: es) t) (hdb : (x == ("__debug__" : Str)) = false := by decide) (he : starEach (e :: es) X.env = (false, eval e X.env) :: starEach es X.env := by rfl) (hpl : (backTo pos (starEach es X.env)).any (·.1) = false := by rfl) :
    PE X (.Call (.Name x p) (e :: es) [] pos) (tCall sp dvs E t) := by
  intro pins s σ H Q I h
  refine wpAny_Call_Name_kw (ld_glob I hg hm ?_ hdb)
  refine PySem.W.callWith_K (h₀ := X.base) I.ok.mod.kin hk (thn (ha pos pins s σ H _ I h) fun us s1 ⟨vs, H1, I1, r, q⟩ => ⟨I1.kIn, ?_⟩) he hpl
  exact run_fn F hr hb hd hx I1 r q
theorem pe_meth {pl : Sem Bool} (he : PE X o ta) (c : Cls X.K C) (hm : Meth X.K C m f) (F : FnOk X.prog X.w X.K X.mg X.base CX k f fd ps sp) (hr : Room k X.A) (hb : Binds X.K fd ps ds) (hd : Vals dvs ds) (hx : Passes CX X E) (ha : PA X (e :: es) t)
    (hst : starEach (e :: es) X.env = (false, eval e X.env) :: starEach es X.env := by rfl) (hpl : (backTo pos (starEach es X.env)).any (·.1) = false := by rfl)
    (ht : eval (.Call (.Attribute o m apos) (e :: es) [] pos) X.env = (do
      let ov ← eval o X.env
      standAt apos.atName
      let (f, first) ← holding [ov] (getMethod ov m pl)
      callWith pos f first (backTo pos (starEach (e :: es) X.env)) (backToKw pos (keywordEach [] X.env))) := by rfl) :
    PE X (.Call (.Attribute o m apos) (e :: es) [] pos) (tMeth C m sp dvs E ta t) := by
  intro pins s σ H Q I h
  refine PySem.W.methodCall_KW (pl := pl) (thn (he pins s σ H _ I h) fun u s1 ⟨x, H1, I1, rx, a, dx, fs, ex, ea, l, q⟩ => ?_) ht
  subst ex
  obtain rfl : u = Value.ref a := rx
  refine getmeth_ok I1 ea c hm l ?_
  refine PySem.W.callWith_K (first := [.ref a]) (h₀ := X.base) I.ok.mod.kin hm.kp (thn (ha pos pins s1 σ H1 _ I1 q) fun us s2 ⟨vs, H2, I2, r, q2⟩ => ⟨I2.kIn, ?_⟩) hst hpl
  exact run_fn (us := .ref a :: us) (vs := .ref a :: vs) F hr hb hd hx I2 (.cons rfl r) q2
theorem pe_meth0 {pl : Sem Bool} (he : PE X o ta) (c : Cls X.K C) (hm : Meth X.K C m f) (F : FnOk X.prog X.w X.K X.mg X.base CX k f fd ps sp) (hr : Room k X.A) (hb : Binds X.K fd ps ds) (hd : Vals dvs ds) (hx : Passes CX X E)
    (ht : eval (.Call (.Attribute o m apos) [] [] pos) X.env = (do
      let ov ← eval o X.env
      standAt apos.atName
      let (f, first) ← holding [ov] (getMethod ov m pl)
      callWith pos f first (backTo pos (starEach [] X.env)) (backToKw pos (keywordEach [] X.env))) := by rfl) :
    PE X (.Call (.Attribute o m apos) [] [] pos) (tMeth C m sp dvs E ta tNil) := by
  intro pins s σ H Q I h
  refine PySem.W.methodCall_KW (pl := pl) (thn (he pins s σ H _ I h) fun u s1 ⟨x, H1, I1, rx, a, dx, fs, ex, ea, l, q⟩ => ?_) ht
  subst ex
  obtain rfl : u = Value.ref a := rx
  refine getmeth_ok I1 ea c hm l ?_
  exact PySem.W.callWith_K0 (first := [.ref a]) I1.kIn hm.kp (run_fn (us := [.ref a]) (vs := [.ref a]) F hr hb hd hx I1 (.cons rfl .nil) q)
structure Mk (K : PySem.W.Frag) (C f : Addr) : Prop where
  makes : PySem.W.makesIn K C = true
  init : PySem.W.findIn K (.ref C) "__init__" = some (some (.ref f))
  fn : PySem.W.isFn K (.ref f) = true
  kp : PySem.W.keepIn K (.ref C) = true
theorem run_make {pins : List (Addr × Obj)} {σ : St} {H : Hp} {s : Shared} {Q : VK} {us : List Value} {vs : List V} (M : Mk X.K C f) (F : FnOk X.prog X.w X.K X.mg X.base CX k f fd ps sp) (hr : Room (k + 1) X.A) (hb : Binds X.K fd ps ds) (hd : Vals dvs ds)
    (hx : Passes CX X E) (I : Inv X pins σ H s) (r : Vals vs us)
    (h : ∀ x dx, H x = none → H dx = none → dx ≠ x → sp (.ref x :: (vs ++ dvs)) (upd (upd H dx (.own x)) x (.ins C dx [])) (fun v H2 => v = .non ∧ Q (.ref x) H2) E) :
    wpAny (model X.prog X.w) X.A (call (.ref C) us) (EP X pins σ Q) X.xe s := by
  have hq := h (s.heap.objs.size + 1) s.heap.objs.size (I.hok.fresh (Nat.le_succ _)) (I.hok.fresh (Nat.le_refl _)) (Nat.ne_of_lt (Nat.lt_succ_self _))
  have I2 := Inv.made (C := C) I
  have r2 : Vals (V.ref (s.heap.objs.size + 1) :: (vs ++ dvs)) (Value.ref (s.heap.objs.size + 1) :: (us ++ ds)) := .cons rfl (r.append hd)
  have hl : (Value.ref (s.heap.objs.size + 1) :: us ++ ds).length = ps.length := by
    have e := r2.length
    rw [F.len _ _ _ _ hq] at e
    exact e.symm
  refine wpAny_call (make_map (f := f) I.kIn M.makes M.init (beq_iff_eq.mp M.fn) (codeAny_mono (F.run _ X.stack _ _ ⟨Value.ref (s.heap.objs.size + 1) :: us, []⟩ (Value.ref (s.heap.objs.size + 1) :: (us ++ ds)) _ _ E (hr.make C us [])
    (I2.env0.make C us []) (hb _ (Value.ref (s.heap.objs.size + 1) :: us) I2.kIn hl) r2 hq) fun r s' hq' => ?_))
  cases r with
  | error e => exact hx pins σ _ _ e s' I2 hq'
  | ok fl =>
    cases fl with
    | ret u =>
      obtain ⟨v, H', I3, rv, ev, q3⟩ := I2.after hq'
      subst ev
      exact ⟨rv, ⟨V.ref (s.heap.objs.size + 1), H', I3, rfl, q3⟩⟩
    | next => exact False.elim hq'
    | brk => exact False.elim hq'
    | cont => exact False.elim hq'
theorem pe_make (M : Mk X.K C f) (F : FnOk X.prog X.w X.K X.mg X.base CX k f fd ps sp) (hr : Room (k + 1) X.A) (hg : Gl X x) (hm : X.mg x = some (.ref C)) (hb : Binds X.K fd ps ds) (hd : Vals dvs ds) (hx : Passes CX X E)
    (ha : PA X (e :: es) t) (hdb : (x == ("__debug__" : Str)) = false := by decide) (he : starEach (e :: es) X.env = (false, eval e X.env) :: starEach es X.env := by rfl) (hpl : (backTo pos (starEach es X.env)).any (·.1) = false := by rfl) :
    PE X (.Call (.Name x p) (e :: es) [] pos) (tMake C sp dvs E t) := by
  intro pins s σ H Q I h
  refine wpAny_Call_Name_kw (ld_glob I hg hm ?_ hdb)
  refine PySem.W.callWith_K (h₀ := X.base) I.ok.mod.kin M.kp (thn (ha pos pins s σ H _ I h) fun us s1 ⟨vs, H1, I1, r, q⟩ => ⟨I1.kIn, ?_⟩) he hpl
  exact run_make M F hr hb hd hx I1 r q
end
section
variable {X : Cx} {CX : CXT} {k : Nat} {f C : Addr} {fd : FuncData} {ps ks : List Str} {sp : Sp} {E : XK} {x m : Str} {p pos apos kpos : Pos} {e o : Expr} {es : List Expr} {kws : List Keyword} {te ta : TE} {t tk : TA} {nm : Option Str}
structure KBinds (K : PySem.W.Frag) (fd : FuncData) (ps ks : List Str) (g : List Value → List Value → List Value) (gV : List V → List V → List V) : Prop where
  to : ∀ (s : Shared) (us ws : List Value), K.In s.heap → (g us ws).length = ps.length → BindsTo s fd ⟨us, ks.zip ws⟩ (ps.zip (g us ws))
  rel : ∀ {vs : List V} {us : List Value} {zs : List V} {ws : List Value}, Vals vs us → Vals zs ws → Vals (gV vs zs) (g us ws)
variable {g : List Value → List Value → List Value} {gV : List V → List V → List V}
end
structure FnScope (N P : List Str) (sc : Scope) : Prop where
  kind : sc.kind = .function
  co : sc.isCoroutine = false
  gen : sc.isGenerator = false
  nd : N.Nodup
  pre : N.take P.length = P
  par : ∀ x ∈ P, sc.names.lookup x = some .local ∨ sc.names.lookup x = some .cell
  nofree : ∀ y ∈ sc.names, y.2 ≠ .free
theorem bindL_out {kindOf : Str → Option NameKind} {x : Str} : ∀ {binds : List (Str × Value)} {m : Str → Option Value}, (∀ v, (x, v) ∉ binds) → bindL kindOf binds m x = m x
  | [], _, _ => rfl
  | (n, v) :: r, m, h => by
    unfold bindL
    rw [bindL_out fun w hw => h w (List.mem_cons_of_mem _ hw)]
    split
    · have : x ≠ n := by rintro rfl; exact h v List.mem_cons_self
      simp [this]
    · rfl
theorem bindC_out {kindOf : Str → Option NameKind} {x : Str} : ∀ {binds : List (Str × Value)} {m : Str → Option Value}, (∀ v, (x, v) ∉ binds) → bindC kindOf binds m x = m x
  | [], _, _ => rfl
  | (n, v) :: r, m, h => by
    unfold bindC
    rw [bindC_out fun w hw => h w (List.mem_cons_of_mem _ hw)]
    split
    · rfl
    · have : x ≠ n := by rintro rfl; exact h v List.mem_cons_self
      simp [this]
theorem bindL_get {kindOf : Str → Option NameKind} {x : Str} {v : Value} : ∀ {P : List Str} {vs : List Value} {i : Nat} {m : Str → Option Value}, P.Nodup → P[i]? = some x → vs[i]? = some v → kindOf x = some .local →
    bindL kindOf (P.zip vs) m x = some v
  | [], _, _, _, _, h, _, _ => by simp at h
  | _ :: _, [], _, _, _, _, h, _ => by simp at h
  | p :: P, w :: vs, 0, m, nd, h1, h2, hk => by
    simp at h1 h2; subst h1; subst h2
    show bindL kindOf ((p, w) :: P.zip vs) m p = _
    unfold bindL
    rw [bindL_out fun v hv => (List.nodup_cons.mp nd).1 (List.of_mem_zip hv).1, if_pos hk]
    simp
  | p :: P, w :: vs, i + 1, m, nd, h1, h2, hk => by
    show bindL kindOf ((p, w) :: P.zip vs) m x = _
    unfold bindL
    exact bindL_get (i := i) (List.nodup_cons.mp nd).2 (by simpa using h1) (by simpa using h2) hk
theorem bindC_get {kindOf : Str → Option NameKind} {x : Str} {v : Value} : ∀ {P : List Str} {vs : List Value} {i : Nat} {m : Str → Option Value}, P.Nodup → P[i]? = some x → vs[i]? = some v → kindOf x ≠ some .local →
    bindC kindOf (P.zip vs) m x = some v
  | [], _, _, _, _, h, _, _ => by simp at h
  | _ :: _, [], _, _, _, _, h, _ => by simp at h
  | p :: P, w :: vs, 0, m, nd, h1, h2, hk => by
    simp at h1 h2; subst h1; subst h2
    show bindC kindOf ((p, w) :: P.zip vs) m p = _
    unfold bindC
    rw [bindC_out fun v hv => (List.nodup_cons.mp nd).1 (List.of_mem_zip hv).1, if_neg hk]
    simp
  | p :: P, w :: vs, i + 1, m, nd, h1, h2, hk => by
    show bindC kindOf ((p, w) :: P.zip vs) m x = _
    unfold bindC
    exact bindC_get (i := i) (List.nodup_cons.mp nd).2 (by simpa using h1) (by simpa using h2) hk
noncomputable def start (N : List Str) (vs : List V) : St := vs.map some ++ List.replicate (N.length - vs.length) none
noncomputable def cxOf (CX : CXT) (P : Program) (w : World) (K : PySem.W.Frag) (mg : Str → Option Value) (base : Heap) (N : List Str) (qual : Str) (scope : Scope) (f : Addr) (cd : Value) (A : Around) (outer : List Env) (s : Shared) (H : Hp) (E : XK) : Cx where
  prog := P
  w := w
  K := K
  mg := mg
  base := base
  A := A.deeper (envOfC qual scope s.heap.objs.size f cd)
  N := N
  s₀ := s
  H₀ := H
  env := envOfC qual scope s.heap.objs.size f cd
  outer := outer
  stack := envOfC qual scope s.heap.objs.size f cd :: outer
  ex := []
  calm := true
  fn := fun _ => true
  pn := []
  xe := fun e s' => wpAny (model P w) (A.deeper (envOfC qual scope s.heap.objs.size f cd)) (leaving (envOfC qual scope s.heap.objs.size f cd) e) (fun _ s'' => CX outer H s E e s'') (fun e' s'' => CX outer H s E e' s'') s'
theorem cell_has {sc : Scope} {n : Nat} {x : Str} (h : sc.names.lookup x = some .cell) : ∃ c, (cellsFrom n sc.names []).lookup x = some c := by
  have q := PySem.W.cellsFrom_some sc.names n [] (.inl h)
  exact Option.isSome_iff_exists.mp q
theorem inv_start {CX : CXT} {P : Program} {w : World} {K : PySem.W.Frag} {mg : Str → Option Value} {base : Heap} {N ps : List Str} {qual : Str} {scope : Scope} {f : Addr} {cd : Value} {A : Around} {outer : List Env} {s s1 : Shared} {H : Hp} {E : XK} {us : List Value} {vs : List V}
    (S : FnScope N ps scope) (hd : A.handled = none) (e0 : Env0 P w K mg base A outer s H) (hl : vs.length = ps.length) (r : Vals vs us)
    (x : InCallC s s.heap.objs.size (bindL (envOfC qual scope s.heap.objs.size f cd).kindOf (ps.zip us) fun _ => none) (cellsFrom (s.heap.objs.size + 1) scope.names []) (bindC (envOfC qual scope s.heap.objs.size f cd).kindOf (ps.zip us) fun _ => none) s1) :
    Inv (cxOf CX P w K mg base N qual scope f cd A outer s H E) [] (start N vs) H s1 := by
  have hpl : ps.length ≤ N.length := by have := congrArg List.length S.pre; rw [List.length_take] at this; omega
  obtain ⟨h1, tk, rfl, hk⟩ := x.done
  have noA : ∀ b : Addr, b ∉ (cxOf CX P w K mg base N qual scope f cd A outer s H E).ex := fun b z => absurd (show b ∈ ([] : List Addr) from z) (by simp)
  refine ⟨⟨e0.mod, S.kind, rfl, rfl, Nat.le_refl _, fun y z c h1 h2 => ?_, fun y hy => ?_, fun y c _ h => ?_, fun _ => hd, Around.frames_deeper e0.frames, .inr ⟨rfl, rfl⟩, fun b z => absurd z (noA b), e0.bs, e0.bsz, fun b _ _ => noA b, fun b z => absurd z (noA b), e0.funs, e0.frf⟩,
    rfl, e0.bare, Un.kept hk, ⟨_, x.toInCall.ns, fun i y v h1 h2 h3 => ?_⟩, fun y c h => ⟨_, x.cell y c h⟩, e0.hok.fresh (Nat.le_refl _), fun y c h => ?_, fun p hp => absurd (show p ∈ ([] : List (Addr × Obj)) from hp) (by simp), e0.hok.kept hk, ?_⟩
  · exact name_of_addr x.apart (PySem.mem_of_lookup h1) (PySem.mem_of_lookup h2)
  · have hy : scope.names.lookup y = some .cell ∨ scope.names.lookup y = some .free := hy
    rcases hy with hy | hy
    · exact cell_has hy
    · exact absurd rfl (S.nofree _ (PySem.mem_of_lookup hy))
  · exact Nat.le_of_lt (x.above y c (PySem.mem_of_lookup h))
  · have hi : i < vs.length := by
      unfold start at h2
      by_cases hi : i < vs.length
      · exact hi
      · rw [List.getElem?_append_right (by simpa using hi)] at h2
        rw [List.getElem?_replicate] at h2
        split at h2 <;> cases h2
    have ha : vs[i]? = some v := by
      unfold start at h2
      rw [List.getElem?_append_left (by simpa using hi), List.getElem?_map] at h2
      cases e : vs[i]? with
      | none => rw [e] at h2; cases h2
      | some a => rw [e] at h2; cases h2; rfl
    obtain ⟨u, hu, rv⟩ := r.get ha
    have hp : ps[i]? = some y := by
      rw [← S.pre, List.getElem?_take_of_lt (by omega)]; exact h1
    have ndP : ps.Nodup := by rw [← S.pre]; exact S.nd.sublist (List.take_sublist _ _)
    refine ⟨u, rv, ?_⟩
    rcases S.par y (List.mem_of_getElem? hp) with k | k
    · exact .inl ⟨k, bindL_get ndP hp hu k⟩
    · obtain ⟨c, e⟩ := cell_has (n := s.heap.objs.size + 1) k
      refine .inr ⟨.inl k, c, e, ?_⟩
      have q := x.cell y c e
      rw [bindC_get ndP hp hu (by show scope.names.lookup y ≠ _; rw [k]; decide)] at q
      exact q
  · exact e0.hok.fresh (Nat.le_of_lt (x.above y c (PySem.mem_of_lookup h)))
  · unfold start
    show _ = N.length
    rw [List.length_append, List.length_map, List.length_replicate]
    omega
theorem fn_of {CX : CXT} {P : Program} {w : World} {K : PySem.W.Frag} {mg : Str → Option Value} {base : Heap} {k : Nat} {f : Addr} {name qual : Str} {params : Arguments} {body : List Stmt} {scope : Scope} {dV kV doc pm cdv ct oc : Value} {an od : Option Addr}
    {osl : Array (Option Value)} {N ps : List Str} {sp : Sp} (lk : K.lookup f = some ⟨oc, od, .func (PySem.W.fnOf name qual params body scope dV kV doc pm an cdv ct), osl⟩) (hcd : PySem.W.codeIn K cdv qual = true) (S : FnScope N ps scope)
    (len : ∀ vs H Q E, sp vs H Q E → vs.length = ps.length)
    (hbody : ∀ (A : Around) (outer : List Env) (s : Shared) (H : Hp) (vs : List V) (Q : VK) (E : XK), Room k (A.deeper (envOfC qual scope s.heap.objs.size f cdv)) → sp vs H Q E →
      ∃ t, PSs (cxOf CX P w K mg base N qual scope f cdv A outer s H E) body t ∧ t { nx := fun _ H' => Q .non H', rt := Q } (start N vs) H) :
    FnOk P w K mg base CX (k + 1) f (PySem.W.fnOf name qual params body scope dV kV doc pm an cdv ct) ps sp := by
  refine ⟨len, fun A outer s H args us vs Q E hr e0 hb r hsp => ?_⟩
  have hl := len _ _ _ _ hsp
  have KX : K.In s.heap := e0.mod.kin.keeps fun b o e => (e0.bs b o e).1
  have lim : s.heap.NoLimit := e0.mod.nolimit.keeps fun b o e => (e0.bs b o e).1
  have hkind : ∀ y ∈ ps.zip us, scope.names.lookup y.1 = some .local ∨ (scope.names.lookup y.1 = some .cell ∧ ((cellsFrom (s.heap.objs.size + 1) scope.names []).lookup y.1).isSome = true) := fun ⟨n, v⟩ hy => by
    rcases S.par n (List.of_mem_zip hy).1 with q | q
    · exact .inl q
    · exact .inr ⟨q, PySem.W.cellsFrom_some _ _ _ (.inl q)⟩
  refine codeAny_call_function hr.depth (KX _ _ lk) rfl S.co S.gen rfl (PySem.W.codeRec_of KX hcd) (hb _ _ _ _ ?_)
  refine wpAny_newFunctionEnv_cells S.kind hkind fun env he s1 x => ?_
  subst he
  refine ⟨lim.keeps x.toInCall.keep, codeAny_func ?_⟩
  obtain ⟨t, ht, hq⟩ := hbody A outer s H vs Q E (hr.deeper _) hsp
  have I : Inv (cxOf CX P w K mg base N qual scope f cdv A outer s H E) [] (start N vs) H s1 := inv_start S hr.hd e0 hl r x
  refine wpAny_mono (ht [] s1 (start N vs) H _ I hq) (fun fl s' hs => ?_) fun e s' hs => hs
  have fin : ∀ {σ' : St} {H' : Hp} {v : V} {u : Value}, Inv (cxOf CX P w K mg base N qual scope f cdv A outer s H E) [] σ' H' s' → RelV v u → Q v H' → CE outer P w H s Q u s' :=
    fun {σ' H' v u} J rv q => ⟨v, H', J.os, J.bare, J.base, J.hok, rv, q⟩
  cases fl with
  | ret u =>
    obtain ⟨v, σ', H', J, rv, q⟩ := hs
    exact fin J rv q
  | next =>
    obtain ⟨σ', H', J, q⟩ := hs
    exact fin (v := V.non) (u := Value.none) J rfl q
  | brk =>
    obtain ⟨_, _, _, q⟩ := hs
    exact False.elim q
  | cont =>
    obtain ⟨_, _, _, q⟩ := hs
    exact False.elim q
end L2
namespace L2
open PySem PySem.Spec PyProof.Rows
section
variable {X : Cx} {x : Str} {p pos : Pos} {e : Expr} {es : List Expr} {t : TA} {id T : String} {r : List V → Hp → VK → Prop}
noncomputable def tCB (r : List V → Hp → VK → Prop) (t : TA) : TE := fun σ H Q => t σ H fun vs H1 => r vs H1 Q
theorem pe_callB (hc : CallR X (.builtin id) r) (hg : Gl X x) (hm : X.mg x = none) (hv : bootBuiltins x = some (.builtin id)) (ha : PA X (e :: es) t) (hn : x ≠ "__name__" := by decide) (hdb : (x == ("__debug__" : Str)) = false := by decide)
    (he : starEach (e :: es) X.env = (false, eval e X.env) :: starEach es X.env := by rfl) (hpl : (backTo pos (starEach es X.env)).any (·.1) = false := by rfl) : PE X (.Call (.Name x p) (e :: es) [] pos) (tCB r t) := by
  intro pins s σ H Q I h
  refine wpAny_Call_Name_kw (ld_blt I hg hm hv ?_ hn hdb)
  exact PyProof.Rows.callWith_builtin1 (thn (ha pos pins s σ H _ I h) fun us s1 ⟨vs, H1, I1, r1, q1⟩ => hc pins s1 σ H1 vs us Q I1 r1 q1) he hpl
theorem pe_callTy (hc : CallR X (.type T) r) (hg : Gl X x) (hm : X.mg x = none) (hv : bootBuiltins x = some (.type T)) (ha : PA X (e :: es) t) (hn : x ≠ "__name__" := by decide) (hdb : (x == ("__debug__" : Str)) = false := by decide)
    (he : starEach (e :: es) X.env = (false, eval e X.env) :: starEach es X.env := by rfl) (hpl : (backTo pos (starEach es X.env)).any (·.1) = false := by rfl) : PE X (.Call (.Name x p) (e :: es) [] pos) (tCB r t) := by
  intro pins s σ H Q I h
  refine wpAny_Call_Name_kw (ld_blt I hg hm hv ?_ hn hdb)
  exact PyProof.Rows.callWith_type1 (thn (ha pos pins s σ H _ I h) fun us s1 ⟨vs, H1, I1, r1, q1⟩ => hc pins s1 σ H1 vs us Q I1 r1 q1) he hpl
end
end L2
namespace HT
open PySem PyProof.Rows
section
open PySem.SeqAt
open PySem.AutoSeq1 (wpAny_loadPart')
open PySem.MeetsSeq PySem.MeetsSeq2 PySem.MeetsSeq3
end
section
variable {prog : Program} {w : World} {A : Around} {E : Value → Shared → Prop} {s : Shared}
theorem cat_tup {t b : Addr} {vs ws : List Value} {Q : Value → Shared → Prop} (ht : IsTup s.heap t vs.toArray) (hb : IsTup s.heap b ws.toArray) (hv : vs ≠ [])
    (h1 : ws = [] → Q (.ref t) s) (h2 : ws ≠ [] → Q (.ref s.heap.objs.size) { s with heap := s.heap.push { cls := .type "tuple", data := .seq (vs ++ ws).toArray } })
    (hsz : vs.length + ws.length ≤ sizeLine) : wpAny (model prog w) A (binaryOp .Add (.ref t) (.ref b)) Q E s := by
  obtain ⟨⟨cls, dd, data, sl⟩, ho, hc, n, hd⟩ := id ht
  obtain ⟨⟨cls2, dd2, data2, sl2⟩, ho2, hc2, n2, hd2⟩ := id hb
  simp only at hc hd hc2 hd2
  subst hc hd hc2 hd2
  have e : vs.toArray ++ ws.toArray = (vs ++ ws).toArray := by simp
  by_cases hw : ws = []
  · exact concat_meets ⟨_, ho, rfl⟩ ⟨_, ho2, rfl⟩ noFill_tuple_add seq_tuple_add PySem.F.slot_tuple_add PySem.F.entry_tuple_add (PySem.F.args_tuple_add_2 _ _)
      (tuple_addW1 t b vs.toArray ws.toArray n n2 dd dd2 sl sl2 (by simpa using hv) (by simp [hw])) ⟨ho, ho2, h1 hw⟩
  · refine concat_meets ⟨_, ho, rfl⟩ ⟨_, ho2, rfl⟩ noFill_tuple_add seq_tuple_add PySem.F.slot_tuple_add PySem.F.entry_tuple_add (PySem.F.args_tuple_add_2 _ _)
      (tuple_addW2 t b vs.toArray ws.toArray n n2 dd dd2 sl sl2 (by simpa using hv) (by simpa using hw) (by rw [List.size_toArray, List.size_toArray]; exact hsz)) ⟨ho, ho2, ?_⟩
    rw [e]
    exact h2 hw
end
end HT
namespace L2
open PySem PySem.Spec PyProof.Rows
theorem intsAre_of {ns : List Int} : ∀ {us : List Value}, Vals (ns.map V.int) us → IntsAre us ns := by
  induction ns with
  | nil => intro us r; rw [List.map_nil] at r; cases r; exact .nil
  | cons n ns ih =>
    intro us r
    rw [List.map_cons] at r
    cases r with
    | cons r1 r2 =>
      obtain ⟨t, e⟩ := r1
      subst e
      exact .cons n t (ih r2)
section
variable {X : Cx} {e : Expr} {te : TE} {lo hi : Option Expr} {tl th : TO} {pos p2 : Pos}
noncomputable def rCatT (K : PySem.W.Frag) : R2 := fun x y H Q => ∃ a b xs ys, x = .ref a ∧ y = .ref b ∧ SqT K H a xs ∧ SqT K H b ys ∧ xs ≠ [] ∧ xs.length + ys.length ≤ sizeLine ∧
  (ys = [] → Q (.ref a) H) ∧ (ys ≠ [] → ∀ p, H p = none → Q (.ref p) (upd H p (.tup (xs ++ ys))))
theorem Vals.nil_iff {xs : List V} {us : List Value} (r : Vals xs us) : us = [] ↔ xs = [] := by
  cases r with
  | nil => simp
  | cons _ _ => simp
theorem op_catT : OpR X (binaryOp .Add) (rCatT X.K) := by
  intro pins s σ H x y v u Q I rx ry h
  obtain ⟨a, b, xs, ys, rfl, rfl, ha, hb, hx, hz, q1, q2⟩ := h
  cases rx
  cases ry
  obtain ⟨its, r1, p1, _⟩ := I.tuple ha
  obtain ⟨its2, r2, p2, _⟩ := I.tuple hb
  refine HT.cat_tup p1 p2 (fun z => hx (r1.nil_iff.mp z)) (fun z => ⟨.ref a, H, I, rfl, q1 (r2.nil_iff.mp z)⟩) (fun z => ?_) (by rw [← r1.length, ← r2.length]; exact hz)
  refine ⟨.ref s.heap.objs.size, _, I.laid (t' := s.toks) (o := .tup (xs ++ ys)) (fun b ob q => Heap.get?_push_of_some _ q) (Nat.le_refl _) ?_, rfl, q2 (fun w => z (r2.nil_iff.mpr w)) _ (I.hok.fresh (Nat.le_refl _))⟩
  exact ⟨by rw [List.length_append]; exact hz, _, r1.append r2, IsTup.new _ _⟩
end
end L2
namespace L2
open PySem PySem.Spec PyProof.Rows
noncomputable def ixN (n : Nat) (i : Int) : Option Nat := if 0 ≤ i then (if i < n then some i.toNat else none) else if -(n : Int) ≤ i then some (i + n).toNat else none
noncomputable def atI {α : Type} (xs : List α) (i : Int) : Option α := (ixN xs.length i).bind fun j => xs[j]?
theorem ixN_seq {n : Nat} {i : Int} {j : Nat} (h : ixN n i = some j) : seqIndex? i n = some j ∧ j < n ∧ -(n : Int) ≤ i ∧ i < n := by
  unfold ixN at h
  by_cases h0 : 0 ≤ i
  · rw [if_pos h0] at h
    by_cases h1 : i < n
    · rw [if_pos h1] at h
      have e : i.toNat = j := Option.some.inj h
      exact ⟨by rw [seqIndex_of h0 h1, e], by omega, by omega, h1⟩
    · rw [if_neg h1] at h; cases h
  · rw [if_neg h0] at h
    by_cases h1 : -(n : Int) ≤ i
    · rw [if_pos h1] at h
      have e : (i + n).toNat = j := Option.some.inj h
      exact ⟨by rw [seqIndex_neg (by omega) h1, e], by omega, h1, by omega⟩
    · rw [if_neg h1] at h; cases h
theorem atI_get {α : Type} {xs : List α} {i : Int} {v : α} (h : atI xs i = some v) : ∃ j, seqIndex? i xs.length = some j ∧ xs[j]? = some v ∧ j < xs.length ∧ -(xs.length : Int) ≤ i ∧ i < xs.length := by
  unfold atI at h
  cases e : ixN xs.length i with
  | none => rw [e] at h; cases h
  | some j =>
    rw [e] at h
    obtain ⟨h1, h2, h3, h4⟩ := ixN_seq e
    exact ⟨j, h1, h, h2, h3, h4⟩
noncomputable def PlainIx (b : Expr) : Prop := ∀ o i, subscripted b false o i = operate [o, i] (getItem o i)
noncomputable def IxR (X : Cx) (r : R2) : Prop :=
  ∀ (value slice : Expr) (pins : List (Addr × Obj)) (s : Shared) (σ : St) (H : Hp) (x y : V) (v u : Value) (Q : VK), Inv X pins σ H s → RelV x v → RelV y u → r x y H Q →
    subscripted slice false v u = operate [v, u] (getItem v u) → wpAny (model X.prog X.w) X.A (subscriptTail value slice v u) (EP X pins σ Q) X.xe s
noncomputable def MtR (X : Cx) (id : String) (r : V → List V → Hp → VK → Prop) : Prop :=
  ∀ (pins : List (Addr × Obj)) (s : Shared) (σ : St) (H : Hp) (x : V) (xs : List V) (v : Value) (us : List Value) (Q : VK), Inv X pins σ H s → RelV x v → Vals xs us → r x xs H Q →
    wpAny (model X.prog X.w) X.A (call (.builtin id) (v :: us)) (EP X pins σ Q) X.xe s
section
variable {X : Cx} {a b : Expr} {ta tb : TE} {pos : Pos}
theorem IxR.or {r r' : R2} (h : IxR X r) (h' : IxR X r') : IxR X (fun x y H Q => r x y H Q ∨ r' x y H Q) := by
  intro value slice pins s σ H x y v u Q I rx ry q hs
  rcases q with q | q
  · exact h value slice pins s σ H x y v u Q I rx ry q hs
  · exact h' value slice pins s σ H x y v u Q I rx ry q hs
theorem pe_ix {r : R2} (hr : IxR X r) (ha : PE X a ta) (hb : PE X b tb) (hs : PlainIx b) : PE X (.Subscript a b pos) (tOp r ta tb) := by
  intro pins s σ H Q I h
  exact Subscript_ (binT ha hb I h fun v u s2 x y H2 I2 rx ry q => hr a b pins s2 σ H2 x y v u Q I2 rx ry q (hs _ _))
noncomputable def rIxL (K : PySem.W.Frag) : R2 := fun x y H Q => ∃ p xs i v, x = .ref p ∧ y = .int i ∧ SqL K H p xs ∧ atI xs i = some v ∧ Q v H
noncomputable def rIxT (K : PySem.W.Frag) : R2 := fun x y H Q => ∃ p xs i v, x = .ref p ∧ y = .int i ∧ SqT K H p xs ∧ atI xs i = some v ∧ Q v H
noncomputable def rIxS : R2 := fun x y H Q => ∃ z i c, x = .str z ∧ y = .int i ∧ z.length ≤ sizeLine ∧ atI z.cps.toList i = some c ∧ Q (.str ⟨#[c]⟩) H
theorem ix_list : IxR X (rIxL X.K) := by
  intro value slice pins s σ H x y v u Q I rx ry h hs
  obtain ⟨p, xs, i, z, rfl, rfl, hq, he, q⟩ := h
  cases rx
  obtain ⟨t, rfl⟩ := ry
  obtain ⟨its, r, pl, hz⟩ := I.list hq
  obtain ⟨j, h1, h2, h3, h4, h5⟩ := atI_get he
  obtain ⟨w, ew, rw'⟩ := r.get h2
  have hl := r.length
  have hn := line63
  have fin : EP X pins σ Q w s := ⟨z, H, I, rw', q⟩
  by_cases h0 : 0 ≤ i
  · have hj : i.toNat = j := by
      rw [seqIndex_of h0 h5] at h1
      exact Option.some.inj h1
    exact item_listR pl.isList h0 (by omega) (by rw [hj]; simpa using ew) fin hs
  · have hj : (i + (its.toArray.size : Int)).toNat = j := by
      rw [seqIndex_neg (by omega) h4] at h1
      rw [List.size_toArray, ← hl]
      exact Option.some.inj h1
    exact subscriptTail_builtinR (x := w) pl.isList.typeIs slot_list_getitem.lookup
      (wpAny_getItem_list_neg (Q := fun r s' => r = w ∧ EP X pins σ Q r s') pl.isList (by omega) (by rw [List.size_toArray] <;> omega) (by omega) (by rw [hj]; simpa using ew) ⟨rfl, fin⟩) hs
theorem ix_tup : IxR X (rIxT X.K) := by
  intro value slice pins s σ H x y v u Q I rx ry h hs
  obtain ⟨p, xs, i, z, rfl, rfl, hq, he, q⟩ := h
  cases rx
  obtain ⟨t, rfl⟩ := ry
  obtain ⟨its, r, pl, hz⟩ := I.tuple hq
  obtain ⟨j, h1, h2, h3, h4, h5⟩ := atI_get he
  obtain ⟨w, ew, rw'⟩ := r.get h2
  have hl := r.length
  have hn := line63
  have fin : EP X pins σ Q w s := ⟨z, H, I, rw', q⟩
  exact subscriptTail_builtinR (x := w) pl.typeIs slot_tuple_getitem.lookup
    (getItem_tuple (j := j) (Q := fun r s' => r = w ∧ EP X pins σ Q r s') pl (by omega) (by omega) (by rw [List.size_toArray, ← hl]; exact h1) (by simpa using ew) ⟨rfl, fin⟩) hs
theorem ix_str : IxR X rIxS := by
  intro value slice pins s σ H x y v u Q I rx ry h hs
  obtain ⟨z, i, c, rfl, rfl, hz, he, q⟩ := h
  obtain ⟨t, rfl⟩ := rx
  obtain ⟨t', rfl⟩ := ry
  obtain ⟨j, h1, h2, h3, h4, h5⟩ := atI_get he
  have hl : z.cps.toList.length = z.length := by simp [Str.length]
  rw [hl] at h1 h4 h5
  have hn := line63
  exact tail_any (typeIs_str s z t) slot_str_getitem.lookup (getItem_str (c := c) (by
    have e1 : decide (i < -(2 ^ 63 : Int)) = false := decide_eq_false (by omega)
    have e2 : decide (i ≥ 2 ^ 63) = false := decide_eq_false (by omega)
    rw [e1, e2, Bool.or_false]) (by rw [h1]; simpa using h2) ⟨.str ⟨#[c]⟩, H, I.tok _, ⟨_, rfl⟩, q⟩) hs
noncomputable def rIx (K : PySem.W.Frag) : R2 := fun x y H Q => rIxL K x y H Q ∨ rIxT K x y H Q ∨ rIxS x y H Q
theorem ix_seq : IxR X (rIx X.K) := ix_list.or (ix_tup.or ix_str)
theorem mapSeq_set (its : List Value) (n j : Nat) (u : Value) : Obj.mapSeq (·.setIfInBounds j u) { cls := .type "list", data := .seq its.toArray n } = { cls := .type "list", data := .seq (its.set j u).toArray n } := by
  simp [Obj.mapSeq]
theorem Inv.lst {pins : List (Addr × Obj)} {σ : St} {H : Hp} {s : Shared} {p : Addr} {xs : List V} (I : Inv X pins σ H s) (h : H p = some (.lst xs)) :
    ∃ (its : List Value) (n : Nat), Vals xs its ∧ s.heap.get? p = some { cls := .type "list", data := .seq its.toArray n } ∧ xs.length ≤ sizeLine := by
  obtain ⟨z, its, n, r, e⟩ := I.hok p _ h
  exact ⟨its, n, r, e, z⟩
theorem Inv.lstUpd {pins : List (Addr × Obj)} {σ : St} {H : Hp} {s : Shared} {p : Addr} {xs ys : List V} {its its' : List Value} {n n' : Nat} {f : Obj → Obj} (I : Inv X pins σ H s) (h : H p = some (.lst xs))
    (ho : s.heap.get? p = some { cls := .type "list", data := .seq its.toArray n }) (hf : f { cls := .type "list", data := .seq its.toArray n } = { cls := .type "list", data := .seq its'.toArray n' }) (r : Vals ys its') (hz : ys.length ≤ sizeLine) (t : Nat) :
    Inv X pins σ (upd H p (.lst ys)) { s with heap := s.heap.update p f, toks := t } := by
  have e : (s.heap.update p f).get? p = some { cls := .type "list", data := .seq its'.toArray n' } := by
    rw [Heap.get?_update_self f ho (by rw [hf] <;> rfl), hf]
  refine I.write (x := p) (e := p) (by rw [h]; trivial) (.inl rfl) (fun b u hb q => (Heap.get?_update_other _ _ (Ne.symm hb)).trans q) ⟨_, e⟩ ?_
  exact ⟨hz, its', n', r, e⟩
noncomputable def rSetL : V → V → V → Hp → (Hp → Prop) → Prop := fun o i v H Q => ∃ p xs k j, o = .ref p ∧ i = .int k ∧ H p = some (.lst xs) ∧ ixN xs.length k = some j ∧ Q (upd H p (.lst (xs.set j v)))
theorem set_list : PSet X rSetL := by
  intro pins s σ H o i v ov iv u Q I ro ri rv h
  obtain ⟨p, xs, k, j, rfl, rfl, hp, hj, q⟩ := h
  cases ro
  obtain ⟨t, rfl⟩ := ri
  obtain ⟨its, n, r, ho, hz⟩ := I.lst hp
  obtain ⟨h1, h2, h3, h4⟩ := ixN_seq hj
  have hl := r.length
  have hn := line63
  have I' : Inv X pins σ (upd H p (.lst (xs.set j v))) { s with heap := s.heap.update p (Obj.mapSeq (·.setIfInBounds j u)) } :=
    I.lstUpd hp ho (mapSeq_set its n j u) (r.set rv j) (by rw [List.length_set]; exact hz) s.toks
  by_cases h0 : 0 ≤ k
  · have hk : k.toNat = j := by
      rw [seqIndex_of h0 h4] at h1
      exact Option.some.inj h1
    exact PySem.W.ki_setAt ho h0 (by omega) (by rw [List.size_toArray, ← hl]; exact h4) (by rw [hk]; exact ⟨_, I', q⟩)
  · have hk : (k + (its.toArray.size : Int)).toNat = j := by
      rw [seqIndex_neg (by omega) h3] at h1
      rw [List.size_toArray, ← hl]
      exact Option.some.inj h1
    exact PySem.W.ki_setBack ho (by omega) (by rw [List.size_toArray, ← hl]; exact h3) (by omega) (by rw [hk]; exact ⟨_, I', q⟩)
noncomputable def flatV : V → Bool
  | .non => true
  | .bl _ => true
  | .int _ => true
  | .str _ => true
  | _ => false
noncomputable def eqV : V → V → Bool
  | .non, .non => true
  | .bl a, .bl b => a == b
  | .bl a, .int b => (if a then 1 else 0) == b
  | .int a, .bl b => a == (if b then 1 else 0)
  | .int a, .int b => a == b
  | .str a, .str b => a == b
  | _, _ => false
theorem call_len_seq : CallR X (.builtin "len") (fun xs H Q => ∃ p ys, xs = [.ref p] ∧ (SqL X.K H p ys ∨ SqT X.K H p ys) ∧ Q (.int ys.length) H) := by
  intro pins s σ H xs us Q I r h
  obtain ⟨p, ys, rfl, hq, q⟩ := h
  obtain ⟨u, rfl, rx⟩ := vals1 r
  cases rx
  have hn := line63
  rcases hq with hq | hq
  · obtain ⟨its, r', pl, hz⟩ := I.list hq
    have hlen := r'.length
    exact Calls.call_len_list pl.isList (by simp only [List.size_toArray] <;> omega) ⟨.int ys.length, H, I.tok _, ⟨s.toks + 1, by rw [List.size_toArray, hlen]⟩, q⟩
  · obtain ⟨its, r', pl, hz⟩ := I.tuple hq
    have hlen := r'.length
    exact len_tuple pl (by simp only [List.size_toArray] <;> omega) ⟨.int ys.length, H, I.tok _, ⟨s.toks + 1, by rw [List.size_toArray, hlen]⟩, q⟩
theorem CallR.or {f : Value} {r r' : List V → Hp → VK → Prop} (h : CallR X f r) (h' : CallR X f r') : CallR X f (fun xs H Q => r xs H Q ∨ r' xs H Q) := by
  intro pins s σ H xs us Q I rs q
  rcases q with q | q
  · exact h pins s σ H xs us Q I rs q
  · exact h' pins s σ H xs us Q I rs q
theorem call_list_of : CallR X (.type "list") (fun xs H Q => ∃ p ys, xs = [.ref p] ∧ (SqL X.K H p ys ∨ SqT X.K H p ys) ∧ ∀ l, H l = none → Q (.ref l) (upd H l (.lst ys))) := by
  intro pins s σ H xs us Q I r h
  obtain ⟨p, ys, rfl, hq, q⟩ := h
  obtain ⟨u, rfl, rx⟩ := vals1 r
  cases rx
  have fin : ∀ (its : List Value), Vals ys its → ys.length ≤ sizeLine → ∀ (h' : Heap) (c' : Nat), (∀ b o', s.heap.get? b = some o' → h'.get? b = some o') →
      h'.get? s.heap.objs.size = some { cls := .type "list", dict := none, data := .seq its.toArray c', slots := #[] } → EP X pins σ Q (.ref s.heap.objs.size) { s with heap := h' } := fun its r' hz h' c' kp e =>
    ⟨.ref s.heap.objs.size, _, I.laid (t' := s.toks) kp (Nat.le_refl _) (show ObjOk X.prog X.w _ h' _ (.lst ys) from ⟨hz, its, c', r', e⟩), rfl, q _ (I.hok.fresh (Nat.le_refl _))⟩
  rcases hq with hq | hq
  · obtain ⟨its, r', pl, hz⟩ := I.list hq
    have hlen := r'.length
    obtain ⟨o, ho, hc, n, hd⟩ := pl.isList
    exact call_list_seq p (.inl rfl) ho hc hd (fun h' c' kp e => fin its r' hz h' c' kp e) (by simp only [List.size_toArray] <;> omega)
  · obtain ⟨its, r', pl, hz⟩ := I.tuple hq
    have hlen := r'.length
    obtain ⟨o, ho, hc, n, hd⟩ := pl
    exact call_list_seq p (.inr rfl) ho hc hd (fun h' c' kp e => fin its r' hz h' c' kp e) (by simp only [List.size_toArray] <;> omega)
theorem call_tuple_of : CallR X (.type "tuple") (fun xs H Q => ∃ p ys, xs = [.ref p] ∧ ((SqL X.K H p ys ∧ ∀ l, H l = none → Q (.ref l) (upd H l (.tup ys))) ∨ (SqT X.K H p ys ∧ Q (.ref p) H))) := by
  intro pins s σ H xs us Q I r h
  obtain ⟨p, ys, rfl, h⟩ := h
  obtain ⟨u, rfl, rx⟩ := vals1 r
  cases rx
  rcases h with ⟨hq, q⟩ | ⟨hq, q⟩
  · obtain ⟨its, r', pl, hz⟩ := I.list hq
    have hlen := r'.length
    refine call_tuple_list pl.isList (fun h' kp => ?_) (by simp only [List.size_toArray] <;> omega)
    have I1 : Inv X pins σ H { s with heap := h' } := I.kept (t' := s.toks) kp
    have I2 : Inv X pins σ (upd H h'.objs.size (.tup ys)) { s with heap := h'.push { cls := .type "tuple", data := .seq its.toArray } } :=
      I1.laid (t' := s.toks) (fun b o e => Heap.get?_push_of_some _ e) (Nat.le_refl _) (show ObjOk X.prog X.w _ _ _ (.tup ys) from ⟨hz, its, r', IsTup.new _ _⟩)
    exact ⟨.ref h'.objs.size, _, I2, rfl, q _ (I1.hok.fresh (Nat.le_refl _))⟩
  · obtain ⟨its, r', pl, hz⟩ := I.tuple hq
    exact call_tuple_same pl ⟨.ref p, H, I, rfl, q⟩
noncomputable def tyV (K : PySem.W.Frag) (T : String) (x : V) (H : Hp) : Prop := match x with
  | .str _ => T = "str"
  | .int _ => T = "int"
  | .ref p => (T = "list" ∧ ∃ xs, SqL K H p xs) ∨ (T = "tuple" ∧ ∃ o, K.lookup p = some o ∧ o.cls = .type "tuple" ∧ o.dict = none) ∨
      (T = "dict" ∧ ((∃ kvs, H p = some (.dK kvs)) ∨ ∃ kvs, H p = some (.dT kvs))) ∨ (T = "set" ∧ ∃ S n, H p = some (.set S n))
  | _ => False
theorem tyV_is {pins : List (Addr × Obj)} {σ : St} {H : Hp} {s : Shared} {T : String} {x : V} {v : Value} (I : Inv X pins σ H s) (r : RelV x v) (ty : tyV X.K T x H) :
    s.TypeIs v T ∧ ∀ a, v = .ref a → ∃ ob, s.heap.get? a = some ob ∧ ob.dict = none := by
  cases x with
  | str z =>
    obtain ⟨t, rfl⟩ := r
    cases (show T = "str" from ty)
    exact ⟨typeIs_str s z t, fun _ e => nomatch e⟩
  | int i =>
    obtain ⟨t, rfl⟩ := r
    cases (show T = "int" from ty)
    exact ⟨typeIs_int s i t, fun _ e => nomatch e⟩
  | ref p =>
    cases r
    rcases ty with ⟨rfl, xs, hq⟩ | ⟨rfl, o, hk, hc, hd⟩ | ⟨rfl, hk⟩ | ⟨rfl, S, n, hk⟩
    · obtain ⟨its, _, pl, _⟩ := I.list hq
      refine ⟨pl.isList.typeIs, fun a e => ?_⟩
      cases e
      obtain ⟨o, n, e, c, hd, _⟩ := pl
      exact ⟨o, e, hd⟩
    · refine ⟨⟨o, I.kIn p o hk, hc⟩, fun a e => ?_⟩
      cases e
      exact ⟨o, I.kIn _ o hk, hd⟩
    · have z : ∃ o, s.heap.get? p = some o ∧ o.ExactDict := by
        rcases hk with ⟨kvs, hk⟩ | ⟨kvs, hk⟩
        · obtain ⟨_, _, _, _, o, _, _, e, ex, _⟩ := I.hok p _ hk
          exact ⟨o, e, ex⟩
        · obtain ⟨_, _, _, _, o, _, _, e, ex, _⟩ := I.hok p _ hk
          exact ⟨o, e, ex⟩
      obtain ⟨o, e, ex⟩ := z
      refine ⟨⟨o, e, ex.1⟩, fun a e2 => ?_⟩
      cases e2
      exact ⟨o, e, ex.2.1⟩
    · obtain ⟨o, _, _, _, e, ex, _⟩ := I.hok p _ hk
      refine ⟨⟨o, e, ex.1⟩, fun a e2 => ?_⟩
      cases e2
      exact ⟨o, e, ex.2.1⟩
  | _ => exact False.elim ty
noncomputable def tBM (K : PySem.W.Frag) (T : String) (r : V → List V → Hp → VK → Prop) (to : TE) (t : TA) : TE := fun σ H Q => to σ H fun x H1 => tyV K T x H1 ∧ t σ H1 fun xs H2 => r x xs H2 Q
variable {o e : Expr} {es : List Expr} {to : TE} {t : TA} {name : Str} {apos cpos : Pos} {T id : String} {r : V → List V → Hp → VK → Prop}
theorem pe_bm (pa : PlainAttrs T) (slot : Slot T name id) (hty : typeOf (.builtin id) = pure (.type "method_descriptor")) (hm : MtR X id r) (ho : PE X o to) (ha : PA X (e :: es) t)
    (hbase : attributeBase o name X.env (eval o X.env) = eval o X.env := by rfl)
    (hfew : ((backTo cpos (starEach (e :: es) X.env)).all (fun x => !x.1) && (backToKw cpos (keywordEach [] X.env)).all (fun x => x.1.isSome)
      && decide ((e :: es).length + ([] : List Keyword).length + (if ([] : List Keyword).isEmpty then 0 else 1) < 30)) = true := by rfl)
    (hline : (apos.endLine == cpos.line) = true := by rfl) (hs : starEach (e :: es) X.env = (false, eval e X.env) :: starEach es X.env := by rfl) (hplain : (backTo cpos (starEach es X.env)).any (·.1) = false := by rfl) :
    PE X (.Call (.Attribute o name apos) (e :: es) [] cpos) (tBM X.K T r to t) := by
  intro pins s σ H Q I h
  refine wpAny_Call_method_late hbase hfew hline rfl (thn (ho pins s σ H _ I h) fun v s1 ⟨x, H1, I1, r1, ty, q1⟩ => ?_)
  obtain ⟨h1, h2⟩ := tyV_is I1 r1 ty
  refine ⟨T, id, pa, slot, hty, h1, h2, ?_⟩
  have hA := ha cpos pins s1 σ H1 _ I1 q1
  rw [hs] at hA ⊢
  refine Calls.callWith_builtin (by show (false || (backTo cpos (starEach es X.env)).any (·.1)) = false; rw [hplain] <;> rfl) (Calls.evalArgs_plain ?_)
  exact thn hA fun us s2 ⟨vs, H2, I2, r2, q2⟩ => hm pins s2 σ H2 x vs v us Q I2 r1 r2 q2
/- xs.append(e), list.index on a module's tuple .. are MtR facts of 06m -/
end
end L2
namespace L2
open PySem PySem.Spec PyProof.Rows
noncomputable def MtM (X : Cx) (id : String) (r : V → List V → Hp → VK → Prop) : Prop :=
  ∀ (pins : List (Addr × Obj)) (s : Shared) (σ : St) (H : Hp) (x : V) (xs : List V) (v : Value) (us : List Value) (Q : VK), Inv X pins σ H s → RelV x v → Vals xs us → r x xs H Q →
    wpAny (model X.prog X.w) X.A (call (.builtin id) (v :: us)) (EP X pins σ Q) X.xe s
theorem Vals.one : ∀ {x : V} {us : List Value}, Vals [x] us → ∃ u, us = [u] ∧ RelV x u
  | _, _, .cons r .nil => ⟨_, rfl, r⟩
theorem Vals.two : ∀ {x y : V} {us : List Value}, Vals [x, y] us → ∃ u v, us = [u, v] ∧ RelV x u ∧ RelV y v
  | _, _, _, .cons r (.cons q .nil) => ⟨_, _, rfl, r, q⟩
theorem Vals.zero : ∀ {us : List Value}, Vals [] us → us = []
  | _, .nil => rfl
section
variable {X : Cx} {pins : List (Addr × Obj)} {σ : St} {H : Hp} {s : Shared} {l b : Addr} {xs ys zs : List V}
theorem Inv.lset {its its' : List Value} {n : Nat} {f : Array Value → Array Value} {t' : Nat} (I : Inv X pins σ H s) (hH : H l = some (.lst xs))
    (e : s.heap.get? l = some { cls := .type "list", data := .seq its.toArray n }) (hf : f its.toArray = its'.toArray) (hv : Vals ys its') (hz : ys.length ≤ sizeLine) :
    Inv X pins σ (upd H l (.lst ys)) { s with heap := s.heap.update l (Obj.mapSeq f), toks := t' } := by
  have q := PySem.IsL.update e f
  rw [hf] at q
  refine I.write (x := l) (e := l) (by rw [hH]; exact trivial) (.inl rfl) (fun b' u hb hu => (Heap.get?_update_other s.heap (Obj.mapSeq f) (Ne.symm hb)).trans hu) ⟨_, q⟩ ?_
  exact ⟨hz, its', _, hv, q⟩
theorem Inv.lnew {its : List Value} {t' : Nat} (I : Inv X pins σ H s) (hv : Vals ys its) (hz : ys.length ≤ sizeLine) :
    Inv X pins σ (upd H s.heap.objs.size (.lst ys)) { s with heap := s.heap.push { cls := .type "list", data := .seq its.toArray }, toks := t' } :=
  I.laid (fun _ _ q => Heap.get?_push_of_some _ q) (Nat.le_refl _) ⟨hz, its, 0, hv, Heap.get?_push_size _ rfl⟩
theorem Inv.fresh (I : Inv X pins σ H s) : H s.heap.objs.size = none := I.hok.fresh (Nat.le_refl _)
theorem Inv.lstM (I : Inv X pins σ H s) (hH : H l = some (.lst xs)) : xs.length ≤ sizeLine ∧ ∃ (its : List Value) (n : Nat), Vals xs its ∧ xs.length = its.length ∧ s.heap.get? l = some { cls := .type "list", data := .seq its.toArray n } := by
  obtain ⟨z, its, n, r, e⟩ := I.hok l _ hH
  exact ⟨z, its, n, r, r.length, e⟩
end
section
variable {X : Cx}
noncomputable def rAppend : V → List V → Hp → VK → Prop := fun x vs H Q => ∃ l xs y, x = .ref l ∧ vs = [y] ∧ H l = some (.lst xs) ∧ xs.length < sizeLine ∧ Q .non (upd H l (.lst (xs ++ [y])))
theorem mt_append : MtM X "list.append" rAppend := by
  intro pins s σ H x vs v us Q I rx rv h
  obtain ⟨l, xs, y, rfl, rfl, hH, hz, q⟩ := h
  cases rx
  obtain ⟨u, rfl, ru⟩ := rv.one
  obtain ⟨z, its, n, r, hl, e⟩ := I.lstM hH
  refine call_meets F.slot_list_append ⟨_, e, rfl⟩ F.entry_list_append (F.args_list_append_2 _ _) (PySem.list_append l its.toArray n u (by rw [List.size_toArray]; omega)) ⟨e, ?_⟩
  refine ⟨.non, _, I.lset (its' := its ++ [u]) hH e (by simp) (r.append (.cons ru .nil)) ?_, rfl, q⟩
  rw [List.length_append, List.length_singleton]
  omega
end
end L2
namespace Att
open PySem PySem.W PySem.Calls PyProof.Rows
theorem ints_of_wellAll {P : Params} {h : Heap} : ∀ (ns : List Int) (vs : List Value), WellAll P h vs (ns.map WData.int) → IntsAre vs ns := by
  intro ns
  induction ns with
  | nil =>
    intro vs w
    rw [List.map_nil] at w
    cases w
    exact .nil
  | cons n ns ih =>
    intro vs w
    rw [List.map_cons] at w
    cases w with
    | cons a b =>
      cases a
      exact .cons _ _ (ih _ b)
theorem script_of {l : OpenLaw} {n : Nat} (hn : l.most = some n) {P : Params} {h : Heap} {args : List WData} {vals : List Value}
    (hpre : l.row.toRowW.claim.pre args = true) (hwl : WellAll P h vals args) :
    ∃ a vs ns, vals = [Value.ref a] ∧ args = [WData.list (ns.map WData.int)] ∧ h.get? a = some { cls := .type "list", data := .seq vs.toArray } ∧ IntsAre vs ns ∧ ns.length ≤ n := by
  have hsh : WShape.hasAll [] args [.list .int] = true := (pre_splitW hpre).1
  have hc : l.pre.holds [] { args := args } = true := (pre_splitW hpre).2
  obtain ⟨d, r, rfl, h1, h2⟩ := hasAllW_cons hsh
  obtain rfl := hasAllW_nil h2
  obtain ⟨xs, rfl, h3⟩ := hasW_list h1
  obtain ⟨ns, rfl⟩ := items_int h3
  have hlen : ns.length ≤ n := by
    unfold OpenLaw.pre at hc
    have h4 : (WTm.not (.lt (.lit (.int (n : Int))) (.len (.arg 0)))).holds [] { args := [.list (ns.map .int)] } = true := by
      have h4 := (holds_andW hc).1
      rw [hn] at h4
      exact h4
    have h5 := condW_of h4 (w_not (w_lt w_lit (w_len_list (w_arg rfl))))
    rw [List.length_map] at h5
    refine Nat.le_of_not_lt fun q => ?_
    have q' : (n : Int) < ((ns.length : Nat) : Int) := by omega
    first
      | (rw [decide_eq_true q'] at h5; exact absurd h5 (by decide))
      | (simp at h5; omega)
  cases hwl with
  | cons w1 w2 =>
    cases w2
    cases w1 with
    | list ho hall => exact ⟨_, _, ns, rfl, rfl, ho, ints_of_wellAll ns _ hall, hlen⟩
theorem post_true (l : OpenLaw) (args : List WData) : l.row.toRowW.claim.post args (.bool true) args = true :=
  postW_of (r := l.row.toRowW) (X := (true == true))
    (show WShape.has [] (.bool true) .bool = true by first | rfl | decide | simp [WShape.has, WShape.arms, WShape.armsAll])
    (show (WTm.eq .res (.lit (.bool true))).value [] { args := args, res := some (.bool true), after := args } = some (.bool (true == true)) from w_eq_bool (w_res rfl) w_lit) rfl
theorem attach_call {l : OpenLaw} {n : Nat} {q : Program} {loose : List Str} {XP : (Str → Option Value) → Heap → Prop} {YP : World → Heap → Prop} {d : DefRec}
    (hn : l.most = some n) (hdf : d.params.defaults = [])
    (call : ∀ (w : World) (s₀ s₁ : Shared) (mg mb : Str → Option Value) (fa : Addr) (o : Obj) (pm cd doc : Value) (a : Addr) (vs : List Value) (ns : List Int),
      Ground q loose [] XP w s₀ mg mb s₁.heap → YP w s₁.heap →
      s₁.heap.get? fa = some o → o.data = .func (docDef d.name d.params d.body d.scope pm cd doc) → s₁.heap.CodeRec cd d.name → mg d.name = some (.ref fa) →
      s₁.heap.get? a = some { cls := .type "list", data := .seq vs.toArray } → IntsAre vs ns → ns.length ≤ n → s₁.gens = #[] →
      codeAny (model l.prog w) callerA (.call (.ref fa) ⟨[.ref a], []⟩) (fun r s' => r = .ok (.ret (.bool true)) ∧ OldK s₁.heap s'.heap ∧ s'.os = s₁.os ∧ AllBare s'.gens) s₁) :
    WalkO q loose XP YP l.row.toRowW d [] (fun f vs => PySem.call f vs) := by
  intro w s₀ s₁ mg mb G Y fa o pm cd doc dV kV ho hd hcd hD hmg hg args vals as hpre hlay hrd hwl hlo
  obtain rfl : dV = .none := Dflts.none hD hdf
  obtain rfl : kV = .none := Dflts.noKw hD
  obtain ⟨a, vs, ns, rfl, rfl, hobj, hints, hlen⟩ := script_of hn hpre hwl
  refine enter_call (codeAny_mono (call w s₀ s₁ mg mb fa o pm cd doc a vs ns G Y ho (fd_plain hd) hcd hmg hobj hints hlen hg) fun r s' hq => ?_)
  obtain ⟨rfl, h2, h3, h4⟩ := hq
  exact ⟨.inl ⟨.bool true, .bool true, [], rfl, fun _ => rfl, .bool true, post_true l _, fun _ => ⟨List.Pairwise.nil, fun _ hm => (nomatch hm)⟩⟩, h2, h3, h4⟩
section
variable {prog : Program} {w : World} {A : Around} {E : Value → Shared → Prop} {s : Shared} {K : Frag}
theorem make_obj {R : Result → Shared → Prop} {C fI : Addr} {rest : List Value} {kw : List (Str × Value)}
    (X : K.In s.heap) (hm : makesIn K C = true) (hi : findIn K (.ref C) "__init__" = some (some (.ref fI))) (hf : isFn K (.ref fI) = true)
    (h : codeAny (model prog w) (A.under (.builtin "type.__call__" ⟨.ref C :: rest, kw⟩)) (.call (.ref fI) ⟨.ref (s.heap.objs.size + 1) :: rest, kw⟩) (InitBack (s.heap.objs.size + 1) R)
      { s with heap := (s.heap.push emptyDict).push (instObj C s.heap.objs.size) }) : codeAny (model prog w) A (.call (.ref C) ⟨rest, kw⟩) R s := by
  obtain ⟨hh, g, d, t, os⟩ := s
  exact make_core (makes_of X hm) (looks_findIn X hi) (fun self => bind_fn X self (beq_iff_eq.mp hf)) (.inl rfl) h
theorem get_field {x C : Addr} {ox : Obj} {es : List DictEntry} {n : Nat} {name : Str} {expr : Bool} {v : Value} {Q : Value → Shared → Prop}
    (X : K.In s.heap) (I : PySem.W.InstAt s.heap x ox C (some (dictOf es n))) (hg : plainGet K C name = true) (hh : hasDictIn K C = true) (ha : findIn K (.ref C) name = some none)
    (hl : getL name es = some (some v)) (hv : handedIn v = true) (h : Q v { s with toks := s.toks + 1 }) : wpAny (model prog w) A (getAttr (.ref x) name expr) Q E s :=
  get_value X I (plainGet_of hg).1 (findObj_own hh ha rfl hl) hv h
end
end Att
namespace L2
open PySem PySem.Spec PyProof.Rows
theorem vals_ints : ∀ {vs : List Value} {ns : List Int}, IntsAre vs ns → Vals (ns.map V.int) vs
  | _, _, .nil => .nil
  | _, _, .cons n t h => .cons ⟨t, rfl⟩ (vals_ints h)
noncomputable def Only (H : Hp) : Prop := ∀ b, H b = none ∨ ∃ o xs, H b = some (.frz o (.lst xs))
theorem law_call {P : Program} {w : World} {K : PySem.W.Frag} {mg mb : Str → Option Value} {CX : CXT} {k : Nat} {fa a : Addr} {fd : FuncData} {x : Str} {sp : Sp} {s₁ : Shared} {vs : List Value} {ns : List Int}
    (KX : K.In s₁.heap) (hns : s₁.heap.Ns mainGlobals mg) (hb : s₁.heap.Ns builtinsNs mb) (hbb : ∀ x : Str, x ≠ "__name__" → mb x = bootBuiltins x) (hlim : s₁.heap.NoLimit) (hg : s₁.gens = #[])
    (ha : s₁.heap.get? a = some { cls := .type "list", data := .seq vs.toArray }) (hi : IntsAre vs ns) (hl : ns.length ≤ sizeLine) (hr : Room k callerA)
    (F : ∀ base : Heap, K.In base → base.Ns mainGlobals mg → FnOk P w K mg base CX k fa fd [x] sp) (hbind : ∀ (s : Shared) (u : Value), BindsTo s fd ⟨[u], []⟩ [(x, u)])
    (hsp : ∀ H : Hp, Only H → SqL K H a (ns.map V.int) → sp [.ref a] H (fun v _ => v = .bl true) fun _ _ _ => False)
    (hCX : ∀ H e s', CX [] H s₁ (fun _ _ _ => False) e s' → False) :
    codeAny (model P w) callerA (.call (.ref fa) ⟨[.ref a], []⟩) (fun r s' => r = .ok (.ret (.bool true)) ∧ OldK s₁.heap s'.heap ∧ s'.os = s₁.os ∧ AllBare s'.gens) s₁ := by
  have rv := vals_ints hi
  have lenV := hi.length
  have core : ∀ H : Hp, Only H → SqL K H a (ns.map V.int) → HOk P w H s₁.heap → (∀ b, H b ≠ none → b = a) → (H a ≠ none → K.lookup a = none) →
      codeAny (model P w) callerA (.call (.ref fa) ⟨[.ref a], []⟩) (fun r s' => r = .ok (.ret (.bool true)) ∧ OldK s₁.heap s'.heap ∧ s'.os = s₁.os ∧ AllBare s'.gens) s₁ := by
    intro H hO hS hok hA hK
    have base_of : ∀ {b : Addr} {o : Obj}, s₁.heap.get? b = some o → H b = none → (hidT s₁.heap H).get? b = some o := fun e n => hidT_get e n
    have noA : ∀ {b : Addr} {o : Obj} {es : Array DictEntry} {ep : Nat}, s₁.heap.get? b = some o → o.data = .dict es ep → H b = none := fun {b o es ep} e d => by
      cases q : H b with
      | none => rfl
      | some u =>
        have e' : b = a := hA b (by rw [q]; simp)
        subst e'
        rw [ha] at e; cases e
        have d' : Data.seq vs.toArray _ = Data.dict es ep := d
        cases d'
    have nsK : ∀ {b : Addr} {m : Str → Option Value}, s₁.heap.Ns b m → (hidT s₁.heap H).Ns b m := fun {b m} ⟨o, es, ep, e, d, r⟩ => ⟨o, es, ep, base_of e (noA e d), d, r⟩
    have hKb : K.In (hidT s₁.heap H) := fun b o e => base_of (KX b o e) (by
      cases q : H b with
      | none => rfl
      | some u =>
        have e' : b = a := hA b (by rw [q]; simp)
        subst e'
        rw [hK (by rw [q]; simp)] at e; cases e)
    have hM : Mod K mg (hidT s₁.heap H) := ⟨hKb, nsK hns, ⟨mb, nsK hb, hbb⟩, let ⟨mc, h1, h2⟩ := hlim; ⟨mc, nsK h1, h2⟩⟩
    have e0 : Env0 P w K mg (hidT s₁.heap H) callerA [] s₁ H := ⟨rfl, hM, fun b o e => of_hidT e, Nat.le_of_eq (hidT_size _ _), trivial, fun b hb => absurd (show b ∈ ([] : List Addr) from hb) (by simp), hok, .of_eq hg⟩
    refine codeAny_mono ((F _ hKb (nsK hns)).run callerA [] s₁ H ⟨[.ref a], []⟩ [.ref a] [.ref a] _ _ hr e0 (hbind s₁ (.ref a)) (.cons rfl .nil) (hsp H hO hS)) fun r s' h => ?_
    cases r with
    | error e => exact (hCX H e s' h).elim
    | ok fl =>
      cases fl with
      | next => exact False.elim h
      | brk => exact False.elim h
      | cont => exact False.elim h
      | ret u =>
        obtain ⟨v, H', os, bare, un, hok', r', q⟩ := h
        have q' : v = .bl true := q
        subst q'
        obtain rfl : u = Value.bool true := r'
        refine ⟨rfl, OldK.of_keep fun b o e => ?_, os, bare⟩
        cases q : H b with
        | none => exact un.keep b o e q (by intro z; exact absurd (show b ∈ ([] : List Addr) from z) (by simp)) (by simp)
        | some u =>
          rcases hO b with z | ⟨ob, xs, z⟩
          · rw [q] at z; cases z
          · have z2 := un.frzs b ob _ z
            obtain ⟨e1, _⟩ := hok b _ z
            obtain ⟨e2, _⟩ := hok' b _ z2
            rw [e] at e1; cases e1
            exact e2
  cases hk : K.lookup a with
  | some o =>
    have e := KX a o hk
    rw [ha] at e
    cases e
    refine core (fun _ => none) (fun _ => .inl rfl) (.inr ⟨_, vs.toArray, _, hk, rfl, rfl, rfl, by rw [List.size_toArray, lenV]; exact hl, by simpa using rv⟩) (fun b u z => by have z' : (none : Option HO) = some u := z; cases z') (fun b z => absurd rfl z) fun z => absurd rfl z
  | none =>
    refine core (fun b => if b = a then some (.frz { cls := .type "list", data := .seq vs.toArray } (.lst (ns.map V.int))) else none) (fun b => ?_) (.inl (.inr ⟨{ cls := .type "list", data := .seq vs.toArray }, if_pos rfl⟩)) (fun b u z => ?_) (fun b z => ?_) fun _ => hk
    · by_cases hb : b = a
      · exact .inr ⟨_, _, if_pos hb⟩
      · exact .inl (if_neg hb)
    · by_cases hb : b = a
      · have z' := (if_pos hb).symm.trans z
        cases z'
        subst hb
        exact ⟨ha, by rw [List.length_map]; exact hl, vs, _, rv, ha⟩
      · have z' := (if_neg hb).symm.trans z
        cases z'
    · by_cases hb : b = a
      · exact hb
      · exact absurd (if_neg hb) z
end L2
namespace L2
open PySem PySem.Spec PyProof.Rows
theorem walk_of {l : PySem.W.OpenLaw} {n k : Nat} {q : Program} {loose : List Str} {XP : (Str → Option Value) → Heap → Prop} {YP : World → Heap → Prop} {d : DefRec} {K : Params → PySem.W.Frag} {CX : World → CXT} {sp : World → Sp} {x : Str}
    (hn : l.most = some n) (hn2 : n ≤ sizeLine) (hdf : d.params.defaults = []) (hr : Room k callerA)
    (hY : ∀ (w : World) (h : Heap), YP w h → (K w.params).In h)
    (F : ∀ (w : World) (mg : Str → Option Value) (fa : Addr) (h : Heap), (K w.params).In h → h.Ns mainGlobals mg → mg d.name = some (.ref fa) →
      ∃ fd : FuncData, (∀ (s : Shared) (u : Value), BindsTo s fd ⟨[u], []⟩ [(x, u)]) ∧
        ∀ base : Heap, (K w.params).In base → base.Ns mainGlobals mg → FnOk l.prog w (K w.params) mg base (CX w) k fa fd [x] (sp w))
    (hsp : ∀ (w : World) (H : Hp) (a : Addr) (ns : List Int), ns.length ≤ n → Only H → SqL (K w.params) H a (ns.map V.int) → sp w [.ref a] H (fun v _ => v = .bl true) fun _ _ _ => False)
    (hCX : ∀ (w : World) (H : Hp) (s : Shared) (e : Value) (s' : Shared), CX w [] H s (fun _ _ _ => False) e s' → False) :
    PySem.W.WalkO q loose XP YP l.row.toRowW d [] (fun f vs => PySem.call f vs) := by
  refine Att.attach_call hn hdf fun w s₀ s₁ mg mb fa o pm cd doc a vs ns G Y ho hd hcd hmg hobj hints hlen hg => ?_
  have KX := hY w _ Y
  obtain ⟨fd, hb, hF⟩ := F w mg fa _ KX G.T.g hmg
  exact law_call KX G.T.g G.T.b G.T.builtins G.T.nolimit hg hobj hints (Nat.le_trans hlen hn2) hr hF hb (fun H hO hS => hsp w H a ns hlen hO hS) fun H e s' => hCX w H s₁ e s'
end L2
namespace L2
open PySem PySem.Spec PyProof.Rows
noncomputable def inClass (s : Stmt) (j : Nat) : Stmt := match s with
  | .ClassDef _ _ _ body _ _ _ _ _ _ _ => body.getD j (.Pass ⟨0, 0, 0, 0⟩)
  | _ => .Pass ⟨0, 0, 0, 0⟩
noncomputable def defArgs (s : Stmt) : Arguments := match s with
  | .FunctionDef _ a _ _ _ _ _ _ _ _ => a
  | _ => { posonlyargs := [], args := [], vararg := none, kwonlyargs := [], kw_defaults := [], kwarg := none, defaults := [] }
noncomputable def defBody (s : Stmt) : List Stmt := match s with
  | .FunctionDef _ _ b _ _ _ _ _ _ _ => b
  | _ => []
noncomputable def defScope (s : Stmt) : Scope := match s with
  | .FunctionDef _ _ _ _ _ _ sc _ _ _ => sc
  | _ => { kind := .function, names := [], isGenerator := false, isCoroutine := false }
noncomputable abbrev CX0 : CXT := fun _ _ _ _ _ _ => False
noncomputable abbrev E0 : XK := fun _ _ _ => False
theorem pass0 {X : Cx} : Passes CX0 X E0 := fun _ _ _ _ _ _ _ h => h.elim
structure Fun (K : PySem.W.Frag) (x qual : Str) (st : Stmt) (f : Addr) (fd : FuncData) : Prop where
  ex : ∃ (oc : Value) (od : Option Addr) (kV doc pm : Value) (an : Option Addr) (cdv ct : Value) (osl : Array (Option Value)),
    fd = PySem.W.fnOf x qual (defArgs st) (defBody st) (defScope st) .none kV doc pm an cdv ct ∧ K.lookup f = some ⟨oc, od, .func fd, osl⟩ ∧ PySem.W.codeIn K cdv qual = true
  kp : PySem.W.keepIn K (.ref f) = true
section
variable {P : Program} {w : World} {K : PySem.W.Frag} {mg : Str → Option Value} {base : Heap}
theorem Fun.binds {x qual : Str} {st : Stmt} {f : Addr} {fd : FuncData} {ps : List Str} (F : Fun K x qual st f fd)
    (h : ∀ (kV doc pm : Value) (an : Option Addr) (cdv ct : Value) (us : List Value), us.length = ps.length → bindArgs (PySem.W.fnOf x qual (defArgs st) (defBody st) (defScope st) .none kV doc pm an cdv ct) ⟨us, []⟩ = pure (ps.zip us)) : Binds K fd ps [] := by
  obtain ⟨oc, od, kV, doc, pm, an, cdv, ct, osl, rfl, lk, hcd⟩ := F.ex
  exact .all (h kV doc pm an cdv ct)
theorem fun_mk {x qual : Str} {st : Stmt} {f : Addr} {oc : Value} {od an : Option Addr} {osl : Array (Option Value)} {kV doc pm cdv ct : Value} (l : K.lookup f = some ⟨oc, od, .func (PySem.W.fnOf x qual (defArgs st) (defBody st) (defScope st) .none kV doc pm an cdv ct), osl⟩)
    (c : PySem.W.codeIn K cdv qual = true) (k : PySem.W.keepIn K (.ref f) = true) : Fun K x qual st f (PySem.W.fnOf x qual (defArgs st) (defBody st) (defScope st) .none kV doc pm an cdv ct) := ⟨⟨oc, od, kV, doc, pm, an, cdv, ct, osl, rfl, l, c⟩, k⟩
end
section
variable {X : Cx}
theorem pv (i : Nat) {x : Str} {pos : Pos} (hN : X.N[i]? = some x := by rfl) (hv : Vis X.env.scope x := by first | exact Or.inl rfl | exact Or.inr (Or.inl rfl) | exact Or.inr (Or.inr rfl)) (hd : (x == ("__debug__" : Str)) = false := by decide)
    (hcd : (x == ("__classdict__" : Str)) = false := by decide) : PE X (.Name x pos) (tVar i) := pe_var hN hv hd hcd
end
theorem iteF {A B : Prop} (h : B) : if false = true then A else B := by
  rw [if_neg Bool.false_ne_true]
  exact h
theorem iteNS {c A B : Prop} [Decidable c] (hc : c) (h : B) : if (!decide c) = true then A else B := by
  rw [decide_eq_true hc]
  exact iteF h
noncomputable def Same (H H' : Hp) : Prop := ∀ b o, H b = some o → H' b = some o
theorem Same.refl (H : Hp) : Same H H := fun _ _ h => h
theorem Same.trans {H H1 H2 : Hp} (a : Same H H1) (b : Same H1 H2) : Same H H2 := fun c o h => b c o (a c o h)
theorem Same.free {H H' : Hp} (e : Same H H') {l : Addr} (h : H' l = Option.none) : H l = Option.none := by
  cases q : H l with
  | none => rfl
  | some o =>
    rw [e l o q] at h
    cases h
end L2
set_option maxHeartbeats 4000000
namespace L2
open PySem PySem.Spec PyProof.Rows
noncomputable def clOf (cells : List (Str × Addr)) : List (Str × NameKind) → List (Str × Addr) → List (Str × Addr)
  | [], acc => acc
  | (x, k) :: r, acc => clOf cells r (if (k == NameKind.free) = true then (x, (cells.lookup x).getD 0) :: acc else acc)
theorem gt_ne {a b c : Addr} (h1 : b < a) (h2 : a < c) : c ≠ b := by
  rintro rfl
  exact absurd (Nat.lt_trans h1 h2) (Nat.lt_irrefl _)
theorem lt_ne {a b : Addr} {n : Nat} (h1 : a < n) (h2 : n ≤ b) : a ≠ b := by
  rintro rfl
  exact absurd (Nat.lt_of_lt_of_le h1 h2) (Nat.lt_irrefl _)
theorem clOf_cases {cells : List (Str × Addr)} {x : Str} {c : Addr} : ∀ (ns : List (Str × NameKind)) (acc : List (Str × Addr)), (clOf cells ns acc).lookup x = some c →
    ((x, NameKind.free) ∈ ns ∧ c = (cells.lookup x).getD 0) ∨ acc.lookup x = some c
  | [], _, h => .inr h
  | (y, k) :: r, acc, h => by
    unfold clOf at h
    rcases clOf_cases r _ h with ⟨m, e⟩ | q
    · exact .inl ⟨List.mem_cons_of_mem _ m, e⟩
    · by_cases hk : (k == NameKind.free) = true
      · rw [if_pos hk, List.lookup_cons] at q
        cases hy : x == y with
        | true =>
          rw [hy] at q
          have e1 := eq_of_beq hy
          have e2 := eq_of_beq hk
          subst e1 e2
          exact .inl ⟨List.mem_cons_self, (Option.some.inj q).symm⟩
        | false => rw [hy] at q; exact .inr q
      · rw [if_neg hk] at q; exact .inr q
theorem clOf_some {cells : List (Str × Addr)} {x : Str} : ∀ (ns : List (Str × NameKind)) (acc : List (Str × Addr)), ((x, NameKind.free) ∈ ns ∨ (acc.lookup x).isSome = true) → ((clOf cells ns acc).lookup x).isSome = true
  | [], _, h => h.elim (fun z => nomatch z) id
  | (y, k) :: r, acc, h => by
    unfold clOf
    refine clOf_some r _ ?_
    rcases h with h | h
    · rcases List.mem_cons.mp h with e | h
      · cases e
        refine .inr ?_
        rw [if_pos (by decide), List.lookup_cons]
        simp
      · exact .inl h
    · refine .inr ?_
      by_cases hk : (k == NameKind.free) = true
      · rw [if_pos hk, List.lookup_cons]
        cases hy : x == y with
        | true => rfl
        | false => exact h
      · rw [if_neg hk]; exact h
theorem cells_cases {x : Str} {c : Addr} : ∀ (ns : List (Str × NameKind)) (n : Nat) (acc : List (Str × Addr)), (cellsFrom n ns acc).lookup x = some c → (n ≤ c ∧ (x, NameKind.cell) ∈ ns) ∨ acc.lookup x = some c
  | [], _, _, h => .inr h
  | (y, k) :: r, n, acc, h => by
    unfold cellsFrom at h
    by_cases hk : (k == NameKind.cell) = true
    · rw [if_pos hk] at h
      rcases cells_cases r (n + 1) _ h with ⟨a, m⟩ | q
      · exact .inl ⟨by omega, List.mem_cons_of_mem _ m⟩
      · rw [List.lookup_cons] at q
        cases hy : x == y with
        | true =>
          rw [hy] at q
          have e1 := eq_of_beq hy
          have e2 := eq_of_beq hk
          have e3 := Option.some.inj q
          subst e1 e2 e3
          exact .inl ⟨Nat.le_refl _, List.mem_cons_self⟩
        | false => rw [hy] at q; exact .inr q
    · rw [if_neg hk] at h
      rcases cells_cases r n acc h with ⟨a, m⟩ | q
      · exact .inl ⟨a, List.mem_cons_of_mem _ m⟩
      · exact .inr q
theorem cells_inj : ∀ (ns : List (Str × NameKind)) (n : Nat) (acc : List (Str × Addr)), (∀ x y c, acc.lookup x = some c → acc.lookup y = some c → x = y) → (∀ x c, acc.lookup x = some c → c < n) →
    ∀ x y c, (cellsFrom n ns acc).lookup x = some c → (cellsFrom n ns acc).lookup y = some c → x = y
  | [], _, _, hi, _ => hi
  | (z, k) :: r, n, acc, hi, hl => by
    unfold cellsFrom
    by_cases hk : (k == NameKind.cell) = true
    · rw [if_pos hk]
      refine cells_inj r (n + 1) _ (fun x y c h1 h2 => ?_) (fun x c h1 => ?_)
      · rw [List.lookup_cons] at h1 h2
        cases hx : x == z with
        | true =>
          rw [hx] at h1
          have e1 := Option.some.inj h1
          cases hy : y == z with
          | true => rw [eq_of_beq hx, eq_of_beq hy]
          | false =>
            rw [hy] at h2
            have h3 := hl y c h2
            rw [← e1] at h3
            exact absurd h3 (Nat.lt_irrefl _)
        | false =>
          rw [hx] at h1
          cases hy : y == z with
          | true =>
            rw [hy] at h2
            have e2 := Option.some.inj h2
            have h3 := hl x c h1
            rw [← e2] at h3
            exact absurd h3 (Nat.lt_irrefl _)
          | false =>
            rw [hy] at h2
            exact hi x y c h1 h2
      · rw [List.lookup_cons] at h1
        cases hx : x == z with
        | true =>
          rw [hx] at h1
          have e1 := Option.some.inj h1
          rw [← e1]
          exact Nat.lt_succ_self _
        | false =>
          rw [hx] at h1
          exact Nat.lt_succ_of_lt (hl x c h1)
    · rw [if_neg hk]
      exact cells_inj r n acc hi hl
theorem push_cells {x : Str} {c : Addr} : ∀ (ns : List (Str × NameKind)) (h : Heap) (acc : List (Str × Addr)), (cellsFrom h.objs.size ns acc).lookup x = some c →
    acc.lookup x = some c ∨ (h.objs.size ≤ c ∧ (pushCells h ns).IsCell c none)
  | [], _, _, e => .inl e
  | (y, k) :: r, h, acc, e => by
    unfold cellsFrom at e
    unfold pushCells
    by_cases hk : (k == NameKind.cell) = true
    · rw [if_pos hk] at e ⊢
      have q := push_cells (x := x) (c := c) r (h.push { cls := .type "cell", data := .cell none }) ((y, h.objs.size) :: acc) (by rw [Heap.size_push]; exact e)
      rcases q with q | ⟨q1, q2⟩
      · rw [List.lookup_cons] at q
        cases hy : x == y with
        | true =>
          rw [hy] at q
          have e1 := Option.some.inj q
          subst e1
          exact .inr ⟨Nat.le_refl _, Heap.IsCell.keeps ⟨_, Heap.get?_push_size _ rfl, rfl⟩ (pushCells_keeps r _)⟩
        | false => rw [hy] at q; exact .inl q
      · rw [Heap.size_push] at q1
        exact .inr ⟨by omega, q2⟩
    · rw [if_neg hk] at e ⊢
      exact push_cells r h acc e
theorem forIn_clos {env : Env} (f : Str × NameKind → List (Str × Addr) → Sem (ForInStep (List (Str × Addr))))
    (hf : ∀ n k cs, f (n, k) cs = if (k == NameKind.free) = true then (do let a ← cellOf env n; pure (.yield ((n, a) :: cs))) else pure (.yield cs)) :
    ∀ (ns : List (Str × NameKind)) (acc : List (Str × Addr)), (∀ x ∈ ns, x.2 = NameKind.free → ∃ c, env.cells.lookup x.1 = some c) → forIn ns acc f = (pure (clOf env.cells ns acc) : Sem _)
  | [], acc, _ => by rw [List.forIn_nil]; rfl
  | (y, k) :: r, acc, hc => by
    have hr : ∀ x ∈ r, x.2 = NameKind.free → ∃ c, env.cells.lookup x.1 = some c := fun x hx => hc x (List.mem_cons_of_mem _ hx)
    rw [List.forIn_cons, hf]
    unfold clOf
    by_cases hk : (k == NameKind.free) = true
    · rw [if_pos hk, if_pos hk]
      obtain ⟨c, e⟩ := hc (y, k) List.mem_cons_self (eq_of_beq hk)
      have e' : env.cells.lookup y = some c := e
      have e2 : cellOf env y = pure c := by unfold cellOf; rw [e']
      rw [e2, e']
      exact forIn_clos f hf r _ hr
    · rw [if_neg hk, if_neg hk]
      exact forIn_clos f hf r _ hr
theorem closure_eq {scope : Scope} {env : Env} (hc : ∀ x ∈ scope.names, x.2 = NameKind.free → ∃ c, env.cells.lookup x.1 = some c) : closureFor scope env = pure (clOf env.cells scope.names []) := by
  simp only [closureFor]
  rw [forIn_clos (env := env) _ (fun n k cs => by cases h : (k == NameKind.free) <;> simp [h]) scope.names [] hc]
  rfl
theorem new_block {M : Model} {A : Around} {E : Value → Shared → Prop} {s : Shared} {scope : Scope} {gl : Addr} {cl : List (Str × Addr)} {qual : Str} {around : Env} {Q : Env → Shared → Prop}
    (hQ : ∀ h1 : Heap, (∀ b o, s.heap.get? b = some o → h1.get? b = some o) → h1.Ns s.heap.objs.size (fun _ => none) →
      (∀ x c, (cellsFrom (s.heap.objs.size + 1) scope.names cl).lookup x = some c → cl.lookup x = some c ∨ (s.heap.objs.size < c ∧ h1.IsCell c none)) →
      Q { scope := scope, locals := s.heap.objs.size, globals := gl, cells := cellsFrom (s.heap.objs.size + 1) scope.names cl, qual := qual, func := none, code := around.code, frame := around.frame, builtins := around.builtins } { s with heap := h1 }) :
    wpAny M A (newFunctionEnv scope gl cl [] qual none .none (some around)) Q E s := by
  simp only [newFunctionEnv, Option.isSome_some, if_true]
  refine wpAny_bind (wpAny_alloc ?_)
  refine wpAny_bind (wpAny_layCells _ (fun name kind cells => by cases hkc : kind == NameKind.cell <;> simp [hkc]) _ _ _ _ ?_)
  rw [show ({ s with heap := s.heap.push { cls := .type "dict", data := .dict #[] } } : Shared).heap.objs.size = s.heap.objs.size + 1 from Heap.size_push ..]
  rw [List.forIn_nil]
  refine wpAny_bind (wpAny_pure (wpAny_pure ?_))
  refine hQ _ (fun b o e => pushCells_keeps _ _ b o (Heap.get?_push_of_some _ e)) ((Heap.Ns.new s.heap (.type "dict")).keeps (pushCells_keeps _ _)) fun x c e => ?_
  have q := push_cells (x := x) (c := c) scope.names (s.heap.push { cls := .type "dict", data := .dict #[] }) cl (by rw [Heap.size_push]; exact e)
  rw [Heap.size_push] at q
  exact q.imp id fun ⟨a, b⟩ => ⟨by omega, b⟩
theorem relab_free {env : Env} {x : Str} : ∀ {ns : List (Str × NameKind)}, ns.lookup x = some .free →
    (ns.map fun (n, k) => if (k == NameKind.free && env.scope.kind == .function && env.kindOf n == some .cell) then (n, NameKind.cell) else (n, k)).lookup x = some .cell ∨
    (ns.map fun (n, k) => if (k == NameKind.free && env.scope.kind == .function && env.kindOf n == some .cell) then (n, NameKind.cell) else (n, k)).lookup x = some .free
  | [], h => by simp at h
  | (n, k) :: r, h => by
    have ih := @relab_free env x r
    rw [List.map_cons]
    dsimp only
    by_cases hc : (k == NameKind.free && env.scope.kind == .function && env.kindOf n == some .cell) = true
    · rw [if_pos hc, List.lookup_cons]
      cases hx : x == n with
      | true => exact .inl rfl
      | false => rw [List.lookup_cons, hx] at h; exact ih h
    · rw [if_neg hc, List.lookup_cons]
      cases hx : x == n with
      | true =>
        rw [List.lookup_cons, hx] at h
        have e := Option.some.inj h
        subst e
        exact .inr rfl
      | false => rw [List.lookup_cons, hx] at h; exact ih h
theorem relab_back {env : Env} {x : Str} : ∀ {ns : List (Str × NameKind)},
    ((ns.map fun (n, k) => if (k == NameKind.free && env.scope.kind == .function && env.kindOf n == some .cell) then (n, NameKind.cell) else (n, k)).lookup x = some .cell ∨
    (ns.map fun (n, k) => if (k == NameKind.free && env.scope.kind == .function && env.kindOf n == some .cell) then (n, NameKind.cell) else (n, k)).lookup x = some .free) →
    ns.lookup x = some .cell ∨ ns.lookup x = some .free
  | [], h => by simp at h
  | (n, k) :: r, h => by
    have ih := @relab_back env x r
    rw [List.map_cons] at h
    dsimp only at h
    by_cases hc : (k == NameKind.free && env.scope.kind == .function && env.kindOf n == some .cell) = true
    · rw [if_pos hc, List.lookup_cons] at h
      rw [List.lookup_cons]
      cases hx : x == n with
      | true =>
        have : k = NameKind.free := by
          rw [Bool.and_eq_true, Bool.and_eq_true] at hc
          exact eq_of_beq hc.1.1
        subst this
        exact .inr rfl
      | false => rw [hx] at h; exact ih h
    · rw [if_neg hc, List.lookup_cons] at h
      rw [List.lookup_cons]
      cases hx : x == n with
      | true => rw [hx] at h; exact h
      | false => rw [hx] at h; exact ih h
noncomputable def cxComp (X : Cx) (N' : List Str) (sc : Scope) (L : Addr) (cs : List (Str × Addr)) (s : Shared) (H : Hp) (fp : List Addr) : Cx :=
  { X with
    N := N', s₀ := s, H₀ := H, outer := X.stack, ex := fp, pn := [], xe := fun _ _ => False
    fn := fun x => !(sc.names.any fun p => p.1 == x && p.2 == NameKind.free)
    env := { scope := relabel sc X.env, locals := L, globals := X.env.globals, cells := cs, qual := X.env.qual, func := none, code := X.env.code, frame := X.env.frame, builtins := X.env.builtins } }
noncomputable def inS (ix : List (Option Nat)) (σ : St) : St := ix.map fun o => match o with
  | none => none
  | some j => (σ[j]?).join
noncomputable def compOk (N : List Str) (osc : Scope) (N' : List Str) (sc : Scope) (ix : List (Option Nat)) : Bool :=
  decide (ix.length = N'.length) &&
  ((List.range ix.length).all fun i => match ix[i]? with
    | some (some j) => (match N'[i]?, N[j]? with
      | some x, some y => x == y && sc.names.lookup x == some NameKind.free
      | _, _ => false)
    | _ => true) &&
  (sc.names.all fun p => (p.2 != NameKind.free || (osc.names.lookup p.1 == some NameKind.cell || osc.names.lookup p.1 == some NameKind.free)) && (p.2 != NameKind.local || sc.names.lookup p.1 == some NameKind.local)) &&
  (sc.names.all fun p => sc.names.all fun q => !(p.1 == q.1) || p.2 == q.2)
section
variable {X : Cx} {pins : List (Addr × Obj)} {σ : St} {H : Hp} {s : Shared} {N' : List Str} {sc : Scope} {ix : List (Option Nat)}
theorem compOk.len (ok : compOk X.N X.env.scope N' sc ix = true) : ix.length = N'.length := by
  unfold compOk at ok
  rw [Bool.and_eq_true, Bool.and_eq_true, Bool.and_eq_true] at ok
  exact of_decide_eq_true ok.1.1.1
theorem compOk.at (ok : compOk X.N X.env.scope N' sc ix = true) {i j : Nat} {x : Str} (h : ix[i]? = some (some j)) (hx : N'[i]? = some x) : X.N[j]? = some x ∧ sc.names.lookup x = some .free := by
  unfold compOk at ok
  rw [Bool.and_eq_true, Bool.and_eq_true, Bool.and_eq_true] at ok
  have q := List.all_eq_true.mp ok.1.1.2 i (List.mem_range.mpr (List.getElem?_eq_some_iff.mp h).1)
  rw [h, hx] at q
  dsimp only at q
  cases e : X.N[j]? with
  | none => rw [e] at q; cases q
  | some y =>
    rw [e] at q
    dsimp only at q
    rw [Bool.and_eq_true] at q
    exact ⟨by rw [eq_of_beq q.1], eq_of_beq q.2⟩
theorem compOk.fr (ok : compOk X.N X.env.scope N' sc ix = true) {x : Str} (h : (x, NameKind.free) ∈ sc.names) : X.env.kindOf x = some .cell ∨ X.env.kindOf x = some .free := by
  unfold compOk at ok
  rw [Bool.and_eq_true, Bool.and_eq_true] at ok
  have q := List.all_eq_true.mp ok.1.2 _ h
  rw [Bool.and_eq_true] at q
  have q1 := q.1
  rw [Bool.or_eq_true] at q1
  rcases q1 with z | z
  · exact absurd z (by simp)
  · rw [Bool.or_eq_true] at z
    exact z.imp (fun e => eq_of_beq e) fun e => eq_of_beq e
theorem compOk.loc (ok : compOk X.N X.env.scope N' sc ix = true) : ∀ x ∈ sc.names, x.2 = NameKind.local → sc.names.lookup x.1 = some .local := fun x hx e => by
  unfold compOk at ok
  rw [Bool.and_eq_true, Bool.and_eq_true] at ok
  have q := List.all_eq_true.mp ok.1.2 _ hx
  rw [Bool.and_eq_true] at q
  have q1 := q.2
  rw [Bool.or_eq_true] at q1
  rcases q1 with z | z
  · rw [e] at z; exact absurd z (by decide)
  · exact eq_of_beq z
theorem compOk.apart (ok : compOk X.N X.env.scope N' sc ix = true) {x : Str} (h1 : (x, NameKind.cell) ∈ sc.names) (h2 : (x, NameKind.free) ∈ sc.names) : False := by
  unfold compOk at ok
  rw [Bool.and_eq_true] at ok
  have q := List.all_eq_true.mp (List.all_eq_true.mp ok.2 _ h1) _ h2
  simp at q
theorem comp_free (I : Inv X pins σ H s) (ok : compOk X.N X.env.scope N' sc ix = true) : ∀ x ∈ sc.names, x.2 = NameKind.free → ∃ c, X.env.cells.lookup x.1 = some c := fun x hx e => by
  obtain ⟨n, k⟩ := x
  have e' : k = NameKind.free := e
  subst e'
  exact I.ok.has n (compOk.fr ok hx)
theorem comp_cl (I : Inv X pins σ H s) (ok : compOk X.N X.env.scope N' sc ix = true) {x : Str} {c : Addr} (h : (clOf X.env.cells sc.names []).lookup x = some c) : (x, NameKind.free) ∈ sc.names ∧ X.env.cells.lookup x = some c := by
  rcases clOf_cases _ _ h with ⟨m, e⟩ | z
  · obtain ⟨d, hd⟩ := comp_free I ok _ m rfl
    have hd' : X.env.cells.lookup x = some d := hd
    rw [hd'] at e
    have e2 : c = d := e
    subst e2
    exact ⟨m, hd'⟩
  · simp at z
theorem comp_inv {fp : List Addr} {L : Addr} {h1 : Heap} (I : Inv X pins σ H s) (hf : ∀ b ∈ fp, FpOk X pins H b) (hb : ∀ b ∈ fp, ∃ o, s.heap.get? b = some o) (ok : compOk X.N X.env.scope N' sc ix = true) (hk : sc.kind = .function) (hL : s.heap.objs.size ≤ L)
    (kp : ∀ b o, s.heap.get? b = some o → h1.get? b = some o) (ns : h1.Ns L fun _ => none)
    (hc : ∀ x c, (cellsFrom (L + 1) sc.names (clOf X.env.cells sc.names [])).lookup x = some c → (clOf X.env.cells sc.names []).lookup x = some c ∨ (L < c ∧ h1.IsCell c none)) :
    Inv (cxComp X N' sc L (cellsFrom (L + 1) sc.names (clOf X.env.cells sc.names [])) s H fp) [] (inS ix σ) H { s with heap := h1 } := by
  have cc : ∀ x c, (clOf X.env.cells sc.names []).lookup x = some c → (x, NameKind.free) ∈ sc.names ∧ X.env.cells.lookup x = some c ∧ (∃ v, s.heap.IsCell c v) ∧ c < s.heap.objs.size := fun x c e => by
    obtain ⟨m, e'⟩ := comp_cl I ok e
    obtain ⟨v, z⟩ := I.cell x c e'
    exact ⟨m, e', ⟨v, z⟩, z.lt⟩
  have fpl : ∀ b ∈ fp, b < s.heap.objs.size := fun b z => let ⟨o, e⟩ := hb b z; Heap.lt_size e
  have cne : ∀ b ∈ fp, ∀ x c, (cellsFrom (L + 1) sc.names (clOf X.env.cells sc.names [])).lookup x = some c → c ≠ b := fun b z x c e => by
    have hlt := fpl b z
    rcases hc x c e with q | ⟨q, _⟩
    · exact (hf b z).2.2.2.2.1 x c (cc x c q).2.1
    · exact gt_ne (Nat.lt_of_lt_of_le hlt hL) q
  have okk : (cxComp X N' sc L (cellsFrom (L + 1) sc.names (clOf X.env.cells sc.names [])) s H fp).Ok := by
    refine ⟨I.ok.mod, hk, I.ok.glob, I.ok.blt, hL, ?_, ?_, ?_, I.ok.hd, I.ok.frames, .inl rfl, ?_, I.bs, Nat.le_trans I.ok.bsz I.sz, ?_, ?_, I.stack, I.stkFree⟩
    · refine cells_inj sc.names (L + 1) _ (fun x y c e1 e2 => I.ok.inj x y c (cc x c e1).2.1 (cc y c e2).2.1) fun x c e => ?_
      exact Nat.lt_succ_of_lt (Nat.lt_of_lt_of_le (cc x c e).2.2.2 hL)
    · intro x hx
      have hx' := relab_back (env := X.env) (x := x) (ns := sc.names) hx
      have q : ((cellsFrom (L + 1) sc.names (clOf X.env.cells sc.names [])).lookup x).isSome = true := by
        rcases hx' with z | z
        · exact PySem.W.cellsFrom_some _ _ _ (.inl z)
        · exact PySem.W.cellsFrom_some _ _ _ (.inr (clOf_some _ _ (.inl (PySem.mem_of_lookup z))))
      exact Option.isSome_iff_exists.mp q
    · intro x c hfn e
      show s.heap.objs.size ≤ c
      rcases hc x c e with q | ⟨q, _⟩
      · have m := (cc x c q).1
        have hfn' : (!(sc.names.any fun p => p.1 == x && p.2 == NameKind.free)) = true := hfn
        have z : (sc.names.any fun p => p.1 == x && p.2 == NameKind.free) = true := List.any_eq_true.mpr ⟨_, m, by simp⟩
        rw [z] at hfn'
        cases hfn'
      · exact Nat.le_trans hL (Nat.le_of_lt q)
    · intro b z
      have hlt := fpl b z
      exact ⟨Nat.ne_of_lt (Nat.lt_of_lt_of_le hlt hL), cne b z⟩
    · intro b o e z
      rcases (hf b z).2.2.2.1 with q | q
      · exact I.ok.noex b o e q
      · exact absurd (Nat.lt_of_lt_of_le (Heap.lt_size e) (Nat.le_trans I.ok.bsz q)) (Nat.lt_irrefl _)
    · intro b z hs
      rcases List.mem_cons.mp (I.stkSub b hs) with q | q
      · exact (hf b z).2.1 q
      · exact (hf b z).2.2.1 q
  refine ⟨okk, rfl, I.bare, Un.kept kp, ⟨_, ns, fun i x v h1' h2 h3 => ?_⟩, fun x c e => ?_, I.hok.fresh hL, fun x c e => ?_, fun p hp => absurd hp (by simp [cxComp]), I.hok.kept kp, ?_⟩
  · have hix : ∃ j, ix[i]? = some (some j) ∧ σ[j]? = some (some v) := by
      unfold inS at h2
      rw [List.getElem?_map] at h2
      cases e : ix[i]? with
      | none => rw [e] at h2; cases h2
      | some o =>
        rw [e] at h2
        cases o with
        | none => cases h2
        | some j =>
          have h2' : (σ[j]?).join = some v := Option.some.inj h2
          refine ⟨j, rfl, ?_⟩
          cases e2 : σ[j]? with
          | none => rw [e2] at h2'; cases h2'
          | some w =>
            rw [e2] at h2'
            have h2'' : w = some v := h2'
            rw [h2'']
    obtain ⟨j, e1, e2⟩ := hix
    obtain ⟨e3, e4⟩ := compOk.at ok e1 h1'
    have hfr := compOk.fr ok (PySem.mem_of_lookup e4)
    obtain ⟨m, hn, hl⟩ := I.loc
    obtain ⟨u, r, l⟩ := hl j x v e3 e2 (hfr.elim (fun z => .inr (.inl z)) fun z => .inr (.inr z))
    refine ⟨u, r, .inr ⟨relab_free (env := X.env) (x := x) (ns := sc.names) e4, ?_⟩⟩
    rcases l with ⟨k, _⟩ | ⟨k, c, e, z⟩
    · rcases hfr with q | q <;> rw [q] at k <;> cases k
    · have q1 := clOf_some (cells := X.env.cells) sc.names [] (.inl (PySem.mem_of_lookup e4))
      obtain ⟨c2, q2⟩ := Option.isSome_iff_exists.mp q1
      have q3 := (cc x c2 q2).2.1
      rw [e] at q3
      cases q3
      have q4 := PySem.W.cellsFrom_some (x := x) sc.names (L + 1) (clOf X.env.cells sc.names []) (.inr q1)
      obtain ⟨c3, q5⟩ := Option.isSome_iff_exists.mp q4
      rcases hc x c3 q5 with q6 | ⟨q6, q7⟩
      · rw [q2] at q6
        cases q6
        exact ⟨c, q5, z.keeps kp⟩
      · exfalso
        rcases cells_cases _ _ _ q5 with ⟨_, m'⟩ | q8
        · exact compOk.apart ok m' (PySem.mem_of_lookup e4)
        · rw [q2] at q8
          cases q8
          exact absurd (Nat.lt_trans (Nat.lt_of_lt_of_le (cc x c q2).2.2.2 hL) q6) (Nat.lt_irrefl _)
  · rcases hc x c e with q | ⟨_, q⟩
    · obtain ⟨v, z⟩ := (cc x c q).2.2.1
      exact ⟨v, z.keeps kp⟩
    · exact ⟨_, q⟩
  · rcases hc x c e with q | ⟨q, _⟩
    · exact I.freeC x c (cc x c q).2.1
    · exact I.hok.fresh (Nat.le_trans hL (Nat.le_of_lt q))
  · show (inS ix σ).length = N'.length
    unfold inS
    rw [List.length_map]
    exact compOk.len ok
end
noncomputable def PTs (X : Cx) (ifs : List Expr) (t : TT) : Prop :=
  ∀ (pins : List (Addr × Obj)) (s : Shared) (σ : St) (H : Hp) (Q : Bool → Hp → Prop), Inv X pins σ H s → t σ H Q →
    wpAny (model X.prog X.w) X.A (forIn ifs true fun c r => if r = true then do let ok ← isTrue c X.env (eval c X.env); pure (ForInStep.yield ok) else pure (ForInStep.yield r)) (TP X pins σ Q) X.xe s
noncomputable def tYes : TT := fun _ H Q => Q true H
theorem pts_nil {X : Cx} : PTs X [] tYes := fun _ _ _ H _ I h => wpAny_tests_nil ⟨H, I, h⟩
theorem pts_one {X : Cx} {c : Expr} {t : TT} (h : PT X c t) : PTs X [c] t := fun pins s σ H Q I q => wpAny_tests_one (h pins s σ H Q I q)
theorem compLoop_any {prog : Program} {w : World} {A : Around} {R : Result → Shared → Prop} {s : Shared} {elt tg iter : Expr} {ifs : List Expr} {scope : Scope} {pos : Pos} {it acc : Value} {env : Env} (J : Nat → Shared → Prop)
    (turn : ∀ n s, J n s → wpAny (model prog w) A (pyNext it) (fun r s1 => match r with
      | none => R (.ok .next) s1
      | some v => wpAny (model prog w) A (letOwnedTupleGo tg it v) (fun _ s1' => wpAny (model prog w) A (assign tg env v) (fun _ s2 =>
          wpAny (model prog w) A (forIn ifs true fun c r => if r = true then do let ok ← isTrue c env (eval c env); pure (ForInStep.yield ok) else pure (ForInStep.yield r)) (fun ok s3 =>
            if ok = true then wpAny (model prog w) A (eval elt env) (fun x s4 => wpAny (model prog w) A (call (.builtin "list.append") [acc, x]) (fun _ s5 => ∃ m, m < n ∧ J m s5) (fun _ _ => False) s4) (fun _ _ => False) s3
            else ∃ m, m < n ∧ J m s3) (fun _ _ => False) s2) (fun _ _ => False) s1') (fun _ _ => False) s1) (fun _ _ => False) s)
    (n : Nat) (h : J n s) : codeAny (model prog w) A (.compLoop (.ListComp elt [⟨tg, iter, ifs, 0⟩] scope pos) 0 it acc env) R s := by
  refine codeAny_loop rfl J (fun n s hJ => ?_) n h
  show wpAny _ A ((compTurn (.ListComp elt [⟨tg, iter, ifs, 0⟩] scope pos) 0 it acc env).onRaise (fun x => do noteFrame x env; theTreesLotGoes x)) _ _ s
  refine wpAny_noted ?_
  rw [compTurn_list]
  refine wpAny_bind (wpAny_standAt (wpAny_bind (wpAny_mono (turn n s hJ) (fun r s1 h1 => ?_) fun _ _ z => z.elim)))
  cases r with
  | none => exact wpAny_pure h1
  | some v =>
    refine wpAny_bind (wpAny_mono h1 (fun _ s1' h1' => ?_) fun _ _ z => z.elim)
    refine wpAny_bind (wpAny_mono h1' (fun _ s2 h2 => wpAny_bind (wpAny_mono h2 (fun ok s3 h3 => ?_) fun _ _ z => z.elim)) fun _ _ z => z.elim)
    cases ok with
    | false => exact wpAny_pure ⟨rfl, h3⟩
    | true =>
      exact wpAny_bind (wpAny_bind (wpAny_mono h3 (fun x s4 h4 => wpAny_bind (wpAny_mono h4 (fun _ s5 h5 => wpAny_pure (wpAny_pure ⟨rfl, h5⟩)) fun _ _ z => z.elim)) fun _ _ z => z.elim))
noncomputable def compTurns (J : It) (ix : List (Option Nat)) (g : TG) (tt : TT) (te : TE) (σ : St) (F : List V → Hp → Prop) (H : Hp) : Prop :=
  ∃ W : Nat → Nat → List V → Hp → Prop, (∃ m, W 0 m [] H) ∧ ∀ i m ys H, W i m ys H →
    (J.stop i H ∧ ys.length ≤ sizeLine ∧ F ys H) ∨ (J.go i H ∧ ys.length ≤ sizeLine ∧ ∃ N : List V → Hp → Prop, (∀ ys' H', N ys' H' → ∃ m', m' < m ∧ W (i + 1) m' ys' H') ∧
      ∀ x H', J.yld i H x H' → g x (inS ix σ) H' fun σ2 H2 => tt σ2 H2 fun b H3 => if b = true then te σ2 H3 fun y H4 => N (ys ++ [y]) H4 else N ys H3)
section
variable {X : Cx} {pins : List (Addr × Obj)} {σ : St} {H : Hp} {s : Shared} {N' : List Str} {sc : Scope} {ix : List (Option Nat)}
theorem Inv.slots0 {X : Cx} {σ' : St} (I : Inv X pins σ' H s) (h : ∀ (i : Nat) v, (inS ix σ)[i]? = some (some v) → σ'[i]? = some (some v)) (hl : (inS ix σ).length = X.N.length) : Inv X pins (inS ix σ) H s :=
  I.weak (by rw [hl, I.len]) h
theorem comp_core {tg elt iter : Expr} {ifs : List Expr} {pos : Pos} {g : TG} {tt : TT} {te : TE} {J : It} {fp : List Addr} {it : Addr} {tn : Nat → Heap → Prop} {F : List V → Hp → Prop} {E : Value → Shared → Prop}
    (hc : X.calm = true) (I : Inv X pins σ H s) (T : Turn X.prog X.w X.K tg J fp it tn) (st : tn 0 s.heap) (hf : ∀ b ∈ fp, FpOk X pins H b) (ok : compOk X.N X.env.scope N' sc ix = true) (hk : sc.kind = .function)
    (hg : ∀ L cs s H fp, PG (cxComp X N' sc L cs s H fp) tg g) (hkeep : ∀ x σ' H' (Q : St → Hp → Prop), g x σ' H' Q → g x σ' H' fun σ2 H2 => Q σ2 H2 ∧ ∀ (i : Nat) v, σ'[i]? = some (some v) → (∃ j, ix[i]? = some (some j)) → σ2[i]? = some (some v))
    (ht : ∀ L cs s H fp, PTs (cxComp X N' sc L cs s H fp) ifs tt) (he : ∀ L cs s H fp, PE (cxComp X N' sc L cs s H fp) elt te)
    (tr : compTurns J ix g tt te σ F H) :
    wpAny (model X.prog X.w) X.A (newList []) (fun acc s3 => wpAny (model X.prog X.w) X.A (newFunctionEnv sc X.env.globals (clOf X.env.cells sc.names []) [] X.env.qual none .none (some X.env)) (fun cenv s4 =>
      codeAny (model X.prog X.w) X.A (.compStart (.ListComp elt [⟨tg, iter, ifs, 0⟩] sc pos) 0 (.ref it) acc { cenv with scope := relabel sc X.env }) (fun r s' => (∃ fl, r = .ok fl) ∧
        ∃ (p : Addr) (ys : List V) (H2 : Hp), acc = .ref p ∧ Inv X pins σ (upd H2 p (.lst ys)) s' ∧ H2 p = none ∧ F ys H2 ∧ (∃ m, s'.heap.Ns cenv.locals m) ∧ (upd H2 p (.lst ys)) cenv.locals = none ∧ cenv.locals ≠ X.env.locals ∧
          X.s₀.heap.objs.size ≤ cenv.locals ∧ (∀ x c, X.env.cells.lookup x = some c → c ≠ cenv.locals) ∧ ∀ q ∈ X.pn ++ pins, q.1 ≠ cenv.locals) s4) E s3) E s := by
  obtain ⟨W, ⟨m0, w0⟩, turn⟩ := tr
  refine wpAny_newObj_type (new_block fun h1 kp ns hcl => ?_)
  dsimp only at kp ns hcl ⊢
  generalize hH2 : s.heap.push { cls := .type "list", dict := none, data := .seq ([] : List Value).toArray } = HH at kp ns hcl ⊢
  have eL : HH.objs.size = s.heap.objs.size + 1 := by rw [← hH2, Heap.size_push]
  have kp0 : ∀ b o, s.heap.get? b = some o → h1.get? b = some o := fun b o e => kp b o (hH2 ▸ Heap.get?_push_of_some _ e)
  have hD0 : h1.PlainList s.heap.objs.size #[] := ⟨_, kp _ _ (hH2 ▸ Heap.get?_push_size _ rfl)⟩
  have fpo : ∀ b ∈ fp, ∃ o, s.heap.get? b = some o := fun b z => let ⟨o, e, _⟩ := T.obj 0 _ st b z; ⟨o, e⟩
  have fpl : ∀ b ∈ fp, b < s.heap.objs.size := fun b z => let ⟨o, e⟩ := fpo b z; Heap.lt_size e
  have sL : s.heap.objs.size ≤ HH.objs.size := by rw [eL]; exact Nat.le_succ _
  have sL' : s.heap.objs.size < HH.objs.size := by rw [eL]; exact Nat.lt_succ_self _
  have I0 := comp_inv (h1 := h1) I hf fpo ok hk sL kp0 ns hcl
  generalize hXX : cxComp X N' sc HH.objs.size (cellsFrom (HH.objs.size + 1) sc.names (clOf X.env.cells sc.names [])) s H fp = Y at I0
  have eY1 : Y.prog = X.prog := by subst hXX; rfl
  have eY2 : Y.w = X.w := by subst hXX; rfl
  have eY3 : Y.K = X.K := by subst hXX; rfl
  have eY4 : Y.calm = true := by subst hXX; exact hc
  have eY5 : Y.A = X.A := by subst hXX; rfl
  have eY6 : Y.env = { scope := relabel sc X.env, locals := HH.objs.size, globals := X.env.globals, cells := cellsFrom (HH.objs.size + 1) sc.names (clOf X.env.cells sc.names []), qual := X.env.qual, func := none, code := X.env.code, frame := X.env.frame, builtins := X.env.builtins } := by subst hXX; rfl
  have eY7 : Y.xe = fun _ _ => False := by subst hXX; rfl
  have eY8 : Y.pn = [] := by subst hXX; rfl
  have eY9 : Y.fs = frs X.stack := by subst hXX; rfl
  have eY10 : Y.s₀ = s := by subst hXX; rfl
  have eY11 : Y.H₀ = H := by subst hXX; rfl
  have eY12 : Y.ex = fp := by subst hXX; rfl
  have eY13 : Y.N = N' := by subst hXX; rfl
  have hgY : PG Y tg g := by subst hXX; exact hg _ _ _ _ _
  have htY : PTs Y ifs tt := by subst hXX; exact ht _ _ _ _ _
  have heY : PE Y elt te := by subst hXX; exact he _ _ _ _ _
  have lenI : (inS ix σ).length = Y.N.length := by rw [eY13]; unfold inS; rw [List.length_map]; exact compOk.len ok
  have cellN : ∀ (b : Addr), b ≤ HH.objs.size → (∀ x c, X.env.cells.lookup x = some c → c ≠ b) → ∀ x c, Y.env.cells.lookup x = some c → c ≠ b := fun b hb hx x c e => by
    rw [eY6] at e
    rcases hcl x c e with q | ⟨q, _⟩
    · exact hx x c (comp_cl I ok q).2
    · exact (lt_ne (Nat.lt_of_le_of_lt hb (Nat.lt_succ_self _)) q).symm
  have oldc : ∀ x c, X.env.cells.lookup x = some c → c < s.heap.objs.size := fun x c e => let ⟨v, z⟩ := I.cell x c e; z.lt
  have nfs : ∀ b, s.heap.objs.size ≤ b → b ∉ frs X.stack := fun b hb z => by
    rcases List.mem_cons.mp (I.stkSub b z) with q | q
    · exact lt_ne I.lt hb q.symm
    · exact I.nofs hb q
  have fpY : ∀ (pp : List (Addr × Obj)) (H' : Hp), (∀ b ∈ fp, H' b = none) → (∀ q ∈ pp, q.1 ∉ fp) → ∀ b ∈ fp, FpOk Y pp H' b := fun pp H' hn hq b z => by
    have hlt := fpl b z
    refine ⟨hn b z, ?_, ?_, .inl (by rw [eY12]; exact z), cellN b (Nat.le_of_lt (Nat.lt_trans hlt sL')) ((hf b z).2.2.2.2.1), fun q hq' e => ?_⟩
    · rw [eY6]; exact lt_ne hlt sL
    · rw [eY9]; intro hs
      rcases List.mem_cons.mp (I.stkSub b hs) with q | q
      · exact (hf b z).2.1 q
      · exact (hf b z).2.2.1 q
    · rw [eY8] at hq'
      exact hq q (by simpa using hq') (by rw [e]; exact z)
  have Dfp : s.heap.objs.size ∉ fp := fun z => absurd (fpl _ z) (Nat.lt_irrefl _)
  have Dok : ∀ (pp : List (Addr × Obj)) (H' : Hp), H' s.heap.objs.size = none → (∀ q ∈ pp, q.1 ≠ s.heap.objs.size) → FpOk Y pp H' s.heap.objs.size := fun pp H' hn hq => by
    refine ⟨hn, ?_, by rw [eY9]; exact nfs _ (Nat.le_refl _), .inr (by rw [eY10]; exact Nat.le_refl _), cellN _ sL (fun x c e => Nat.ne_of_lt (oldc x c e)), fun q hq' => ?_⟩
    · rw [eY6]; exact Nat.ne_of_lt sL'
    · rw [eY8] at hq'
      exact hq q (by simpa using hq')
  have loop : codeAny (model X.prog X.w) X.A (.compLoop (.ListComp elt [⟨tg, iter, ifs, 0⟩] sc pos) 0 (.ref it) (.ref s.heap.objs.size) Y.env) (fun r s' => (∃ fl, r = .ok fl) ∧
        ∃ (p : Addr) (ys : List V) (H2 : Hp), Value.ref s.heap.objs.size = .ref p ∧ Inv X pins σ (upd H2 p (.lst ys)) s' ∧ H2 p = none ∧ F ys H2 ∧ (∃ m, s'.heap.Ns HH.objs.size m) ∧ (upd H2 p (.lst ys)) HH.objs.size = none ∧ HH.objs.size ≠ X.env.locals ∧
          X.s₀.heap.objs.size ≤ HH.objs.size ∧ (∀ x c, X.env.cells.lookup x = some c → c ≠ HH.objs.size) ∧ ∀ q ∈ X.pn ++ pins, q.1 ≠ HH.objs.size) { s with heap := h1 } := by
    refine compLoop_any (fun n s' => ∃ i ys its H', Inv Y [] (inS ix σ) H' s' ∧ tn i s'.heap ∧ (∀ b ∈ fp, H' b = none) ∧ H' s.heap.objs.size = none ∧ s'.heap.PlainList s.heap.objs.size its ∧ Vals ys its.toList ∧ W i n ys H') ?_ m0
      ⟨0, [], #[], H, I0, T.keep _ _ _ st fun b _ o e => kp0 b o e, fun b z => (hf b z).1, I.hok.fresh (Nat.le_refl _), hD0, .nil, w0⟩
    rintro n s3 ⟨i, ys, its, H3, I3, st3, fr3, hD3, pl3, vs3, w3⟩
    obtain ⟨nD, oD⟩ := pl3
    have hpD : ∀ q ∈ [((s.heap.objs.size : Addr), ({ cls := .type "list", data := .seq its nD } : Obj))], q.1 ∉ fp := fun q hq => by
      have : q = _ := List.mem_singleton.mp hq
      rw [this]; exact Dfp
    have I3' : Inv Y [((s.heap.objs.size : Addr), ({ cls := .type "list", data := .seq its nD } : Obj))] (inS ix σ) H3 s3 := I3.pins_of fun q hq => by
      have e : q = _ := List.mem_singleton.mp hq
      obtain ⟨d0, d1, d2, _⟩ := Dok [] H3 hD3 (fun _ z => nomatch z)
      rw [e]
      exact ⟨oD, d0, d1, d2, fun v z => by cases z⟩
    rcases turn i n ys H3 w3 with ⟨stop, ln, qn⟩ | ⟨go, ln, NN, hNN, step⟩
    · have h1 := T.done Y eY1 eY2 eY3 eY4 i _ s3 _ H3 (fun _ _ => False) I3' (fpY _ H3 fr3 hpD) st3 stop
      rw [eY5] at h1
      refine wpAny_mono h1 (fun r s4 ⟨hr, I4⟩ => ?_) fun _ _ z => z
      subst hr
      obtain ⟨oD4, hD4, _⟩ := I4.pin ((s.heap.objs.size : Addr), ({ cls := .type "list", data := .seq its nD } : Obj)) (by rw [eY8]; simp)
      refine ⟨⟨_, rfl⟩, s.heap.objs.size, ys, H3, rfl, ?_, hD3, qn, ?_, ?_, ?_, ?_, ?_, ?_⟩
      · have ub : Un (frs X.stack) fp H H3 s.heap s4.heap := by
          have := I4.base
          rw [eY9, eY10, eY11, eY12] at this
          exact this
        have hok4 : HOk X.prog X.w H3 s4.heap := by
          have := I4.hok
          rw [eY1, eY2] at this
          exact this
        refine I.call' (ch := fp) (by have := I4.os; rw [eY10] at this; exact this) ⟨ub.keep, ub.slot, fun b o e nn hx => ?_, ub.there, fun b xs q => ?_, fun b o u q => ?_, fun b ps q => ?_⟩ (fun b u e => ?_) I4.bare (fun b hb => ?_)
        · rw [upd_ne (Nat.ne_of_lt (Heap.lt_size e))]; exact ub.free b o e nn hx
        · rw [upd_ne (ne_of_none (ub.tups b xs q) hD3)]; exact ub.tups b xs q
        · rw [upd_ne (ne_of_none (ub.frzs b o u q) hD3)]; exact ub.frzs b o u q
        · obtain ⟨more, z⟩ := ub.tbls b ps q
          exact ⟨more, by rw [upd_ne (ne_of_none z hD3)]; exact z⟩
        · by_cases hb : b = s.heap.objs.size
          · subst hb
            rw [upd_same] at e
            cases e
            exact ⟨ln, its.toList, nD, vs3, by simpa using oD4⟩
          · rw [upd_ne hb] at e
            exact (hok4 b u e).stay (fun _ _ _ q => q) (fun c q => by rw [upd_ne (ne_of_none q hD3)]; exact q) fun c xs q => by rw [upd_ne (ne_of_none q hD3)]; exact q
        · obtain ⟨f0, f1, f2, f3, f4, f5⟩ := hf b hb
          exact ⟨f3, f1, f4, f5⟩
      · obtain ⟨m, hn, _⟩ := I4.loc
        rw [eY6] at hn
        exact ⟨m, hn⟩
      · rw [upd_ne (Nat.ne_of_gt sL')]
        have := I4.free
        rw [eY6] at this
        exact this
      · exact Nat.ne_of_gt (Nat.lt_trans I.lt sL')
      · exact Nat.le_trans I.sz sL
      · exact fun x c e => lt_ne (oldc x c e) sL
      · exact fun q hq => lt_ne (Heap.lt_size (I.pin q hq).1) sL
    · have h1 := T.item Y eY1 eY2 eY3 eY4 i _ s3 _ H3 (fun _ _ => False) I3' (fpY _ H3 fr3 hpD) st3 go
      rw [eY5] at h1
      refine wpAny_mono h1 (fun r s4 ⟨u, hr, h4⟩ => ?_) fun _ _ z => z
      subst hr
      refine wpAny_mono h4 (fun _ s5 ⟨x, H5, I5, r5, y5, st5, fr5⟩ => ?_) fun _ _ z => z
      have I5' := I5.pinned (fpY _ H5 fr5 hpD) (T.obj _ _ st5)
      have h5 := hgY _ s5 _ H5 x u _ I5' r5 (hkeep x _ H5 _ (step x H5 y5))
      rw [eY1, eY2, eY5, eY7] at h5
      refine wpAny_mono h5 (fun _ s6 ⟨σ6, H6, I6, q6, k6⟩ => ?_) fun _ _ z => z
      have h6 := htY _ s6 σ6 H6 _ I6 q6
      rw [eY1, eY2, eY5, eY7] at h6
      refine wpAny_mono h6 (fun b s7 ⟨H7, I7, q7⟩ => ?_) fun _ _ z => z
      have back : ∀ {s8 : Shared} {H8 : Hp}, Inv Y ([((s.heap.objs.size : Addr), ({ cls := .type "list", data := .seq its nD } : Obj))] ++ pinsAt fp s5.heap) σ6 H8 s8 → Inv Y [] (inS ix σ) H8 s8 ∧ tn (i + 1) s8.heap ∧ (∀ b ∈ fp, H8 b = none) ∧ H8 s.heap.objs.size = none ∧ s8.heap.get? s.heap.objs.size = some { cls := .type "list", data := .seq its nD } := fun {s8 H8} I8 => by
        obtain ⟨a1, a2, _⟩ := I8.pin ((s.heap.objs.size : Addr), ({ cls := .type "list", data := .seq its nD } : Obj)) (by rw [eY8]; simp)
        refine ⟨(I8.pins_of (pins' := []) fun _ z => nomatch z).slots0 (fun k v e => ?_) lenI, T.keep _ _ _ st5 fun b hb o e => (I8.pin (b, o) (List.mem_append_right _ (List.mem_append_right _ (mem_pinsAt hb e)))).1, fun b hb => ?_, a2, a1⟩
        · refine k6 k v e ?_
          unfold inS at e
          rw [List.getElem?_map] at e
          cases e2 : ix[k]? with
          | none => rw [e2] at e; cases e
          | some o =>
            cases o with
            | none => rw [e2] at e; cases e
            | some j => exact ⟨j, rfl⟩
        · obtain ⟨o, e, d⟩ := T.obj _ _ st5 b hb
          exact (I8.pin (b, o) (List.mem_append_right _ (List.mem_append_right _ (mem_pinsAt hb e)))).2.1
      cases b with
      | false =>
        rw [if_neg Bool.false_ne_true] at q7 ⊢
        obtain ⟨m', hm, w7⟩ := hNN _ _ q7
        obtain ⟨b1, b2, b3, b4, b5⟩ := back I7
        exact ⟨m', hm, i + 1, ys, its, H7, b1, b2, b3, b4, ⟨nD, b5⟩, vs3, w7⟩
      | true =>
        rw [if_pos rfl] at q7 ⊢
        have h7 := heY _ s7 σ6 H7 _ I7 q7
        rw [eY1, eY2, eY5, eY7, eY6] at h7
        rw [eY6]
        refine wpAny_mono h7 (fun uu s8 ⟨y, H8, I8, r8, q8⟩ => ?_) fun _ _ z => z
        obtain ⟨m', hm, w8⟩ := hNN _ _ q8
        obtain ⟨b1, b2, b3, b4, b5⟩ := back I8
        have ez : its.size ≤ sizeLine := by
          have h1 := vs3.length
          have h2 : its.toList.length = its.size := by simp
          omega
        refine wpAny_list_append_plain (hsz := ez) ⟨nD, b5⟩ fun h9 pl9 sb9 => ?_
        obtain ⟨d0, d1, d2, d3, d4, d5⟩ := Dok [] H8 b4 (fun _ z => nomatch z)
        refine ⟨m', hm, i + 1, ys ++ [y], its.push uu, H8, b1.turned (t' := s8.toks) (fun b o hb e => (sb9.2 b hb).trans e) d0 d1 d3 d4 d5, T.keep _ _ _ b2 fun b hb o e => (sb9.2 b ?_).trans e, b3, b4, pl9, ?_, w8⟩
        · exact lt_ne (fpl b hb) (Nat.le_refl _)
        · rw [Array.toList_push]
          exact vs3.append (.cons r8 .nil)
  rw [eY6] at loop
  exact codeAny_compStart_list loop (T.self X.A 0 _ _ _ (T.keep _ _ _ st fun b _ o e => kp0 b o e) loop)
end
noncomputable def tComp (wi : TI) (ix : List (Option Nat)) (g : TG) (tt : TT) (te : TE) : TE := fun σ H Q => wi σ H fun J H1 => compTurns J ix g tt te σ (fun ys H2 => ∀ p, H2 p = none → Q (.ref p) (upd H2 p (.lst ys))) H1
noncomputable def Leaves (ix : List (Option Nat)) (g : TG) : Prop := ∀ x σ' H' (Q : St → Hp → Prop), g x σ' H' Q → g x σ' H' fun σ2 H2 => Q σ2 H2 ∧ ∀ (i : Nat) v, σ'[i]? = some (some v) → (∃ j, ix[i]? = some (some j)) → σ2[i]? = some (some v)
theorem leaves_name {ix : List (Option Nat)} {k : Nat} (h : ix[k]? = some none) : Leaves ix (gName k) := fun x σ' H' Q q => ⟨q, fun i v e ⟨j, hj⟩ => by
  have : k ≠ i := by rintro rfl; rw [h] at hj; cases hj
  rw [List.getElem?_set_ne this]; exact e⟩
section
variable {X : Cx} {N' : List Str} {sc : Scope} {ix : List (Option Nat)} {tg elt iter : Expr} {ifs : List Expr} {pos spos py : Pos} {wi : TI} {g : TG} {tt : TT} {te : TE}
theorem pe_comp (N' : List Str) (ix : List (Option Nat)) (hc : X.calm = true) (hi : PI X tg iter wi) (hg : ∀ L cs s H fp, PG (cxComp X N' sc L cs s H fp) tg g) (hl : Leaves ix g)
    (ht : ∀ L cs s H fp, PTs (cxComp X N' sc L cs s H fp) ifs tt) (he : ∀ L cs s H fp, PE (cxComp X N' sc L cs s H fp) elt te)
    (ok : compOk X.N X.env.scope N' sc ix = true := by rfl) (hk : sc.kind = .function := by rfl) (hs : ∀ x, foldedSetIterable iter X.env x = pure x := by intro _; rfl) :
    PE X (.ListComp elt [⟨tg, iter, ifs, 0⟩] sc pos) (tComp wi ix g tt te) := by
  intro pins s σ H Q I h
  rw [eval_ListComp]
  refine wpAny_comprehension_free (use := none) rfl hs (closure_eq (comp_free I ok)) hk (compOk.loc ok) (thn (hi pins s σ H _ I h) fun v s1 h1 => thn h1 fun itv s2 h2 => ?_)
  obtain ⟨it, fp, tn, J, H2, e, I2, T, st2, f2, tr⟩ := h2
  subst e
  refine thn (comp_core hc I2 T st2 f2 ok hk hg hl ht he tr) fun acc s3 h3 => thn h3 fun cenv s4 h4 => codeAny_mono h4 fun r s5 hr => ?_
  obtain ⟨⟨fl, e1⟩, p, ys, H5, e2, I5, hp, q, ⟨m, hn⟩, c0, c1, c2, c3, c4⟩ := hr
  subst e1
  subst e2
  exact ⟨m, hn, fun h' sb => ⟨.ref p, _, I5.turned (t' := s5.toks) (fun b o hb e => (sb.2 b hb).trans e) c0 c1 (.inr c2) c3 c4, rfl, q p hp⟩⟩
noncomputable def tSetComp (j : Nat) (wi : TI) (ix : List (Option Nat)) (g : TG) (tt : TT) (te : TE) : TS := fun D σ H => wi σ H fun J H1 => compTurns J ix g tt te σ (fun ys H2 => ∀ p, H2 p = none → D.nx (σ.set j (some (.ref p))) (upd H2 p (.lst ys))) H1
theorem ps_setComp (N' : List Str) (ix : List (Option Nat)) {j : Nat} {y : Str} (hN : X.N.Nodup) (hj : X.N[j]? = some y) (hy : X.env.scope.names.lookup y = some .local) (hc : X.calm = true) (hi : PI X tg iter wi) (hg : ∀ L cs s H fp, PG (cxComp X N' sc L cs s H fp) tg g) (hl : Leaves ix g)
    (ht : ∀ L cs s H fp, PTs (cxComp X N' sc L cs s H fp) ifs tt) (he : ∀ L cs s H fp, PE (cxComp X N' sc L cs s H fp) elt te)
    (hsw : swapsWith (.ListComp elt [⟨tg, iter, ifs, 0⟩] sc pos) (some (.Name y py)) spos.line X.env = pure true := by rfl)
    (ok : compOk X.N X.env.scope N' sc ix = true := by rfl) (hk : sc.kind = .function := by rfl) (hs : ∀ x, foldedSetIterable iter X.env x = pure x := by intro _; rfl) :
    PS X (.Assign [.Name y py] (.ListComp elt [⟨tg, iter, ifs, 0⟩] sc pos) spos) (tSetComp j wi ix g tt te) := by
  intro pins s σ H D I h
  rw [exec_Assign_Name_used _ _ _ _ hsw]
  refine wpAny_bind (wpAny_standAt (wpAny_bind ?_))
  show wpAny _ X.A (do let _ ← comprehension (.ListComp elt [⟨tg, iter, ifs, 0⟩] sc pos) sc X.env _ (newList []) false (eval iter X.env) (some (assign (.Name y py) X.env))) _ _ s
  refine wpAny_bind (wpAny_mono (wpAny_comprehension_free (use := some (assign (.Name y py) X.env)) (Q := fun _ s' => SP X pins D .next s') rfl hs (closure_eq (comp_free I ok)) hk (compOk.loc ok) (thn (hi pins s σ H _ I h) fun v s1 h1 => thn h1 fun itv s2 h2 => ?_)) (fun _ s' hq => wpAny_pure (wpAny_pure hq)) fun _ _ z => z)
  obtain ⟨it, fp, tn, J, H2, e, I2, T, st2, f2, tr⟩ := h2
  subst e
  refine thn (comp_core hc I2 T st2 f2 ok hk hg hl ht he tr) fun acc s3 h3 => thn h3 fun cenv s4 h4 => codeAny_mono h4 fun r s5 hr => ?_
  obtain ⟨⟨fl, e1⟩, p, ys, H5, e2, I5, hp, q, ⟨m, hn⟩, c0, c1, c2, c3, c4⟩ := hr
  subst e1
  subst e2
  show wpAny _ X.A (assign (.Name y py) X.env (.ref p)) _ _ s5
  refine wpAny_assign_Name (store_ok2 (v := .ref p) I5 hN hj (.inl hy) rfl (fun s6 I6 ⟨a, sb, ha⟩ => ?_) (.inr hy))
  have ea : cenv.locals ≠ a := by
    rcases ha with z | z
    · rw [z]; exact c1
    · exact fun e => c3 y a z e.symm
  refine ⟨m, hn.sameBut sb ea, fun h' sb' => ?_⟩
  exact ⟨_, _, I6.turned (t' := s6.toks) (fun b o hb e => (sb'.2 b hb).trans e) c0 c1 (.inr c2) c3 c4, q p hp⟩
end
end L2
namespace L2
open PySem PySem.Spec PyProof.Rows
section
variable {X : Cx}
theorem bools_of : ∀ {bs : List Bool} {us : List Value}, Vals (bs.map V.bl) us → LSm.BoolsAre us bs
  | [], _, .nil => .nil
  | b :: r, _, .cons e t => by cases e; exact .cons b (bools_of t)
theorem call_all (hc : X.calm = true) : CallR X (.builtin "all") (fun xs H Q => ∃ (a : Addr) (bs : List Bool), xs = [.ref a] ∧ SqL X.K H a (bs.map V.bl) ∧ Q (.bl (bs.all id)) H) := by
  intro pins s σ H xs us Q I r h
  obtain ⟨a, bs, rfl, hq, q⟩ := h
  obtain ⟨u, rfl, ru⟩ := r.one
  cases ru
  obtain ⟨its, rv, p, hz⟩ := I.list hq
  have hb := bools_of rv
  have hl := p.isList
  have hlt : a < s.heap.objs.size := by obtain ⟨_, e, _⟩ := hl; exact Heap.lt_size e
  refine call_all_walk (wpAny_pyIter_list hl ?_)
  refine ⟨s.heap.objs.size, [s.heap.objs.size, a], [s.heap.objs.size], its.toArray.size, _, _, fun i => (bs[i]?).getD true, rfl, Walks.list (A := X.A.in1) (I.ok.hd hc) _ a (Nat.ne_of_lt hlt) its.toArray,
    ⟨⟨_, Heap.get?_push_size _ rfl, rfl, rfl⟩, hl.push _⟩, fun i v s' Q' E' hP hQ => ?_, fun h' tk hk => ?_⟩
  · obtain ⟨b, e, rfl⟩ := hb.get i v (by simpa using hP)
    simp only [e, Option.getD_some] at hQ
    exact wpAny_truthy_bool hQ
  · have e : ((List.range its.toArray.size).all fun i => (bs[i]?).getD true) = bs.all id := by
      rw [List.size_toArray, hb.length]; exact LSm.range_all bs
    rw [e]
    exact ⟨.bl (bs.all id), H, I.kept (LSm.kept_iter hk), rfl, q⟩
noncomputable def clsV : V → Option Value
  | .ty n => some (.type n)
  | .ref a => some (.ref a)
  | _ => none
theorem clsV_is {y : V} {c u : Value} (h : clsV y = some c) (r : RelV y u) : u = c := by
  cases y with
  | ty n => cases r; exact Option.some.inj h
  | ref a => cases r; exact Option.some.inj h
  | _ => cases h
theorem call_isi : CallR X (.builtin "isinstance") (fun xs H Q => ∃ x y c t b, xs = [x, y] ∧ clsV y = some c ∧ TyOf X.K H x t ∧ PySem.W.kitOne X.K t c = some b ∧ Q (.bl b) H) := by
  intro pins s σ H xs us Q I r h
  obtain ⟨x, y, c, t, b, rfl, hc, ty, e, q⟩ := h
  obtain ⟨u, v, rfl, ru, rv⟩ := r.two
  have ev := clsV_is hc rv
  subst ev
  exact isinst_ok I ru ty e fun tk => ⟨.bl b, H, I.tok tk, rfl, q⟩
inductive EqV (K : PySem.W.Frag) (H : Hp) : Nat → V → V → Bool → Prop where
  | flat {n : Nat} {x y : V} (hx : flatV x = true) (hy : flatV y = true) : EqV K H n x y (eqV x y)
  | same {n : Nat} {a : Addr} : EqV K H n (.ref a) (.ref a) true
  | lists {n : Nat} {a b : Addr} {xs ys : List V} {e : Nat → Bool} (ha : SqL K H a xs) (hb : SqL K H b ys) (hl : xs.length = ys.length) (ne : a ≠ b)
      (he : ∀ j x y, xs[j]? = some x → ys[j]? = some y → EqV K H n x y (e j)) : EqV K H (n + 1) (.ref a) (.ref b) ((List.range xs.length).all e)
  | listsL {n : Nat} {a b : Addr} {xs ys : List V} (ha : SqL K H a xs) (hb : SqL K H b ys) (hl : xs.length ≠ ys.length) (ne : a ≠ b) : EqV K H (n + 1) (.ref a) (.ref b) false
  | tups {n : Nat} {a b : Addr} {xs ys : List V} {e : Nat → Bool} (ha : SqT K H a xs) (hb : SqT K H b ys) (ne : a ≠ b)
      (he : ∀ j x y, xs[j]? = some x → ys[j]? = some y → EqV K H n x y (e j)) : EqV K H (n + 1) (.ref a) (.ref b) ((List.range (min xs.length ys.length)).all e && xs.length == ys.length)
theorem Vals.atA {xs : List V} {us : List Value} (r : Vals xs us) {j : Nat} (h : j < us.toArray.size) : ∃ x, xs[j]? = some x ∧ RelV x us.toArray[j] := by
  have hl := r.length
  have hj : j < xs.length := by rw [hl]; simpa using h
  obtain ⟨u, e1, e2⟩ := r.get (i := j) (x := xs[j]) (by simp [hj])
  refine ⟨xs[j], by simp [hj], ?_⟩
  have : us.toArray[j] = u := by
    have h' : j < us.length := by simpa using h
    rw [List.getElem?_eq_getElem h'] at e1
    simpa using Option.some.inj e1
  rw [this]; exact e2
end
end L2
namespace L2
open PySem PySem.Spec PyProof.Rows
section
variable {X : Cx} {x : Str} {pos : Pos}
theorem pe_tyN {T : String} (hg : Gl X x) (hm : X.mg x = none) (hv : bootBuiltins x = some (.type T)) (hn : x ≠ "__name__" := by decide) (hd : (x == ("__debug__" : Str)) = false := by decide) : PE X (.Name x pos) (tC (.ty T)) := pe_bltn (v := .ty T) hg hm hv rfl hn hd
theorem pe_gint {n : Int} (hg : Gl X x) (hm : ∃ t, X.mg x = some (.int n t)) (hd : (x == ("__debug__" : Str)) = false := by decide) : PE X (.Name x pos) (tC (.int n)) := by
  obtain ⟨t, e⟩ := hm
  exact pe_glob (v := .int n) hg e ⟨t, rfl⟩ hd
end
section
variable {P : Program} {w : World} {K : PySem.W.Frag} {mg : Str → Option Value} {base : Heap} {CX : CXT}
theorem Fun.okX {x qual : Str} {st : Stmt} {f : Addr} {fd : FuncData} {N ps : List Str} {k : Nat} {sp : Sp} (F : Fun K x qual st f fd) (S : FnScope N ps (defScope st)) (len : ∀ vs H Q E, sp vs H Q E → vs.length = ps.length)
    (hbody : ∀ (cdv : Value) (A : Around) (outer : List Env) (s : Shared) (H : Hp) (vs : List V) (Q : VK) (E : XK), Room k (A.deeper (envOfC qual (defScope st) s.heap.objs.size f cdv)) → sp vs H Q E →
      ∃ t, PSs (cxOf CX P w K mg base N qual (defScope st) f cdv A outer s H E).nox (defBody st) t ∧ t { nx := fun _ H' => Q .non H', rt := Q } (start N vs) H) : FnOk P w K mg base CX (k + 1) f fd ps sp := by
  obtain ⟨oc, od, kV, doc, pm, an, cdv, ct, osl, rfl, lk, hcd⟩ := F.ex
  refine fn_of lk hcd S len fun A outer s H vs Q E hr hsp => ?_
  obtain ⟨t, h, q⟩ := hbody cdv A outer s H vs Q E hr hsp
  exact ⟨t, h.nox, q⟩
structure Def (K : PySem.W.Frag) (mg : Str → Option Value) (x : Str) (st : Stmt) (ps : List Str) (f : Addr) (fd : FuncData) : Prop where
  fn : Fun K x x st f fd
  mg : mg x = some (.ref f)
  bd : Binds K fd ps []
theorem def_of {h : Heap} (KX : K.In h) (G : h.Ns mainGlobals mg) {x : Str} {st : Stmt} {ps : List Str} {f : Addr} {oc : Value} {od an : Option Addr} {osl : Array (Option Value)} {kV doc pm cdv ct : Value}
    (a : PySem.W.nsIn K mainGlobals x = some (some (.ref f))) (l : K.lookup f = some ⟨oc, od, .func (PySem.W.fnOf x x (defArgs st) (defBody st) (defScope st) .none kV doc pm an cdv ct), osl⟩) (c : PySem.W.codeIn K cdv x = true) (k : PySem.W.keepIn K (.ref f) = true)
    (hb : ∀ (kV doc pm : Value) (an : Option Addr) (cdv ct : Value) (us : List Value), us.length = ps.length → bindArgs (PySem.W.fnOf x x (defArgs st) (defBody st) (defScope st) .none kV doc pm an cdv ct) ⟨us, []⟩ = pure (ps.zip us)) :
    Def K mg x st ps f (PySem.W.fnOf x x (defArgs st) (defBody st) (defScope st) .none kV doc pm an cdv ct) :=
  ⟨fun_mk l c k, PySem.W.mg_of KX G a, (fun_mk l c k).binds hb⟩
structure Mth (K : PySem.W.Frag) (C : Addr) (x qual : Str) (st : Stmt) (ps : List Str) (f : Addr) (fd : FuncData) : Prop where
  fn : Fun K x qual st f fd
  mt : Meth K C x f
  bd : Binds K fd ps []
theorem mth_of {C : Addr} {x qual : Str} {st : Stmt} {ps : List Str} {f : Addr} {oc : Value} {od an : Option Addr} {osl : Array (Option Value)} {kV doc pm cdv ct : Value}
    (a : PySem.W.findIn K (.ref C) x = some (some (.ref f))) (i : PySem.W.isFn K (.ref f) = true) (l : K.lookup f = some ⟨oc, od, .func (PySem.W.fnOf x qual (defArgs st) (defBody st) (defScope st) .none kV doc pm an cdv ct), osl⟩) (c : PySem.W.codeIn K cdv qual = true) (k : PySem.W.keepIn K (.ref f) = true)
    (hb : ∀ (kV doc pm : Value) (an : Option Addr) (cdv ct : Value) (us : List Value), us.length = ps.length → bindArgs (PySem.W.fnOf x qual (defArgs st) (defBody st) (defScope st) .none kV doc pm an cdv ct) ⟨us, []⟩ = pure (ps.zip us)) :
    Mth K C x qual st ps f (PySem.W.fnOf x qual (defArgs st) (defBody st) (defScope st) .none kV doc pm an cdv ct) :=
  ⟨fun_mk l c k, ⟨a, i, k⟩, (fun_mk l c k).binds hb⟩
structure Kls (K : PySem.W.Frag) (mg : Str → Option Value) (x : Str) (C : Addr) : Prop where
  cl : Cls K C
  mg : mg x = some (.ref C)
  mks : PySem.W.makesIn K C = true
  kp : PySem.W.keepIn K (.ref C) = true
  c1 : PySem.W.findIn K (.ref C) "__class__" = some (some (.builtin "object.__class__"))
  c2 : PySem.W.specialIn K (.builtin "object.__class__") "__get__" = some (some (.builtin "getset_descriptor.__get__"))
  c3 : PySem.W.takesIn K (.builtin "object.__class__") = some true
  c4 : PySem.W.mroIn K C (.type "object") = some true
theorem kls_of {h : Heap} (KX : K.In h) (G : h.Ns mainGlobals mg) {x : Str} {C : Addr} (a : PySem.W.nsIn K mainGlobals x = some (some (.ref C)))
    (pg : PySem.W.plainGet K C Str.empty = true) (hd : PySem.W.hasDictIn K C = true) (po : PySem.W.plainOver K C = true) (sa : PySem.W.findIn K (.ref C) "__setattr__" = some (some (.builtin "object.__setattr__"))) (mk : PySem.W.makesIn K C = true) (kp : PySem.W.keepIn K (.ref C) = true)
    (c1 : PySem.W.findIn K (.ref C) "__class__" = some (some (.builtin "object.__class__"))) (c2 : PySem.W.specialIn K (.builtin "object.__class__") "__get__" = some (some (.builtin "getset_descriptor.__get__")))
    (c3 : PySem.W.takesIn K (.builtin "object.__class__") = some true) (c4 : PySem.W.mroIn K C (.type "object") = some true) : Kls K mg x C :=
  ⟨⟨pg, hd, po, sa⟩, PySem.W.mg_of KX G a, mk, kp, c1, c2, c3, c4⟩
end
section
variable {X : Cx} {K : PySem.W.Frag}
theorem call_isiK (hK : X.K = K := by rfl) : CallR X (.builtin "isinstance") (fun xs H Q => ∃ x y c t b, xs = [x, y] ∧ clsV y = some c ∧ TyOf K H x t ∧ PySem.W.kitOne K t c = some b ∧ Q (.bl b) H) := by subst hK; exact call_isi
theorem pg_c {N' : List Str} {sc : Scope} {L : Addr} {cs : List (Str × Addr)} {s : Shared} {H : Hp} {fp : List Addr} {pos : Pos} {i : Nat} {x : Str} (hN : N'.Nodup) (hi : N'[i]? = some x) (hx : Loc (cxComp X N' sc L cs s H fp).env.scope x)
    (hf : (cxComp X N' sc L cs s H fp).fn x = true ∨ (cxComp X N' sc L cs s H fp).env.scope.names.lookup x = some .local := by first | exact .inl rfl | exact .inr rfl | assumption) : PG (cxComp X N' sc L cs s H fp) (.Name x pos) (gName i) := pg_name hN hi hx hf
end
structure Grid (H : Hp) (a : Addr) (as : List Addr) (rows : List (List Int)) : Prop where
  top : H a = some (.lst (as.map V.ref))
  len : as.length = rows.length
  row : ∀ (i : Nat) (b : Addr) (r : List Int), as[i]? = some b → rows[i]? = some r → H b = some (.lst (r.map V.int))
theorem Same.upd {H : Hp} {a : Addr} {o : HO} (h : H a = none) : Same H (upd H a o) := fun b u e => by rw [upd_ne (ne_of_none e h)]; exact e
end L2
namespace L2
open PySem PySem.Spec PyProof.Rows
section
variable {X : Cx} {CX : CXT} {k : Nat} {f C : Addr} {fd : FuncData} {ps : List Str} {sp : Sp} {dvs : List V} {ds : List Value} {E : XK} {x m : Str} {p pos apos : Pos} {e : Expr} {es : List Expr} {t : TA} {mc : Value}
structure Stat (K : PySem.W.Frag) (C : Addr) (mc : Value) (m : Str) (f : Addr) : Prop where
  s1 : PySem.W.specialIn K (.ref C) "__getattribute__" = some (some (.builtin "type.__getattribute__"))
  s2 : PySem.W.readsIn K C mc = true
  s3 : PySem.W.findCls K (.ref C) mc m = some (.val (.ref f))
  s4 : PySem.W.keepIn K (.ref f) = true
theorem pe_cmeth {pl : Sem Bool} (S : Stat X.K C mc m f) (hg : Gl X x) (hm : X.mg x = some (.ref C)) (F : FnOk X.prog X.w X.K X.mg X.base CX k f fd ps sp) (hr : Room k X.A) (hb : Binds X.K fd ps ds) (hd : Vals dvs ds) (hx : Passes CX X E) (ha : PA X (e :: es) t)
    (hdb : (x == ("__debug__" : Str)) = false := by decide)
    (hst : starEach (e :: es) X.env = (false, eval e X.env) :: starEach es X.env := by rfl) (hpl : (backTo pos (starEach es X.env)).any (·.1) = false := by rfl)
    (ht : eval (.Call (.Attribute (.Name x p) m apos) (e :: es) [] pos) X.env = (do
      let ov ← eval (.Name x p) X.env
      standAt apos.atName
      let (f, first) ← holding [ov] (getMethod ov m pl)
      callWith pos f first (backTo pos (starEach (e :: es) X.env)) (backToKw pos (keywordEach [] X.env))) := by rfl) :
    PE X (.Call (.Attribute (.Name x p) m apos) (e :: es) [] pos) (tCall sp dvs E t) := by
  intro pins s σ H Q I h
  refine PySem.W.methodCall_KW (pl := pl) (ld_glob I hg hm ?_ hdb) ht
  refine PySem.W.method_cls I.kIn S.s1 (PySem.W.cls_value I.kIn S.s2 S.s3 rfl ?_)
  refine PySem.W.callWith_K (first := []) (h₀ := X.base) I.ok.mod.kin S.s4 (thn (ha pos pins _ σ H _ (I.tok (s.toks + 1)) h) fun us s2 ⟨vs, H2, I2, r, q2⟩ => ⟨I2.kIn, ?_⟩) hst hpl
  exact run_fn (us := us) (vs := vs) F hr hb hd hx I2 r q2
end
noncomputable def Keeps (S : Addr → Prop) (H H' : Hp) : Prop := ∀ b o, H b = some o → ¬ S b → H' b = some o
theorem Keeps.refl (S : Addr → Prop) (H : Hp) : Keeps S H H := fun _ _ e _ => e
end L2
namespace L2
open PySem PySem.Spec PyProof.Rows
section
variable {X : Cx} {a b c d : Expr} {ta tb tc td : TE} {pos : Pos}
theorem Same.tup {K : PySem.W.Frag} {H H' : Hp} {a : Addr} {xs : List V} (e : Same H H') (h : SqT K H a xs) : SqT K H' a xs := by
  rcases h with (h | ⟨o, h⟩) | h
  · exact .inl (.inl (e _ _ h))
  · exact .inl (.inr ⟨o, e _ _ h⟩)
  · exact .inr h
end
end L2
namespace L2
open PySem PySem.Spec PyProof.Rows
theorem tyV_list {K : PySem.W.Frag} {a : Addr} {H : Hp} {xs : List V} (h : H a = some (.lst xs)) : tyV K "list" (.ref a) H := .inl ⟨rfl, _, SqL.of h⟩
inductive Dat where
  | non | bl (b : Bool) | int (i : Int) | str (x : Str) | tup (ds : List Dat) | lst (ds : List Dat) | ins (C : Addr) (fs : List (Str × Dat))
mutual
noncomputable def Deep (K : PySem.W.Frag) (F : Hp) : Dat → V → Prop
  | .non, v => v = .non
  | .bl b, v => v = .bl b
  | .int i, v => v = .int i
  | .str x, v => v = .str x
  | .tup ds, v => ∃ a xs, v = .ref a ∧ SqT K F a xs ∧ Deeps K F ds xs
  | .lst ds, v => ∃ a xs, v = .ref a ∧ SqL K F a xs ∧ Deeps K F ds xs
  | .ins C gs, v => ∃ a dx fs, v = .ref a ∧ F a = some (.ins C dx fs) ∧ DeepF K F gs fs
noncomputable def Deeps (K : PySem.W.Frag) (F : Hp) : List Dat → List V → Prop
  | [], xs => xs = []
  | d :: ds, xs => ∃ v vs, xs = v :: vs ∧ Deep K F d v ∧ Deeps K F ds vs
noncomputable def DeepF (K : PySem.W.Frag) (F : Hp) : List (Str × Dat) → List (Str × V) → Prop
  | [], fs => fs = []
  | (f, d) :: gs, fs => ∃ v r, fs = (f, v) :: r ∧ Deep K F d v ∧ DeepF K F gs r
end
mutual
noncomputable def flatD : Dat → Bool
  | .tup ds => flatDs ds
  | .lst _ => false
  | .ins _ _ => false
  | _ => true
noncomputable def flatDs : List Dat → Bool
  | [] => true
  | d :: ds => flatD d && flatDs ds
end
theorem Same.lst {K : PySem.W.Frag} {H H' : Hp} {a : Addr} {xs : List V} (e : Same H H') (h : SqL K H a xs) : SqL K H' a xs := by
  rcases h with (h | ⟨o, h⟩) | h
  · exact .inl (.inl (e _ _ h))
  · exact .inl (.inr ⟨o, e _ _ h⟩)
  · exact .inr h
mutual
theorem Deep.mono {K : PySem.W.Frag} {F F' : Hp} (s : Same F F') : ∀ {d : Dat} {v : V}, Deep K F d v → Deep K F' d v
  | .non, _, h => h
  | .bl _, _, h => h
  | .int _, _, h => h
  | .str _, _, h => h
  | .tup _, _, ⟨a, xs, e, q, r⟩ => ⟨a, xs, e, s.tup q, Deeps.mono s r⟩
  | .lst _, _, ⟨a, xs, e, q, r⟩ => ⟨a, xs, e, s.lst q, Deeps.mono s r⟩
  | .ins _ _, _, ⟨a, dx, fs, e, q, r⟩ => ⟨a, dx, fs, e, s _ _ q, DeepF.mono s r⟩
theorem Deeps.mono {K : PySem.W.Frag} {F F' : Hp} (s : Same F F') : ∀ {ds : List Dat} {xs : List V}, Deeps K F ds xs → Deeps K F' ds xs
  | [], _, h => h
  | _ :: _, _, ⟨v, vs, e, q, r⟩ => ⟨v, vs, e, Deep.mono s q, Deeps.mono s r⟩
theorem DeepF.mono {K : PySem.W.Frag} {F F' : Hp} (s : Same F F') : ∀ {gs : List (Str × Dat)} {fs : List (Str × V)}, DeepF K F gs fs → DeepF K F' gs fs
  | [], _, h => h
  | (_, _) :: _, _, ⟨v, r, e, q, t⟩ => ⟨v, r, e, Deep.mono s q, DeepF.mono s t⟩
end
mutual
theorem Deep.flat {K : PySem.W.Frag} {F F' : Hp} (s : ∀ a xs, SqT K F a xs → SqT K F' a xs) : ∀ {d : Dat} {v : V}, flatD d = true → Deep K F d v → Deep K F' d v
  | .non, _, _, h => h
  | .bl _, _, _, h => h
  | .int _, _, _, h => h
  | .str _, _, _, h => h
  | .tup ds, _, f, ⟨a, xs, e, q, r⟩ => ⟨a, xs, e, s _ _ q, Deeps.flat s (by simpa [flatD] using f) r⟩
  | .lst _, _, f, _ => by simp [flatD] at f
  | .ins _ _, _, f, _ => by simp [flatD] at f
theorem Deeps.flat {K : PySem.W.Frag} {F F' : Hp} (s : ∀ a xs, SqT K F a xs → SqT K F' a xs) : ∀ {ds : List Dat} {xs : List V}, flatDs ds = true → Deeps K F ds xs → Deeps K F' ds xs
  | [], _, _, h => h
  | d :: ds, _, f, ⟨v, vs, e, q, r⟩ => by
    simp only [flatDs, Bool.and_eq_true] at f
    exact ⟨v, vs, e, Deep.flat s f.1 q, Deeps.flat s f.2 r⟩
end
theorem Deeps.length {K : PySem.W.Frag} {F : Hp} : ∀ {ds : List Dat} {xs : List V}, Deeps K F ds xs → xs.length = ds.length
  | [], _, h => by rw [show _ = [] from h]; rfl
  | _ :: _, _, ⟨_, _, e, _, r⟩ => by rw [e, List.length_cons, List.length_cons, Deeps.length r]
theorem Deeps.get {K : PySem.W.Frag} {F : Hp} : ∀ {ds : List Dat} {xs : List V} {i : Nat} {d : Dat}, Deeps K F ds xs → ds[i]? = some d → ∃ v, xs[i]? = some v ∧ Deep K F d v
  | [], _, _, _, _, e => by simp at e
  | _ :: _, _, 0, _, ⟨v, vs, e, q, _⟩, h => by
    simp only [List.getElem?_cons_zero, Option.some.injEq] at h
    subst h e
    exact ⟨v, rfl, q⟩
  | _ :: _, _, i + 1, _, ⟨v, vs, e, _, r⟩, h => by
    subst e
    simp only [List.getElem?_cons_succ] at h ⊢
    exact Deeps.get r h
theorem Deeps.at {K : PySem.W.Frag} {F : Hp} {ds : List Dat} {xs : List V} {i : Nat} {v : V} (r : Deeps K F ds xs) (h : xs[i]? = some v) : ∃ d, ds[i]? = some d ∧ Deep K F d v := by
  have hi : i < ds.length := by rw [← r.length]; exact (List.getElem?_eq_some_iff.mp h).1
  obtain ⟨w, e, q⟩ := r.get (i := i) (d := ds[i]) (by simp [hi])
  rw [h] at e
  have e' := Option.some.inj e
  subst e'
  exact ⟨ds[i], by simp [hi], q⟩
theorem Deeps.cons {K : PySem.W.Frag} {F : Hp} {d : Dat} {v : V} {ds : List Dat} {xs : List V} (q : Deep K F d v) (r : Deeps K F ds xs) : Deeps K F (d :: ds) (v :: xs) := ⟨v, xs, rfl, q, r⟩
theorem Deeps.append {K : PySem.W.Frag} {F : Hp} : ∀ {ds es : List Dat} {xs ys : List V}, Deeps K F ds xs → Deeps K F es ys → Deeps K F (ds ++ es) (xs ++ ys)
  | [], _, _, _, h, r => by rw [show _ = [] from h]; exact r
  | _ :: _, _, _, _, ⟨v, vs, e, q, t⟩, r => by subst e; exact ⟨v, _, rfl, q, Deeps.append t r⟩
theorem Deeps.take {K : PySem.W.Frag} {F : Hp} : ∀ {ds : List Dat} {xs : List V} (n : Nat), Deeps K F ds xs → Deeps K F (ds.take n) (xs.take n)
  | _, _, 0, _ => rfl
  | [], _, _ + 1, h => by rw [show _ = [] from h]; rfl
  | _ :: _, _, n + 1, ⟨v, vs, e, q, r⟩ => by subst e; exact ⟨v, _, rfl, q, Deeps.take n r⟩
theorem Deeps.set {K : PySem.W.Frag} {F : Hp} {d : Dat} {v : V} (q : Deep K F d v) : ∀ {ds : List Dat} {xs : List V} (n : Nat), Deeps K F ds xs → Deeps K F (ds.set n d) (xs.set n v)
  | [], _, _, h => by rw [show _ = [] from h]; rfl
  | _ :: _, _, 0, ⟨w, vs, e, _, r⟩ => by subst e; exact ⟨v, _, rfl, q, r⟩
  | _ :: _, _, n + 1, ⟨w, vs, e, p, r⟩ => by subst e; exact ⟨w, _, rfl, p, Deeps.set q n r⟩
theorem Deeps.of_get {K : PySem.W.Frag} {F : Hp} : ∀ {ds : List Dat} {xs : List V}, xs.length = ds.length → (∀ (i : Nat) d v, ds[i]? = some d → xs[i]? = some v → Deep K F d v) → Deeps K F ds xs
  | [], [], _, _ => rfl
  | [], _ :: _, h, _ => by simp at h
  | _ :: _, [], h, _ => by simp at h
  | d :: ds, v :: vs, h, q => ⟨v, vs, rfl, q 0 d v rfl rfl, Deeps.of_get (by simpa using h) fun i e w h1 h2 => q (i + 1) e w (by simpa using h1) (by simpa using h2)⟩
structure Step (F H F' H' : Hp) : Prop where
  ff : Same F F'
  hh : Same H H'
  fh : Same F' H'
  nw : ∀ b o, F' b = some o → F b = some o ∨ H b = none
theorem Step.refl {F H : Hp} (s : Same F H) : Step F H F H := ⟨Same.refl _, Same.refl _, s, fun _ _ h => .inl h⟩
theorem Step.trans {F H F1 H1 F2 H2 : Hp} (a : Step F H F1 H1) (b : Step F1 H1 F2 H2) : Step F H F2 H2 :=
  ⟨a.ff.trans b.ff, a.hh.trans b.hh, b.fh, fun x o h => (b.nw x o h).elim (fun z => a.nw x o z) fun z => .inr (a.hh.free z)⟩
theorem Step.lay {F H : Hp} {p : Addr} {o : HO} (s : Same F H) (hp : H p = none) : Step F H (upd F p o) (upd H p o) :=
  ⟨Same.upd (s.free hp), Same.upd hp, fun b u h => by
    by_cases e : b = p
    · subst e; rw [upd_same] at h ⊢; exact h
    · rw [upd_ne e] at h ⊢; exact s b u h, fun b u h => by
    by_cases e : b = p
    · subst e; exact .inr hp
    · rw [upd_ne e] at h; exact .inl h⟩
theorem Step.grow {F H : Hp} {p : Addr} {o : HO} (s : Same F H) (hp : H p = none) : Step F H F (upd H p o) :=
  ⟨Same.refl _, Same.upd hp, s.trans (Same.upd hp), fun _ _ h => .inl h⟩
noncomputable def OwnD (K : PySem.W.Frag) (F H0 H : Hp) : Dat → V → Prop
  | .lst ds, v => ∃ a xs, v = .ref a ∧ H a = some (.lst xs) ∧ F a = none ∧ H0 a = none ∧ Deeps K F ds xs
  | d, v => Deep K F d v
noncomputable def Val (K : PySem.W.Frag) (own : Bool) (F H0 H : Hp) (d : Dat) (v : V) : Prop := if own = true then OwnD K F H0 H d v else Deep K F d v
theorem OwnD.back {K : PySem.W.Frag} {F H0 H1 H : Hp} {d : Dat} {v : V} (s : Same H0 H1) (h : OwnD K F H1 H d v) : OwnD K F H0 H d v := by
  cases d with
  | lst ds => obtain ⟨a, xs, e, p, q, z, r⟩ := h; exact ⟨a, xs, e, p, q, s.free z, r⟩
  | _ => exact h
theorem Val.back {K : PySem.W.Frag} {own : Bool} {F H0 H1 H : Hp} {d : Dat} {v : V} (s : Same H0 H1) (h : Val K own F H1 H d v) : Val K own F H0 H d v := by
  cases own with
  | true => exact OwnD.back s h
  | false => exact h
theorem OwnD.freeze {K : PySem.W.Frag} {F H0 H : Hp} {d : Dat} {v : V} (s : Same F H) (h : OwnD K F H0 H d v) : ∃ F', Same F F' ∧ Same F' H ∧ (∀ b o, F' b = some o → F b = some o ∨ H0 b = none) ∧ Deep K F' d v := by
  cases d with
  | lst ds =>
    obtain ⟨a, xs, e, p, q, z, r⟩ := h
    refine ⟨upd F a (.lst xs), Same.upd q, fun b o h => ?_, fun b o h => ?_, a, xs, e, SqL.of upd_same, r.mono (Same.upd q)⟩
    · by_cases e : b = a
      · subst e; rw [upd_same] at h; rw [p, ← h]
      · rw [upd_ne e] at h; exact s b o h
    · by_cases e : b = a
      · subst e; exact .inr z
      · rw [upd_ne e] at h; exact .inl h
  | _ => exact ⟨F, Same.refl _, s, fun _ _ z => .inl z, h⟩
inductive Err where
  | stuck | exc (C : Addr) (fs : List (Str × Dat))
noncomputable abbrev M := Except Err
noncomputable abbrev Env' := List (Option Dat)
structure Wish where
  p : Err → Hp → Hp → Prop
  mono : ∀ {e : Err} {F H F' H' : Hp}, p e F H → Step F H F' H' → p e F' H'
  ns : ∀ {F H : Hp}, p .stuck F H → False
noncomputable def Wno : Wish := ⟨fun _ _ _ => False, fun h _ => h, fun h => h⟩
noncomputable def Post (K : PySem.W.Frag) (W : Wish) (own : Bool) (F H : Hp) (r : M Dat) (Q : VK) : Prop := match r with
  | .ok d => ∀ v F' H', Step F H F' H' → Val K own F' H H' d v → Q v H'
  | .error e => W.p e F H
theorem Post.step {K : PySem.W.Frag} {W : Wish} {own : Bool} {F H F1 H1 : Hp} {r : M Dat} {Q : VK} (p : Post K W own F H r Q) (s : Step F H F1 H1) : Post K W own F1 H1 r Q := by
  cases r with
  | ok d => exact fun v F' H' t q => p v F' H' (s.trans t) (q.back s.hh)
  | error e => exact W.mono p s
theorem Post.frz {K : PySem.W.Frag} {W : Wish} {F H : Hp} {r : M Dat} {Q : VK} (p : Post K W false F H r Q) : Post K W true F H r Q := by
  cases r with
  | ok d =>
    intro v F' H' t q
    obtain ⟨F2, s1, s2, n, z⟩ := OwnD.freeze t.fh q
    exact p v F2 H' ⟨t.ff.trans s1, t.hh, s2, fun b o h => (n b o h).elim (fun z => t.nw b o z) .inr⟩ z
  | error e => exact p
structure RepE (K : PySem.W.Frag) (F : Hp) (σ : St) (ρ : Env') : Prop where
  len : ρ.length = σ.length
  sl : ∀ (i : Nat) (d : Dat), ρ[i]? = some (some d) → ∃ v, σ[i]? = some (some v) ∧ Deep K F d v
theorem RepE.mono {K : PySem.W.Frag} {F F' : Hp} {σ : St} {ρ : Env'} (r : RepE K F σ ρ) (s : Same F F') : RepE K F' σ ρ :=
  ⟨r.len, fun i d e => let ⟨v, h, q⟩ := r.sl i d e; ⟨v, h, q.mono s⟩⟩
theorem RepE.set {K : PySem.W.Frag} {F : Hp} {σ : St} {ρ : Env'} {d : Dat} {v : V} (r : RepE K F σ ρ) (q : Deep K F d v) (i : Nat) : RepE K F (σ.set i (some v)) (ρ.set i (some d)) :=
  ⟨by rw [List.length_set, List.length_set, r.len], fun j e h => by
    by_cases hij : i = j
    · subst hij
      have hi : i < ρ.length := by
        have := (List.getElem?_eq_some_iff.mp h).1
        simpa using this
      rw [List.getElem?_set_self hi] at h
      cases h
      exact ⟨v, by rw [List.getElem?_set_self (by rw [← r.len]; exact hi)], q⟩
    · rw [List.getElem?_set_ne hij] at h
      obtain ⟨w, h1, h2⟩ := r.sl j e h
      exact ⟨w, by rw [List.getElem?_set_ne hij]; exact h1, h2⟩⟩
noncomputable def tD (K : PySem.W.Frag) (W : Wish) (own : Bool) (f : Env' → M Dat) : TE := fun σ H Q => ∃ F ρ, RepE K F σ ρ ∧ Same F H ∧ Post K W own F H (f ρ) Q
theorem tD_run {K : PySem.W.Frag} {W : Wish} {own : Bool} {f : Env' → M Dat} {σ : St} {ρ : Env'} {F H : Hp} {R : VK} (r : RepE K F σ ρ) (s : Same F H) (hE : ∀ e, f ρ = .error e → W.p e F H)
    (hO : ∀ d, f ρ = .ok d → ∀ v F1 H1, Step F H F1 H1 → Val K own F1 H H1 d v → R v H1) : tD K W own f σ H R := by
  refine ⟨F, ρ, r, s, ?_⟩
  cases e : f ρ with
  | ok d => exact hO d e
  | error x => exact hE x e
noncomputable def tDT (K : PySem.W.Frag) (W : Wish) (f : Env' → M Bool) : TT := fun σ H Q => ∃ F ρ, RepE K F σ ρ ∧ Same F H ∧ (match f ρ with
  | .ok b => ∀ F' H', Step F H F' H' → Q b H'
  | .error e => W.p e F H)
theorem tDT_run {K : PySem.W.Frag} {W : Wish} {f : Env' → M Bool} {σ : St} {ρ : Env'} {F H : Hp} {R : Bool → Hp → Prop} (r : RepE K F σ ρ) (s : Same F H) (hE : ∀ e, f ρ = .error e → W.p e F H)
    (hO : ∀ b, f ρ = .ok b → ∀ F1 H1, Step F H F1 H1 → R b H1) : tDT K W f σ H R := by
  refine ⟨F, ρ, r, s, ?_⟩
  cases e : f ρ with
  | ok d => exact hO d e
  | error x => exact hE x e
noncomputable def tDA (K : PySem.W.Frag) (W : Wish) (f : Env' → M (List Dat)) : TA := fun σ H Q => ∃ F ρ, RepE K F σ ρ ∧ Same F H ∧ (match f ρ with
  | .ok ds => ∀ vs F' H', Step F H F' H' → Deeps K F' ds vs → Q vs H'
  | .error e => W.p e F H)
theorem tDA_run {K : PySem.W.Frag} {W : Wish} {f : Env' → M (List Dat)} {σ : St} {ρ : Env'} {F H : Hp} {R : List V → Hp → Prop} (r : RepE K F σ ρ) (s : Same F H) (hE : ∀ e, f ρ = .error e → W.p e F H)
    (hO : ∀ ds, f ρ = .ok ds → ∀ vs F1 H1, Step F H F1 H1 → Deeps K F1 ds vs → R vs H1) : tDA K W f σ H R := by
  refine ⟨F, ρ, r, s, ?_⟩
  cases e : f ρ with
  | ok d => exact hO d e
  | error x => exact hE x e
noncomputable def fVar (i : Nat) : Env' → M Dat := fun ρ => match ρ[i]? with
  | some (some d) => .ok d
  | _ => .error .stuck
noncomputable def fC (d : Dat) : Env' → M Dat := fun _ => .ok d
noncomputable def f1 (g : Dat → M Dat) (fa : Env' → M Dat) : Env' → M Dat := fun ρ => (fa ρ).bind g
noncomputable def f2 (g : Dat → Dat → M Dat) (fa fb : Env' → M Dat) : Env' → M Dat := fun ρ => (fa ρ).bind fun a => (fb ρ).bind fun b => g a b
noncomputable def fNil : Env' → M (List Dat) := fun _ => .ok []
noncomputable def fCons (fa : Env' → M Dat) (fr : Env' → M (List Dat)) : Env' → M (List Dat) := fun ρ => (fa ρ).bind fun a => (fr ρ).bind fun r => .ok (a :: r)
noncomputable def fL (g : List Dat → M Dat) (fr : Env' → M (List Dat)) : Env' → M Dat := fun ρ => (fr ρ).bind g
noncomputable def mkTup (ds : List Dat) : M Dat := if ds.length ≤ sizeLine then .ok (.tup ds) else .error .stuck
noncomputable def mkLst (ds : List Dat) : M Dat := if ds.length ≤ sizeLine then .ok (.lst ds) else .error .stuck
noncomputable def fIte (ft : Env' → M Bool) (fa fb : Env' → M Dat) : Env' → M Dat := fun ρ => (ft ρ).bind fun b => if b = true then fa ρ else fb ρ
noncomputable def fAnd (ft fu : Env' → M Bool) : Env' → M Bool := fun ρ => (ft ρ).bind fun b => if b = true then fu ρ else .ok false
noncomputable def fOr (ft fu : Env' → M Bool) : Env' → M Bool := fun ρ => (ft ρ).bind fun b => if b = true then .ok true else fu ρ
noncomputable def fNot (ft : Env' → M Bool) : Env' → M Bool := fun ρ => (ft ρ).bind fun b => .ok (!b)
noncomputable def asB : Dat → M Bool
  | .bl b => .ok b
  | _ => .error .stuck
noncomputable def fB (fa : Env' → M Dat) : Env' → M Bool := fun ρ => (fa ρ).bind asB
noncomputable def fAndV (fa fb : Env' → M Dat) : Env' → M Dat := fun ρ => (fa ρ).bind fun a => (asB a).bind fun b => if b = true then fb ρ else .ok (.bl false)
noncomputable def truD : Dat → M Bool
  | .non => .ok false
  | .bl b => .ok b
  | .int i => .ok (i != 0)
  | .str x => if x.length ≤ sizeLine then .ok ((x.length : Int) != 0) else .error .stuck
  | .tup ds => .ok (!ds.isEmpty)
  | .lst ds => .ok (!ds.isEmpty)
  | _ => .error .stuck
noncomputable def fTru (fa : Env' → M Dat) : Env' → M Bool := fun ρ => (fa ρ).bind truD
noncomputable def fChain (g g' : Dat → Dat → M Dat) (fa fb fc : Env' → M Dat) : Env' → M Dat := fun ρ => (fa ρ).bind fun a => (fb ρ).bind fun b => (g a b).bind fun x => (asB x).bind fun k => if k = true then (fc ρ).bind fun c => g' b c else .ok (.bl false)
noncomputable def rD2 (K : PySem.W.Frag) (W : Wish) (own : Bool) (g : Dat → Dat → M Dat) : R2 := fun x y H Q => ∃ F a b, Same F H ∧ Deep K F a x ∧ Deep K F b y ∧ Post K W own F H (g a b) Q
noncomputable def rD1 (K : PySem.W.Frag) (W : Wish) (own : Bool) (g : Dat → M Dat) : V → Hp → VK → Prop := fun x H Q => ∃ F a, Same F H ∧ Deep K F a x ∧ Post K W own F H (g a) Q
noncomputable def rDL (K : PySem.W.Frag) (W : Wish) (own : Bool) (g : List Dat → M Dat) : List V → Hp → VK → Prop := fun xs H Q => ∃ F ds, Same F H ∧ Deeps K F ds xs ∧ Post K W own F H (g ds) Q
section
variable {K : PySem.W.Frag} {W : Wish} {own : Bool} {σ : St} {H : Hp} {Q : VK} {fa fb fc : Env' → M Dat}
theorem rd_var {i : Nat} (h : tD K W false (fVar i) σ H Q) : tVar i σ H Q := by
  obtain ⟨F, ρ, r, s, p⟩ := h
  unfold fVar at p
  match e : ρ[i]? with
  | some (some d) =>
    rw [e] at p
    obtain ⟨v, e1, q⟩ := r.sl i d e
    exact ⟨v, e1, p v F H (Step.refl s) q⟩
  | some none => rw [e] at p; exact (W.ns p).elim
  | none => rw [e] at p; exact (W.ns p).elim
theorem rd_c {d : Dat} {v : V} (hd : ∀ F, Deep K F d v) (h : tD K W false (fC d) σ H Q) : tC v σ H Q := by
  obtain ⟨F, ρ, r, s, p⟩ := h
  exact p v F H (Step.refl s) (hd F)
theorem Post.err {F : Hp} {x : M Dat} {e : Err} (p : Post K W own F H x Q) (h : x = .error e) : W.p e F H := by rw [h] at p; exact p
theorem rd_1 {g : Dat → M Dat} (h : tD K W own (f1 g fa) σ H Q) : tUn (rD1 K W own g) (tD K W false fa) σ H Q := by
  obtain ⟨F, ρ, r, s, p⟩ := h
  refine tD_run r s (fun e he => p.err (by unfold f1; rw [he]; rfl)) fun a ha x F1 H1 s1 q1 => ?_
  refine ⟨F1, a, s1.fh, q1, ?_⟩
  have e : f1 g fa ρ = g a := by unfold f1; rw [ha]; rfl
  rw [e] at p
  exact p.step s1
theorem rd_2 {g : Dat → Dat → M Dat} (h : tD K W own (f2 g fa fb) σ H Q) : tOp (rD2 K W own g) (tD K W false fa) (tD K W false fb) σ H Q := by
  obtain ⟨F, ρ, r, s, p⟩ := h
  refine tD_run r s (fun e he => p.err (by unfold f2; rw [he]; rfl)) fun a ha x F1 H1 s1 q1 => ?_
  refine tD_run (r.mono s1.ff) s1.fh (fun e he => (p.step s1).err (by unfold f2; rw [ha]; show (fb ρ).bind _ = _; rw [he]; rfl)) fun b hb y F2 H2 s2 q2 => ?_
  refine ⟨F2, a, b, s2.fh, Deep.mono s2.ff q1, q2, ?_⟩
  have e : f2 g fa fb ρ = g a b := by unfold f2; rw [ha]; show (fb ρ).bind _ = _; rw [hb]; rfl
  rw [e] at p
  exact p.step (s1.trans s2)
theorem rd_nil {R : List V → Hp → Prop} (h : tDA K W fNil σ H R) : tNil σ H R := by
  obtain ⟨F, ρ, r, s, p⟩ := h
  exact p [] F H (Step.refl s) rfl
theorem rd_cons {fr : Env' → M (List Dat)} {R : List V → Hp → Prop} (h : tDA K W (fCons fa fr) σ H R) : tCons (tD K W false fa) (tDA K W fr) σ H R := by
  obtain ⟨F, ρ, r, s, p⟩ := h
  refine tD_run r s (fun e he => ?_) fun a ha x F1 H1 s1 q1 => tDA_run (r.mono s1.ff) s1.fh (fun e he => ?_) fun ds hd xs F2 H2 s2 q2 => ?_
  · have z : fCons fa fr ρ = .error e := by unfold fCons; rw [he]; rfl
    rw [z] at p
    exact p
  · have z : fCons fa fr ρ = .error e := by unfold fCons; rw [ha]; show (fr ρ).bind _ = _; rw [he]; rfl
    rw [z] at p
    exact W.mono p s1
  · have z : fCons fa fr ρ = .ok (a :: ds) := by unfold fCons; rw [ha]; show (fr ρ).bind _ = _; rw [hd]; rfl
    rw [z] at p
    exact p (x :: xs) F2 H2 (s1.trans s2) ⟨x, xs, rfl, Deep.mono s2.ff q1, q2⟩
theorem rd_L {g : List Dat → M Dat} {fr : Env' → M (List Dat)} (h : tD K W own (fL g fr) σ H Q) : tDA K W fr σ H fun xs H1 => rDL K W own g xs H1 Q := by
  obtain ⟨F, ρ, r, s, p⟩ := h
  refine tDA_run r s (fun e he => p.err (by unfold fL; rw [he]; rfl)) fun ds hd xs F1 H1 s1 q1 => ⟨F1, ds, s1.fh, q1, ?_⟩
  have e : fL g fr ρ = g ds := by unfold fL; rw [hd]; rfl
  rw [e] at p
  exact p.step s1
theorem rd_tup {fr : Env' → M (List Dat)} (h : tD K W own (fL mkTup fr) σ H Q) : tTup (tDA K W fr) σ H Q := by
  obtain ⟨F, ρ, r, s, p⟩ := rd_L h
  refine ⟨F, ρ, r, s, ?_⟩
  cases e : fr ρ with
  | error x => rw [e] at p; exact p
  | ok ds =>
    rw [e] at p
    intro vs F' H' t q
    obtain ⟨F1, es, s1, q1, z⟩ := p vs F' H' t q
    unfold mkTup at z
    by_cases hl : es.length ≤ sizeLine
    · rw [if_pos hl] at z
      refine ⟨by rw [q1.length]; exact hl, fun a ha => z (.ref a) _ _ (Step.lay s1 ha) ?_⟩
      have : Deep K (upd F1 a (.tup vs)) (.tup es) (.ref a) := ⟨a, vs, rfl, SqT.of upd_same, q1.mono (Same.upd (s1.free ha))⟩
      cases own with
      | true => exact this
      | false => exact this
    · rw [if_neg hl] at z
      exact (W.ns z).elim
theorem rd_lst {fr : Env' → M (List Dat)} (h : tD K W true (fL mkLst fr) σ H Q) : tLst (tDA K W fr) σ H Q := by
  obtain ⟨F, ρ, r, s, p⟩ := rd_L h
  refine ⟨F, ρ, r, s, ?_⟩
  cases e : fr ρ with
  | error x => rw [e] at p; exact p
  | ok ds =>
    rw [e] at p
    intro vs F' H' t q
    obtain ⟨F1, es, s1, q1, z⟩ := p vs F' H' t q
    unfold mkLst at z
    by_cases hl : es.length ≤ sizeLine
    · rw [if_pos hl] at z
      exact ⟨by rw [q1.length]; exact hl, fun a ha => z (.ref a) F1 _ (Step.grow s1 ha) ⟨a, vs, rfl, upd_same, s1.free ha, ha, q1⟩⟩
    · rw [if_neg hl] at z
      exact (W.ns z).elim
theorem rd_ite {ft : Env' → M Bool} (h : tD K W own (fIte ft fa fb) σ H Q) : tIf (tDT K W ft) (tD K W own fa) (tD K W own fb) σ H Q := by
  obtain ⟨F, ρ, r, s, p⟩ := h
  refine tDT_run r s (fun e he => p.err (by unfold fIte; rw [he]; rfl)) fun b hb F1 H1 s1 => ?_
  have e : fIte ft fa fb ρ = if b = true then fa ρ else fb ρ := by unfold fIte; rw [hb]; rfl
  rw [e] at p
  cases b with
  | true => exact ⟨F1, ρ, r.mono s1.ff, s1.fh, p.step s1⟩
  | false => exact ⟨F1, ρ, r.mono s1.ff, s1.fh, p.step s1⟩
theorem tDT_mono {f : Env' → M Bool} {F F1 H1 : Hp} {ρ : Env'} {R : Bool → Hp → Prop} (r : RepE K F σ ρ) (s1 : Step F H F1 H1) (p : match f ρ with
  | .ok b => ∀ F' H', Step F H F' H' → R b H'
  | .error e => W.p e F H) : tDT K W f σ H1 R := by
  refine ⟨F1, ρ, r.mono s1.ff, s1.fh, ?_⟩
  cases e : f ρ with
  | ok b => rw [e] at p; exact fun F' H' t => p F' H' (s1.trans t)
  | error x => rw [e] at p; exact W.mono p s1
theorem rd_and {ft fu : Env' → M Bool} {R : Bool → Hp → Prop} (h : tDT K W (fAnd ft fu) σ H R) : tAnd (tDT K W ft) (tDT K W fu) σ H R := by
  obtain ⟨F, ρ, r, s, p⟩ := h
  refine tDT_run r s (fun e he => ?_) fun b hb F1 H1 s1 => ?_
  · have z : fAnd ft fu ρ = .error e := by unfold fAnd; rw [he]; rfl
    rw [z] at p; exact p
  · have z : fAnd ft fu ρ = if b = true then fu ρ else .ok false := by unfold fAnd; rw [hb]; rfl
    rw [z] at p
    cases b with
    | true => exact tDT_mono r s1 p
    | false => exact p F1 H1 s1
theorem rd_or {ft fu : Env' → M Bool} {R : Bool → Hp → Prop} (h : tDT K W (fOr ft fu) σ H R) : tOr (tDT K W ft) (tDT K W fu) σ H R := by
  obtain ⟨F, ρ, r, s, p⟩ := h
  refine tDT_run r s (fun e he => ?_) fun b hb F1 H1 s1 => ?_
  · have z : fOr ft fu ρ = .error e := by unfold fOr; rw [he]; rfl
    rw [z] at p; exact p
  · have z : fOr ft fu ρ = if b = true then .ok true else fu ρ := by unfold fOr; rw [hb]; rfl
    rw [z] at p
    cases b with
    | false => exact tDT_mono r s1 p
    | true => exact p F1 H1 s1
theorem rd_not {ft : Env' → M Bool} {R : Bool → Hp → Prop} (h : tDT K W (fNot ft) σ H R) : tNot (tDT K W ft) σ H R := by
  obtain ⟨F, ρ, r, s, p⟩ := h
  refine tDT_run r s (fun e he => ?_) fun b hb F1 H1 s1 => ?_
  · have z : fNot ft ρ = .error e := by unfold fNot; rw [he]; rfl
    rw [z] at p; exact p
  · have z : fNot ft ρ = .ok (!b) := by unfold fNot; rw [hb]; rfl
    rw [z] at p; exact p F1 H1 s1
theorem rd_B {R : Bool → Hp → Prop} (h : tDT K W (fB fa) σ H R) : tTest (tD K W false fa) σ H R := by
  obtain ⟨F, ρ, r, s, p⟩ := h
  refine tD_run r s (fun e he => ?_) fun a ha x F1 H1 s1 q1 => ?_
  · have z : fB fa ρ = .error e := by unfold fB; rw [he]; rfl
    rw [z] at p; exact p
  · have z : fB fa ρ = asB a := by unfold fB; rw [ha]; rfl
    rw [z] at p
    cases a with
    | bl b => exact ⟨b, q1, p F1 H1 s1⟩
    | _ => exact (W.ns p).elim
theorem tru_of {F H1 : Hp} {a : Dat} {x : V} {b : Bool} (s : Same F H1) (q : Deep K F a x) (h : truD a = .ok b) : TruV K x H1 b := by
  cases a with
  | non => rw [show x = .non from q]; exact (Except.ok.inj h).symm
  | bl c => rw [show x = .bl c from q]; exact (Except.ok.inj h).symm
  | int i => rw [show x = .int i from q]; exact (Except.ok.inj h).symm
  | str y =>
    rw [show x = .str y from q]
    have h' : (if y.length ≤ sizeLine then Except.ok ((y.length : Int) != 0) else Except.error Err.stuck) = Except.ok b := h
    by_cases hy : y.length ≤ sizeLine
    · rw [if_pos hy] at h'
      exact ⟨hy, (Except.ok.inj h').symm⟩
    · rw [if_neg hy] at h'
      cases h'
  | tup ds =>
    obtain ⟨p, xs, e, t, r⟩ := q
    subst e
    refine .inr (.inl ⟨xs, s.tup t, ?_⟩)
    rw [← Except.ok.inj h]
    cases ds with
    | nil => rw [show xs = [] from r]; rfl
    | cons d ds => obtain ⟨v, vs, e, _⟩ := r; rw [e]; rfl
  | lst ds =>
    obtain ⟨p, xs, e, t, r⟩ := q
    subst e
    refine .inl ⟨xs, s.lst t, ?_⟩
    rw [← Except.ok.inj h]
    cases ds with
    | nil => rw [show xs = [] from r]; rfl
    | cons d ds => obtain ⟨v, vs, e, _⟩ := r; rw [e]; rfl
  | ins C fs => cases h
theorem rd_tru {R : Bool → Hp → Prop} (h : tDT K W (fTru fa) σ H R) : tD K W false fa σ H fun x H1 => ∃ k, TruV K x H1 k ∧ R k H1 := by
  obtain ⟨F, ρ, r, s, p⟩ := h
  refine tD_run r s (fun e he => ?_) fun a ha x F1 H1 s1 q1 => ?_
  · have z : fTru fa ρ = .error e := by unfold fTru; rw [he]; rfl
    rw [z] at p; exact p
  · have z : fTru fa ρ = truD a := by unfold fTru; rw [ha]; rfl
    rw [z] at p
    cases e : truD a with
    | ok b => rw [e] at p; exact ⟨b, tru_of s1.fh q1 e, p F1 H1 s1⟩
    | error x =>
      rw [e] at p
      have : x = .stuck := by
        cases a with
        | str y =>
          have e' : (if y.length ≤ sizeLine then Except.ok ((y.length : Int) != 0) else Except.error Err.stuck) = Except.error x := e
          by_cases hy : y.length ≤ sizeLine
          · rw [if_pos hy] at e'
            cases e'
          · rw [if_neg hy] at e'
            cases e'
            rfl
        | ins C fs => cases e; rfl
        | _ => cases e
      subst this
      exact (W.ns p).elim
theorem rd_andV (h : tD K W false (fAndV fa fb) σ H Q) : tAndV (tD K W false fa) (tD K W false fb) σ H Q := by
  obtain ⟨F, ρ, r, s, p⟩ := h
  refine tD_run r s (fun e he => p.err (by unfold fAndV; rw [he]; rfl)) fun a ha x F1 H1 s1 q1 => ?_
  have z : fAndV fa fb ρ = (asB a).bind fun b => if b = true then fb ρ else .ok (.bl false) := by unfold fAndV; rw [ha]; rfl
  rw [z] at p
  cases a with
  | bl b =>
    refine ⟨b, q1, ?_⟩
    cases b with
    | true => exact ⟨F1, ρ, r.mono s1.ff, s1.fh, Post.step (own := false) (r := fb ρ) p s1⟩
    | false => exact p (.bl false) F1 H1 s1 rfl
  | _ => exact (W.ns p).elim
theorem rd_chain {g g' : Dat → Dat → M Dat} (h : tD K W false (fChain g g' fa fb fc) σ H Q) : tChain (rD2 K W false g) (rD2 K W false g') (tD K W false fa) (tD K W false fb) (tD K W false fc) σ H Q := by
  obtain ⟨F, ρ, r, s, p⟩ := h
  refine tD_run r s (fun e he => p.err (by unfold fChain; rw [he]; rfl)) fun a ha x F1 H1 s1 q1 => ?_
  refine tD_run (r.mono s1.ff) s1.fh (fun e he => (p.step s1).err (by unfold fChain; rw [ha]; show (fb ρ).bind _ = _; rw [he]; rfl)) fun b hb y F2 H2 s2 q2 => ?_
  have z : fChain g g' fa fb fc ρ = (g a b).bind fun x => (asB x).bind fun k => if k = true then (fc ρ).bind fun c => g' b c else .ok (.bl false) := by unfold fChain; rw [ha]; show (fb ρ).bind _ = _; rw [hb]; rfl
  rw [z] at p
  refine ⟨F2, a, b, s2.fh, Deep.mono s2.ff q1, q2, ?_⟩
  have p2 := p.step (s1.trans s2)
  cases e : g a b with
  | error x => rw [e] at p2; exact p2
  | ok d =>
    rw [e] at p2
    intro v F3 H3 s3 q3
    have p3 : Post K W false F3 H3 ((asB d).bind fun k => if k = true then (fc ρ).bind fun c => g' b c else .ok (.bl false)) Q := Post.step p2 s3
    cases d with
    | bl k =>
      refine ⟨k, q3, ?_⟩
      cases k with
      | false => exact p3 (.bl false) F3 H3 (Step.refl s3.fh) rfl
      | true =>
        have p4 : Post K W false F3 H3 ((fc ρ).bind fun c => g' b c) Q := p3
        refine tD_run (r.mono (s1.trans (s2.trans s3)).ff) s3.fh (fun e he => p4.err (by rw [he]; rfl)) fun c hc w F4 H4 s4 q4 => ⟨F4, b, c, s4.fh, Deep.mono (s3.trans s4).ff q2, q4, ?_⟩
        rw [hc] at p4
        exact p4.step s4
    | _ => exact (W.ns p3).elim
end
inductive Pat where
  | nm (i : Nat) | tp (is : List Nat)
noncomputable def setAll : List Nat → List Dat → Env' → Env'
  | i :: is, d :: ds, ρ => setAll is ds (ρ.set i (some d))
  | _, _, ρ => ρ
noncomputable def bindP : Pat → Dat → Env' → M Env'
  | .nm i, d, ρ => .ok (ρ.set i (some d))
  | .tp is, .tup ds, ρ => if ds.length = is.length then .ok (setAll is ds ρ) else .error .stuck
  | .tp _, _, _ => .error .stuck
noncomputable def gNames : List Nat → TGs
  | [] => gNil
  | i :: is => gCons (gName i) (gNames is)
noncomputable def gP (K : PySem.W.Frag) : Pat → TG
  | .nm i => gName i
  | .tp is => gTup K is.length (gNames is)
theorem gNames_run {K : PySem.W.Frag} {F H : Hp} {R : St → Hp → Prop} : ∀ {is : List Nat} {ds : List Dat} {vs : List V} {σ : St} {ρ : Env'}, RepE K F σ ρ → Deeps K F ds vs → ds.length = is.length → (∀ σ', RepE K F σ' (setAll is ds ρ) → R σ' H) → gNames is vs σ H R
  | [], [], _, σ, ρ, r, q, _, h => ⟨q, h σ r⟩
  | [], _ :: _, _, _, _, _, _, e, _ => by simp at e
  | _ :: _, [], _, _, _, _, _, e, _ => by simp at e
  | i :: is, d :: ds, _, σ, ρ, r, ⟨v, vs, e, q, t⟩, l, h => ⟨v, vs, e, gNames_run (r.set q i) t (by simpa using l) h⟩
theorem gP_run {K : PySem.W.Frag} {F H : Hp} {R : St → Hp → Prop} {p : Pat} {d : Dat} {v : V} {σ : St} {ρ ρ' : Env'} (r : RepE K F σ ρ) (s : Same F H) (q : Deep K F d v) (e : bindP p d ρ = .ok ρ') (h : ∀ σ', RepE K F σ' ρ' → R σ' H) : gP K p v σ H R := by
  cases p with
  | nm i =>
    have := Except.ok.inj e
    subst this
    exact h _ (r.set q i)
  | tp is =>
    cases d with
    | tup ds =>
      have e' : (if ds.length = is.length then Except.ok (setAll is ds ρ) else Except.error Err.stuck) = Except.ok ρ' := e
      by_cases hl : ds.length = is.length
      · rw [if_pos hl] at e'
        have := Except.ok.inj e'
        subst this
        obtain ⟨a, xs, ev, t, z⟩ := q
        exact ⟨a, xs, ev, s.tup t, by rw [z.length, hl], gNames_run r z hl h⟩
      · rw [if_neg hl] at e'
        cases e'
    | _ => cases e
theorem bindP_err {p : Pat} {d : Dat} {ρ : Env'} {e : Err} (h : bindP p d ρ = .error e) : e = .stuck := by
  cases p with
  | nm i => cases h
  | tp is =>
    cases d with
    | tup ds =>
      have e' : (if ds.length = is.length then Except.ok (setAll is ds ρ) else Except.error Err.stuck) = Except.error e := h
      by_cases hl : ds.length = is.length
      · rw [if_pos hl] at e'; cases e'
      · rw [if_neg hl] at e'; cases e'; rfl
    | _ => cases h; rfl
structure IterD (K : PySem.W.Frag) (F1 : Hp) (J : It) (ds : List Dat) : Prop where
  go : ∀ (i : Nat) (F H : Hp), Same F1 F → Same F H → i < ds.length → J.go i H
  yl : ∀ (i : Nat) (F H : Hp) (x : V) (H' : Hp) (d : Dat), Same F1 F → Same F H → ds[i]? = some d → J.yld i H x H' → ∃ F', Step F H F' H' ∧ Deep K F' d x
  st : ∀ (F H : Hp), Same F1 F → Same F H → J.stop ds.length H
noncomputable def iD (K : PySem.W.Frag) (W : Wish) (f : Env' → M (List Dat)) : TI := fun σ H R => ∃ F ρ, RepE K F σ ρ ∧ Same F H ∧ (match f ρ with
  | .ok ds => ∀ J F1 H1, Step F H F1 H1 → IterD K F1 J ds → R J H1
  | .error e => W.p e F H)
noncomputable def itemsD : Dat → M (List Dat)
  | .lst ds => .ok ds
  | .tup ds => .ok ds
  | _ => .error .stuck
noncomputable def fIt (fa : Env' → M Dat) : Env' → M (List Dat) := fun ρ => (fa ρ).bind itemsD
noncomputable def iSeq (K : PySem.W.Frag) (tl : TE) : TI := fun σ H R => tl σ H fun x H1 => ∃ a, x = .ref a ∧ ((∃ xs, SqL K H1 a xs) ∧ R (Itl K a) H1 ∨ (∃ xs, SqT K H1 a xs) ∧ R (Itt K a) H1)
theorem iter_list {K : PySem.W.Frag} {F : Hp} {a : Addr} {xs : List V} {ds : List Dat} (t : SqL K F a xs) (z : Deeps K F ds xs) : IterD K F (Itl K a) ds where
  go := fun i F' H' s1 s2 hi => ⟨xs, xs[i]'(by rw [z.length]; exact hi), s2.lst (s1.lst t), by simp [z.length, hi]⟩
  yl := fun i F' H' x H2 d s1 s2 hd hy => by
    obtain ⟨e, hy⟩ := hy
    subst e
    obtain ⟨v, e1, q⟩ := z.get hd
    have e2 := hy xs (s2.lst (s1.lst t))
    rw [e1] at e2
    cases e2
    exact ⟨F', Step.refl s2, q.mono s1⟩
  st := fun F' H' s1 s2 => ⟨xs, s2.lst (s1.lst t), by rw [z.length]; exact Nat.le_refl _⟩
theorem iter_tup {K : PySem.W.Frag} {F : Hp} {a : Addr} {xs : List V} {ds : List Dat} (t : SqT K F a xs) (z : Deeps K F ds xs) : IterD K F (Itt K a) ds where
  go := fun i F' H' s1 s2 hi => ⟨xs, xs[i]'(by rw [z.length]; exact hi), s2.tup (s1.tup t), by simp [z.length, hi]⟩
  yl := fun i F' H' x H2 d s1 s2 hd hy => by
    obtain ⟨e, hy⟩ := hy
    subst e
    obtain ⟨v, e1, q⟩ := z.get hd
    have e2 := hy xs (s2.tup (s1.tup t))
    rw [e1] at e2
    cases e2
    exact ⟨F', Step.refl s2, q.mono s1⟩
  st := fun F' H' s1 s2 => ⟨xs, s2.tup (s1.tup t), by rw [z.length]; exact Nat.le_refl _⟩
noncomputable def rangeL (lo : Int) (n : Nat) : List Dat := (List.range n).map fun k : Nat => Dat.int (lo + k)
theorem iter_range {K : PySem.W.Frag} {F : Hp} {lo : Int} {n : Nat} : IterD K F (Itr lo n) (rangeL lo n) where
  go := fun i F' H' s1 s2 hi => by show i < n; simpa [rangeL] using hi
  yl := fun i F' H' x H2 d s1 s2 hd hy => by
    obtain ⟨e, hy⟩ := hy
    subst e hy
    unfold rangeL at hd
    rw [List.getElem?_map] at hd
    have hi : i < n := by
      have := (List.getElem?_eq_some_iff.mp (show ((List.range n).map fun k : Nat => Dat.int (lo + k))[i]? = some d by rw [List.getElem?_map]; exact hd)).1
      simpa using this
    rw [List.getElem?_range hi] at hd
    cases hd
    exact ⟨F', Step.refl s2, rfl⟩
  st := fun F' H' s1 s2 => by show n ≤ _; simp [rangeL]
noncomputable def small62 (i : Int) : Bool := decide (-(2 ^ 62) ≤ i) && decide (i < 2 ^ 62)
noncomputable def rng1 : List Dat → M (List Dat)
  | [.int j] => if small62 j = true then .ok (rangeL 0 j.toNat) else .error .stuck
  | _ => .error .stuck
noncomputable def fRng (g : List Dat → M (List Dat)) (fr : Env' → M (List Dat)) : Env' → M (List Dat) := fun ρ => (fr ρ).bind g
section
variable {K : PySem.W.Frag} {W : Wish} {own : Bool} {σ : St} {H : Hp} {Q : VK} {fa fb fc : Env' → M Dat}
theorem ri_seq {R : It → Hp → Prop} (h : iD K W (fIt fa) σ H R) : iSeq K (tD K W false fa) σ H R := by
  obtain ⟨F, ρ, r, s, p⟩ := h
  refine tD_run r s (fun e he => ?_) fun a ha x F1 H1 s1 q1 => ?_
  · have z : fIt fa ρ = .error e := by unfold fIt; rw [he]; rfl
    rw [z] at p; exact p
  · have z : fIt fa ρ = itemsD a := by unfold fIt; rw [ha]; rfl
    rw [z] at p
    cases a with
    | lst ds =>
      obtain ⟨b, xs, e, t, z⟩ := q1
      exact ⟨b, e, .inl ⟨⟨xs, s1.fh.lst t⟩, p _ F1 H1 s1 (iter_list t z)⟩⟩
    | tup ds =>
      obtain ⟨b, xs, e, t, z⟩ := q1
      exact ⟨b, e, .inr ⟨⟨xs, s1.fh.tup t⟩, p _ F1 H1 s1 (iter_tup t z)⟩⟩
    | _ => exact (W.ns p).elim
theorem ri_rng1 {fr : Env' → M (List Dat)} {R : It → Hp → Prop} (h : iD K W (fRng rng1 fr) σ H R) : iRng1 (tDA K W fr) σ H R := by
  obtain ⟨F, ρ, r, s, p⟩ := h
  refine tDA_run r s (fun e he => ?_) fun ds hd xs F1 H1 s1 q1 => ?_
  · have z : fRng rng1 fr ρ = .error e := by unfold fRng; rw [he]; rfl
    rw [z] at p; exact p
  · have z : fRng rng1 fr ρ = rng1 ds := by unfold fRng; rw [hd]; rfl
    rw [z] at p
    match ds, q1, p with
    | [.int j], ⟨v, vs, e, q, t⟩, p =>
      have p' : match (if small62 j = true then Except.ok (rangeL 0 j.toNat) else Except.error Err.stuck : M (List Dat)) with
        | .ok ds => ∀ J F1 H1, Step F H F1 H1 → IterD K F1 J ds → R J H1
        | .error e => W.p e F H := p
      by_cases hj : small62 j = true
      · rw [if_pos hj] at p'
        unfold small62 at hj
        simp only [Bool.and_eq_true, decide_eq_true_eq] at hj
        exact ⟨j, by rw [e, show v = .int j from q, show vs = [] from t], hj.1, hj.2, p' _ F1 H1 s1 iter_range⟩
      · rw [if_neg hj] at p'
        exact (W.ns p').elim
    | [], _, p => exact (W.ns p).elim
    | .non :: _, _, p => exact (W.ns p).elim
    | .bl _ :: _, _, p => exact (W.ns p).elim
    | .str _ :: _, _, p => exact (W.ns p).elim
    | .tup _ :: _, _, p => exact (W.ns p).elim
    | .lst _ :: _, _, p => exact (W.ns p).elim
    | .ins _ _ :: _, _, p => exact (W.ns p).elim
    | .int _ :: _ :: _, _, p => exact (W.ns p).elim
noncomputable def inSE (ix : List (Option Nat)) (ρ : Env') : Env' := ix.map fun o => match o with
  | none => none
  | some j => (ρ[j]?).join
noncomputable def compD (p : Pat) (ft : Env' → M Bool) (fe : Env' → M Dat) (ρ0 : Env') : List Dat → M (List Dat)
  | [] => .ok []
  | d :: ds => (bindP p d ρ0).bind fun ρ => (ft ρ).bind fun b => if b = true then (fe ρ).bind fun y => (compD p ft fe ρ0 ds).bind fun r => .ok (y :: r) else compD p ft fe ρ0 ds
noncomputable def fComp (fi : Env' → M (List Dat)) (ix : List (Option Nat)) (p : Pat) (ft : Env' → M Bool) (fe : Env' → M Dat) : Env' → M Dat := fun ρ => (fi ρ).bind fun ds => if ds.length ≤ sizeLine then (compD p ft fe (inSE ix ρ) ds).bind fun r => .ok (.lst r) else .error .stuck
noncomputable def fYes : Env' → M Bool := fun _ => .ok true
theorem RepE.inS {F : Hp} {ρ : Env'} (r : RepE K F σ ρ) (ix : List (Option Nat)) : RepE K F (L2.inS ix σ) (inSE ix ρ) :=
  ⟨by simp [L2.inS, inSE], fun i d e => by
    unfold inSE at e
    unfold L2.inS
    rw [List.getElem?_map] at e ⊢
    cases h : ix[i]? with
    | none => rw [h] at e; cases e
    | some o =>
      rw [h] at e
      cases o with
      | none => cases e
      | some j =>
        simp only [Option.map_some, Option.some.injEq] at e ⊢
        have e1 : ρ[j]? = some (some d) := by
          cases z : ρ[j]? with
          | none => rw [z] at e; cases e
          | some w => rw [z] at e; simp at e; rw [e]
        obtain ⟨v, h1, h2⟩ := r.sl j d e1
        exact ⟨v, by rw [h1]; rfl, h2⟩⟩
theorem rd_comp {fi : Env' → M (List Dat)} {ix : List (Option Nat)} {p : Pat} {ft : Env' → M Bool} {fe : Env' → M Dat} (h : tD K W true (fComp fi ix p ft fe) σ H Q) :
    tComp (iD K W fi) ix (gP K p) (tDT K W ft) (tD K W false fe) σ H Q := by
  obtain ⟨F, ρ, r, s, q⟩ := h
  refine ⟨F, ρ, r, s, ?_⟩
  cases hf : fi ρ with
  | error e => exact q.err (by unfold fComp; rw [hf]; rfl)
  | ok ds =>
    intro J F1 H1 s1 it
    have e0 : fComp fi ix p ft fe ρ = if ds.length ≤ sizeLine then (compD p ft fe (inSE ix ρ) ds).bind fun r => .ok (.lst r) else .error .stuck := by unfold fComp; rw [hf]; rfl
    rw [e0] at q
    by_cases hl : ds.length ≤ sizeLine
    · rw [if_pos hl] at q
      refine ⟨fun i m ys H2 => m = ds.length - i ∧ i ≤ ds.length ∧ ∃ F2 yd, Step F1 H1 F2 H2 ∧ Deeps K F2 yd ys ∧ yd.length ≤ i ∧
        (match compD p ft fe (inSE ix ρ) (ds.drop i) with
          | .ok rr => compD p ft fe (inSE ix ρ) ds = .ok (yd ++ rr)
          | .error e => W.p e F H), ⟨ds.length, by omega, Nat.zero_le _, F1, [], Step.refl s1.fh, rfl, Nat.zero_le _, ?_⟩, ?_⟩
      · rw [List.drop_zero]
        cases e : compD p ft fe (inSE ix ρ) ds with
        | ok rr => rfl
        | error x => exact q.err (by rw [e]; rfl)
      · rintro i m ys H2 ⟨rfl, hi, F2, yd, s2, dy, ly, hc⟩
        have lys : ys.length ≤ sizeLine := by rw [dy.length]; omega
        by_cases hlt : i < ds.length
        · have ed : ds.drop i = ds[i] :: ds.drop (i + 1) := List.drop_eq_getElem_cons hlt
          rw [ed] at hc
          refine .inr ⟨it.go i F2 H2 s2.ff s2.fh hlt, lys, fun ys' H' => (i + 1 ≤ ds.length ∧ ∃ F2 yd, Step F1 H1 F2 H' ∧ Deeps K F2 yd ys' ∧ yd.length ≤ i + 1 ∧
            (match compD p ft fe (inSE ix ρ) (ds.drop (i + 1)) with
              | .ok rr => compD p ft fe (inSE ix ρ) ds = .ok (yd ++ rr)
              | .error e => W.p e F H)), fun ys' H' n => ⟨ds.length - (i + 1), by omega, rfl, n⟩, fun x H' y => ?_⟩
          obtain ⟨F3, s3, q3⟩ := it.yl i F2 H2 x H' ds[i] s2.ff s2.fh (by simp [hlt]) y
          have r3 : RepE K F3 (L2.inS ix σ) (inSE ix ρ) := (r.mono (s1.trans (s2.trans s3)).ff).inS ix
          have st3 : Step F H F3 H' := s1.trans (s2.trans s3)
          have ec : compD p ft fe (inSE ix ρ) (ds[i] :: ds.drop (i + 1)) = (bindP p ds[i] (inSE ix ρ)).bind fun ρ1 => (ft ρ1).bind fun b => if b = true then (fe ρ1).bind fun y => (compD p ft fe (inSE ix ρ) (ds.drop (i + 1))).bind fun r => .ok (y :: r) else compD p ft fe (inSE ix ρ) (ds.drop (i + 1)) := by rw [compD]
          rw [ec] at hc
          cases hb : bindP p ds[i] (inSE ix ρ) with
          | error e =>
            rw [hb] at hc
            have := bindP_err hb
            subst this
            exact (W.ns hc).elim
          | ok ρ1 =>
            rw [hb] at hc
            refine gP_run r3 s3.fh q3 hb fun σ2 r4 => ?_
            have hc1 : match ((ft ρ1).bind fun b => if b = true then (fe ρ1).bind fun y => (compD p ft fe (inSE ix ρ) (ds.drop (i + 1))).bind fun r => .ok (y :: r) else compD p ft fe (inSE ix ρ) (ds.drop (i + 1))) with
              | .ok rr => compD p ft fe (inSE ix ρ) ds = .ok (yd ++ rr)
              | .error e => W.p e F H := hc
            refine tDT_run r4 s3.fh (fun e he => by rw [he] at hc1; exact W.mono hc1 st3) fun b hb2 F5 H5 s5 => ?_
            rw [hb2] at hc1
            cases b with
            | false =>
              have hc2 : match compD p ft fe (inSE ix ρ) (ds.drop (i + 1)) with
                | .ok rr => compD p ft fe (inSE ix ρ) ds = .ok (yd ++ rr)
                | .error e => W.p e F H := hc1
              exact ⟨hlt, F5, yd, s2.trans (s3.trans s5), dy.mono (s3.trans s5).ff, by omega, hc2⟩
            | true =>
              have hc2 : match ((fe ρ1).bind fun y => (compD p ft fe (inSE ix ρ) (ds.drop (i + 1))).bind fun r => .ok (y :: r)) with
                | .ok rr => compD p ft fe (inSE ix ρ) ds = .ok (yd ++ rr)
                | .error e => W.p e F H := hc1
              refine tD_run (r4.mono s5.ff) s5.fh (fun e he => by rw [he] at hc2; exact W.mono hc2 (st3.trans s5)) fun d hd v F6 H6 s6 q6 => ?_
              rw [hd] at hc2
              refine ⟨hlt, F6, yd ++ [d], s2.trans (s3.trans (s5.trans s6)), Deeps.append (dy.mono (s3.trans (s5.trans s6)).ff) ⟨v, [], rfl, q6, rfl⟩, by simp; omega, ?_⟩
              have hc3 : match ((compD p ft fe (inSE ix ρ) (ds.drop (i + 1))).bind fun r => .ok (d :: r) : M (List Dat)) with
                | .ok rr => compD p ft fe (inSE ix ρ) ds = .ok (yd ++ rr)
                | .error e => W.p e F H := hc2
              cases e7 : compD p ft fe (inSE ix ρ) (ds.drop (i + 1)) with
              | ok rr =>
                rw [e7] at hc3
                show _ = Except.ok ((yd ++ [d]) ++ rr)
                rw [List.append_assoc]
                exact hc3
              | error x => rw [e7] at hc3; exact hc3
        · have : i = ds.length := by omega
          subst this
          rw [List.drop_length] at hc
          have hc' : compD p ft fe (inSE ix ρ) ds = .ok (yd ++ []) := hc
          rw [List.append_nil] at hc'
          rw [hc'] at q
          refine .inl ⟨it.st F2 H2 s2.ff s2.fh, lys, fun a ha => ?_⟩
          have st : Step F H F2 H2 := s1.trans s2
          exact q (.ref a) F2 _ (st.trans (Step.grow s2.fh ha)) ⟨a, ys, rfl, upd_same, s2.fh.free ha, st.hh.free ha, dy⟩
    · rw [if_neg hl] at q
      exact (W.ns q).elim
end
inductive Flo where
  | nx (ρ : Env') | rt (d : Dat) | bk (ρ : Env') | ct (ρ : Env')
structure Rep (K : PySem.W.Frag) (F0 H0 FB : Hp) (O : List Nat) (F H : Hp) (σ : St) (ρ : Env') : Prop where
  st : Step F0 H0 F H
  fb : Same FB F
  len : ρ.length = σ.length
  fz : ∀ (i : Nat) (d : Dat), ρ[i]? = some (some d) → i ∉ O → ∃ v, σ[i]? = some (some v) ∧ Deep K F d v
  ow : ∀ (i : Nat) (d : Dat), ρ[i]? = some (some d) → i ∈ O → ∃ v, σ[i]? = some (some v) ∧ OwnD K F H0 H d v
  ap : ∀ (i j : Nat) (ds es : List Dat) (a : Addr), i ∈ O → j ∈ O → ρ[i]? = some (some (.lst ds)) → ρ[j]? = some (some (.lst es)) → σ[i]? = some (some (.ref a)) → σ[j]? = some (some (.ref a)) → i = j
noncomputable def Own' (O O2 : List Nat) (σ : St) (ρ : Env') (b : Addr) : Prop := ∃ (i : Nat) (ds : List Dat), i ∈ O ∧ i ∉ O2 ∧ ρ[i]? = some (some (.lst ds)) ∧ σ[i]? = some (some (.ref b))
open Classical in
noncomputable def plus (F H : Hp) (A : Addr → Prop) : Hp := fun b => if A b then H b else F b
open Classical in
noncomputable def minus (F : Hp) (A : Addr → Prop) : Hp := fun b => if A b then none else F b
theorem plus_in {F H : Hp} {A : Addr → Prop} {b : Addr} (h : A b) : plus F H A b = H b := by unfold plus; rw [if_pos h]
theorem plus_out {F H : Hp} {A : Addr → Prop} {b : Addr} (h : ¬ A b) : plus F H A b = F b := by unfold plus; rw [if_neg h]
theorem minus_in {F : Hp} {A : Addr → Prop} {b : Addr} (h : A b) : minus F A b = none := by unfold minus; rw [if_pos h]
theorem minus_out {F : Hp} {A : Addr → Prop} {b : Addr} (h : ¬ A b) : minus F A b = F b := by unfold minus; rw [if_neg h]
section
variable {K : PySem.W.Frag} {F0 H0 FB F H : Hp} {O O2 : List Nat} {σ : St} {ρ : Env'}
theorem Rep.own (r : Rep K F0 H0 FB O F H σ ρ) {b : Addr} (h : Own' O O2 σ ρ b) : F b = none ∧ H0 b = none ∧ ∃ xs, H b = some (.lst xs) := by
  obtain ⟨i, ds, hi, _, e1, e2⟩ := h
  obtain ⟨v, e3, a, xs, e, p, q, z, _⟩ := r.ow i _ e1 hi
  rw [e2] at e3
  cases e3
  cases e
  exact ⟨q, z, xs, p⟩
theorem Rep.plus_ff (r : Rep K F0 H0 FB O F H σ ρ) : Same F (plus F H (Own' O O2 σ ρ)) := fun b o h => by
  by_cases hb : Own' O O2 σ ρ b
  · rw [(r.own hb).1] at h; cases h
  · rw [plus_out hb]; exact h
theorem Rep.plus_fh (r : Rep K F0 H0 FB O F H σ ρ) : Same (plus F H (Own' O O2 σ ρ)) H := fun b o h => by
  by_cases hb : Own' O O2 σ ρ b
  · rw [plus_in hb] at h; exact h
  · rw [plus_out hb] at h; exact r.st.fh b o h
theorem Rep.freeze (r : Rep K F0 H0 FB O F H σ ρ) (hs : ∀ i ∈ O2, i ∈ O) : Rep K F0 H0 FB O2 (plus F H (Own' O O2 σ ρ)) H σ ρ where
  st := ⟨r.st.ff.trans r.plus_ff, r.st.hh, r.plus_fh, fun b o h => by
    by_cases hb : Own' O O2 σ ρ b
    · exact .inr (r.own hb).2.1
    · rw [plus_out hb] at h; exact r.st.nw b o h⟩
  fb := r.fb.trans r.plus_ff
  len := r.len
  fz := fun i d e hi => by
    by_cases ho : i ∈ O
    · obtain ⟨v, e3, q⟩ := r.ow i d e ho
      refine ⟨v, e3, ?_⟩
      cases d with
      | lst ds =>
        obtain ⟨a, xs, ev, p, _, _, t⟩ := q
        subst ev
        refine ⟨a, xs, rfl, SqL.of ?_, t.mono r.plus_ff⟩
        rw [plus_in ⟨i, ds, ho, hi, e, e3⟩]
        exact p
      | _ => exact Deep.mono r.plus_ff q
    · obtain ⟨v, e3, q⟩ := r.fz i d e ho
      exact ⟨v, e3, q.mono r.plus_ff⟩
  ow := fun i d e hi => by
    obtain ⟨v, e3, q⟩ := r.ow i d e (hs i hi)
    refine ⟨v, e3, ?_⟩
    cases d with
    | lst ds =>
      obtain ⟨a, xs, ev, p, q, z, t⟩ := q
      subst ev
      refine ⟨a, xs, rfl, p, ?_, z, t.mono r.plus_ff⟩
      have : ¬ Own' O O2 σ ρ a := fun ⟨j, es, hj, hj2, f1, f2⟩ => by
        have := r.ap i j ds es a (hs i hi) hj e f1 e3 f2
        subst this
        exact hj2 hi
      rw [plus_out this]
      exact q
    | _ => exact Deep.mono r.plus_ff q
  ap := fun i j ds es a hi hj => r.ap i j ds es a (hs i hi) (hs j hj)
theorem Rep.repE (r : Rep K F0 H0 FB [] F H σ ρ) : RepE K F σ ρ := ⟨r.len, fun i d e => r.fz i d e (by simp)⟩
theorem Rep.repAll (r : Rep K F0 H0 FB O F H σ ρ) : RepE K (plus F H (Own' O [] σ ρ)) σ ρ := (r.freeze (O2 := []) (by simp)).repE
noncomputable def erase : List Nat → Env' → Env'
  | [], ρ => ρ
  | i :: is, ρ => erase is (ρ.set i none)
theorem erase_len : ∀ (O : List Nat) (ρ : Env'), (erase O ρ).length = ρ.length
  | [], _ => rfl
  | i :: is, ρ => by rw [erase, erase_len, List.length_set]
theorem erase_get : ∀ (O : List Nat) (ρ : Env') (i : Nat) (d : Dat), (erase O ρ)[i]? = some (some d) → ρ[i]? = some (some d) ∧ i ∉ O
  | [], _, _, _, h => ⟨h, by simp⟩
  | j :: is, ρ, i, d, h => by
    obtain ⟨h1, h2⟩ := erase_get is (ρ.set j none) i d h
    by_cases e : j = i
    · subst e
      have hj : j < ρ.length := by
        have := (List.getElem?_eq_some_iff.mp h1).1
        simpa using this
      rw [List.getElem?_set_self hj] at h1
      cases h1
    · rw [List.getElem?_set_ne e] at h1
      exact ⟨h1, by simp [h2]; omega⟩
theorem Rep.repErase (r : Rep K F0 H0 FB O F H σ ρ) : RepE K F σ (erase O ρ) :=
  ⟨by rw [erase_len, r.len], fun i d e => let ⟨h1, h2⟩ := erase_get O ρ i d e; r.fz i d h1 h2⟩
theorem Rep.step {F1 H1 : Hp} (r : Rep K F0 H0 FB O F H σ ρ) (s : Step F H F1 H1) : Rep K F0 H0 FB O F1 H1 σ ρ where
  st := r.st.trans s
  fb := r.fb.trans s.ff
  len := r.len
  fz := fun i d e hi => let ⟨v, e3, q⟩ := r.fz i d e hi; ⟨v, e3, q.mono s.ff⟩
  ow := fun i d e hi => by
    obtain ⟨v, e3, q⟩ := r.ow i d e hi
    refine ⟨v, e3, ?_⟩
    cases d with
    | lst ds =>
      obtain ⟨a, xs, ev, p, q, z, t⟩ := q
      refine ⟨a, xs, ev, s.hh _ _ p, ?_, z, t.mono s.ff⟩
      cases e1 : F1 a with
      | none => rfl
      | some o =>
        rcases s.nw a o e1 with h | h
        · rw [q] at h; cases h
        · rw [p] at h; cases h
    | _ => exact Deep.mono s.ff q
  ap := r.ap
theorem Rep.stepAll {F1 H1 : Hp} (r : Rep K F0 H0 FB O F H σ ρ) (s : Step (plus F H (Own' O [] σ ρ)) H F1 H1) : Rep K F0 H0 FB O (minus F1 (Own' O [] σ ρ)) H1 σ ρ := by
  refine r.step ⟨fun b o h => ?_, s.hh, fun b o h => ?_, fun b o h => ?_⟩
  · by_cases hb : Own' O [] σ ρ b
    · rw [(r.own hb).1] at h; cases h
    · rw [minus_out hb]; exact s.ff b o (by rw [plus_out hb]; exact h)
  · by_cases hb : Own' O [] σ ρ b
    · rw [minus_in hb] at h; cases h
    · rw [minus_out hb] at h; exact s.fh b o h
  · by_cases hb : Own' O [] σ ρ b
    · rw [minus_in hb] at h; cases h
    · rw [minus_out hb] at h
      rcases s.nw b o h with z | z
      · rw [plus_out hb] at z; exact .inl z
      · exact .inr z
theorem Rep.minusT {F1 H1 : Hp} (r : Rep K F0 H0 FB O F H σ ρ) (s : Step (plus F H (Own' O [] σ ρ)) H F1 H1) (a : Addr) (xs : List V) (h : SqT K F1 a xs) : SqT K (minus F1 (Own' O [] σ ρ)) a xs := by
  have key : ∀ {b : Addr} {o : HO}, F1 b = some o → (∀ xs, o ≠ .lst xs) → minus F1 (Own' O [] σ ρ) b = some o := fun {b o} h n => by
    by_cases hb : Own' O [] σ ρ b
    · obtain ⟨_, _, xs, e⟩ := r.own hb
      have := s.ff b (.lst xs) (by rw [plus_in hb]; exact e)
      rw [h] at this
      cases this
      exact absurd rfl (n xs)
    · rw [minus_out hb]; exact h
  rcases h with (h | ⟨o, h⟩) | h
  · exact .inl (.inl (key h (by intro xs e; cases e)))
  · exact .inl (.inr ⟨o, key h (by intro xs e; cases e)⟩)
  · exact .inr h
theorem Rep.set {d : Dat} {v : V} (r : Rep K F0 H0 FB O F H σ ρ) (q : Deep K F d v) (i : Nat) : Rep K F0 H0 FB (O.filter (· != i)) F H (σ.set i (some v)) (ρ.set i (some d)) where
  st := r.st
  fb := r.fb
  len := by rw [List.length_set, List.length_set, r.len]
  fz := fun j e h hj => by
    by_cases hij : i = j
    · subst hij
      have hi : i < ρ.length := by
        have := (List.getElem?_eq_some_iff.mp h).1
        simpa using this
      rw [List.getElem?_set_self hi] at h
      cases h
      exact ⟨v, by rw [List.getElem?_set_self (by rw [← r.len]; exact hi)], q⟩
    · rw [List.getElem?_set_ne hij] at h
      rw [List.getElem?_set_ne hij]
      exact r.fz j e h fun z => hj (List.mem_filter.mpr ⟨z, by simpa using Ne.symm hij⟩)
  ow := fun j e h hj => by
    obtain ⟨h1, h2⟩ := List.mem_filter.mp hj
    have hij : i ≠ j := fun z => by simp [z] at h2
    rw [List.getElem?_set_ne hij] at h ⊢
    exact r.ow j e h h1
  ap := fun j k ds es a hj hk e1 e2 e3 e4 => by
    obtain ⟨j1, j2⟩ := List.mem_filter.mp hj
    obtain ⟨k1, k2⟩ := List.mem_filter.mp hk
    have hij : i ≠ j := fun z => by simp [z] at j2
    have hik : i ≠ k := fun z => by simp [z] at k2
    rw [List.getElem?_set_ne hij] at e1 e3
    rw [List.getElem?_set_ne hik] at e2 e4
    exact r.ap j k ds es a j1 k1 e1 e2 e3 e4
theorem Rep.setOwn {d : Dat} {v : V} (r : Rep K F0 H0 FB O F H σ ρ) (q : OwnD K F H0 H d v) (nw : ∀ a, v = .ref a → (∃ ds, d = .lst ds) → ¬ Own' O [i] σ ρ a) : Rep K F0 H0 FB (i :: O.filter (· != i)) F H (σ.set i (some v)) (ρ.set i (some d)) where
  st := r.st
  fb := r.fb
  len := by rw [List.length_set, List.length_set, r.len]
  fz := fun j e h hj => by
    simp only [List.mem_cons, not_or] at hj
    have hij : i ≠ j := fun z => hj.1 z.symm
    rw [List.getElem?_set_ne hij] at h ⊢
    exact r.fz j e h fun z => hj.2 (List.mem_filter.mpr ⟨z, by simpa using Ne.symm hij⟩)
  ow := fun j e h hj => by
    by_cases hij : i = j
    · subst hij
      have hi : i < ρ.length := by
        have := (List.getElem?_eq_some_iff.mp h).1
        simpa using this
      rw [List.getElem?_set_self hi] at h
      cases h
      exact ⟨v, by rw [List.getElem?_set_self (by rw [← r.len]; exact hi)], q⟩
    · rw [List.getElem?_set_ne hij] at h ⊢
      rcases List.mem_cons.mp hj with z | z
      · exact absurd z.symm hij
      · exact r.ow j e h (List.mem_filter.mp z).1
  ap := fun j k ds es a hj hk e1 e2 e3 e4 => by
    have key : ∀ {k' : Nat} {ds' es' : List Dat}, k' ∈ O → k' ≠ i → (ρ.set i (some d))[i]? = some (some (.lst ds')) → (ρ.set i (some d))[k']? = some (some (.lst es')) → (σ.set i (some v))[i]? = some (some (.ref a)) → (σ.set i (some v))[k']? = some (some (.ref a)) → False := by
      intro k' ds' es' hk' hne f1 f2 f3 f4
      have hi : i < ρ.length := by
        have := (List.getElem?_eq_some_iff.mp f1).1
        simpa using this
      rw [List.getElem?_set_self hi] at f1
      rw [List.getElem?_set_self (by rw [← r.len]; exact hi)] at f3
      rw [List.getElem?_set_ne (Ne.symm hne)] at f2 f4
      have z1 : v = .ref a := by simpa using f3
      have z2 : d = .lst ds' := by simpa using f1
      exact nw a z1 ⟨ds', z2⟩ ⟨k', es', hk', by simpa using hne, f2, f4⟩
    rcases List.mem_cons.mp hj with zj | zj
    · rcases List.mem_cons.mp hk with zk | zk
      · rw [zj, zk]
      · obtain ⟨k1, k2⟩ := List.mem_filter.mp zk
        subst zj
        exact (key k1 (by simpa using k2) e1 e2 e3 e4).elim
    · obtain ⟨j1, j2⟩ := List.mem_filter.mp zj
      have hij : i ≠ j := fun z => by simp [z] at j2
      rcases List.mem_cons.mp hk with zk | zk
      · subst zk
        exact (key j1 (Ne.symm hij) e2 e1 e4 e3).elim
      · obtain ⟨k1, k2⟩ := List.mem_filter.mp zk
        have hik : i ≠ k := fun z => by simp [z] at k2
        rw [List.getElem?_set_ne hij] at e1 e3
        rw [List.getElem?_set_ne hik] at e2 e4
        exact r.ap j k ds es a j1 k1 e1 e2 e3 e4
end
section
variable {K : PySem.W.Frag} {F0 H0 FB F H : Hp} {O O2 : List Nat} {σ : St} {ρ : Env'}
theorem Rep.stepAll_ff {F1 H1 : Hp} (r : Rep K F0 H0 FB O F H σ ρ) (s : Step (plus F H (Own' O [] σ ρ)) H F1 H1) : Same F (minus F1 (Own' O [] σ ρ)) := fun b o h => by
  by_cases hb : Own' O [] σ ρ b
  · rw [(r.own hb).1] at h; cases h
  · rw [minus_out hb]; exact s.ff b o (by rw [plus_out hb]; exact h)
theorem filter_out {i : Nat} {O : List Nat} (h : i ∉ O) : O.filter (· != i) = O := by
  rw [List.filter_eq_self]
  intro a ha
  simp
  intro e
  exact h (e ▸ ha)
theorem Rep.set' {d : Dat} {v : V} (r : Rep K F0 H0 FB O F H σ ρ) (q : Deep K F d v) {i : Nat} (hi : i ∉ O) : Rep K F0 H0 FB O F H (σ.set i (some v)) (ρ.set i (some d)) := by
  have := r.set q i
  rw [filter_out hi] at this
  exact this
theorem Rep.base {FB' : Hp} (r : Rep K F0 H0 FB O F H σ ρ) (s : Same FB' FB) : Rep K F0 H0 FB' O F H σ ρ := ⟨r.st, s.trans r.fb, r.len, r.fz, r.ow, r.ap⟩
theorem Rep.write {i : Nat} {a : Addr} {ds ds' : List Dat} {xs' : List V} (r : Rep K F0 H0 FB O F H σ ρ) (hi : i ∈ O) (e1 : ρ[i]? = some (some (.lst ds))) (e2 : σ[i]? = some (some (.ref a))) (q : Deeps K F ds' xs') : Rep K F0 H0 FB O F (upd H a (.lst xs')) σ (ρ.set i (some (.lst ds'))) := by
  have ho : F a = none ∧ H0 a = none ∧ ∃ xs, H a = some (.lst xs) := r.own (O2 := []) ⟨i, ds, hi, by simp, e1, e2⟩
  have hil : i < ρ.length := (List.getElem?_eq_some_iff.mp e1).1
  refine ⟨⟨r.st.ff, fun b o h => ?_, fun b o h => ?_, r.st.nw⟩, r.fb, by rw [List.length_set, r.len], fun j e h hj => ?_, fun j e h hj => ?_, fun j k es fs b hj hk f1 f2 f3 f4 => ?_⟩
  · rw [upd_ne (ne_of_none h ho.2.1)]; exact r.st.hh b o h
  · rw [upd_ne (ne_of_none h ho.1)]; exact r.st.fh b o h
  · have hij : i ≠ j := fun z => hj (z ▸ hi)
    rw [List.getElem?_set_ne hij] at h
    exact r.fz j e h hj
  · by_cases hij : i = j
    · subst hij
      rw [List.getElem?_set_self hil] at h
      cases h
      exact ⟨.ref a, e2, a, xs', rfl, upd_same, ho.1, ho.2.1, q⟩
    · rw [List.getElem?_set_ne hij] at h
      obtain ⟨v, e3, z⟩ := r.ow j e h hj
      refine ⟨v, e3, ?_⟩
      cases e with
      | lst es =>
        obtain ⟨b, ys, ev, p, q1, q2, t⟩ := z
        subst ev
        have hab : b ≠ a := fun z => by
          subst z
          exact hij (r.ap i j ds es b hi hj e1 h e2 e3)
        exact ⟨b, ys, rfl, by rw [upd_ne hab]; exact p, q1, q2, t⟩
      | _ => exact z
  · have fix : ∀ {j : Nat} {es : List Dat}, (ρ.set i (some (.lst ds')))[j]? = some (some (.lst es)) → ∃ es', ρ[j]? = some (some (.lst es')) := fun {j es} f => by
      by_cases hij : i = j
      · subst hij; exact ⟨ds, e1⟩
      · rw [List.getElem?_set_ne hij] at f; exact ⟨es, f⟩
    obtain ⟨es', g1⟩ := fix f1
    obtain ⟨fs', g2⟩ := fix f2
    exact r.ap j k es' fs' b hj hk g1 g2 f3 f4
noncomputable def Pat.names : Pat → List Nat
  | .nm i => [i]
  | .tp is => is
theorem gNames_rep {R : St → Hp → Prop} : ∀ {is : List Nat} {ds : List Dat} {vs : List V} {σ : St} {ρ : Env'}, Rep K F0 H0 FB O F H σ ρ → (∀ i ∈ is, i ∉ O) → Deeps K F ds vs → ds.length = is.length → (∀ σ', Rep K F0 H0 FB O F H σ' (setAll is ds ρ) → R σ' H) → gNames is vs σ H R
  | [], [], _, σ, ρ, r, _, q, _, h => ⟨q, h σ r⟩
  | [], _ :: _, _, _, _, _, _, _, e, _ => by simp at e
  | _ :: _, [], _, _, _, _, _, _, e, _ => by simp at e
  | i :: is, d :: ds, _, σ, ρ, r, n, ⟨v, vs, e, q, t⟩, l, h => ⟨v, vs, e, gNames_rep (r.set' q (n i (by simp))) (fun j hj => n j (by simp [hj])) t (by simpa using l) h⟩
theorem gP_rep {R : St → Hp → Prop} {p : Pat} {d : Dat} {v : V} {ρ' : Env'} (r : Rep K F0 H0 FB O F H σ ρ) (n : ∀ i ∈ p.names, i ∉ O) (q : Deep K F d v) (e : bindP p d ρ = .ok ρ') (h : ∀ σ', Rep K F0 H0 FB O F H σ' ρ' → R σ' H) : gP K p v σ H R := by
  cases p with
  | nm i =>
    have := Except.ok.inj e
    subst this
    exact h _ (r.set' q (n i (by simp [Pat.names])))
  | tp is =>
    cases d with
    | tup ds =>
      have e' : (if ds.length = is.length then Except.ok (setAll is ds ρ) else Except.error Err.stuck) = Except.ok ρ' := e
      by_cases hl : ds.length = is.length
      · rw [if_pos hl] at e'
        have := Except.ok.inj e'
        subst this
        obtain ⟨a, xs, ev, t, z⟩ := q
        exact ⟨a, xs, ev, r.st.fh.tup t, by rw [z.length, hl], gNames_rep r n z hl h⟩
      · rw [if_neg hl] at e'
        cases e'
    | _ => cases e
end
noncomputable def PostS (K : PySem.W.Frag) (W : Wish) (ro : Bool) (F0 H0 FB : Hp) (OL O' : List Nat) (D : Ends) (r : M Flo) : Prop := match r with
  | .ok (.nx ρ) => ∀ σ F H, Rep K F0 H0 FB O' F H σ ρ → D.nx σ H
  | .ok (.rt d) => ∀ v F H, Step F0 H0 F H → Val K ro F H0 H d v → D.rt v H
  | .ok (.bk ρ) => ∀ σ F H, Rep K F0 H0 FB OL F H σ ρ → D.bk σ H
  | .ok (.ct ρ) => ∀ σ F H, Rep K F0 H0 FB OL F H σ ρ → D.ct σ H
  | .error e => W.p e F0 H0
noncomputable def tS (K : PySem.W.Frag) (W : Wish) (ro : Bool) (F0 H0 : Hp) (OL O O' : List Nat) (g : Env' → M Flo) : TS := fun D σ H => ∃ FB F ρ, Rep K F0 H0 FB O F H σ ρ ∧ PostS K W ro F0 H0 FB OL O' D (g ρ)
noncomputable def sNext : Env' → M Flo := fun ρ => .ok (.nx ρ)
noncomputable def sCont : Env' → M Flo := fun ρ => .ok (.ct ρ)
noncomputable def sSeq (g h : Env' → M Flo) : Env' → M Flo := fun ρ => (g ρ).bind fun fl => match fl with
  | .nx ρ' => h ρ'
  | fl => .ok fl
noncomputable def sIf (ft : Env' → M Bool) (g h : Env' → M Flo) : Env' → M Flo := fun ρ => (ft ρ).bind fun b => if b = true then g ρ else h ρ
noncomputable def sSetB (O : List Nat) (i : Nat) (f : Env' → M Dat) : Env' → M Flo := fun ρ => (f (erase O ρ)).bind fun d => .ok (.nx (ρ.set i (some d)))
noncomputable def lstAt (ρ : Env') (i : Nat) : M (List Dat) := match ρ[i]? with
  | some (some (.lst ds)) => .ok ds
  | _ => .error .stuck
noncomputable def put (ρ : Env') (i : Nat) (ds : List Dat) : M Flo := .ok (.nx (ρ.set i (some (.lst ds))))
noncomputable def sAppA (i : Nat) (f : Env' → M Dat) : Env' → M Flo := fun ρ => (lstAt ρ i).bind fun ds => (f ρ).bind fun d => if (flatD d && decide (ds.length < sizeLine)) = true then put ρ i (ds ++ [d]) else .error .stuck
noncomputable def sAppB (O : List Nat) (i : Nat) (f : Env' → M Dat) : Env' → M Flo := fun ρ => (lstAt ρ i).bind fun ds => (f (erase O ρ)).bind fun d => if ds.length < sizeLine then put ρ i (ds ++ [d]) else .error .stuck
noncomputable def asI : Dat → M Int
  | .int i => .ok i
  | _ => .error .stuck
noncomputable def sSetI (i : Nat) (fi f : Env' → M Dat) : Env' → M Flo := fun ρ => (f ρ).bind fun d => (lstAt ρ i).bind fun ds => (fi ρ).bind fun k => (asI k).bind fun k => if flatD d = true then (match ixN ds.length k with
  | some j => put ρ i (ds.set j d)
  | none => .error .stuck) else .error .stuck
noncomputable def sRet (f : Env' → M Dat) : Env' → M Flo := fun ρ => (f ρ).bind fun d => .ok (.rt d)
noncomputable def forD (p : Pat) (g : Env' → M Flo) : List Dat → Env' → M Flo
  | [], ρ => .ok (.nx ρ)
  | d :: ds, ρ => (bindP p d ρ).bind fun ρ1 => (g ρ1).bind fun fl => match fl with
    | .nx ρ2 => forD p g ds ρ2
    | .ct ρ2 => forD p g ds ρ2
    | .bk ρ2 => .ok (.nx ρ2)
    | .rt d => .ok (.rt d)
noncomputable def sFor (O : List Nat) (fi : Env' → M (List Dat)) (p : Pat) (g : Env' → M Flo) : Env' → M Flo := fun ρ => (fi (erase O ρ)).bind fun ds => forD p g ds ρ
section
variable {K : PySem.W.Frag} {W : Wish} {ro own : Bool} {F0 H0 FB F H : Hp} {OL O O' O2 : List Nat} {D : Ends} {σ : St} {ρ : Env'} {g h : Env' → M Flo} {f fi : Env' → M Dat} {ft : Env' → M Bool}
theorem PostS.err {x : M Flo} {e : Err} (p : PostS K W ro F0 H0 FB OL O' D x) (h : x = .error e) : W.p e F0 H0 := by rw [h] at p; exact p
theorem PostS.errAt {x : M Flo} {e : Err} (p : PostS K W ro F0 H0 FB OL O' D x) (s : Step F0 H0 F H) (h : x = .error e) : W.p e F H := W.mono (p.err h) s
theorem PostS.stuck {x : M Flo} {P : Prop} (p : PostS K W ro F0 H0 FB OL O' D x) (h : x = .error .stuck) : P := (W.ns (p.err h)).elim
theorem tS.enter (hs : ∀ i ∈ O2, i ∈ O) (t : tS K W ro F0 H0 OL O O' g D σ H) : tS K W ro F0 H0 OL O2 O' g D σ H := by
  obtain ⟨FB, F, ρ, r, p⟩ := t
  exact ⟨FB, _, ρ, r.freeze hs, p⟩
theorem rs_next (t : tS K W ro F0 H0 OL O O sNext D σ H) : tNext D σ H := by
  obtain ⟨FB, F, ρ, r, p⟩ := t
  exact p σ F H r
theorem rs_cont (t : tS K W ro F0 H0 O O O' sCont D σ H) : tCont D σ H := by
  obtain ⟨FB, F, ρ, r, p⟩ := t
  exact p σ F H r
theorem rs_seq (t : tS K W ro F0 H0 OL O O2 (sSeq g h) D σ H) : tSeq (tS K W ro F0 H0 OL O O' g) (tS K W ro F0 H0 OL O' O2 h) D σ H := by
  obtain ⟨FB, F, ρ, r, p⟩ := t
  refine ⟨FB, F, ρ, r, ?_⟩
  unfold sSeq at p
  cases e : g ρ with
  | error x => exact p.err (by rw [e]; rfl)
  | ok fl =>
    rw [e] at p
    cases fl with
    | nx ρ' => exact fun σ' F' H' r' => ⟨FB, F', ρ', r', p⟩
    | rt d => exact p
    | bk ρ' => exact p
    | ct ρ' => exact p
theorem rs_if (t : tS K W ro F0 H0 OL O O' (sIf ft g h) D σ H) : tIfS (tDT K W ft) (tS K W ro F0 H0 OL O O' g) (tS K W ro F0 H0 OL O O' h) D σ H := by
  obtain ⟨FB, F, ρ, r, p⟩ := t
  refine tDT_run r.repAll r.plus_fh (fun e he => p.errAt (r.freeze (O2 := []) (by simp)).st (by unfold sIf; rw [he]; rfl)) fun b hb F1 H1 s1 => ?_
  have z : sIf ft g h ρ = if b = true then g ρ else h ρ := by unfold sIf; rw [hb]; rfl
  rw [z] at p
  cases b with
  | true => exact ⟨FB, _, ρ, r.stepAll s1, p⟩
  | false => exact ⟨FB, _, ρ, r.stepAll s1, p⟩
noncomputable def aft (own : Bool) (i : Nat) (O : List Nat) : List Nat := if own = true then i :: O.filter (· != i) else O.filter (· != i)
theorem Rep.bindV {i : Nat} {d : Dat} {v : V} {H2 : Hp} (r : Rep K F0 H0 FB O F H σ ρ) (q : Val K own F H2 H d v) (h2 : Same H0 H2) (nw : ∀ a, Own' O [] σ ρ a → ∃ o, H2 a = some o) : Rep K F0 H0 FB (aft own i O) F H (σ.set i (some v)) (ρ.set i (some d)) := by
  cases own with
  | false => exact r.set q i
  | true =>
    refine r.setOwn (OwnD.back h2 q) fun a ha ⟨ds, hd⟩ z => ?_
    subst ha hd
    obtain ⟨b, xs, e, _, _, n, _⟩ := q
    cases e
    obtain ⟨j, es, h1, h2, h3, h4⟩ := z
    obtain ⟨o, ho⟩ := nw a ⟨j, es, h1, by simp, h3, h4⟩
    rw [n] at ho
    cases ho
theorem rs_setB {i : Nat} (t : tS K W ro F0 H0 OL O (aft own i O) (sSetB O i f) D σ H) : tAsg (tD K W own f) (gName i) D σ H := by
  obtain ⟨FB, F, ρ, r, p⟩ := t
  refine tD_run r.repErase r.st.fh (fun e he => p.errAt r.st (by unfold sSetB; rw [he]; rfl)) fun d hd v F1 H1 s1 q => ?_
  have z : sSetB O i f ρ = .ok (.nx (ρ.set i (some d))) := by unfold sSetB; rw [hd]; rfl
  rw [z] at p
  exact p _ F1 H1 ((r.step s1).bindV q r.st.hh fun a ha => let ⟨_, _, xs, e⟩ := r.own ha; ⟨_, e⟩)
theorem lstAt_ok {i : Nat} {ds : List Dat} (h : lstAt ρ i = .ok ds) : ρ[i]? = some (some (.lst ds)) := by
  unfold lstAt at h
  split at h
  · cases h; assumption
  · cases h
theorem lstAt_err {i : Nat} {e : Err} (h : lstAt ρ i = .error e) : e = .stuck := by
  unfold lstAt at h
  split at h
  · cases h
  · cases h; rfl
theorem Rep.lstOwn {i : Nat} {ds : List Dat} (r : Rep K F0 H0 FB O F H σ ρ) (hi : i ∈ O) (e : ρ[i]? = some (some (.lst ds))) : ∃ a xs, σ[i]? = some (some (.ref a)) ∧ H a = some (.lst xs) ∧ Deeps K F ds xs := by
  obtain ⟨v, e3, a, xs, ev, p, _, _, t⟩ := r.ow i _ e hi
  subst ev
  exact ⟨a, xs, e3, p, t⟩
noncomputable def tApp (K : PySem.W.Frag) (i : Nat) (te : TE) : TS := tDrop (tBM K "list" rAppend (tVar i) (tCons te tNil))
theorem rs_appB {i : Nat} (hi : i ∈ O) (t : tS K W ro F0 H0 OL O O (sAppB O i f) D σ H) : tApp K i (tD K W false f) D σ H := by
  obtain ⟨FB, F, ρ, r, p⟩ := t
  cases hl : lstAt ρ i with
  | error e =>
    have := lstAt_err hl
    subst this
    exact p.stuck (by unfold sAppB; rw [hl]; rfl)
  | ok ds =>
    obtain ⟨a, xs, e2, ha, z⟩ := r.lstOwn hi (lstAt_ok hl)
    refine ⟨.ref a, e2, tyV_list ha, ?_⟩
    refine tD_run r.repErase r.st.fh (fun e he => p.errAt r.st (by unfold sAppB; rw [hl]; show (f (erase O ρ)).bind _ = _; rw [he]; rfl)) fun d hd v F1 H1 s1 q => ?_
    have ez : sAppB O i f ρ = if ds.length < sizeLine then put ρ i (ds ++ [d]) else .error .stuck := by unfold sAppB; rw [hl]; show (f (erase O ρ)).bind _ = _; rw [hd]; rfl
    rw [ez] at p
    by_cases hs : ds.length < sizeLine
    · rw [if_pos hs] at p
      exact ⟨a, xs, v, rfl, rfl, s1.hh _ _ ha, by rw [z.length]; exact hs, p σ F1 _ ((r.step s1).write hi (lstAt_ok hl) e2 (Deeps.append (z.mono s1.ff) ⟨v, [], rfl, q, rfl⟩))⟩
    · rw [if_neg hs] at p
      exact p.stuck rfl
theorem rs_appA {i : Nat} (hi : i ∈ O) (t : tS K W ro F0 H0 OL O O (sAppA i f) D σ H) : tApp K i (tD K W false f) D σ H := by
  obtain ⟨FB, F, ρ, r, p⟩ := t
  cases hl : lstAt ρ i with
  | error e =>
    have := lstAt_err hl
    subst this
    exact p.stuck (by unfold sAppA; rw [hl]; rfl)
  | ok ds =>
    obtain ⟨a, xs, e2, ha, z⟩ := r.lstOwn hi (lstAt_ok hl)
    refine ⟨.ref a, e2, tyV_list ha, ?_⟩
    refine tD_run r.repAll r.plus_fh (fun e he => p.errAt (r.freeze (O2 := []) (by simp)).st (by unfold sAppA; rw [hl]; show (f ρ).bind _ = _; rw [he]; rfl)) fun d hd v F1 H1 s1 q => ?_
    have ez : sAppA i f ρ = if (flatD d && decide (ds.length < sizeLine)) = true then put ρ i (ds ++ [d]) else .error .stuck := by unfold sAppA; rw [hl]; show (f ρ).bind _ = _; rw [hd]; rfl
    rw [ez] at p
    by_cases hs : (flatD d && decide (ds.length < sizeLine)) = true
    · rw [if_pos hs] at p
      simp only [Bool.and_eq_true, decide_eq_true_eq] at hs
      exact ⟨a, xs, v, rfl, rfl, s1.hh _ _ ha, by rw [z.length]; exact hs.2, p σ _ _ ((r.stepAll s1).write hi (lstAt_ok hl) e2 (Deeps.append (z.mono (r.stepAll_ff s1)) ⟨v, [], rfl, Deep.flat (r.minusT s1) hs.1 q, rfl⟩))⟩
    · rw [if_neg hs] at p
      exact p.stuck rfl
theorem rs_setI {i : Nat} (hi : i ∈ O) (t : tS K W ro F0 H0 OL O O (sSetI i fi f) D σ H) : tAsg (tD K W false f) (gSub (tVar i) (tD K W false fi) rSetL) D σ H := by
  obtain ⟨FB, F, ρ, r, p⟩ := t
  refine tD_run r.repAll r.plus_fh (fun e he => p.errAt (r.freeze (O2 := []) (by simp)).st (by unfold sSetI; rw [he]; rfl)) fun d hd v F1 H1 s1 q => ?_
  have ez : sSetI i fi f ρ = (lstAt ρ i).bind fun ds => (fi ρ).bind fun k => (asI k).bind fun k => if flatD d = true then (match ixN ds.length k with
    | some j => put ρ i (ds.set j d)
    | none => .error .stuck) else .error .stuck := by unfold sSetI; rw [hd]; rfl
  rw [ez] at p
  cases hl : lstAt ρ i with
  | error e =>
    have := lstAt_err hl
    subst this
    exact p.stuck (by rw [hl]; rfl)
  | ok ds =>
    rw [hl] at p
    have p : PostS K W ro F0 H0 FB OL O D ((fi ρ).bind fun k => (asI k).bind fun k => if flatD d = true then (match ixN ds.length k with
      | some j => put ρ i (ds.set j d)
      | none => .error .stuck) else .error .stuck) := p
    have r1 := r.stepAll s1
    obtain ⟨a, xs, e2, ha, z⟩ := r1.lstOwn hi (lstAt_ok hl)
    refine ⟨.ref a, e2, ?_⟩
    refine tD_run r1.repAll r1.plus_fh (fun e he => p.errAt (r1.freeze (O2 := []) (by simp)).st (by rw [he]; rfl)) fun k hk w F2 H2 s2 q2 => ?_
    rw [hk] at p
    cases k with
    | int k =>
      have p : PostS K W ro F0 H0 FB OL O D (if flatD d = true then (match ixN ds.length k with
        | some j => put ρ i (ds.set j d)
        | none => .error .stuck) else .error .stuck) := p
      by_cases hf : flatD d = true
      · rw [if_pos hf] at p
        cases hj : ixN ds.length k with
        | none => rw [hj] at p; exact p.stuck rfl
        | some j =>
          rw [hj] at p
          refine ⟨a, xs, k, j, rfl, q2, s2.hh _ _ ha, by rw [z.length]; exact hj, ?_⟩
          have qd : Deep K (minus F1 (Own' O [] σ ρ)) d v := Deep.flat (r.minusT s1) hf q
          exact p σ _ _ ((r1.stepAll s2).write hi (lstAt_ok hl) e2 (Deeps.set (qd.mono (r1.stepAll_ff s2)) j (z.mono (r1.stepAll_ff s2))))
      · rw [if_neg hf] at p
        exact p.stuck rfl
    | _ => exact p.stuck rfl
theorem rs_ret (t : tS K W ro F0 H0 OL O O' (sRet f) D σ H) : tRet (tD K W ro f) D σ H := by
  obtain ⟨FB, F, ρ, r, p⟩ := t
  have rf := r.freeze (O2 := []) (by simp)
  refine tD_run r.repAll r.plus_fh (fun e he => p.errAt rf.st (by unfold sRet; rw [he]; rfl)) fun d hd v F1 H1 s1 q => ?_
  have z : sRet f ρ = .ok (.rt d) := by unfold sRet; rw [hd]; rfl
  rw [z] at p
  exact p v F1 H1 (rf.st.trans s1) (q.back r.st.hh)
theorem rs_for {fs : Env' → M (List Dat)} {pt : Pat} (n : ∀ i ∈ pt.names, i ∉ O) (t : tS K W ro F0 H0 OL O O (sFor O fs pt g) D σ H) : tFor (iD K W fs) (gP K pt) (tS K W ro F0 H0 O O O g) D σ H := by
  obtain ⟨FB, F, ρ, r, p⟩ := t
  refine ⟨F, erase O ρ, r.repErase, r.st.fh, ?_⟩
  cases e : fs (erase O ρ) with
  | error x => exact p.errAt r.st (by unfold sFor; rw [e]; rfl)
  | ok ds =>
    have z : sFor O fs pt g ρ = forD pt g ds ρ := by unfold sFor; rw [e]; rfl
    rw [z] at p
    intro J F1 H1 s1 it
    refine ⟨fun i m σ H => ∃ F ρ, Rep K F0 H0 F1 O F H σ ρ ∧ i ≤ ds.length ∧ m = ds.length - i ∧ PostS K W ro F0 H0 FB OL O D (forD pt g (ds.drop i) ρ), ⟨ds.length, F1, ρ, ?_, Nat.zero_le _, by omega, by rw [List.drop_zero]; exact p⟩, ?_⟩
    · have r1 := r.step s1
      exact ⟨r1.st, Same.refl _, r1.len, r1.fz, r1.ow, r1.ap⟩
    · rintro i m σ2 H2 ⟨F2, ρ2, r2, hi, rfl, p2⟩
      by_cases hlt : i < ds.length
      · have ed : ds.drop i = ds[i] :: ds.drop (i + 1) := List.drop_eq_getElem_cons hlt
        rw [ed] at p2
        refine .inr ⟨it.go i F2 H2 r2.fb r2.st.fh hlt, fun σ' H' => (∃ F ρ, Rep K F0 H0 F1 O F H' σ' ρ ∧ PostS K W ro F0 H0 FB OL O D (forD pt g (ds.drop (i + 1)) ρ)), fun σ' H' ⟨F, ρ, r, p⟩ => ⟨ds.length - (i + 1), by omega, F, ρ, r, hlt, rfl, p⟩, fun x H' y => ?_⟩
        obtain ⟨F3, s3, q3⟩ := it.yl i F2 H2 x H' ds[i] r2.fb r2.st.fh (by simp [hlt]) y
        have ef : forD pt g (ds[i] :: ds.drop (i + 1)) ρ2 = (bindP pt ds[i] ρ2).bind fun ρ1 => (g ρ1).bind fun fl => match fl with
          | .nx ρ2 => forD pt g (ds.drop (i + 1)) ρ2
          | .ct ρ2 => forD pt g (ds.drop (i + 1)) ρ2
          | .bk ρ2 => .ok (.nx ρ2)
          | .rt d => .ok (.rt d) := by rw [forD]
        rw [ef] at p2
        cases eb : bindP pt ds[i] ρ2 with
        | error x =>
          have := bindP_err eb
          subst this
          exact p2.stuck (by rw [eb]; rfl)
        | ok ρ3 =>
          rw [eb] at p2
          have p2 : PostS K W ro F0 H0 FB OL O D ((g ρ3).bind fun fl => match fl with
            | .nx ρ2 => forD pt g (ds.drop (i + 1)) ρ2
            | .ct ρ2 => forD pt g (ds.drop (i + 1)) ρ2
            | .bk ρ2 => .ok (.nx ρ2)
            | .rt d => .ok (.rt d)) := p2
          refine gP_rep (r2.step s3) n q3 eb fun σ4 r4 => ⟨F1, F3, ρ3, r4, ?_⟩
          have fb1 : Same FB F1 := (r.step s1).fb
          cases eg : g ρ3 with
          | error x => exact p2.err (by rw [eg]; rfl)
          | ok fl =>
            rw [eg] at p2
            cases fl with
            | nx ρ5 => exact fun σ' F' H' r' => ⟨F', ρ5, r', p2⟩
            | ct ρ5 => exact fun σ' F' H' r' => ⟨F', ρ5, r', p2⟩
            | bk ρ5 => exact fun σ' F' H' r' => p2 σ' F' H' (r'.base fb1)
            | rt d => exact p2
      · have : i = ds.length := by omega
        subst this
        rw [List.drop_length] at p2
        exact .inl ⟨it.st F2 H2 r2.fb r2.st.fh, p2 σ2 F2 H2 (r2.base (r.step s1).fb)⟩
end
noncomputable def stk {α : Type} : M α := .error .stuck
noncomputable def addD : Dat → Dat → M Dat
  | .int i, .int j => .ok (.int (i + j))
  | .str x, .str y => if x.length + y.length ≤ sizeLine then .ok (.str (x ++ y)) else stk
  | .lst xs, .lst ys => if xs.length + ys.length ≤ sizeLine then .ok (.lst (xs ++ ys)) else stk
  | .tup xs, .tup ys => if xs.length + ys.length ≤ sizeLine then .ok (.tup (xs ++ ys)) else stk
  | _, _ => stk
noncomputable def subD : Dat → Dat → M Dat
  | .int i, .int j => .ok (.int (i - j))
  | _, _ => stk
noncomputable def small64 (i : Int) : Bool := decide (-(2 ^ 64) < i) && decide (i < 2 ^ 64)
noncomputable def mulD : Dat → Dat → M Dat
  | .int i, .int j => if (small64 i || small64 j) = true then .ok (.int (i * j)) else stk
  | _, _ => stk
noncomputable def fdivD : Dat → Dat → M Dat
  | .int i, .int j => if (decide (0 < j) && decide (j < 18446744073709551616)) = true then .ok (.int (i / j)) else stk
  | _, _ => stk
noncomputable def modD : Dat → Dat → M Dat
  | .int i, .int j => if 0 < j then .ok (.int (i % j)) else stk
  | _, _ => stk
noncomputable def powD : Dat → Dat → M Dat
  | .int i, .int j => if (decide (0 ≤ j) && decide (j ≤ 1000000) && decide (i.natAbs < 2 ^ 64)) = true then .ok (.int (i ^ j.toNat)) else stk
  | _, _ => stk
noncomputable def negD : Dat → M Dat
  | .int i => .ok (.int (-i))
  | _ => stk
noncomputable def ltD : Dat → Dat → M Dat
  | .int i, .int j => .ok (.bl (decide (i < j)))
  | _, _ => stk
noncomputable def leD : Dat → Dat → M Dat
  | .int i, .int j => .ok (.bl (decide (i ≤ j)))
  | _, _ => stk
noncomputable def gtD : Dat → Dat → M Dat
  | .int i, .int j => .ok (.bl (decide (j < i)))
  | _, _ => stk
noncomputable def b2z (b : Bool) : Int := if b then 1 else 0
mutual
noncomputable def eqD : Dat → Dat → Bool
  | .non, .non => true
  | .bl a, .bl b => a == b
  | .bl a, .int b => b2z a == b
  | .int a, .bl b => a == b2z b
  | .int a, .int b => a == b
  | .str a, .str b => a == b
  | .tup xs, .tup ys => eqDs xs ys
  | .lst xs, .lst ys => eqDs xs ys
  | _, _ => false
noncomputable def eqDs : List Dat → List Dat → Bool
  | [], [] => true
  | d :: ds, e :: es => eqD d e && eqDs ds es
  | _, _ => false
end
mutual
noncomputable def okE : Dat → Nat → Bool
  | .tup ds, n => (match n with
    | 0 => false
    | n + 1 => okEs ds n)
  | .lst ds, n => (match n with
    | 0 => false
    | n + 1 => okEs ds n)
  | .ins _ _, _ => false
  | .non, _ => true
  | .bl _, _ => true
  | .int _, _ => true
  | .str _, _ => true
noncomputable def okEs : List Dat → Nat → Bool
  | [], _ => true
  | d :: ds, n => okE d n && okEs ds n
end
noncomputable def eqM (a b : Dat) : M Dat := if (okE a 40 && okE b 40) = true then .ok (.bl (eqD a b)) else stk
noncomputable def neM (a b : Dat) : M Dat := if (okE a 40 && okE b 40) = true then .ok (.bl (!eqD a b)) else stk
noncomputable def isND : Dat → Dat → M Dat
  | .non, .non => .ok (.bl true)
  | _, .non => .ok (.bl false)
  | _, _ => stk
noncomputable def notND : Dat → Dat → M Dat
  | .non, .non => .ok (.bl false)
  | _, .non => .ok (.bl true)
  | _, _ => stk
noncomputable def getI (ds : List Dat) (i : Int) : M Dat := match atI ds i with
  | some d => .ok d
  | none => stk
noncomputable def ixD : Dat → Dat → M Dat
  | .lst ds, .int i => getI ds i
  | .tup ds, .int i => getI ds i
  | _, _ => stk
noncomputable def lenD : List Dat → M Dat
  | [.lst ds] => .ok (.int ds.length)
  | [.tup ds] => .ok (.int ds.length)
  | _ => stk
noncomputable def boolsD : List Dat → M (List Bool)
  | [] => .ok []
  | d :: ds => (asB d).bind fun b => (boolsD ds).bind fun r => .ok (b :: r)
noncomputable def intsD : List Dat → M (List Int)
  | [] => .ok []
  | d :: ds => (asI d).bind fun b => (intsD ds).bind fun r => .ok (b :: r)
noncomputable def allD : List Dat → M Dat
  | [.lst ds] => (boolsD ds).bind fun bs => .ok (.bl (bs.all id))
  | _ => stk
noncomputable def listD : List Dat → M Dat
  | [.lst ds] => .ok (.lst ds)
  | [.tup ds] => .ok (.lst ds)
  | _ => stk
noncomputable def tupleD : List Dat → M Dat
  | [.lst ds] => .ok (.tup ds)
  | [.tup ds] => .ok (.tup ds)
  | _ => stk
noncomputable def maxZ (i j : Int) : Int := if j > i then j else i
noncomputable def maxL : List Int → M Dat
  | [] => stk
  | i :: is => .ok (.int (is.foldl maxZ i))
noncomputable def maxD : List Dat → M Dat
  | [.int i, .int j] => .ok (.int (maxZ i j))
  | [.lst ds] => (intsD ds).bind maxL
  | _ => stk
noncomputable def isi_intD : Dat → M Dat
  | .int _ => .ok (.bl true)
  | .bl _ => .ok (.bl true)
  | .ins _ _ => stk
  | _ => .ok (.bl false)
noncomputable def isi_boolD : Dat → M Dat
  | .bl _ => .ok (.bl true)
  | .ins _ _ => stk
  | _ => .ok (.bl false)
noncomputable def isi_listD : Dat → M Dat
  | .lst _ => .ok (.bl true)
  | .ins _ _ => stk
  | _ => .ok (.bl false)
noncomputable def isi_tupleD : Dat → M Dat
  | .tup _ => .ok (.bl true)
  | .ins _ _ => stk
  | _ => .ok (.bl false)
noncomputable def enumL : Nat → List Dat → List Dat
  | _, [] => []
  | k, d :: ds => .tup [.int k, d] :: enumL (k + 1) ds
noncomputable def zipL : List Dat → List Dat → List Dat
  | d :: ds, e :: es => .tup [d, e] :: zipL ds es
  | _, _ => []
noncomputable def runB (nN n : Nat) (g : Env' → M Flo) (ds : List Dat) : M Dat := if ds.length = n then (g (ds.map some ++ List.replicate (nN - ds.length) none)).bind fun fl => match fl with
  | .nx _ => .ok .non
  | .rt d => .ok d
  | _ => stk else stk
@[simp] theorem bind_ok {α β : Type} (a : α) (f : α → M β) : Except.bind (Except.ok a : M α) f = f a := id rfl
@[simp] theorem bind_er {α β : Type} (e : Err) (f : α → M β) : Except.bind (Except.error e : M α) f = .error e := id rfl
@[simp] theorem intsD_map : ∀ is : List Int, intsD (is.map Dat.int) = .ok is
  | [] => rfl
  | i :: is => by simp [intsD, asI, intsD_map is]
@[simp] theorem boolsD_map : ∀ is : List Bool, boolsD (is.map Dat.bl) = .ok is
  | [] => rfl
  | i :: is => by simp [boolsD, asB, boolsD_map is]
@[simp] theorem okEs_ints (n : Nat) : ∀ is : List Int, okEs (is.map Dat.int) n = true
  | [] => by simp [okEs]
  | i :: is => by simp [okEs, okE, okEs_ints n is]
theorem getI_nat {ds : List Dat} {k : Nat} (h : k < ds.length) : getI ds (k : Int) = .ok ds[k] := by
  unfold getI atI ixN
  rw [if_pos (by omega), if_pos (by omega)]
  simp [h]
theorem getI_int {is : List Int} {k : Int} (h0 : 0 ≤ k) (h : k < is.length) : getI (is.map Dat.int) k = .ok (.int (is[k.toNat]'(by omega))) := by
  have hj : k.toNat < (is.map Dat.int).length := by simp; omega
  have e : k = (k.toNat : Int) := by omega
  have := getI_nat hj
  rw [← e] at this
  rw [this]
  simp
theorem forD_inv {p : Pat} {g : Env' → M Flo} (P : Nat → Env' → Prop) : ∀ (ds : List Dat) (k : Nat) (ρ : Env'), P k ρ →
    (∀ (i : Nat) (d : Dat) (ρ : Env'), ds[i]? = some d → P (k + i) ρ → ∃ ρ1, bindP p d ρ = .ok ρ1 ∧ ∃ ρ2, (g ρ1 = .ok (.nx ρ2) ∨ g ρ1 = .ok (.ct ρ2)) ∧ P (k + i + 1) ρ2) → ∃ ρ', forD p g ds ρ = .ok (.nx ρ') ∧ P (k + ds.length) ρ'
  | [], k, ρ, h, _ => ⟨ρ, rfl, h⟩
  | d :: ds, k, ρ, h, st => by
    obtain ⟨ρ1, e1, ρ2, e2, h2⟩ := st 0 d ρ rfl h
    obtain ⟨ρ', e3, h3⟩ := forD_inv P ds (k + 1) ρ2 h2 fun i d' ρ he hp => by
      have := st (i + 1) d' ρ (by simpa using he) (by rw [show k + (i + 1) = k + 1 + i by omega]; exact hp)
      rw [show k + (i + 1) + 1 = k + 1 + i + 1 by omega] at this
      exact this
    refine ⟨ρ', ?_, by rw [show k + (d :: ds).length = k + 1 + ds.length by simp; omega]; exact h3⟩
    rw [forD, e1]
    rcases e2 with e2 | e2
    · simp only [bind_ok, e2]; exact e3
    · simp only [bind_ok, e2]; exact e3
theorem compD_map {p : Pat} {fe : Env' → M Dat} {ρ0 : Env'} (f : Dat → Dat) : ∀ (ds : List Dat), (∀ d ∈ ds, ∃ ρ, bindP p d ρ0 = .ok ρ ∧ fe ρ = .ok (f d)) → compD p fYes fe ρ0 ds = .ok (ds.map f)
  | [], _ => rfl
  | d :: ds, h => by
    obtain ⟨ρ, e1, e2⟩ := h d (by simp)
    rw [compD, e1]
    simp only [bind_ok, fYes, e2, compD_map f ds fun x hx => h x (by simp [hx])]
    simp
@[simp] theorem small_def (i : Int) : small64 i = (decide (-(2 ^ 64) < i) && decide (i < 2 ^ 64)) := id rfl
@[simp] theorem small_def2 (i : Int) : small62 i = (decide (-(2 ^ 62) ≤ i) && decide (i < 2 ^ 62)) := id rfl
@[simp] theorem eqDs_nilR (ds : List Dat) : eqDs ds [] = ds.isEmpty := by cases ds <;> rfl
section
variable {ρ : Env'} {fa fb fc : Env' → M Dat} {fr : Env' → M (List Dat)} {ft fu : Env' → M Bool} {g h : Env' → M Flo}
@[simp] theorem e_var0 (d : Dat) (r : Env') : fVar 0 (some d :: r) = .ok d := id rfl
@[simp] theorem e_varS (i : Nat) (o : Option Dat) (r : Env') : fVar (i + 1) (o :: r) = fVar i r := by simp [fVar]
@[simp] theorem e_c (d : Dat) : fC d ρ = .ok d := id rfl
@[simp] theorem e_1 (k : Dat → M Dat) : f1 k fa ρ = (fa ρ).bind k := id rfl
@[simp] theorem e_2 (k : Dat → Dat → M Dat) : f2 k fa fb ρ = (fa ρ).bind fun a => (fb ρ).bind fun b => k a b := id rfl
@[simp] theorem e_nil : fNil ρ = .ok [] := id rfl
@[simp] theorem e_cons : fCons fa fr ρ = (fa ρ).bind fun a => (fr ρ).bind fun r => .ok (a :: r) := id rfl
@[simp] theorem e_L (k : List Dat → M Dat) : fL k fr ρ = (fr ρ).bind k := id rfl
@[simp] theorem e_ite : fIte ft fa fb ρ = (ft ρ).bind fun b => if b = true then fa ρ else fb ρ := id rfl
@[simp] theorem e_and : fAnd ft fu ρ = (ft ρ).bind fun b => if b = true then fu ρ else .ok false := id rfl
@[simp] theorem e_or : fOr ft fu ρ = (ft ρ).bind fun b => if b = true then .ok true else fu ρ := id rfl
@[simp] theorem e_not : fNot ft ρ = (ft ρ).bind fun b => .ok (!b) := id rfl
@[simp] theorem e_B : fB fa ρ = (fa ρ).bind asB := id rfl
@[simp] theorem e_andV : fAndV fa fb ρ = (fa ρ).bind fun a => (asB a).bind fun b => if b = true then fb ρ else .ok (.bl false) := id rfl
@[simp] theorem e_tru : fTru fa ρ = (fa ρ).bind truD := id rfl
@[simp] theorem e_chain (k k' : Dat → Dat → M Dat) : fChain k k' fa fb fc ρ = (fa ρ).bind fun a => (fb ρ).bind fun b => (k a b).bind fun x => (asB x).bind fun z => if z = true then (fc ρ).bind fun c => k' b c else .ok (.bl false) := id rfl
@[simp] theorem e_it : fIt fa ρ = (fa ρ).bind itemsD := id rfl
@[simp] theorem e_rng (k : List Dat → M (List Dat)) : fRng k fr ρ = (fr ρ).bind k := id rfl
@[simp] theorem e_comp (fi : Env' → M (List Dat)) (ix : List (Option Nat)) (p : Pat) : fComp fi ix p ft fa ρ = (fi ρ).bind fun ds => if ds.length ≤ sizeLine then (compD p ft fa (inSE ix ρ) ds).bind fun r => .ok (.lst r) else .error .stuck := id rfl
@[simp] theorem e_asB (b : Bool) : asB (.bl b) = .ok b := id rfl
@[simp] theorem e_asI (b : Int) : asI (.int b) = .ok b := id rfl
@[simp] theorem e_itemsL (ds : List Dat) : itemsD (.lst ds) = .ok ds := id rfl
@[simp] theorem e_itemsT (ds : List Dat) : itemsD (.tup ds) = .ok ds := id rfl
@[simp] theorem e_truB (b : Bool) : truD (.bl b) = .ok b := id rfl
@[simp] theorem e_truL (ds : List Dat) : truD (.lst ds) = .ok (!ds.isEmpty) := id rfl
@[simp] theorem e_addI (i j : Int) : addD (.int i) (.int j) = .ok (.int (i + j)) := id rfl
@[simp] theorem e_subI (i j : Int) : subD (.int i) (.int j) = .ok (.int (i - j)) := id rfl
@[simp] theorem e_negI (i : Int) : negD (.int i) = .ok (.int (-i)) := id rfl
@[simp] theorem e_ltI (i j : Int) : ltD (.int i) (.int j) = .ok (.bl (decide (i < j))) := id rfl
@[simp] theorem e_leI (i j : Int) : leD (.int i) (.int j) = .ok (.bl (decide (i ≤ j))) := id rfl
@[simp] theorem e_gtI (i j : Int) : gtD (.int i) (.int j) = .ok (.bl (decide (j < i))) := id rfl
@[simp] theorem e_ixL (ds : List Dat) (i : Int) : ixD (.lst ds) (.int i) = getI ds i := id rfl
@[simp] theorem e_ixT (ds : List Dat) (i : Int) : ixD (.tup ds) (.int i) = getI ds i := id rfl
@[simp] theorem e_lenL (ds : List Dat) : lenD [.lst ds] = .ok (.int ds.length) := id rfl
@[simp] theorem e_lenT (ds : List Dat) : lenD [.tup ds] = .ok (.int ds.length) := id rfl
@[simp] theorem e_all (ds : List Dat) : allD [.lst ds] = (boolsD ds).bind fun bs => .ok (.bl (bs.all id)) := id rfl
@[simp] theorem e_listL (ds : List Dat) : listD [.lst ds] = .ok (.lst ds) := id rfl
@[simp] theorem e_listT (ds : List Dat) : listD [.tup ds] = .ok (.lst ds) := id rfl
@[simp] theorem e_tupleL (ds : List Dat) : tupleD [.lst ds] = .ok (.tup ds) := id rfl
@[simp] theorem e_max2 (i j : Int) : maxD [.int i, .int j] = .ok (.int (maxZ i j)) := id rfl
@[simp] theorem e_maxL (ds : List Dat) : maxD [.lst ds] = (intsD ds).bind maxL := id rfl
@[simp] theorem e_isiBB (b : Bool) : isi_boolD (.bl b) = .ok (.bl true) := id rfl
@[simp] theorem e_isiBI (i : Int) : isi_boolD (.int i) = .ok (.bl false) := id rfl
@[simp] theorem e_isiII (i : Int) : isi_intD (.int i) = .ok (.bl true) := id rfl
@[simp] theorem e_isiLL (ds : List Dat) : isi_listD (.lst ds) = .ok (.bl true) := id rfl
@[simp] theorem e_isN (d : Dat) : isND d .non = .ok (.bl (match d with | .non => true | _ => false)) := by cases d <;> rfl
@[simp] theorem e_notN (d : Dat) : notND d .non = .ok (.bl (match d with | .non => false | _ => true)) := by cases d <;> rfl
@[simp] theorem e_next : sNext ρ = .ok (.nx ρ) := id rfl
@[simp] theorem e_seq : sSeq g h ρ = (g ρ).bind fun fl => match fl with
  | .nx ρ' => h ρ'
  | fl => .ok fl := id rfl
@[simp] theorem e_if : sIf ft g h ρ = (ft ρ).bind fun b => if b = true then g ρ else h ρ := id rfl
@[simp] theorem e_setB (O : List Nat) (i : Nat) : sSetB O i fa ρ = (fa (erase O ρ)).bind fun d => .ok (.nx (ρ.set i (some d))) := id rfl
@[simp] theorem e_ret : sRet fa ρ = (fa ρ).bind fun d => .ok (.rt d) := id rfl
@[simp] theorem e_for (O : List Nat) (fi : Env' → M (List Dat)) (p : Pat) : sFor O fi p g ρ = (fi (erase O ρ)).bind fun ds => forD p g ds ρ := id rfl
@[simp] theorem e_appA (i : Nat) : sAppA i fa ρ = (lstAt ρ i).bind fun ds => (fa ρ).bind fun d => if (flatD d && decide (ds.length < sizeLine)) = true then put ρ i (ds ++ [d]) else .error .stuck := id rfl
@[simp] theorem e_appB (O : List Nat) (i : Nat) : sAppB O i fa ρ = (lstAt ρ i).bind fun ds => (fa (erase O ρ)).bind fun d => if ds.length < sizeLine then put ρ i (ds ++ [d]) else .error .stuck := id rfl
@[simp] theorem e_setI (i : Nat) : sSetI i fb fa ρ = (fa ρ).bind fun d => (lstAt ρ i).bind fun ds => (fb ρ).bind fun k => (asI k).bind fun k => if flatD d = true then (match ixN ds.length k with
  | some j => put ρ i (ds.set j d)
  | none => .error .stuck) else .error .stuck := id rfl
@[simp] theorem e_put (i : Nat) (ds : List Dat) : put ρ i ds = .ok (.nx (ρ.set i (some (.lst ds)))) := id rfl
@[simp] theorem e_lst0 (ds : List Dat) (r : Env') : lstAt (some (.lst ds) :: r) 0 = .ok ds := id rfl
@[simp] theorem e_lstS (i : Nat) (o : Option Dat) (r : Env') : lstAt (o :: r) (i + 1) = lstAt r i := by simp [lstAt]
@[simp] theorem e_er0 : erase [] ρ = ρ := id rfl
@[simp] theorem e_erS (i : Nat) (O : List Nat) : erase (i :: O) ρ = erase O (ρ.set i none) := id rfl
@[simp] theorem e_bnm (i : Nat) (d : Dat) : bindP (.nm i) d ρ = .ok (ρ.set i (some d)) := id rfl
@[simp] theorem e_btp (is : List Nat) (ds : List Dat) : bindP (.tp is) (.tup ds) ρ = if ds.length = is.length then .ok (setAll is ds ρ) else .error .stuck := id rfl
@[simp] theorem e_sa0 (ds : List Dat) : setAll [] ds ρ = ρ := by cases ds <;> rfl
@[simp] theorem e_saS (i : Nat) (is : List Nat) (d : Dat) (ds : List Dat) : setAll (i :: is) (d :: ds) ρ = setAll is ds (ρ.set i (some d)) := id rfl
@[simp] theorem e_in0 : inSE [] ρ = [] := id rfl
@[simp] theorem e_inN (ix : List (Option Nat)) : inSE (none :: ix) ρ = none :: inSE ix ρ := id rfl
@[simp] theorem e_inS (j : Nat) (ix : List (Option Nat)) : inSE (some j :: ix) ρ = (ρ[j]?).join :: inSE ix ρ := id rfl
@[simp] theorem e_tup (ds : List Dat) : mkTup ds = if ds.length ≤ sizeLine then .ok (.tup ds) else .error .stuck := id rfl
@[simp] theorem e_lst (ds : List Dat) : mkLst ds = if ds.length ≤ sizeLine then .ok (.lst ds) else .error .stuck := id rfl
@[simp] theorem e_line : sizeLine = 16777216 := sizeLine_eq
@[simp] theorem e_run (a b : Nat) (ds : List Dat) : runB a b g ds = if ds.length = b then (g (ds.map some ++ List.replicate (a - ds.length) none)).bind fun fl => match fl with
  | .nx _ => .ok .non
  | .rt d => .ok d
  | _ => stk else stk := id rfl
@[simp] theorem e_rng1 {j : Int} (h : small62 j = true) : rng1 [.int j] = .ok (rangeL 0 j.toNat) := by show (if small62 j = true then _ else _) = _; rw [if_pos h]
@[simp] theorem e_mod {i j : Int} (h : 0 < j) : modD (.int i) (.int j) = .ok (.int (i % j)) := by simp [modD, h]
@[simp] theorem e_fdiv {i j : Int} (h : 0 < j) (h2 : j < 18446744073709551616) : fdivD (.int i) (.int j) = .ok (.int (i / j)) := by simp [fdivD, h, h2]
@[simp] theorem e_mulR {i j : Int} (h : small64 j = true) : mulD (.int i) (.int j) = .ok (.int (i * j)) := by show (if (small64 i || small64 j) = true then _ else _) = _; rw [h, Bool.or_true, if_pos rfl]
@[simp] theorem e_mulL {i j : Int} (h : small64 i = true) : mulD (.int i) (.int j) = .ok (.int (i * j)) := by show (if (small64 i || small64 j) = true then _ else _) = _; rw [h, Bool.true_or, if_pos rfl]
end
end L2
namespace L2
open PySem PySem.Spec PyProof.Rows
section
variable {X : Cx} {K : PySem.W.Frag} {W : Wish} {own ro : Bool} {e a b c : Expr} {es rest : List Expr} {x : Str} {pos p : Pos} {f fa fb fc : Env' → M Dat} {fr : Env' → M (List Dat)} {ft fu : Env' → M Bool}
theorem PE.imp {t t' : TE} (h : PE X e t) (q : ∀ σ H Q, t' σ H Q → t σ H Q) : PE X e t' := fun pins s σ H Q I z => h pins s σ H Q I (q σ H Q z)
theorem PT.imp {t t' : TT} (h : PT X e t) (q : ∀ σ H Q, t' σ H Q → t σ H Q) : PT X e t' := fun pins s σ H Q I z => h pins s σ H Q I (q σ H Q z)
theorem PW.imp {t t' : TT} (h : PW X e t) (q : ∀ σ H Q, t' σ H Q → t σ H Q) : PW X e t' := fun wh pins s σ H Q I z => h wh pins s σ H Q I (q σ H Q z)
theorem PA.imp {t t' : TA} (h : PA X es t) (q : ∀ σ H Q, t' σ H Q → t σ H Q) : PA X es t' := fun ps pins s σ H Q I z => h ps pins s σ H Q I (q σ H Q z)
theorem PI.imp {tg : Expr} {t t' : TI} (h : PI X tg e t) (q : ∀ σ H Q, t' σ H Q → t σ H Q) : PI X tg e t' := fun pins s σ H Q I z => h pins s σ H Q I (q σ H Q z)
theorem PS.imp {st : Stmt} {t t' : TS} (h : PS X st t) (q : ∀ D σ H, t' D σ H → t D σ H) : PS X st t' := fun pins s σ H D I z => h pins s σ H D I (q D σ H z)
theorem PSs.imp {st : List Stmt} {t t' : TS} (h : PSs X st t) (q : ∀ D σ H, t' D σ H → t D σ H) : PSs X st t' := fun pins s σ H D I z => h pins s σ H D I (q D σ H z)
noncomputable abbrev DE (K : PySem.W.Frag) (W : Wish) (own : Bool) (X : Cx) (e : Expr) (f : Env' → M Dat) : Prop := PE X e (tD K W own f)
noncomputable abbrev DT (K : PySem.W.Frag) (W : Wish) (X : Cx) (e : Expr) (f : Env' → M Bool) : Prop := PT X e (tDT K W f)
noncomputable abbrev DW (K : PySem.W.Frag) (W : Wish) (X : Cx) (e : Expr) (f : Env' → M Bool) : Prop := PW X e (tDT K W f)
noncomputable abbrev DA (K : PySem.W.Frag) (W : Wish) (X : Cx) (es : List Expr) (f : Env' → M (List Dat)) : Prop := PA X es (tDA K W f)
noncomputable abbrev DI (K : PySem.W.Frag) (W : Wish) (X : Cx) (tg e : Expr) (f : Env' → M (List Dat)) : Prop := PI X tg e (iD K W f)
noncomputable abbrev DG (K : PySem.W.Frag) (X : Cx) (tg : Expr) (p : Pat) : Prop := PG X tg (gP K p)
noncomputable abbrev DS (K : PySem.W.Frag) (W : Wish) (ro : Bool) (X : Cx) (OL O O' : List Nat) (st : Stmt) (g : Env' → M Flo) : Prop := ∀ F0 H0 : Hp, PS X st (tS K W ro F0 H0 OL O O' g)
noncomputable abbrev DSs (K : PySem.W.Frag) (W : Wish) (ro : Bool) (X : Cx) (OL O O' : List Nat) (st : List Stmt) (g : Env' → M Flo) : Prop := ∀ F0 H0 : Hp, PSs X st (tS K W ro F0 H0 OL O O' g)
noncomputable abbrev Op2 (K : PySem.W.Frag) (W : Wish) (own : Bool) (X : Cx) (o : Value → Value → Sem Value) (g : Dat → Dat → M Dat) : Prop := OpR X o (rD2 K W own g)
noncomputable abbrev CallD (K : PySem.W.Frag) (W : Wish) (own : Bool) (X : Cx) (v : Value) (g : List Dat → M Dat) : Prop := CallR X v (rDL K W own g)
theorem de_v (i : Nat) (hN : X.N[i]? = some x := by rfl) (hv : Vis X.env.scope x := by first | exact Or.inl rfl | exact Or.inr (Or.inl rfl) | exact Or.inr (Or.inr rfl)) (hd : (x == ("__debug__" : Str)) = false := by decide)
    (hcd : (x == ("__classdict__" : Str)) = false := by decide) : DE K W false X (.Name x pos) (fVar i) := (pv i hN hv hd hcd).imp fun _ _ _ => rd_var
theorem de_int {i : Int} {j} : DE K W false X (.Constant (.int i) j pos) (fC (.int i)) := pe_int.imp fun _ _ _ => rd_c fun _ => rfl
theorem de_bl {k : Bool} {j} : DE K W false X (.Constant (.bool k) j pos) (fC (.bl k)) := pe_bl.imp fun _ _ _ => rd_c fun _ => rfl
theorem de_non {j} : DE K W false X (.Constant .none j pos) (fC .non) := pe_non.imp fun _ _ _ => rd_c fun _ => rfl
theorem de_gint {n : Int} (hm : ∃ t, X.mg x = some (.int n t)) (hg : Gl X x := by rfl) (hd : (x == ("__debug__" : Str)) = false := by decide) : DE K W false X (.Name x pos) (fC (.int n)) := (pe_gint hg hm hd).imp fun _ _ _ => rd_c fun _ => rfl
theorem de_frz (h : DE K W true X e f) : DE K W false X e f := PE.imp h fun _ _ _ ⟨F, ρ, r, s, p⟩ => ⟨F, ρ, r, s, p.frz⟩
theorem de_op {op : Operator} {g : Dat → Dat → M Dat} (ho : Op2 K W own X (binaryOp op) g) (ha : DE K W false X a fa) (hb : DE K W false X b fb) : DE K W own X (.BinOp a op b pos) (f2 g fa fb) := (pe_op ho ha hb).imp fun _ _ _ => rd_2
theorem de_un {op : UnaryOp} {g : Dat → M Dat} (ho : UnR X (unaryOp op) (rD1 K W own g)) (ha : DE K W false X a fa) : DE K W own X (.UnaryOp op a pos) (f1 g fa) := (pe_un ho ha).imp fun _ _ _ => rd_1
theorem de_cmp {op : CmpOp} {g : Dat → Dat → M Dat} (ho : Op2 K W false X (compareOp op) g) (ha : DE K W false X a fa) (hb : DE K W false X b fb) (hm : behindInMarks op b = false := by first | exact nomark _ | with_unfolding_all rfl) : DE K W false X (.Compare a [op] [b] pos) (f2 g fa fb) :=
  (pe_cmpR ho ha hb hm).imp fun _ _ _ => rd_2
theorem dt_cmp {op : CmpOp} {g : Dat → Dat → M Dat} (ho : Op2 K W false X (compareOp op) g) (ha : DE K W false X a fa) (hb : DE K W false X b fb) (hm : behindInMarks op b = false := by first | exact nomark _ | with_unfolding_all rfl) : DT K W X (.Compare a [op] [b] pos) (fB (f2 g fa fb)) :=
  (pt_cmpR ho ha hb hm).imp fun σ H Q h => by
    have q := rd_B h
    exact rd_2 (own := false) q
theorem de_chain {op op' : CmpOp} {g g' : Dat → Dat → M Dat} (ho : Op2 K W false X (compareOp op) g) (ho' : Op2 K W false X (compareOp op') g') (ha : DE K W false X a fa) (hb : DE K W false X b fb) (hc : DE K W false X c fc)
    (hm : lastMarks [op, op'] [b, c] = false := by with_unfolding_all rfl) : DE K W false X (.Compare a [op, op'] [b, c] pos) (fChain g g' fa fb fc) := (pe_chain ho ho' ha hb hc hm).imp fun _ _ _ => rd_chain
theorem dt_chain {op op' : CmpOp} {g g' : Dat → Dat → M Dat} (ho : Op2 K W false X (compareOp op) g) (ho' : Op2 K W false X (compareOp op') g') (ha : DE K W false X a fa) (hb : DE K W false X b fb) (hc : DE K W false X c fc)
    (hm : lastMarks [op, op'] [b, c] = false := by with_unfolding_all rfl) : DT K W X (.Compare a [op, op'] [b, c] pos) (fB (fChain g g' fa fb fc)) := (pt_chain ho ho' ha hb hc hm).imp fun σ H Q h => by
    have q := rd_B h
    exact rd_chain q
theorem dt_tru (ha : DE K W false X a fa) (hK : X.K = K := by rfl) (he : ∀ whole, isTrue a X.env whole = (do let v ← whole; standAt a.pos; holding [v] (truthy v)) := by intro _; rfl) : DT K W X a (fTru fa) := by
  subst hK
  exact (pt_truth ha he).imp fun _ _ _ => rd_tru
theorem dt_not (ha : DT K W X a ft) : DT K W X (.UnaryOp .Not a pos) (fNot ft) := (pt_not ha).imp fun _ _ _ => rd_not
theorem dw_and1 (ha : DT K W X a ft) : DW K W X (.BoolOp .And [a] pos) ft := pw_and1 ha
theorem dw_or1 (ha : DT K W X a ft) : DW K W X (.BoolOp .Or [a] pos) ft := pw_or1 ha
theorem dw_and (ha : DT K W X a ft) (hb : DW K W X (.BoolOp .And (b :: rest) pos) fu) : DW K W X (.BoolOp .And (a :: b :: rest) pos) (fAnd ft fu) := (pw_and ha hb).imp fun _ _ _ => rd_and
theorem dw_or (ha : DT K W X a ft) (hb : DW K W X (.BoolOp .Or (b :: rest) pos) fu) : DW K W X (.BoolOp .Or (a :: b :: rest) pos) (fOr ft fu) := (pw_or ha hb).imp fun _ _ _ => rd_or
theorem de_one {op} (h : DE K W false X a f) : DE K W false X (.BoolOp op [a] pos) f := pe_one h
theorem de_and (ha : DE K W false X a fa) (hb : DE K W false X (.BoolOp .And (b :: rest) pos) fb) : DE K W false X (.BoolOp .And (a :: b :: rest) pos) (fAndV fa fb) := (pe_and ha hb).imp fun _ _ _ => rd_andV
theorem de_ite (hc : DT K W X c ft) (ha : DE K W own X a fa) (hb : DE K W own X b fb) : DE K W own X (.IfExp c a b pos) (fIte ft fa fb) := (pe_ifExp hc ha hb).imp fun _ _ _ => rd_ite
theorem da_nil : DA K W X [] fNil := pa_nil.imp fun _ _ _ => rd_nil
theorem da_cons (ha : DE K W false X e fa) (hr : DA K W X es fr) (hs : starEach (e :: es) X.env = (false, eval e X.env) :: starEach es X.env := by rfl) : DA K W X (e :: es) (fCons fa fr) := (pa_cons ha hr hs).imp fun _ _ _ => rd_cons
theorem de_tup {x1} (h : DA K W X es fr) : DE K W own X (.Tuple es x1 pos) (fL mkTup fr) := (pe_tup h).imp fun _ _ _ => rd_tup
theorem de_lst (h : DA K W X es fr) : DE K W true X (.List es pos) (fL mkLst fr) := (pe_lst h).imp fun _ _ _ => rd_lst
theorem de_callB {id : String} {g : List Dat → M Dat} (hc : CallD K W own X (.builtin id) g) (hm : X.mg x = none) (hv : bootBuiltins x = some (.builtin id)) (ha : DA K W X (e :: es) fr) (hg : Gl X x := by rfl) (hn : x ≠ "__name__" := by decide) (hdb : (x == ("__debug__" : Str)) = false := by decide)
    (hst : starEach (e :: es) X.env = (false, eval e X.env) :: starEach es X.env := by rfl) (hpl : (backTo pos (starEach es X.env)).any (·.1) = false := by rfl) : DE K W own X (.Call (.Name x p) (e :: es) [] pos) (fL g fr) :=
  (pe_callB hc hg hm hv ha hn hdb hst hpl).imp fun _ _ _ => rd_L
theorem de_callTy {T : String} {g : List Dat → M Dat} (hc : CallD K W own X (.type T) g) (hm : X.mg x = none) (hv : bootBuiltins x = some (.type T)) (ha : DA K W X (e :: es) fr) (hg : Gl X x := by rfl) (hn : x ≠ "__name__" := by decide) (hdb : (x == ("__debug__" : Str)) = false := by decide)
    (hst : starEach (e :: es) X.env = (false, eval e X.env) :: starEach es X.env := by rfl) (hpl : (backTo pos (starEach es X.env)).any (·.1) = false := by rfl) : DE K W own X (.Call (.Name x p) (e :: es) [] pos) (fL g fr) :=
  (pe_callTy hc hg hm hv ha hn hdb hst hpl).imp fun _ _ _ => rd_L
theorem de_ix {g : Dat → Dat → M Dat} (hr : IxR X (rD2 K W own g)) (ha : DE K W false X a fa) (hb : DE K W false X b fb) (hs : PlainIx b := by exact fun _ _ => rfl) : DE K W own X (.Subscript a b pos) (f2 g fa fb) := (pe_ix hr ha hb hs).imp fun _ _ _ => rd_2
theorem dg_nm {i : Nat} (hN : X.N.Nodup) (hi : X.N[i]? = some x := by rfl) (hx : Loc X.env.scope x := by first | exact Or.inl rfl | exact Or.inr rfl) (hf : X.fn x = true ∨ X.env.scope.names.lookup x = some .local := by first | exact .inl rfl | exact .inr rfl | assumption) : DG K X (.Name x pos) (.nm i) := pg_name hN hi hx hf
theorem di_seq {tg : Expr} (hl : DE K W false X e fa) (hK : X.K = K := by rfl) : DI K W X tg e (fIt fa) := by
  subst hK
  refine PI.imp (t := iSeq X.K (tD X.K W false fa)) ?_ fun _ _ _ => ri_seq
  intro pins s σ H R I h
  refine thn (hl pins s σ H _ I h) fun v s1 ⟨y, H1, I1, r1, q1⟩ => ?_
  obtain ⟨l, e1, q⟩ := q1
  subst e1
  cases r1
  rcases q with ⟨⟨xs, hq⟩, q⟩ | ⟨⟨xs, hq⟩, q⟩
  · obtain ⟨its, rv, p, hz⟩ := I1.list hq
    refine wpAny_pyIter_list p.isList ?_
    refine ⟨s1.heap.objs.size, [s1.heap.objs.size], _, _, H1, rfl, I1.kept (t' := s1.toks) fun b o e => Heap.get?_push_of_some _ e, turn_list l _, ⟨_, Heap.get?_push_size _ rfl, rfl, rfl⟩, fun b hb => ?_, q⟩
    have e : b = s1.heap.objs.size := by simpa using hb
    subst e
    exact I1.fpOk (Nat.le_refl _) (I1.hok.fresh (Nat.le_refl _))
  · obtain ⟨its, rv, p, hz⟩ := I1.tuple hq
    refine wpAny_pyIter_tuple (show s1.heap.IsTuple l its.toArray from p) ?_
    refine ⟨s1.heap.objs.size, [s1.heap.objs.size], _, _, H1, rfl, I1.kept (t' := s1.toks) fun b o e => Heap.get?_push_of_some _ e, turn_tuple l _, ⟨_, Heap.get?_push_size _ rfl, rfl, rfl⟩, fun b hb => ?_, q⟩
    have e : b = s1.heap.objs.size := by simpa using hb
    subst e
    exact I1.fpOk (Nat.le_refl _) (I1.hok.fresh (Nat.le_refl _))
theorem di_rng1 {tg : Expr} (hm : X.mg "range" = none) (ha : DA K W X [a] fr) (hg : Gl X "range" := by rfl) (hs : starEach [a] X.env = [(false, eval a X.env)] := by rfl) : DI K W X tg (.Call (.Name "range" p) [a] [] pos) (fRng rng1 fr) := (pi_range1 hg hm ha hs).imp fun _ _ _ => ri_rng1
variable {OL O O' O2 : List Nat} {st : Stmt} {sts : List Stmt} {g h : Env' → M Flo}
theorem ds_nil : DSs K W ro X OL O O [] sNext := fun _ _ => pss_nil.imp fun _ _ _ => rs_next
theorem ds_cons (h1 : DS K W ro X OL O O' st g) (h2 : DSs K W ro X OL O' O2 sts h) : DSs K W ro X OL O O2 (st :: sts) (sSeq g h) := fun F0 H0 => (pss_cons (h1 F0 H0) (h2 F0 H0)).imp fun _ _ _ => rs_seq
theorem ds_one (h1 : DS K W ro X OL O O' st g) : DSs K W ro X OL O O' [st] g := fun F0 H0 => pss_one (h1 F0 H0)
theorem ds_enter (h1 : DSs K W ro X OL O2 O' sts g) (hs : ∀ i ∈ O2, i ∈ O := by decide) : DSs K W ro X OL O O' sts g := fun F0 H0 => PSs.imp (h1 F0 H0) fun _ _ _ => tS.enter hs
theorem ds_cont : DS K W ro X O O O' (.Continue pos) sCont := fun _ _ => ps_continue.imp fun _ _ _ => rs_cont
theorem ds_if {sa sb : List Stmt} (hc : DT K W X c ft) (ha : DSs K W ro X OL O O' sa g) (hb : DSs K W ro X OL O O' sb h) : DS K W ro X OL O O' (.If c sa sb pos) (sIf ft g h) := fun F0 H0 => (ps_if hc (ha F0 H0) (hb F0 H0)).imp fun _ _ _ => rs_if
theorem ds_setB {i : Nat} {pos' : Pos} (hN : X.N.Nodup) (he : DE K W own X e f) (hi : X.N[i]? = some x := by rfl) (hx : Loc X.env.scope x := by first | exact Or.inl rfl | exact Or.inr rfl) (hs : swapsWith e (some (.Name x pos')) pos.line X.env = pure false := by rfl) (hf : X.fn x = true ∨ X.env.scope.names.lookup x = some .local := by first | exact .inl rfl | exact .inr rfl | assumption) :
    DS K W ro X OL O (aft own i O) (.Assign [.Name x pos'] e pos) (sSetB O i f) := fun F0 H0 => (ps_set hN hi hx he hs hf).imp fun _ _ _ => rs_setB
theorem ds_ret (he : DE K W ro X e f) : DS K W ro X OL O O' (.Return (some e) pos) (sRet f) := fun F0 H0 => (ps_ret he).imp fun _ _ _ => rs_ret
theorem ds_for {tg iter : Expr} {body : List Stmt} {fs : Env' → M (List Dat)} {pt : Pat} (hi : DI K W X tg iter fs) (hg : DG K X tg pt) (hb : DSs K W ro X O O O body g) (n : ∀ i ∈ pt.names, i ∉ O := by decide) (hp : PassesOwn (model X.prog X.w) X.A X.env X.xe := by exact PassesOwn.never) (hc : X.calm = true := by rfl)
    (hs : ∀ x, foldedSetIterable iter X.env x = pure x := by intro _; rfl) : DS K W ro X OL O O (.For tg iter body [] pos) (sFor O fs pt g) := fun F0 H0 => (ps_for hp hc hi hg (hb F0 H0) hs).imp fun _ _ _ => rs_for n
theorem ds_appB {i : Nat} {apos : Pos} {q : Pos} (he : DE K W false X e f) (ho : i ∈ O := by decide) (hN : X.N[i]? = some x := by rfl) (hv : Vis X.env.scope x := by first | exact Or.inl rfl | exact Or.inr (Or.inl rfl) | exact Or.inr (Or.inr rfl)) (hd : (x == ("__debug__" : Str)) = false := by decide) (hcd : (x == ("__classdict__" : Str)) = false := by decide) (hK : X.K = K := by rfl)
    (hst : starEach [e] X.env = [(false, eval e X.env)] := by rfl) (hbase : attributeBase (.Name x p) "append" X.env (eval (.Name x p) X.env) = eval (.Name x p) X.env := by rfl) (hfew : ((backTo q (starEach [e] X.env)).all (fun x => !x.1) && (backToKw q (keywordEach [] X.env)).all (fun x => x.1.isSome) && decide ([e].length + ([] : List Keyword).length + (if ([] : List Keyword).isEmpty then 0 else 1) < 30)) = true := by rfl) (hplain : (backTo q (starEach [] X.env)).any (·.1) = false := by rfl) (hline : (apos.endLine == q.line) = true := by rfl) (hsw : swapsWith (.Call (.Attribute (.Name x p) "append" apos) [e] [] q) none pos.line X.env = pure false := by rfl) :
    DS K W ro X OL O O (.Expr (.Call (.Attribute (.Name x p) "append" apos) [e] [] q) pos) (sAppB O i f) := fun F0 H0 => by
  subst hK
  exact PS.imp (ps_expr (pe_bm PySem.F.plainAttrs_list PySem.F.slot_list_append PySem.F.type_list_append mt_append (pv i hN hv hd hcd) (pa_cons he pa_nil hst) hbase hfew hline hst hplain) hsw) fun _ _ _ => rs_appB ho
theorem ds_appA {i : Nat} {apos : Pos} {q : Pos} (he : DE K W false X e f) (ho : i ∈ O := by decide) (hN : X.N[i]? = some x := by rfl) (hv : Vis X.env.scope x := by first | exact Or.inl rfl | exact Or.inr (Or.inl rfl) | exact Or.inr (Or.inr rfl)) (hd : (x == ("__debug__" : Str)) = false := by decide) (hcd : (x == ("__classdict__" : Str)) = false := by decide) (hK : X.K = K := by rfl)
    (hst : starEach [e] X.env = [(false, eval e X.env)] := by rfl) (hbase : attributeBase (.Name x p) "append" X.env (eval (.Name x p) X.env) = eval (.Name x p) X.env := by rfl) (hfew : ((backTo q (starEach [e] X.env)).all (fun x => !x.1) && (backToKw q (keywordEach [] X.env)).all (fun x => x.1.isSome) && decide ([e].length + ([] : List Keyword).length + (if ([] : List Keyword).isEmpty then 0 else 1) < 30)) = true := by rfl) (hplain : (backTo q (starEach [] X.env)).any (·.1) = false := by rfl) (hline : (apos.endLine == q.line) = true := by rfl) (hsw : swapsWith (.Call (.Attribute (.Name x p) "append" apos) [e] [] q) none pos.line X.env = pure false := by rfl) :
    DS K W ro X OL O O (.Expr (.Call (.Attribute (.Name x p) "append" apos) [e] [] q) pos) (sAppA i f) := fun F0 H0 => by
  subst hK
  exact PS.imp (ps_expr (pe_bm PySem.F.plainAttrs_list PySem.F.slot_list_append PySem.F.type_list_append mt_append (pv i hN hv hd hcd) (pa_cons he pa_nil hst) hbase hfew hline hst hplain) hsw) fun _ _ _ => rs_appA ho
end
end L2
namespace L2
open PySem PySem.Spec PyProof.Rows
section
variable {X : Cx} {K : PySem.W.Frag} {W : Wish} {own : Bool}
theorem OpR.imp {f : Value → Value → Sem Value} {r r' : R2} (h : OpR X f r) (q : ∀ x y H Q, r' x y H Q → r x y H Q) : OpR X f r' := fun pins s σ H x y v u Q I rx ry z => h pins s σ H x y v u Q I rx ry (q x y H Q z)
theorem UnR.imp {f : Value → Sem Value} {r r' : V → Hp → VK → Prop} (h : UnR X f r) (q : ∀ x H Q, r' x H Q → r x H Q) : UnR X f r' := fun pins s σ H x v Q I rx z => h pins s σ H x v Q I rx (q x H Q z)
theorem CallR.imp {f : Value} {r r' : List V → Hp → VK → Prop} (h : CallR X f r) (q : ∀ x H Q, r' x H Q → r x H Q) : CallR X f r' := fun pins s σ H x v Q I rx z => h pins s σ H x v Q I rx (q x H Q z)
theorem IxR.imp {r r' : R2} (h : IxR X r) (q : ∀ x y H Q, r' x y H Q → r x y H Q) : IxR X r' := fun va sl pins s σ H x y v u Q I rx ry z e => h va sl pins s σ H x y v u Q I rx ry (q x y H Q z) e
theorem Post.stuck {F H : Hp} {Q : VK} {P : Prop} (p : Post K W own F H (stk) Q) : P := (W.ns p).elim
theorem Post.int {F H : Hp} {Q : VK} {i : Int} (p : Post K W own F H (.ok (.int i)) Q) (s : Same F H) : Q (.int i) H := p _ F H (Step.refl s) (by cases own <;> rfl)
theorem Post.bl {F H : Hp} {Q : VK} {b : Bool} (p : Post K W own F H (.ok (.bl b)) Q) (s : Same F H) : Q (.bl b) H := p _ F H (Step.refl s) (by cases own <;> rfl)
theorem Post.str {F H : Hp} {Q : VK} {x : Str} (p : Post K W own F H (.ok (.str x)) Q) (s : Same F H) : Q (.str x) H := p _ F H (Step.refl s) (by cases own <;> rfl)
theorem Post.tup {F H : Hp} {Q : VK} {ds : List Dat} {xs : List V} {a : Addr} (p : Post K W own F H (.ok (.tup ds)) Q) (s : Same F H) (q : Deeps K F ds xs) (ha : H a = none) : Q (.ref a) (upd H a (.tup xs)) :=
  p _ _ _ (Step.lay s ha) (by
    have : Deep K (upd F a (.tup xs)) (.tup ds) (.ref a) := ⟨a, xs, rfl, SqT.of upd_same, q.mono (Same.upd (s.free ha))⟩
    cases own <;> exact this)
theorem Post.same {F H : Hp} {Q : VK} {ds : List Dat} {v : V} (p : Post K W own F H (.ok (.tup ds)) Q) (s : Same F H) (q : Deep K F (.tup ds) v) : Q v H := p _ F H (Step.refl s) (by cases own <;> exact q)
theorem Post.lst {F H : Hp} {Q : VK} {ds : List Dat} {xs : List V} {a : Addr} (p : Post K W true F H (.ok (.lst ds)) Q) (s : Same F H) (q : Deeps K F ds xs) (ha : H a = none) : Q (.ref a) (upd H a (.lst xs)) :=
  p _ F _ (Step.grow s ha) ⟨a, xs, rfl, upd_same, s.free ha, ha, q⟩
theorem two_ints {g : Dat → Dat → M Dat} (hg : ∀ a b, (∃ i j, a = .int i ∧ b = .int j) ∨ g a b = stk) {x y : V} {H : Hp} {Q : VK} (h : rD2 K W own g x y H Q) : ∃ F i j, Same F H ∧ x = .int i ∧ y = .int j ∧ Post K W own F H (g (.int i) (.int j)) Q := by
  obtain ⟨F, a, b, s, qa, qb, p⟩ := h
  rcases hg a b with ⟨i, j, rfl, rfl⟩ | e
  · exact ⟨F, i, j, s, qa, qb, p⟩
  · rw [e] at p; exact p.stuck
theorem o_sub : Op2 K W own X (binaryOp .Sub) subD := op_sub.imp fun x y H Q h => by
  obtain ⟨F, i, j, s, e1, e2, p⟩ := two_ints (fun a b => by cases a <;> cases b <;> first | exact .inr rfl | exact .inl ⟨_, _, rfl, rfl⟩) h
  exact ⟨i, j, e1, e2, p.int s⟩
theorem o_mul : Op2 K W own X (binaryOp .Mult) mulD := op_mul.imp fun x y H Q h => by
  obtain ⟨F, i, j, s, e1, e2, p⟩ := two_ints (fun a b => by cases a <;> cases b <;> first | exact .inr rfl | exact .inl ⟨_, _, rfl, rfl⟩) h
  have p' : Post K W own F H (if (small64 i || small64 j) = true then .ok (.int (i * j)) else stk) Q := p
  by_cases hc : (small64 i || small64 j) = true
  · rw [if_pos hc] at p'
    refine ⟨i, j, e1, e2, ?_, p'.int s⟩
    unfold small64 at hc
    simp only [Bool.or_eq_true, Bool.and_eq_true, decide_eq_true_eq] at hc
    exact hc
  · rw [if_neg hc] at p'; exact p'.stuck
theorem log_small {j : Int} (h0 : 0 < j) (h1 : j < 18446744073709551616) : j.natAbs.log2 < 9000 := by
  have a : j.natAbs < 2 ^ 64 := by omega
  have b := (Nat.log2_lt (n := j.natAbs) (k := 64) (by omega)).mpr a
  omega
theorem op_fdiv64 : OpR X (binaryOp .FloorDiv) (rI (fun _ j => 0 < j ∧ j < 18446744073709551616) fun i j => .int (i / j)) := opI fun i j _ _ _ _ _ hc q => by
  obtain ⟨c1, c2⟩ := hc
  exact floordiv_int (by omega) (by rw [Int.fdiv_eq_ediv_of_nonneg i (by omega)]; exact q) (.inl (PyProof.noPylong_of_log2 (log_small c1 c2)))
theorem o_fdiv : Op2 K W own X (binaryOp .FloorDiv) fdivD := op_fdiv64.imp fun x y H Q h => by
  obtain ⟨F, i, j, s, e1, e2, p⟩ := two_ints (fun a b => by cases a <;> cases b <;> first | exact .inr rfl | exact .inl ⟨_, _, rfl, rfl⟩) h
  have p' : Post K W own F H (if (decide (0 < j) && decide (j < 18446744073709551616)) = true then .ok (.int (i / j)) else stk) Q := p
  by_cases hc : (decide (0 < j) && decide (j < 18446744073709551616)) = true
  · rw [if_pos hc] at p'
    simp only [Bool.and_eq_true, decide_eq_true_eq] at hc
    exact ⟨i, j, e1, e2, hc, p'.int s⟩
  · rw [if_neg hc] at p'; exact p'.stuck
theorem o_mod : Op2 K W own X (binaryOp .Mod) modD := op_mod.imp fun x y H Q h => by
  obtain ⟨F, i, j, s, e1, e2, p⟩ := two_ints (fun a b => by cases a <;> cases b <;> first | exact .inr rfl | exact .inl ⟨_, _, rfl, rfl⟩) h
  have p' : Post K W own F H (if 0 < j then .ok (.int (i % j)) else stk) Q := p
  by_cases hc : 0 < j
  · rw [if_pos hc] at p'
    exact ⟨i, j, e1, e2, hc, p'.int s⟩
  · rw [if_neg hc] at p'; exact p'.stuck
theorem o_pow : Op2 K W own X (binaryOp .Pow) powD := op_pow.imp fun x y H Q h => by
  obtain ⟨F, i, j, s, e1, e2, p⟩ := two_ints (fun a b => by cases a <;> cases b <;> first | exact .inr rfl | exact .inl ⟨_, _, rfl, rfl⟩) h
  have p' : Post K W own F H (if (decide (0 ≤ j) && decide (j ≤ 1000000) && decide (i.natAbs < 2 ^ 64)) = true then .ok (.int (i ^ j.toNat)) else stk) Q := p
  by_cases hc : (decide (0 ≤ j) && decide (j ≤ 1000000) && decide (i.natAbs < 2 ^ 64)) = true
  · rw [if_pos hc] at p'
    simp only [Bool.and_eq_true, decide_eq_true_eq] at hc
    exact ⟨i, j, e1, e2, ⟨hc.1.1, hc.1.2, hc.2⟩, p'.int s⟩
  · rw [if_neg hc] at p'; exact p'.stuck
theorem o_neg : UnR X (unaryOp .USub) (rD1 K W own negD) := un_neg.imp fun x H Q h => by
  obtain ⟨F, a, s, qa, p⟩ := h
  cases a with
  | int i => exact ⟨i, qa, Post.int (own := own) p s⟩
  | _ => exact Post.stuck p
theorem o_lt : Op2 K W own X (compareOp .Lt) ltD := op_lt.imp fun x y H Q h => by
  obtain ⟨F, i, j, s, e1, e2, p⟩ := two_ints (fun a b => by cases a <;> cases b <;> first | exact .inr rfl | exact .inl ⟨_, _, rfl, rfl⟩) h
  exact ⟨i, j, e1, e2, p.bl s⟩
theorem o_le : Op2 K W own X (compareOp .LtE) leD := op_le.imp fun x y H Q h => by
  obtain ⟨F, i, j, s, e1, e2, p⟩ := two_ints (fun a b => by cases a <;> cases b <;> first | exact .inr rfl | exact .inl ⟨_, _, rfl, rfl⟩) h
  exact ⟨i, j, e1, e2, p.bl s⟩
theorem o_gt : Op2 K W own X (compareOp .Gt) gtD := op_gt.imp fun x y H Q h => by
  obtain ⟨F, i, j, s, e1, e2, p⟩ := two_ints (fun a b => by cases a <;> cases b <;> first | exact .inr rfl | exact .inl ⟨_, _, rfl, rfl⟩) h
  exact ⟨i, j, e1, e2, p.bl s⟩
theorem op_catL : OpR X (binaryOp .Add) (fun x y H Q => ∃ l b xs zs, x = .ref l ∧ y = .ref b ∧ SqL X.K H l xs ∧ SqL X.K H b zs ∧ xs.length + zs.length ≤ sizeLine ∧ ∀ p, H p = none → Q (.ref p) (upd H p (.lst (xs ++ zs)))) := by
  intro pins s σ H x y v u Q I rx ry h
  obtain ⟨l, b, xs, zs, rfl, rfl, hH, hB, hz, q⟩ := h
  cases rx
  cases ry
  obtain ⟨its, r, p1, hl⟩ := I.list hH
  obtain ⟨its2, r2, p2, hl2⟩ := I.list hB
  have z1 := r.length
  have z2 := r2.length
  obtain ⟨⟨cls, dd, data, sl⟩, ho, hc, n, hd⟩ := id p1.isList
  obtain ⟨⟨cls2, dd2, data2, sl2⟩, ho2, hc2, n2, hd2⟩ := id p2.isList
  simp only at hc hd hc2 hd2
  subst hc hd hc2 hd2
  refine concat_meets ⟨_, ho, rfl⟩ ⟨_, ho2, rfl⟩ noFill_list_add seq_list_add PySem.F.slot_list_add PySem.F.entry_list_add (PySem.F.args_list_add_2 _ _) (list_addW l b its.toArray its2.toArray n n2 dd dd2 sl sl2 (by simp only [List.size_toArray]; omega)) ⟨ho, ho2, ?_⟩
  have ea : its.toArray ++ its2.toArray = (its ++ its2).toArray := by simp
  rw [ea]
  exact ⟨.ref _, _, I.lnew (t' := s.toks) (r.append r2) (by rw [List.length_append]; omega), rfl, q _ I.fresh⟩
theorem op_cat3 : OpR X (binaryOp .Add) (fun x y H Q => ∃ a b xs ys, x = .ref a ∧ y = .ref b ∧ SqT X.K H a xs ∧ SqT X.K H b ys ∧ xs.length + ys.length ≤ sizeLine ∧ (xs = [] → Q (.ref b) H) ∧ (ys = [] → Q (.ref a) H) ∧ ∀ p, H p = none → Q (.ref p) (upd H p (.tup (xs ++ ys)))) := by
  intro pins s σ H x y v u Q I rx ry h
  obtain ⟨a, b, xs, ys, rfl, rfl, ha, hb, hz, q1, q2, q3⟩ := h
  by_cases hx : xs = []
  · subst hx
    cases rx
    cases ry
    obtain ⟨its, r1, p1, _⟩ := I.tuple ha
    obtain ⟨its2, r2, p2, _⟩ := I.tuple hb
    cases r1
    obtain ⟨⟨cls, dd, data, sl⟩, ho, hc, n, hd⟩ := id p1
    obtain ⟨⟨cls2, dd2, data2, sl2⟩, ho2, hc2, n2, hd2⟩ := id p2
    simp only at hc hd hc2 hd2
    subst hc hd hc2 hd2
    exact concat_meets ⟨_, ho, rfl⟩ ⟨_, ho2, rfl⟩ noFill_tuple_add seq_tuple_add PySem.F.slot_tuple_add PySem.F.entry_tuple_add (PySem.F.args_tuple_add_2 _ _)
      (tuple_addW0 a b #[] its2.toArray n n2 dd dd2 sl sl2 rfl) ⟨ho, ho2, ⟨.ref b, H, I, rfl, q1 rfl⟩⟩
  · exact op_catT pins s σ H _ _ v u Q I rx ry ⟨a, b, xs, ys, rfl, rfl, ha, hb, hx, hz, fun e => q2 e, fun _ p hp => q3 p hp⟩
theorem o_add (hK : X.K = K := by rfl) : Op2 K W true X (binaryOp .Add) addD := by
  subst hK
  refine (op_add.or (op_add_str.or (op_catL.or op_cat3))).imp fun x y H Q h => ?_
  obtain ⟨F, a, b, s, qa, qb, p⟩ := h
  cases a with
  | int i =>
    cases b with
    | int j => exact .inl ⟨i, j, qa, qb, p.int s⟩
    | _ => exact Post.stuck p
  | str z =>
    cases b with
    | str w =>
      have p' : Post X.K W true F H (if z.length + w.length ≤ sizeLine then .ok (.str (z ++ w)) else stk) Q := p
      by_cases hc : z.length + w.length ≤ sizeLine
      · rw [if_pos hc] at p'
        exact .inr (.inl ⟨z, w, qa, qb, hc, p'.str s⟩)
      · rw [if_neg hc] at p'; exact p'.stuck
    | _ => exact Post.stuck p
  | lst ds =>
    cases b with
    | lst es =>
      obtain ⟨a, xs, e1, t1, r1⟩ := qa
      obtain ⟨b, ys, e2, t2, r2⟩ := qb
      have p' : Post X.K W true F H (if ds.length + es.length ≤ sizeLine then .ok (.lst (ds ++ es)) else stk) Q := p
      by_cases hc : ds.length + es.length ≤ sizeLine
      · rw [if_pos hc] at p'
        exact .inr (.inr (.inl ⟨a, b, xs, ys, e1, e2, s.lst t1, s.lst t2, by rw [r1.length, r2.length]; exact hc, fun l hl => p'.lst s (r1.append r2) hl⟩))
      · rw [if_neg hc] at p'; exact p'.stuck
    | _ => exact Post.stuck p
  | tup ds =>
    cases b with
    | tup es =>
      obtain ⟨a, xs, e1, t1, r1⟩ := qa
      obtain ⟨b, ys, e2, t2, r2⟩ := qb
      have p' : Post X.K W true F H (if ds.length + es.length ≤ sizeLine then .ok (.tup (ds ++ es)) else stk) Q := p
      by_cases hc : ds.length + es.length ≤ sizeLine
      · rw [if_pos hc] at p'
        refine .inr (.inr (.inr ⟨a, b, xs, ys, e1, e2, s.tup t1, s.tup t2, by rw [r1.length, r2.length]; exact hc, fun e => ?_, fun e => ?_, fun l hl => p'.tup s (r1.append r2) hl⟩))
        · have z : ds = [] := by have := r1.length; rw [e] at this; exact List.length_eq_zero_iff.mp this.symm
          subst z
          exact p'.same s ⟨b, ys, rfl, t2, r2⟩
        · have z : es = [] := by have := r2.length; rw [e] at this; exact List.length_eq_zero_iff.mp this.symm
          subst z
          rw [List.append_nil] at p'
          exact p'.same s ⟨a, xs, rfl, t1, r1⟩
      · rw [if_neg hc] at p'; exact p'.stuck
    | _ => exact Post.stuck p
  | _ => exact Post.stuck p
theorem o_isN : Op2 K W own X (compareOp .Is) isND := op_isN.imp fun x y H Q h => by
  obtain ⟨F, a, b, s, qa, qb, p⟩ := h
  have key : ∀ {k : Bool}, isND a b = .ok (.bl k) → b = .non → (decide (x = V.non) = k) → y = V.non ∧ Q (.bl (decide (x = V.non))) H := fun {k} e1 e2 e3 => by
    subst e2
    rw [e1] at p
    rw [e3]
    exact ⟨qb, p.bl s⟩
  cases b with
  | non =>
    cases a with
    | non => exact key rfl rfl (by rw [show x = .non from qa]; rfl)
    | bl k => exact key rfl rfl (by rw [show x = .bl k from qa]; rfl)
    | int k => exact key rfl rfl (by rw [show x = .int k from qa]; rfl)
    | str k => exact key rfl rfl (by rw [show x = .str k from qa]; rfl)
    | tup ds => obtain ⟨l, xs, e, _⟩ := qa; exact key rfl rfl (by rw [e]; rfl)
    | lst ds => obtain ⟨l, xs, e, _⟩ := qa; exact key rfl rfl (by rw [e]; rfl)
    | ins C fs => obtain ⟨l, dx, xs, e, _⟩ := qa; exact key rfl rfl (by rw [e]; rfl)
  | _ => cases a <;> exact Post.stuck p
theorem o_notN : Op2 K W own X (compareOp .IsNot) notND := op_notN.imp fun x y H Q h => by
  obtain ⟨F, a, b, s, qa, qb, p⟩ := h
  have key : ∀ {k : Bool}, notND a b = .ok (.bl k) → b = .non → ((!decide (x = V.non)) = k) → y = V.non ∧ Q (.bl (!decide (x = V.non))) H := fun {k} e1 e2 e3 => by
    subst e2
    rw [e1] at p
    rw [e3]
    exact ⟨qb, p.bl s⟩
  cases b with
  | non =>
    cases a with
    | non => exact key rfl rfl (by rw [show x = .non from qa]; rfl)
    | bl k => exact key rfl rfl (by rw [show x = .bl k from qa]; rfl)
    | int k => exact key rfl rfl (by rw [show x = .int k from qa]; rfl)
    | str k => exact key rfl rfl (by rw [show x = .str k from qa]; rfl)
    | tup ds => obtain ⟨l, xs, e, _⟩ := qa; exact key rfl rfl (by rw [e]; rfl)
    | lst ds => obtain ⟨l, xs, e, _⟩ := qa; exact key rfl rfl (by rw [e]; rfl)
    | ins C fs => obtain ⟨l, dx, xs, e, _⟩ := qa; exact key rfl rfl (by rw [e]; rfl)
  | _ => cases a <;> exact Post.stuck p
theorem getI_at {F H : Hp} {Q : VK} {ds : List Dat} {xs : List V} {i : Int} (p : Post K W false F H (getI ds i) Q) (s : Same F H) (r : Deeps K F ds xs) : ∃ v, atI xs i = some v ∧ Q v H := by
  unfold getI at p
  cases e : atI ds i with
  | none => rw [e] at p; exact Post.stuck p
  | some d =>
    rw [e] at p
    unfold atI at e
    cases hj : ixN ds.length i with
    | none => rw [hj] at e; cases e
    | some j =>
      rw [hj] at e
      obtain ⟨v, e1, q⟩ := r.get (show ds[j]? = some d from e)
      refine ⟨v, ?_, p v F H (Step.refl s) q⟩
      unfold atI
      rw [r.length, hj]
      exact e1
theorem x_ix (hK : X.K = K := by rfl) : IxR X (rD2 K W false ixD) := by
  subst hK
  refine ix_seq.imp fun x y H Q h => ?_
  obtain ⟨F, a, b, s, qa, qb, p⟩ := h
  cases a with
  | lst ds =>
    cases b with
    | int i =>
      obtain ⟨a, xs, e1, t1, r1⟩ := qa
      obtain ⟨v, e2, q⟩ := getI_at p s r1
      exact .inl ⟨a, xs, i, v, e1, qb, s.lst t1, e2, q⟩
    | _ => exact Post.stuck p
  | tup ds =>
    cases b with
    | int i =>
      obtain ⟨a, xs, e1, t1, r1⟩ := qa
      obtain ⟨v, e2, q⟩ := getI_at p s r1
      exact .inr (.inl ⟨a, xs, i, v, e1, qb, s.tup t1, e2, q⟩)
    | _ => exact Post.stuck p
  | _ => exact Post.stuck p
theorem c_len (hK : X.K = K := by rfl) : CallD K W own X (.builtin "len") lenD := by
  subst hK
  refine call_len_seq.imp fun xs H Q h => ?_
  obtain ⟨F, ds, s, q, p⟩ := h
  match ds, q, p with
  | [.lst es], ⟨v, vs, e, ⟨a, ys, e1, t, r⟩, e2⟩, p =>
    refine ⟨a, ys, by rw [e, e1, show vs = [] from e2], .inl (s.lst t), ?_⟩
    rw [r.length]
    exact Post.int (own := own) p s
  | [.tup es], ⟨v, vs, e, ⟨a, ys, e1, t, r⟩, e2⟩, p =>
    refine ⟨a, ys, by rw [e, e1, show vs = [] from e2], .inr (s.tup t), ?_⟩
    rw [r.length]
    exact Post.int (own := own) p s
  | [], _, p => exact Post.stuck p
  | [.non], _, p => exact Post.stuck p
  | [.bl _], _, p => exact Post.stuck p
  | [.int _], _, p => exact Post.stuck p
  | [.str _], _, p => exact Post.stuck p
  | [.ins _ _], _, p => exact Post.stuck p
  | .non :: _ :: _, _, p => exact Post.stuck p
  | .bl _ :: _ :: _, _, p => exact Post.stuck p
  | .int _ :: _ :: _, _, p => exact Post.stuck p
  | .str _ :: _ :: _, _, p => exact Post.stuck p
  | .ins _ _ :: _ :: _, _, p => exact Post.stuck p
  | .lst _ :: _ :: _, _, p => exact Post.stuck p
  | .tup _ :: _ :: _, _, p => exact Post.stuck p
end
end L2
namespace L2
open PySem PySem.Spec PyProof.Rows
section
variable {X : Cx} {K : PySem.W.Frag} {W : Wish} {own ro : Bool}
theorem one_arg {g : List Dat → M Dat} (hg : ∀ ds, (∃ d, ds = [d]) ∨ g ds = stk) {xs : List V} {H : Hp} {Q : VK} (h : rDL K W own g xs H Q) : ∃ F d x, Same F H ∧ xs = [x] ∧ Deep K F d x ∧ Post K W own F H (g [d]) Q := by
  obtain ⟨F, ds, s, q, p⟩ := h
  rcases hg ds with ⟨d, rfl⟩ | e
  · obtain ⟨v, vs, e, q1, e2⟩ := q
    exact ⟨F, d, v, s, by rw [e, show vs = [] from e2], q1, p⟩
  · rw [e] at p; exact p.stuck
theorem two_arg {g : List Dat → M Dat} (hg : ∀ ds, (∃ d, ds = [d]) ∨ (∃ d e, ds = [d, e]) ∨ g ds = stk) {xs : List V} {H : Hp} {Q : VK} (h : rDL K W own g xs H Q) : (∃ F d x, Same F H ∧ xs = [x] ∧ Deep K F d x ∧ Post K W own F H (g [d]) Q) ∨ ∃ F d e x y, Same F H ∧ xs = [x, y] ∧ Deep K F d x ∧ Deep K F e y ∧ Post K W own F H (g [d, e]) Q := by
  obtain ⟨F, ds, s, q, p⟩ := h
  rcases hg ds with ⟨d, rfl⟩ | ⟨d, e, rfl⟩ | e
  · obtain ⟨v, vs, e, q1, e2⟩ := q
    exact .inl ⟨F, d, v, s, by rw [e, show vs = [] from e2], q1, p⟩
  · obtain ⟨v, vs, e1, q1, w, ws, e2, q2, e3⟩ := q
    exact .inr ⟨F, d, e, v, w, s, by rw [e1, e2, show ws = [] from e3], q1, q2, p⟩
  · rw [e] at p; exact p.stuck
theorem bools_deep {F : Hp} : ∀ {ds : List Dat} {xs : List V} {bs : List Bool}, Deeps K F ds xs → boolsD ds = .ok bs → xs = bs.map V.bl
  | [], _, _, q, e => by cases e; exact q
  | d :: ds, _, bs, ⟨v, vs, e1, q, r⟩, e => by
    cases d with
    | bl b =>
      cases e2 : boolsD ds with
      | error x => simp only [boolsD, asB, bind_ok, e2, bind_er] at e; cases e
      | ok cs =>
        simp only [boolsD, asB, bind_ok, e2] at e
        cases e
        rw [e1, show v = .bl b from q, bools_deep r e2]
        rfl
    | _ => cases e
theorem boolsD_err : ∀ {ds : List Dat} {e : Err}, boolsD ds = .error e → e = .stuck
  | [], _, h => by cases h
  | d :: ds, e, h => by
    cases d with
    | bl b =>
      cases e2 : boolsD ds with
      | error x => simp only [boolsD, asB, bind_ok, e2, bind_er] at h; cases h; exact boolsD_err e2
      | ok cs => simp only [boolsD, asB, bind_ok, e2] at h; cases h
    | _ => cases h; rfl
theorem ints_deep {F : Hp} : ∀ {ds : List Dat} {xs : List V} {bs : List Int}, Deeps K F ds xs → intsD ds = .ok bs → xs = bs.map V.int
  | [], _, _, q, e => by cases e; exact q
  | d :: ds, _, bs, ⟨v, vs, e1, q, r⟩, e => by
    cases d with
    | int b =>
      cases e2 : intsD ds with
      | error x => simp only [intsD, asI, bind_ok, e2, bind_er] at e; cases e
      | ok cs =>
        simp only [intsD, asI, bind_ok, e2] at e
        cases e
        rw [e1, show v = .int b from q, ints_deep r e2]
        rfl
    | _ => cases e
theorem intsD_err : ∀ {ds : List Dat} {e : Err}, intsD ds = .error e → e = .stuck
  | [], _, h => by cases h
  | d :: ds, e, h => by
    cases d with
    | int b =>
      cases e2 : intsD ds with
      | error x => simp only [intsD, asI, bind_ok, e2, bind_er] at h; cases h; exact intsD_err e2
      | ok cs => simp only [intsD, asI, bind_ok, e2] at h; cases h
    | _ => cases h; rfl
theorem c_all (hc : X.calm = true) (hK : X.K = K := by rfl) : CallD K W own X (.builtin "all") allD := by
  subst hK
  refine (call_all hc).imp fun xs H Q h => ?_
  obtain ⟨F, d, x, s, e, q, p⟩ := one_arg (fun ds => by match ds with | [d] => exact .inl ⟨d, rfl⟩ | [] => exact .inr rfl | a :: b :: c => exact .inr (by cases a <;> rfl)) h
  cases d with
  | lst ds =>
    obtain ⟨a, ys, e1, t, r⟩ := q
    have p' : Post X.K W own F H ((boolsD ds).bind fun bs => .ok (.bl (bs.all id))) Q := p
    cases eb : boolsD ds with
    | error z => rw [eb] at p'; have := boolsD_err eb; subst this; exact Post.stuck p'
    | ok bs =>
      rw [eb] at p'
      refine ⟨a, bs, by rw [e, e1], ?_, Post.bl (own := own) p' s⟩
      rw [← bools_deep r eb]
      exact s.lst t
  | _ => exact Post.stuck p
theorem c_list (hK : X.K = K := by rfl) : CallD K W true X (.type "list") listD := by
  subst hK
  refine call_list_of.imp fun xs H Q h => ?_
  obtain ⟨F, d, x, s, e, q, p⟩ := one_arg (fun ds => by match ds with | [d] => exact .inl ⟨d, rfl⟩ | [] => exact .inr rfl | a :: b :: c => exact .inr (by cases a <;> rfl)) h
  cases d with
  | lst ds =>
    obtain ⟨a, ys, e1, t, r⟩ := q
    exact ⟨a, ys, by rw [e, e1], .inl (s.lst t), fun l hl => Post.lst p s r hl⟩
  | tup ds =>
    obtain ⟨a, ys, e1, t, r⟩ := q
    exact ⟨a, ys, by rw [e, e1], .inr (s.tup t), fun l hl => Post.lst p s r hl⟩
  | _ => exact Post.stuck p
theorem c_tuple (hK : X.K = K := by rfl) : CallD K W own X (.type "tuple") tupleD := by
  subst hK
  refine call_tuple_of.imp fun xs H Q h => ?_
  obtain ⟨F, d, x, s, e, q, p⟩ := one_arg (fun ds => by match ds with | [d] => exact .inl ⟨d, rfl⟩ | [] => exact .inr rfl | a :: b :: c => exact .inr (by cases a <;> rfl)) h
  cases d with
  | lst ds =>
    obtain ⟨a, ys, e1, t, r⟩ := q
    exact ⟨a, ys, by rw [e, e1], .inl ⟨s.lst t, fun l hl => Post.tup p s r hl⟩⟩
  | tup ds =>
    obtain ⟨a, ys, e1, t, r⟩ := q
    subst e1
    exact ⟨a, ys, e, .inr ⟨s.tup t, Post.same (own := own) p s ⟨a, ys, rfl, t, r⟩⟩⟩
  | _ => exact Post.stuck p
theorem fold_max : ∀ (is : List Int) (i : Int), (is.foldl maxZ i = i ∨ is.foldl maxZ i ∈ is) ∧ i ≤ is.foldl maxZ i ∧ ∀ a ∈ is, a ≤ is.foldl maxZ i
  | [], i => ⟨.inl rfl, Int.le_refl _, fun _ h => nomatch h⟩
  | j :: is, i => by
    obtain ⟨h1, h2, h3⟩ := fold_max is (maxZ i j)
    have z : (maxZ i j = i ∨ maxZ i j = j) ∧ i ≤ maxZ i j ∧ j ≤ maxZ i j := by unfold maxZ; split <;> (refine ⟨?_, ?_, ?_⟩ <;> first | exact .inl rfl | exact .inr rfl | omega)
    rw [List.foldl_cons]
    refine ⟨?_, Int.le_trans z.2.1 h2, fun a ha => ?_⟩
    · rcases h1 with h1 | h1
      · rw [h1]
        rcases z.1 with z | z
        · exact .inl z
        · exact .inr (by rw [z]; exact List.mem_cons_self)
      · exact .inr (List.mem_cons_of_mem _ h1)
    · rcases List.mem_cons.mp ha with e | e
      · rw [e]; exact Int.le_trans z.2.2 h2
      · exact h3 a e
theorem fold_max_is {is : List Int} {i m : Int} (h1 : m ∈ i :: is) (h2 : ∀ a ∈ i :: is, a ≤ m) : is.foldl maxZ i = m := by
  obtain ⟨g1, g2, g3⟩ := fold_max is i
  have a1 : is.foldl maxZ i ≤ m := by
    rcases g1 with g | g
    · rw [g]; exact h2 i List.mem_cons_self
    · exact h2 _ (List.mem_cons_of_mem _ g)
  have a2 : m ≤ is.foldl maxZ i := by
    rcases List.mem_cons.mp h1 with e | e
    · rw [e]; exact g2
    · exact g3 m e
  omega
theorem call_maxL (hc : X.calm = true) : CallR X (.builtin "max") (fun xs H Q => ∃ a i is, xs = [.ref a] ∧ SqL X.K H a ((i :: is).map V.int) ∧ Q (.int (is.foldl maxZ i)) H) := by
  intro pins s σ H xs us Q I r h
  obtain ⟨a, i, is, rfl, hq, q⟩ := h
  obtain ⟨u, rfl, ru⟩ := r.one
  cases ru
  obtain ⟨its, rv, p, hz⟩ := I.list hq
  have hi := intsAre_of rv
  obtain ⟨xs, e⟩ := hi.allInts.items
  have hns : i :: is = xs.toList.map (·.1) := by rw [← hi.numsOf, ← nums_intItems, ← e]
  have hsz : 0 < xs.size := by
    have h3 := congrArg List.length hns
    simp at h3
    omega
  have hl := p.isList
  rw [e] at hl
  refine max_intList (I.ok.hd hc) hl hsz fun v h' tk hv hk => ?_
  obtain ⟨t, rfl⟩ := intItems_at hv
  obtain ⟨h1, h2⟩ := argBest_gt (numAt xs) (xs.size - 1)
  refine ⟨.int _, H, I.kept hk, ⟨t, rfl⟩, ?_⟩
  have := fold_max_is (is := is) (i := i) (m := numAt xs (argBest (fun i j => decide (numAt xs i > numAt xs j)) (xs.size - 1))) (by
      rw [hns, numAt_eq]; exact getD_mem (by rw [List.length_map, Array.length_toList]; omega)) (fun a ha => by
      rw [hns] at ha
      obtain ⟨j, hj, rfl⟩ := mem_getD ha
      rw [List.length_map, Array.length_toList] at hj
      rw [← numAt_eq]; exact h2 j (by omega))
  rw [← this]
  exact q
theorem c_max (hc : X.calm = true) (hK : X.K = K := by rfl) : CallD K W own X (.builtin "max") maxD := by
  subst hK
  refine ((call_max2 hc).or (call_maxL hc)).imp fun xs H Q h => ?_
  rcases two_arg (fun ds => by match ds with | [d] => exact .inl ⟨d, rfl⟩ | [d, e] => exact .inr (.inl ⟨d, e, rfl⟩) | [] => exact .inr (.inr rfl) | a :: b :: c :: d => exact .inr (.inr (by cases a <;> cases b <;> rfl))) h with ⟨F, d, x, s, e, q, p⟩ | ⟨F, d, d2, x, y, s, e, q, q2, p⟩
  · cases d with
    | lst ds =>
      obtain ⟨a, ys, e1, t, r⟩ := q
      have p' : Post X.K W own F H ((intsD ds).bind maxL) Q := p
      cases eb : intsD ds with
      | error z => rw [eb] at p'; have := intsD_err eb; subst this; exact Post.stuck p'
      | ok is =>
        rw [eb] at p'
        cases is with
        | nil => exact Post.stuck p'
        | cons i is =>
          refine .inr ⟨a, i, is, by rw [e, e1], ?_, Post.int (own := own) p' s⟩
          rw [← ints_deep r eb]
          exact s.lst t
    | _ => exact Post.stuck p
  · cases d with
    | int i =>
      cases d2 with
      | int j => exact .inl ⟨i, j, by rw [e, show x = .int i from q, show y = .int j from q2], Post.int (own := own) p s⟩
      | _ => exact Post.stuck p
    | _ => cases d2 <;> exact Post.stuck p
end
section
variable {X : Cx} {K : PySem.W.Frag} {W : Wish} {own ro : Bool}
theorem SqL.inj {pins : List (Addr × Obj)} {σ : St} {H : Hp} {s : Shared} {a : Addr} {xs ys : List V} (I : Inv X pins σ H s) (h : SqL X.K H a xs) (h' : SqL X.K H a ys) : xs = ys := by
  obtain ⟨i1, r1, p1, _⟩ := I.list h
  obtain ⟨i2, r2, p2, _⟩ := I.list h'
  obtain ⟨o, n, e, _, _, d⟩ := p1
  obtain ⟨o', n', e', _, _, d'⟩ := p2
  rw [e] at e'
  cases e'
  rw [d] at d'
  injection d' with d1 _
  have : i1 = i2 := by simpa using congrArg Array.toList d1
  subst this
  exact r1.inj r2
theorem SqT.inj {pins : List (Addr × Obj)} {σ : St} {H : Hp} {s : Shared} {a : Addr} {xs ys : List V} (I : Inv X pins σ H s) (h : SqT X.K H a xs) (h' : SqT X.K H a ys) : xs = ys := by
  obtain ⟨i1, r1, p1, _⟩ := I.tuple h
  obtain ⟨i2, r2, p2, _⟩ := I.tuple h'
  obtain ⟨o, e, _, n, d⟩ := p1
  obtain ⟨o', e', _, n', d'⟩ := p2
  rw [e] at e'
  cases e'
  rw [d] at d'
  injection d' with d1 _
  have : i1 = i2 := by simpa using congrArg Array.toList d1
  subst this
  exact r1.inj r2
theorem Deeps.all_eq {F : Hp} (e : Nat → Bool) : ∀ {ds es : List Dat}, ds.length = es.length → (∀ (j : Nat) a b, ds[j]? = some a → es[j]? = some b → e j = eqD a b) → (List.range ds.length).all e = eqDs ds es := by
  intro ds
  induction ds generalizing e with
  | nil => intro es h _; cases es with
    | nil => rfl
    | cons _ _ => simp at h
  | cons d ds ih =>
    intro es h q
    cases es with
    | nil => simp at h
    | cons b es =>
      rw [List.length_cons, List.range_succ_eq_map, List.all_cons, List.all_map, eqDs]
      rw [q 0 d b rfl rfl]
      congr 1
      exact ih (e ∘ Nat.succ) (by simpa using h) fun j x y hx hy => q (j + 1) x y (by simpa using hx) (by simpa using hy)
theorem eqDs_len : ∀ {ds es : List Dat}, ds.length ≠ es.length → eqDs ds es = false
  | [], [], h => absurd rfl h
  | [], _ :: _, _ => rfl
  | _ :: _, [], _ => rfl
  | d :: ds, e :: es, h => by
    rw [eqDs, eqDs_len (ds := ds) (es := es) (fun z => h (by simp [z])), Bool.and_false]
theorem eqDs_zip (e : Nat → Bool) : ∀ {ds es : List Dat}, (∀ (j : Nat) a b, ds[j]? = some a → es[j]? = some b → e j = eqD a b) → ((List.range (min ds.length es.length)).all e && ds.length == es.length) = eqDs ds es := by
  intro ds es q
  by_cases hl : ds.length = es.length
  · have e1 : min ds.length es.length = ds.length := by omega
    rw [e1, Deeps.all_eq (F := fun _ => none) e hl q, hl, beq_self_eq_true, Bool.and_true]
  · rw [eqDs_len hl]
    have : (ds.length == es.length) = false := by simpa using hl
    rw [this, Bool.and_false]
mutual
theorem eqD_refl : ∀ {d : Dat} {n : Nat}, okE d n = true → eqD d d = true
  | .non, _, _ => rfl
  | .bl b, _, _ => by simp [eqD]
  | .int i, _, _ => by simp [eqD]
  | .str x, _, _ => by simp [eqD]
  | .tup ds, 0, h => by simp [okE] at h
  | .tup ds, n + 1, h => by simp only [okE] at h; simp only [eqD]; exact eqDs_refl h
  | .lst ds, 0, h => by simp [okE] at h
  | .lst ds, n + 1, h => by simp only [okE] at h; simp only [eqD]; exact eqDs_refl h
  | .ins _ _, _, h => by simp [okE] at h
theorem eqDs_refl : ∀ {ds : List Dat} {n : Nat}, okEs ds n = true → eqDs ds ds = true
  | [], _, _ => rfl
  | d :: ds, n, h => by
    simp only [okEs, Bool.and_eq_true] at h
    simp only [eqDs, eqD_refl h.1, eqDs_refl h.2, Bool.and_self]
end
theorem okEs_get : ∀ {ds : List Dat} {n i : Nat} {d : Dat}, okEs ds n = true → ds[i]? = some d → okE d n = true
  | [], _, _, _, _, h => by simp at h
  | _ :: _, _, 0, _, h, e => by
    simp only [okEs, Bool.and_eq_true] at h
    simp at e
    rw [← e]; exact h.1
  | _ :: _, _, i + 1, _, h, e => by
    simp only [okEs, Bool.and_eq_true] at h
    exact okEs_get h.2 (by simpa using e)
end
noncomputable def eqAtJ (ds es : List Dat) (j : Nat) : Bool := match ds[j]?, es[j]? with
  | some a, some b => eqD a b
  | _, _ => true
section
variable {X : Cx}
mutual
theorem deep_inj {pins : List (Addr × Obj)} {σ : St} {F H : Hp} {s : Shared} (I : Inv X pins σ H s) (hF : Same F H) : ∀ (d e : Dat) {v : V} {n : Nat}, Deep X.K F d v → Deep X.K F e v → okE d n = true → okE e n = true → d = e
  | .non, .non, v, n, q, r, o1, o2 => by
      rfl
  | .non, .bl b, v, n, q, r, o1, o2 => by
      have e1 : v = .non := q
      have e2 : v = .bl b := r
      rw [e1] at e2
      cases e2
  | .non, .int b, v, n, q, r, o1, o2 => by
      have e1 : v = .non := q
      have e2 : v = .int b := r
      rw [e1] at e2
      cases e2
  | .non, .str b, v, n, q, r, o1, o2 => by
      have e1 : v = .non := q
      have e2 : v = .str b := r
      rw [e1] at e2
      cases e2
  | .non, .tup es, v, n, q, r, o1, o2 => by
      have e1 : v = .non := q
      obtain ⟨l, xs, e2, _⟩ := r
      rw [e1] at e2
      cases e2
  | .non, .lst es, v, n, q, r, o1, o2 => by
      have e1 : v = .non := q
      obtain ⟨l, xs, e2, _⟩ := r
      rw [e1] at e2
      cases e2
  | .bl a, .non, v, n, q, r, o1, o2 => by
      have e1 : v = .bl a := q
      have e2 : v = .non := r
      rw [e1] at e2
      cases e2
  | .bl a, .bl b, v, n, q, r, o1, o2 => by
      have e1 : v = .bl a := q
      have e2 : v = .bl b := r
      rw [e1] at e2
      cases e2
      rfl
  | .bl a, .int b, v, n, q, r, o1, o2 => by
      have e1 : v = .bl a := q
      have e2 : v = .int b := r
      rw [e1] at e2
      cases e2
  | .bl a, .str b, v, n, q, r, o1, o2 => by
      have e1 : v = .bl a := q
      have e2 : v = .str b := r
      rw [e1] at e2
      cases e2
  | .bl a, .tup es, v, n, q, r, o1, o2 => by
      have e1 : v = .bl a := q
      obtain ⟨l, xs, e2, _⟩ := r
      rw [e1] at e2
      cases e2
  | .bl a, .lst es, v, n, q, r, o1, o2 => by
      have e1 : v = .bl a := q
      obtain ⟨l, xs, e2, _⟩ := r
      rw [e1] at e2
      cases e2
  | .int a, .non, v, n, q, r, o1, o2 => by
      have e1 : v = .int a := q
      have e2 : v = .non := r
      rw [e1] at e2
      cases e2
  | .int a, .bl b, v, n, q, r, o1, o2 => by
      have e1 : v = .int a := q
      have e2 : v = .bl b := r
      rw [e1] at e2
      cases e2
  | .int a, .int b, v, n, q, r, o1, o2 => by
      have e1 : v = .int a := q
      have e2 : v = .int b := r
      rw [e1] at e2
      cases e2
      rfl
  | .int a, .str b, v, n, q, r, o1, o2 => by
      have e1 : v = .int a := q
      have e2 : v = .str b := r
      rw [e1] at e2
      cases e2
  | .int a, .tup es, v, n, q, r, o1, o2 => by
      have e1 : v = .int a := q
      obtain ⟨l, xs, e2, _⟩ := r
      rw [e1] at e2
      cases e2
  | .int a, .lst es, v, n, q, r, o1, o2 => by
      have e1 : v = .int a := q
      obtain ⟨l, xs, e2, _⟩ := r
      rw [e1] at e2
      cases e2
  | .str a, .non, v, n, q, r, o1, o2 => by
      have e1 : v = .str a := q
      have e2 : v = .non := r
      rw [e1] at e2
      cases e2
  | .str a, .bl b, v, n, q, r, o1, o2 => by
      have e1 : v = .str a := q
      have e2 : v = .bl b := r
      rw [e1] at e2
      cases e2
  | .str a, .int b, v, n, q, r, o1, o2 => by
      have e1 : v = .str a := q
      have e2 : v = .int b := r
      rw [e1] at e2
      cases e2
  | .str a, .str b, v, n, q, r, o1, o2 => by
      have e1 : v = .str a := q
      have e2 : v = .str b := r
      rw [e1] at e2
      cases e2
      rfl
  | .str a, .tup es, v, n, q, r, o1, o2 => by
      have e1 : v = .str a := q
      obtain ⟨l, xs, e2, _⟩ := r
      rw [e1] at e2
      cases e2
  | .str a, .lst es, v, n, q, r, o1, o2 => by
      have e1 : v = .str a := q
      obtain ⟨l, xs, e2, _⟩ := r
      rw [e1] at e2
      cases e2
  | .tup ds, .non, v, n, q, r, o1, o2 => by
      have e1 : v = .non := r
      obtain ⟨l, xs, e2, _⟩ := q
      rw [e1] at e2
      cases e2
  | .tup ds, .bl b, v, n, q, r, o1, o2 => by
      have e1 : v = .bl b := r
      obtain ⟨l, xs, e2, _⟩ := q
      rw [e1] at e2
      cases e2
  | .tup ds, .int b, v, n, q, r, o1, o2 => by
      have e1 : v = .int b := r
      obtain ⟨l, xs, e2, _⟩ := q
      rw [e1] at e2
      cases e2
  | .tup ds, .str b, v, n, q, r, o1, o2 => by
      have e1 : v = .str b := r
      obtain ⟨l, xs, e2, _⟩ := q
      rw [e1] at e2
      cases e2
  | .tup ds, .tup es, v, n, q, r, o1, o2 => by
      obtain ⟨l, xs, e1, h1, r1⟩ := q
      obtain ⟨l2, ys, e2, h2, r2⟩ := r
      rw [e1] at e2
      cases e2
      have e3 := SqT.inj I (hF.tup h1) (hF.tup h2)
      subst e3
      cases n with
      | zero => exact absurd o1 (by simp [okE])
      | succ n => rw [deeps_inj I hF ds es r1 r2 (by simpa only [okE] using o1) (by simpa only [okE] using o2)]
  | .tup ds, .lst es, v, n, q, r, o1, o2 => by
      obtain ⟨l, xs, e1, h1, r1⟩ := q
      obtain ⟨l2, ys, e2, h2, r2⟩ := r
      rw [e1] at e2
      cases e2
      obtain ⟨i1, _, p1, _⟩ := I.list (hF.lst h2)
      obtain ⟨i2, _, p2, _⟩ := I.tuple (hF.tup h1)
      exact absurd rfl (SeqAt.ne_of_list_tuple p1.isList (show s.heap.IsTuple l i2.toArray from p2))
  | .lst ds, .non, v, n, q, r, o1, o2 => by
      have e1 : v = .non := r
      obtain ⟨l, xs, e2, _⟩ := q
      rw [e1] at e2
      cases e2
  | .lst ds, .bl b, v, n, q, r, o1, o2 => by
      have e1 : v = .bl b := r
      obtain ⟨l, xs, e2, _⟩ := q
      rw [e1] at e2
      cases e2
  | .lst ds, .int b, v, n, q, r, o1, o2 => by
      have e1 : v = .int b := r
      obtain ⟨l, xs, e2, _⟩ := q
      rw [e1] at e2
      cases e2
  | .lst ds, .str b, v, n, q, r, o1, o2 => by
      have e1 : v = .str b := r
      obtain ⟨l, xs, e2, _⟩ := q
      rw [e1] at e2
      cases e2
  | .lst ds, .tup es, v, n, q, r, o1, o2 => by
      obtain ⟨l, xs, e1, h1, r1⟩ := q
      obtain ⟨l2, ys, e2, h2, r2⟩ := r
      rw [e1] at e2
      cases e2
      obtain ⟨i1, _, p1, _⟩ := I.list (hF.lst h1)
      obtain ⟨i2, _, p2, _⟩ := I.tuple (hF.tup h2)
      exact absurd rfl (SeqAt.ne_of_list_tuple p1.isList (show s.heap.IsTuple l i2.toArray from p2))
  | .lst ds, .lst es, v, n, q, r, o1, o2 => by
      obtain ⟨l, xs, e1, h1, r1⟩ := q
      obtain ⟨l2, ys, e2, h2, r2⟩ := r
      rw [e1] at e2
      cases e2
      have e3 := SqL.inj I (hF.lst h1) (hF.lst h2)
      subst e3
      cases n with
      | zero => exact absurd o1 (by simp [okE])
      | succ n => rw [deeps_inj I hF ds es r1 r2 (by simpa only [okE] using o1) (by simpa only [okE] using o2)]
  | .ins _ _, _, _, _, _, _, o1, _ => by simp [okE] at o1
  | _, .ins _ _, _, _, _, _, _, o2 => by simp [okE] at o2
theorem deeps_inj {pins : List (Addr × Obj)} {σ : St} {F H : Hp} {s : Shared} (I : Inv X pins σ H s) (hF : Same F H) : ∀ (ds es : List Dat) {xs : List V} {n : Nat}, Deeps X.K F ds xs → Deeps X.K F es xs → okEs ds n = true → okEs es n = true → ds = es
  | [], [], _, _, _, _, _, _ => rfl
  | [], _ :: _, _, _, q, ⟨_, _, e, _⟩, _, _ => by rw [show _ = [] from q] at e; cases e
  | _ :: _, [], _, _, ⟨_, _, e, _⟩, q, _, _ => by rw [show _ = [] from q] at e; cases e
  | d :: ds, e :: es, _, n, ⟨v, vs, e1, q1, r1⟩, ⟨w, ws, e2, q2, r2⟩, o1, o2 => by
    rw [e1] at e2
    cases e2
    simp only [okEs, Bool.and_eq_true] at o1 o2
    rw [deep_inj I hF d e q1 q2 o1.1 o2.1, deeps_inj I hF ds es r1 r2 o1.2 o2.2]
end
end
section
variable {X : Cx} {K : PySem.W.Frag} {W : Wish} {own ro : Bool}
mutual
theorem eqAt_D {pins : List (Addr × Obj)} {σ : St} {F H : Hp} {s : Shared} (I : Inv X pins σ H s) (hF : Same F H) : ∀ (a b : Dat) {n : Nat} {x y : V} {u v : Value} {A : Around}, okE a n = true → okE b n = true → Deep X.K F a x → Deep X.K F b y → RelV x u → RelV y v → A.units + n < cLine → SeqAt.EqAt A s u v (eqD a b)
  | .non, .non, n, x, y, u, v, A, oa, ob, qa, qb, ra, rb, hu => by
      cases (show x = .non from qa)
      cases ra
      cases (show y = .non from qb)
      cases rb
      exact SeqAt.EqAt.same _
  | .non, .bl b, n, x, y, u, v, A, oa, ob, qa, qb, ra, rb, hu => by
      cases (show x = .non from qa)
      cases ra
      cases (show y = .bl b from qb)
      cases rb
      exact SeqAt.EqAt.none_bool b
  | .non, .int b, n, x, y, u, v, A, oa, ob, qa, qb, ra, rb, hu => by
      cases (show x = .non from qa)
      cases ra
      cases (show y = .int b from qb)
      obtain ⟨t2, rfl⟩ := rb
      exact SeqAt.EqAt.none_int b t2
  | .non, .str b, n, x, y, u, v, A, oa, ob, qa, qb, ra, rb, hu => by
      cases (show x = .non from qa)
      cases ra
      cases (show y = .str b from qb)
      obtain ⟨t2, rfl⟩ := rb
      exact SeqAt.EqAt.none_str b t2
  | .non, .tup es, n, x, y, u, v, A, oa, ob, qa, qb, ra, rb, hu => by
      cases (show x = .non from qa)
      cases ra
      obtain ⟨l2, ys, e2, h2, r2⟩ := qb
      subst e2
      cases rb
      obtain ⟨js, w2, p2, _⟩ := I.tuple (hF.tup h2)
      exact SeqAt.EqAt.none_tuple (show s.heap.IsTuple l2 js.toArray from p2) (by omega)
  | .non, .lst es, n, x, y, u, v, A, oa, ob, qa, qb, ra, rb, hu => by
      cases (show x = .non from qa)
      cases ra
      obtain ⟨l2, ys, e2, h2, r2⟩ := qb
      subst e2
      cases rb
      obtain ⟨js, w2, p2, _⟩ := I.list (hF.lst h2)
      exact SeqAt.EqAt.none_list p2.isList (by omega)
  | .bl a, .non, n, x, y, u, v, A, oa, ob, qa, qb, ra, rb, hu => by
      cases (show x = .bl a from qa)
      cases ra
      cases (show y = .non from qb)
      cases rb
      exact SeqAt.EqAt.bool_none a
  | .bl a, .bl b, n, x, y, u, v, A, oa, ob, qa, qb, ra, rb, hu => by
      cases (show x = .bl a from qa)
      cases ra
      cases (show y = .bl b from qb)
      cases rb
      exact SeqAt.EqAt.bool_bool a b
  | .bl a, .int b, n, x, y, u, v, A, oa, ob, qa, qb, ra, rb, hu => by
      cases (show x = .bl a from qa)
      cases ra
      cases (show y = .int b from qb)
      obtain ⟨t2, rfl⟩ := rb
      exact SeqAt.EqAt.bool_int a b t2
  | .bl a, .str b, n, x, y, u, v, A, oa, ob, qa, qb, ra, rb, hu => by
      cases (show x = .bl a from qa)
      cases ra
      cases (show y = .str b from qb)
      obtain ⟨t2, rfl⟩ := rb
      exact SeqAt.EqAt.bool_str a b t2
  | .bl a, .tup es, n, x, y, u, v, A, oa, ob, qa, qb, ra, rb, hu => by
      cases (show x = .bl a from qa)
      cases ra
      obtain ⟨l2, ys, e2, h2, r2⟩ := qb
      subst e2
      cases rb
      obtain ⟨js, w2, p2, _⟩ := I.tuple (hF.tup h2)
      exact SeqAt.EqAt.bool_tuple a (show s.heap.IsTuple l2 js.toArray from p2) (by omega)
  | .bl a, .lst es, n, x, y, u, v, A, oa, ob, qa, qb, ra, rb, hu => by
      cases (show x = .bl a from qa)
      cases ra
      obtain ⟨l2, ys, e2, h2, r2⟩ := qb
      subst e2
      cases rb
      obtain ⟨js, w2, p2, _⟩ := I.list (hF.lst h2)
      exact SeqAt.EqAt.bool_list a p2.isList (by omega)
  | .int a, .non, n, x, y, u, v, A, oa, ob, qa, qb, ra, rb, hu => by
      cases (show x = .int a from qa)
      obtain ⟨t1, rfl⟩ := ra
      cases (show y = .non from qb)
      cases rb
      exact SeqAt.EqAt.int_none a t1
  | .int a, .bl b, n, x, y, u, v, A, oa, ob, qa, qb, ra, rb, hu => by
      cases (show x = .int a from qa)
      obtain ⟨t1, rfl⟩ := ra
      cases (show y = .bl b from qb)
      cases rb
      exact SeqAt.EqAt.int_bool a t1 b
  | .int a, .int b, n, x, y, u, v, A, oa, ob, qa, qb, ra, rb, hu => by
      cases (show x = .int a from qa)
      obtain ⟨t1, rfl⟩ := ra
      cases (show y = .int b from qb)
      obtain ⟨t2, rfl⟩ := rb
      exact SeqAt.EqAt.int_int a t1 b t2
  | .int a, .str b, n, x, y, u, v, A, oa, ob, qa, qb, ra, rb, hu => by
      cases (show x = .int a from qa)
      obtain ⟨t1, rfl⟩ := ra
      cases (show y = .str b from qb)
      obtain ⟨t2, rfl⟩ := rb
      exact SeqAt.EqAt.int_str a t1 b t2
  | .int a, .tup es, n, x, y, u, v, A, oa, ob, qa, qb, ra, rb, hu => by
      cases (show x = .int a from qa)
      obtain ⟨t1, rfl⟩ := ra
      obtain ⟨l2, ys, e2, h2, r2⟩ := qb
      subst e2
      cases rb
      obtain ⟨js, w2, p2, _⟩ := I.tuple (hF.tup h2)
      exact SeqAt.EqAt.int_tuple a t1 (show s.heap.IsTuple l2 js.toArray from p2) (by omega)
  | .int a, .lst es, n, x, y, u, v, A, oa, ob, qa, qb, ra, rb, hu => by
      cases (show x = .int a from qa)
      obtain ⟨t1, rfl⟩ := ra
      obtain ⟨l2, ys, e2, h2, r2⟩ := qb
      subst e2
      cases rb
      obtain ⟨js, w2, p2, _⟩ := I.list (hF.lst h2)
      exact SeqAt.EqAt.int_list a t1 p2.isList (by omega)
  | .str a, .non, n, x, y, u, v, A, oa, ob, qa, qb, ra, rb, hu => by
      cases (show x = .str a from qa)
      obtain ⟨t1, rfl⟩ := ra
      cases (show y = .non from qb)
      cases rb
      exact SeqAt.EqAt.str_none a t1
  | .str a, .bl b, n, x, y, u, v, A, oa, ob, qa, qb, ra, rb, hu => by
      cases (show x = .str a from qa)
      obtain ⟨t1, rfl⟩ := ra
      cases (show y = .bl b from qb)
      cases rb
      exact SeqAt.EqAt.str_bool a t1 b
  | .str a, .int b, n, x, y, u, v, A, oa, ob, qa, qb, ra, rb, hu => by
      cases (show x = .str a from qa)
      obtain ⟨t1, rfl⟩ := ra
      cases (show y = .int b from qb)
      obtain ⟨t2, rfl⟩ := rb
      exact SeqAt.EqAt.str_int a t1 b t2
  | .str a, .str b, n, x, y, u, v, A, oa, ob, qa, qb, ra, rb, hu => by
      cases (show x = .str a from qa)
      obtain ⟨t1, rfl⟩ := ra
      cases (show y = .str b from qb)
      obtain ⟨t2, rfl⟩ := rb
      exact SeqAt.EqAt.str_str a t1 b t2
  | .str a, .tup es, n, x, y, u, v, A, oa, ob, qa, qb, ra, rb, hu => by
      cases (show x = .str a from qa)
      obtain ⟨t1, rfl⟩ := ra
      obtain ⟨l2, ys, e2, h2, r2⟩ := qb
      subst e2
      cases rb
      obtain ⟨js, w2, p2, _⟩ := I.tuple (hF.tup h2)
      exact SeqAt.EqAt.str_tuple a t1 (show s.heap.IsTuple l2 js.toArray from p2) (by omega)
  | .str a, .lst es, n, x, y, u, v, A, oa, ob, qa, qb, ra, rb, hu => by
      cases (show x = .str a from qa)
      obtain ⟨t1, rfl⟩ := ra
      obtain ⟨l2, ys, e2, h2, r2⟩ := qb
      subst e2
      cases rb
      obtain ⟨js, w2, p2, _⟩ := I.list (hF.lst h2)
      exact SeqAt.EqAt.str_list a t1 p2.isList (by omega)
  | .tup ds, .non, n, x, y, u, v, A, oa, ob, qa, qb, ra, rb, hu => by
      obtain ⟨l1, xs, e1, h1, r1⟩ := qa
      subst e1
      cases ra
      obtain ⟨is, w1, p1, _⟩ := I.tuple (hF.tup h1)
      cases (show y = .non from qb)
      cases rb
      exact SeqAt.EqAt.tuple_none (show s.heap.IsTuple l1 is.toArray from p1) (by omega)
  | .tup ds, .bl b, n, x, y, u, v, A, oa, ob, qa, qb, ra, rb, hu => by
      obtain ⟨l1, xs, e1, h1, r1⟩ := qa
      subst e1
      cases ra
      obtain ⟨is, w1, p1, _⟩ := I.tuple (hF.tup h1)
      cases (show y = .bl b from qb)
      cases rb
      exact SeqAt.EqAt.tuple_bool b (show s.heap.IsTuple l1 is.toArray from p1) (by omega)
  | .tup ds, .int b, n, x, y, u, v, A, oa, ob, qa, qb, ra, rb, hu => by
      obtain ⟨l1, xs, e1, h1, r1⟩ := qa
      subst e1
      cases ra
      obtain ⟨is, w1, p1, _⟩ := I.tuple (hF.tup h1)
      cases (show y = .int b from qb)
      obtain ⟨t2, rfl⟩ := rb
      exact SeqAt.EqAt.tuple_int b t2 (show s.heap.IsTuple l1 is.toArray from p1) (by omega)
  | .tup ds, .str b, n, x, y, u, v, A, oa, ob, qa, qb, ra, rb, hu => by
      obtain ⟨l1, xs, e1, h1, r1⟩ := qa
      subst e1
      cases ra
      obtain ⟨is, w1, p1, _⟩ := I.tuple (hF.tup h1)
      cases (show y = .str b from qb)
      obtain ⟨t2, rfl⟩ := rb
      exact SeqAt.EqAt.tuple_str b t2 (show s.heap.IsTuple l1 is.toArray from p1) (by omega)
  | .tup ds, .tup es, n, x, y, u, v, A, oa, ob, qa, qb, ra, rb, hu => by
      obtain ⟨l1, xs, e1, h1, r1⟩ := qa
      subst e1
      cases ra
      obtain ⟨is, w1, p1, _⟩ := I.tuple (hF.tup h1)
      obtain ⟨l2, ys, e2, h2, r2⟩ := qb
      subst e2
      cases rb
      obtain ⟨js, w2, p2, _⟩ := I.tuple (hF.tup h2)
      have z1 := w1.length
      have z2 := w2.length
      have y1 := r1.length
      have y2 := r2.length
      cases n with
      | zero => exact absurd oa (by simp [okE])
      | succ n =>
        have oa' : okEs ds n = true := by simpa only [okE] using oa
        have ob' : okEs es n = true := by simpa only [okE] using ob
        by_cases hab : l1 = l2
        · subst hab
          have e3 := SqT.inj I (hF.tup h1) (hF.tup h2)
          subst e3
          have e4 : ds = es := deeps_inj I hF ds es r1 r2 oa' ob'
          subst e4
          rw [eqD_refl (n := n + 1) oa]
          exact SeqAt.EqAt.same _
        · have q := SeqAt.RcAt.tuples (A := A) (e := eqAtJ ds es) (show s.heap.IsTuple l1 is.toArray from p1) (show s.heap.IsTuple l2 js.toArray from p2) (by omega) (fun j h1 h2 => by
            obtain ⟨x', f1, g1⟩ := w1.atA h1
            obtain ⟨y', f2, g2⟩ := w2.atA h2
            obtain ⟨d1, k1, m1⟩ := r1.at f1
            obtain ⟨d2, k2, m2⟩ := r2.at f2
            have q := eqsAt_D I hF ds j d1 k1 d2 (n := n) (A := A.in1) (okEs_get oa' k1) (okEs_get ob' k2) m1 m2 g1 g2 (by show A.units + 1 + n < cLine; omega)
            have e5 : eqAtJ ds es j = eqD d1 d2 := by simp only [eqAtJ, k1, k2]
            rw [e5]
            exact q
            )
          have ez : is.toArray.size = ds.length := by simp; omega
          have ez2 : js.toArray.size = es.length := by simp; omega
          rw [ez, ez2, eqDs_zip _ (fun j a b h1 h2 => by simp only [eqAtJ, h1, h2])] at q
          exact SeqAt.EqAt.of_refs hab q
  | .tup ds, .lst es, n, x, y, u, v, A, oa, ob, qa, qb, ra, rb, hu => by
      obtain ⟨l1, xs, e1, h1, r1⟩ := qa
      subst e1
      cases ra
      obtain ⟨is, w1, p1, _⟩ := I.tuple (hF.tup h1)
      obtain ⟨l2, ys, e2, h2, r2⟩ := qb
      subst e2
      cases rb
      obtain ⟨js, w2, p2, _⟩ := I.list (hF.lst h2)
      exact SeqAt.EqAt.tuple_list (show s.heap.IsTuple l1 is.toArray from p1) p2.isList (by omega)
  | .lst ds, .non, n, x, y, u, v, A, oa, ob, qa, qb, ra, rb, hu => by
      obtain ⟨l1, xs, e1, h1, r1⟩ := qa
      subst e1
      cases ra
      obtain ⟨is, w1, p1, _⟩ := I.list (hF.lst h1)
      cases (show y = .non from qb)
      cases rb
      exact SeqAt.EqAt.list_none p1.isList (by omega)
  | .lst ds, .bl b, n, x, y, u, v, A, oa, ob, qa, qb, ra, rb, hu => by
      obtain ⟨l1, xs, e1, h1, r1⟩ := qa
      subst e1
      cases ra
      obtain ⟨is, w1, p1, _⟩ := I.list (hF.lst h1)
      cases (show y = .bl b from qb)
      cases rb
      exact SeqAt.EqAt.list_bool b p1.isList (by omega)
  | .lst ds, .int b, n, x, y, u, v, A, oa, ob, qa, qb, ra, rb, hu => by
      obtain ⟨l1, xs, e1, h1, r1⟩ := qa
      subst e1
      cases ra
      obtain ⟨is, w1, p1, _⟩ := I.list (hF.lst h1)
      cases (show y = .int b from qb)
      obtain ⟨t2, rfl⟩ := rb
      exact SeqAt.EqAt.list_int b t2 p1.isList (by omega)
  | .lst ds, .str b, n, x, y, u, v, A, oa, ob, qa, qb, ra, rb, hu => by
      obtain ⟨l1, xs, e1, h1, r1⟩ := qa
      subst e1
      cases ra
      obtain ⟨is, w1, p1, _⟩ := I.list (hF.lst h1)
      cases (show y = .str b from qb)
      obtain ⟨t2, rfl⟩ := rb
      exact SeqAt.EqAt.list_str b t2 p1.isList (by omega)
  | .lst ds, .tup es, n, x, y, u, v, A, oa, ob, qa, qb, ra, rb, hu => by
      obtain ⟨l1, xs, e1, h1, r1⟩ := qa
      subst e1
      cases ra
      obtain ⟨is, w1, p1, _⟩ := I.list (hF.lst h1)
      obtain ⟨l2, ys, e2, h2, r2⟩ := qb
      subst e2
      cases rb
      obtain ⟨js, w2, p2, _⟩ := I.tuple (hF.tup h2)
      exact SeqAt.EqAt.list_tuple p1.isList (show s.heap.IsTuple l2 js.toArray from p2) (by omega)
  | .lst ds, .lst es, n, x, y, u, v, A, oa, ob, qa, qb, ra, rb, hu => by
      obtain ⟨l1, xs, e1, h1, r1⟩ := qa
      subst e1
      cases ra
      obtain ⟨is, w1, p1, _⟩ := I.list (hF.lst h1)
      obtain ⟨l2, ys, e2, h2, r2⟩ := qb
      subst e2
      cases rb
      obtain ⟨js, w2, p2, _⟩ := I.list (hF.lst h2)
      have z1 := w1.length
      have z2 := w2.length
      have y1 := r1.length
      have y2 := r2.length
      cases n with
      | zero => exact absurd oa (by simp [okE])
      | succ n =>
        have oa' : okEs ds n = true := by simpa only [okE] using oa
        have ob' : okEs es n = true := by simpa only [okE] using ob
        by_cases hab : l1 = l2
        · subst hab
          have e3 := SqL.inj I (hF.lst h1) (hF.lst h2)
          subst e3
          have e4 : ds = es := deeps_inj I hF ds es r1 r2 oa' ob'
          subst e4
          rw [eqD_refl (n := n + 1) oa]
          exact SeqAt.EqAt.same _
        · by_cases hl : ds.length = es.length
          · have q := SeqAt.RcAt.lists (A := A) (e := eqAtJ ds es) p1.isList p2.isList (by simp; omega) (by omega) (fun j h1 h2 => by
              obtain ⟨x', f1, g1⟩ := w1.atA h1
              obtain ⟨y', f2, g2⟩ := w2.atA h2
              obtain ⟨d1, k1, m1⟩ := r1.at f1
              obtain ⟨d2, k2, m2⟩ := r2.at f2
              have q := eqsAt_D I hF ds j d1 k1 d2 (n := n) (A := A.in1) (okEs_get oa' k1) (okEs_get ob' k2) m1 m2 g1 g2 (by show A.units + 1 + n < cLine; omega)
              have e5 : eqAtJ ds es j = eqD d1 d2 := by simp only [eqAtJ, k1, k2]
              rw [e5]
              exact q
              )
            have ez : is.toArray.size = ds.length := by simp; omega
            rw [ez, Deeps.all_eq (F := F) _ hl (fun j a b h1 h2 => by simp only [eqAtJ, h1, h2])] at q
            exact SeqAt.EqAt.of_refs hab q
          · rw [show eqD (.lst ds) (.lst es) = false from eqDs_len hl]
            exact SeqAt.EqAt.of_refs hab (SeqAt.RcAt.lists_lengths (A := A) p1.isList p2.isList (by simp; omega) (by omega))
  | .ins _ _, _, _, _, _, _, _, _, oa, _, _, _, _, _, _ => by simp [okE] at oa
  | _, .ins _ _, _, _, _, _, _, _, _, ob, _, _, _, _, _ => by simp [okE] at ob
theorem eqsAt_D {pins : List (Addr × Obj)} {σ : St} {F H : Hp} {s : Shared} (I : Inv X pins σ H s) (hF : Same F H) : ∀ (ds : List Dat) (j : Nat) (a : Dat), ds[j]? = some a → ∀ (b : Dat) {n : Nat} {x y : V} {u v : Value} {A : Around}, okE a n = true → okE b n = true → Deep X.K F a x → Deep X.K F b y → RelV x u → RelV y v → A.units + n < cLine → SeqAt.EqAt A s u v (eqD a b)
  | [], j, _, h => by simp at h
  | d :: ds, 0, _, h => by
    simp only [List.getElem?_cons_zero, Option.some.injEq] at h
    subst h
    exact eqAt_D I hF d
  | d :: ds, j + 1, a, h => eqsAt_D I hF ds j a (by simpa using h)
end
theorem rcAt_D {pins : List (Addr × Obj)} {σ : St} {F H : Hp} {s : Shared} (I : Inv X pins σ H s) (hF : Same F H) : ∀ (a b : Dat) {n : Nat} {x y : V} {u v : Value} {A : Around}, okE a n = true → okE b n = true → Deep X.K F a x → Deep X.K F b y → RelV x u → RelV y v → A.units + n < cLine → SeqAt.RcAt A s u v (eqD a b)
  | .non, .non, n, x, y, u, v, A, oa, ob, qa, qb, ra, rb, hu => by
      cases (show x = .non from qa)
      cases ra
      cases (show y = .non from qb)
      cases rb
      exact SeqAt.RcAt.none_none
  | .non, .bl b, n, x, y, u, v, A, oa, ob, qa, qb, ra, rb, hu => by
      cases (show x = .non from qa)
      cases ra
      cases (show y = .bl b from qb)
      cases rb
      exact SeqAt.RcAt.none_bool b
  | .non, .int b, n, x, y, u, v, A, oa, ob, qa, qb, ra, rb, hu => by
      cases (show x = .non from qa)
      cases ra
      cases (show y = .int b from qb)
      obtain ⟨t2, rfl⟩ := rb
      exact SeqAt.RcAt.none_int b t2
  | .non, .str b, n, x, y, u, v, A, oa, ob, qa, qb, ra, rb, hu => by
      cases (show x = .non from qa)
      cases ra
      cases (show y = .str b from qb)
      obtain ⟨t2, rfl⟩ := rb
      exact SeqAt.RcAt.none_str b t2
  | .non, .tup es, n, x, y, u, v, A, oa, ob, qa, qb, ra, rb, hu => by
      cases (show x = .non from qa)
      cases ra
      obtain ⟨l2, ys, e2, h2, r2⟩ := qb
      subst e2
      cases rb
      obtain ⟨js, w2, p2, _⟩ := I.tuple (hF.tup h2)
      exact SeqAt.RcAt.none_tuple (show s.heap.IsTuple l2 js.toArray from p2) (by omega)
  | .non, .lst es, n, x, y, u, v, A, oa, ob, qa, qb, ra, rb, hu => by
      cases (show x = .non from qa)
      cases ra
      obtain ⟨l2, ys, e2, h2, r2⟩ := qb
      subst e2
      cases rb
      obtain ⟨js, w2, p2, _⟩ := I.list (hF.lst h2)
      exact SeqAt.RcAt.none_list p2.isList (by omega)
  | .bl a, .non, n, x, y, u, v, A, oa, ob, qa, qb, ra, rb, hu => by
      cases (show x = .bl a from qa)
      cases ra
      cases (show y = .non from qb)
      cases rb
      exact SeqAt.RcAt.bool_none a
  | .bl a, .bl b, n, x, y, u, v, A, oa, ob, qa, qb, ra, rb, hu => by
      cases (show x = .bl a from qa)
      cases ra
      cases (show y = .bl b from qb)
      cases rb
      exact SeqAt.RcAt.bool_bool a b
  | .bl a, .int b, n, x, y, u, v, A, oa, ob, qa, qb, ra, rb, hu => by
      cases (show x = .bl a from qa)
      cases ra
      cases (show y = .int b from qb)
      obtain ⟨t2, rfl⟩ := rb
      exact SeqAt.RcAt.bool_int a b t2
  | .bl a, .str b, n, x, y, u, v, A, oa, ob, qa, qb, ra, rb, hu => by
      cases (show x = .bl a from qa)
      cases ra
      cases (show y = .str b from qb)
      obtain ⟨t2, rfl⟩ := rb
      exact SeqAt.RcAt.bool_str a b t2
  | .bl a, .tup es, n, x, y, u, v, A, oa, ob, qa, qb, ra, rb, hu => by
      cases (show x = .bl a from qa)
      cases ra
      obtain ⟨l2, ys, e2, h2, r2⟩ := qb
      subst e2
      cases rb
      obtain ⟨js, w2, p2, _⟩ := I.tuple (hF.tup h2)
      exact SeqAt.RcAt.bool_tuple a (show s.heap.IsTuple l2 js.toArray from p2) (by omega)
  | .bl a, .lst es, n, x, y, u, v, A, oa, ob, qa, qb, ra, rb, hu => by
      cases (show x = .bl a from qa)
      cases ra
      obtain ⟨l2, ys, e2, h2, r2⟩ := qb
      subst e2
      cases rb
      obtain ⟨js, w2, p2, _⟩ := I.list (hF.lst h2)
      exact SeqAt.RcAt.bool_list a p2.isList (by omega)
  | .int a, .non, n, x, y, u, v, A, oa, ob, qa, qb, ra, rb, hu => by
      cases (show x = .int a from qa)
      obtain ⟨t1, rfl⟩ := ra
      cases (show y = .non from qb)
      cases rb
      exact SeqAt.RcAt.int_none a t1
  | .int a, .bl b, n, x, y, u, v, A, oa, ob, qa, qb, ra, rb, hu => by
      cases (show x = .int a from qa)
      obtain ⟨t1, rfl⟩ := ra
      cases (show y = .bl b from qb)
      cases rb
      exact SeqAt.RcAt.int_bool a t1 b
  | .int a, .int b, n, x, y, u, v, A, oa, ob, qa, qb, ra, rb, hu => by
      cases (show x = .int a from qa)
      obtain ⟨t1, rfl⟩ := ra
      cases (show y = .int b from qb)
      obtain ⟨t2, rfl⟩ := rb
      exact SeqAt.RcAt.int_int a t1 b t2
  | .int a, .str b, n, x, y, u, v, A, oa, ob, qa, qb, ra, rb, hu => by
      cases (show x = .int a from qa)
      obtain ⟨t1, rfl⟩ := ra
      cases (show y = .str b from qb)
      obtain ⟨t2, rfl⟩ := rb
      exact SeqAt.RcAt.int_str a t1 b t2
  | .int a, .tup es, n, x, y, u, v, A, oa, ob, qa, qb, ra, rb, hu => by
      cases (show x = .int a from qa)
      obtain ⟨t1, rfl⟩ := ra
      obtain ⟨l2, ys, e2, h2, r2⟩ := qb
      subst e2
      cases rb
      obtain ⟨js, w2, p2, _⟩ := I.tuple (hF.tup h2)
      exact SeqAt.RcAt.int_tuple a t1 (show s.heap.IsTuple l2 js.toArray from p2) (by omega)
  | .int a, .lst es, n, x, y, u, v, A, oa, ob, qa, qb, ra, rb, hu => by
      cases (show x = .int a from qa)
      obtain ⟨t1, rfl⟩ := ra
      obtain ⟨l2, ys, e2, h2, r2⟩ := qb
      subst e2
      cases rb
      obtain ⟨js, w2, p2, _⟩ := I.list (hF.lst h2)
      exact SeqAt.RcAt.int_list a t1 p2.isList (by omega)
  | .str a, .non, n, x, y, u, v, A, oa, ob, qa, qb, ra, rb, hu => by
      cases (show x = .str a from qa)
      obtain ⟨t1, rfl⟩ := ra
      cases (show y = .non from qb)
      cases rb
      exact SeqAt.RcAt.str_none a t1
  | .str a, .bl b, n, x, y, u, v, A, oa, ob, qa, qb, ra, rb, hu => by
      cases (show x = .str a from qa)
      obtain ⟨t1, rfl⟩ := ra
      cases (show y = .bl b from qb)
      cases rb
      exact SeqAt.RcAt.str_bool a t1 b
  | .str a, .int b, n, x, y, u, v, A, oa, ob, qa, qb, ra, rb, hu => by
      cases (show x = .str a from qa)
      obtain ⟨t1, rfl⟩ := ra
      cases (show y = .int b from qb)
      obtain ⟨t2, rfl⟩ := rb
      exact SeqAt.RcAt.str_int a t1 b t2
  | .str a, .str b, n, x, y, u, v, A, oa, ob, qa, qb, ra, rb, hu => by
      cases (show x = .str a from qa)
      obtain ⟨t1, rfl⟩ := ra
      cases (show y = .str b from qb)
      obtain ⟨t2, rfl⟩ := rb
      exact SeqAt.RcAt.str_str a t1 b t2
  | .str a, .tup es, n, x, y, u, v, A, oa, ob, qa, qb, ra, rb, hu => by
      cases (show x = .str a from qa)
      obtain ⟨t1, rfl⟩ := ra
      obtain ⟨l2, ys, e2, h2, r2⟩ := qb
      subst e2
      cases rb
      obtain ⟨js, w2, p2, _⟩ := I.tuple (hF.tup h2)
      exact SeqAt.RcAt.str_tuple a t1 (show s.heap.IsTuple l2 js.toArray from p2) (by omega)
  | .str a, .lst es, n, x, y, u, v, A, oa, ob, qa, qb, ra, rb, hu => by
      cases (show x = .str a from qa)
      obtain ⟨t1, rfl⟩ := ra
      obtain ⟨l2, ys, e2, h2, r2⟩ := qb
      subst e2
      cases rb
      obtain ⟨js, w2, p2, _⟩ := I.list (hF.lst h2)
      exact SeqAt.RcAt.str_list a t1 p2.isList (by omega)
  | .tup ds, .non, n, x, y, u, v, A, oa, ob, qa, qb, ra, rb, hu => by
      obtain ⟨l1, xs, e1, h1, r1⟩ := qa
      subst e1
      cases ra
      obtain ⟨is, w1, p1, _⟩ := I.tuple (hF.tup h1)
      cases (show y = .non from qb)
      cases rb
      exact SeqAt.RcAt.tuple_none (show s.heap.IsTuple l1 is.toArray from p1) (by omega)
  | .tup ds, .bl b, n, x, y, u, v, A, oa, ob, qa, qb, ra, rb, hu => by
      obtain ⟨l1, xs, e1, h1, r1⟩ := qa
      subst e1
      cases ra
      obtain ⟨is, w1, p1, _⟩ := I.tuple (hF.tup h1)
      cases (show y = .bl b from qb)
      cases rb
      exact SeqAt.RcAt.tuple_bool b (show s.heap.IsTuple l1 is.toArray from p1) (by omega)
  | .tup ds, .int b, n, x, y, u, v, A, oa, ob, qa, qb, ra, rb, hu => by
      obtain ⟨l1, xs, e1, h1, r1⟩ := qa
      subst e1
      cases ra
      obtain ⟨is, w1, p1, _⟩ := I.tuple (hF.tup h1)
      cases (show y = .int b from qb)
      obtain ⟨t2, rfl⟩ := rb
      exact SeqAt.RcAt.tuple_int b t2 (show s.heap.IsTuple l1 is.toArray from p1) (by omega)
  | .tup ds, .str b, n, x, y, u, v, A, oa, ob, qa, qb, ra, rb, hu => by
      obtain ⟨l1, xs, e1, h1, r1⟩ := qa
      subst e1
      cases ra
      obtain ⟨is, w1, p1, _⟩ := I.tuple (hF.tup h1)
      cases (show y = .str b from qb)
      obtain ⟨t2, rfl⟩ := rb
      exact SeqAt.RcAt.tuple_str b t2 (show s.heap.IsTuple l1 is.toArray from p1) (by omega)
  | .tup ds, .tup es, n, x, y, u, v, A, oa, ob, qa, qb, ra, rb, hu => by
      obtain ⟨l1, xs, e1, h1, r1⟩ := qa
      subst e1
      cases ra
      obtain ⟨is, w1, p1, _⟩ := I.tuple (hF.tup h1)
      obtain ⟨l2, ys, e2, h2, r2⟩ := qb
      subst e2
      cases rb
      obtain ⟨js, w2, p2, _⟩ := I.tuple (hF.tup h2)
      have z1 := w1.length
      have z2 := w2.length
      have y1 := r1.length
      have y2 := r2.length
      cases n with
      | zero => exact absurd oa (by simp [okE])
      | succ n =>
        have oa' : okEs ds n = true := by simpa only [okE] using oa
        have ob' : okEs es n = true := by simpa only [okE] using ob
        have q := SeqAt.RcAt.tuples (A := A) (e := eqAtJ ds es) (show s.heap.IsTuple l1 is.toArray from p1) (show s.heap.IsTuple l2 js.toArray from p2) (by omega) (fun j h1 h2 => by
          obtain ⟨x', f1, g1⟩ := w1.atA h1
          obtain ⟨y', f2, g2⟩ := w2.atA h2
          obtain ⟨d1, k1, m1⟩ := r1.at f1
          obtain ⟨d2, k2, m2⟩ := r2.at f2
          have q := eqsAt_D I hF ds j d1 k1 d2 (n := n) (A := A.in1) (okEs_get oa' k1) (okEs_get ob' k2) m1 m2 g1 g2 (by show A.units + 1 + n < cLine; omega)
          have e5 : eqAtJ ds es j = eqD d1 d2 := by simp only [eqAtJ, k1, k2]
          rw [e5]
          exact q
          )
        have ez : is.toArray.size = ds.length := by simp; omega
        have ez2 : js.toArray.size = es.length := by simp; omega
        rw [ez, ez2, eqDs_zip _ (fun j a b h1 h2 => by simp only [eqAtJ, h1, h2])] at q
        exact q
  | .tup ds, .lst es, n, x, y, u, v, A, oa, ob, qa, qb, ra, rb, hu => by
      obtain ⟨l1, xs, e1, h1, r1⟩ := qa
      subst e1
      cases ra
      obtain ⟨is, w1, p1, _⟩ := I.tuple (hF.tup h1)
      obtain ⟨l2, ys, e2, h2, r2⟩ := qb
      subst e2
      cases rb
      obtain ⟨js, w2, p2, _⟩ := I.list (hF.lst h2)
      exact SeqAt.RcAt.tuple_list (show s.heap.IsTuple l1 is.toArray from p1) p2.isList (by omega)
  | .lst ds, .non, n, x, y, u, v, A, oa, ob, qa, qb, ra, rb, hu => by
      obtain ⟨l1, xs, e1, h1, r1⟩ := qa
      subst e1
      cases ra
      obtain ⟨is, w1, p1, _⟩ := I.list (hF.lst h1)
      cases (show y = .non from qb)
      cases rb
      exact SeqAt.RcAt.list_none p1.isList (by omega)
  | .lst ds, .bl b, n, x, y, u, v, A, oa, ob, qa, qb, ra, rb, hu => by
      obtain ⟨l1, xs, e1, h1, r1⟩ := qa
      subst e1
      cases ra
      obtain ⟨is, w1, p1, _⟩ := I.list (hF.lst h1)
      cases (show y = .bl b from qb)
      cases rb
      exact SeqAt.RcAt.list_bool b p1.isList (by omega)
  | .lst ds, .int b, n, x, y, u, v, A, oa, ob, qa, qb, ra, rb, hu => by
      obtain ⟨l1, xs, e1, h1, r1⟩ := qa
      subst e1
      cases ra
      obtain ⟨is, w1, p1, _⟩ := I.list (hF.lst h1)
      cases (show y = .int b from qb)
      obtain ⟨t2, rfl⟩ := rb
      exact SeqAt.RcAt.list_int b t2 p1.isList (by omega)
  | .lst ds, .str b, n, x, y, u, v, A, oa, ob, qa, qb, ra, rb, hu => by
      obtain ⟨l1, xs, e1, h1, r1⟩ := qa
      subst e1
      cases ra
      obtain ⟨is, w1, p1, _⟩ := I.list (hF.lst h1)
      cases (show y = .str b from qb)
      obtain ⟨t2, rfl⟩ := rb
      exact SeqAt.RcAt.list_str b t2 p1.isList (by omega)
  | .lst ds, .tup es, n, x, y, u, v, A, oa, ob, qa, qb, ra, rb, hu => by
      obtain ⟨l1, xs, e1, h1, r1⟩ := qa
      subst e1
      cases ra
      obtain ⟨is, w1, p1, _⟩ := I.list (hF.lst h1)
      obtain ⟨l2, ys, e2, h2, r2⟩ := qb
      subst e2
      cases rb
      obtain ⟨js, w2, p2, _⟩ := I.tuple (hF.tup h2)
      exact SeqAt.RcAt.list_tuple p1.isList (show s.heap.IsTuple l2 js.toArray from p2) (by omega)
  | .lst ds, .lst es, n, x, y, u, v, A, oa, ob, qa, qb, ra, rb, hu => by
      obtain ⟨l1, xs, e1, h1, r1⟩ := qa
      subst e1
      cases ra
      obtain ⟨is, w1, p1, _⟩ := I.list (hF.lst h1)
      obtain ⟨l2, ys, e2, h2, r2⟩ := qb
      subst e2
      cases rb
      obtain ⟨js, w2, p2, _⟩ := I.list (hF.lst h2)
      have z1 := w1.length
      have z2 := w2.length
      have y1 := r1.length
      have y2 := r2.length
      cases n with
      | zero => exact absurd oa (by simp [okE])
      | succ n =>
        have oa' : okEs ds n = true := by simpa only [okE] using oa
        have ob' : okEs es n = true := by simpa only [okE] using ob
        by_cases hl : ds.length = es.length
        · have q := SeqAt.RcAt.lists (A := A) (e := eqAtJ ds es) p1.isList p2.isList (by simp; omega) (by omega) (fun j h1 h2 => by
            obtain ⟨x', f1, g1⟩ := w1.atA h1
            obtain ⟨y', f2, g2⟩ := w2.atA h2
            obtain ⟨d1, k1, m1⟩ := r1.at f1
            obtain ⟨d2, k2, m2⟩ := r2.at f2
            have q := eqsAt_D I hF ds j d1 k1 d2 (n := n) (A := A.in1) (okEs_get oa' k1) (okEs_get ob' k2) m1 m2 g1 g2 (by show A.units + 1 + n < cLine; omega)
            have e5 : eqAtJ ds es j = eqD d1 d2 := by simp only [eqAtJ, k1, k2]
            rw [e5]
            exact q
            )
          have ez : is.toArray.size = ds.length := by simp; omega
          rw [ez, Deeps.all_eq (F := F) _ hl (fun j a b h1 h2 => by simp only [eqAtJ, h1, h2])] at q
          exact q
        · rw [show eqD (.lst ds) (.lst es) = false from eqDs_len hl]
          exact SeqAt.RcAt.lists_lengths (A := A) p1.isList p2.isList (by simp; omega) (by omega)
  | .ins _ _, _, _, _, _, _, _, _, oa, _, _, _, _, _, _ => by simp [okE] at oa
  | _, .ins _ _, _, _, _, _, _, _, _, ob, _, _, _, _, _ => by simp [okE] at ob
theorem rcNeAt_D {pins : List (Addr × Obj)} {σ : St} {F H : Hp} {s : Shared} (I : Inv X pins σ H s) (hF : Same F H) : ∀ (a b : Dat) {n : Nat} {x y : V} {u v : Value} {A : Around}, okE a n = true → okE b n = true → Deep X.K F a x → Deep X.K F b y → RelV x u → RelV y v → A.units + n < cLine → SeqAt.RcNeAt A s u v (!eqD a b)
  | .non, .non, n, x, y, u, v, A, oa, ob, qa, qb, ra, rb, hu => by
      cases (show x = .non from qa)
      cases ra
      cases (show y = .non from qb)
      cases rb
      exact SeqAt.RcNeAt.none_none
  | .non, .bl b, n, x, y, u, v, A, oa, ob, qa, qb, ra, rb, hu => by
      cases (show x = .non from qa)
      cases ra
      cases (show y = .bl b from qb)
      cases rb
      exact SeqAt.RcNeAt.none_bool b
  | .non, .int b, n, x, y, u, v, A, oa, ob, qa, qb, ra, rb, hu => by
      cases (show x = .non from qa)
      cases ra
      cases (show y = .int b from qb)
      obtain ⟨t2, rfl⟩ := rb
      exact SeqAt.RcNeAt.none_int b t2
  | .non, .str b, n, x, y, u, v, A, oa, ob, qa, qb, ra, rb, hu => by
      cases (show x = .non from qa)
      cases ra
      cases (show y = .str b from qb)
      obtain ⟨t2, rfl⟩ := rb
      exact SeqAt.RcNeAt.none_str b t2
  | .non, .tup es, n, x, y, u, v, A, oa, ob, qa, qb, ra, rb, hu => by
      cases (show x = .non from qa)
      cases ra
      obtain ⟨l2, ys, e2, h2, r2⟩ := qb
      subst e2
      cases rb
      obtain ⟨js, w2, p2, _⟩ := I.tuple (hF.tup h2)
      exact SeqAt.RcNeAt.none_tuple (show s.heap.IsTuple l2 js.toArray from p2) (by omega)
  | .non, .lst es, n, x, y, u, v, A, oa, ob, qa, qb, ra, rb, hu => by
      cases (show x = .non from qa)
      cases ra
      obtain ⟨l2, ys, e2, h2, r2⟩ := qb
      subst e2
      cases rb
      obtain ⟨js, w2, p2, _⟩ := I.list (hF.lst h2)
      exact SeqAt.RcNeAt.none_list p2.isList (by omega)
  | .bl a, .non, n, x, y, u, v, A, oa, ob, qa, qb, ra, rb, hu => by
      cases (show x = .bl a from qa)
      cases ra
      cases (show y = .non from qb)
      cases rb
      exact SeqAt.RcNeAt.bool_none a
  | .bl a, .bl b, n, x, y, u, v, A, oa, ob, qa, qb, ra, rb, hu => by
      cases (show x = .bl a from qa)
      cases ra
      cases (show y = .bl b from qb)
      cases rb
      exact SeqAt.RcNeAt.bool_bool a b
  | .bl a, .int b, n, x, y, u, v, A, oa, ob, qa, qb, ra, rb, hu => by
      cases (show x = .bl a from qa)
      cases ra
      cases (show y = .int b from qb)
      obtain ⟨t2, rfl⟩ := rb
      exact SeqAt.RcNeAt.bool_int a b t2
  | .bl a, .str b, n, x, y, u, v, A, oa, ob, qa, qb, ra, rb, hu => by
      cases (show x = .bl a from qa)
      cases ra
      cases (show y = .str b from qb)
      obtain ⟨t2, rfl⟩ := rb
      exact SeqAt.RcNeAt.bool_str a b t2
  | .bl a, .tup es, n, x, y, u, v, A, oa, ob, qa, qb, ra, rb, hu => by
      cases (show x = .bl a from qa)
      cases ra
      obtain ⟨l2, ys, e2, h2, r2⟩ := qb
      subst e2
      cases rb
      obtain ⟨js, w2, p2, _⟩ := I.tuple (hF.tup h2)
      exact SeqAt.RcNeAt.bool_tuple a (show s.heap.IsTuple l2 js.toArray from p2) (by omega)
  | .bl a, .lst es, n, x, y, u, v, A, oa, ob, qa, qb, ra, rb, hu => by
      cases (show x = .bl a from qa)
      cases ra
      obtain ⟨l2, ys, e2, h2, r2⟩ := qb
      subst e2
      cases rb
      obtain ⟨js, w2, p2, _⟩ := I.list (hF.lst h2)
      exact SeqAt.RcNeAt.bool_list a p2.isList (by omega)
  | .int a, .non, n, x, y, u, v, A, oa, ob, qa, qb, ra, rb, hu => by
      cases (show x = .int a from qa)
      obtain ⟨t1, rfl⟩ := ra
      cases (show y = .non from qb)
      cases rb
      exact SeqAt.RcNeAt.int_none a t1
  | .int a, .bl b, n, x, y, u, v, A, oa, ob, qa, qb, ra, rb, hu => by
      cases (show x = .int a from qa)
      obtain ⟨t1, rfl⟩ := ra
      cases (show y = .bl b from qb)
      cases rb
      exact SeqAt.RcNeAt.int_bool a t1 b
  | .int a, .int b, n, x, y, u, v, A, oa, ob, qa, qb, ra, rb, hu => by
      cases (show x = .int a from qa)
      obtain ⟨t1, rfl⟩ := ra
      cases (show y = .int b from qb)
      obtain ⟨t2, rfl⟩ := rb
      exact SeqAt.RcNeAt.int_int a t1 b t2
  | .int a, .str b, n, x, y, u, v, A, oa, ob, qa, qb, ra, rb, hu => by
      cases (show x = .int a from qa)
      obtain ⟨t1, rfl⟩ := ra
      cases (show y = .str b from qb)
      obtain ⟨t2, rfl⟩ := rb
      exact SeqAt.RcNeAt.int_str a t1 b t2
  | .int a, .tup es, n, x, y, u, v, A, oa, ob, qa, qb, ra, rb, hu => by
      cases (show x = .int a from qa)
      obtain ⟨t1, rfl⟩ := ra
      obtain ⟨l2, ys, e2, h2, r2⟩ := qb
      subst e2
      cases rb
      obtain ⟨js, w2, p2, _⟩ := I.tuple (hF.tup h2)
      exact SeqAt.RcNeAt.int_tuple a t1 (show s.heap.IsTuple l2 js.toArray from p2) (by omega)
  | .int a, .lst es, n, x, y, u, v, A, oa, ob, qa, qb, ra, rb, hu => by
      cases (show x = .int a from qa)
      obtain ⟨t1, rfl⟩ := ra
      obtain ⟨l2, ys, e2, h2, r2⟩ := qb
      subst e2
      cases rb
      obtain ⟨js, w2, p2, _⟩ := I.list (hF.lst h2)
      exact SeqAt.RcNeAt.int_list a t1 p2.isList (by omega)
  | .str a, .non, n, x, y, u, v, A, oa, ob, qa, qb, ra, rb, hu => by
      cases (show x = .str a from qa)
      obtain ⟨t1, rfl⟩ := ra
      cases (show y = .non from qb)
      cases rb
      exact SeqAt.RcNeAt.str_none a t1
  | .str a, .bl b, n, x, y, u, v, A, oa, ob, qa, qb, ra, rb, hu => by
      cases (show x = .str a from qa)
      obtain ⟨t1, rfl⟩ := ra
      cases (show y = .bl b from qb)
      cases rb
      exact SeqAt.RcNeAt.str_bool a t1 b
  | .str a, .int b, n, x, y, u, v, A, oa, ob, qa, qb, ra, rb, hu => by
      cases (show x = .str a from qa)
      obtain ⟨t1, rfl⟩ := ra
      cases (show y = .int b from qb)
      obtain ⟨t2, rfl⟩ := rb
      exact SeqAt.RcNeAt.str_int a t1 b t2
  | .str a, .str b, n, x, y, u, v, A, oa, ob, qa, qb, ra, rb, hu => by
      cases (show x = .str a from qa)
      obtain ⟨t1, rfl⟩ := ra
      cases (show y = .str b from qb)
      obtain ⟨t2, rfl⟩ := rb
      exact SeqAt.RcNeAt.str_str a t1 b t2
  | .str a, .tup es, n, x, y, u, v, A, oa, ob, qa, qb, ra, rb, hu => by
      cases (show x = .str a from qa)
      obtain ⟨t1, rfl⟩ := ra
      obtain ⟨l2, ys, e2, h2, r2⟩ := qb
      subst e2
      cases rb
      obtain ⟨js, w2, p2, _⟩ := I.tuple (hF.tup h2)
      exact SeqAt.RcNeAt.str_tuple a t1 (show s.heap.IsTuple l2 js.toArray from p2) (by omega)
  | .str a, .lst es, n, x, y, u, v, A, oa, ob, qa, qb, ra, rb, hu => by
      cases (show x = .str a from qa)
      obtain ⟨t1, rfl⟩ := ra
      obtain ⟨l2, ys, e2, h2, r2⟩ := qb
      subst e2
      cases rb
      obtain ⟨js, w2, p2, _⟩ := I.list (hF.lst h2)
      exact SeqAt.RcNeAt.str_list a t1 p2.isList (by omega)
  | .tup ds, .non, n, x, y, u, v, A, oa, ob, qa, qb, ra, rb, hu => by
      obtain ⟨l1, xs, e1, h1, r1⟩ := qa
      subst e1
      cases ra
      obtain ⟨is, w1, p1, _⟩ := I.tuple (hF.tup h1)
      cases (show y = .non from qb)
      cases rb
      exact SeqAt.RcNeAt.tuple_none (show s.heap.IsTuple l1 is.toArray from p1) (by omega)
  | .tup ds, .bl b, n, x, y, u, v, A, oa, ob, qa, qb, ra, rb, hu => by
      obtain ⟨l1, xs, e1, h1, r1⟩ := qa
      subst e1
      cases ra
      obtain ⟨is, w1, p1, _⟩ := I.tuple (hF.tup h1)
      cases (show y = .bl b from qb)
      cases rb
      exact SeqAt.RcNeAt.tuple_bool b (show s.heap.IsTuple l1 is.toArray from p1) (by omega)
  | .tup ds, .int b, n, x, y, u, v, A, oa, ob, qa, qb, ra, rb, hu => by
      obtain ⟨l1, xs, e1, h1, r1⟩ := qa
      subst e1
      cases ra
      obtain ⟨is, w1, p1, _⟩ := I.tuple (hF.tup h1)
      cases (show y = .int b from qb)
      obtain ⟨t2, rfl⟩ := rb
      exact SeqAt.RcNeAt.tuple_int b t2 (show s.heap.IsTuple l1 is.toArray from p1) (by omega)
  | .tup ds, .str b, n, x, y, u, v, A, oa, ob, qa, qb, ra, rb, hu => by
      obtain ⟨l1, xs, e1, h1, r1⟩ := qa
      subst e1
      cases ra
      obtain ⟨is, w1, p1, _⟩ := I.tuple (hF.tup h1)
      cases (show y = .str b from qb)
      obtain ⟨t2, rfl⟩ := rb
      exact SeqAt.RcNeAt.tuple_str b t2 (show s.heap.IsTuple l1 is.toArray from p1) (by omega)
  | .tup ds, .tup es, n, x, y, u, v, A, oa, ob, qa, qb, ra, rb, hu => by
      obtain ⟨l1, xs, e1, h1, r1⟩ := qa
      subst e1
      cases ra
      obtain ⟨is, w1, p1, _⟩ := I.tuple (hF.tup h1)
      obtain ⟨l2, ys, e2, h2, r2⟩ := qb
      subst e2
      cases rb
      obtain ⟨js, w2, p2, _⟩ := I.tuple (hF.tup h2)
      have z1 := w1.length
      have z2 := w2.length
      have y1 := r1.length
      have y2 := r2.length
      cases n with
      | zero => exact absurd oa (by simp [okE])
      | succ n =>
        have oa' : okEs ds n = true := by simpa only [okE] using oa
        have ob' : okEs es n = true := by simpa only [okE] using ob
        have q := SeqAt.RcNeAt.tuples (A := A) (e := eqAtJ ds es) (show s.heap.IsTuple l1 is.toArray from p1) (show s.heap.IsTuple l2 js.toArray from p2) (by omega) (fun j h1 h2 => by
          obtain ⟨x', f1, g1⟩ := w1.atA h1
          obtain ⟨y', f2, g2⟩ := w2.atA h2
          obtain ⟨d1, k1, m1⟩ := r1.at f1
          obtain ⟨d2, k2, m2⟩ := r2.at f2
          have q := eqsAt_D I hF ds j d1 k1 d2 (n := n) (A := A.in1) (okEs_get oa' k1) (okEs_get ob' k2) m1 m2 g1 g2 (by show A.units + 1 + n < cLine; omega)
          have e5 : eqAtJ ds es j = eqD d1 d2 := by simp only [eqAtJ, k1, k2]
          rw [e5]
          exact q
          )
        have ez : is.toArray.size = ds.length := by simp; omega
        have ez2 : js.toArray.size = es.length := by simp; omega
        rw [ez, ez2, eqDs_zip _ (fun j a b h1 h2 => by simp only [eqAtJ, h1, h2])] at q
        exact q
  | .tup ds, .lst es, n, x, y, u, v, A, oa, ob, qa, qb, ra, rb, hu => by
      obtain ⟨l1, xs, e1, h1, r1⟩ := qa
      subst e1
      cases ra
      obtain ⟨is, w1, p1, _⟩ := I.tuple (hF.tup h1)
      obtain ⟨l2, ys, e2, h2, r2⟩ := qb
      subst e2
      cases rb
      obtain ⟨js, w2, p2, _⟩ := I.list (hF.lst h2)
      exact SeqAt.RcNeAt.tuple_list (show s.heap.IsTuple l1 is.toArray from p1) p2.isList (by omega)
  | .lst ds, .non, n, x, y, u, v, A, oa, ob, qa, qb, ra, rb, hu => by
      obtain ⟨l1, xs, e1, h1, r1⟩ := qa
      subst e1
      cases ra
      obtain ⟨is, w1, p1, _⟩ := I.list (hF.lst h1)
      cases (show y = .non from qb)
      cases rb
      exact SeqAt.RcNeAt.list_none p1.isList (by omega)
  | .lst ds, .bl b, n, x, y, u, v, A, oa, ob, qa, qb, ra, rb, hu => by
      obtain ⟨l1, xs, e1, h1, r1⟩ := qa
      subst e1
      cases ra
      obtain ⟨is, w1, p1, _⟩ := I.list (hF.lst h1)
      cases (show y = .bl b from qb)
      cases rb
      exact SeqAt.RcNeAt.list_bool b p1.isList (by omega)
  | .lst ds, .int b, n, x, y, u, v, A, oa, ob, qa, qb, ra, rb, hu => by
      obtain ⟨l1, xs, e1, h1, r1⟩ := qa
      subst e1
      cases ra
      obtain ⟨is, w1, p1, _⟩ := I.list (hF.lst h1)
      cases (show y = .int b from qb)
      obtain ⟨t2, rfl⟩ := rb
      exact SeqAt.RcNeAt.list_int b t2 p1.isList (by omega)
  | .lst ds, .str b, n, x, y, u, v, A, oa, ob, qa, qb, ra, rb, hu => by
      obtain ⟨l1, xs, e1, h1, r1⟩ := qa
      subst e1
      cases ra
      obtain ⟨is, w1, p1, _⟩ := I.list (hF.lst h1)
      cases (show y = .str b from qb)
      obtain ⟨t2, rfl⟩ := rb
      exact SeqAt.RcNeAt.list_str b t2 p1.isList (by omega)
  | .lst ds, .tup es, n, x, y, u, v, A, oa, ob, qa, qb, ra, rb, hu => by
      obtain ⟨l1, xs, e1, h1, r1⟩ := qa
      subst e1
      cases ra
      obtain ⟨is, w1, p1, _⟩ := I.list (hF.lst h1)
      obtain ⟨l2, ys, e2, h2, r2⟩ := qb
      subst e2
      cases rb
      obtain ⟨js, w2, p2, _⟩ := I.tuple (hF.tup h2)
      exact SeqAt.RcNeAt.list_tuple p1.isList (show s.heap.IsTuple l2 js.toArray from p2) (by omega)
  | .lst ds, .lst es, n, x, y, u, v, A, oa, ob, qa, qb, ra, rb, hu => by
      obtain ⟨l1, xs, e1, h1, r1⟩ := qa
      subst e1
      cases ra
      obtain ⟨is, w1, p1, _⟩ := I.list (hF.lst h1)
      obtain ⟨l2, ys, e2, h2, r2⟩ := qb
      subst e2
      cases rb
      obtain ⟨js, w2, p2, _⟩ := I.list (hF.lst h2)
      have z1 := w1.length
      have z2 := w2.length
      have y1 := r1.length
      have y2 := r2.length
      cases n with
      | zero => exact absurd oa (by simp [okE])
      | succ n =>
        have oa' : okEs ds n = true := by simpa only [okE] using oa
        have ob' : okEs es n = true := by simpa only [okE] using ob
        by_cases hl : ds.length = es.length
        · have q := SeqAt.RcNeAt.lists (A := A) (e := eqAtJ ds es) p1.isList p2.isList (by simp; omega) (by omega) (fun j h1 h2 => by
            obtain ⟨x', f1, g1⟩ := w1.atA h1
            obtain ⟨y', f2, g2⟩ := w2.atA h2
            obtain ⟨d1, k1, m1⟩ := r1.at f1
            obtain ⟨d2, k2, m2⟩ := r2.at f2
            have q := eqsAt_D I hF ds j d1 k1 d2 (n := n) (A := A.in1) (okEs_get oa' k1) (okEs_get ob' k2) m1 m2 g1 g2 (by show A.units + 1 + n < cLine; omega)
            have e5 : eqAtJ ds es j = eqD d1 d2 := by simp only [eqAtJ, k1, k2]
            rw [e5]
            exact q
            )
          have ez : is.toArray.size = ds.length := by simp; omega
          rw [ez, Deeps.all_eq (F := F) _ hl (fun j a b h1 h2 => by simp only [eqAtJ, h1, h2])] at q
          exact q
        · rw [show eqD (.lst ds) (.lst es) = false from eqDs_len hl]
          exact SeqAt.RcNeAt.lists_lengths (A := A) p1.isList p2.isList (by simp; omega) (by omega)
  | .ins _ _, _, _, _, _, _, _, _, oa, _, _, _, _, _, _ => by simp [okE] at oa
  | _, .ins _ _, _, _, _, _, _, _, _, ob, _, _, _, _, _ => by simp [okE] at ob
end
section
variable {X : Cx} {K : PySem.W.Frag} {W : Wish} {own ro : Bool}
theorem Post.blS {F H : Hp} {Q : VK} {pins : List (Addr × Obj)} {σ : St} {s : Shared} {b : Bool} (p : Post K W own F H (.ok (.bl b)) Q) (s1 : Same F H) (I : Inv X pins σ H s) : EP X pins σ Q (.bool b) s := ⟨.bl b, H, I, rfl, p.bl s1⟩
theorem o_eq (hu : X.A.units + 64 < cLine) (hK : X.K = K := by rfl) : Op2 K W own X (compareOp .Eq) eqM := by
  subst hK
  intro pins s σ H x y v u Q I rx ry h
  obtain ⟨F, a, b, s1, qa, qb, p⟩ := h
  unfold eqM at p
  by_cases hc : (okE a 40 && okE b 40) = true
  · rw [if_pos hc] at p
    simp only [Bool.and_eq_true] at hc
    exact rcAt_D I s1 a b hc.1 hc.2 qa qb rx ry (by omega) _ _ _ _ (p.blS s1 I)
  · rw [if_neg hc] at p; exact p.stuck
theorem o_ne (hu : X.A.units + 64 < cLine) (hK : X.K = K := by rfl) : Op2 K W own X (compareOp .NotEq) neM := by
  subst hK
  intro pins s σ H x y v u Q I rx ry h
  obtain ⟨F, a, b, s1, qa, qb, p⟩ := h
  unfold neM at p
  by_cases hc : (okE a 40 && okE b 40) = true
  · rw [if_pos hc] at p
    simp only [Bool.and_eq_true] at hc
    exact rcNeAt_D I s1 a b hc.1 hc.2 qa qb rx ry (by omega) _ _ _ _ (p.blS s1 I)
  · rw [if_neg hc] at p; exact p.stuck
end
end L2
namespace L2
open PySem PySem.Spec PyProof.Rows
section
variable {X : Cx} {pins : List (Addr × Obj)} {σ : St} {H : Hp} {s : Shared} {h' : Heap}
theorem Inv.turnedT {t' : Nat} {ch : List Addr} {T : Addr} {xs : List V} (I : Inv X pins σ H s) (hf : ∀ b ∈ ch, FpOk X pins H b) (k : ∀ b o, b ∉ ch → s.heap.get? b = some o → h'.get? b = some o) (hT : s.heap.objs.size ≤ T)
    (new : xs.length ≤ sizeLine ∧ ∃ its : List Value, Vals xs its ∧ IsTup h' T its.toArray) : Inv X pins σ (upd H T (.tup xs)) { s with heap := h', toks := t' } := by
  have hTn : H T = none := I.hok.fresh hT
  have nit : ∀ b u, H b = some u → b ∉ ch := fun b u e z => by rw [(hf b z).1] at e; cases e
  have old : ∀ {b : Addr} {o : Obj}, s.heap.get? b = some o → b ≠ T := fun {b o} e => Nat.ne_of_lt (Nat.lt_of_lt_of_le (Heap.lt_size e) hT)
  refine I.step (g' := s.gens) (d' := s.drawn) (ch := ch) (fun b hb => ?_) (fun b o _ _ hc e _ => k b o hc e) (fun b o _ _ hc e _ => ⟨o.slots, k b o hc e⟩) (fun b o _ e n => by rw [upd_ne (old e)]; exact n)
    (fun b o hc e => ⟨o, k b o hc e⟩) (fun b ys e => by rw [upd_ne (ne_of_none e hTn)]; exact e) (fun b o u e => by rw [upd_ne (ne_of_none e hTn)]; exact e) (fun b ps e => ⟨#[], by rw [upd_ne (ne_of_none e hTn), e]; simp⟩) (fun m hm => ?_) (fun b u e => ?_) I.bare
  · obtain ⟨f0, f1, f2, f3, f4, f5⟩ := hf b hb
    exact ⟨f3, f1, f4, f5⟩
  · obtain ⟨o, es, ep, ho, r⟩ := hm
    exact ⟨o, es, ep, k _ o (fun z => (hf _ z).2.1 rfl) ho, r⟩
  · by_cases hb : b = T
    · subst hb
      rw [upd_same] at e
      cases e
      exact new
    · rw [upd_ne hb] at e
      refine (I.hok b u e).stay (fun c v hc q => k c v ?_ q) (fun c q => ?_) fun c ys q => ?_
      · rcases hc with z | z
        · rw [z]; exact nit b u e
        · exact nit c _ z
      · rw [upd_ne (ne_of_none q hTn)]; exact q
      · rw [upd_ne (ne_of_none q hTn)]; exact q
theorem Inv.turnedL {t' : Nat} {ch : List Addr} (I : Inv X pins σ H s) (hf : ∀ b ∈ ch, FpOk X pins H b) (k : ∀ b o, b ∉ ch → s.heap.get? b = some o → h'.get? b = some o) : Inv X pins σ H { s with heap := h', toks := t' } := by
  have nit : ∀ b u, H b = some u → b ∉ ch := fun b u e z => by rw [(hf b z).1] at e; cases e
  refine I.step (g' := s.gens) (d' := s.drawn) (ch := ch) (fun b hb => ?_) (fun b o _ _ hc e _ => k b o hc e) (fun b o _ _ hc e _ => ⟨o.slots, k b o hc e⟩) (fun b o _ e n => n)
    (fun b o hc e => ⟨o, k b o hc e⟩) (fun b ys e => e) (fun b o u e => e) (fun b ps e => ⟨#[], by rw [e]; simp⟩) (fun m hm => ?_) (fun b u e => ?_) I.bare
  · obtain ⟨f0, f1, f2, f3, f4, f5⟩ := hf b hb
    exact ⟨f3, f1, f4, f5⟩
  · obtain ⟨o, es, ep, ho, r⟩ := hm
    exact ⟨o, es, ep, k _ o (fun z => (hf _ z).2.1 rfl) ho, r⟩
  · refine (I.hok b u e).stay (fun c v hc q => k c v ?_ q) (fun _ q => q) fun _ _ q => q
    rcases hc with z | z
    · rw [z]; exact nit b u e
    · exact nit c _ z
end
noncomputable def Ite (K : PySem.W.Frag) (a : Addr) : It :=
  ⟨fun i H => ∃ xs x, SqL K H a xs ∧ xs[i]? = some x, fun i H x H' => ∃ T y, H T = none ∧ x = .ref T ∧ H' = upd H T (.tup [.int i, y]) ∧ ∀ xs, SqL K H a xs → xs[i]? = some y, fun i H => ∃ xs, SqL K H a xs ∧ xs.length ≤ i⟩
theorem turn_enum {P : Program} {w : World} {K : PySem.W.Frag} {elts : List Expr} {k : Nat} {pos : Pos} (a e it : Addr) (hei : e ≠ it) : Turn P w K (.Tuple elts k pos) (Ite K a) [e, it] e (fun i h => (∃ old, IsEnum h e it i old) ∧ h.IsListIter it a i) where
  mem := by simp
  obj := fun i h st b hb => by
    obtain ⟨⟨old, he⟩, o, e1, c, d⟩ := st
    rcases List.mem_cons.mp hb with rfl | hb
    · exact ⟨_, he, fun v z => by cases z⟩
    · have : b = it := by simpa using hb
      subst this
      exact ⟨o, e1, fun v z => by rw [d] at z; cases z⟩
  keep := fun i h h' st kk => by
    obtain ⟨⟨old, he⟩, hit⟩ := st
    exact ⟨⟨old, kk e (by simp) _ he⟩, hit.at fun o x => kk it (by simp) o x⟩
  item := by
    intro X hP hw hK hc i pins s σ H E I hf st hg
    subst hP hw hK
    obtain ⟨⟨old, he⟩, hit⟩ := st
    obtain ⟨xs, x, hq, hx⟩ := hg
    obtain ⟨its, rv, p, hz⟩ := I.list hq
    obtain ⟨u, hu, ru⟩ := rv.get hx
    refine wpAny_pyNext_enum_item he hit p.isList (x := u) (by simpa using hu) hei fun h1 ho hit1 hT hsz hk => ?_
    refine ⟨_, rfl, wpAny_letOwnedTupleGo_enum ho fun h2 he2 hs2 => ?_⟩
    have hlt : e < s.heap.objs.size := Heap.lt_size he
    have hTe : s.heap.objs.size ≠ e := Nat.ne_of_gt hlt
    have I1 : Inv X pins σ (upd H s.heap.objs.size (.tup [.int i, x])) { s with heap := h2, toks := s.toks + 1 } := I.turnedT (ch := [e, it]) hf (fun b o hb q => by
        have h3 := hk b o (fun z => hb (by simp [z])) (fun z => hb (by simp [z])) q
        exact (hs2.2 b (fun z => hb (by simp [z]))).trans h3) (Nat.le_refl _) ⟨by show 2 ≤ sizeLine; decide, [.int i s.toks, u], .cons ⟨_, rfl⟩ (.cons ru .nil), ⟨_, (hs2.2 _ hTe).trans hT, rfl, 0, rfl⟩⟩
    refine ⟨.ref s.heap.objs.size, _, I1, rfl, ⟨s.heap.objs.size, x, I.hok.fresh (Nat.le_refl _), rfl, rfl, fun ys hy => by rw [I.list_inj hy hq]; exact hx⟩, ⟨⟨u, by simpa using he2⟩, hit1.at fun o y => (hs2.2 it hei.symm).trans y⟩, fun b hb => ?_⟩
    have hbn := (hf b hb).1
    have : b ≠ s.heap.objs.size := by
      rcases List.mem_cons.mp hb with rfl | hb
      · exact hTe.symm
      · have : b = it := by simpa using hb
        subst this
        obtain ⟨o, e1, _⟩ := hit
        exact Nat.ne_of_lt (Heap.lt_size e1)
    rw [upd_ne this]
    exact hbn
  done := by
    intro X hP hw hK hc i pins s σ H E I hf st hg
    subst hP hw hK
    obtain ⟨⟨old, he⟩, hit⟩ := st
    obtain ⟨xs, hq, hx⟩ := hg
    obtain ⟨its, rv, p, hz⟩ := I.list hq
    have hl := rv.length
    exact wpAny_pyNext_enum_end (I.ok.hd hc) he hit p.isList (Array.getElem?_eq_none (by simp; omega)) fun h2 eb => ⟨rfl, I.turnedL (t' := s.toks) (ch := [e, it]) hf fun b o hb q => eb b o (fun z => hb (by simp [z])) q⟩
  self := fun _ _ _ _ _ st h => by
    obtain ⟨⟨old, he⟩, _⟩ := st
    exact wpAny_pyIter_enum he h
theorem enumL_get : ∀ (ds : List Dat) (k i : Nat), (enumL k ds)[i]? = (ds[i]?).map fun d => .tup [.int ((k + i : Nat) : Int), d]
  | [], k, i => by simp [enumL]
  | d :: ds, k, 0 => by simp [enumL]
  | d :: ds, k, i + 1 => by
    rw [enumL, List.getElem?_cons_succ, enumL_get ds (k + 1) i, List.getElem?_cons_succ]
    rw [show k + 1 + i = k + (i + 1) by omega]
theorem enumL_len : ∀ (ds : List Dat) (k : Nat), (enumL k ds).length = ds.length
  | [], _ => rfl
  | d :: ds, k => by rw [enumL, List.length_cons, enumL_len ds, List.length_cons]
theorem iter_enum {K : PySem.W.Frag} {F : Hp} {a : Addr} {xs : List V} {ds : List Dat} (t : SqL K F a xs) (z : Deeps K F ds xs) : IterD K F (Ite K a) (enumL 0 ds) where
  go := fun i F' H' s1 s2 hi => ⟨xs, xs[i]'(by rw [z.length]; rw [enumL_len] at hi; exact hi), s2.lst (s1.lst t), by rw [enumL_len] at hi; simp [z.length, hi]⟩
  yl := fun i F' H' x H2 d s1 s2 hd hy => by
    obtain ⟨T, y, hT, ex, eH, hy⟩ := hy
    subst ex eH
    rw [enumL_get] at hd
    cases hds : ds[i]? with
    | none => rw [hds] at hd; cases hd
    | some d' =>
      rw [hds] at hd
      simp at hd
      subst hd
      obtain ⟨v, e1, q⟩ := z.get hds
      have e2 := hy xs (s2.lst (s1.lst t))
      rw [e1] at e2
      cases e2
      refine ⟨upd F' T (.tup [.int i, y]), Step.lay s2 hT, T, _, rfl, SqT.of upd_same, ?_⟩
      exact ⟨.int i, [y], rfl, rfl, y, [], rfl, (q.mono s1).mono (Same.upd (s2.free hT)), rfl⟩
  st := fun F' H' s1 s2 => ⟨xs, s2.lst (s1.lst t), by rw [z.length, enumL_len]; exact Nat.le_refl _⟩
section
variable {X : Cx} {K : PySem.W.Frag} {W : Wish} {own ro : Bool} {e a b c : Expr} {es : List Expr} {x : Str} {pos p : Pos} {f fa fb fc : Env' → M Dat} {fr : Env' → M (List Dat)} {ft : Env' → M Bool}
theorem dts_nil : PTs X [] (tDT K W fYes) := fun pins s σ H Q I h => pts_nil pins s σ H Q I (by
  obtain ⟨F, ρ, r, s1, q⟩ := h
  exact q F H (Step.refl s1))
theorem dgs_nil : PGs X [] (gNames []) := pgs_nil
theorem dgs_cons {i : Nat} {is : List Nat} (hN : X.N.Nodup) (h2 : PGs X es (gNames is)) (hi : X.N[i]? = some x := by rfl) (hx : Loc X.env.scope x := by first | exact Or.inl rfl | exact Or.inr rfl) (hf : X.fn x = true ∨ X.env.scope.names.lookup x = some .local := by first | exact .inl rfl | exact .inr rfl | assumption)
    (hs : (assignEach (.Name x p :: es) X.env).map (·.2) = assign (.Name x p) X.env :: (assignEach es X.env).map (·.2) := by rfl) : PGs X (.Name x p :: es) (gNames (i :: is)) := pgs_cons (pg_name hN hi hx hf) h2 hs
theorem dg_tp {k : Nat} {is : List Nat} (hc : X.calm = true) (h : PGs X es (gNames is)) (hn : (assignEach es X.env).length = is.length := by rfl) (hst : (assignEach es X.env).findIdx? (·.1) = none := by rfl) (hK : X.K = K := by rfl) : DG K X (.Tuple es k pos) (.tp is) := by
  subst hK
  exact pg_tup hc h hn hst
theorem dgc_nm {N' : List Str} {sc : Scope} {L : Addr} {cs : List (Str × Addr)} {s : Shared} {H : Hp} {fp : List Addr} {i : Nat} (hN : N'.Nodup) (hi : N'[i]? = some x := by rfl) (hx : Loc (cxComp X N' sc L cs s H fp).env.scope x := by first | exact Or.inl rfl | exact Or.inr rfl)
    (hf : (cxComp X N' sc L cs s H fp).fn x = true ∨ (cxComp X N' sc L cs s H fp).env.scope.names.lookup x = some .local := by first | exact .inl rfl | exact .inr rfl | assumption) : DG K (cxComp X N' sc L cs s H fp) (.Name x pos) (.nm i) := pg_c hN hi hx hf
variable {sc : Scope} {tg elt iter : Expr} {ifs : List Expr} {fi : Env' → M (List Dat)} {pt : Pat} {fe : Env' → M Dat} {spos py : Pos}
theorem de_comp (N' : List Str) (ix : List (Option Nat)) (hi : DI K W X tg iter fi) (hg : ∀ L cs s H fp, DG K (cxComp X N' sc L cs s H fp) tg pt) (hl : Leaves ix (gP K pt))
    (ht : ∀ L cs s H fp, PTs (cxComp X N' sc L cs s H fp) ifs (tDT K W ft)) (he : ∀ L cs s H fp, DE K W false (cxComp X N' sc L cs s H fp) elt fe) (hc : X.calm = true := by rfl)
    (ok : compOk X.N X.env.scope N' sc ix = true := by rfl) (hk : sc.kind = .function := by rfl) (hs : ∀ x, foldedSetIterable iter X.env x = pure x := by intro _; rfl) :
    DE K W true X (.ListComp elt [⟨tg, iter, ifs, 0⟩] sc pos) (fComp fi ix pt ft fe) := (pe_comp N' ix hc hi hg hl ht he ok hk hs).imp fun _ _ _ => rd_comp
theorem ds_setI {OL O : List Nat} {i : Nat} {q r : Pos} {fk : Env' → M Dat} (he : DE K W false X e f) (hk : DE K W false X b fk) (ho : i ∈ O := by decide) (hN : X.N[i]? = some x := by rfl) (hv : Vis X.env.scope x := by first | exact Or.inl rfl | exact Or.inr (Or.inl rfl) | exact Or.inr (Or.inr rfl)) (hd : (x == ("__debug__" : Str)) = false := by decide) (hcd : (x == ("__classdict__" : Str)) = false := by decide)
    (ha : ∀ v, assign (.Subscript (.Name x p) b q) X.env v = (do
      let ov ← holding [v] (eval (.Name x p) X.env)
      let iv ← holding [v, ov] (eval b X.env)
      standAt q
      holding [v, ov, iv] (setItem ov iv v)
      release [v, ov, iv] []) := by intro _; rfl) (hs : swapsWithSole [.Subscript (.Name x p) b q] e r.line X.env = pure false := by rfl) (hw : swappedStores [.Subscript (.Name x p) b q] e X.env = pure none := by rfl)
    (h1 : (assignEach [.Subscript (.Name x p) b q] X.env).map (·.2) = [assign (.Subscript (.Name x p) b q) X.env] := by rfl) :
    DS K W ro X OL O O (.Assign [.Subscript (.Name x p) b q] e r) (sSetI i fk f) := fun F0 H0 => (ps_asg he (pg_sub (pv i hN hv hd hcd) hk set_list ha) hs hw h1).imp fun _ _ _ => rs_setI ho
noncomputable def spF (K : PySem.W.Frag) (ro : Bool) (g : List Dat → M Dat) (n : Nat) : Sp := fun vs H Q _ => ∃ F ds, Same F H ∧ Deeps K F ds vs ∧ ds.length = n ∧ Post K Wno ro F H (g ds) Q
theorem runB_len {nN n : Nat} {g : Env' → M Flo} {ds : List Dat} (h : ds.length ≠ n) : runB nN n g ds = stk := by unfold runB; rw [if_neg h]
theorem de_call {k nN n : Nat} {fad : Addr} {fd : FuncData} {ps : List Str} {g : Env' → M Flo} (F : FnOk X.prog X.w X.K X.mg X.base CX0 k fad fd ps (spF K ro (runB nN n g) n)) (hr : Room k X.A) (hm : X.mg x = some (.ref fad)) (hk : PySem.W.keepIn X.K (.ref fad) = true) (hb : Binds X.K fd ps [])
    (ha : DA K Wno X (e :: es) fr) (hg : Gl X x := by rfl) (hdb : (x == ("__debug__" : Str)) = false := by decide) (hst : starEach (e :: es) X.env = (false, eval e X.env) :: starEach es X.env := by rfl) (hpl : (backTo pos (starEach es X.env)).any (·.1) = false := by rfl) :
    DE K Wno ro X (.Call (.Name x p) (e :: es) [] pos) (fL (runB nN n g) fr) := by
  refine PE.imp (pe_call F hr hg hm hk hb .nil pass0 ha hdb hst hpl) fun σ H Q h => ?_
  obtain ⟨F, ρ, r, s, p⟩ := rd_L h
  refine ⟨F, ρ, r, s, ?_⟩
  cases e1 : fr ρ with
  | error z => rw [e1] at p; exact p
  | ok ds =>
    rw [e1] at p
    intro vs F' H' st q
    obtain ⟨F1, es1, s1, q1, z⟩ := p vs F' H' st q
    show spF K ro (runB nN n g) n (vs ++ []) H' Q E0
    rw [List.append_nil]
    by_cases hl : es1.length = n
    · exact ⟨F1, es1, s1, q1, hl, z⟩
    · rw [runB_len hl] at z
      exact Post.stuck z
end
section
variable {P : Program} {w : World} {K : PySem.W.Frag} {mg : Str → Option Value} {base : Heap}
theorem start_get {N : List Str} {vs : List V} {ds : List Dat} {i : Nat} {d : Dat} {F : Hp} (q : Deeps K F ds vs) (h : (ds.map some ++ List.replicate (N.length - ds.length) none)[i]? = some (some d)) : ∃ v, (start N vs)[i]? = some (some v) ∧ Deep K F d v := by
  have hi : i < ds.length := by
    by_cases hi : i < ds.length
    · exact hi
    · rw [List.getElem?_append_right (by simpa using hi), List.getElem?_replicate] at h
      split at h <;> cases h
  rw [List.getElem?_append_left (by simpa using hi), List.getElem?_map] at h
  cases e : ds[i]? with
  | none => rw [e] at h; cases h
  | some d' =>
    rw [e] at h
    cases h
    obtain ⟨v, e1, q1⟩ := q.get e
    refine ⟨v, ?_, q1⟩
    unfold start
    rw [List.getElem?_append_left (by rw [List.length_map, q.length]; exact hi), List.getElem?_map, e1]
    rfl
theorem fn_D {x qual : Str} {st : Stmt} {f : Addr} {fd : FuncData} {N ps : List Str} {k : Nat} {O' : List Nat} (F : Fun K x qual st f fd) (S : FnScope N ps (defScope st)) (ro : Bool) (g : Env' → M Flo)
    (hb : ∀ (cdv : Value) (A : Around) (outer : List Env) (s : Shared) (H : Hp) (E : XK), Room k (A.deeper (envOfC qual (defScope st) s.heap.objs.size f cdv)) →
      DSs K Wno ro (cxOf CX0 P w K mg base N qual (defScope st) f cdv A outer s H E).nox [] [] O' (defBody st) g) : FnOk P w K mg base CX0 (k + 1) f fd ps (spF K ro (runB N.length ps.length g) ps.length) := by
  have hpl : ps.length ≤ N.length := by have := congrArg List.length S.pre; rw [List.length_take] at this; omega
  refine F.okX S (fun vs H Q E ⟨F, ds, s, q, l, p⟩ => by rw [q.length, l]) fun cdv A outer s H vs Q E hr ⟨F1, ds, s1, q, l, p⟩ => ⟨_, hb cdv A outer s H E hr F1 H, F1, F1, ds.map some ++ List.replicate (N.length - ds.length) none, ?_, ?_⟩
  · refine ⟨Step.refl s1, Same.refl _, ?_, fun i d e _ => start_get q e, (fun i d e h => nomatch h), (fun i j ds es a h => nomatch h)⟩
    unfold start
    rw [List.length_append, List.length_append, List.length_map, List.length_map, List.length_replicate, List.length_replicate, q.length]
  · have e1 : runB N.length ps.length g ds = (g (ds.map some ++ List.replicate (N.length - ds.length) none)).bind fun fl => match fl with
      | .nx _ => .ok .non
      | .rt d => .ok d
      | _ => stk := by
        unfold runB
        exact if_pos l
    rw [e1] at p
    cases e2 : g (ds.map some ++ List.replicate (N.length - ds.length) none) with
    | error z => rw [e2] at p; exact p
    | ok fl =>
      rw [e2] at p
      cases fl with
      | nx ρ => exact fun σ F H r => p .non F H r.st (by cases ro <;> rfl)
      | rt d => exact fun v F H st q => p v F H st q
      | bk ρ => exact Post.stuck p
      | ct ρ => exact Post.stuck p
noncomputable def spLaw (K : PySem.W.Frag) : Sp := fun vs H Q _ => ∃ (a : Addr) (ns : List Int), vs = [.ref a] ∧ SqL K H a (ns.map V.int) ∧ ns.length ≤ 63 ∧ ∀ H', Q (.bl true) H'
theorem deeps_ints {F : Hp} : ∀ is : List Int, Deeps K F (is.map Dat.int) (is.map V.int)
  | [] => rfl
  | i :: is => ⟨.int i, is.map V.int, rfl, rfl, deeps_ints is⟩
theorem law_ok {k : Nat} {f : Addr} {fd : FuncData} {x : Str} {ro : Bool} {mlaw : Nat → List Dat → M Dat} (F : ∀ n, FnOk P w K mg base CX0 k f fd [x] (spF K ro (mlaw n) 1)) (h : ∀ ns : List Int, ns.length ≤ 63 → ∃ n, mlaw n [.lst (ns.map .int)] = .ok (.bl true)) : FnOk P w K mg base CX0 k f fd [x] (spLaw K) := by
  refine ⟨fun vs H Q E ⟨a, ns, e, _⟩ => by rw [e]; rfl, fun A outer s H args us vs Q E hr he hb hv ⟨a, ns, e, hq, hl, q⟩ => ?_⟩
  obtain ⟨n, hn⟩ := h ns hl
  refine (F n).run A outer s H args us vs Q E hr he hb hv ⟨H, [.lst (ns.map .int)], Same.refl _, ⟨.ref a, [], e, ⟨a, _, rfl, hq, deeps_ints ns⟩, rfl⟩, rfl, ?_⟩
  rw [hn]
  intro v F' H' st z
  have : v = .bl true := by cases ro <;> exact z
  rw [this]
  exact q H'
end
end L2
namespace L2
open PySem PySem.Spec PyProof.Rows
structure Kit (K : PySem.W.Frag) : Prop where
  q_int_int : PySem.W.kitOne K (.type "int") (.type "int") = some true
  q_bool_int : PySem.W.kitOne K (.type "bool") (.type "int") = some true
  q_list_int : PySem.W.kitOne K (.type "list") (.type "int") = some false
  q_tuple_int : PySem.W.kitOne K (.type "tuple") (.type "int") = some false
  q_str_int : PySem.W.kitOne K (.type "str") (.type "int") = some false
  q_NoneType_int : PySem.W.kitOne K (.type "NoneType") (.type "int") = some false
  q_int_bool : PySem.W.kitOne K (.type "int") (.type "bool") = some false
  q_bool_bool : PySem.W.kitOne K (.type "bool") (.type "bool") = some true
  q_list_bool : PySem.W.kitOne K (.type "list") (.type "bool") = some false
  q_tuple_bool : PySem.W.kitOne K (.type "tuple") (.type "bool") = some false
  q_str_bool : PySem.W.kitOne K (.type "str") (.type "bool") = some false
  q_NoneType_bool : PySem.W.kitOne K (.type "NoneType") (.type "bool") = some false
  q_int_list : PySem.W.kitOne K (.type "int") (.type "list") = some false
  q_bool_list : PySem.W.kitOne K (.type "bool") (.type "list") = some false
  q_list_list : PySem.W.kitOne K (.type "list") (.type "list") = some true
  q_tuple_list : PySem.W.kitOne K (.type "tuple") (.type "list") = some false
  q_str_list : PySem.W.kitOne K (.type "str") (.type "list") = some false
  q_NoneType_list : PySem.W.kitOne K (.type "NoneType") (.type "list") = some false
  q_int_tuple : PySem.W.kitOne K (.type "int") (.type "tuple") = some false
  q_bool_tuple : PySem.W.kitOne K (.type "bool") (.type "tuple") = some false
  q_list_tuple : PySem.W.kitOne K (.type "list") (.type "tuple") = some false
  q_tuple_tuple : PySem.W.kitOne K (.type "tuple") (.type "tuple") = some true
  q_str_tuple : PySem.W.kitOne K (.type "str") (.type "tuple") = some false
  q_NoneType_tuple : PySem.W.kitOne K (.type "NoneType") (.type "tuple") = some false
  q_int_str : PySem.W.kitOne K (.type "int") (.type "str") = some false
  q_bool_str : PySem.W.kitOne K (.type "bool") (.type "str") = some false
  q_list_str : PySem.W.kitOne K (.type "list") (.type "str") = some false
  q_tuple_str : PySem.W.kitOne K (.type "tuple") (.type "str") = some false
  q_str_str : PySem.W.kitOne K (.type "str") (.type "str") = some true
  q_NoneType_str : PySem.W.kitOne K (.type "NoneType") (.type "str") = some false
section
variable {X : Cx} {K : PySem.W.Frag} {W : Wish} {own ro : Bool} {e a b c : Expr} {es : List Expr} {x : Str} {pos p p2 : Pos} {f fa fb fc : Env' → M Dat} {fr : Env' → M (List Dat)} {ft : Env' → M Bool}
theorem isi_D {pins : List (Addr × Obj)} {σ : St} {F H : Hp} {s : Shared} {T : String} {d : Dat} {x : V} {u : Value} {bi bb bl bt bs bn : Bool} {Q : Value → Shared → Prop} (I : Inv X pins σ H s) (hF : Same F H) (q : Deep X.K F d x) (r : RelV x u)
    (hi : PySem.W.kitOne X.K (.type "int") (.type T) = some bi) (hb : PySem.W.kitOne X.K (.type "bool") (.type T) = some bb) (hl : PySem.W.kitOne X.K (.type "list") (.type T) = some bl) (ht : PySem.W.kitOne X.K (.type "tuple") (.type T) = some bt)
    (hs : PySem.W.kitOne X.K (.type "str") (.type T) = some bs) (hn : PySem.W.kitOne X.K (.type "NoneType") (.type T) = some bn)
    (h : ∀ k tk, (match d with | .int _ => k = bi | .bl _ => k = bb | .lst _ => k = bl | .tup _ => k = bt | .str _ => k = bs | .non => k = bn | .ins _ _ => False) → Q (.bool k) { s with toks := tk }) (no : ∀ C fs, d ≠ .ins C fs) :
    wpAny (model X.prog X.w) X.A (call (.builtin "isinstance") [u, .type T]) Q X.xe s := by
  cases d with
  | non => cases (show x = .non from q); cases r; exact PySem.W.kia_one PySem.W.kitx_none I.kIn True.intro hn (fun z => nomatch z) fun tk => h _ tk rfl
  | bl y => cases (show x = .bl y from q); cases r; exact PySem.W.kia_one PySem.W.kitx_bool I.kIn True.intro hb (fun z => nomatch z) fun tk => h _ tk rfl
  | int i => cases (show x = .int i from q); obtain ⟨t, rfl⟩ := r; exact PySem.W.kia_one PySem.W.kitx_int I.kIn True.intro hi (fun z => nomatch z) fun tk => h _ tk rfl
  | str y => cases (show x = .str y from q); obtain ⟨t, rfl⟩ := r; exact PySem.W.kia_one PySem.W.kitx_str I.kIn True.intro hs (fun z => nomatch z) fun tk => h _ tk rfl
  | lst ds =>
    obtain ⟨l, xs, e, t, _⟩ := q
    subst e
    cases r
    obtain ⟨its, _, pl, _⟩ := I.list (hF.lst t)
    obtain ⟨o, h1, h2, _⟩ := pl.isList
    exact PySem.W.kia_one PySem.W.kitx_list I.kIn ⟨o, h1, h2⟩ hl (fun z => nomatch z) fun tk => h _ tk rfl
  | tup ds =>
    obtain ⟨l, xs, e, t, _⟩ := q
    subst e
    cases r
    obtain ⟨its, _, pl, _⟩ := I.tuple (hF.tup t)
    obtain ⟨o, h1, h2, _⟩ := pl
    exact PySem.W.kia_one PySem.W.kitx_tuple I.kIn ⟨o, h1, h2⟩ ht (fun z => nomatch z) fun tk => h _ tk rfl
  | ins C fs => exact absurd rfl (no C fs)
theorem de_isi {T : String} {y : Str} {g : Dat → M Dat} (hc : CallR X (.builtin "isinstance") (fun xs H Q => ∃ v, xs = [v, .ty T] ∧ rD1 K W own g v H Q)) (hm : X.mg "isinstance" = none) (hmT : X.mg y = none) (hvT : bootBuiltins y = some (.type T)) (ha : DE K W false X a fa)
    (hg : Gl X "isinstance" := by rfl) (hgT : Gl X y := by rfl) (hn : y ≠ "__name__" := by decide) (hd : (y == ("__debug__" : Str)) = false := by decide)
    (hst : starEach [a, .Name y p2] X.env = [(false, eval a X.env), (false, eval (.Name y p2) X.env)] := by rfl) (hst2 : starEach [.Name y p2] X.env = [(false, eval (.Name y p2) X.env)] := by rfl) (hpl : (backTo pos (starEach [.Name y p2] X.env)).any (·.1) = false := by rfl) :
    DE K W own X (.Call (.Name "isinstance" p) [a, .Name y p2] [] pos) (f1 g fa) :=
  (pe_callB hc hg hm boot_isinstance (pa_cons ha (pa_cons (pe_tyN (pos := p2) hgT hmT hvT hn hd) pa_nil hst2) (by rw [hst, hst2])) (by decide) (by decide) (by rw [hst, hst2]) hpl).imp fun σ H Q h => by
    obtain ⟨F, ρ, r, s, q⟩ := rd_1 h
    refine ⟨F, ρ, r, s, ?_⟩
    cases e1 : fa ρ with
    | error z => rw [e1] at q; exact q
    | ok d => rw [e1] at q; exact fun v F' H' st z => ⟨v, rfl, q v F' H' st z⟩
theorem c_isi_int (kit : Kit K) (hK : X.K = K := by rfl) : CallR X (.builtin "isinstance") (fun xs H Q => ∃ v, xs = [v, .ty "int"] ∧ rD1 K W own isi_intD v H Q) := by
  subst hK
  intro pins s σ H xs us Q I r h
  obtain ⟨v, rfl, F, d, s1, q, p⟩ := h
  obtain ⟨u, w, rfl, ru, rw'⟩ := r.two
  cases (show w = Value.type "int" from rw')
  by_cases hi : ∃ C fs, d = .ins C fs
  · obtain ⟨C, fs, rfl⟩ := hi
    exact Post.stuck p
  · refine isi_D I s1 q ru kit.q_int_int kit.q_bool_int kit.q_list_int kit.q_tuple_int kit.q_str_int kit.q_NoneType_int (fun k tk hk => ⟨.bl k, H, I.tok tk, rfl, ?_⟩) (fun C fs e => hi ⟨C, fs, e⟩)
    cases d <;> first | (have hk' : k = _ := hk; subst hk'; exact Post.bl (own := own) p s1) | exact absurd ⟨_, _, rfl⟩ hi
theorem de_isi_int (kit : Kit K) (hm : X.mg "isinstance" = none) (hmT : X.mg "int" = none) (ha : DE K W false X a fa) (hK : X.K = K := by rfl)
    (hg : Gl X "isinstance" := by rfl) (hgT : Gl X "int" := by rfl)
    (hst : starEach [a, .Name "int" p2] X.env = [(false, eval a X.env), (false, eval (.Name "int" p2) X.env)] := by rfl) (hst2 : starEach [.Name "int" p2] X.env = [(false, eval (.Name "int" p2) X.env)] := by rfl) (hpl : (backTo pos (starEach [.Name "int" p2] X.env)).any (·.1) = false := by rfl) :
    DE K W own X (.Call (.Name "isinstance" p) [a, .Name "int" p2] [] pos) (f1 isi_intD fa) := de_isi (c_isi_int kit hK) hm hmT (by decide +kernel) ha hg hgT (by decide) (by decide) hst hst2 hpl
theorem c_isi_bool (kit : Kit K) (hK : X.K = K := by rfl) : CallR X (.builtin "isinstance") (fun xs H Q => ∃ v, xs = [v, .ty "bool"] ∧ rD1 K W own isi_boolD v H Q) := by
  subst hK
  intro pins s σ H xs us Q I r h
  obtain ⟨v, rfl, F, d, s1, q, p⟩ := h
  obtain ⟨u, w, rfl, ru, rw'⟩ := r.two
  cases (show w = Value.type "bool" from rw')
  by_cases hi : ∃ C fs, d = .ins C fs
  · obtain ⟨C, fs, rfl⟩ := hi
    exact Post.stuck p
  · refine isi_D I s1 q ru kit.q_int_bool kit.q_bool_bool kit.q_list_bool kit.q_tuple_bool kit.q_str_bool kit.q_NoneType_bool (fun k tk hk => ⟨.bl k, H, I.tok tk, rfl, ?_⟩) (fun C fs e => hi ⟨C, fs, e⟩)
    cases d <;> first | (have hk' : k = _ := hk; subst hk'; exact Post.bl (own := own) p s1) | exact absurd ⟨_, _, rfl⟩ hi
theorem de_isi_bool (kit : Kit K) (hm : X.mg "isinstance" = none) (hmT : X.mg "bool" = none) (ha : DE K W false X a fa) (hK : X.K = K := by rfl)
    (hg : Gl X "isinstance" := by rfl) (hgT : Gl X "bool" := by rfl)
    (hst : starEach [a, .Name "bool" p2] X.env = [(false, eval a X.env), (false, eval (.Name "bool" p2) X.env)] := by rfl) (hst2 : starEach [.Name "bool" p2] X.env = [(false, eval (.Name "bool" p2) X.env)] := by rfl) (hpl : (backTo pos (starEach [.Name "bool" p2] X.env)).any (·.1) = false := by rfl) :
    DE K W own X (.Call (.Name "isinstance" p) [a, .Name "bool" p2] [] pos) (f1 isi_boolD fa) := de_isi (c_isi_bool kit hK) hm hmT (by decide +kernel) ha hg hgT (by decide) (by decide) hst hst2 hpl
theorem c_isi_list (kit : Kit K) (hK : X.K = K := by rfl) : CallR X (.builtin "isinstance") (fun xs H Q => ∃ v, xs = [v, .ty "list"] ∧ rD1 K W own isi_listD v H Q) := by
  subst hK
  intro pins s σ H xs us Q I r h
  obtain ⟨v, rfl, F, d, s1, q, p⟩ := h
  obtain ⟨u, w, rfl, ru, rw'⟩ := r.two
  cases (show w = Value.type "list" from rw')
  by_cases hi : ∃ C fs, d = .ins C fs
  · obtain ⟨C, fs, rfl⟩ := hi
    exact Post.stuck p
  · refine isi_D I s1 q ru kit.q_int_list kit.q_bool_list kit.q_list_list kit.q_tuple_list kit.q_str_list kit.q_NoneType_list (fun k tk hk => ⟨.bl k, H, I.tok tk, rfl, ?_⟩) (fun C fs e => hi ⟨C, fs, e⟩)
    cases d <;> first | (have hk' : k = _ := hk; subst hk'; exact Post.bl (own := own) p s1) | exact absurd ⟨_, _, rfl⟩ hi
theorem de_isi_list (kit : Kit K) (hm : X.mg "isinstance" = none) (hmT : X.mg "list" = none) (ha : DE K W false X a fa) (hK : X.K = K := by rfl)
    (hg : Gl X "isinstance" := by rfl) (hgT : Gl X "list" := by rfl)
    (hst : starEach [a, .Name "list" p2] X.env = [(false, eval a X.env), (false, eval (.Name "list" p2) X.env)] := by rfl) (hst2 : starEach [.Name "list" p2] X.env = [(false, eval (.Name "list" p2) X.env)] := by rfl) (hpl : (backTo pos (starEach [.Name "list" p2] X.env)).any (·.1) = false := by rfl) :
    DE K W own X (.Call (.Name "isinstance" p) [a, .Name "list" p2] [] pos) (f1 isi_listD fa) := de_isi (c_isi_list kit hK) hm hmT (by decide +kernel) ha hg hgT (by decide) (by decide) hst hst2 hpl
theorem c_isi_tuple (kit : Kit K) (hK : X.K = K := by rfl) : CallR X (.builtin "isinstance") (fun xs H Q => ∃ v, xs = [v, .ty "tuple"] ∧ rD1 K W own isi_tupleD v H Q) := by
  subst hK
  intro pins s σ H xs us Q I r h
  obtain ⟨v, rfl, F, d, s1, q, p⟩ := h
  obtain ⟨u, w, rfl, ru, rw'⟩ := r.two
  cases (show w = Value.type "tuple" from rw')
  by_cases hi : ∃ C fs, d = .ins C fs
  · obtain ⟨C, fs, rfl⟩ := hi
    exact Post.stuck p
  · refine isi_D I s1 q ru kit.q_int_tuple kit.q_bool_tuple kit.q_list_tuple kit.q_tuple_tuple kit.q_str_tuple kit.q_NoneType_tuple (fun k tk hk => ⟨.bl k, H, I.tok tk, rfl, ?_⟩) (fun C fs e => hi ⟨C, fs, e⟩)
    cases d <;> first | (have hk' : k = _ := hk; subst hk'; exact Post.bl (own := own) p s1) | exact absurd ⟨_, _, rfl⟩ hi
theorem de_isi_tuple (kit : Kit K) (hm : X.mg "isinstance" = none) (hmT : X.mg "tuple" = none) (ha : DE K W false X a fa) (hK : X.K = K := by rfl)
    (hg : Gl X "isinstance" := by rfl) (hgT : Gl X "tuple" := by rfl)
    (hst : starEach [a, .Name "tuple" p2] X.env = [(false, eval a X.env), (false, eval (.Name "tuple" p2) X.env)] := by rfl) (hst2 : starEach [.Name "tuple" p2] X.env = [(false, eval (.Name "tuple" p2) X.env)] := by rfl) (hpl : (backTo pos (starEach [.Name "tuple" p2] X.env)).any (·.1) = false := by rfl) :
    DE K W own X (.Call (.Name "isinstance" p) [a, .Name "tuple" p2] [] pos) (f1 isi_tupleD fa) := de_isi (c_isi_tuple kit hK) hm hmT (by decide +kernel) ha hg hgT (by decide) (by decide) hst hst2 hpl
theorem Vals.of_get : ∀ {xs : List V} {us : List Value}, xs.length = us.length → (∀ (i : Nat) v u, xs[i]? = some v → us[i]? = some u → RelV v u) → Vals xs us
  | [], [], _, _ => .nil
  | [], _ :: _, h, _ => by simp at h
  | _ :: _, [], h, _ => by simp at h
  | x :: xs, u :: us, h, q => .cons (q 0 x u rfl rfl) (Vals.of_get (by simpa using h) fun i v w h1 h2 => q (i + 1) v w (by simpa using h1) (by simpa using h2))
end
end L2
namespace L2
open PySem PySem.Spec PyProof.Rows
end L2
namespace L2
open PySem PySem.Spec PyProof.Rows
open PySem.W in
noncomputable def tRun {α : Type} (lt : Nat → Nat → Bool) : KasT α → α
  | .ret a => a
  | .ask i j k => tRun lt (k (lt i j))
section
open PySem.W
variable {α β : Type} {lt : Nat → Nat → Bool}
theorem tRun_bind (f : α → KasT β) : ∀ t : KasT α, tRun lt (t.bind f) = tRun lt (f (tRun lt t))
  | .ret _ => rfl
  | .ask i j k => tRun_bind f (k (lt i j))
variable {key : Nat → Int} {p : Array Nat}
noncomputable def kAt (key : Nat → Int) (p : Array Nat) (i : Nat) : Int := key (p.getD i 0)
noncomputable def Up (key : Nat → Int) (p : Array Nat) (k : Nat) : Prop := ∀ i j, i ≤ j → j < k → kAt key p i ≤ kAt key p j
noncomputable def Down (key : Nat → Int) (p : Array Nat) (k : Nat) : Prop := ∀ i j, i ≤ j → j < k → kAt key p j ≤ kAt key p i
theorem kAt_congr {p q : Array Nat} {i j : Nat} (h : p[i]? = q[j]?) : kAt key p i = kAt key q j := by
  unfold kAt
  rw [Array.getD_eq_getD_getElem?, Array.getD_eq_getD_getElem?, h]
theorem kAt_rev {i j : Nat} (hj : j ≤ p.size) (k : Nat) : kAt key (kas_rev p i j) k = if i ≤ k ∧ k < j then kAt key p (i + j - 1 - k) else kAt key p k := by
  have e := getElem?_mirror_all (i := i) hj k
  unfold kas_rev
  split
  · rename_i h; rw [if_pos h] at e; exact kAt_congr e
  · rename_i h; rw [if_neg h] at e; exact kAt_congr e
theorem kAt_bub {src d : Nat} (hs : src < p.size) (hd : d ≤ src) (k : Nat) : kAt key (bubble p src d) k = if k = src - d then kAt key p src else if src - d < k ∧ k ≤ src then kAt key p (k - 1) else kAt key p k := by
  have e := getElem?_bubble hs d hd k
  split
  · rename_i h; rw [if_pos h] at e; exact kAt_congr e
  · rename_i h
    rw [if_neg h] at e
    split
    · rename_i h2; rw [if_pos h2] at e; exact kAt_congr e
    · rename_i h2; rw [if_neg h2] at e; exact kAt_congr e
theorem rev_size {i j : Nat} : (kas_rev p i j).size = p.size := mirror_size _ _ _ _
theorem rev_perm {i j : Nat} : (kas_rev p i j).Perm p := mirror_perm _ _ _ _
noncomputable def ltK (key : Nat → Int) (i j : Nat) : Bool := decide (key i < key j)
theorem asc_ok (p : Array Nat) : ∀ (f n : Nat), 1 ≤ n → Up key p n → n ≤ tRun (ltK key) (kas_asc p f n) ∧ tRun (ltK key) (kas_asc p f n) ≤ n + f ∧ Up key p (tRun (ltK key) (kas_asc p f n)) ∧
    (tRun (ltK key) (kas_asc p f n) < n + f → kAt key p (tRun (ltK key) (kas_asc p f n)) < kAt key p (tRun (ltK key) (kas_asc p f n) - 1))
  | 0, n, h1, h => ⟨Nat.le_refl _, Nat.le_refl _, h, fun z => absurd z (Nat.lt_irrefl _)⟩
  | f + 1, n, h1, h => by
    have e : tRun (ltK key) (kas_asc p (f + 1) n) = if kAt key p n < kAt key p (n - 1) then n else tRun (ltK key) (kas_asc p f (n + 1)) := by
      show tRun (ltK key) (if ltK key (p.getD n 0) (p.getD (n - 1) 0) = true then KasT.ret n else kas_asc p f (n + 1)) = _
      by_cases hc : kAt key p n < kAt key p (n - 1)
      · rw [if_pos (show ltK key (p.getD n 0) (p.getD (n - 1) 0) = true from decide_eq_true hc), if_pos hc]; rfl
      · rw [if_neg (show ¬ ltK key (p.getD n 0) (p.getD (n - 1) 0) = true from fun z => hc (of_decide_eq_true z)), if_neg hc]
    rw [e]
    by_cases hc : kAt key p n < kAt key p (n - 1)
    · rw [if_pos hc]
      exact ⟨Nat.le_refl _, by omega, h, fun _ => hc⟩
    · rw [if_neg hc]
      obtain ⟨a1, a2, a3, a4⟩ := asc_ok p f (n + 1) (by omega) (fun i j hij hj => by
        by_cases hjn : j < n
        · exact h i j hij hjn
        · have : j = n := by omega
          subst this
          by_cases hin : i = j
          · rw [hin]; exact Int.le_refl _
          · have := h i (j - 1) (by omega) (by omega)
            omega)
      exact ⟨by omega, by omega, a3, fun z => a4 (by omega)⟩
noncomputable def Alike (key : Nat → Int) (p : Array Nat) (n q : Nat) : Prop := ∀ i, n - (q + 1) ≤ i → i < n → kAt key p i = kAt key p (n - 1)
theorem alike0 {n : Nat} : Alike key p (n + 1) 0 := fun i h1 h2 => by rw [show i = n + 1 - 1 by omega]
theorem rev_alike {n q : Nat} (hn : n ≤ p.size) (ha : Alike key p n q) (hq : q + 1 ≤ n) (k : Nat) : kAt key (kas_rev p (n - (q + 1)) n) k = kAt key p k := by
  rw [kAt_rev hn]
  split
  · rename_i h
    rw [ha _ (by omega) (by omega), ha k h.1 h.2]
  · rfl
theorem desc_ok : ∀ (f : Nat) (p : Array Nat) (n q : Nat), 1 ≤ n → q + 1 ≤ n → n + f ≤ p.size → Down key p n → Alike key p n q → ∀ p' n' q', tRun (ltK key) (kas_desc f p n q) = (p', n', q') →
    p'.Perm p ∧ p'.size = p.size ∧ n ≤ n' ∧ n' ≤ n + f ∧ q' + 1 ≤ n' ∧ Down key p' n' ∧ Alike key p' n' q'
  | 0, p, n, q, h1, hq, hz, hd, ha, p', n', q', e => by
    cases e
    exact ⟨Array.Perm.refl _, rfl, Nat.le_refl _, Nat.le_refl _, hq, hd, ha⟩
  | f + 1, p, n, q, h1, hq, hz, hd, ha, p', n', q', e => by
    have e0 : tRun (ltK key) (kas_desc (f + 1) p n q) = if kAt key p n < kAt key p (n - 1) then (if q > 0 then tRun (ltK key) (kas_desc f (kas_rev p (n - (q + 1)) n) (n + 1) 0) else tRun (ltK key) (kas_desc f p (n + 1) 0))
        else if kAt key p (n - 1) < kAt key p n then (p, n, q) else tRun (ltK key) (kas_desc f p (n + 1) (q + 1)) := by
      show tRun (ltK key) (if ltK key (p.getD n 0) (p.getD (n - 1) 0) = true then (if q > 0 then kas_desc f (kas_rev p (n - (q + 1)) n) (n + 1) 0 else kas_desc f p (n + 1) 0)
        else KasT.ask (p.getD (n - 1) 0) (p.getD n 0) fun d => if d = true then .ret (p, n, q) else kas_desc f p (n + 1) (q + 1)) = _
      by_cases hc : kAt key p n < kAt key p (n - 1)
      · rw [if_pos (show ltK key (p.getD n 0) (p.getD (n - 1) 0) = true from decide_eq_true hc), if_pos hc]
        by_cases hq0 : q > 0
        · rw [if_pos hq0, if_pos hq0]
        · rw [if_neg hq0, if_neg hq0]
      · rw [if_neg (show ¬ ltK key (p.getD n 0) (p.getD (n - 1) 0) = true from fun z => hc (of_decide_eq_true z)), if_neg hc]
        show tRun (ltK key) (if ltK key (p.getD (n - 1) 0) (p.getD n 0) = true then KasT.ret (p, n, q) else kas_desc f p (n + 1) (q + 1)) = _
        by_cases hc2 : kAt key p (n - 1) < kAt key p n
        · rw [if_pos (show ltK key (p.getD (n - 1) 0) (p.getD n 0) = true from decide_eq_true hc2), if_pos hc2]; rfl
        · rw [if_neg (show ¬ ltK key (p.getD (n - 1) 0) (p.getD n 0) = true from fun z => hc2 (of_decide_eq_true z)), if_neg hc2]
    rw [e0] at e
    have down1 : ∀ {r : Array Nat}, (∀ k, kAt key r k = kAt key p k) → kAt key p n ≤ kAt key p (n - 1) → Down key r (n + 1) := fun {r} hr hle i j hij hj => by
      rw [hr, hr]
      by_cases hjn : j < n
      · exact hd i j hij hjn
      · have : j = n := by omega
        subst this
        by_cases hin : i = j
        · rw [hin]; exact Int.le_refl _
        · have := hd i (j - 1) (by omega) (by omega)
          omega
    by_cases hc : kAt key p n < kAt key p (n - 1)
    · rw [if_pos hc] at e
      by_cases hq0 : q > 0
      · rw [if_pos hq0] at e
        have hr := rev_alike (key := key) (p := p) (n := n) (q := q) (by omega) ha hq
        obtain ⟨b1, b2, b3, b4, b5, b6, b7⟩ := desc_ok f _ (n + 1) 0 (by omega) (by omega) (by rw [rev_size]; omega) (down1 hr (by omega)) alike0 p' n' q' e
        exact ⟨b1.trans rev_perm, by rw [b2, rev_size], by omega, by omega, b5, b6, b7⟩
      · rw [if_neg hq0] at e
        obtain ⟨b1, b2, b3, b4, b5, b6, b7⟩ := desc_ok f _ (n + 1) 0 (by omega) (by omega) (by omega) (down1 (fun _ => rfl) (by omega)) alike0 p' n' q' e
        exact ⟨b1, b2, by omega, by omega, b5, b6, b7⟩
    · rw [if_neg hc] at e
      by_cases hc2 : kAt key p (n - 1) < kAt key p n
      · rw [if_pos hc2] at e
        cases e
        exact ⟨Array.Perm.refl _, rfl, Nat.le_refl _, by omega, hq, hd, ha⟩
      · rw [if_neg hc2] at e
        obtain ⟨b1, b2, b3, b4, b5, b6, b7⟩ := desc_ok f _ (n + 1) (q + 1) (by omega) (by omega) (by omega) (down1 (fun _ => rfl) (by omega)) (fun i h1 h2 => by
          show kAt key p i = kAt key p (n + 1 - 1)
          rw [Nat.add_sub_cancel]
          by_cases hin : i = n
          · rw [hin]
          · have := ha i (by omega) (by omega)
            omega) p' n' q' e
        exact ⟨b1, b2, by omega, by omega, b5, b6, b7⟩
theorem tail3_ok {n nrem : Nat} (h1 : 1 ≤ n) (hn : n ≤ nrem) (hz : nrem ≤ p.size) (hd : Down key p n) : ∀ m p', tRun (ltK key) (kas_tail3 n nrem p) = (m, p') → p'.Perm p ∧ p'.size = p.size ∧ 1 ≤ m ∧ m ≤ nrem ∧ Up key p' m := by
  intro m p' e
  unfold kas_tail3 at e
  rw [tRun_bind] at e
  cases e
  have hu : Up key (kas_rev p 0 n) n := fun i j hij hj => by
    rw [kAt_rev (by omega), kAt_rev (by omega), if_pos ⟨Nat.zero_le _, by omega⟩, if_pos ⟨Nat.zero_le _, by omega⟩]
    exact hd _ _ (by omega) (by omega)
  obtain ⟨a1, a2, a3, _⟩ := asc_ok (key := key) (kas_rev p 0 n) (nrem - n) n h1 hu
  exact ⟨rev_perm, rev_size, by omega, by omega, a3⟩
theorem descPart_ok {n nrem : Nat} (h1 : 1 ≤ n) (hn : n + 1 ≤ nrem) (hz : nrem ≤ p.size) (hall : ∀ i, i < n → kAt key p i = kAt key p (n - 1)) (hlt : kAt key p n < kAt key p (n - 1)) : ∀ m p', tRun (ltK key) (kas_descPart n nrem p) = (m, p') → p'.Perm p ∧ p'.size = p.size ∧ 1 ≤ m ∧ m ≤ nrem ∧ Up key p' m := by
  intro m p' e
  unfold kas_descPart at e
  rw [tRun_bind] at e
  obtain ⟨r, n2, q2⟩ : ∃ r n2 q2, tRun (ltK key) (kas_desc (nrem - (n + 1)) p (n + 1) 0) = (r, n2, q2) := ⟨_, _, _, rfl⟩
  obtain ⟨q2, er⟩ := q2
  rw [er] at e
  obtain ⟨b1, b2, b3, b4, b5, b6, b7⟩ := desc_ok (key := key) (nrem - (n + 1)) p (n + 1) 0 (by omega) (by omega) (by omega) (fun i j hij hj => by
    by_cases hjn : j < n
    · rw [hall i (by omega), hall j hjn]; exact Int.le_refl _
    · have : j = n := by omega
      subst this
      by_cases hin : i = j
      · rw [hin]; exact Int.le_refl _
      · rw [hall i (by omega)]; omega) alike0 r n2 q2 er
  by_cases hq : q2 > 0
  · simp only [if_pos hq] at e
    have hr := rev_alike (key := key) (p := r) (n := n2) (q := q2) (by omega) b7 b5
    obtain ⟨c1, c2, c3, c4, c5⟩ := tail3_ok (key := key) (p := kas_rev r (n2 - (q2 + 1)) n2) (n := n2) (nrem := nrem) (by omega) (by omega) (by rw [rev_size]; omega) (fun i j hij hj => by rw [hr, hr]; exact b6 i j hij hj) m p' e
    exact ⟨c1.trans (rev_perm.trans b1), by rw [c2, rev_size, b2], c3, c4, c5⟩
  · simp only [if_neg hq] at e
    obtain ⟨c1, c2, c3, c4, c5⟩ := tail3_ok (key := key) (p := r) (n := n2) (nrem := nrem) (by omega) (by omega) (by omega) b6 m p' e
    exact ⟨c1.trans b1, by rw [c2, b2], c3, c4, c5⟩
theorem count_ok {nrem : Nat} (h1 : 1 ≤ nrem) (hz : nrem ≤ p.size) : ∀ m p', tRun (ltK key) (kas_count nrem p) = (m, p') → p'.Perm p ∧ p'.size = p.size ∧ 1 ≤ m ∧ m ≤ nrem ∧ Up key p' m := by
  intro m p' e
  unfold kas_count at e
  rw [tRun_bind] at e
  obtain ⟨a1, a2, a3, a4⟩ := asc_ok (key := key) p (nrem - 1) 1 (Nat.le_refl _) (fun i j hij hj => by rw [show i = j by omega]; exact Int.le_refl _)
  obtain ⟨n, en⟩ : ∃ n, tRun (ltK key) (kas_asc p (nrem - 1) 1) = n := ⟨_, rfl⟩
  rw [en] at e a1 a2 a3 a4
  by_cases hn : (n == nrem) = true
  · simp only [if_pos hn] at e
    cases e
    exact ⟨Array.Perm.refl _, rfl, a1, by omega, a3⟩
  · simp only [if_neg hn] at e
    have hn' : n ≠ nrem := fun z => hn (by simp [z])
    have hlt := a4 (by omega)
    by_cases h2 : n > 1
    · simp only [if_pos h2] at e
      have e' : tRun (ltK key) (if ltK key (p.getD 0 0) (p.getD (n - 1) 0) = true then KasT.ret (n, p) else kas_descPart n nrem (kas_rev p 0 n)) = (m, p') := e
      by_cases hc : kAt key p 0 < kAt key p (n - 1)
      · rw [if_pos (show ltK key (p.getD 0 0) (p.getD (n - 1) 0) = true from decide_eq_true hc)] at e'
        cases e'
        exact ⟨Array.Perm.refl _, rfl, a1, by omega, a3⟩
      · rw [if_neg (show ¬ ltK key (p.getD 0 0) (p.getD (n - 1) 0) = true from fun z => hc (of_decide_eq_true z))] at e'
        have all : ∀ i, i < n → kAt key p i = kAt key p (n - 1) := fun i hi => by
          have x1 := a3 0 i (by omega) hi
          have x2 := a3 i (n - 1) (by omega) (by omega)
          omega
        have hr : ∀ i, i < n → kAt key (kas_rev p 0 n) i = kAt key p (n - 1) := fun i hi => by
          rw [kAt_rev (by omega), if_pos ⟨Nat.zero_le _, hi⟩]
          exact all _ (by omega)
        obtain ⟨c1, c2, c3, c4, c5⟩ := descPart_ok (key := key) (p := kas_rev p 0 n) (n := n) (nrem := nrem) a1 (by omega) (by rw [rev_size]; omega) (fun i hi => by rw [hr i hi, hr (n - 1) (by omega)]) (by
          rw [hr (n - 1) (by omega), kAt_rev (by omega), if_neg (by omega)]
          exact hlt) m p' e'
        exact ⟨c1.trans rev_perm, by rw [c2, rev_size], c3, c4, c5⟩
    · simp only [if_neg h2] at e
      have : n = 1 := by omega
      subst this
      exact descPart_ok (key := key) (Nat.le_refl _) (by omega) hz (fun i hi => by rw [show i = 1 - 1 by omega]) hlt m p' e
theorem place_ok {k : Nat} (hu : Up key p k) : ∀ (f l r : Nat), r ≤ k → r - l ≤ f → l ≤ r → (∀ i, i < l → kAt key p i ≤ kAt key p k) → (∀ i, r ≤ i → i < k → kAt key p k < kAt key p i) →
    tRun (ltK key) (kas_place p k f l r) ≤ k ∧ (∀ i, i < tRun (ltK key) (kas_place p k f l r) → kAt key p i ≤ kAt key p k) ∧ ∀ i, tRun (ltK key) (kas_place p k f l r) ≤ i → i < k → kAt key p k < kAt key p i
  | 0, l, r, hr, hf, hlr, h1, h2 => by
    have : l = r := by omega
    subst this
    exact ⟨hr, h1, h2⟩
  | f + 1, l, r, hr, hf, hlr, h1, h2 => by
    by_cases hge : l ≥ r
    · have : l = r := by omega
      subst this
      have e : tRun (ltK key) (kas_place p k (f + 1) l l) = l := by
        show tRun (ltK key) (if l ≥ l then KasT.ret l else _) = l
        rw [if_pos hge]; rfl
      rw [e]
      exact ⟨hr, h1, h2⟩
    · have e : tRun (ltK key) (kas_place p k (f + 1) l r) = if kAt key p k < kAt key p ((l + r) / 2) then tRun (ltK key) (kas_place p k f l ((l + r) / 2)) else tRun (ltK key) (kas_place p k f ((l + r) / 2 + 1) r) := by
        show tRun (ltK key) (if l ≥ r then KasT.ret l else .ask (p.getD k 0) (p.getD ((l + r) / 2) 0) fun c => if c = true then kas_place p k f l ((l + r) / 2) else kas_place p k f ((l + r) / 2 + 1) r) = _
        rw [if_neg hge]
        show tRun (ltK key) (if ltK key (p.getD k 0) (p.getD ((l + r) / 2) 0) = true then kas_place p k f l ((l + r) / 2) else kas_place p k f ((l + r) / 2 + 1) r) = _
        by_cases hc : kAt key p k < kAt key p ((l + r) / 2)
        · rw [if_pos (show ltK key (p.getD k 0) (p.getD ((l + r) / 2) 0) = true from decide_eq_true hc), if_pos hc]
        · rw [if_neg (show ¬ ltK key (p.getD k 0) (p.getD ((l + r) / 2) 0) = true from fun z => hc (of_decide_eq_true z)), if_neg hc]
      rw [e]
      by_cases hc : kAt key p k < kAt key p ((l + r) / 2)
      · rw [if_pos hc]
        exact place_ok hu f l ((l + r) / 2) (by omega) (by omega) (by omega) h1 fun i hi hik => by
          have := hu ((l + r) / 2) i hi hik
          omega
      · rw [if_neg hc]
        exact place_ok hu f ((l + r) / 2 + 1) r hr (by omega) (by omega) (fun i hi => by
          have := hu i ((l + r) / 2) (by omega) (by omega)
          omega) h2
theorem bin_ok : ∀ (f : Nat) (p : Array Nat) (k : Nat), k + f ≤ p.size → Up key p k → (tRun (ltK key) (kas_bin f p k)).Perm p ∧ Up key (tRun (ltK key) (kas_bin f p k)) (k + f)
  | 0, p, k, hz, hu => ⟨Array.Perm.refl _, hu⟩
  | f + 1, p, k, hz, hu => by
    have e : tRun (ltK key) (kas_bin (f + 1) p k) = tRun (ltK key) (kas_bin f (bubble p k (k - tRun (ltK key) (kas_place p k k 0 k))) (k + 1)) := by
      show tRun (ltK key) ((kas_place p k k 0 k).bind fun l => kas_bin f (bubble p k (k - l)) (k + 1)) = _
      rw [tRun_bind]
    rw [e]
    obtain ⟨a1, a2, a3⟩ := place_ok hu k 0 k (Nat.le_refl _) (by omega) (Nat.zero_le _) (fun i hi => absurd hi (Nat.not_lt_zero _)) (fun i h1 h2 => by omega)
    obtain ⟨l, el⟩ : ∃ l, tRun (ltK key) (kas_place p k k 0 k) = l := ⟨_, rfl⟩
    rw [el] at a1 a2 a3 ⊢
    have hb := kAt_bub (key := key) (p := p) (src := k) (d := k - l) (by omega) (by omega)
    obtain ⟨c1, c2⟩ := bin_ok f (bubble p k (k - l)) (k + 1) (by rw [bubble_size]; omega) (fun i j hij hj => by
      have e1 : k - (k - l) = l := by omega
      rw [hb, hb, e1]
      by_cases hi : i = l
      · rw [if_pos hi]
        by_cases hj2 : j = l
        · rw [if_pos hj2]; exact Int.le_refl _
        · rw [if_neg hj2, if_pos (by omega)]
          have := a3 (j - 1) (by omega) (by omega)
          omega
      · rw [if_neg hi]
        by_cases hj2 : j = l
        · rw [if_pos hj2, if_neg (by omega)]
          exact a2 i (by omega)
        · rw [if_neg hj2]
          by_cases hi2 : l < i ∧ i ≤ k
          · rw [if_pos hi2, if_pos (by omega)]
            exact hu _ _ (by omega) (by omega)
          · rw [if_neg hi2]
            by_cases hj3 : l < j ∧ j ≤ k
            · rw [if_pos hj3]
              exact hu _ _ (by omega) (by omega)
            · rw [if_neg hj3]
              exact hu _ _ (by omega) (by omega))
    exact ⟨c1.trans (bubble_perm _ _ _), by rw [show k + (f + 1) = k + 1 + f by omega]; exact c2⟩
theorem sort_ok {n : Nat} (h1 : 1 ≤ n) : (tRun (ltK key) (kas_sort n)).toList.Perm (List.range n) ∧ Up key (tRun (ltK key) (kas_sort n)) n := by
  unfold kas_sort
  rw [tRun_bind]
  obtain ⟨m, p', er⟩ : ∃ m p', tRun (ltK key) (kas_count n (List.toArray (List.range n))) = (m, p') := ⟨_, _, rfl⟩
  rw [er]
  obtain ⟨b1, b2, b3, b4, b5⟩ := count_ok (key := key) (p := List.toArray (List.range n)) h1 (by simp) m p' er
  have hsz : p'.size = n := by rw [b2]; simp
  by_cases hm : m < n
  · simp only [if_pos hm]
    have em : max m 1 = m := by omega
    rw [em]
    obtain ⟨c1, c2⟩ := bin_ok (key := key) (n - m) p' m (by omega) b5
    refine ⟨?_, by rw [show m + (n - m) = n by omega] at c2; exact c2⟩
    have := Array.perm_iff_toList_perm.mp (c1.trans b1)
    simpa using this
  · simp only [if_neg hm]
    have : m = n := by omega
    subst this
    refine ⟨?_, b5⟩
    have := Array.perm_iff_toList_perm.mp b1
    show p'.toList.Perm _
    simpa using this
end
end L2
namespace L2
open PySem PySem.Spec PyProof.Rows
section
open PySem.W
variable {α β : Type} {n : Nat}
noncomputable def AskR (n : Nat) (R : α → Prop) : KasT α → Prop
  | .ret a => R a
  | .ask i j k => i < n ∧ j < n ∧ ∀ b, AskR n R (k b)
theorem askR_bind {R : α → Prop} {S : β → Prop} {f : α → KasT β} (hf : ∀ a, R a → AskR n S (f a)) : ∀ t : KasT α, AskR n R t → AskR n S (t.bind f)
  | .ret a, h => hf a h
  | .ask i j k, h => ⟨h.1, h.2.1, fun b => askR_bind hf (k b) (h.2.2 b)⟩
theorem kasWp_runR {lt : Nat → Nat → Bool} {R : α → Prop} {cmp : Nat → Nat → (Bool → Shared → Prop) → Shared → Prop} {s : Shared} (ha : ∀ i j (C : Bool → Shared → Prop), i < n → j < n → C (lt i j) s → cmp i j C s) {Q : α → Shared → Prop} : ∀ t : KasT α, AskR n R t → Q (tRun lt t) s → t.kasWp cmp Q s
  | .ret _, _, h => h
  | .ask i j k, r, h => ha i j _ r.1 r.2.1 (kasWp_runR ha (k (lt i j)) (r.2.2 _) h)
noncomputable def InB (n : Nat) (p : Array Nat) : Prop := ∀ x, p.getD x 0 < n
theorem inB_perm {p q : Array Nat} (h0 : 0 < n) (hp : InB n p) (h : q.Perm p) : InB n q := fun x => by
  rw [Array.getD_eq_getD_getElem?]
  cases e : q[x]? with
  | none => exact h0
  | some v =>
    have hv : v ∈ q.toList := by
      rw [← Array.getElem?_toList] at e
      exact List.mem_of_getElem? e
    have hv2 : v ∈ p.toList := (Array.perm_iff_toList_perm.mp h).mem_iff.mp hv
    obtain ⟨y, hy, ey⟩ := List.getElem_of_mem hv2
    have := hp y
    rw [Array.getD_eq_getD_getElem?, ← Array.getElem?_toList, List.getElem?_eq_getElem hy, ey] at this
    exact this
variable {p : Array Nat}
theorem askR_asc (hp : InB n p) : ∀ f m, AskR n (fun _ => True) (kas_asc p f m)
  | 0, _ => trivial
  | f + 1, m => ⟨hp _, hp _, fun b => by
    (try dsimp only)
    split
    · trivial
    · exact askR_asc hp f (m + 1)⟩
theorem askR_desc (h0 : 0 < n) : ∀ (f : Nat) (p : Array Nat) (m q : Nat), InB n p → AskR n (fun r => InB n r.1) (kas_desc f p m q)
  | 0, p, _, _, hp => hp
  | f + 1, p, m, q, hp => ⟨hp _, hp _, fun b => by
    (try dsimp only)
    split
    · split
      · exact askR_desc h0 f _ _ _ (inB_perm h0 hp rev_perm)
      · exact askR_desc h0 f _ _ _ hp
    · refine ⟨hp _, hp _, fun c => ?_⟩
      (try dsimp only)
      split
      · exact hp
      · exact askR_desc h0 f _ _ _ hp⟩
theorem askR_tail3 (h0 : 0 < n) (hp : InB n p) (m r : Nat) : AskR n (fun r => InB n r.2) (kas_tail3 m r p) := by
  unfold kas_tail3
  refine askR_bind (n := n) (R := fun _ => True) (f := fun k => KasT.ret (k, kas_rev p 0 m)) (fun a _ => ?_) _ (askR_asc (inB_perm h0 hp rev_perm) _ _)
  exact inB_perm h0 hp rev_perm
theorem askR_descPart (h0 : 0 < n) (hp : InB n p) (m r : Nat) : AskR n (fun r => InB n r.2) (kas_descPart m r p) := by
  refine askR_bind (R := fun r => InB n r.1) (fun a ha => ?_) _ (askR_desc h0 _ _ _ _ hp)
  (try dsimp only)
  split
  · exact askR_tail3 h0 (inB_perm h0 ha rev_perm) _ _
  · exact askR_tail3 h0 ha _ _
theorem askR_count (h0 : 0 < n) (hp : InB n p) (r : Nat) : AskR n (fun r => InB n r.2) (kas_count r p) := by
  refine askR_bind (R := fun _ => True) (fun a _ => ?_) _ (askR_asc hp _ _)
  (try dsimp only)
  split
  · exact hp
  · split
    · refine ⟨hp _, hp _, fun b => ?_⟩
      (try dsimp only)
      split
      · exact hp
      · exact askR_descPart h0 (inB_perm h0 hp rev_perm) _ _
    · exact askR_descPart h0 hp _ _
theorem askR_place (hp : InB n p) (k : Nat) : ∀ f l r, AskR n (fun _ => True) (kas_place p k f l r)
  | 0, _, _ => trivial
  | f + 1, l, r => by
    show AskR n (fun _ => True) (if l ≥ r then KasT.ret l else _)
    split
    · trivial
    · refine ⟨hp _, hp _, fun b => ?_⟩
      (try dsimp only)
      split
      · exact askR_place hp k f _ _
      · exact askR_place hp k f _ _
theorem askR_bin (h0 : 0 < n) : ∀ (f : Nat) (p : Array Nat) (k : Nat), InB n p → AskR n (fun _ => True) (kas_bin f p k)
  | 0, _, _, _ => trivial
  | f + 1, p, k, hp => askR_bind (R := fun _ => True) (fun l _ => askR_bin h0 f _ _ (inB_perm h0 hp (bubble_perm _ _ _))) _ (askR_place hp k _ _ _)
theorem askR_sort (h0 : 0 < n) : AskR n (fun _ => True) (kas_sort n) := by
  refine askR_bind (R := fun r => InB n r.2) (fun a ha => ?_) _ (askR_count h0 (fun x => ?_) _)
  · (try dsimp only)
    split
    · exact askR_bin h0 _ _ _ ha
    · trivial
  · rw [Array.getD_eq_getD_getElem?]
    simp only [List.getElem?_toArray]
    cases e : (List.range n)[x]? with
    | none => exact h0
    | some v => exact List.mem_range.mp (List.mem_of_getElem? e)
end
section
open PySem.W
variable {prog : Program} {w : World} {A : Around} {E : Value → Shared → Prop} {s : Shared} {key : Nat → Int}
noncomputable def outOf (key : Nat → Int) (vs : List Value) : List Value := if vs.length < 2 then vs else (tRun (ltK key) (kas_sort vs.length)).toList.map fun i => vs.getD i Value.none
noncomputable def Asks (prog : Program) (w : World) (A : Around) (key : Nat → Int) (vs : List Value) (s' : Shared) : Prop :=
  wpAny (model prog w) A (keyKind' vs.toArray) (fun κ s2 => s2 = s' ∧ ∀ i j (C : Bool → Shared → Prop), i < vs.length → j < vs.length → C (ltK key i j) s' → kas_ask prog w A κ vs i j C s') (fun _ _ => False) s'
theorem lsort_any {a : Addr} {vs : List Value} {n : Nat} {P : PySem.Fin → Shared → Prop} (ho : s.heap.get? a = some (seqObj "list" vs.toArray n)) (h64 : vs.length < 64)
    (hk : 2 ≤ vs.length → ∀ h1 : Heap, (∀ b o, b ≠ a → s.heap.get? b = some o → h1.get? b = some o) → Asks prog w A key vs { s with heap := h1 })
    (h : ∀ (h' : Heap) (c : Nat), (∀ b o, b ≠ a → s.heap.get? b = some o → h'.get? b = some o) → h'.get? a = some (seqObj "list" (outOf key vs).toArray c) → P (.done (.ret .none)) { s with heap := h' }) :
    wpAny (model prog w) A (Builtin.«list.sort» ⟨[.ref a], []⟩) P E s := by
  have hlt : a < s.heap.objs.size := Heap.lt_size ho
  have hline := sizeLine_eq
  obtain ⟨e1, ho1⟩ : ∃ e1, (s.heap.update a (Obj.mapSeq fun _ => (#[] : Array Value))).get? a = some (seqObj "list" #[] e1) := ⟨_, get?_update_seq ho fun _ => #[]⟩
  rw [list_sort_plain]
  refine wpAny_bind (listItems_at ho rfl (wpAny_bind (listUpdate_at ho rfl (wpAny_bind (seqEpoch_at ho1 rfl (wpAny_bind (wpAny_newTuple (wpAny_bind (wpAny_newList (wpAny_holding ?_) (Nat.zero_le _))) (by show vs.length ≤ _; omega))))) (by rw [List.size_toArray]; omega) (Nat.zero_le _))))
  have hkeep : ∀ b o, b ≠ a → s.heap.get? b = some o → (((s.heap.update a (Obj.mapSeq fun _ => (#[] : Array Value))).push (seqObj "tuple" vs.toArray 0)).push (seqObj "list" #[] 0)).get? b = some o := fun b o hb q =>
    Heap.get?_push_of_some _ (Heap.get?_push_of_some _ ((Heap.get?_update_other _ _ (Ne.symm hb)).trans q))
  have ho6 : (((s.heap.update a (Obj.mapSeq fun _ => (#[] : Array Value))).push (seqObj "tuple" vs.toArray 0)).push (seqObj "list" #[] 0)).get? a = some (seqObj "list" #[] e1) := Heap.get?_push_of_some _ (Heap.get?_push_of_some _ ho1)
  show wpAny (model prog w) A _ P E { s with heap := ((s.heap.update a (Obj.mapSeq fun _ => (#[] : Array Value))).push (seqObj "tuple" vs.toArray 0)).push (seqObj "list" #[] 0) }
  dsimp only
  have fin : ∀ (out : List Value), out = outOf key vs → P (.done (.ret .none)) { s with heap := (((s.heap.update a (Obj.mapSeq fun _ => (#[] : Array Value))).push (seqObj "tuple" vs.toArray 0)).push (seqObj "list" #[] 0)).update a (Obj.mapSeq fun _ => out.toArray) } := fun out eo => by
    subst eo
    exact h _ _ (fun b o hb q => (Heap.get?_update_other _ _ (Ne.symm hb)).trans (hkeep b o hb q)) (get?_update_seq ho6 fun _ => (outOf key vs).toArray)
  by_cases h2 : vs.toArray.size < 2
  · rw [if_pos h2, if_pos h2]
    refine wpAny_bind (wpAny_pure ?_)
    rw [StateT.run_pure]
    refine wpAny_bind (wpAny_pure ?_)
    dsimp only
    have h2' : vs.length < 2 := by simpa using h2
    have eo : (arrOf (SortSt.mk' general' (vs.toArray.zip vs.toArray) #[] 7 none)).map (·.2) = vs.toArray := by
      show (vs.toArray.zip vs.toArray).map (·.2) = vs.toArray
      apply Array.toList_inj.mp
      simp only [Array.toList_map, Array.toList_zip]
      exact List.map_snd_zip (Nat.le_refl _)
    rw [eo]
    refine wpAny_bind (seqEpoch_at ho6 rfl (wpAny_bind (listUpdate_at ho6 rfl ?_ (Nat.zero_le _) (by show vs.length ≤ _; omega))))
    have e3 : failedOf (SortSt.mk' general' (vs.toArray.zip vs.toArray) #[] 7 none) = none := rfl
    simp only [e3, bne_self_eq_false, Bool.false_eq_true, if_false]
    exact wpAny_pure (fin vs (by unfold outOf; rw [if_pos h2']))
  · rw [if_neg h2, if_neg h2]
    have h2' : 2 ≤ vs.length := by rw [List.size_toArray] at h2; omega
    refine wpAny_bind (wpAny_mono (hk h2' _ hkeep) (fun κ s0 ⟨es, ask⟩ => ?_) fun _ _ x => x.elim)
    subst es
    refine wpAny_bind (wpAny_mono (kat_run (ks := vs) (vs := vs) (Q := fun st' s' => s' = { s with heap := ((s.heap.update a (Obj.mapSeq fun _ => (#[] : Array Value))).push (seqObj "tuple" vs.toArray 0)).push (seqObj "list" #[] 0) } ∧ (arrOf st').map (·.2) = (outOf key vs).toArray ∧ failedOf st' = none)
      (G := fun p s' => s' = { s with heap := ((s.heap.update a (Obj.mapSeq fun _ => (#[] : Array Value))).push (seqObj "tuple" vs.toArray 0)).push (seqObj "list" #[] 0) } ∧ p = tRun (ltK key) (kas_sort vs.length)) rfl h2' h64 (fun p st' s' _ har hf hg => ⟨hg.1, ?_, hf⟩) (kasWp_runR (n := vs.length) (R := fun _ => True) (fun i j C hi hj hc => ask i j C hi hj hc) _ (askR_sort (by omega)) ⟨rfl, rfl⟩)) (fun r s' hr => ?_) fun _ _ x => x)
    · rw [kat_snds rfl har, hg.2]
      unfold outOf
      rw [if_neg (by omega)]
    · obtain ⟨⟨⟩, st'⟩ := r
      obtain ⟨es, eo, ef⟩ := hr
      have es : s' = _ := es
      subst es
      have eo : (arrOf st').map (·.2) = (outOf key vs).toArray := eo
      have ef : failedOf st' = none := ef
      dsimp only
      rw [eo]
      have hol : (outOf key vs).length = vs.length := by
        unfold outOf
        split
        · rfl
        · rw [List.length_map, (sort_ok (key := key) (n := vs.length) (by omega)).1.length_eq, List.length_range]
      refine wpAny_bind (seqEpoch_at ho6 rfl (wpAny_bind (listUpdate_at ho6 rfl ?_ (Nat.zero_le _) (by show (outOf key vs).length ≤ _; omega))))
      simp only [ef, bne_self_eq_false, Bool.false_eq_true, if_false]
      exact wpAny_pure (fin _ rfl)
theorem sorted_any {l : Addr} {vs : List Value} {Q : Value → Shared → Prop} (hl : s.heap.IsList l vs.toArray) (h64 : vs.length < 64)
    (hk : 2 ≤ vs.length → ∀ h1 : Heap, (∀ b o, s.heap.get? b = some o → h1.get? b = some o) → Asks prog w A.in1.in1 key vs { s with heap := h1 })
    (h : ∀ (h' : Heap) (D : Addr) (c : Nat), s.heap.objs.size ≤ D → (∀ b o, s.heap.get? b = some o → h'.get? b = some o) → h'.get? D = some (seqObj "list" (outOf key vs).toArray c) → Q (.ref D) { s with heap := h' }) :
    wpAny (model prog w) A (call (.builtin "sorted") [.ref l]) Q E s := by
  have hline := sizeLine_eq
  refine Calls.call_function_entry kind_sorted plain_sorted entry_sorted (args_sorted1 _) ?_
  unfold Builtin.«sorted»
  refine wpAny_bind (m := checkCount "sorted" 1 1 _) (wpAny_pure (wpAny_bind (collect_list hl (wpAny_bind (wpAny_newList ?_ (by omega))) (by omega))))
  have hz : ((s.heap.push (seqObj "list" #[] 0)).update s.heap.objs.size (Obj.mapSeq (· ++ vs.toArray))).objs.size = s.heap.objs.size + 1 := by rw [Heap.size_update, size_push']
  have hD : (((s.heap.push (seqObj "list" #[] 0)).update s.heap.objs.size (Obj.mapSeq (· ++ vs.toArray))).push (seqObj "list" vs.toArray 0)).get? (s.heap.objs.size + 1) = some (seqObj "list" vs.toArray 0) := by rw [← hz]; exact Heap.get?_push_size _ rfl
  have hkeep : ∀ b o, s.heap.get? b = some o → (((s.heap.push (seqObj "list" #[] 0)).update s.heap.objs.size (Obj.mapSeq (· ++ vs.toArray))).push (seqObj "list" vs.toArray 0)).get? b = some o := fun b o q =>
    Heap.get?_push_of_some _ ((Heap.get?_update_other _ _ (Nat.ne_of_gt (Heap.lt_size q))).trans (Heap.get?_push_of_some _ q))
  show wpAny _ _ _ _ _ { s with heap := ((s.heap.push (seqObj "list" #[] 0)).update s.heap.objs.size (Obj.mapSeq (· ++ vs.toArray))).push (seqObj "list" vs.toArray 0) }
  rw [hz]
  have hnD : ∀ b o, s.heap.get? b = some o → b ≠ s.heap.objs.size + 1 := fun b o q => Nat.ne_of_lt (Nat.lt_succ_of_lt (Heap.lt_size q))
  refine wpAny_bind (wpAny_holding (wpAny_call_entry slot_list_sort ⟨_, hD, rfl⟩ entry_list_sort (lsort_any hD h64 (fun h2 h1 hk1 => hk h2 h1 fun b o q => hk1 b o (hnD b o q) (hkeep b o q)) fun h' c k' e' => ⟨_, rfl, ?_⟩) (args_list_sort _)))
  exact wpAny_pure ⟨_, rfl, h h' _ c (Nat.le_succ _) (fun b o q => k' b o (hnD b o q) (hkeep b o q)) e'⟩
end
end L2
namespace L2
open PySem PySem.Spec PyProof.Rows
noncomputable def insL {α : Type} (lt : α → α → Bool) (x : α) : List α → List α
  | [] => [x]
  | y :: ys => if lt y x = true then y :: insL lt x ys else x :: y :: ys
noncomputable def isort {α : Type} (lt : α → α → Bool) : List α → List α
  | [] => []
  | x :: xs => insL lt x (isort lt xs)
noncomputable def ltZ (a b : Int) : Bool := decide (a < b)
noncomputable def lexZ : List Int → List Int → Bool
  | [], [] => false
  | [], _ :: _ => true
  | _ :: _, [] => false
  | a :: as, b :: bs => if a = b then lexZ as bs else decide (a < b)
noncomputable def tupZ (t : List Int) : Dat := .tup (t.map .int)
noncomputable def tupD : Dat → M (List Int)
  | .tup ds => intsD ds
  | _ => stk
noncomputable def tupsD : List Dat → M (List (List Int))
  | [] => .ok []
  | d :: ds => (tupD d).bind fun t => (tupsD ds).bind fun r => .ok (t :: r)
noncomputable def sortDs (ds : List Dat) : M Dat := if ds.length < 64 then (match intsD ds with
  | .ok is => .ok (.lst ((isort ltZ is).map .int))
  | .error _ => (tupsD ds).bind fun ts => if (ts.all fun t => !t.isEmpty) = true then .ok (.lst ((isort lexZ ts).map tupZ)) else stk) else stk
noncomputable def sortedD : List Dat → M Dat
  | [.lst ds] => sortDs ds
  | _ => stk
section
variable {α : Type} {lt : α → α → Bool}
structure Ord (lt : α → α → Bool) : Prop where
  irr : ∀ a, lt a a = false
  tr : ∀ a b c, lt a b = true → lt b c = true → lt a c = true
  tot : ∀ a b, lt a b = false → lt b a = false → a = b
theorem ordZ : Ord ltZ := ⟨fun a => by simp [ltZ], fun a b c h1 h2 => by simp [ltZ] at *; omega, fun a b h1 h2 => by simp [ltZ] at *; omega⟩
theorem ordLex : Ord lexZ := by
  refine ⟨fun a => ?_, fun a b c => ?_, fun a b => ?_⟩
  · induction a with
    | nil => rfl
    | cons x xs ih => simp [lexZ, ih]
  · induction a generalizing b c with
    | nil =>
      cases b with
      | nil => intro h; simp [lexZ] at h
      | cons y ys =>
        intro _ h2
        cases c with
        | nil => simp [lexZ] at h2
        | cons z zs => rfl
    | cons x xs ih =>
      intro h1 h2
      cases b with
      | nil => simp [lexZ] at h1
      | cons y ys =>
        cases c with
        | nil => simp [lexZ] at h2
        | cons z zs =>
          simp only [lexZ] at h1 h2 ⊢
          by_cases e1 : x = y
          · subst e1
            rw [if_pos rfl] at h1
            by_cases e2 : x = z
            · rw [if_pos e2] at h2 ⊢; exact ih _ _ h1 h2
            · rw [if_neg e2] at h2 ⊢; exact h2
          · rw [if_neg e1] at h1
            have h1' : x < y := of_decide_eq_true h1
            by_cases e2 : y = z
            · subst e2
              rw [if_neg e1]; exact h1
            · rw [if_neg e2] at h2
              have h2' : y < z := of_decide_eq_true h2
              rw [if_neg (by omega)]
              exact decide_eq_true (by omega)
  · induction a generalizing b with
    | nil =>
      cases b with
      | nil => intros; rfl
      | cons y ys => intro h; simp [lexZ] at h
    | cons x xs ih =>
      cases b with
      | nil => intro _ h; simp [lexZ] at h
      | cons y ys =>
        intro h1 h2
        simp only [lexZ] at h1 h2
        by_cases e1 : x = y
        · subst e1
          rw [if_pos rfl] at h1 h2
          rw [ih _ h1 h2]
        · rw [if_neg e1] at h1
          rw [if_neg (fun z => e1 z.symm)] at h2
          have h1' := of_decide_eq_false h1
          have h2' := of_decide_eq_false h2
          omega
theorem insL_perm (x : α) : ∀ l : List α, (insL lt x l).Perm (x :: l)
  | [] => List.Perm.refl _
  | y :: ys => by
    rw [insL]
    split
    · exact ((insL_perm x ys).cons y).trans (List.Perm.swap x y ys)
    · exact List.Perm.refl _
theorem isort_perm : ∀ l : List α, (isort lt l).Perm l
  | [] => List.Perm.refl _
  | x :: xs => (insL_perm x _).trans ((isort_perm xs).cons x)
theorem Ord.le_trans (o : Ord lt) {a b c : α} (h1 : lt b a = false) (h2 : lt c b = false) : lt c a = false := by
  cases h : lt c a with
  | false => rfl
  | true =>
    cases h3 : lt b c with
    | true => rw [o.tr b c a h3 h] at h1; cases h1
    | false =>
      have := o.tot c b h2 h3
      subst this
      rw [h] at h1; cases h1
theorem Ord.asym (o : Ord lt) {a b : α} (h : lt a b = true) : lt b a = false := by
  cases h2 : lt b a with
  | false => rfl
  | true => have := o.tr a b a h h2; rw [o.irr] at this; cases this
theorem insL_sorted (o : Ord lt) (x : α) : ∀ l : List α, l.Pairwise (fun a b => lt b a = false) → (insL lt x l).Pairwise (fun a b => lt b a = false)
  | [], _ => by simp [insL]
  | y :: ys, h => by
    rw [insL]
    rw [List.pairwise_cons] at h
    split
    · rename_i hc
      rw [List.pairwise_cons]
      refine ⟨fun b hb => ?_, insL_sorted o x ys h.2⟩
      rcases List.mem_cons.mp ((insL_perm x ys).mem_iff.mp hb) with e | e
      · rw [e]; exact o.asym hc
      · exact h.1 b e
    · rename_i hc
      have hc' : lt y x = false := by simpa using hc
      rw [List.pairwise_cons, List.pairwise_cons]
      refine ⟨fun b hb => ?_, h⟩
      rcases List.mem_cons.mp hb with e | e
      · rw [e]; exact hc'
      · exact o.le_trans hc' (h.1 b e)
theorem isort_sorted (o : Ord lt) : ∀ l : List α, (isort lt l).Pairwise (fun a b => lt b a = false)
  | [] => List.Pairwise.nil
  | x :: xs => insL_sorted o x _ (isort_sorted o xs)
theorem perm_unique (o : Ord lt) : ∀ {l m : List α}, l.Perm m → l.Pairwise (fun a b => lt b a = false) → m.Pairwise (fun a b => lt b a = false) → l = m
  | [], m, h, _, _ => (List.Perm.nil_eq h)
  | a :: l, m, h, h1, h2 => by
    cases m with
    | nil => exact absurd h.symm (by simp)
    | cons b m =>
      rw [List.pairwise_cons] at h1 h2
      have e : a = b := by
        rcases List.mem_cons.mp (h.mem_iff.mp List.mem_cons_self) with e | e
        · exact e
        · rcases List.mem_cons.mp (h.mem_iff.mpr List.mem_cons_self) with e2 | e2
          · exact e2.symm
          · exact o.tot a b (h2.1 a e) (h1.1 b e2)
      subst e
      rw [perm_unique o (List.Perm.cons_inv h) h1.2 h2.2]
end
section
open PySem.W
variable {α : Type} {lt : α → α → Bool}
theorem getD_get {l : List α} {i : Nat} {d : α} (h : i < l.length) : l.getD i d = l[i] := by simp [h]
noncomputable def rk (lt : α → α → Bool) (zs : List α) (d : α) (i : Nat) : Int := ((zs.filter fun z => lt z (zs.getD i d)).length : Int)
theorem filter_lt {p q : α → Bool} (h : ∀ z, p z = true → q z = true) : ∀ l : List α, (l.filter p).length ≤ (l.filter q).length ∧ ((∃ z ∈ l, p z = false ∧ q z = true) → (l.filter p).length < (l.filter q).length)
  | [] => ⟨Nat.le_refl _, fun ⟨_, h, _⟩ => nomatch h⟩
  | x :: xs => by
    obtain ⟨i1, i2⟩ := filter_lt h xs
    cases hp : p x with
    | true =>
      have hq := h x hp
      rw [List.filter_cons_of_pos hp, List.filter_cons_of_pos hq]
      refine ⟨by simp; exact i1, fun ⟨z, hz, e1, e2⟩ => ?_⟩
      rcases List.mem_cons.mp hz with e | e
      · rw [e, hp] at e1; cases e1
      · have := i2 ⟨z, e, e1, e2⟩
        simp; exact this
    | false =>
      rw [List.filter_cons_of_neg (by simp [hp])]
      cases hq : q x with
      | true =>
        rw [List.filter_cons_of_pos hq]
        exact ⟨by simp; omega, fun _ => by simp; omega⟩
      | false =>
        rw [List.filter_cons_of_neg (by simp [hq])]
        refine ⟨i1, fun ⟨z, hz, e1, e2⟩ => ?_⟩
        rcases List.mem_cons.mp hz with e | e
        · rw [e, hq] at e2; cases e2
        · exact i2 ⟨z, e, e1, e2⟩
theorem rk_lt (o : Ord lt) {zs : List α} {d : α} {i j : Nat} (hi : i < zs.length) (hj : j < zs.length) : ltK (rk lt zs d) i j = lt (zs.getD i d) (zs.getD j d) := by
  unfold ltK rk
  have gi : zs.getD i d ∈ zs := by rw [getD_get hi]; exact List.getElem_mem hi
  have gj : zs.getD j d ∈ zs := by rw [getD_get hj]; exact List.getElem_mem hj
  cases h : lt (zs.getD i d) (zs.getD j d) with
  | true =>
    refine decide_eq_true ?_
    have := (filter_lt (p := fun z => lt z (zs.getD i d)) (q := fun z => lt z (zs.getD j d)) (fun z hz => o.tr _ _ _ hz h) zs).2 ⟨_, gi, o.irr _, h⟩
    omega
  | false =>
    refine decide_eq_false ?_
    have := (filter_lt (p := fun z => lt z (zs.getD j d)) (q := fun z => lt z (zs.getD i d)) (fun z hz => by
      cases h3 : lt z (zs.getD i d) with
      | true => rfl
      | false =>
        have e := o.le_trans h h3
        rw [hz] at e; cases e) zs).1
    omega
theorem out_isort (o : Ord lt) (zs : List α) (d : α) (h2 : 2 ≤ zs.length) : (tRun (ltK (rk lt zs d)) (kas_sort zs.length)).toList.map (fun i => zs.getD i d) = isort lt zs := by
  obtain ⟨h1, hu⟩ := sort_ok (key := rk lt zs d) (n := zs.length) (by omega)
  refine perm_unique o ?_ ?_ (isort_sorted o zs)
  · refine (h1.map _).trans ?_
    have : (List.range zs.length).map (fun i => zs.getD i d) = zs := by
      apply List.ext_getElem
      · simp
      · intro i h3 h4
        simp [h4]
    rw [this]
    exact (isort_perm zs).symm
  · rw [List.pairwise_map, List.pairwise_iff_getElem]
    intro i j hi hj hij
    have hn : (tRun (ltK (rk lt zs d)) (kas_sort zs.length)).toList.length = zs.length := by rw [h1.length_eq, List.length_range]
    have inr : ∀ k (hk : k < (tRun (ltK (rk lt zs d)) (kas_sort zs.length)).toList.length), (tRun (ltK (rk lt zs d)) (kas_sort zs.length)).toList[k] < zs.length := fun k hk => List.mem_range.mp (h1.mem_iff.mp (List.getElem_mem hk))
    have := hu i j (by omega) (by omega)
    unfold kAt at this
    have g : ∀ k (hk : k < (tRun (ltK (rk lt zs d)) (kas_sort zs.length)).toList.length), (tRun (ltK (rk lt zs d)) (kas_sort zs.length)).getD k 0 = (tRun (ltK (rk lt zs d)) (kas_sort zs.length)).toList[k] := fun k hk => by
      rw [Array.getD_eq_getD_getElem?, ← Array.getElem?_toList, List.getElem?_eq_getElem hk]; rfl
    rw [g i hi, g j hj] at this
    rw [← rk_lt o (inr j hj) (inr i hi)]
    exact decide_eq_false (by omega)
theorem isort_small : ∀ {zs : List α}, zs.length < 2 → isort lt zs = zs
  | [], _ => rfl
  | [x], _ => rfl
  | _ :: _ :: _, h => by simp at h; omega
variable {X : Cx} {K : PySem.W.Frag} {W : Wish} {own : Bool}
theorem vals_map {xs : List V} {us : List Value} (r : Vals xs us) (ps : List Nat) (hp : ∀ i ∈ ps, i < xs.length) : Vals (ps.map fun i => xs.getD i .non) (ps.map fun i => us.getD i .none) := by
  refine Vals.of_get (by simp) fun k v u h1 h2 => ?_
  rw [List.getElem?_map] at h1 h2
  cases e : ps[k]? with
  | none => rw [e] at h1; cases h1
  | some i =>
    rw [e] at h1 h2
    simp only [Option.map_some, Option.some.injEq] at h1 h2
    have hi := hp i (List.mem_of_getElem? e)
    have hl := r.length
    obtain ⟨u', e1, q⟩ := r.get (i := i) (x := xs[i]) (by simp [hi])
    rw [getD_get hi] at h1
    rw [List.getD_eq_getElem?_getD, e1] at h2
    rw [← h1, ← h2]
    exact q
theorem sorted_D (o : Ord lt) {pins : List (Addr × Obj)} {σ : St} {F H : Hp} {s : Shared} {Q : VK} {a : Addr} {xs : List V} {zs : List α} {d0 : α} {enc : α → Dat} (I : Inv X pins σ H s) (hF : Same F H) (t : SqL X.K F a xs) (r : Deeps X.K F (zs.map enc) xs) (h64 : zs.length < 64)
    (hk : ∀ its : List Value, Vals xs its → 2 ≤ its.length → ∀ h1 : Heap, (∀ b o, s.heap.get? b = some o → h1.get? b = some o) → Asks X.prog X.w X.A.in1.in1 (rk lt zs d0) its { s with heap := h1 })
    (p : Post X.K W true F H (.ok (.lst ((isort lt zs).map enc))) Q) : wpAny (model X.prog X.w) X.A (call (.builtin "sorted") [.ref a]) (EP X pins σ Q) X.xe s := by
  obtain ⟨its, rv, pl, hz⟩ := I.list (hF.lst t)
  have l1 := rv.length
  have l2 := r.length
  rw [List.length_map] at l2
  refine sorted_any (key := rk lt zs d0) pl.isList (by omega) (fun h2 h1 kp => hk its rv h2 h1 kp) fun h' D c hD kp e => ?_
  have key : ∃ ys, ys.length ≤ sizeLine ∧ Vals ys (outOf (rk lt zs d0) its) ∧ Deeps X.K F ((isort lt zs).map enc) ys := by
    unfold outOf
    by_cases h2 : its.length < 2
    · rw [if_pos h2, isort_small (by omega)]
      exact ⟨xs, hz, rv, r⟩
    · rw [if_neg h2, show its.length = zs.length by omega]
      obtain ⟨h1, _⟩ := sort_ok (key := rk lt zs d0) (n := zs.length) (by omega)
      have inr : ∀ i ∈ (tRun (ltK (rk lt zs d0)) (kas_sort zs.length)).toList, i < xs.length := fun i hi => by
        have := List.mem_range.mp (h1.mem_iff.mp hi); omega
      refine ⟨(tRun (ltK (rk lt zs d0)) (kas_sort zs.length)).toList.map fun i => xs.getD i .non, ?_, vals_map rv _ inr, ?_⟩
      · rw [List.length_map, h1.length_eq, List.length_range]; omega
      · rw [← out_isort o zs d0 (by omega), List.map_map]
        refine Deeps.of_get (by simp) fun k dd v g1 g2 => ?_
        rw [List.getElem?_map] at g1 g2
        cases ek : (tRun (ltK (rk lt zs d0)) (kas_sort zs.length)).toList[k]? with
        | none => rw [ek] at g1; cases g1
        | some i =>
          rw [ek] at g1 g2
          simp only [Option.map_some, Option.some.injEq, Function.comp] at g1 g2
          have hi := inr i (List.mem_of_getElem? ek)
          obtain ⟨w, e1, q⟩ := r.get (i := i) (d := enc (zs[i]'(by omega))) (by simp [show i < zs.length by omega])
          rw [getD_get (show i < zs.length by omega)] at g1
          rw [List.getD_eq_getElem?_getD, e1] at g2
          rw [← g1, ← g2]
          exact q
  obtain ⟨ys, hy1, hy2, hy3⟩ := key
  have I1 : Inv X pins σ (upd H D (.lst ys)) { s with heap := h' } := I.laid (t' := s.toks) kp hD (show ObjOk X.prog X.w _ h' D (.lst ys) from ⟨hy1, _, c, hy2, e⟩)
  exact ⟨.ref D, _, I1, rfl, p.lst hF hy3 (I.hok.fresh hD)⟩
theorem rk_ints (is : List Int) (i j : Nat) (hi : i < is.length) (hj : j < is.length) : ltK (rk ltZ is 0) i j = decide (is.getD i 0 < is.getD j 0) := rk_lt ordZ hi hj
theorem asks_ints {prog : Program} {w : World} {A : Around} {s' : Shared} {its : List Value} {is : List Int} (hi : IntsAre its is) (h2 : 2 ≤ its.length) : Asks prog w A (rk ltZ is 0) its s' := by
  have hl := hi.length
  obtain ⟨v1, v2, rest, rfl⟩ : ∃ v1 v2 rest, its = v1 :: v2 :: rest := by
    match its, h2 with
    | v1 :: v2 :: rest, _ => exact ⟨v1, v2, rest, rfl⟩
  unfold Asks
  rw [keyKind_ints hi]
  refine wpAny_pure ⟨rfl, fun i j C h1 h2 hc => ?_⟩
  unfold kas_ask
  obtain ⟨t1, e1⟩ := ints_at hi i h1
  obtain ⟨t2, e2⟩ := ints_at hi j h2
  rw [e1, e2]
  rw [rk_ints is i j (by omega) (by omega)] at hc
  exact kat_lt_int hc
where
  ints_at {vs : List Value} {ns : List Int} (h : IntsAre vs ns) (i : Nat) (hi : i < vs.length) : ∃ t, vs.getD i Value.none = .int (ns.getD i 0) t := by
    induction h generalizing i with
    | nil => simp at hi
    | cons n t r ih =>
      cases i with
      | zero => exact ⟨t, rfl⟩
      | succ i => obtain ⟨t', e⟩ := ih i (by simpa using hi); exact ⟨t', by simpa using e⟩
noncomputable def lexF (f : Bool) : List Int → List Int → Bool
  | a :: as, b :: bs => if a = b then lexF f as bs else decide (a < b)
  | _, _ => f
theorem lexF_lex : ∀ as bs : List Int, lexF (decide (as.length < bs.length)) as bs = lexZ as bs
  | [], [] => rfl
  | [], _ :: _ => by simp [lexF, lexZ]
  | _ :: _, [] => by simp [lexF, lexZ]
  | a :: as, b :: bs => by
    have := lexF_lex as bs
    simp only [lexF, lexZ, List.length_cons, Nat.add_lt_add_iff_right]
    rw [this]
theorem katLex_ints {prog : Program} {w : World} {A : Around} {s' : Shared} {f : Bool} {Q : Bool → Shared → Prop} : ∀ {us vs : List Value} {as bs : List Int} (i : Nat), IntsAre us as → IntsAre vs bs → Q (lexF f as bs) s' → KatLex prog w A true f Q (us.zip vs) i s'
  | _, _, _, bs, _, .nil, _, h => kat_nil (by cases bs <;> exact h)
  | _, _, _, _, _, .cons a t r, .nil, h => kat_nil h
  | _, _, _, _, i, .cons a t r, .cons b u r', h => by
    show KatLex prog w A true f Q ((.int a t, .int b u) :: (_ : List (Value × Value))) i s'
    refine kat_cons (SeqAt.EqAt.int_int a t b u _ _ _ _ ?_)
    by_cases e : a = b
    · rw [show (a == b) = true by simpa using e]
      rw [lexF, if_pos e] at h
      exact kat_yes (katLex_ints (i + 1) r r' h)
    · rw [show (a == b) = false by simpa using e]
      rw [lexF, if_neg e] at h
      refine kat_no ?_
      cases hb : (true && i == 0) with
      | true => exact oneLt_int h
      | false => exact kat_one _ _ (lt_int h)
theorem asks_tups {pins : List (Addr × Obj)} {σ : St} {F H : Hp} {s : Shared} {A : Around} {xs : List V} {ts : List (List Int)} {its : List Value} {h1 : Heap} (I : Inv X pins σ H s) (hF : Same F H) (r : Deeps X.K F (ts.map tupZ) xs) (hne : (ts.all fun t => !t.isEmpty) = true) (rv : Vals xs its) (h2 : 2 ≤ its.length)
    (kp : ∀ b o, s.heap.get? b = some o → h1.get? b = some o) : Asks X.prog X.w A (rk lexZ ts []) its { s with heap := h1 } := by
  have l1 := rv.length
  have l2 := r.length
  rw [List.length_map] at l2
  have at_ : ∀ i, i < its.length → ∃ (l : Addr) (ob : Obj) (us : List Value) (n : Nat), its.getD i Value.none = .ref l ∧ h1.get? l = some ob ∧ ob.cls = .type "tuple" ∧ ob.data = .seq us.toArray n ∧ IntsAre us (ts.getD i []) := fun i hi => by
    obtain ⟨v, e1, l, ys, e2, tq, rr⟩ := r.get (i := i) (d := tupZ (ts[i]'(by omega))) (by simp [show i < ts.length by omega])
    subst e2
    obtain ⟨u, e3, ru⟩ := rv.get e1
    cases ru
    obtain ⟨us, ru, pl, _⟩ := I.tuple (hF.tup tq)
    obtain ⟨ob, h3, h4, n, h5⟩ := pl
    have e4 : ys = (ts[i]'(by omega)).map V.int := ints_deep rr (intsD_map _)
    rw [e4] at ru
    exact ⟨l, ob, us, n, by rw [List.getD_eq_getElem?_getD, e3]; rfl, kp _ _ h3, h4, h5, by rw [getD_get (show i < ts.length by omega)]; exact intsAre_of ru⟩
  have tups : ∀ (k : Nat), k ≤ its.length → ∃ fs, KatTups h1 (its.drop (its.length - k)) fs ∧ fs.length = k ∧ ∀ v ∈ fs, ∃ i t, v = Value.int i t := by
    intro k
    induction k with
    | zero => intro _; exact ⟨[], by rw [Nat.sub_zero, List.drop_length]; exact KatTups.nil, rfl, fun _ h => nomatch h⟩
    | succ k ih =>
      intro hk
      obtain ⟨fs, q1, q2, q3⟩ := ih (by omega)
      have hi : its.length - (k + 1) < its.length := by omega
      obtain ⟨l, ob, us, n, e1, e2, e3, e4, e5⟩ := at_ _ hi
      have hn : (ts.getD (its.length - (k + 1)) []) ≠ [] := by
        rw [getD_get (show its.length - (k + 1) < ts.length by omega)]
        have := List.all_eq_true.mp hne _ (List.getElem_mem (show its.length - (k + 1) < ts.length by omega))
        simpa using this
      obtain ⟨z, ez⟩ : ∃ z, ts.getD (its.length - (k + 1)) [] = z := ⟨_, rfl⟩
      rw [ez] at e5 hn
      obtain ⟨f, fr, ef, hf⟩ : ∃ f fr, us = f :: fr ∧ ∃ i t, f = Value.int i t := by
        cases e5 with
        | nil => exact absurd rfl hn
        | cons m t r => exact ⟨_, _, rfl, _, _, rfl⟩
      refine ⟨f :: fs, ?_, by simp [q2], fun v hv => ?_⟩
      · rw [List.drop_eq_getElem_cons hi]
        rw [show its.length - (k + 1) + 1 = its.length - k by omega]
        rw [getD_get hi] at e1
        rw [e1]
        exact KatTups.cons e2 e3 e4 (by rw [ef]; rfl) q1
      · rcases List.mem_cons.mp hv with e | e
        · rw [e]; exact hf
        · exact q3 v e
  obtain ⟨fs, q1, q2, q3⟩ := tups its.length (Nat.le_refl _)
  rw [Nat.sub_self, List.drop_zero] at q1
  unfold Asks
  refine kat_kind (s := { s with heap := h1 }) (T := .type "int") q1 (by omega) (fun v hv => ?_) rfl ⟨rfl, fun i j C hi hj hc => ?_⟩
  · obtain ⟨i, t, e⟩ := q3 v hv
    rw [e]
    exact Looks.of_pure rfl
  · unfold kas_ask
    obtain ⟨x1, o1, us, n1, e1, g1, _, d1, a1⟩ := at_ i hi
    obtain ⟨x2, o2, vs, n2, e2, g2, _, d2, a2⟩ := at_ j hj
    rw [e1, e2]
    rw [rk_lt ordLex (show i < ts.length by omega) (show j < ts.length by omega)] at hc
    refine kat_lt (s := { s with heap := h1 }) g1 d1 g2 d2 (katLex_ints 0 a1 a2 ?_)
    rw [List.size_toArray, List.size_toArray, a1.length, a2.length, lexF_lex]
    exact hc
theorem tup_deep {F : Hp} {d : Dat} {t : List Int} (h : tupD d = .ok t) : d = tupZ t := by
  cases d with
  | tup ds =>
    have : ∀ {ds : List Dat} {t : List Int}, intsD ds = .ok t → ds = t.map .int := by
      intro ds
      induction ds with
      | nil => intro t h; cases h; rfl
      | cons d ds ih =>
        intro t h
        cases d with
        | int i =>
          cases e : intsD ds with
          | error x => simp only [intsD, asI, bind_ok, e, bind_er] at h; cases h
          | ok r =>
            simp only [intsD, asI, bind_ok, e] at h
            cases h
            rw [ih e]
            rfl
        | _ => cases h
    unfold tupZ
    rw [this h]
  | _ => cases h
theorem ints_data : ∀ {ds : List Dat} {t : List Int}, intsD ds = .ok t → ds = t.map .int := fun {ds t} h => by
  have := tup_deep (F := fun _ => none) (d := .tup ds) (t := t) h
  unfold tupZ at this
  injection this
theorem tups_data : ∀ {ds : List Dat} {ts : List (List Int)}, tupsD ds = .ok ts → ds = ts.map tupZ
  | [], _, h => by cases h; rfl
  | d :: ds, ts, h => by
    cases e : tupD d with
    | error x => simp only [tupsD, e, bind_er] at h; cases h
    | ok t =>
      cases e2 : tupsD ds with
      | error x => simp only [tupsD, e, bind_ok, e2, bind_er] at h; cases h
      | ok r =>
        simp only [tupsD, e, bind_ok, e2] at h
        cases h
        rw [tup_deep (F := fun _ => none) e, tups_data e2]
        rfl
theorem tupsD_err : ∀ {ds : List Dat} {e : Err}, tupsD ds = .error e → e = .stuck
  | [], _, h => by cases h
  | d :: ds, e, h => by
    cases e1 : tupD d with
    | error x =>
      simp only [tupsD, e1, bind_er] at h
      cases h
      cases d with
      | tup ds => exact intsD_err e1
      | _ => cases e1; rfl
    | ok t =>
      cases e2 : tupsD ds with
      | error x => simp only [tupsD, e1, bind_ok, e2, bind_er] at h; cases h; exact tupsD_err e2
      | ok r => simp only [tupsD, e1, bind_ok, e2] at h; cases h
theorem c_sorted (hK : X.K = K := by rfl) : CallD K W true X (.builtin "sorted") sortedD := by
  subst hK
  intro pins s σ H xs us Q I rr h
  obtain ⟨F, d, x, s1, e, q, p⟩ := one_arg (fun ds => by match ds with | [d] => exact .inl ⟨d, rfl⟩ | [] => exact .inr rfl | a :: b :: c => exact .inr (by cases a <;> rfl)) h
  subst e
  obtain ⟨u, rfl, ru⟩ := rr.one
  cases d with
  | lst ds =>
    obtain ⟨a, ys, e1, t, r⟩ := q
    subst e1
    cases ru
    have p' : Post X.K W true F H (sortDs ds) Q := p
    unfold sortDs at p'
    by_cases h64 : ds.length < 64
    · rw [if_pos h64] at p'
      cases ei : intsD ds with
      | ok is =>
        rw [ei] at p'
        have ed := ints_data ei
        subst ed
        refine sorted_D ordZ (d0 := 0) I s1 t r (by simpa using h64) (fun its rv h2 h1 kp => ?_) p'
        have e2 : ys = is.map V.int := ints_deep r ei
        subst e2
        exact asks_ints (intsAre_of rv) h2
      | error z =>
        rw [ei] at p'
        have p2 : Post X.K W true F H ((tupsD ds).bind fun ts => if (ts.all fun t => !t.isEmpty) = true then .ok (.lst ((isort lexZ ts).map tupZ)) else stk) Q := p'
        cases et : tupsD ds with
        | error z2 => rw [et] at p2; have := tupsD_err et; subst this; exact Post.stuck p2
        | ok ts =>
          rw [et] at p2
          have ed := tups_data et
          subst ed
          have p3 : Post X.K W true F H (if (ts.all fun t => !t.isEmpty) = true then .ok (.lst ((isort lexZ ts).map tupZ)) else stk) Q := p2
          by_cases hne : (ts.all fun t => !t.isEmpty) = true
          · rw [if_pos hne] at p3
            exact sorted_D ordLex (d0 := []) I s1 t r (by simpa using h64) (fun its rv h2 h1 kp => asks_tups I s1 r hne rv h2 kp) p3
          · rw [if_neg hne] at p3
            exact Post.stuck p3
    · rw [if_neg h64] at p'
      exact Post.stuck p'
  | _ => exact Post.stuck p
end
end L2
namespace L2
open PySem PySem.Spec PyProof.Rows
noncomputable def isBD : Dat → Dat → M Dat
  | .bl a, .bl b => .ok (.bl (a == b))
  | .non, .bl _ => .ok (.bl false)
  | .int _, .bl _ => .ok (.bl false)
  | .str _, .bl _ => .ok (.bl false)
  | .lst _, .bl _ => .ok (.bl false)
  | .tup _, .bl _ => .ok (.bl false)
  | _, _ => stk
section
variable {X : Cx} {K : PySem.W.Frag} {W : Wish} {own ro : Bool} {e a b c d : Expr} {lo hi : Option Expr} {es : List Expr} {x y : Str} {pos p p2 p3 q r t u : Pos} {f fa fb fc fd' fk : Env' → M Dat} {fl fu : Env' → M (Option Int)} {OL O : List Nat}
theorem o_isB : Op2 K W own X (compareOp .Is) isBD := by
  intro pins s σ H x y v u Q I rx ry h
  obtain ⟨F, a, b, s1, qa, qb, p⟩ := h
  cases b with
  | bl k =>
    cases (show y = .bl k from qb)
    cases ry
    cases a with
    | bl j => cases (show x = .bl j from qa); cases rx; exact is_bool (fin_bl I (Post.bl p s1) rfl)
    | non => cases (show x = .non from qa); cases rx; exact wpAny_pure (fin_bl I (Post.bl p s1) rfl)
    | int j => cases (show x = .int j from qa); obtain ⟨t, rfl⟩ := rx; exact wpAny_pure (fin_bl I (Post.bl p s1) rfl)
    | str j => cases (show x = .str j from qa); obtain ⟨t, rfl⟩ := rx; exact wpAny_pure (fin_bl I (Post.bl p s1) rfl)
    | lst ds => obtain ⟨l, xs, e, _⟩ := qa; subst e; cases rx; exact wpAny_pure (fin_bl I (Post.bl p s1) rfl)
    | tup ds => obtain ⟨l, xs, e, _⟩ := qa; subst e; cases rx; exact wpAny_pure (fin_bl I (Post.bl p s1) rfl)
    | ins C fs => exact Post.stuck p
  | _ => cases a <;> exact Post.stuck p
end
section
variable {ρ : Env'} {fa fb fc fd' : Env' → M Dat} {fl fu : Env' → M (Option Int)}
@[simp] theorem e_isBB (a b : Bool) : isBD (.bl a) (.bl b) = .ok (.bl (a == b)) := id rfl
@[simp] theorem e_pow {i j : Int} (h0 : 0 ≤ j) (h1 : j ≤ 1000000) (h2 : i.natAbs < 2 ^ 64) : powD (.int i) (.int j) = .ok (.int (i ^ j.toNat)) := by
  show (if (decide (0 ≤ j) && decide (j ≤ 1000000) && decide (i.natAbs < 2 ^ 64)) = true then _ else _) = _
  rw [if_pos (by simp only [Bool.and_eq_true, decide_eq_true_eq]; exact ⟨⟨h0, h1⟩, h2⟩)]
@[simp] theorem e_eqII (i j : Int) : eqM (.int i) (.int j) = .ok (.bl (decide (i = j))) := by
  show Except.ok (Dat.bl (i == j)) = _
  rw [show (i == j) = decide (i = j) from rfl]
@[simp] theorem e_neII (i j : Int) : neM (.int i) (.int j) = .ok (.bl (!decide (i = j))) := by
  show Except.ok (Dat.bl (!(i == j))) = _
  rw [show (i == j) = decide (i = j) from rfl]
@[simp] theorem e_neBB (i j : Bool) : neM (.bl i) (.bl j) = .ok (.bl (!(i == j))) := id rfl
end
end L2
namespace L2
open PySem PySem.Spec PyProof.Rows
section
variable {X : Cx} {K : PySem.W.Frag} {W : Wish} {own ro : Bool} {e a b c d : Expr} {st : Option Expr} {te : TE} {tp : TO} {es : List Expr} {x y : Str} {pos p p2 p3 p4 q r t u : Pos} {f fa fb fc fk : Env' → M Dat} {fp : Env' → M (Option Int)} {OL O : List Nat}
end
end L2
namespace L2
open PySem PySem.Spec PyProof.Rows
noncomputable def attrD (Cs : List Addr) (x : Str) : Dat → M Dat
  | .ins C fs => if Cs.contains C = true then (match fs.lookup x with
    | some d => .ok d
    | none => stk) else stk
  | _ => stk
noncomputable def isC (C : Addr) (m : Str) : Dat → Bool
  | .ins D fs => (D == C) && (fs.lookup m).isNone
  | _ => false
noncomputable def fMeth (C : Addr) (m : Str) (g : List Dat → M Dat) (fo : Env' → M Dat) (fr : Env' → M (List Dat)) : Env' → M Dat := fun ρ => (fo ρ).bind fun o => if isC C m o = true then (fr ρ).bind fun as => g (o :: as) else stk
noncomputable def fMeth2 (C C2 : Addr) (m : Str) (g g2 : List Dat → M Dat) (fo : Env' → M Dat) (fr : Env' → M (List Dat)) : Env' → M Dat := fun ρ => (fo ρ).bind fun o => if isC C m o = true then (fr ρ).bind fun as => g (o :: as) else if isC C2 m o = true then (fr ρ).bind fun as => g2 (o :: as) else stk
noncomputable def newR (C : Addr) (g : List Dat → M Dat) : List Dat → M Dat
  | [d] => (g [d]).bind fun r => .ok (.ins C [("gaps", r)])
  | _ => stk
noncomputable def twoL : Dat → Dat → Bool
  | .lst xs, .lst ys => decide (xs.length = ys.length)
  | _, _ => false
noncomputable def newP (C : Addr) (g : List Dat → M Dat) : List Dat → M Dat
  | [d, e] => (g [d]).bind fun r => (g [e]).bind fun r2 => if twoL r r2 = true then .ok (.ins C [("gaps", r), ("beside", r2)]) else stk
  | _ => stk
noncomputable def sStk : Env' → M Flo := fun _ => stk
section
variable {X : Cx} {K : PySem.W.Frag} {W : Wish} {own ro : Bool} {e o a b c d : Expr} {es : List Expr} {x y m : Str} {pos p p2 apos : Pos} {f fa fo : Env' → M Dat} {fr : Env' → M (List Dat)} {OL O O' : List Nat} {C C2 : Addr} {Cs : List Addr}
theorem ds_stk {st : Stmt} : DS K W ro X OL O O' st sStk := fun F0 H0 pins s σ H D I h => by
  obtain ⟨FB, F, ρ, r, p⟩ := h
  exact p.stuck rfl
theorem DeepF.at {F : Hp} {x : Str} : ∀ {gs : List (Str × Dat)} {fs : List (Str × V)}, DeepF K F gs fs → (∀ d, gs.lookup x = some d → ∃ v, fs.lookup x = some v ∧ Deep K F d v) ∧ (gs.lookup x = none → fs.lookup x = none)
  | [], fs, h => by cases (show fs = [] from h); exact ⟨fun d h => by simp at h, fun _ => rfl⟩
  | (g, d) :: gs, fs, h => by
    obtain ⟨v, r, rfl, h1, h2⟩ := h
    have ih := DeepF.at (x := x) h2
    rw [List.lookup_cons, List.lookup_cons]
    cases e : x == g with
    | true => exact ⟨fun d' h' => by cases h'; exact ⟨v, rfl, h1⟩, fun h' => by cases h'⟩
    | false => exact ih
theorem de_fld (hC : ∀ C ∈ Cs, Cls K C ∧ NoAttr K C y) (he : DE K W false X e fa) (hb : attributeBase e y X.env (eval e X.env) = eval e X.env := by rfl) (hK : X.K = K := by rfl) : DE K W false X (.Attribute e y pos) (f1 (attrD Cs y) fa) := by
  subst hK
  refine (pe_fld he hb).imp fun σ H Q h => ?_
  obtain ⟨F, ρ, r, s, p⟩ := h
  refine tD_run r s (fun e he => p.err (by unfold f1; rw [he]; rfl)) fun a ha x F1 H1 s1 q1 => ?_
  have ez : f1 (attrD Cs y) fa ρ = attrD Cs y a := by unfold f1; rw [ha]; rfl
  rw [ez] at p
  cases a with
  | ins C gs =>
    obtain ⟨l, dx, fs, e1, ea, df⟩ := q1
    have p' : Post X.K W false F H (if Cs.contains C = true then (match gs.lookup y with
      | some d => .ok d
      | none => stk) else stk) Q := p
    by_cases hc : Cs.contains C = true
    · rw [if_pos hc] at p'
      obtain ⟨h1, h2⟩ := hC C (by simpa using hc)
      cases hl : gs.lookup y with
      | none => rw [hl] at p'; exact Post.stuck p'
      | some d =>
        rw [hl] at p'
        obtain ⟨v, hv, hd⟩ := df.at.1 d hl
        exact ⟨l, C, dx, fs, v, e1, s1.fh _ _ ea, h1, h2, hv, (p'.step s1) v F1 H1 (Step.refl s1.fh) hd⟩
    · rw [if_neg hc] at p'; exact Post.stuck p'
  | _ => exact Post.stuck p
theorem PE.or {t1 t2 : TE} (h1 : PE X e t1) (h2 : PE X e t2) : PE X e (fun σ H Q => t1 σ H Q ∨ t2 σ H Q) := fun pins s σ H Q I h => h.elim (h1 pins s σ H Q I) (h2 pins s σ H Q I)
theorem rd_meth {nN n : Nat} {g : Env' → M Flo} {σ : St} {H : Hp} {Q : VK} (h : tD K Wno ro (fMeth C m (runB nN n g) fo fr) σ H Q) : tMeth C m (spF K ro (runB nN n g) n) [] E0 (tD K Wno false fo) (tDA K Wno fr) σ H Q := by
  obtain ⟨F, ρ, r, s, p⟩ := h
  refine tD_run r s (fun e he => p.err (by unfold fMeth; rw [he]; rfl)) fun o ho x F1 H1 s1 q1 => ?_
  have ez : fMeth C m (runB nN n g) fo fr ρ = if isC C m o = true then (fr ρ).bind fun as => runB nN n g (o :: as) else stk := by unfold fMeth; rw [ho]; rfl
  rw [ez] at p
  by_cases hc : isC C m o = true
  · rw [if_pos hc] at p
    cases o with
    | ins D gs =>
      obtain ⟨l, dx, fs, e1, ea, df⟩ := id q1
      have hc' : ((D == C) && (gs.lookup m).isNone) = true := hc
      rw [Bool.and_eq_true] at hc'
      obtain ⟨hD, hn⟩ := hc'
      have hD : D = C := by simpa using hD
      subst hD
      refine ⟨l, dx, fs, e1, s1.fh _ _ ea, df.at.2 (by simpa using hn), ?_⟩
      have p := p.step s1
      refine tDA_run (r.mono s1.ff) s1.fh (fun e he => p.err (by rw [he]; rfl)) fun as has vs F2 H2 s2 qs => ?_
      rw [has] at p
      have p : Post K Wno ro F1 H1 (runB nN n g (.ins D gs :: as)) Q := p
      have p := p.step s2
      show spF K ro (runB nN n g) n (x :: (vs ++ [])) H2 Q E0
      rw [List.append_nil]
      by_cases hl : (Dat.ins D gs :: as).length = n
      · exact ⟨F2, .ins D gs :: as, s2.fh, ⟨x, vs, rfl, Deep.mono s2.ff q1, qs⟩, hl, p⟩
      · rw [runB_len hl] at p
        exact Post.stuck p
    | _ => cases hc
  · rw [if_neg hc] at p; exact Post.stuck p
theorem rd_meth2 {nN n nN2 n2 : Nat} {g g2 : Env' → M Flo} {σ : St} {H : Hp} {Q : VK} (h : tD K Wno ro (fMeth2 C C2 m (runB nN n g) (runB nN2 n2 g2) fo fr) σ H Q) :
    tD K Wno ro (fMeth C m (runB nN n g) fo fr) σ H Q ∨ tD K Wno ro (fMeth C2 m (runB nN2 n2 g2) fo fr) σ H Q := by
  obtain ⟨F, ρ, r, s, p⟩ := h
  cases ho : fo ρ with
  | error e =>
    refine .inl ⟨F, ρ, r, s, ?_⟩
    have e1 : fMeth2 C C2 m (runB nN n g) (runB nN2 n2 g2) fo fr ρ = .error e := by unfold fMeth2; rw [ho]; rfl
    have e2 : fMeth C m (runB nN n g) fo fr ρ = .error e := by unfold fMeth; rw [ho]; rfl
    rw [e1] at p; rw [e2]; exact p
  | ok o =>
    have e1 : fMeth2 C C2 m (runB nN n g) (runB nN2 n2 g2) fo fr ρ = if isC C m o = true then (fr ρ).bind fun as => runB nN n g (o :: as) else if isC C2 m o = true then (fr ρ).bind fun as => runB nN2 n2 g2 (o :: as) else stk := by unfold fMeth2; rw [ho]; rfl
    have e2 : fMeth C m (runB nN n g) fo fr ρ = if isC C m o = true then (fr ρ).bind fun as => runB nN n g (o :: as) else stk := by unfold fMeth; rw [ho]; rfl
    have e3 : fMeth C2 m (runB nN2 n2 g2) fo fr ρ = if isC C2 m o = true then (fr ρ).bind fun as => runB nN2 n2 g2 (o :: as) else stk := by unfold fMeth; rw [ho]; rfl
    rw [e1] at p
    by_cases hc : isC C m o = true
    · rw [if_pos hc] at p e2
      exact .inl ⟨F, ρ, r, s, by rw [e2]; exact p⟩
    · rw [if_neg hc] at p
      exact .inr ⟨F, ρ, r, s, by rw [e3]; exact p⟩
noncomputable def MethEq (X : Cx) (o : Expr) (m : Str) (apos : Pos) (es : List Expr) (pos : Pos) (pl : Sem Bool) : Prop := eval (.Call (.Attribute o m apos) es [] pos) X.env = (do let ov ← eval o X.env; standAt apos.atName; let (f, first) ← holding [ov] (getMethod ov m pl); callWith pos f first (backTo pos (starEach es X.env)) (backToKw pos (keywordEach [] X.env)))
section
variable {k nN n nN2 n2 : Nat} {fad fad2 : Addr} {fd fd2 : FuncData} {ps : List Str} {g g2 : Env' → M Flo} {pl : Sem Bool}
theorem pe_methD (c : Cls X.K C) (M : Meth X.K C m fad) (F : FnOk X.prog X.w X.K X.mg X.base CX0 k fad fd ps (spF X.K ro (runB nN n g) n)) (hr : Room k X.A) (hb : Binds X.K fd ps []) (ho : DE X.K Wno false X o fo) (ha : DA X.K Wno X (e :: es) fr)
    (hst : starEach (e :: es) X.env = (false, eval e X.env) :: starEach es X.env) (hpl : (backTo pos (starEach es X.env)).any (·.1) = false) (ht : MethEq X o m apos (e :: es) pos pl) : DE X.K Wno ro X (.Call (.Attribute o m apos) (e :: es) [] pos) (fMeth C m (runB nN n g) fo fr) :=
  (pe_meth (pl := pl) ho c M F hr hb .nil pass0 ha hst hpl ht).imp fun _ _ _ => rd_meth
theorem pe_methD0 (c : Cls X.K C) (M : Meth X.K C m fad) (F : FnOk X.prog X.w X.K X.mg X.base CX0 k fad fd ps (spF X.K ro (runB nN n g) n)) (hr : Room k X.A) (hb : Binds X.K fd ps []) (ho : DE X.K Wno false X o fo)
    (ht : MethEq X o m apos [] pos pl) : DE X.K Wno ro X (.Call (.Attribute o m apos) [] [] pos) (fMeth C m (runB nN n g) fo fNil) :=
  (pe_meth0 (pl := pl) ho c M F hr hb .nil pass0 ht).imp fun σ H Q h => by
    obtain ⟨F, ρ, r, s, z⟩ := rd_meth h
    refine ⟨F, ρ, r, s, ?_⟩
    cases e1 : fo ρ with
    | error z' => rw [e1] at z; exact z
    | ok od =>
      rw [e1] at z
      intro v F' H' st q
      obtain ⟨l, dx, fs, h1, h2, h3, h4⟩ := z v F' H' st q
      exact ⟨l, dx, fs, h1, h2, h3, rd_nil h4⟩
theorem de_meth2 {k2 : Nat} {ps2 : List Str} (c : Cls K C) (M : Meth K C m fad) (F : FnOk X.prog X.w X.K X.mg X.base CX0 k fad fd ps (spF K ro (runB nN n g) n)) (hr : Room k X.A) (hb : Binds X.K fd ps [])
    (c2 : Cls K C2) (M2 : Meth K C2 m fad2) (F2 : FnOk X.prog X.w X.K X.mg X.base CX0 k2 fad2 fd2 ps2 (spF K ro (runB nN2 n2 g2) n2)) (hr2 : Room k2 X.A) (hb2 : Binds X.K fd2 ps2 []) (ho : DE K Wno false X o fo) (ha : DA K Wno X (e :: es) fr)
    (hK : X.K = K := by rfl) (hst : starEach (e :: es) X.env = (false, eval e X.env) :: starEach es X.env := by rfl) (hpl : (backTo pos (starEach es X.env)).any (·.1) = false := by rfl) (ht : MethEq X o m apos (e :: es) pos pl := by rfl) :
    DE K Wno ro X (.Call (.Attribute o m apos) (e :: es) [] pos) (fMeth2 C C2 m (runB nN n g) (runB nN2 n2 g2) fo fr) := by
  subst hK
  exact (PE.or (pe_methD c M F hr hb ho ha hst hpl ht) (pe_methD c2 M2 F2 hr2 hb2 ho ha hst hpl ht)).imp fun _ _ _ => rd_meth2
theorem de_meth2z {k2 : Nat} {ps2 : List Str} (c : Cls K C) (M : Meth K C m fad) (F : FnOk X.prog X.w X.K X.mg X.base CX0 k fad fd ps (spF K ro (runB nN n g) n)) (hr : Room k X.A) (hb : Binds X.K fd ps [])
    (c2 : Cls K C2) (M2 : Meth K C2 m fad2) (F2 : FnOk X.prog X.w X.K X.mg X.base CX0 k2 fad2 fd2 ps2 (spF K ro (runB nN2 n2 g2) n2)) (hr2 : Room k2 X.A) (hb2 : Binds X.K fd2 ps2 []) (ho : DE K Wno false X o fo)
    (hK : X.K = K := by rfl) (ht : MethEq X o m apos [] pos pl := by rfl) :
    DE K Wno ro X (.Call (.Attribute o m apos) [] [] pos) (fMeth2 C C2 m (runB nN n g) (runB nN2 n2 g2) fo fNil) := by
  subst hK
  exact (PE.or (pe_methD0 c M F hr hb ho ht) (pe_methD0 c2 M2 F2 hr2 hb2 ho ht)).imp fun _ _ _ => rd_meth2
end
noncomputable def spI1 (K : PySem.W.Frag) (C : Addr) (g : List Dat → M Dat) : Sp := fun vs H Q _ => ∃ p dx v F d, vs = [.ref p, v] ∧ H p = some (.ins C dx []) ∧ F p = none ∧ Same F H ∧ Deep K F d v ∧ (match g [d] with
  | .ok r => ∀ w F' H', Same F F' → Same F' H' → F' p = none → (∀ b o, F' b = some o → F b = some o ∨ H b = none) → (∀ c o, H c = some o → c ≠ p → H' c = some o) → H' p = some (.ins C dx [("gaps", w)]) → Deep K F' r w → Q .non H'
  | .error e => Wno.p e F H)
noncomputable def spI2 (K : PySem.W.Frag) (C : Addr) (g : List Dat → M Dat) : Sp := fun vs H Q _ => ∃ p dx v v2 F d d2, vs = [.ref p, v, v2] ∧ H p = some (.ins C dx []) ∧ F p = none ∧ Same F H ∧ Deep K F d v ∧ Deep K F d2 v2 ∧ (match (g [d]).bind fun r => (g [d2]).bind fun r2 => if twoL r r2 = true then .ok (r, r2) else stk with
  | .ok (r, r2) => ∀ w w2 F' H', Same F F' → Same F' H' → F' p = none → (∀ b o, F' b = some o → F b = some o ∨ H b = none) → (∀ c o, H c = some o → c ≠ p → H' c = some o) → H' p = some (.ins C dx [("gaps", w), ("beside", w2)]) → Deep K F' r w → Deep K F' r2 w2 → Q .non H'
  | .error e => Wno.p e F H)
theorem Step.born {F H F' H' : Hp} {x dx : Addr} {fs : List (Str × V)} (s : Same F H) (hx : H x = none) (hdx : H dx = none) (hne : dx ≠ x) (h1 : Same F F') (h2 : Same F' H') (h3 : F' x = none) (h4 : ∀ b o, F' b = some o → F b = some o ∨ upd (upd H dx (.own x)) x (.ins C dx []) b = none)
    (h5 : ∀ c o, upd (upd H dx (.own x)) x (.ins C dx []) c = some o → c ≠ x → H' c = some o) (h6 : H' x = some (.ins C dx fs)) : Step F H (upd F' x (.ins C dx fs)) H' where
  ff := h1.trans (Same.upd h3)
  hh := fun c o e => by
    have hc : c ≠ x := fun h => by rw [h, hx] at e; cases e
    have hd : c ≠ dx := fun h => by rw [h, hdx] at e; cases e
    exact h5 c o (by rw [upd_ne hc, upd_ne hd]; exact e) hc
  fh := fun c o e => by
    by_cases hc : c = x
    · subst hc; rw [upd_same] at e; rw [h6]; exact e
    · rw [upd_ne hc] at e; exact h2 _ _ e
  nw := fun c o e => by
    by_cases hc : c = x
    · subst hc; exact .inr hx
    · rw [upd_ne hc] at e
      rcases h4 c o e with z | z
      · exact .inl z
      · refine .inr ?_
        by_cases hd : c = dx
        · subst hd; exact hdx
        · rw [upd_ne hc, upd_ne hd] at z; exact z
theorem de_newR {k : Nat} {fI : Addr} {fdI : FuncData} {g : List Dat → M Dat} {ps : List Str} (Mk' : Mk X.K C fI) (FI : FnOk X.prog X.w X.K X.mg X.base CX0 k fI fdI ps (spI1 K C g)) (hr : Room (k + 1) X.A) (hm : X.mg x = some (.ref C)) (hb : Binds X.K fdI ps [])
    (ha : DA K Wno X [e] fr) (hg : Gl X x := by rfl) (hdb : (x == ("__debug__" : Str)) = false := by decide) (hst : starEach [e] X.env = (false, eval e X.env) :: starEach [] X.env := by rfl) (hpl : (backTo pos (starEach [] X.env)).any (·.1) = false := by rfl) :
    DE K Wno false X (.Call (.Name x p) [e] [] pos) (fL (newR C g) fr) := by
  refine PE.imp (pe_make Mk' FI hr hg hm hb .nil pass0 ha hdb hst hpl) fun σ H Q h => ?_
  obtain ⟨F, ρ, r, s, p⟩ := rd_L h
  refine ⟨F, ρ, r, s, ?_⟩
  cases e1 : fr ρ with
  | error z => rw [e1] at p; exact p
  | ok ds =>
    rw [e1] at p
    intro vs F1 H1 st q
    obtain ⟨F2, es1, s1, q1, z⟩ := p vs F1 H1 st q
    rcases es1 with _ | ⟨d, _ | ⟨_, _⟩⟩
    · exact Post.stuck z
    rotate_left
    · exact Post.stuck z
    · obtain ⟨v, vs', rfl, qd, hn⟩ := q1
      cases (show vs' = [] from hn)
      intro x dx hx hdx hne
      refine ⟨x, dx, v, F2, d, rfl, upd_same, s1.free hx, fun c o e => ?_, qd, ?_⟩
      · have hc : c ≠ x := fun h => by rw [h, s1.free hx] at e; cases e
        have hd : c ≠ dx := fun h => by rw [h, s1.free hdx] at e; cases e
        rw [upd_ne hc, upd_ne hd]; exact s1 _ _ e
      · have z : Post K Wno false F2 H1 ((g [d]).bind fun r => .ok (.ins C [("gaps", r)])) Q := z
        cases hgd : g [d] with
        | error e => rw [hgd] at z; exact False.elim z
        | ok r =>
          rw [hgd] at z
          intro w F' H' h1 h2 h3 h4 h5 h6 h7
          refine ⟨rfl, z (.ref x) (upd F' x (.ins C dx [("gaps", w)])) H' (Step.born s1 hx hdx hne h1 h2 h3 h4 h5 h6) ?_⟩
          exact ⟨x, dx, _, rfl, upd_same, w, [], rfl, Deep.mono (Same.upd h3) h7, rfl⟩
theorem de_newP {k : Nat} {fI : Addr} {fdI : FuncData} {g : List Dat → M Dat} {ps : List Str} (Mk' : Mk X.K C fI) (FI : FnOk X.prog X.w X.K X.mg X.base CX0 k fI fdI ps (spI2 K C g)) (hr : Room (k + 1) X.A) (hm : X.mg x = some (.ref C)) (hb : Binds X.K fdI ps [])
    (ha : DA K Wno X [e, a] fr) (hg : Gl X x := by rfl) (hdb : (x == ("__debug__" : Str)) = false := by decide) (hst : starEach [e, a] X.env = (false, eval e X.env) :: starEach [a] X.env := by rfl) (hpl : (backTo pos (starEach [a] X.env)).any (·.1) = false := by rfl) :
    DE K Wno false X (.Call (.Name x p) [e, a] [] pos) (fL (newP C g) fr) := by
  refine PE.imp (pe_make Mk' FI hr hg hm hb .nil pass0 ha hdb hst hpl) fun σ H Q h => ?_
  obtain ⟨F, ρ, r, s, p⟩ := rd_L h
  refine ⟨F, ρ, r, s, ?_⟩
  cases e1 : fr ρ with
  | error z => rw [e1] at p; exact p
  | ok ds =>
    rw [e1] at p
    intro vs F1 H1 st q
    obtain ⟨F2, es1, s1, q1, z⟩ := p vs F1 H1 st q
    rcases es1 with _ | ⟨d, _ | ⟨d2, _ | ⟨_, _⟩⟩⟩
    · exact Post.stuck z
    · exact Post.stuck z
    rotate_left
    · exact Post.stuck z
    · obtain ⟨v, vs', rfl, qd, v2, vs2, rfl, qd2, hn⟩ := q1
      cases (show vs2 = [] from hn)
      intro x dx hx hdx hne
      refine ⟨x, dx, v, v2, F2, d, d2, rfl, upd_same, s1.free hx, fun c o e => ?_, qd, qd2, ?_⟩
      · have hc : c ≠ x := fun h => by rw [h, s1.free hx] at e; cases e
        have hd : c ≠ dx := fun h => by rw [h, s1.free hdx] at e; cases e
        rw [upd_ne hc, upd_ne hd]; exact s1 _ _ e
      · have z : Post K Wno false F2 H1 ((g [d]).bind fun r => (g [d2]).bind fun r2 => if twoL r r2 = true then .ok (.ins C [("gaps", r), ("beside", r2)]) else stk) Q := z
        cases hgd : g [d] with
        | error e => rw [hgd] at z; exact False.elim z
        | ok r =>
          rw [hgd, bind_ok] at z
          cases hgd2 : g [d2] with
          | error e => rw [hgd2] at z; exact False.elim z
          | ok r2 =>
            rw [hgd2, bind_ok] at z
            by_cases ht : twoL r r2 = true
            · rw [if_pos ht] at z
              rw [bind_ok, bind_ok, if_pos ht]
              intro w w2 F' H' h1 h2 h3 h4 h5 h6 h7 h8
              refine ⟨rfl, z (.ref x) (upd F' x (.ins C dx [("gaps", w), ("beside", w2)])) H' (Step.born s1 hx hdx hne h1 h2 h3 h4 h5 h6) ?_⟩
              exact ⟨x, dx, _, rfl, upd_same, w, _, rfl, Deep.mono (Same.upd h3) h7, w2, [], rfl, Deep.mono (Same.upd h3) h8, rfl⟩
            · rw [if_neg ht] at z; exact Post.stuck z
end
end L2
namespace L2
open PySem PySem.Spec PyProof.Rows
theorem zipL_get : ∀ (ds es : List Dat) (i : Nat), (zipL ds es)[i]? = (ds[i]?).bind fun d => (es[i]?).map fun e => .tup [d, e]
  | [], es, i => by simp [zipL]
  | d :: ds, [], i => by cases h : (d :: ds)[i]? <;> simp [zipL]
  | d :: ds, e :: es, 0 => by simp [zipL]
  | d :: ds, e :: es, i + 1 => by rw [zipL, List.getElem?_cons_succ, zipL_get ds es i, List.getElem?_cons_succ, List.getElem?_cons_succ]
theorem zipL_len : ∀ (ds es : List Dat), (zipL ds es).length = min ds.length es.length
  | [], es => by simp [zipL]
  | d :: ds, [] => by simp [zipL]
  | d :: ds, e :: es => by rw [zipL, List.length_cons, zipL_len ds es, List.length_cons, List.length_cons]; omega
end L2
namespace L2
open PySem PySem.Spec PyProof.Rows
end L2
namespace L2
open PySem PySem.Spec PyProof.Rows
end L2
namespace L2
open PySem PySem.Spec PyProof.Rows
section
variable {X : Cx} {K : PySem.W.Frag} {W : Wish} {own ro : Bool}
open Classical in
end
end L2
namespace L2
open PySem PySem.Spec PyProof.Rows
noncomputable abbrev ZRec (h : Heap) (z p q : Addr) (m k : Value) : Prop := h.get? z = some { cls := .type "zip", dict := none, data := .fields #[m, k, .bool false, .ref p, .ref q], slots := #[] }
structure Zs (z p q u v l m : Addr) (r k a b : Value) (i j : Nat) (xs ys : Array Value) (h : Heap) : Prop where
  me : ZRec h z p q r k
  its : IsPair h p (.ref u) (.ref v)
  own : IsPair h q a b
  one : h.IsListIter u l i
  two : h.IsListIter v m j
  xl : h.IsList l xs
  yl : h.IsList m ys
noncomputable def Off (z q u v : Addr) (h h' : Heap) : Prop := ∀ c o, c ≠ z → c ≠ q → c ≠ u → c ≠ v → h.get? c = some o → h'.get? c = some o
section
variable {z p q u v l m : Addr} {r k a b : Value} {i j n : Nat} {xs ys : Array Value} {h h' g : Heap}
theorem Off.refl : Off z q u v h h := fun _ _ _ _ _ _ e => e
theorem Off.then (A : Off z q u v h h') (B : Off z q u v h' g) : Off z q u v h g := fun c o a b d e x => B c o a b d e (A c o a b d e x)
theorem Off.byZ (A : Heap.ExtBut z h h') : Off z q u v h h' := fun c o a _ _ _ x => A c o a x
theorem Off.byQ (A : Heap.ExtBut q h h') : Off z q u v h h' := fun c o _ a _ _ x => A c o a x
theorem Off.byU (A : Heap.ExtBut u h h') : Off z q u v h h' := fun c o _ _ a _ x => A c o a x
theorem Off.byV (A : Heap.ExtBut v h h') : Off z q u v h h' := fun c o _ _ _ a x => A c o a x
theorem Off.new {o : Obj} : Off z q u v h (h.push o) := fun _ _ _ _ _ _ x => Heap.get?_push_of_some _ x
end
inductive Mem : Value → Prop
  | no : Mem .none
  | was (a : Int) (t : Tok) : Mem (.int a t)
section
variable {P : Program} {w : World} {A : Around} {E : Value → Shared → Prop} {s : Shared} {z p q u v l m : Addr} {r k a b x y : Value} {i j : Nat} {xs ys : Array Value}
theorem zs_back {c : Addr} {T : Unit → Shared → Prop} (me : ZRec s.heap z p q r k) (ho : ∃ o, s.heap.get? c = some o ∧ o.cls = .type "StopIteration")
    (go : ∀ h', Heap.ExtBut z s.heap h' → (∃ o, h'.get? c = some o ∧ o.cls = .type "StopIteration") → T () { s with heap := h' }) : wpAny (model P w) A (setField (.ref z) 0 .none) T E s := by
  obtain ⟨o, e, t⟩ := ho
  have ne : c ≠ z := by
    intro same
    have both := e.symm.trans (same ▸ me)
    rw [Option.some.inj both] at t
    exact absurd t (by simp)
  exact wpAny_setField_rec me (show 0 < 5 by decide) fun h' _ B => go h' B.extBut ⟨o, B.extBut _ _ ne e, t⟩
end
end L2
namespace L2
open PySem PySem.Spec PyProof.Rows
inductive Laid2 : Hp → List (V × V) → List V → Hp → Prop
  | nil {G : Hp} : Laid2 G [] [] G
  | cons {G G' : Hp} {T : Addr} {x y : V} {ps : List (V × V)} {vs : List V} : G T = none → Laid2 (upd G T (.tup [x, y])) ps vs G' → Laid2 G ((x, y) :: ps) (.ref T :: vs) G'
end L2
namespace L2
open PySem PySem.Spec PyProof.Rows
end L2
namespace L2
open PySem PySem.Spec PyProof.Rows
theorem Step.stays {F H F' H' : Hp} {a : Addr} {o : HO} (s : Step F H F' H') (n : F a = none) (h : H a = some o) : F' a = none := by
  cases e : F' a with
  | none => rfl
  | some u =>
    rcases s.nw a u e with z | z
    · rw [n] at z; cases z
    · rw [h] at z; cases z
structure Owns (K : PySem.W.Frag) (F G H : Hp) (ds : List Dat) (vs : List V) : Prop where
  len : vs.length = ds.length
  get : ∀ (k : Nat) (d : Dat), ds[k]? = some d → ∃ a xs es, vs[k]? = some (.ref a) ∧ d = .lst es ∧ H a = some (.lst xs) ∧ F a = none ∧ G a = none ∧ Deeps K F es xs
  ap : ∀ (j k : Nat) (a : Addr), vs[j]? = some (.ref a) → vs[k]? = some (.ref a) → j = k
section
variable {K : PySem.W.Frag} {F G H F' H' : Hp} {ds : List Dat} {vs : List V}
theorem Owns.nil : Owns K F G H [] [] := ⟨rfl, fun k d e => by simp at e, fun j k a e => by simp at e⟩
theorem Owns.step (o : Owns K F G H ds vs) (s : Step F H F' H') : Owns K F' G H' ds vs where
  len := o.len
  get := fun k d e => by
    obtain ⟨a, xs, es, h1, h2, h3, h4, h5, h6⟩ := o.get k d e
    exact ⟨a, xs, es, h1, h2, s.hh _ _ h3, s.stays h4 h3, h5, h6.mono s.ff⟩
  ap := o.ap
theorem Owns.back {G' : Hp} (o : Owns K F G H ds vs) (s : Same G' G) : Owns K F G' H ds vs where
  len := o.len
  get := fun k d e => by
    obtain ⟨a, xs, es, h1, h2, h3, h4, h5, h6⟩ := o.get k d e
    exact ⟨a, xs, es, h1, h2, h3, h4, s.free h5, h6⟩
  ap := o.ap
theorem Owns.at (o : Owns K F G H ds vs) {k : Nat} {a : Addr} (h : vs[k]? = some (.ref a)) : ∃ xs es, ds[k]? = some (.lst es) ∧ H a = some (.lst xs) ∧ F a = none ∧ G a = none ∧ Deeps K F es xs := by
  have hk : k < ds.length := by rw [← o.len]; exact (List.getElem?_eq_some_iff.mp h).1
  obtain ⟨b, xs, es, h1, h2, h3, h4, h5, h6⟩ := o.get k ds[k] (by simp [hk])
  rw [h] at h1
  cases h1
  exact ⟨xs, es, by rw [← h2]; simp [hk], h3, h4, h5, h6⟩
theorem Owns.add (o : Owns K F G H ds vs) {es : List Dat} {a : Addr} {xs : List V} (new : ∀ k : Nat, vs[k]? ≠ some (.ref a)) (h3 : H a = some (.lst xs)) (h4 : F a = none) (h5 : G a = none) (h6 : Deeps K F es xs) : Owns K F G H (ds ++ [.lst es]) (vs ++ [.ref a]) where
  len := by simp [o.len]
  get := fun k d e => by
    rcases Nat.lt_trichotomy k ds.length with z | z | z
    · rw [List.getElem?_append_left z] at e
      obtain ⟨b, ys, fs, g1, g2⟩ := o.get k d e
      exact ⟨b, ys, fs, by rw [List.getElem?_append_left (by rw [o.len]; exact z)]; exact g1, g2⟩
    · subst z
      simp at e
      refine ⟨a, xs, es, ?_, e.symm, h3, h4, h5, h6⟩
      rw [← o.len]
      simp
    · have := (List.getElem?_eq_some_iff.mp e).1
      simp at this
      omega
  ap := fun j k b e1 e2 => by
    have key : ∀ m, (vs ++ [V.ref a])[m]? = some (.ref b) → (m < vs.length ∧ vs[m]? = some (.ref b)) ∨ (m = vs.length ∧ b = a) := fun m e => by
      rcases Nat.lt_trichotomy m vs.length with z | z | z
      · rw [List.getElem?_append_left z] at e; exact .inl ⟨z, e⟩
      · subst z; simp at e; exact .inr ⟨rfl, e.symm⟩
      · have := (List.getElem?_eq_some_iff.mp e).1
        simp at this
        omega
    rcases key j e1 with ⟨_, u1⟩ | ⟨u1, u2⟩ <;> rcases key k e2 with ⟨_, w1⟩ | ⟨w1, w2⟩
    · exact o.ap j k b u1 w1
    · subst w2; exact absurd u1 (new j)
    · subst u2; exact absurd w1 (new k)
    · omega
end
section
variable {K : PySem.W.Frag} {W : Wish} {F H : Hp} {σ : St} {ρ : Env'}
theorem rd_turns {fi : Env' → M (List Dat)} {ix : List (Option Nat)} {p : Pat} {ft : Env' → M Bool} {fe : Env' → M Dat} {R : List V → Hp → Prop} (r : RepE K F σ ρ) (s : Same F H) (hL : ∀ ρ d, fe ρ = .ok d → ∃ es, d = .lst es) (hE : ∀ e, fComp fi ix p ft fe ρ = .error e → W.p e F H)
    (hO : ∀ rs, fComp fi ix p ft fe ρ = .ok (.lst rs) → ∀ ys F2 H2, Step F H F2 H2 → Owns K F2 H H2 rs ys → R ys H2) : iD K W fi σ H fun J H1 => compTurns J ix (gP K p) (tDT K W ft) (tD K W true fe) σ R H1 := by
  refine ⟨F, ρ, r, s, ?_⟩
  cases hf : fi ρ with
  | error e => exact hE e (by unfold fComp; rw [hf]; rfl)
  | ok ds =>
    intro J F1 H1 s1 it
    have e0 : fComp fi ix p ft fe ρ = if ds.length ≤ sizeLine then (compD p ft fe (inSE ix ρ) ds).bind fun r => .ok (.lst r) else .error .stuck := by unfold fComp; rw [hf]; rfl
    by_cases hl : ds.length ≤ sizeLine
    · rw [if_pos hl] at e0
      rw [e0] at hE hO
      refine ⟨fun i m ys H2 => m = ds.length - i ∧ i ≤ ds.length ∧ ∃ F2 yd, Step F1 H1 F2 H2 ∧ Owns K F2 H1 H2 yd ys ∧ yd.length ≤ i ∧
        (match compD p ft fe (inSE ix ρ) (ds.drop i) with
          | .ok rr => compD p ft fe (inSE ix ρ) ds = .ok (yd ++ rr)
          | .error e => W.p e F H), ⟨ds.length, by omega, Nat.zero_le _, F1, [], Step.refl s1.fh, Owns.nil, Nat.zero_le _, ?_⟩, ?_⟩
      · rw [List.drop_zero]
        cases e : compD p ft fe (inSE ix ρ) ds with
        | ok rr => rfl
        | error x => exact hE x (by rw [e]; rfl)
      · rintro i m ys H2 ⟨rfl, hi, F2, yd, s2, dy, ly, hc⟩
        have lys : ys.length ≤ sizeLine := by rw [dy.len]; omega
        by_cases hlt : i < ds.length
        · have ed : ds.drop i = ds[i] :: ds.drop (i + 1) := List.drop_eq_getElem_cons hlt
          rw [ed] at hc
          refine .inr ⟨it.go i F2 H2 s2.ff s2.fh hlt, lys, fun ys' H' => (i + 1 ≤ ds.length ∧ ∃ F2 yd, Step F1 H1 F2 H' ∧ Owns K F2 H1 H' yd ys' ∧ yd.length ≤ i + 1 ∧
            (match compD p ft fe (inSE ix ρ) (ds.drop (i + 1)) with
              | .ok rr => compD p ft fe (inSE ix ρ) ds = .ok (yd ++ rr)
              | .error e => W.p e F H)), fun ys' H' n => ⟨ds.length - (i + 1), by omega, rfl, n⟩, fun x H' y => ?_⟩
          obtain ⟨F3, s3, q3⟩ := it.yl i F2 H2 x H' ds[i] s2.ff s2.fh (by simp [hlt]) y
          have r3 : RepE K F3 (L2.inS ix σ) (inSE ix ρ) := (r.mono (s1.trans (s2.trans s3)).ff).inS ix
          have st3 : Step F H F3 H' := s1.trans (s2.trans s3)
          have ec : compD p ft fe (inSE ix ρ) (ds[i] :: ds.drop (i + 1)) = (bindP p ds[i] (inSE ix ρ)).bind fun ρ1 => (ft ρ1).bind fun b => if b = true then (fe ρ1).bind fun y => (compD p ft fe (inSE ix ρ) (ds.drop (i + 1))).bind fun r => .ok (y :: r) else compD p ft fe (inSE ix ρ) (ds.drop (i + 1)) := by rw [compD]
          rw [ec] at hc
          cases hb : bindP p ds[i] (inSE ix ρ) with
          | error e =>
            rw [hb] at hc
            have := bindP_err hb
            subst this
            exact (W.ns hc).elim
          | ok ρ1 =>
            rw [hb] at hc
            refine gP_run r3 s3.fh q3 hb fun σ2 r4 => ?_
            have hc1 : match ((ft ρ1).bind fun b => if b = true then (fe ρ1).bind fun y => (compD p ft fe (inSE ix ρ) (ds.drop (i + 1))).bind fun r => .ok (y :: r) else compD p ft fe (inSE ix ρ) (ds.drop (i + 1))) with
              | .ok rr => compD p ft fe (inSE ix ρ) ds = .ok (yd ++ rr)
              | .error e => W.p e F H := hc
            refine tDT_run r4 s3.fh (fun e he => by rw [he] at hc1; exact W.mono hc1 st3) fun b hb2 F5 H5 s5 => ?_
            rw [hb2] at hc1
            cases b with
            | false =>
              have hc2 : match compD p ft fe (inSE ix ρ) (ds.drop (i + 1)) with
                | .ok rr => compD p ft fe (inSE ix ρ) ds = .ok (yd ++ rr)
                | .error e => W.p e F H := hc1
              exact ⟨hlt, F5, yd, s2.trans (s3.trans s5), dy.step (s3.trans s5), by omega, hc2⟩
            | true =>
              have hc2 : match ((fe ρ1).bind fun y => (compD p ft fe (inSE ix ρ) (ds.drop (i + 1))).bind fun r => .ok (y :: r)) with
                | .ok rr => compD p ft fe (inSE ix ρ) ds = .ok (yd ++ rr)
                | .error e => W.p e F H := hc1
              refine tD_run (r4.mono s5.ff) s5.fh (fun e he => by rw [he] at hc2; exact W.mono hc2 (st3.trans s5)) fun d hd v F6 H6 s6 q6 => ?_
              rw [hd] at hc2
              obtain ⟨es, rfl⟩ := hL _ _ hd
              obtain ⟨a, xs, ev, g1, g2, g3, g4⟩ := q6
              subst ev
              have d5 := dy.step (s3.trans s5)
              refine ⟨hlt, F6, yd ++ [.lst es], s2.trans (s3.trans (s5.trans s6)), (d5.step s6).add (fun k hk => ?_) g1 g2 ((s2.trans (s3.trans s5)).hh.free g3) g4, by simp; omega, ?_⟩
              · obtain ⟨_, _, _, z, _⟩ := d5.at hk
                rw [g3] at z
                cases z
              · have hc3 : match ((compD p ft fe (inSE ix ρ) (ds.drop (i + 1))).bind fun r => .ok (Dat.lst es :: r) : M (List Dat)) with
                  | .ok rr => compD p ft fe (inSE ix ρ) ds = .ok (yd ++ rr)
                  | .error e => W.p e F H := hc2
                cases e7 : compD p ft fe (inSE ix ρ) (ds.drop (i + 1)) with
                | ok rr =>
                  rw [e7] at hc3
                  show _ = Except.ok ((yd ++ [Dat.lst es]) ++ rr)
                  rw [List.append_assoc]
                  exact hc3
                | error x => rw [e7] at hc3; exact hc3
        · have : i = ds.length := by omega
          subst this
          rw [List.drop_length] at hc
          have hc' : compD p ft fe (inSE ix ρ) ds = .ok (yd ++ []) := hc
          rw [List.append_nil] at hc'
          exact .inl ⟨it.st F2 H2 s2.ff s2.fh, lys, hO yd (by rw [hc']; rfl) ys F2 H2 (s1.trans s2) (dy.back s1.hh)⟩
    · rw [if_neg hl] at e0
      exact (W.ns (hE .stuck e0)).elim
end
noncomputable def lstOf : Dat → M (List Dat)
  | .lst ds => .ok ds
  | _ => .error .stuck
noncomputable def rowAt (rs : List Dat) (a : Int) : M (Nat × List Dat) := match ixN rs.length a with
  | some j => (match rs[j]? with
    | some (.lst es) => .ok (j, es)
    | _ => .error .stuck)
  | none => .error .stuck
noncomputable def setRow (rs : List Dat) (je : Nat × List Dat) (b : Int) (x : Dat) : M (List Dat) := match ixN je.2.length b with
  | some k => .ok (rs.set je.1 (.lst (je.2.set k x)))
  | none => .error .stuck
noncomputable def rows3 (i : Nat) (rs : List Dat) (x : Dat) (je : Nat × List Dat) (fB : Env' → M Dat) (ρ : Env') : M Flo := (fB (ρ.set i none)).bind fun b => (asI b).bind fun b => (setRow rs je b x).bind fun rs' => .ok (.nx (ρ.set i (some (.lst rs'))))
noncomputable def rows2 (i : Nat) (rs : List Dat) (x : Dat) (fA fB : Env' → M Dat) (ρ : Env') : M Flo := (fA (ρ.set i none)).bind fun a => (asI a).bind fun a => (rowAt rs a).bind fun je => rows3 i rs x je fB ρ
noncomputable def rows1 (i : Nat) (rs : List Dat) (fx fA fB : Env' → M Dat) (ρ : Env') : M Flo := (fx (ρ.set i none)).bind fun x => rows2 i rs x fA fB ρ
noncomputable def sRows (i : Nat) (fc fx fA fB : Env' → M Dat) : Env' → M Flo := fun ρ => (fc ρ).bind fun d => (lstOf d).bind fun rs => rows1 i rs fx fA fB ρ
noncomputable def contS (g : Env' → M Flo) (m : M Flo) : M Flo := m.bind fun fl => match fl with
  | .nx ρ' => g ρ'
  | fl => .ok fl
theorem contS_err {g : Env' → M Flo} {m : M Flo} {e : Err} (h : m = .error e) : contS g m = .error e := by rw [h]; rfl
section
variable {K : PySem.W.Frag} {W : Wish} {ro : Bool} {F0 H0 : Hp} {OL O' : List Nat} {D : Ends} {σ : St} {H : Hp} {g : Env' → M Flo}
theorem rs_rows {i : Nat} {fi : Env' → M (List Dat)} {ix : List (Option Nat)} {p : Pat} {ft : Env' → M Bool} {fe fx fA fB : Env' → M Dat} (hL : ∀ ρ d, fe ρ = .ok d → ∃ es, d = .lst es) (hi : i < σ.length) (t : tS K W ro F0 H0 OL [] O' (sSeq (sRows i (fComp fi ix p ft fe) fx fA fB) g) D σ H) :
    tSeq (tSetComp i (iD K W fi) ix (gP K p) (tDT K W ft) (tD K W true fe)) (tSeq (tAsg (tD K W false fx) (gSub (tOp (rIx K) (tVar i) (tD K W false fA)) (tD K W false fB) rSetL)) (tS K W ro F0 H0 OL [] O' g)) D σ H := by
  obtain ⟨FB, F, ρ, r, q⟩ := t
  have rE := r.repE
  have q0 : PostS K W ro F0 H0 FB OL O' D (contS g (sRows i (fComp fi ix p ft fe) fx fA fB ρ)) := q
  refine rd_turns rE r.st.fh hL (fun e he => q0.errAt r.st (contS_err (by unfold sRows; rw [he]; rfl))) fun rs hrs ys F2 H2 s2 ow a ha => ?_
  have q1 : PostS K W ro F0 H0 FB OL O' D (contS g (rows1 i rs fx fA fB ρ)) := by
    unfold sRows at q0
    rw [hrs] at q0
    exact q0
  have r2 : RepE K F2 (σ.set i (some (.ref a))) (ρ.set i none) := ⟨by rw [List.length_set, List.length_set, r.len], fun j d e => by
    by_cases hij : i = j
    · subst hij
      rw [List.getElem?_set_self (by rw [r.len]; exact hi)] at e
      cases e
    · rw [List.getElem?_set_ne hij] at e
      obtain ⟨v, h1, h2⟩ := rE.sl j d e
      exact ⟨v, by rw [List.getElem?_set_ne hij]; exact h1, h2.mono s2.ff⟩⟩
  have sg : Step F2 H2 F2 (upd H2 a (.lst ys)) := Step.grow s2.fh ha
  have st2 := s2.trans sg
  refine tD_run r2 sg.fh (fun e he => q1.errAt (r.st.trans st2) (contS_err (by unfold rows1; rw [he]; rfl))) fun x hx v F3 H3 s3 qx => ?_
  have q2 : PostS K W ro F0 H0 FB OL O' D (contS g (rows2 i rs x fA fB ρ)) := by
    unfold rows1 at q1
    rw [hx] at q1
    exact q1
  refine ⟨.ref a, by rw [List.getElem?_set_self hi], ?_⟩
  refine tD_run (r2.mono s3.ff) s3.fh (fun e he => q2.errAt (r.st.trans (st2.trans s3)) (contS_err (by unfold rows2; rw [he]; rfl))) fun da hda va F4 H4 s4 qa => ?_
  cases da with
  | int ka =>
    have q3 : PostS K W ro F0 H0 FB OL O' D (contS g ((rowAt rs ka).bind fun je => rows3 i rs x je fB ρ)) := by
      unfold rows2 at q2
      rw [hda] at q2
      exact q2
    have h3a : H3 a = some (.lst ys) := s3.hh _ _ upd_same
    have h4a := s4.hh _ _ h3a
    have ow4 := ((ow.step sg).step s3).step s4
    have s4' := st2.trans (s3.trans s4)
    cases hj : ixN rs.length ka with
    | none => exact q3.stuck (contS_err (by unfold rowAt; rw [hj]; rfl))
    | some j =>
      have hjl := (ixN_seq hj).2.1
      obtain ⟨b, xs, es, g1, g2, g3, g4, g5, g6⟩ := ow4.get j rs[j] (by simp [hjl])
      have erj : rs[j]? = some (.lst es) := by rw [← g2]; simp [hjl]
      have q4 : PostS K W ro F0 H0 FB OL O' D (contS g (rows3 i rs x (j, es) fB ρ)) := by
        unfold rowAt at q3
        rw [hj] at q3
        have q3 : PostS K W ro F0 H0 FB OL O' D (contS g (((match rs[j]? with
          | some (.lst es) => .ok (j, es)
          | _ => .error .stuck) : M (Nat × List Dat)).bind fun je => rows3 i rs x je fB ρ)) := q3
        rw [erj] at q3
        exact q3
      refine .inl ⟨a, ys, ka, .ref b, rfl, qa, SqL.of h4a, ?_, ?_⟩
      · unfold atI
        rw [ow.len, hj]
        exact g1
      refine tD_run (r2.mono (s3.trans s4).ff) s4.fh (fun e he => q4.errAt (r.st.trans s4') (contS_err (by unfold rows3; rw [he]; rfl))) fun db hdb vb F5 H5 s5 qb => ?_
      cases db with
      | int kb =>
        have q5 : PostS K W ro F0 H0 FB OL O' D (contS g ((setRow rs (j, es) kb x).bind fun rs' => .ok (.nx (ρ.set i (some (.lst rs')))))) := by
          unfold rows3 at q4
          rw [hdb] at q4
          exact q4
        cases hk : ixN es.length kb with
        | none => exact q5.stuck (contS_err (by unfold setRow; rw [show ((j, es) : Nat × List Dat).2 = es from rfl, hk]; rfl))
        | some k =>
          have q6 : PostS K W ro F0 H0 FB OL O' D (g (ρ.set i (some (.lst (rs.set j (.lst (es.set k x))))))) := by
            unfold setRow at q5
            rw [show ((j, es) : Nat × List Dat).2 = es from rfl, hk] at q5
            exact q5
          have h5a := s5.hh _ _ h4a
          have h5b := s5.hh _ _ g3
          have ow5 := ow4.step s5
          have st : Step F H F5 H5 := s4'.trans s5
          refine ⟨b, xs, kb, k, rfl, qb, h5b, by rw [g6.length]; exact hk, ?_⟩
          have ma : H a = none := s2.hh.free ha
          have fa2 : F2 a = none := s2.fh.free ha
          have f5a : F5 a = none := (s3.trans (s4.trans s5)).stays fa2 (upd_same (H := H2) (a := a) (o := .lst ys))
          have nab : a ≠ b := fun z => by
            obtain ⟨_, _, _, w, _⟩ := ow.at (k := j) (a := b) g1
            rw [← z, ha] at w
            cases w
          have inA : ∀ c, (c = a ∨ ∃ m : Nat, ys[m]? = some (.ref c)) → F5 c = none ∧ H c = none := fun c h => by
            rcases h with z | ⟨m, z⟩
            · rw [z]; exact ⟨f5a, ma⟩
            · obtain ⟨_, _, _, _, z1, z2, _⟩ := ow5.at z
              exact ⟨z1, z2⟩
          have Ab : b = a ∨ ∃ m : Nat, ys[m]? = some (.ref b) := .inr ⟨j, g1⟩
          have ff : Same F5 (plus F5 (upd H5 b (.lst (xs.set k v))) fun c => c = a ∨ ∃ m : Nat, ys[m]? = some (.ref c)) := fun c o h => by
            by_cases hc : c = a ∨ ∃ m : Nat, ys[m]? = some (.ref c)
            · rw [(inA c hc).1] at h; cases h
            · rw [plus_out hc]; exact h
          have fh : Same (plus F5 (upd H5 b (.lst (xs.set k v))) fun c => c = a ∨ ∃ m : Nat, ys[m]? = some (.ref c)) (upd H5 b (.lst (xs.set k v))) := fun c o h => by
            by_cases hc : c = a ∨ ∃ m : Nat, ys[m]? = some (.ref c)
            · rw [plus_in hc] at h; exact h
            · rw [plus_out hc] at h
              have : c ≠ b := fun z => hc (by rw [z]; exact Ab)
              rw [upd_ne this]
              exact s5.fh c o h
          have mono3 : Same F3 (plus F5 (upd H5 b (.lst (xs.set k v))) fun c => c = a ∨ ∃ m : Nat, ys[m]? = some (.ref c)) := (s4.trans s5).ff.trans ff
          have mono4 : Same F4 (plus F5 (upd H5 b (.lst (xs.set k v))) fun c => c = a ∨ ∃ m : Nat, ys[m]? = some (.ref c)) := s5.ff.trans ff
          refine ⟨FB, plus F5 (upd H5 b (.lst (xs.set k v))) (fun c => c = a ∨ ∃ m : Nat, ys[m]? = some (.ref c)), ρ.set i (some (.lst (rs.set j (.lst (es.set k x))))), ?_, q6⟩
          have stt := r.st.trans st
          refine ⟨⟨stt.ff.trans ff, fun c o h => ?_, fh, fun c o h => ?_⟩, r.fb.trans (st.ff.trans ff), by rw [List.length_set, List.length_set, r.len], fun m d e _ => ?_, (fun m d e h => nomatch h), (fun m n d1 d2 c h => nomatch h)⟩
          · have : c ≠ b := fun z => by
              rw [z] at h
              have := r.st.hh _ _ h
              rw [(inA b Ab).2] at this
              cases this
            rw [upd_ne this]
            exact stt.hh c o h
          · by_cases hc : c = a ∨ ∃ m : Nat, ys[m]? = some (.ref c)
            · exact .inr (r.st.hh.free (inA c hc).2)
            · rw [plus_out hc] at h
              exact stt.nw c o h
          · by_cases him : i = m
            · subst him
              rw [List.getElem?_set_self (by rw [r.len]; exact hi)] at e
              cases e
              refine ⟨.ref a, by rw [List.getElem?_set_self hi], a, ys, rfl, SqL.of ?_, ?_⟩
              · rw [plus_in (.inl rfl), upd_ne nab]
                exact h5a
              · refine Deeps.of_get (by rw [List.length_set]; exact ow.len) fun m d u e1 e2 => ?_
                by_cases hjm : j = m
                · subst hjm
                  rw [List.getElem?_set_self hjl] at e1
                  cases e1
                  rw [g1] at e2
                  cases e2
                  exact ⟨b, xs.set k v, rfl, SqL.of (by rw [plus_in Ab, upd_same]), Deeps.set (Deep.mono mono3 qx) k (g6.mono mono4)⟩
                · rw [List.getElem?_set_ne hjm] at e1
                  obtain ⟨c, ws, fs, k1, k2, k3, k4, k5, k6⟩ := ow5.get m d e1
                  rw [k1] at e2
                  cases e2
                  subst k2
                  have ncb : c ≠ b := fun z => hjm (ow5.ap j m b g1 (by rw [← z]; exact k1))
                  exact ⟨c, ws, rfl, SqL.of (by rw [plus_in (.inr ⟨m, k1⟩), upd_ne ncb]; exact k3), k6.mono ff⟩
            · rw [List.getElem?_set_ne him] at e
              obtain ⟨u, h1, h2⟩ := rE.sl m d e
              exact ⟨u, by rw [List.getElem?_set_ne him]; exact h1, h2.mono (st.ff.trans ff)⟩
      | _ => exact q4.stuck (contS_err (by unfold rows3; rw [hdb]; rfl))
  | _ => exact q2.stuck (contS_err (by unfold rows2; rw [hda]; rfl))
end
theorem listD_lst {fr : Env' → M (List Dat)} : ∀ ρ d, fL listD fr ρ = .ok d → ∃ es, d = .lst es := fun ρ d h => by
  unfold fL at h
  cases e : fr ρ with
  | error x => rw [e] at h; cases h
  | ok ds =>
    rw [e] at h
    have h : listD ds = .ok d := h
    unfold listD at h
    split at h
    all_goals first
      | (cases h; done)
      | (split at h <;> first | (cases h; done) | (cases h; exact ⟨_, rfl⟩))
      | (cases h; exact ⟨_, rfl⟩)
section
variable {X : Cx} {K : PySem.W.Frag} {W : Wish} {ro : Bool} {OL O' : List Nat} {x : Str} {sc : Scope} {tg elt iter ex ea eb : Expr} {ifs : List Expr} {fi : Env' → M (List Dat)} {pt : Pat} {ft : Env' → M Bool} {fe fx fA fB : Env' → M Dat} {pos spos py p1 p2 p3 p4 : Pos} {sts : List Stmt} {g : Env' → M Flo}
theorem ds_rows {i : Nat} (N' : List Str) (ix : List (Option Nat)) (hN : X.N.Nodup) (hi : DI K W X tg iter fi) (hg : ∀ L cs s H fp, DG K (cxComp X N' sc L cs s H fp) tg pt) (hl : Leaves ix (gP K pt))
    (ht : ∀ L cs s H fp, PTs (cxComp X N' sc L cs s H fp) ifs (tDT K W ft)) (he : ∀ L cs s H fp, DE K W true (cxComp X N' sc L cs s H fp) elt fe) (hL : ∀ ρ d, fe ρ = .ok d → ∃ es, d = .lst es)
    (hx : DE K W false X ex fx) (hA : DE K W false X ea fA) (hB : DE K W false X eb fB) (hr : DSs K W ro X OL [] O' sts g)
    (hj : X.N[i]? = some x := by rfl) (hy : X.env.scope.names.lookup x = some .local := by rfl) (hc : X.calm = true := by rfl) (hK : X.K = K := by rfl)
    (hsw : swapsWith (.ListComp elt [⟨tg, iter, ifs, 0⟩] sc pos) (some (.Name x py)) spos.line X.env = pure true := by rfl)
    (ok : compOk X.N X.env.scope N' sc ix = true := by rfl) (hk : sc.kind = .function := by rfl) (hs : ∀ x, foldedSetIterable iter X.env x = pure x := by intro _; rfl)
    (hv : Vis X.env.scope x := by first | exact Or.inl rfl | exact Or.inr (Or.inl rfl) | exact Or.inr (Or.inr rfl)) (hd : (x == ("__debug__" : Str)) = false := by decide) (hcd : (x == ("__classdict__" : Str)) = false := by decide) (hpl : PlainIx ea := by exact fun _ _ => rfl)
    (ha : ∀ v, assign (.Subscript (.Subscript (.Name x p1) ea p2) eb p3) X.env v = (do
      let ov ← holding [v] (eval (.Subscript (.Name x p1) ea p2) X.env)
      let iv ← holding [v, ov] (eval eb X.env)
      standAt p3
      holding [v, ov, iv] (setItem ov iv v)
      release [v, ov, iv] []) := by intro _; rfl) (hs1 : swapsWithSole [.Subscript (.Subscript (.Name x p1) ea p2) eb p3] ex p4.line X.env = pure false := by rfl) (hw : swappedStores [.Subscript (.Subscript (.Name x p1) ea p2) eb p3] ex X.env = pure none := by rfl)
    (h1 : (assignEach [.Subscript (.Subscript (.Name x p1) ea p2) eb p3] X.env).map (·.2) = [assign (.Subscript (.Subscript (.Name x p1) ea p2) eb p3) X.env] := by rfl) :
    DSs K W ro X OL [] O' (.Assign [.Name x py] (.ListComp elt [⟨tg, iter, ifs, 0⟩] sc pos) spos :: .Assign [.Subscript (.Subscript (.Name x p1) ea p2) eb p3] ex p4 :: sts) (sSeq (sRows i (fComp fi ix pt ft fe) fx fA fB) g) := by
  subst hK
  intro F0 H0 pins s σ H D I z
  have hil : i < σ.length := by
    rw [I.len]
    exact (List.getElem?_eq_some_iff.mp hj).1
  refine pss_cons (ps_setComp N' ix hN hj hy hc hi hg hl ht he hsw ok hk hs) (pss_cons (ps_asg hx (pg_sub (pe_ix ix_seq (pv i hj hv hd hcd) hA hpl) hB set_list ha) hs1 hw h1) (hr F0 H0)) pins s σ H D I ?_
  exact rs_rows hL hil z
end
end L2
namespace L2
open PySem PySem.Spec PyProof.Rows
section
variable {prog : Program} {w : World} {A : Around} {E : Value → Shared → Prop} {s : Shared}
theorem nextT_item {q a : Addr} {i : Nat} {xs : Array Value} {v : Value} {Q : Value → Shared → Prop} (st : s.heap.IsTupleIter q a i) (ht : s.heap.IsTuple a xs) (hv : xs[i]? = some v) (k : ∀ h', h'.IsTupleIter q a (i + 1) → Heap.SameBut q s.heap h' → Q v { s with heap := h' }) : wpAny (model prog w) A (Builtin.SmallTypes.nextOf (.ref q)) Q E s := by
  obtain ⟨oq, e1, e2, e3⟩ := id st
  obtain ⟨oa, f1, _, n0, f3⟩ := ht
  have ty := st.typeIs; unfold Builtin.SmallTypes.nextOf
  refine wpAny_bind (wpAny_callSpecial?_slot (name := Str.ofString "__next__") ty PySem.F.slot_tuple_iterator_next (wpAny_call_entry PySem.F.slot_tuple_iterator_next ty PySem.F.entry_tuple_iterator_next ?_ (PySem.F.args_tuple_iterator_next_1 _)))
  show wpAny _ _ (field (.ref q) 0 >>= _) _ _ s
  refine wpAny_bind (wpAny_field e1 e3 (x := .ref a) rfl ?_)
  show wpAny _ _ (if (Value.ref a == Value.none) = true then _ else _) _ _ s
  rw [if_neg (show ¬ ((Value.ref a == Value.none) = true) from Bool.false_ne_true)]; show wpAny _ _ (field (.ref q) 1 >>= _) _ _ s
  refine wpAny_bind (wpAny_field e1 e3 (x := .int i 0) rfl ?_)
  show wpAny _ _ (seqItems? (.ref a) >>= _) _ _ s
  refine wpAny_bind (wpAny_seqItems f1 f3 ?_)
  simp only [Int.toNat_natCast, hv]; refine wpAny_bind (wpAny_setField e1 e3 (by simp) (wpAny_pure ⟨v, rfl, wpAny_pure (k _ ?_ (Heap.SameBut.update ..))⟩))
  exact ⟨_, Heap.get?_update_self _ e1 (Obj.isFreed_of_fields (Obj.data_mapFields e3 _)), (Obj.cls_mapFields ..).trans e2, by rw [Obj.data_mapFields e3]; simp [rawInt]⟩
theorem nextT_end {q a : Addr} {i : Nat} {xs : Array Value} {Q : Value → Shared → Prop} (hh : A.handled = none) (st : s.heap.IsTupleIter q a i) (ht : s.heap.IsTuple a xs) (hv : xs[i]? = none)
    (k : ∀ h' e, Heap.ExtBut q s.heap h' → (∃ o, h'.get? e = some o ∧ o.cls = .type "StopIteration") → E (.ref e) { s with heap := h' }) : wpAny (model prog w) A (Builtin.SmallTypes.nextOf (.ref q)) Q E s := by
  obtain ⟨oq, e1, e2, e3⟩ := id st
  obtain ⟨oa, f1, _, n0, f3⟩ := ht
  have ty := st.typeIs; unfold Builtin.SmallTypes.nextOf
  refine wpAny_bind (wpAny_callSpecial?_slot (name := Str.ofString "__next__") ty PySem.F.slot_tuple_iterator_next (wpAny_call_entry PySem.F.slot_tuple_iterator_next ty PySem.F.entry_tuple_iterator_next ?_ (PySem.F.args_tuple_iterator_next_1 _)))
  show wpAny _ _ (field (.ref q) 0 >>= _) _ _ s
  refine wpAny_bind (wpAny_field e1 e3 (x := .ref a) rfl ?_)
  show wpAny _ _ (if (Value.ref a == Value.none) = true then _ else _) _ _ s
  rw [if_neg (show ¬ ((Value.ref a == Value.none) = true) from Bool.false_ne_true)]; show wpAny _ _ (field (.ref q) 1 >>= _) _ _ s
  refine wpAny_bind (wpAny_field e1 e3 (x := .int i 0) rfl ?_)
  show wpAny _ _ (seqItems? (.ref a) >>= _) _ _ s
  refine wpAny_bind (wpAny_seqItems f1 f3 ?_)
  simp only [Int.toNat_natCast, hv]; refine wpAny_bind (wpAny_rule (wpAny_bind (wpAny_setField e1 e3 (by simp) (wpAny_bind ?_))))
  simp only [newExc, newTuple]
  refine wpAny_bind (wpAny_newObj_type ?_ (by size_fits)); refine wpAny_bind (m := firstArgMember _ _) (wpAny_of_eq (a := Value.none) (by first | rfl | (simp only [firstArgMember]; rfl)) ?_)
  refine wpAny_newObj_type ?_ (by size_fits); simp only [raiseNew]
  refine wpAny_bind (wpAny_handled ?_); first | rw [show A.in1.handled = none from hh] | rw [hh]
  exact wpAny_bind (wpAny_pure (wpAny_throw (k _ _ (((Heap.SameBut.update ..).extBut.push _).push _) ⟨_, Heap.get?_push_size _ rfl, rfl⟩)))
end
theorem draws_tup {prog : Program} {w : World} {A : Around} (hh : A.handled = none) (q a : Addr) (hne : a ≠ q) (xs : Array Value) : Draws prog w A q [q, a] xs.size (fun i v => xs[i]? = some v) (fun i h => h.IsTupleIter q a i ∧ h.IsTuple a xs) where
  live := fun _ _ st => let ⟨o, e, _⟩ := st.1; ⟨o, e⟩
  frame := fun _ _ _ st k => ⟨st.1.at fun o e => k q (by simp) o e, let ⟨o, e, r⟩ := st.2; ⟨o, k a (by simp) o e, r⟩⟩
  item := fun i s Q E hi st k => nextT_item st.1 st.2 (v := xs[i]) (by simp [hi]) fun h' z1 z2 => k _ h' s.toks (by simp [hi]) ⟨z1, let ⟨o, e, r⟩ := st.2; ⟨o, z2.extBut a o hne e, r⟩⟩ z2
  done := fun s Q E st k => nextT_end hh st.1 st.2 (by simp) k
section
theorem enum_newT (a : Addr) (xs : Array Value) (n : Nat) (dd : Option Addr) (sl : Array (Option Value)) : Meets (Builtin.«enumerate.__new__» ⟨[.type "enumerate", .ref a], []⟩) (fun _ R s => s.heap.get? a = some { cls := .type "tuple", dict := dd, data := .seq xs n, slots := sl } ∧ R (.ok (.ret (.ref (s.heap.push { cls := .type "tuple_iterator", data := .fields #[.ref a, .int 0 0] }).objs.size))) { s with heap := (s.heap.push { cls := .type "tuple_iterator", data := .fields #[.ref a, .int 0 0] }).push { cls := .type "enumerate", data := .fields #[.none, .bool false, .ref s.heap.objs.size, rawInt 0, .none, .none] } }) :=
  .of_wp fun prog w A R s h => by
    obtain ⟨hp, g, d, tk, os⟩ := s; obtain ⟨ea, h⟩ := h
    have hsub := sub_enumerate
    have hT : Heap.IsTuple (Shared.heap ⟨hp, g, d, tk, os⟩) a xs := ⟨_, ea, rfl, n, rfl⟩
    wp_walk using AutoSeq1.wpAny_loadPart' ea
    refine wpAny_stack_any fun z => wpAny_pure ?_
    split
    · rename_i c _ _ _ _ _
      cases (c == Value.type "enumerate") <;> (wp_walk using AutoSeq1.wpAny_loadPart' ea, wpAny_pyIter_tuple hT; exact ⟨_, rfl, h⟩)
    · wp_walk using AutoSeq1.wpAny_loadPart' ea, wpAny_pyIter_tuple hT
      exact ⟨_, rfl, h⟩
end
section
variable {prog : Program} {w : World} {A : Around} {E : Value → Shared → Prop} {s : Shared}
theorem call_enumT {a : Addr} {xs : Array Value} {Q : Value → Shared → Prop} (ht : s.heap.IsTuple a xs)
    (k : ∀ h', IsEnum h' (s.heap.objs.size + 1) s.heap.objs.size 0 .none → h'.IsTupleIter s.heap.objs.size a 0 → h'.objs.size = s.heap.objs.size + 2 → (∀ b o, s.heap.get? b = some o → h'.get? b = some o) → Q (.ref (s.heap.objs.size + 1)) { s with heap := h' }) : wpAny (model prog w) A (call (.type "enumerate") [.ref a]) Q E s := by
  obtain ⟨⟨c, dd, dt, sl⟩, e1, e2, n, e3⟩ := ht
  have e2 : c = .type "tuple" := e2
  have e3 : dt = .seq xs n := e3
  subst e2 e3
  refine callType_new PySem.F.called_enumerate (by decide) (PySem.F.typeCall_enumerate_1 _) (PySem.F.newCall_enumerate_1 _) (fun obj => PySem.F.args_object_init_2 obj _) PySem.F.entry_enumerate_new (enum_newT a xs n dd sl) ⟨e1, ?_⟩
  have hz : (s.heap.push { cls := .type "tuple_iterator", data := .fields #[.ref a, .int 0 0] }).objs.size = s.heap.objs.size + 1 := Heap.size_push ..
  show _ ∧ _
  rw [hz]
  have he : IsEnum ((s.heap.push { cls := .type "tuple_iterator", data := .fields #[.ref a, .int 0 0] }).push { cls := .type "enumerate", data := .fields #[.none, .bool false, .ref s.heap.objs.size, rawInt 0, .none, .none] }) (s.heap.objs.size + 1) s.heap.objs.size 0 .none := by
    have z := Heap.get?_push_size (s.heap.push { cls := .type "tuple_iterator", data := .fields #[.ref a, .int 0 0] }) (o := { cls := .type "enumerate", data := .fields #[.none, .bool false, .ref s.heap.objs.size, rawInt 0, .none, .none] }) rfl
    rw [hz] at z; exact z
  exact ⟨⟨_, he, rfl⟩, k _ he ⟨_, Heap.get?_push_of_some _ (Heap.get?_push_size _ rfl), rfl, rfl⟩ (by rw [Heap.size_push, hz]) fun b o z => Heap.get?_push_of_some _ (Heap.get?_push_of_some _ z)⟩
end
noncomputable def IteT (K : PySem.W.Frag) (a : Addr) : It :=
  ⟨fun i H => ∃ xs x, SqT K H a xs ∧ xs[i]? = some x, fun i H x H' => ∃ T y, H T = none ∧ x = .ref T ∧ H' = upd H T (.tup [.int i, y]) ∧ ∀ xs, SqT K H a xs → xs[i]? = some y, fun i H => ∃ xs, SqT K H a xs ∧ xs.length = i⟩
theorem turn_enumT {P : Program} {w : World} {K : PySem.W.Frag} {elts : List Expr} {k : Nat} {pos : Pos} (a e it : Addr) (hei : e ≠ it) : Turn P w K (.Tuple elts k pos) (IteT K a) [e, it] e (fun i h => (∃ old, IsEnum h e it i old) ∧ h.IsTupleIter it a i) where
  mem := by simp
  obj := fun i h st b hb => by
    obtain ⟨⟨old, he⟩, o, e1, c, d⟩ := st
    rcases List.mem_cons.mp hb with z0 | hb
    · subst z0; exact ⟨_, he, fun v z => by cases z⟩
    · have : b = it := by simpa using hb
      subst this
      exact ⟨o, e1, fun v z => by rw [d] at z; cases z⟩
  keep := fun i h h' st kk => by
    obtain ⟨⟨old, he⟩, hit⟩ := st
    exact ⟨⟨old, kk e (by simp) _ he⟩, hit.at fun o x => kk it (by simp) o x⟩
  item := by
    intro X hP hw hK hc i pins s σ H E I hf st hg
    subst hP hw hK
    obtain ⟨⟨old, he⟩, hit⟩ := st
    obtain ⟨xs, x, hq, hx⟩ := hg
    obtain ⟨its, rv, p, hz⟩ := I.tuple hq
    obtain ⟨u, hu, ru⟩ := rv.get hx
    have pT : s.heap.IsTuple a its.toArray := p
    have nai : a ≠ it := fun z => by
      obtain ⟨o1, c1, c2, _⟩ := pT
      obtain ⟨o2, c3, c4, _⟩ := hit
      rw [z, c3] at c1
      cases c1
      rw [c4] at c2
      exact absurd c2 (by decide)
    have nea : e ≠ a := fun z => by
      obtain ⟨o1, c1, c2, _⟩ := pT
      have he' : s.heap.get? e = _ := he
      rw [z, c1] at he'
      cases he'
      exact absurd c2 (by simp)
    have hlt : i < its.toArray.size := by
      have := (List.getElem?_eq_some_iff.mp hu).1
      simpa using this
    refine wpAny_pyNext_enum_itemD (draws_tup (A := X.A.in1) (show X.A.in1.handled = none from I.ok.hd hc) it a nai its.toArray) he ⟨hit, pT⟩ hlt hei (by simp [hei, nea]) fun v h1 tk hv ho hst1 hT hsz hk => ?_
    have hvu : v = u := by
      have hv : its.toArray[i]? = some v := hv
      rw [show its.toArray[i]? = its[i]? by simp, hu] at hv
      exact (Option.some.inj hv).symm
    subst hvu
    refine ⟨_, rfl, wpAny_letOwnedTupleGo_enum ho fun h2 he2 hs2 => ?_⟩
    have hlt2 : e < s.heap.objs.size := Heap.lt_size he
    have hTe : s.heap.objs.size ≠ e := Nat.ne_of_gt hlt2
    have I1 : Inv X pins σ (upd H s.heap.objs.size (.tup [.int i, x])) { s with heap := h2, toks := tk + 1 } := I.turnedT (ch := [e, it]) hf (fun b o hb q => by
        have h3 := hk b o (fun z => hb (by simp [z])) (fun z => hb (by simp [z])) q
        exact (hs2.2 b (fun z => hb (by simp [z]))).trans h3) (Nat.le_refl _) ⟨by show 2 ≤ sizeLine; decide, [.int i tk, v], .cons ⟨_, rfl⟩ (.cons ru .nil), ⟨_, (hs2.2 _ hTe).trans hT, rfl, 0, rfl⟩⟩
    refine ⟨.ref s.heap.objs.size, _, I1, rfl, ⟨s.heap.objs.size, x, I.hok.fresh (Nat.le_refl _), rfl, rfl, fun ys hy => by rw [I.tuple_inj hy hq]; exact hx⟩, ⟨⟨v, by simpa using he2⟩, hst1.1.at fun o y => (hs2.2 it hei.symm).trans y⟩, fun b hb => ?_⟩
    have hbn := (hf b hb).1
    have : b ≠ s.heap.objs.size := by
      rcases List.mem_cons.mp hb with z0 | hb
      · subst z0; exact hTe.symm
      · have : b = it := by simpa using hb
        subst this
        obtain ⟨o, e1, _⟩ := hit
        exact Nat.ne_of_lt (Heap.lt_size e1)
    rw [upd_ne this]
    exact hbn
  done := by
    intro X hP hw hK hc i pins s σ H E I hf st hg
    subst hP hw hK
    obtain ⟨⟨old, he⟩, hit⟩ := st
    obtain ⟨xs, hq, hx⟩ := hg
    obtain ⟨its, rv, p, hz⟩ := I.tuple hq
    have hl := rv.length
    have pT : s.heap.IsTuple a its.toArray := p
    have nai : a ≠ it := fun z => by
      obtain ⟨o1, c1, c2, _⟩ := pT
      obtain ⟨o2, c3, c4, _⟩ := hit
      rw [z, c3] at c1
      cases c1
      rw [c4] at c2
      exact absurd c2 (by decide)
    have hn : i = its.toArray.size := by simp; omega
    rw [hn] at hit
    exact wpAny_pyNext_enum_endD (draws_tup (A := X.A.in1) (show X.A.in1.handled = none from I.ok.hd hc) it a nai its.toArray) he ⟨hit, pT⟩ fun h2 eb => ⟨rfl, I.turnedL (t' := s.toks) (ch := [e, it]) hf fun b o hb q => eb b o (fun z => hb (by simp [z])) q⟩
  self := fun _ _ _ _ _ st h => by
    obtain ⟨⟨old, he⟩, _⟩ := st
    exact wpAny_pyIter_enum he h
theorem iter_enumT {K : PySem.W.Frag} {F : Hp} {a : Addr} {xs : List V} {ds : List Dat} (t : SqT K F a xs) (z : Deeps K F ds xs) : IterD K F (IteT K a) (enumL 0 ds) where
  go := fun i F' H' s1 s2 hi => ⟨xs, xs[i]'(by rw [z.length]; rw [enumL_len] at hi; exact hi), s2.tup (s1.tup t), by rw [enumL_len] at hi; simp [z.length, hi]⟩
  yl := fun i F' H' x H2 d s1 s2 hd hy => by
    obtain ⟨T, y, hT, ex, eH, hy⟩ := hy
    subst ex eH
    rw [enumL_get] at hd
    cases hds : ds[i]? with
    | none => rw [hds] at hd; cases hd
    | some d' =>
      rw [hds] at hd
      simp at hd
      subst hd
      obtain ⟨v, e1, q⟩ := z.get hds
      have e2 := hy xs (s2.tup (s1.tup t))
      rw [e1] at e2
      cases e2
      refine ⟨upd F' T (.tup [.int i, y]), Step.lay s2 hT, T, _, rfl, SqT.of upd_same, ?_⟩
      exact ⟨.int i, [y], rfl, rfl, y, [], rfl, (q.mono s1).mono (Same.upd (s2.free hT)), rfl⟩
  st := fun F' H' s1 s2 => ⟨xs, s2.tup (s1.tup t), by rw [z.length, enumL_len]⟩
noncomputable def fEnum2 (fa : Env' → M Dat) : Env' → M (List Dat) := fun ρ => (fa ρ).bind fun d => (itemsD d).bind fun ds => .ok (enumL 0 ds)
@[simp] theorem e_enum2 {fa : Env' → M Dat} {ρ : Env'} : fEnum2 fa ρ = (fa ρ).bind fun d => (itemsD d).bind fun ds => .ok (enumL 0 ds) := id rfl
section
variable {X : Cx} {K : PySem.W.Frag} {W : Wish} {a : Expr} {pos p : Pos} {fa : Env' → M Dat}
noncomputable def iEnum2 (K : PySem.W.Frag) (tl : TE) : TI := fun σ H R => tl σ H fun x H1 => ∃ a, x = .ref a ∧ ((∃ xs, SqL K H1 a xs) ∧ R (Ite K a) H1 ∨ (∃ xs, SqT K H1 a xs) ∧ R (IteT K a) H1)
theorem pi_enum2 {elts : List Expr} {k : Nat} {q : Pos} {tl : TE} (hg : Gl X "enumerate") (hm : X.mg "enumerate" = none) (hl : PE X a tl) (hs : starEach [a] X.env = [(false, eval a X.env)] := by rfl) :
    PI X (.Tuple elts k q) (.Call (.Name "enumerate" p) [a] [] pos) (iEnum2 X.K tl) := by
  intro pins s σ H R I h
  have ha : PA X [a] (tCons tl tNil) := pa_cons hl pa_nil hs
  refine Call_ (ld_blt I hg hm boot_enumerate (PyProof.Rows.callWith_type1 (thn (ha pos pins s σ H (fun vs H1 => match vs with
    | [x] => ∃ a, x = .ref a ∧ ((∃ xs, SqL X.K H1 a xs) ∧ R (Ite X.K a) H1 ∨ (∃ xs, SqT X.K H1 a xs) ∧ R (IteT X.K a) H1)
    | _ => False) I h) fun us s1 ⟨vs, H1, I1, r1, q1⟩ => ?_) hs rfl))
  match vs, r1, q1 with
  | [x], r1, ⟨l, e1, q⟩ =>
    subst e1
    obtain ⟨u, rfl, ru⟩ := r1.one
    cases ru
    have fpo : ∀ b ∈ [s1.heap.objs.size + 1, s1.heap.objs.size], FpOk X pins H1 b := fun b hb => by
      have hb2 : s1.heap.objs.size ≤ b := by
        rcases List.mem_cons.mp hb with z0 | hb
        · subst z0; exact Nat.le_succ _
        · have : b = s1.heap.objs.size := by simpa using hb
          exact Nat.le_of_eq this.symm
      exact I1.fpOk hb2 (I1.hok.fresh hb2)
    rcases q with ⟨⟨xs, hq⟩, q⟩ | ⟨⟨xs, hq⟩, q⟩
    · obtain ⟨its, rv, pl, hz⟩ := I1.list hq
      refine call_enumerate_list pl.isList fun h2 he hit hsz hk => ?_
      have I2 : Inv X pins σ H1 { s1 with heap := h2 } := I1.kept (t' := s1.toks) hk
      refine wpAny_pyIter_enum he ?_; exact ⟨s1.heap.objs.size + 1, [s1.heap.objs.size + 1, s1.heap.objs.size], _, _, H1, rfl, I2, turn_enum l _ _ (Nat.succ_ne_self _), ⟨⟨_, he⟩, hit⟩, fpo, q⟩
    · obtain ⟨its, rv, pl, hz⟩ := I1.tuple hq
      refine call_enumT (show s1.heap.IsTuple l its.toArray from pl) fun h2 he hit hsz hk => ?_
      have I2 : Inv X pins σ H1 { s1 with heap := h2 } := I1.kept (t' := s1.toks) hk
      refine wpAny_pyIter_enum he ?_; exact ⟨s1.heap.objs.size + 1, [s1.heap.objs.size + 1, s1.heap.objs.size], _, _, H1, rfl, I2, turn_enumT l _ _ (Nat.succ_ne_self _), ⟨⟨_, he⟩, hit⟩, fpo, q⟩
theorem ri_enum2 {σ : St} {H : Hp} {R : It → Hp → Prop} (h : iD K W (fEnum2 fa) σ H R) : iEnum2 K (tD K W false fa) σ H R := by
  obtain ⟨F, ρ, r, s, p⟩ := h
  refine tD_run r s (fun e he => ?_) fun d hd v F1 H1 s1 q1 => ?_
  · have z : fEnum2 fa ρ = .error e := by unfold fEnum2; rw [he]; rfl
    rw [z] at p; exact p
  · have z : fEnum2 fa ρ = (itemsD d).bind fun ds => .ok (enumL 0 ds) := by unfold fEnum2; rw [hd]; rfl
    rw [z] at p
    cases d with
    | lst ds =>
      obtain ⟨b, xs, e, t, z⟩ := q1
      exact ⟨b, e, .inl ⟨⟨xs, s1.fh.lst t⟩, p _ F1 H1 s1 (iter_enum t z)⟩⟩
    | tup ds =>
      obtain ⟨b, xs, e, t, z⟩ := q1
      exact ⟨b, e, .inr ⟨⟨xs, s1.fh.tup t⟩, p _ F1 H1 s1 (iter_enumT t z)⟩⟩
    | _ => exact (W.ns p).elim
theorem di_enum2 {elts : List Expr} {k : Nat} {q : Pos} (hm : X.mg "enumerate" = none) (hl : DE K W false X a fa) (hg : Gl X "enumerate" := by rfl) (hs : starEach [a] X.env = [(false, eval a X.env)] := by rfl) (hK : X.K = K := by rfl) :
    DI K W X (.Tuple elts k q) (.Call (.Name "enumerate" p) [a] [] pos) (fEnum2 fa) := by
  subst hK
  exact (pi_enum2 hg hm hl hs).imp fun _ _ _ => ri_enum2
end
end L2
namespace L2
open PySem PySem.Spec PyProof.Rows
theorem itup_ext {u l c : Addr} {i : Nat} {h h' : Heap} (x : h.IsTupleIter u l i) (A : Heap.ExtBut c h h') (n : u ≠ c) : h'.IsTupleIter u l i := x.at fun o e => A u o n e
theorem tup_ext {l c : Addr} {xs : Array Value} {h h' : Heap} (x : h.IsTuple l xs) (A : Heap.ExtBut c h h') (n : l ≠ c) : h'.IsTuple l xs := let ⟨o, e, r⟩ := x; ⟨o, A l o n e, r⟩
structure Ys (z p q u v l m : Addr) (r k a b : Value) (i j : Nat) (xs ys : Array Value) (h : Heap) : Prop where
  me : ZRec h z p q r k
  its : IsPair h p (.ref u) (.ref v)
  own : IsPair h q a b
  one : h.IsTupleIter u l i
  two : h.IsTupleIter v m j
  xl : h.IsTuple l xs
  yl : h.IsTuple m ys
section
variable {z p q u v l m : Addr} {r k a b : Value} {i j n : Nat} {xs ys : Array Value} {h h' g : Heap}
theorem Ys.atZ {r' k' : Value} (D : ZipApart z p q u v l m) (Z : Ys z p q u v l m r k a b i j xs ys h) (A : Heap.ExtBut z h h') (e : ZRec h' z p q r' k') : Ys z p q u v l m r' k' a b i j xs ys h' :=
  ⟨e, A _ _ D.TIz Z.its, A _ _ D.TOz Z.own, itup_ext Z.one A D.i1z, itup_ext Z.two A D.i2z, tup_ext Z.xl A D.l1z, tup_ext Z.yl A D.l2z⟩
theorem Ys.atQ {a' b' : Value} (D : ZipApart z p q u v l m) (Z : Ys z p q u v l m r k a b i j xs ys h) (A : Heap.ExtBut q h h') (e : IsPair h' q a' b') : Ys z p q u v l m r k a' b' i j xs ys h' :=
  ⟨A _ _ D.TOz.symm Z.me, A _ _ D.TITO Z.its, e, itup_ext Z.one A D.TOi1.symm, itup_ext Z.two A D.TOi2.symm, tup_ext Z.xl A D.l1TO, tup_ext Z.yl A D.l2TO⟩
theorem Ys.atU (D : ZipApart z p q u v l m) (Z : Ys z p q u v l m r k a b i j xs ys h) (A : Heap.ExtBut u h h') (e : h'.IsTupleIter u l n) : Ys z p q u v l m r k a b n j xs ys h' :=
  ⟨A _ _ D.i1z.symm Z.me, A _ _ D.TIi1 Z.its, A _ _ D.TOi1 Z.own, e, itup_ext Z.two A D.i12.symm, tup_ext Z.xl A D.l1i1, tup_ext Z.yl A D.l2i1⟩
theorem Ys.atV (D : ZipApart z p q u v l m) (Z : Ys z p q u v l m r k a b i j xs ys h) (A : Heap.ExtBut v h h') (e : h'.IsTupleIter v m n) : Ys z p q u v l m r k a b i n xs ys h' :=
  ⟨A _ _ D.i2z.symm Z.me, A _ _ D.TIi2 Z.its, A _ _ D.TOi2 Z.own, itup_ext Z.one A D.i12, e, tup_ext Z.xl A D.l1i2, tup_ext Z.yl A D.l2i2⟩
theorem Ys.new {o : Obj} (Z : Ys z p q u v l m r k a b i j xs ys h) : Ys z p q u v l m r k a b i j xs ys (h.push o) :=
  ⟨Heap.get?_push_of_some _ Z.me, Heap.get?_push_of_some _ Z.its, Heap.get?_push_of_some _ Z.own, Z.one.at fun _ e => Heap.get?_push_of_some _ e, Z.two.at fun _ e => Heap.get?_push_of_some _ e, (let ⟨o', e, t⟩ := Z.xl; ⟨o', Heap.get?_push_of_some _ e, t⟩), (let ⟨o', e, t⟩ := Z.yl; ⟨o', Heap.get?_push_of_some _ e, t⟩)⟩
end
section
variable {P : Program} {w : World} {A : Around} {E : Value → Shared → Prop} {s : Shared} {z p q u v l m : Addr} {r k a b x y : Value} {i j : Nat} {xs ys : Array Value}
theorem ys_asks {T : Bool → Shared → Prop} (Z : Ys z p q u v l m .none k a b i j xs ys s.heap) (yes : T true s) : wpAny (model P w) A (Builtin.SmallTypes.ownedTupleIsFree (.ref z)) T E s :=
  wpAny_bind (wpAny_field Z.me rfl (x := .none) rfl (wpAny_pure yes))
theorem ys_put {n : Nat} {T : Unit → Shared → Prop} (D : ZipApart z p q u v l m) (Z : Ys z p q u v l m r k a b i j xs ys s.heap) {a' b' : Value} (hn : (#[a, b] : Array Value).setIfInBounds n x = #[a', b'])
    (go : ∀ h', Heap.ExtBut q s.heap h' → h'.objs.size = s.heap.objs.size → Ys z p q u v l m r k a' b' i j xs ys h' → T () { s with heap := h' }) : wpAny (model P w) A (updateSeq q (·.setIfInBounds n x)) T E s :=
  wpAny_updateSeq_pair Z.own fun h' e B => go h' B.extBut B.1 (Z.atQ D B.extBut (by rw [hn] at e; exact e))
theorem ys_set {n : Nat} {c : Value} {T : Unit → Shared → Prop} (D : ZipApart z p q u v l m) (Z : Ys z p q u v l m r k a b i j xs ys s.heap) {r' k' : Value} (hn : n < 5)
    (he : (#[r, k, .bool false, .ref p, .ref q] : Array Value).setIfInBounds n c = #[r', k', .bool false, .ref p, .ref q])
    (go : ∀ h', Heap.ExtBut z s.heap h' → h'.objs.size = s.heap.objs.size → Ys z p q u v l m r' k' a b i j xs ys h' → T () { s with heap := h' }) : wpAny (model P w) A (setField (.ref z) n c) T E s :=
  wpAny_setField_rec Z.me hn fun h' e B => go h' B.extBut B.1 (Z.atZ D B.extBut (by rw [he] at e; exact e))
theorem ys_gives {T : Value → Shared → Prop} (D : ZipApart z p q u v l m) (Z : Ys z p q u v l m .none (.bool false) a b i j xs ys s.heap) (hx : xs[i]? = some x) (hy : ys[j]? = some y)
    (go : ∀ h' a' b', Ys z p q u v l m (rawInt s.heap.objs.size) (.bool false) a' b' (i + 1) (j + 1) xs ys h' → IsPair h' s.heap.objs.size x y → Off z q u v s.heap h' → T (.ref s.heap.objs.size) { s with heap := h' }) :
    wpAny (model P w) A (Builtin.«zip.__next__» ⟨[.ref z], []⟩) (fun f s' => ∃ c, f = .done (.ret c) ∧ T c s') E s := by
  have look : ∀ {n : Nat} {c : Value} {T' : Value → Shared → Prop} {s' : Shared} {r k a b : Value} {i j : Nat}, Ys z p q u v l m r k a b i j xs ys s'.heap → (#[r, k, .bool false, .ref p, .ref q] : Array Value)[n]? = some c → T' c s' → wpAny (model P w) A (field (.ref z) n) T' E s' :=
    fun Z e t => wpAny_field Z.me rfl e t
  refine wpAny_bind (show wpAny _ _ (pure (Value.ref z, ([] : List Value))) _ _ _ from wpAny_pure ?_)
  refine wpAny_bind (look Z (n := 2) rfl (wpAny_bind (look Z (n := 3) rfl (wpAny_bind (wpAny_seqItems Z.its rfl ?_)))))
  refine wpAny_bind (ys_asks Z ?_)
  rw [if_pos rfl]
  refine wpAny_bind (wpAny_rule (wpAny_bind (look Z (n := 4) rfl (wpAny_bind (ys_set D Z (n := 0) (by decide) rfl fun g1 B1 e1 Z1 => ?_)))))
  refine wpAny_bind ?_
  simp only [List.zipIdx, List.forIn_cons, List.forIn_nil]
  refine wpAny_bind (wpAny_bind (wpAny_onRaise (wpAny_bind (nextT_item Z1.one Z1.xl hx fun g2 f2 B2 => wpAny_pure ?_))))
  have Z2 := Z1.atU D B2.extBut f2
  refine wpAny_bind (wpAny_seqItems Z2.own rfl (wpAny_bind (ys_put D Z2 (n := 0) rfl fun g3 B3 e3 Z3 => wpAny_bind (wpAny_letGo (wpAny_pure ?_)))))
  refine wpAny_bind (wpAny_bind (wpAny_onRaise (wpAny_bind (nextT_item Z3.two Z3.yl hy fun g4 f4 B4 => wpAny_pure ?_))))
  have Z4 := Z3.atV D B4.extBut f4
  refine wpAny_bind (wpAny_seqItems Z4.own rfl (wpAny_bind (ys_put D Z4 (n := 1) rfl fun g5 B5 e5 Z5 => wpAny_bind (wpAny_letGo (wpAny_pure (wpAny_pure ?_))))))
  refine wpAny_bind (wpAny_seqItems Z5.own rfl (wpAny_bind (wpAny_newTuple ?_)))
  have size : g5.objs.size = s.heap.objs.size := e5.trans (B4.1.trans (e3.trans (B2.1.trans e1)))
  have lt : z < g5.objs.size := Heap.lt_size Z5.me
  refine wpAny_bind (wpAny_bind (ys_set D Z5.new (n := 0) (r' := rawInt g5.objs.size) (by decide) rfl fun g6 B6 e6 Z6 => ys_set D Z6 (n := 1) (by decide) rfl fun g7 B7 e7 Z7 => ?_))
  refine wpAny_pure (Exists.intro _ ⟨rfl, ?_⟩)
  have pair : IsPair g7 g5.objs.size x y := B7 _ _ (Nat.ne_of_gt lt) (B6 _ _ (Nat.ne_of_gt lt) (Heap.get?_push_size _ rfl))
  have off : Off z q u v s.heap g7 := (Off.byZ B1).then ((Off.byU B2.extBut).then ((Off.byQ B3).then ((Off.byV B4.extBut).then ((Off.byQ B5).then (Off.new.then ((Off.byZ B6).then (Off.byZ B7)))))))
  show T (.ref g5.objs.size) _
  rw [size] at pair Z7 ⊢
  exact go g7 _ _ Z7 pair off
theorem ys_ends {T : Fin → Shared → Prop} (hh : A.handled = none) (D : ZipApart z p q u v l m) (Z : Ys z p q u v l m .none (.bool false) a b i j xs ys s.heap) (short : xs[i]? = none ∨ ys[j]? = none)
    (go : ∀ h' c, Off z q u v s.heap h' → (∃ o, h'.get? c = some o ∧ o.cls = .type "StopIteration") → E (.ref c) { s with heap := h' }) :
    wpAny (model P w) A (Builtin.«zip.__next__» ⟨[.ref z], []⟩) T E s := by
  refine wpAny_bind (show wpAny _ _ (pure (Value.ref z, ([] : List Value))) _ _ _ from wpAny_pure ?_)
  refine wpAny_bind (wpAny_field Z.me rfl (i := 2) rfl (wpAny_bind (wpAny_field Z.me rfl (i := 3) rfl (wpAny_bind (wpAny_seqItems Z.its rfl ?_)))))
  refine wpAny_bind (ys_asks Z ?_)
  rw [if_pos rfl]
  refine wpAny_bind (wpAny_rule (wpAny_bind (wpAny_field Z.me rfl (i := 4) rfl (wpAny_bind (ys_set D Z (n := 0) (by decide) rfl fun g1 B1 e1 Z1 => ?_)))))
  refine wpAny_bind ?_
  simp only [List.zipIdx, List.forIn_cons, List.forIn_nil]
  cases hx : xs[i]? with
  | none =>
    refine wpAny_bind (wpAny_bind (wpAny_onRaise (wpAny_bind (nextT_end hh Z1.one Z1.xl hx fun g2 c B2 ho => ?_))))
    exact zs_back (B2 _ _ D.i1z.symm Z1.me) ho fun g3 B3 ho3 => go g3 c ((Off.byZ B1).then ((Off.byU B2).then (Off.byZ B3))) ho3
  | some x =>
    have hy : ys[j]? = none := short.resolve_left (by rw [hx]; exact fun h => nomatch h)
    refine wpAny_bind (wpAny_bind (wpAny_onRaise (wpAny_bind (nextT_item Z1.one Z1.xl hx fun g2 f2 B2 => wpAny_pure ?_))))
    have Z2 := Z1.atU D B2.extBut f2
    refine wpAny_bind (wpAny_seqItems Z2.own rfl (wpAny_bind (ys_put D Z2 (n := 0) rfl fun g3 B3 e3 Z3 => wpAny_bind (wpAny_letGo (wpAny_pure ?_)))))
    refine wpAny_bind (wpAny_bind (wpAny_onRaise (wpAny_bind (nextT_end hh Z3.two Z3.yl hy fun g4 c B4 ho => ?_))))
    exact zs_back (B4 _ _ D.i2z.symm Z3.me) ho fun g5 B5 ho5 => go g5 c ((Off.byZ B1).then ((Off.byU B2.extBut).then ((Off.byQ B3).then ((Off.byV B4).then (Off.byZ B5))))) ho5
theorem yn_gives {T : Option Value → Shared → Prop} (D : ZipApart z p q u v l m) (Z : Ys z p q u v l m .none (.bool false) a b i j xs ys s.heap) (hx : xs[i]? = some x) (hy : ys[j]? = some y)
    (go : ∀ h' a' b', Ys z p q u v l m (rawInt s.heap.objs.size) (.bool false) a' b' (i + 1) (j + 1) xs ys h' → IsPair h' s.heap.objs.size x y → Off z q u v s.heap h' → T (some (.ref s.heap.objs.size)) { s with heap := h' }) :
    wpAny (model P w) A (pyNext (.ref z)) T E s := by
  have ty : s.TypeIs (.ref z) "zip" := ⟨_, Z.me, rfl⟩
  have run := ys_gives (P := P) (w := w) (A := A.in1) (E := fun _ _ => False) (T := fun c s' => T (some c) s') D Z hx hy go
  unfold pyNext
  refine wpAny_bind (wpAny_attempt (wpAny_callSpecial?_slot (name := Str.ofString "__next__") ty PySem.F.slot_zip_next ?_))
  refine wpAny_call_entry PySem.F.slot_zip_next ty PySem.F.entry_zip_next (wpAny_mono run (fun f s' h => ?_) fun _ _ h => h.elim) (PySem.F.args_zip_next_1 _)
  obtain ⟨c, e, h⟩ := h
  exact ⟨c, e, wpAny_pure h⟩
theorem yn_ends {T : Option Value → Shared → Prop} (hh : A.handled = none) (D : ZipApart z p q u v l m) (Z : Ys z p q u v l m .none (.bool false) a b i j xs ys s.heap) (short : xs[i]? = none ∨ ys[j]? = none)
    (go : ∀ h', Off z q u v s.heap h' → T none { s with heap := h' }) : wpAny (model P w) A (pyNext (.ref z)) T E s := by
  have ty : s.TypeIs (.ref z) "zip" := ⟨_, Z.me, rfl⟩
  unfold pyNext
  refine wpAny_bind (wpAny_attempt (wpAny_callSpecial?_slot (name := Str.ofString "__next__") ty PySem.F.slot_zip_next ?_))
  refine wpAny_call_entry PySem.F.slot_zip_next ty PySem.F.entry_zip_next (ys_ends hh D Z short fun h' c off ⟨o, e, t⟩ => ?_) (PySem.F.args_zip_next_1 _)
  exact wpAny_bind (wpAny_isInstance (T := "StopIteration") (b := true) ⟨o, e, t⟩ isSubtype_stop (wpAny_pure (go h' off)))
end
noncomputable def ItzT (K : PySem.W.Frag) (a b : Addr) : It :=
  ⟨fun i H => ∃ xs ys x y, SqT K H a xs ∧ SqT K H b ys ∧ xs[i]? = some x ∧ ys[i]? = some y, fun i H v H' => ∃ T x y, H T = none ∧ v = .ref T ∧ H' = upd H T (.tup [x, y]) ∧ (∀ xs, SqT K H a xs → xs[i]? = some x) ∧ ∀ ys, SqT K H b ys → ys[i]? = some y, fun i H => ∃ xs ys, SqT K H a xs ∧ SqT K H b ys ∧ (xs.length ≤ i ∨ ys.length ≤ i)⟩
theorem turn_zipT {P : Program} {w : World} {K : PySem.W.Frag} {elts : List Expr} {k : Nat} {pos : Pos} {z p q u v l m : Addr} (D : ZipApart z p q u v l m) :
    Turn P w K (.Tuple elts k pos) (ItzT K l m) [z, p, q, u, v] z (fun i h => IsZip h z p q .none ∧ IsPair h p (.ref u) (.ref v) ∧ (∃ a b, IsPair h q a b) ∧ h.IsTupleIter u l i ∧ h.IsTupleIter v m i) where
  mem := List.mem_cons_self
  obj := fun i h ⟨me, its, ⟨_, _, own⟩, ⟨o1, e1, _, d1⟩, ⟨o2, e2, _, d2⟩⟩ c hc => by
    simp only [List.mem_cons, List.not_mem_nil, or_false] at hc
    rcases hc with e | e | e | e | e <;> subst e
    · exact ⟨_, me, fun _ t => nomatch t⟩
    · exact ⟨_, its, fun _ t => nomatch t⟩
    · exact ⟨_, own, fun _ t => nomatch t⟩
    · exact ⟨o1, e1, fun _ t => by rw [d1] at t; cases t⟩
    · exact ⟨o2, e2, fun _ t => by rw [d2] at t; cases t⟩
  keep := fun i h h' ⟨me, its, ⟨a, b, own⟩, one, two⟩ kk =>
    ⟨kk z (by simp) _ me, kk p (by simp) _ its, ⟨a, b, kk q (by simp) _ own⟩, one.at fun o x => kk u (by simp) o x, two.at fun o x => kk v (by simp) o x⟩
  item := by
    rintro X rfl rfl rfl calm i pins s σ H E I hf ⟨me, its, ⟨a, b, own⟩, one, two⟩ ⟨xs, ys, x, y, hx, hy, gx, gy⟩
    obtain ⟨vs, rx, px, _⟩ := I.tuple hx
    obtain ⟨ws, ry, py, _⟩ := I.tuple hy
    obtain ⟨c, hc, rc⟩ := rx.get gx
    obtain ⟨d, hd, rd⟩ := ry.get gy
    refine yn_gives D ⟨me, its, own, one, two, px, py⟩ (x := c) (y := d) (by simpa using hc) (by simpa using hd) fun h' a' b' Z pair off => ⟨_, rfl, wpAny_letOwnedTupleGo_zip Z.me fun g me2 B => ?_⟩
    have low : ∀ e ∈ [z, p, q, u, v], e < s.heap.objs.size := by
      simp only [List.mem_cons, List.not_mem_nil, or_false]
      rintro e (rfl | rfl | rfl | rfl | rfl)
      · exact Heap.lt_size me
      · exact Heap.lt_size its
      · exact Heap.lt_size own
      · exact one.elim fun _ t => Heap.lt_size t.1
      · exact two.elim fun _ t => Heap.lt_size t.1
    have Z2 := Z.atZ D B.extBut me2
    have nz : s.heap.objs.size ≠ z := Nat.ne_of_gt (low z (by simp))
    have I' : Inv X pins σ (upd H s.heap.objs.size (.tup [x, y])) { s with heap := g, toks := s.toks } := I.turnedT (ch := [z, p, q, u, v]) hf (fun e o he t => by
        simp only [List.mem_cons, List.not_mem_nil, or_false, not_or] at he
        exact B.extBut e o he.1 (off e o he.1 he.2.2.1 he.2.2.2.1 he.2.2.2.2 t)) (Nat.le_refl _) ⟨by show 2 ≤ sizeLine; decide, [c, d], .cons rc (.cons rd .nil), ⟨_, B.extBut _ _ nz pair, rfl, 0, rfl⟩⟩
    refine ⟨.ref s.heap.objs.size, _, I', rfl, ⟨_, x, y, I.hok.fresh (Nat.le_refl _), rfl, rfl, fun _ t => by rw [I.tuple_inj t hx]; exact gx, fun _ t => by rw [I.tuple_inj t hy]; exact gy⟩, ⟨me2, Z2.its, ⟨_, _, Z2.own⟩, Z2.one, Z2.two⟩, fun e he => ?_⟩
    rw [upd_ne (Nat.ne_of_lt (low e he))]
    exact (hf e he).1
  done := by
    rintro X rfl rfl rfl calm i pins s σ H E I hf ⟨me, its, ⟨a, b, own⟩, one, two⟩ ⟨xs, ys, hx, hy, short⟩
    obtain ⟨vs, rx, px, _⟩ := I.tuple hx
    obtain ⟨ws, ry, py, _⟩ := I.tuple hy
    have nx := rx.length
    have ny := ry.length
    refine yn_ends (I.ok.hd calm) D ⟨me, its, own, one, two, px, py⟩ (short.imp (fun t => Array.getElem?_eq_none (by simp; omega)) fun t => Array.getElem?_eq_none (by simp; omega)) fun h' off => ⟨rfl, I.turnedL (t' := s.toks) (ch := [z, p, q, u, v]) hf fun e o he t => ?_⟩
    simp only [List.mem_cons, List.not_mem_nil, or_false, not_or] at he
    exact off e o he.1 he.2.2.1 he.2.2.2.1 he.2.2.2.2 t
  self := fun _ _ _ _ _ st h => wpAny_pyIter_zip st.1 h
noncomputable abbrev tit (l : Addr) : Obj := { cls := .type "tuple_iterator", data := .fields #[.ref l, .int 0 0] }
noncomputable abbrev zA (h : Heap) (l : Addr) : Heap := h.push (tit l)
noncomputable abbrev zB (h : Heap) (l m : Addr) : Heap := (zA h l).push (tit m)
noncomputable abbrev zC (h : Heap) (l m : Addr) : Heap := (zB h l m).push { cls := .type "tuple", data := .seq #[.ref h.objs.size, .ref (zA h l).objs.size] }
noncomputable abbrev zD (h : Heap) (l m : Addr) : Heap := (zC h l m).push { cls := .type "tuple", data := .seq #[.none, .none] }
noncomputable abbrev zE (h : Heap) (l m : Addr) : Heap := (zD h l m).push { cls := .type "zip", data := .fields #[.none, .bool false, .bool false, .ref (zB h l m).objs.size, .ref (zC h l m).objs.size] }
theorem zip_newT (l m : Addr) (xs ys : Array Value) : Meets (Builtin.«zip.__new__» ⟨[.type "zip", .ref l, .ref m], []⟩) (fun _ R s => s.heap.IsTuple l xs ∧ s.heap.IsTuple m ys ∧ R (.ok (.ret (.ref (zD s.heap l m).objs.size))) { s with heap := zE s.heap l m }) :=
  .of_wp fun prog w A R s h => by
    obtain ⟨hp, g, d, tk, os⟩ := s; obtain ⟨t1, t2, h⟩ := h
    have hsub := sub_zip
    have T1 : Heap.IsTuple (Shared.heap ⟨hp, g, d, tk, os⟩) l xs := t1
    have T2 : Heap.IsTuple (Shared.heap ⟨hp.push { cls := .type "tuple_iterator", data := .fields #[.ref l, .int 0 0] }, g, d, tk, os⟩) m ys := Heap.IsTuple.push t2 _
    wp_walk using wpAny_pyIter_tuple T1, wpAny_pyIter_tuple T2
    exact ⟨_, rfl, h⟩
section
variable {prog : Program} {w : World} {A : Around} {E : Value → Shared → Prop} {s : Shared}
theorem call_zipT {l m : Addr} {xs ys : Array Value} {Q : Value → Shared → Prop} (t1 : s.heap.IsTuple l xs) (t2 : s.heap.IsTuple m ys)
    (k : ∀ h', IsZip h' (s.heap.objs.size + 4) (s.heap.objs.size + 2) (s.heap.objs.size + 3) .none → IsPair h' (s.heap.objs.size + 2) (.ref s.heap.objs.size) (.ref (s.heap.objs.size + 1)) →
      IsPair h' (s.heap.objs.size + 3) .none .none → h'.IsTupleIter s.heap.objs.size l 0 → h'.IsTupleIter (s.heap.objs.size + 1) m 0 → (∀ c o, s.heap.get? c = some o → h'.get? c = some o) → Q (.ref (s.heap.objs.size + 4)) { s with heap := h' }) :
    wpAny (model prog w) A (call (.type "zip") [.ref l, .ref m]) Q E s := by
  refine callType_new PySem.F.called_zip (by decide) (PySem.F.typeCall_zip_2 _ _) (PySem.F.newCall_zip_2 _ _) (fun obj => PySem.F.args_object_init_3 obj _ _) PySem.F.entry_zip_new (zip_newT l m xs ys) ⟨t1, t2, ?_⟩
  have n1 : (zA s.heap l).objs.size = s.heap.objs.size + 1 := Heap.size_push ..
  have n2 : (zB s.heap l m).objs.size = s.heap.objs.size + 2 := by rw [Heap.size_push, n1]
  have n3 : (zC s.heap l m).objs.size = s.heap.objs.size + 3 := by rw [Heap.size_push, n2]
  have n4 : (zD s.heap l m).objs.size = s.heap.objs.size + 4 := by rw [Heap.size_push, n3]
  have o5 : (zE s.heap l m).get? (zD s.heap l m).objs.size = some _ := Heap.get?_push_size _ rfl
  have o4 : (zE s.heap l m).get? (zC s.heap l m).objs.size = some _ := Heap.get?_push_of_some _ (Heap.get?_push_size _ rfl)
  have o3 : (zE s.heap l m).get? (zB s.heap l m).objs.size = some _ := Heap.get?_push_of_some _ (Heap.get?_push_of_some _ (Heap.get?_push_size _ rfl))
  have o2 : (zE s.heap l m).get? (zA s.heap l).objs.size = some _ := Heap.get?_push_of_some _ (Heap.get?_push_of_some _ (Heap.get?_push_of_some _ (Heap.get?_push_size _ rfl)))
  have o1 : (zE s.heap l m).get? s.heap.objs.size = some _ := Heap.get?_push_of_some _ (Heap.get?_push_of_some _ (Heap.get?_push_of_some _ (Heap.get?_push_of_some _ (Heap.get?_push_size _ rfl))))
  show _ ∧ _
  rw [n2, n3, n4] at o5
  rw [n1, n2] at o3
  rw [n3] at o4
  rw [n1] at o2
  rw [n4]
  exact ⟨⟨_, o5, rfl⟩, k _ o5 o3 o4 ⟨_, o1, rfl, rfl⟩ ⟨_, o2, rfl, rfl⟩ fun c o t => Heap.get?_push_of_some _ (Heap.get?_push_of_some _ (Heap.get?_push_of_some _ (Heap.get?_push_of_some _ (Heap.get?_push_of_some _ t))))⟩
end
theorem iter_zipT {K : PySem.W.Frag} {F : Hp} {a b : Addr} {xs ys : List V} {ds es : List Dat} (t : SqT K F a xs) (z : Deeps K F ds xs) (t2 : SqT K F b ys) (z2 : Deeps K F es ys) : IterD K F (ItzT K a b) (zipL ds es) where
  go := fun i F' H' s1 s2 hi => by
    rw [zipL_len] at hi
    exact ⟨xs, ys, xs[i]'(by rw [z.length]; omega), ys[i]'(by rw [z2.length]; omega), s2.tup (s1.tup t), s2.tup (s1.tup t2), List.getElem?_eq_getElem _, List.getElem?_eq_getElem _⟩
  yl := fun i F' H' x H2 d s1 s2 hd hy => by
    obtain ⟨T, x1, y1, hT, ex, eH, h1, h2⟩ := hy
    subst ex eH
    rw [zipL_get] at hd
    cases hds : ds[i]? with
    | none => rw [hds] at hd; cases hd
    | some d1 =>
      cases hes : es[i]? with
      | none => rw [hds, hes] at hd; cases hd
      | some d2 =>
        rw [hds, hes] at hd
        simp at hd
        subst hd
        obtain ⟨v, e1, q⟩ := z.get hds
        obtain ⟨v2, e2, q2⟩ := z2.get hes
        have e3 := h1 xs (s2.tup (s1.tup t))
        have e4 := h2 ys (s2.tup (s1.tup t2))
        rw [e1] at e3
        rw [e2] at e4
        cases e3
        cases e4
        refine ⟨upd F' T (.tup [x1, y1]), Step.lay s2 hT, T, _, rfl, SqT.of upd_same, ?_⟩
        exact ⟨x1, [y1], rfl, (q.mono s1).mono (Same.upd (s2.free hT)), y1, [], rfl, (q2.mono s1).mono (Same.upd (s2.free hT)), rfl⟩
  st := fun F' H' s1 s2 => ⟨xs, ys, s2.tup (s1.tup t), s2.tup (s1.tup t2), by rw [z.length, z2.length, zipL_len]; omega⟩
noncomputable def itemsTD : Dat → M (List Dat)
  | .tup ds => .ok ds
  | _ => .error .stuck
noncomputable def fZipT (fa fb : Env' → M Dat) : Env' → M (List Dat) := fun ρ => (fa ρ).bind fun a => (fb ρ).bind fun b => (itemsTD a).bind fun ds => (itemsTD b).bind fun es => .ok (zipL ds es)
@[simp] theorem e_zipT {fa fb : Env' → M Dat} {ρ : Env'} : fZipT fa fb ρ = (fa ρ).bind fun a => (fb ρ).bind fun b => (itemsTD a).bind fun ds => (itemsTD b).bind fun es => .ok (zipL ds es) := id rfl
@[simp] theorem e_itemsTD (ds : List Dat) : itemsTD (.tup ds) = .ok ds := id rfl
section
variable {X : Cx} {K : PySem.W.Frag} {W : Wish} {a b : Expr} {pos p : Pos} {fa fb : Env' → M Dat}
noncomputable def iZipT (K : PySem.W.Frag) (ta tb : TE) : TI := fun σ H R => ta σ H fun x H1 => tb σ H1 fun y H2 => ∃ c d, x = .ref c ∧ y = .ref d ∧ (∃ xs, SqT K H2 c xs) ∧ (∃ ys, SqT K H2 d ys) ∧ R (ItzT K c d) H2
theorem pi_zipT {elts : List Expr} {k : Nat} {q : Pos} {ta tb : TE} (hg : Gl X "zip") (hm : X.mg "zip" = none) (ha : PE X a ta) (hb : PE X b tb) (hs : starEach [a, b] X.env = [(false, eval a X.env), (false, eval b X.env)]) (hs2 : starEach [b] X.env = [(false, eval b X.env)]) :
    PI X (.Tuple elts k q) (.Call (.Name "zip" p) [a, b] [] pos) (iZipT X.K ta tb) := by
  intro pins s σ H R I h
  have both : PA X [a, b] (tCons ta (tCons tb tNil)) := pa_cons ha (pa_cons hb pa_nil hs2) (by rw [hs, hs2])
  have args := both pos pins s σ H (fun vs H1 => match vs with | [x, y] => ∃ c d, x = .ref c ∧ y = .ref d ∧ (∃ xs, SqT X.K H1 c xs) ∧ (∃ ys, SqT X.K H1 d ys) ∧ R (ItzT X.K c d) H1 | _ => False) I h
  refine Call_ (ld_blt I hg hm boot_zip (PyProof.Rows.callWith_type1 (thn args fun us s1 ⟨vs, H1, I1, r1, q1⟩ => ?_) (by rw [hs, hs2]) (by rw [hs2]; rfl)))
  match vs, r1, q1 with
  | [x, y], r1, ⟨c, d, ec, ed, ⟨xs, hx⟩, ⟨ys, hy⟩, go⟩ =>
    subst ec ed
    obtain ⟨_, _, rfl, rc, rd⟩ := r1.two
    cases rc
    cases rd
    obtain ⟨vs, rx, px, _⟩ := I1.tuple hx
    obtain ⟨ws, ry, py, _⟩ := I1.tuple hy
    have px' : s1.heap.IsTuple c vs.toArray := px
    have py' : s1.heap.IsTuple d ws.toArray := py
    have lc : c < s1.heap.objs.size := px'.elim fun _ t => Heap.lt_size t.1
    have ld : d < s1.heap.objs.size := py'.elim fun _ t => Heap.lt_size t.1
    refine call_zipT px' py' fun h' me its own one two old => wpAny_pyIter_zip me ?_
    have new : ∀ e ∈ [s1.heap.objs.size + 4, s1.heap.objs.size + 2, s1.heap.objs.size + 3, s1.heap.objs.size, s1.heap.objs.size + 1], s1.heap.objs.size ≤ e := by
      simp only [List.mem_cons, List.not_mem_nil, or_false]
      rintro e (rfl | rfl | rfl | rfl | rfl) <;> omega
    exact ⟨_, _, _, _, H1, rfl, I1.kept (t' := s1.toks) old, turn_zipT (zipApart_new lc ld), ⟨me, its, ⟨_, _, own⟩, one, two⟩, fun e he => I1.fpOk (new e he) (I1.hok.fresh (new e he)), go⟩
theorem ri_zipT {σ : St} {H : Hp} {R : It → Hp → Prop} (h : iD K W (fZipT fa fb) σ H R) : iZipT K (tD K W false fa) (tD K W false fb) σ H R := by
  obtain ⟨F, ρ, r, s, p⟩ := h
  refine tD_run r s (fun e he => ?_) fun da hda va F1 H1 s1 q1 => ?_
  · have z : fZipT fa fb ρ = .error e := by unfold fZipT; rw [he]; rfl
    rw [z] at p; exact p
  · refine tD_run (r.mono s1.ff) s1.fh (fun e he => ?_) fun db hdb vb F2 H2 s2 q2 => ?_
    · have z : fZipT fa fb ρ = .error e := by unfold fZipT; rw [hda]; show (fb ρ).bind _ = _; rw [he]; rfl
      rw [z] at p; exact W.mono p s1
    · have z : fZipT fa fb ρ = (itemsTD da).bind fun ds => (itemsTD db).bind fun es => .ok (zipL ds es) := by unfold fZipT; rw [hda]; show (fb ρ).bind _ = _; rw [hdb]; rfl
      rw [z] at p
      cases da with
      | tup ds =>
        cases db with
        | tup es =>
          obtain ⟨c, xs, e1, t1, z1⟩ := q1
          obtain ⟨d, ys, e2, t2, z2⟩ := q2
          have t1' := s2.ff.tup t1
          exact ⟨c, d, e1, e2, ⟨xs, s2.fh.tup t1'⟩, ⟨ys, s2.fh.tup t2⟩, p _ F2 H2 (s1.trans s2) (iter_zipT t1' (z1.mono s2.ff) t2 z2)⟩
        | _ => exact (W.ns p).elim
      | _ => cases db <;> exact (W.ns p).elim
theorem di_zipT {elts : List Expr} {k : Nat} {q : Pos} (hm : X.mg "zip" = none) (ha : DE K W false X a fa) (hb : DE K W false X b fb) (hg : Gl X "zip" := by rfl) (hs : starEach [a, b] X.env = [(false, eval a X.env), (false, eval b X.env)] := by rfl) (hs2 : starEach [b] X.env = [(false, eval b X.env)] := by rfl) (hK : X.K = K := by rfl) :
    DI K W X (.Tuple elts k q) (.Call (.Name "zip" p) [a, b] [] pos) (fZipT fa fb) := by
  subst hK
  exact (pi_zipT hg hm ha hb hs hs2).imp fun _ _ _ => ri_zipT
end
end L2
namespace Ru
open PySem L2 PyProof.Rows
noncomputable def c__law_cell_1 (CR CP : Addr) (n : Nat) : Env' → M Flo :=
  sIf (fB (f2 ltD (fVar 1) (fL lenD (fCons (fVar 0) fNil))))
      (sRet (f2 ixD (fVar 0) (fVar 1)))
      sNext
noncomputable def c__law_cell_2 (CR CP : Addr) (n : Nat) : Env' → M Flo :=
  sIf (fB (f2 eqM (fVar 0) (fL mkLst fNil)))
      (sRet (fC (.int 0)))
      sNext
noncomputable def g__law_cell (CR CP : Addr) (n : Nat) : Env' → M Flo :=
  (sSeq (c__law_cell_1 CR CP n)
    (sSeq (c__law_cell_2 CR CP n)
    (sRet (f2 addD (f2 mulD (f2 ixD (fVar 0) (f2 modD (fVar 1) (fL lenD (fCons (fVar 0) fNil)))) (fC (.int 69621))) (f2 mulD (f2 mulD (fVar 1) (fVar 1)) (fC (.int 48271)))))))
noncomputable def m__law_cell (CR CP : Addr) (n : Nat) : List Dat → M Dat := runB 2 2 (g__law_cell CR CP n)
noncomputable def b__law_gap_rows_1 (CR CP : Addr) (n : Nat) : Env' → M Flo :=
  (sSeq (sSetB [3, 5] 7 (fL (m__law_cell CR CP n) (fCons (fVar 0) (fCons (f2 addD (f2 addD (fVar 1) (f2 mulD (fVar 2) (fVar 4))) (fVar 6)) fNil))))
    (sAppB [3, 5] 5 (f2 ixD (fL mkLst (fCons (fC (.int 0)) (fCons (f2 modD (f2 fdivD (fVar 7) (fC (.int 4))) (fC (.int 10))) (fCons (f2 modD (f2 fdivD (fVar 7) (fC (.int 4))) (fC (.int 10))) (fCons (f2 modD (f2 fdivD (fVar 7) (fC (.int 4))) (f2 ixD (fL mkLst (fCons (fC (.int 40)) (fCons (f2 addD (f2 powD (fC (.int 10)) (fC (.int 6))) (fC (.int 1))) fNil))) (f2 modD (f2 fdivD (fVar 7) (fC (.int 4))) (fC (.int 2))))) fNil))))) (f2 modD (fVar 7) (fC (.int 4))))))
noncomputable def b__law_gap_rows_2 (CR CP : Addr) (n : Nat) : Env' → M Flo :=
  (sSeq (sSetB [3] 5 (fL mkLst fNil))
    (sSeq (sFor [3, 5] (fRng rng1 (fCons (fVar 2) fNil)) (.nm 6) (b__law_gap_rows_1 CR CP n))
    (sAppB [3] 3 (fVar 5))))
noncomputable def g__law_gap_rows (CR CP : Addr) (n : Nat) : Env' → M Flo :=
  (sSeq (sSetB [] 3 (fL mkLst fNil))
    (sSeq (sFor [3] (fRng rng1 (fCons (fVar 2) fNil)) (.nm 4) (b__law_gap_rows_2 CR CP n))
    (sRet (fVar 3))))
noncomputable def m__law_gap_rows (CR CP : Addr) (n : Nat) : List Dat → M Dat := runB 8 3 (g__law_gap_rows CR CP n)
noncomputable def c__law_gaps_1 (CR CP : Addr) (n : Nat) : Env' → M Flo :=
  sIf (fB (f2 eqM (f2 modD (f2 fdivD (fL (m__law_cell CR CP n) (fCons (fVar 0) (fCons (fC (.int 0)) fNil))) (fC (.int 3))) (fC (.int 3))) (fC (.int 1))))
      (sRet (fL mkLst (fCons (fVar 2) (fCons (fL (m__law_gap_rows CR CP n) (fCons (fVar 0) (fCons (f2 addD (fC (.int 3)) (f2 mulD (fVar 1) (fVar 1))) (fCons (fVar 1) fNil)))) fNil))))
      sNext
noncomputable def g__law_gaps (CR CP : Addr) (n : Nat) : Env' → M Flo :=
  (sSeq (sSetB [] 1 (f2 addD (fC (.int 1)) (f2 modD (fL (m__law_cell CR CP n) (fCons (fVar 0) (fCons (fC (.int 0)) fNil))) (fC (.int 3)))))
    (sSeq (sSetB [] 2 (fL (m__law_gap_rows CR CP n) (fCons (fVar 0) (fCons (fC (.int 3)) (fCons (fVar 1) fNil)))))
    (sSeq (c__law_gaps_1 CR CP n)
    (sRet (fL mkLst (fCons (fVar 2) fNil))))))
noncomputable def m__law_gaps (CR CP : Addr) (n : Nat) : List Dat → M Dat := runB 3 1 (g__law_gaps CR CP n)
noncomputable def g_copied_rows (CR CP : Addr) (n : Nat) : Env' → M Flo :=
  (sRet (fComp (fIt (fVar 0)) [none] (.nm 0) fYes (fL listD (fCons (fVar 0) fNil))))
noncomputable def m_copied_rows (CR CP : Addr) (n : Nat) : List Dat → M Dat := runB 1 1 (g_copied_rows CR CP n)
noncomputable def c_is_gap_1 (CR CP : Addr) (n : Nat) : Env' → M Flo :=
  sIf (fOr (fNot (fTru (f1 isi_intD (fVar 0)))) (fTru (f1 isi_boolD (fVar 0))))
      (sRet (fC (.bl false)))
      sNext
noncomputable def g_is_gap (CR CP : Addr) (n : Nat) : Env' → M Flo :=
  (sSeq (c_is_gap_1 CR CP n)
    (sRet (fChain leD leD (fC (.int 0)) (fVar 0) (fC (.int 1000000)))))
noncomputable def m_is_gap (CR CP : Addr) (n : Nat) : List Dat → M Dat := runB 1 1 (g_is_gap CR CP n)
noncomputable def g_is_gap_row (CR CP : Addr) (n : Nat) : Env' → M Flo :=
  (sRet (fAndV (f1 isi_listD (fVar 0)) (fAndV (f2 eqM (fL lenD (fCons (fVar 0) fNil)) (fVar 1)) (fL allD (fCons (fComp (fIt (fVar 0)) [none] (.nm 0) fYes (fL (m_is_gap CR CP n) (fCons (fVar 0) fNil))) fNil)))))
noncomputable def m_is_gap_row (CR CP : Addr) (n : Nat) : List Dat → M Dat := runB 2 2 (g_is_gap_row CR CP n)
noncomputable def c_checked_rows_1 (CR CP : Addr) (n : Nat) : Env' → M Flo :=
  sIf (fNot (fB (fChain leD leD (fC (.int 1)) (fVar 1) (fC (.int 6)))))
      sStk
      sNext
noncomputable def c_checked_rows_2 (CR CP : Addr) (n : Nat) : Env' → M Flo :=
  sIf (fNot (fTru (fL allD (fCons (fComp (fIt (fVar 0)) [none, some 1] (.nm 0) fYes (fL (m_is_gap_row CR CP n) (fCons (fVar 0) (fCons (fVar 1) fNil)))) fNil))))
      sStk
      sNext
noncomputable def g_checked_rows (CR CP : Addr) (n : Nat) : Env' → M Flo :=
  (sSeq (sSetB [] 1 (fL lenD (fCons (fVar 0) fNil)))
    (sSeq (c_checked_rows_1 CR CP n)
    (sSeq (c_checked_rows_2 CR CP n)
    (sRet (fL (m_copied_rows CR CP n) (fCons (fVar 0) fNil))))))
noncomputable def m_checked_rows (CR CP : Addr) (n : Nat) : List Dat → M Dat := runB 2 1 (g_checked_rows CR CP n)
noncomputable def c__law_rules_1 (CR CP : Addr) (n : Nat) : Env' → M Flo :=
  sIf (fB (f2 eqM (fL lenD (fCons (fVar 0) fNil)) (fC (.int 2))))
      (sRet (fL (newP CP (m_checked_rows CR CP n)) (fCons (f2 ixD (fVar 0) (fC (.int 0))) (fCons (f2 ixD (fVar 0) (fC (.int 1))) fNil))))
      sNext
noncomputable def g__law_rules (CR CP : Addr) (n : Nat) : Env' → M Flo :=
  (sSeq (c__law_rules_1 CR CP n)
    (sRet (fL (newR CR (m_checked_rows CR CP n)) (fCons (f2 ixD (fVar 0) (fC (.int 0))) fNil))))
noncomputable def m__law_rules (CR CP : Addr) (n : Nat) : List Dat → M Dat := runB 1 1 (g__law_rules CR CP n)
noncomputable def b__law_closed_1 (CR CP : Addr) (n : Nat) : Env' → M Flo :=
  (sSeq (sSetB [3] 5 (f2 addD (f2 fdivD (fL (m__law_cell CR CP n) (fCons (fVar 0) (fCons (fC (.int 2)) fNil))) (f2 addD (f2 mulD (fVar 4) (fVar 4)) (fC (.int 1)))) (f2 mulD (f2 mulD (fC (.int 17)) (fVar 4)) (f2 modD (f2 fdivD (fVar 1) (fC (.int 32))) (fC (.int 3))))))
    (sSeq (sSetB [3] 6 (f2 modD (fVar 5) (fC (.int 50))))
    (sAppB [3] 3 (fL mkTup (fCons (fVar 6) (fCons (f2 addD (f2 addD (fVar 6) (fC (.int 1))) (f2 modD (f2 fdivD (fVar 5) (fC (.int 50))) (fC (.int 9)))) fNil))))))
noncomputable def g__law_closed (CR CP : Addr) (n : Nat) : Env' → M Flo :=
  (sSeq (sSetB [] 1 (fL (m__law_cell CR CP n) (fCons (fVar 0) (fCons (fC (.int 1)) fNil))))
    (sSeq (sSetB [] 2 (f2 ixD (fL mkLst (fCons (f2 modD (fVar 1) (fC (.int 4))) (fCons (f2 modD (fVar 1) (fC (.int 4))) (fCons (fC (.int 20)) fNil)))) (f2 fdivD (f2 modD (f2 fdivD (fVar 1) (fC (.int 4))) (fC (.int 8))) (fC (.int 3)))))
    (sSeq (sSetB [] 3 (fL mkLst fNil))
    (sSeq (sFor [3] (fRng rng1 (fCons (fVar 2) fNil)) (.nm 4) (b__law_closed_1 CR CP n))
    (sRet (fVar 3))))))
noncomputable def m__law_closed (CR CP : Addr) (n : Nat) : List Dat → M Dat := runB 7 1 (g__law_closed CR CP n)
noncomputable def b__law_flights_1 (CR CP : Addr) (n : Nat) : Env' → M Flo :=
  (sSeq (sSetB [4] 6 (fL (m__law_cell CR CP n) (fCons (fVar 0) (fCons (f2 addD (fVar 1) (f2 mulD (fC (.int 3)) (fVar 5))) fNil))))
    (sSeq (sSetB [4] 7 (fL (m__law_cell CR CP n) (fCons (fVar 0) (fCons (f2 addD (f2 addD (fVar 1) (f2 mulD (fC (.int 3)) (fVar 5))) (fC (.int 1))) fNil))))
    (sSeq (sSetB [4] 8 (fL (m__law_cell CR CP n) (fCons (fVar 0) (fCons (f2 addD (f2 addD (fVar 1) (f2 mulD (fC (.int 3)) (fVar 5))) (fC (.int 2))) fNil))))
    (sSeq (sSetB [4] 9 (f2 modD (f2 fdivD (fVar 6) (fC (.int 3))) (f2 ixD (fL mkLst (fCons (fC (.int 20)) (fCons (fC (.int 20)) (fCons (fC (.int 60)) (fCons (f2 mulD (fC (.int 9)) (f2 powD (fC (.int 10)) (fC (.int 8)))) fNil))))) (f2 modD (f2 fdivD (fVar 6) (fC (.int 3))) (fC (.int 4))))))
    (sSeq (sSetB [4] 10 (f2 addD (fVar 9) (f2 modD (f2 fdivD (fVar 7) (fC (.int 5))) (f2 ixD (fL mkLst (fCons (fC (.int 5)) (fCons (fC (.int 30)) (fCons (fC (.int 80)) (fCons (f2 powD (fC (.int 10)) (fC (.int 6))) (fCons (f2 powD (fC (.int 10)) (fC (.int 7))) fNil)))))) (f2 modD (fVar 7) (fC (.int 5)))))))
    (sSeq (sSetB [4] 11 (f2 ixD (fL mkLst (fCons (f2 modD (f2 fdivD (fVar 8) (fC (.int 2))) (fC (.int 40))) (fCons (f2 modD (f2 fdivD (fVar 8) (fC (.int 2))) (f2 addD (f2 powD (fC (.int 10)) (fC (.int 9))) (fC (.int 1)))) fNil))) (f2 modD (fVar 8) (fC (.int 2)))))
    (sSeq (sSetB [4] 12 (f2 ixD (fL mkLst (fCons (f2 modD (f2 fdivD (fVar 8) (fC (.int 80))) (fC (.int 5))) (fCons (f2 modD (f2 fdivD (fVar 8) (fC (.int 80))) (fC (.int 5))) (fCons (f2 modD (f2 fdivD (fVar 8) (fC (.int 80))) (f2 addD (f2 powD (fC (.int 10)) (fC (.int 9))) (fC (.int 1)))) fNil)))) (f2 modD (f2 fdivD (fVar 8) (fC (.int 8))) (fC (.int 3)))))
    (sAppB [4] 4 (fL mkTup (fCons (f2 modD (fVar 6) (fVar 2)) (fCons (fVar 9) (fCons (fVar 10) (fCons (fVar 11) (fCons (fVar 12) fNil))))))))))))))
noncomputable def g__law_flights (CR CP : Addr) (n : Nat) : Env' → M Flo :=
  (sSeq (sSetB [] 4 (fL mkLst fNil))
    (sSeq (sFor [4] (fRng rng1 (fCons (fVar 3) fNil)) (.nm 5) (b__law_flights_1 CR CP n))
    (sRet (fVar 4))))
noncomputable def m__law_flights (CR CP : Addr) (n : Nat) : List Dat → M Dat := runB 13 4 (g__law_flights CR CP n)
noncomputable def b__law_label_1 (CR CP : Addr) (n : Nat) : Env' → M Flo :=
  (sSeq (sSetB [3, 6] 8 (f2 modD (f2 mulD (fL (m__law_cell CR CP n) (fCons (fVar 0) (fCons (f2 addD (f2 addD (fVar 1) (f2 mulD (fVar 5) (fVar 4))) (fVar 7)) fNil))) (fC (.int 48271))) (fC (.int 65537))))
    (sAppB [3, 6] 6 (f2 ixD (fL mkLst (fCons (f1 negD (fC (.int 1))) (fCons (f2 modD (f2 fdivD (fVar 8) (fC (.int 2))) (fC (.int 70))) fNil))) (f2 modD (fVar 8) (fC (.int 2))))))
noncomputable def b__law_label_2 (CR CP : Addr) (n : Nat) : Env' → M Flo :=
  (sSeq (sSetB [3] 6 (fL mkLst fNil))
    (sSeq (sFor [3, 6] (fRng rng1 (fCons (fVar 4) fNil)) (.nm 7) (b__law_label_1 CR CP n))
    (sAppB [3] 3 (fL tupleD (fCons (fVar 6) fNil)))))
noncomputable def g__law_label (CR CP : Addr) (n : Nat) : Env' → M Flo :=
  (sSeq (sSetB [] 3 (fL mkLst fNil))
    (sSeq (sSetB [3] 4 (fL lenD (fCons (f2 ixD (fVar 2) (fC (.int 0))) fNil)))
    (sSeq (sFor [3] (fRng rng1 (fCons (fL lenD (fCons (fVar 2) fNil)) fNil)) (.nm 5) (b__law_label_2 CR CP n))
    (sRet (fL mkTup (fCons (f2 modD (fL (m__law_cell CR CP n) (fCons (fVar 0) (fCons (fVar 1) fNil))) (fC (.int 50))) (fCons (fL tupleD (fCons (fVar 3) fNil)) fNil)))))))
noncomputable def m__law_label (CR CP : Addr) (n : Nat) : List Dat → M Dat := runB 9 3 (g__law_label CR CP n)
noncomputable def c_is_no_worse_1 (CR CP : Addr) (n : Nat) : Env' → M Flo :=
  sIf (fB (f2 gtD (f2 ixD (fVar 0) (fC (.int 0))) (f2 ixD (fVar 1) (fC (.int 0)))))
      (sRet (fC (.bl false)))
      sNext
noncomputable def c_is_no_worse_2 (CR CP : Addr) (n : Nat) : Env' → M Flo :=
  sIf (fB (f2 gtD (fVar 4) (fVar 5)))
      (sRet (fC (.bl false)))
      sNext
noncomputable def b_is_no_worse_3 (CR CP : Addr) (n : Nat) : Env' → M Flo :=
  (c_is_no_worse_2 CR CP n)
noncomputable def b_is_no_worse_4 (CR CP : Addr) (n : Nat) : Env' → M Flo :=
  (sFor [] (fZipT (fVar 2) (fVar 3)) (.tp [4, 5]) (b_is_no_worse_3 CR CP n))
noncomputable def g_is_no_worse (CR CP : Addr) (n : Nat) : Env' → M Flo :=
  (sSeq (c_is_no_worse_1 CR CP n)
    (sSeq (sFor [] (fZipT (f2 ixD (fVar 0) (fC (.int 1))) (f2 ixD (fVar 1) (fC (.int 1)))) (.tp [2, 3]) (b_is_no_worse_4 CR CP n))
    (sRet (fC (.bl true)))))
noncomputable def m_is_no_worse (CR CP : Addr) (n : Nat) : List Dat → M Dat := runB 6 2 (g_is_no_worse CR CP n)
noncomputable def b__law_later_1 (CR CP : Addr) (n : Nat) : Env' → M Flo :=
  (sSeq (sSetB [3, 5] 2 (f2 modD (f2 mulD (fVar 2) (fC (.int 48271))) (fC (.int 2147483647))))
    (sSeq (sSetB [3, 5] 7 (f2 ixD (fL mkLst (fCons (fC (.int 0)) (fCons (fC (.int 0)) (fCons (f2 modD (f2 fdivD (fVar 2) (fC (.int 64))) (fC (.int 5))) (fCons (f2 modD (f2 fdivD (fVar 2) (fC (.int 64))) (fC (.int 5))) (fCons (fC (.int 1)) (fCons (f2 modD (f2 fdivD (fVar 2) (fC (.int 64))) (fC (.int 40))) (fCons (fC (.int 0)) (fCons (f1 negD (fC (.int 1))) fNil))))))))) (f2 modD (fVar 2) (fC (.int 8)))))
    (sAppB [3, 5] 5 (fL maxD (fCons (f1 negD (fC (.int 1))) (fCons (f2 addD (fVar 6) (fVar 7)) fNil))))))
noncomputable def b__law_later_2 (CR CP : Addr) (n : Nat) : Env' → M Flo :=
  (sSeq (sSetB [3] 5 (fL mkLst fNil))
    (sSeq (sFor [3, 5] (fIt (fVar 4)) (.nm 6) (b__law_later_1 CR CP n))
    (sAppB [3] 3 (fL tupleD (fCons (fVar 5) fNil)))))
noncomputable def g__law_later (CR CP : Addr) (n : Nat) : Env' → M Flo :=
  (sSeq (sSetB [] 2 (f2 modD (f2 mulD (fVar 1) (fC (.int 69621))) (fC (.int 2147483629))))
    (sSeq (sSetB [] 3 (fL mkLst fNil))
    (sSeq (sFor [3] (fIt (f2 ixD (fVar 0) (fC (.int 1)))) (.nm 4) (b__law_later_2 CR CP n))
    (sRet (fL mkTup (fCons (fL maxD (fCons (fC (.int 0)) (fCons (f2 addD (f2 ixD (fVar 0) (fC (.int 0))) (f2 ixD (fL mkLst (fCons (fC (.int 0)) (fCons (fC (.int 3)) (fCons (fC (.int 0)) (fCons (fC (.int 1)) (fCons (fC (.int 0)) (fCons (f1 negD (fC (.int 1))) fNil))))))) (f2 modD (fVar 1) (fC (.int 6))))) fNil))) (fCons (fL tupleD (fCons (fVar 3) fNil)) fNil)))))))
noncomputable def m__law_later (CR CP : Addr) (n : Nat) : List Dat → M Dat := runB 8 2 (g__law_later CR CP n)
noncomputable def g_Rules_many_strips (CR CP : Addr) (n : Nat) : Env' → M Flo :=
  (sRet (fC (.int 1)))
noncomputable def m_Rules_many_strips (CR CP : Addr) (n : Nat) : List Dat → M Dat := runB 1 1 (g_Rules_many_strips CR CP n)
noncomputable def g_Pair_many_strips (CR CP : Addr) (n : Nat) : Env' → M Flo :=
  (sRet (fC (.int 2)))
noncomputable def m_Pair_many_strips (CR CP : Addr) (n : Nat) : List Dat → M Dat := runB 1 1 (g_Pair_many_strips CR CP n)
noncomputable def c_joined_stretches_1 (CR CP : Addr) (n : Nat) : Env' → M Flo :=
  sIf (fAnd (fTru (fVar 1)) (fB (f2 leD (fVar 2) (f2 ixD (f2 ixD (fVar 1) (f1 negD (fC (.int 1)))) (fC (.int 1))))))
      (sSetI 1 (f1 negD (fC (.int 1))) (fL mkTup (fCons (f2 ixD (f2 ixD (fVar 1) (f1 negD (fC (.int 1)))) (fC (.int 0))) (fCons (fL maxD (fCons (fVar 3) (fCons (f2 ixD (f2 ixD (fVar 1) (f1 negD (fC (.int 1)))) (fC (.int 1))) fNil))) fNil))))
      (sAppB [1] 1 (fL mkTup (fCons (fVar 2) (fCons (fVar 3) fNil))))
noncomputable def b_joined_stretches_2 (CR CP : Addr) (n : Nat) : Env' → M Flo :=
  (c_joined_stretches_1 CR CP n)
noncomputable def g_joined_stretches (CR CP : Addr) (n : Nat) : Env' → M Flo :=
  (sSeq (sSetB [] 1 (fL mkLst fNil))
    (sSeq (sFor [1] (fIt (fL sortedD (fCons (fVar 0) fNil))) (.tp [2, 3]) (b_joined_stretches_2 CR CP n))
    (sRet (fVar 1))))
noncomputable def m_joined_stretches (CR CP : Addr) (n : Nat) : List Dat → M Dat := runB 4 1 (g_joined_stretches CR CP n)
noncomputable def c_next_open_1 (CR CP : Addr) (n : Nat) : Env' → M Flo :=
  sIf (fB (fChain leD ltD (fVar 2) (fVar 1) (fVar 3)))
      (sRet (fVar 3))
      sNext
noncomputable def b_next_open_2 (CR CP : Addr) (n : Nat) : Env' → M Flo :=
  (c_next_open_1 CR CP n)
noncomputable def g_next_open (CR CP : Addr) (n : Nat) : Env' → M Flo :=
  (sSeq (sFor [] (fIt (fL (m_joined_stretches CR CP n) (fCons (fVar 0) fNil))) (.tp [2, 3]) (b_next_open_2 CR CP n))
    (sRet (fVar 1)))
noncomputable def m_next_open (CR CP : Addr) (n : Nat) : List Dat → M Dat := runB 4 2 (g_next_open CR CP n)
noncomputable def g_lasts_with (CR CP : Addr) (n : Nat) : Env' → M Flo :=
  (sSeq (sRows 3 (fComp (fIt (fVar 0)) [none] (.nm 0) fYes (fL listD (fCons (fVar 0) fNil))) (fVar 2) (f2 ixD (fVar 1) (fC (.int 1))) (f2 ixD (fVar 1) (fC (.int 0))))
    (sRet (fL tupleD (fCons (fComp (fIt (fVar 3)) [none] (.nm 0) fYes (fL tupleD (fCons (fVar 0) fNil))) fNil))))
noncomputable def m_lasts_with (CR CP : Addr) (n : Nat) : List Dat → M Dat := runB 4 3 (g_lasts_with CR CP n)
noncomputable def g_late_cost (CR CP : Addr) (n : Nat) : Env' → M Flo :=
  (sSeq (sSetB [] 2 (f2 ixD (fVar 0) (fC (.int 3))))
    (sSeq (sSetB [] 3 (f2 ixD (fVar 0) (fC (.int 4))))
    (sRet (f2 mulD (fVar 3) (fL maxD (fCons (fC (.int 0)) (fCons (f2 subD (fVar 1) (fVar 2)) fNil)))))))
noncomputable def m_late_cost (CR CP : Addr) (n : Nat) : List Dat → M Dat := runB 4 2 (g_late_cost CR CP n)
noncomputable def g_Rules_apart (CR CP : Addr) (n : Nat) : Env' → M Flo :=
  (sRet (f2 ixD (f2 ixD (f1 (attrD [CR, CP] "gaps") (fVar 0)) (f2 ixD (fVar 1) (fC (.int 0)))) (f2 ixD (fVar 2) (fC (.int 0)))))
noncomputable def m_Rules_apart (CR CP : Addr) (n : Nat) : List Dat → M Dat := runB 3 3 (g_Rules_apart CR CP n)
noncomputable def g_Pair_apart (CR CP : Addr) (n : Nat) : Env' → M Flo :=
  (sSeq (sSetB [] 3 (fIte (fB (f2 eqM (f2 ixD (fVar 1) (fC (.int 1))) (f2 ixD (fVar 2) (fC (.int 1))))) (f1 (attrD [CR, CP] "gaps") (fVar 0)) (f1 (attrD [CP] "beside") (fVar 0))))
    (sRet (f2 ixD (f2 ixD (fVar 3) (f2 ixD (fVar 1) (fC (.int 0)))) (f2 ixD (fVar 2) (fC (.int 0))))))
noncomputable def m_Pair_apart (CR CP : Addr) (n : Nat) : List Dat → M Dat := runB 4 3 (g_Pair_apart CR CP n)
noncomputable def c_last_gap_times_1 (CR CP : Addr) (n : Nat) : Env' → M Flo :=
  sIf (fB (f2 neM (fVar 7) (f1 negD (fC (.int 1)))))
      (sAppB [3] 3 (f2 addD (fVar 7) (fMeth2 CR CP "apart" (m_Rules_apart CR CP n) (m_Pair_apart CR CP n) (fVar 0) (fCons (fL mkTup (fCons (fVar 6) (fCons (fVar 4) fNil))) (fCons (fVar 2) fNil)))))
      sNext
noncomputable def b_last_gap_times_2 (CR CP : Addr) (n : Nat) : Env' → M Flo :=
  (c_last_gap_times_1 CR CP n)
noncomputable def b_last_gap_times_3 (CR CP : Addr) (n : Nat) : Env' → M Flo :=
  (sFor [3] (fEnum2 (fVar 5)) (.tp [6, 7]) (b_last_gap_times_2 CR CP n))
noncomputable def g_last_gap_times (CR CP : Addr) (n : Nat) : Env' → M Flo :=
  (sSeq (sSetB [] 3 (fL mkLst fNil))
    (sSeq (sFor [3] (fEnum2 (fVar 1)) (.tp [4, 5]) (b_last_gap_times_3 CR CP n))
    (sRet (fVar 3))))
noncomputable def m_last_gap_times (CR CP : Addr) (n : Nat) : List Dat → M Dat := runB 8 3 (g_last_gap_times CR CP n)
noncomputable def c_label_behind_1 (CR CP : Addr) (n : Nat) : Env' → M Flo :=
  sIf (fB (f2 gtD (fVar 8) (f2 ixD (fVar 6) (fC (.int 2)))))
      (sRet (fC .non))
      sNext
noncomputable def g_label_behind (CR CP : Addr) (n : Nat) : Env' → M Flo :=
  (sSeq (sSetB [] 6 (f2 ixD (fVar 1) (fVar 4)))
    (sSeq (sSetB [] 7 (fL mkTup (fCons (f2 ixD (fVar 6) (fC (.int 0))) (fCons (fVar 5) fNil))))
    (sSeq (sSetB [] 8 (fL (m_next_open CR CP n) (fCons (fVar 2) (fCons (fL maxD (fCons (f2 addD (fL mkLst (fCons (f2 ixD (fVar 6) (fC (.int 1))) fNil)) (fL (m_last_gap_times CR CP n) (fCons (fVar 0) (fCons (f2 ixD (fVar 3) (fC (.int 1))) (fCons (fVar 7) fNil))))) fNil)) fNil))))
    (sSeq (c_label_behind_1 CR CP n)
    (sRet (fL mkTup (fCons (f2 addD (f2 ixD (fVar 3) (fC (.int 0))) (fL (m_late_cost CR CP n) (fCons (fVar 6) (fCons (fVar 8) fNil)))) (fCons (fL (m_lasts_with CR CP n) (fCons (f2 ixD (fVar 3) (fC (.int 1))) (fCons (fVar 7) (fCons (fVar 8) fNil)))) fNil))))))))
noncomputable def m_label_behind (CR CP : Addr) (n : Nat) : List Dat → M Dat := runB 9 6 (g_label_behind CR CP n)
noncomputable def c__law_no_worse_1 (CR CP : Addr) (n : Nat) : Env' → M Flo :=
  sIf (fB (f2 gtD (f2 ixD (fVar 0) (fC (.int 0))) (f2 ixD (fVar 1) (fC (.int 0)))))
      (sRet (fC (.bl false)))
      sNext
noncomputable def c__law_no_worse_2 (CR CP : Addr) (n : Nat) : Env' → M Flo :=
  sIf (fB (f2 neM (fComp (fRng rng1 (fCons (fL lenD (fCons (fVar 2) fNil)) fNil)) [none, some 2, some 3] (.nm 0) (fB (f2 gtD (f2 ixD (fVar 1) (fVar 0)) (f2 ixD (fVar 2) (fVar 0)))) (fVar 0)) (fL mkLst fNil)))
      (sRet (fC (.bl false)))
      sNext
noncomputable def b__law_no_worse_3 (CR CP : Addr) (n : Nat) : Env' → M Flo :=
  (c__law_no_worse_2 CR CP n)
noncomputable def g__law_no_worse (CR CP : Addr) (n : Nat) : Env' → M Flo :=
  (sSeq (c__law_no_worse_1 CR CP n)
    (sSeq (sFor [] (fZipT (f2 ixD (fVar 0) (fC (.int 1))) (f2 ixD (fVar 1) (fC (.int 1)))) (.tp [2, 3]) (b__law_no_worse_3 CR CP n))
    (sRet (fC (.bl true)))))
noncomputable def m__law_no_worse (CR CP : Addr) (n : Nat) : List Dat → M Dat := runB 4 2 (g__law_no_worse CR CP n)
noncomputable def c__law_behind_too_1 (CR CP : Addr) (n : Nat) : Env' → M Flo :=
  sIf (fAnd (fB (f2 notND (fVar 7) (fC .non))) (fOr (fB (f2 isND (fVar 8) (fC .non))) (fNot (fTru (fL (m__law_no_worse CR CP n) (fCons (fVar 8) (fCons (fVar 7) fNil)))))))
      (sRet (fC (.bl false)))
      sNext
noncomputable def b__law_behind_too_2 (CR CP : Addr) (n : Nat) : Env' → M Flo :=
  (sSeq (sSetB [] 7 (fL (m_label_behind CR CP n) (fCons (fVar 0) (fCons (fVar 1) (fCons (fVar 2) (fCons (fVar 4) (fCons (fVar 5) (fCons (fVar 6) fNil))))))))
    (sSeq (sSetB [] 8 (fL (m_label_behind CR CP n) (fCons (fVar 0) (fCons (fVar 1) (fCons (fVar 2) (fCons (fVar 3) (fCons (fVar 5) (fCons (fVar 6) fNil))))))))
    (c__law_behind_too_1 CR CP n)))
noncomputable def b__law_behind_too_3 (CR CP : Addr) (n : Nat) : Env' → M Flo :=
  (sFor [] (fRng rng1 (fCons (fMeth2 CR CP "many_strips" (m_Rules_many_strips CR CP n) (m_Pair_many_strips CR CP n) (fVar 0) fNil) fNil)) (.nm 6) (b__law_behind_too_2 CR CP n))
noncomputable def g__law_behind_too (CR CP : Addr) (n : Nat) : Env' → M Flo :=
  (sSeq (sFor [] (fRng rng1 (fCons (fL lenD (fCons (fVar 1) fNil)) fNil)) (.nm 5) (b__law_behind_too_3 CR CP n))
    (sRet (fC (.bl true))))
noncomputable def m__law_behind_too (CR CP : Addr) (n : Nat) : List Dat → M Dat := runB 9 5 (g__law_behind_too CR CP n)
noncomputable def b_law_1 (CR CP : Addr) (n : Nat) : Env' → M Flo :=
  (sAppA 5 (fL (m__law_later CR CP n) (fCons (f2 ixD (fVar 5) (f1 negD (fC (.int 1)))) (fCons (fL (m__law_cell CR CP n) (fCons (fVar 0) (fCons (f2 addD (fC (.int 40)) (fVar 6)) fNil))) fNil))))
noncomputable def c_law_2 (CR CP : Addr) (n : Nat) : Env' → M Flo :=
  sIf (fOr (fNot (fTru (f1 isi_boolD (fVar 9)))) (fB (f2 neM (fVar 9) (fL (m__law_no_worse CR CP n) (fCons (fVar 7) (fCons (fVar 8) fNil))))))
      (sRet (fC (.bl false)))
      sNext
noncomputable def c_law_3 (CR CP : Addr) (n : Nat) : Env' → M Flo :=
  sIf (fNot (fTru (fVar 9)))
      sCont
      sNext
noncomputable def c_law_4 (CR CP : Addr) (n : Nat) : Env' → M Flo :=
  sIf (fNot (fTru (fL (m__law_behind_too CR CP n) (fCons (fVar 2) (fCons (fVar 4) (fCons (fVar 3) (fCons (fVar 7) (fCons (fVar 8) fNil))))))))
      (sRet (fC (.bl false)))
      sNext
noncomputable def c_law_5 (CR CP : Addr) (n : Nat) : Env' → M Flo :=
  sIf (fAnd (fTru (fL (m_is_no_worse CR CP n) (fCons (fVar 8) (fCons (fVar 10) fNil)))) (fNot (fTru (fL (m_is_no_worse CR CP n) (fCons (fVar 7) (fCons (fVar 10) fNil))))))
      (sRet (fC (.bl false)))
      sNext
noncomputable def b_law_6 (CR CP : Addr) (n : Nat) : Env' → M Flo :=
  (c_law_5 CR CP n)
noncomputable def b_law_7 (CR CP : Addr) (n : Nat) : Env' → M Flo :=
  (sSeq (sSetB [] 9 (fL (m_is_no_worse CR CP n) (fCons (fVar 7) (fCons (fVar 8) fNil))))
    (sSeq (c_law_2 CR CP n)
    (sSeq (c_law_3 CR CP n)
    (sSeq (c_law_4 CR CP n)
    (sFor [] (fIt (fVar 5)) (.nm 10) (b_law_6 CR CP n))))))
noncomputable def b_law_8 (CR CP : Addr) (n : Nat) : Env' → M Flo :=
  (sFor [] (fIt (fVar 5)) (.nm 8) (b_law_7 CR CP n))
noncomputable def g_law (CR CP : Addr) (n : Nat) : Env' → M Flo :=
  (sSeq (sSetB [] 1 (fL (m__law_gaps CR CP n) (fCons (fVar 0) fNil)))
    (sSeq (sSetB [] 2 (fL (m__law_rules CR CP n) (fCons (fVar 1) fNil)))
    (sSeq (sSetB [] 3 (fL (m__law_closed CR CP n) (fCons (fVar 0) fNil)))
    (sSeq (sSetB [] 4 (fL (m__law_flights CR CP n) (fCons (fVar 0) (fCons (fC (.int 21)) (fCons (fL lenD (fCons (f2 ixD (fVar 1) (fC (.int 0))) fNil)) (fCons (fC (.int 4)) fNil))))))
    (sSeq (sSetB [] 5 (fL mkLst (fCons (fL (m__law_label CR CP n) (fCons (fVar 0) (fCons (fC (.int 33)) (fCons (fVar 1) fNil)))) fNil)))
    (sSeq (sFor [5] (fRng rng1 (fCons (fC (.int 2)) fNil)) (.nm 6) (b_law_1 CR CP n))
    (sSeq (sFor [] (fIt (fVar 5)) (.nm 7) (b_law_8 CR CP n))
    (sRet (f2 isBD (fL (m_is_no_worse CR CP n) (fCons (f2 ixD (fVar 5) (fC (.int 0))) (fCons (f2 ixD (fVar 5) (fC (.int 0))) fNil))) (fC (.bl true)))))))))))
noncomputable def m_law (CR CP : Addr) (n : Nat) : List Dat → M Dat := runB 11 1 (g_law CR CP n)
noncomputable def top (i : Nat) : Stmt := PySem.Challenge.pw_wakeorder_k52_no_worse_labels.main.body.getD i (.Pass ⟨0, 0, 0, 0⟩)
noncomputable abbrev s__law_cell : Stmt := top 24
noncomputable abbrev s__law_gap_rows : Stmt := top 25
noncomputable abbrev s__law_gaps : Stmt := top 26
noncomputable abbrev s_copied_rows : Stmt := top 19
noncomputable abbrev s_is_gap : Stmt := top 17
noncomputable abbrev s_is_gap_row : Stmt := top 18
noncomputable abbrev s_checked_rows : Stmt := top 20
noncomputable abbrev s__law_rules : Stmt := top 27
noncomputable abbrev s__law_closed : Stmt := top 29
noncomputable abbrev s__law_flights : Stmt := top 28
noncomputable abbrev s__law_label : Stmt := top 31
noncomputable abbrev s_is_no_worse : Stmt := top 10
noncomputable abbrev s__law_later : Stmt := top 32
noncomputable abbrev s_Rules_many_strips : Stmt := inClass (top 21) 2
noncomputable abbrev s_Pair_many_strips : Stmt := inClass (top 22) 1
noncomputable abbrev s_joined_stretches : Stmt := top 4
noncomputable abbrev s_next_open : Stmt := top 5
noncomputable abbrev s_lasts_with : Stmt := top 8
noncomputable abbrev s_late_cost : Stmt := top 2
noncomputable abbrev s_Rules_apart : Stmt := inClass (top 21) 3
noncomputable abbrev s_Pair_apart : Stmt := inClass (top 22) 2
noncomputable abbrev s_last_gap_times : Stmt := top 7
noncomputable abbrev s_label_behind : Stmt := top 9
noncomputable abbrev s__law_no_worse : Stmt := top 30
noncomputable abbrev s__law_behind_too : Stmt := top 33
noncomputable abbrev s_law : Stmt := top 34
noncomputable abbrev s_nR : Stmt := inClass (top 21) 0
noncomputable abbrev s_nP : Stmt := inClass (top 22) 0
structure Zs (K : PySem.W.Frag) (mg : Str → Option Value) (CR CP : Addr) : Prop where
  kR : Kls K mg "Rules" CR
  kP : Kls K mg "Pair" CP
  fld_gaps : ∀ C ∈ [CR, CP], Cls K C ∧ NoAttr K C "gaps"
  fld_beside : ∀ C ∈ [CP], Cls K C ∧ NoAttr K C "beside"
  z_all : mg "all" = none
  z_bool : mg "bool" = none
  z_enumerate : mg "enumerate" = none
  z_int : mg "int" = none
  z_isinstance : mg "isinstance" = none
  z_len : mg "len" = none
  z_list : mg "list" = none
  z_max : mg "max" = none
  z_range : mg "range" = none
  z_sorted : mg "sorted" = none
  z_tuple : mg "tuple" = none
  z_zip : mg "zip" = none
  g_GREATEST_GAP : ∃ t, mg "GREATEST_GAP" = some (.int 1000000 t)
  g_MOST_KINDS : ∃ t, mg "MOST_KINDS" = some (.int 6 t)
  kit : Kit K
theorem sc__law_cell : FnScope ["_law_script", "_law_k"] ["_law_script", "_law_k"] (defScope s__law_cell) := ⟨rfl, rfl, rfl, by decide +kernel, rfl, by decide +kernel, by decide +kernel⟩
theorem ok__law_cell {n : Nat} {P : Program} {w : World} {K : PySem.W.Frag} {mg : Str → Option Value} {base : Heap} {CR CP : Addr} (Z : Zs K mg CR CP) {f__law_cell : Addr} {fd__law_cell : FuncData} (D__law_cell : Def K mg "_law_cell" s__law_cell ["_law_script", "_law_k"] f__law_cell fd__law_cell) : FnOk P w K mg base CX0 1 f__law_cell fd__law_cell ["_law_script", "_law_k"] (spF K false (m__law_cell CR CP n) 2) :=
  fn_D (O' := []) D__law_cell.fn sc__law_cell false (g__law_cell CR CP n) fun cdv A outer s H E hr =>
    (ds_cons (ds_if (dt_cmp o_lt (de_v 1) (de_callB c_len Z.z_len PySem.boot_len (da_cons (de_v 0) da_nil)))
      (ds_one (ds_ret (de_ix x_ix (de_v 0) (de_v 1))))
      ds_nil)
    (ds_cons (ds_if (dt_cmp (o_eq hr.units) (de_v 0) (de_frz (de_lst da_nil)))
      (ds_one (ds_ret de_int))
      ds_nil)
    (ds_one (ds_ret (de_frz (de_op o_add (de_op o_mul (de_ix x_ix (de_v 0) (de_op o_mod (de_v 1) (de_callB c_len Z.z_len PySem.boot_len (da_cons (de_v 0) da_nil)))) de_int) (de_op o_mul (de_op o_mul (de_v 1) (de_v 1)) de_int)))))))
theorem sc__law_gap_rows : FnScope ["_law_script", "_law_start", "_law_kinds", "_law_rows", "_law_k", "_law_row", "_law_j", "_law_cell_here"] ["_law_script", "_law_start", "_law_kinds"] (defScope s__law_gap_rows) := ⟨rfl, rfl, rfl, by decide +kernel, rfl, by decide +kernel, by decide +kernel⟩
theorem ok__law_gap_rows {n : Nat} {P : Program} {w : World} {K : PySem.W.Frag} {mg : Str → Option Value} {base : Heap} {CR CP : Addr} (Z : Zs K mg CR CP) {f__law_cell : Addr} {fd__law_cell : FuncData} (D__law_cell : Def K mg "_law_cell" s__law_cell ["_law_script", "_law_k"] f__law_cell fd__law_cell) (OK__law_cell : FnOk P w K mg base CX0 1 f__law_cell fd__law_cell ["_law_script", "_law_k"] (spF K false (m__law_cell CR CP n) 2)) {f__law_gap_rows : Addr} {fd__law_gap_rows : FuncData} (D__law_gap_rows : Def K mg "_law_gap_rows" s__law_gap_rows ["_law_script", "_law_start", "_law_kinds"] f__law_gap_rows fd__law_gap_rows) : FnOk P w K mg base CX0 2 f__law_gap_rows fd__law_gap_rows ["_law_script", "_law_start", "_law_kinds"] (spF K false (m__law_gap_rows CR CP n) 3) :=
  fn_D (O' := []) D__law_gap_rows.fn sc__law_gap_rows false (g__law_gap_rows CR CP n) fun cdv A outer s H E hr =>
    (ds_cons (ds_setB (i := 3) (own := true) sc__law_gap_rows.nd (de_lst da_nil))
    (ds_cons (ds_for (pt := .nm 4) (di_rng1 Z.z_range (da_cons (de_v 2) da_nil)) (dg_nm sc__law_gap_rows.nd)
      (ds_cons (ds_setB (i := 5) (own := true) sc__law_gap_rows.nd (de_lst da_nil))
    (ds_enter (O2 := [3, 5]) (ds_cons (ds_for (pt := .nm 6) (di_rng1 Z.z_range (da_cons (de_v 2) da_nil)) (dg_nm sc__law_gap_rows.nd)
      (ds_cons (ds_setB (i := 7) (own := false) sc__law_gap_rows.nd (de_call OK__law_cell hr D__law_cell.mg D__law_cell.fn.kp D__law_cell.bd (da_cons (de_v 0) (da_cons (de_frz (de_op o_add (de_frz (de_op o_add (de_v 1) (de_op o_mul (de_v 2) (de_v 4)))) (de_v 6))) da_nil))))
    (ds_one (ds_appB (i := 5) (de_ix x_ix (de_frz (de_lst (da_cons de_int (da_cons (de_op o_mod (de_op o_fdiv (de_v 7) de_int) de_int) (da_cons (de_op o_mod (de_op o_fdiv (de_v 7) de_int) de_int) (da_cons (de_op o_mod (de_op o_fdiv (de_v 7) de_int) (de_ix x_ix (de_frz (de_lst (da_cons de_int (da_cons (de_frz (de_op o_add (de_op o_pow de_int de_int) de_int)) da_nil)))) (de_op o_mod (de_op o_fdiv (de_v 7) de_int) de_int))) da_nil)))))) (de_op o_mod (de_v 7) de_int))))))
    (ds_enter (O2 := [3]) (ds_one (ds_appB (i := 3) (de_v 5))))))))
    (ds_enter (O2 := []) (ds_one (ds_ret (de_v 3))))))
theorem sc__law_gaps : FnScope ["_law_script", "_law_kinds", "_law_gaps_here"] ["_law_script"] (defScope s__law_gaps) := ⟨rfl, rfl, rfl, by decide +kernel, rfl, by decide +kernel, by decide +kernel⟩
theorem ok__law_gaps {n : Nat} {P : Program} {w : World} {K : PySem.W.Frag} {mg : Str → Option Value} {base : Heap} {CR CP : Addr} (Z : Zs K mg CR CP) {f__law_gap_rows : Addr} {fd__law_gap_rows : FuncData} (D__law_gap_rows : Def K mg "_law_gap_rows" s__law_gap_rows ["_law_script", "_law_start", "_law_kinds"] f__law_gap_rows fd__law_gap_rows) (OK__law_gap_rows : FnOk P w K mg base CX0 2 f__law_gap_rows fd__law_gap_rows ["_law_script", "_law_start", "_law_kinds"] (spF K false (m__law_gap_rows CR CP n) 3)) {f__law_cell : Addr} {fd__law_cell : FuncData} (D__law_cell : Def K mg "_law_cell" s__law_cell ["_law_script", "_law_k"] f__law_cell fd__law_cell) (OK__law_cell : FnOk P w K mg base CX0 1 f__law_cell fd__law_cell ["_law_script", "_law_k"] (spF K false (m__law_cell CR CP n) 2)) {f__law_gaps : Addr} {fd__law_gaps : FuncData} (D__law_gaps : Def K mg "_law_gaps" s__law_gaps ["_law_script"] f__law_gaps fd__law_gaps) : FnOk P w K mg base CX0 3 f__law_gaps fd__law_gaps ["_law_script"] (spF K false (m__law_gaps CR CP n) 1) :=
  fn_D (O' := []) D__law_gaps.fn sc__law_gaps false (g__law_gaps CR CP n) fun cdv A outer s H E hr =>
    (ds_cons (ds_setB (i := 1) (own := false) sc__law_gaps.nd (de_frz (de_op o_add de_int (de_op o_mod (de_call OK__law_cell (hr.mono (by decide)) D__law_cell.mg D__law_cell.fn.kp D__law_cell.bd (da_cons (de_v 0) (da_cons de_int da_nil))) de_int))))
    (ds_cons (ds_setB (i := 2) (own := false) sc__law_gaps.nd (de_call OK__law_gap_rows hr D__law_gap_rows.mg D__law_gap_rows.fn.kp D__law_gap_rows.bd (da_cons (de_v 0) (da_cons de_int (da_cons (de_v 1) da_nil)))))
    (ds_cons (ds_if (dt_cmp (o_eq hr.units) (de_op o_mod (de_op o_fdiv (de_call OK__law_cell (hr.mono (by decide)) D__law_cell.mg D__law_cell.fn.kp D__law_cell.bd (da_cons (de_v 0) (da_cons de_int da_nil))) de_int) de_int) de_int)
      (ds_one (ds_ret (de_frz (de_lst (da_cons (de_v 2) (da_cons (de_call OK__law_gap_rows hr D__law_gap_rows.mg D__law_gap_rows.fn.kp D__law_gap_rows.bd (da_cons (de_v 0) (da_cons (de_frz (de_op o_add de_int (de_op o_mul (de_v 1) (de_v 1)))) (da_cons (de_v 1) da_nil)))) da_nil))))))
      ds_nil)
    (ds_one (ds_ret (de_frz (de_lst (da_cons (de_v 2) da_nil))))))))
theorem sc_copied_rows : FnScope ["rows"] ["rows"] (defScope s_copied_rows) := ⟨rfl, rfl, rfl, by decide +kernel, rfl, by decide +kernel, by decide +kernel⟩
theorem ok_copied_rows {n : Nat} {P : Program} {w : World} {K : PySem.W.Frag} {mg : Str → Option Value} {base : Heap} {CR CP : Addr} (Z : Zs K mg CR CP) {f_copied_rows : Addr} {fd_copied_rows : FuncData} (D_copied_rows : Def K mg "copied_rows" s_copied_rows ["rows"] f_copied_rows fd_copied_rows) : FnOk P w K mg base CX0 1 f_copied_rows fd_copied_rows ["rows"] (spF K false (m_copied_rows CR CP n) 1) :=
  fn_D (O' := []) D_copied_rows.fn sc_copied_rows false (g_copied_rows CR CP n) fun cdv A outer s H E hr =>
    (ds_one (ds_ret (de_frz (de_comp ["row"] [none] (di_seq (de_v 0)) (fun _ _ _ _ _ => dgc_nm (by decide +kernel)) (leaves_name rfl) (fun _ _ _ _ _ => dts_nil) (fun _ _ _ _ _ => (de_frz (de_callTy c_list Z.z_list PyProof.Rows.boot_list (da_cons (de_v 0) da_nil))))))))
theorem sc_is_gap : FnScope ["number"] ["number"] (defScope s_is_gap) := ⟨rfl, rfl, rfl, by decide +kernel, rfl, by decide +kernel, by decide +kernel⟩
theorem ok_is_gap {n : Nat} {P : Program} {w : World} {K : PySem.W.Frag} {mg : Str → Option Value} {base : Heap} {CR CP : Addr} (Z : Zs K mg CR CP) {f_is_gap : Addr} {fd_is_gap : FuncData} (D_is_gap : Def K mg "is_gap" s_is_gap ["number"] f_is_gap fd_is_gap) : FnOk P w K mg base CX0 1 f_is_gap fd_is_gap ["number"] (spF K false (m_is_gap CR CP n) 1) :=
  fn_D (O' := []) D_is_gap.fn sc_is_gap false (g_is_gap CR CP n) fun cdv A outer s H E hr =>
    (ds_cons (ds_if (PW.pt (dw_or (dt_not (dt_tru (de_isi_int Z.kit Z.z_isinstance Z.z_int (de_v 0)))) (dw_or1 (dt_tru (de_isi_bool Z.kit Z.z_isinstance Z.z_bool (de_v 0))))))
      (ds_one (ds_ret de_bl))
      ds_nil)
    (ds_one (ds_ret (de_chain o_le o_le de_int (de_v 0) (de_gint Z.g_GREATEST_GAP)))))
theorem sc_is_gap_row : FnScope ["row", "kinds"] ["row", "kinds"] (defScope s_is_gap_row) := ⟨rfl, rfl, rfl, by decide +kernel, rfl, by decide +kernel, by decide +kernel⟩
theorem ok_is_gap_row {n : Nat} {P : Program} {w : World} {K : PySem.W.Frag} {mg : Str → Option Value} {base : Heap} {CR CP : Addr} (Z : Zs K mg CR CP) {f_is_gap : Addr} {fd_is_gap : FuncData} (D_is_gap : Def K mg "is_gap" s_is_gap ["number"] f_is_gap fd_is_gap) (OK_is_gap : FnOk P w K mg base CX0 1 f_is_gap fd_is_gap ["number"] (spF K false (m_is_gap CR CP n) 1)) {f_is_gap_row : Addr} {fd_is_gap_row : FuncData} (D_is_gap_row : Def K mg "is_gap_row" s_is_gap_row ["row", "kinds"] f_is_gap_row fd_is_gap_row) : FnOk P w K mg base CX0 2 f_is_gap_row fd_is_gap_row ["row", "kinds"] (spF K false (m_is_gap_row CR CP n) 2) :=
  fn_D (O' := []) D_is_gap_row.fn sc_is_gap_row false (g_is_gap_row CR CP n) fun cdv A outer s H E hr =>
    (ds_one (ds_ret (de_and (de_isi_list Z.kit Z.z_isinstance Z.z_list (de_v 0)) (de_and (de_cmp (o_eq hr.units) (de_callB c_len Z.z_len PySem.boot_len (da_cons (de_v 0) da_nil)) (de_v 1)) (de_one (de_callB (c_all rfl) Z.z_all boot_all (da_cons (de_frz (de_comp ["number"] [none] (di_seq (de_v 0)) (fun _ _ _ _ _ => dgc_nm (by decide +kernel)) (leaves_name rfl) (fun _ _ _ _ _ => dts_nil) (fun _ _ _ _ _ => (de_call OK_is_gap hr D_is_gap.mg D_is_gap.fn.kp D_is_gap.bd (da_cons (de_v 0) da_nil))))) da_nil)))))))
theorem sc_checked_rows : FnScope ["rows", "kinds"] ["rows"] (defScope s_checked_rows) := ⟨rfl, rfl, rfl, by decide +kernel, rfl, by decide +kernel, by decide +kernel⟩
theorem ok_checked_rows {n : Nat} {P : Program} {w : World} {K : PySem.W.Frag} {mg : Str → Option Value} {base : Heap} {CR CP : Addr} (Z : Zs K mg CR CP) {f_copied_rows : Addr} {fd_copied_rows : FuncData} (D_copied_rows : Def K mg "copied_rows" s_copied_rows ["rows"] f_copied_rows fd_copied_rows) (OK_copied_rows : FnOk P w K mg base CX0 1 f_copied_rows fd_copied_rows ["rows"] (spF K false (m_copied_rows CR CP n) 1)) {f_is_gap_row : Addr} {fd_is_gap_row : FuncData} (D_is_gap_row : Def K mg "is_gap_row" s_is_gap_row ["row", "kinds"] f_is_gap_row fd_is_gap_row) (OK_is_gap_row : FnOk P w K mg base CX0 2 f_is_gap_row fd_is_gap_row ["row", "kinds"] (spF K false (m_is_gap_row CR CP n) 2)) {f_checked_rows : Addr} {fd_checked_rows : FuncData} (D_checked_rows : Def K mg "checked_rows" s_checked_rows ["rows"] f_checked_rows fd_checked_rows) : FnOk P w K mg base CX0 3 f_checked_rows fd_checked_rows ["rows"] (spF K false (m_checked_rows CR CP n) 1) :=
  fn_D (O' := []) D_checked_rows.fn sc_checked_rows false (g_checked_rows CR CP n) fun cdv A outer s H E hr =>
    (ds_cons (ds_setB (i := 1) (own := false) sc_checked_rows.nd (de_callB c_len Z.z_len PySem.boot_len (da_cons (de_v 0) da_nil)))
    (ds_cons (ds_if (dt_not (dt_chain o_le o_le de_int (de_v 1) (de_gint Z.g_MOST_KINDS)))
      (ds_one ds_stk)
      ds_nil)
    (ds_cons (ds_if (dt_not (dt_tru (de_callB (c_all rfl) Z.z_all boot_all (da_cons (de_frz (de_comp ["row", "kinds"] [none, some 1] (di_seq (de_v 0)) (fun _ _ _ _ _ => dgc_nm (by decide +kernel)) (leaves_name rfl) (fun _ _ _ _ _ => dts_nil) (fun _ _ _ _ _ => (de_call OK_is_gap_row hr D_is_gap_row.mg D_is_gap_row.fn.kp D_is_gap_row.bd (da_cons (de_v 0) (da_cons (de_v 1) da_nil)))))) da_nil))))
      (ds_one ds_stk)
      ds_nil)
    (ds_one (ds_ret (de_call OK_copied_rows (hr.mono (by decide)) D_copied_rows.mg D_copied_rows.fn.kp D_copied_rows.bd (da_cons (de_v 0) da_nil)))))))
theorem sc_nR : FnScope ["self", "gaps"] ["self", "gaps"] (defScope s_nR) := ⟨rfl, rfl, rfl, by decide +kernel, rfl, by decide +kernel, by decide +kernel⟩
theorem okn_R {n : Nat} {P : Program} {w : World} {K : PySem.W.Frag} {mg : Str → Option Value} {base : Heap} {CR CP : Addr} {C f_checked_rows f : Addr} {fd_checked_rows fd : FuncData} (D_checked_rows : Def K mg "checked_rows" s_checked_rows ["rows"] f_checked_rows fd_checked_rows) (OK : FnOk P w K mg base CX0 3 f_checked_rows fd_checked_rows ["rows"] (spF K false (m_checked_rows CR CP n) 1))
    (N : Fun K "__init__" "Rules.__init__" s_nR f fd) (cl : Cls K C) (na : NoAttr K C "gaps") : FnOk P w K mg base CX0 4 f fd ["self", "gaps"] (spI1 K C (m_checked_rows CR CP n)) := by
  refine N.okX sc_nR (fun vs H Q E h => ?_) (fun cdv A outer s H vs Q E hr h => ?_)
  · obtain ⟨p, dx, v, F, d, rfl, _⟩ := h
    rfl
  · obtain ⟨p, dx, v, F, d, rfl, hp, hF, s1, qd, q⟩ := h
    refine ⟨_, pss_one (ps_fld (pv 0) (pe_call OK hr (by rfl) D_checked_rows.mg D_checked_rows.fn.kp D_checked_rows.bd .nil pass0 (pa_cons (pv 1) pa_nil)) rfl), ?_⟩
    refine ⟨v, rfl, F, [d], s1, ⟨v, [], rfl, qd, rfl⟩, rfl, ?_⟩
    skip
    cases hg : m_checked_rows CR CP n [d] with
    | error e => rw [hg] at q; exact q
    | ok r =>
      rw [hg] at q
      intro u F' H' st qw
      have hF1 : F' p = none := by
        cases hz : F' p with
        | none => rfl
        | some o =>
          rcases st.nw p o hz with z | z
          · rw [hF] at z; cases z
          · rw [hp] at z; cases z
      refine ⟨_, rfl, p, C, dx, [], rfl, st.hh _ _ hp, cl, na, (by show 0 < 1000; decide), ?_⟩
      refine q u F' _ st.ff (fun c o e => ?_) hF1 st.nw (fun c o e hc => by rw [upd_ne hc]; exact st.hh _ _ e) upd_same qw
      have hc : c ≠ p := fun z => by rw [z, hF1] at e; cases e
      rw [upd_ne hc]
      exact st.fh _ _ e
theorem putGB (a b : V) : putF ("beside" : Str) b [(("gaps" : Str), a)] = [(("gaps" : Str), a), (("beside" : Str), b)] := by
  show (if ("gaps" : Str) = "beside" then _ else (("gaps" : Str), a) :: putF "beside" b []) = _
  rw [if_neg (by decide +kernel)]
  rfl
theorem sc_nP : FnScope ["self", "gaps", "beside"] ["self", "gaps", "beside"] (defScope s_nP) := ⟨rfl, rfl, rfl, by decide +kernel, rfl, by decide +kernel, by decide +kernel⟩
theorem okn_P {n : Nat} {P : Program} {w : World} {K : PySem.W.Frag} {mg : Str → Option Value} {base : Heap} {CR CP : Addr} {f_checked_rows f fR : Addr} {fd_checked_rows fd fdR : FuncData} {mc : Value} (D_checked_rows : Def K mg "checked_rows" s_checked_rows ["rows"] f_checked_rows fd_checked_rows) (OK : FnOk P w K mg base CX0 3 f_checked_rows fd_checked_rows ["rows"] (spF K false (m_checked_rows CR CP n) 1))
    (S : Stat K CR mc "__init__" fR) (bI : Binds K fdR ["self", "gaps"] []) (FI : FnOk P w K mg base CX0 4 fR fdR ["self", "gaps"] (spI1 K CP (m_checked_rows CR CP n))) (mR : mg "Rules" = some (.ref CR)) (zl : mg "len" = none)
    (N : Fun K "__init__" "Pair.__init__" s_nP f fd) (cl : Cls K CP) (na : NoAttr K CP "gaps") (nb : NoAttr K CP "beside") : FnOk P w K mg base CX0 5 f fd ["self", "gaps", "beside"] (spI2 K CP (m_checked_rows CR CP n)) := by
  refine N.okX sc_nP (fun vs H Q E h => ?_) (fun cdv A outer s H vs Q E hr h => ?_)
  · obtain ⟨p, dx, v, v2, F, d, d2, rfl, _⟩ := h
    rfl
  · obtain ⟨p, dx, v, v2, F, d, d2, rfl, hp, hF, s1, qd, qd2, q⟩ := h
    refine ⟨_, pss_cons (ps_expr (pe_cmeth S (by rfl) mR FI hr bI .nil pass0 (pa_cons (pv 0) (pa_cons (pv 1) pa_nil))))
      (pss_cons (ps_fld (pv 0) (pe_call OK (hr.mono (by decide)) (by rfl) D_checked_rows.mg D_checked_rows.fn.kp D_checked_rows.bd .nil pass0 (pa_cons (pv 2) pa_nil)) rfl)
      (pss_one (ps_if (pt_cmpR op_ne (pe_callB call_len_seq (by rfl) zl PySem.boot_len (pa_cons (pe_fld (pv 0) rfl) pa_nil)) (pe_callB call_len_seq (by rfl) zl PySem.boot_len (pa_cons (pe_fld (pv 0) rfl) pa_nil)) (nomark _)) pss_never pss_nil))), ?_⟩
    refine ⟨_, rfl, _, rfl, p, dx, v, F, d, rfl, hp, hF, s1, qd, ?_⟩
    cases hg : m_checked_rows CR CP n [d] with
    | error e => rw [hg] at q; exact q
    | ok r =>
      rw [hg, bind_ok] at q
      intro u F1 H1 a1 a2 a3 a4 a5 a6 a7
      refine ⟨v2, rfl, F1, [d2], a2, ⟨v2, [], rfl, Deep.mono a1 qd2, rfl⟩, rfl, ?_⟩
      skip
      cases hg2 : m_checked_rows CR CP n [d2] with
      | error e => rw [hg2] at q; exact False.elim q
      | ok r2 =>
        rw [hg2, bind_ok] at q
        intro u2 F2 H2 st qw
        by_cases ht : twoL r r2 = true
        · rw [if_pos ht] at q
          have hF2 : F2 p = none := by
            cases hz : F2 p with
            | none => rfl
            | some o => rcases st.nw p o hz with z | z
                        · rw [a3] at z; cases z
                        · rw [a6] at z; cases z
          refine ⟨_, rfl, p, CP, dx, _, rfl, st.hh _ _ a6, cl, nb, (by show 1 < 1000; decide), ?_⟩
          rw [putGB]
          have s3 : Same F2 (upd H2 p (.ins CP dx [("gaps", u), ("beside", u2)])) := fun c o e => by
            have hc : c ≠ p := fun z => by rw [z, hF2] at e; cases e
            rw [upd_ne hc]
            exact st.fh _ _ e
          cases r with
          | lst xs =>
            cases r2 with
            | lst ys =>
              have hl : xs.length = ys.length := of_decide_eq_true ht
              obtain ⟨g1, xs1, e1, t1, z1⟩ := Deep.mono st.ff a7
              obtain ⟨g2, xs2, e2, t2, z2⟩ := id qw
              refine ⟨_, rfl, p, CP, dx, _, _, rfl, upd_same, cl, nb, rfl, g2, _, by rw [e2], .inl (s3.lst t2), _, rfl, p, CP, dx, _, _, rfl, upd_same, cl, na, rfl, g1, _, by rw [e1], .inl (s3.lst t1), rfl, _, rfl, ?_⟩
              refine iteNS (by rw [z1.length, z2.length, hl]) ?_
              refine q u u2 F2 _ (a1.trans st.ff) s3 hF2 (fun b o e => ?_) (fun c o e hc => by rw [upd_ne hc]; exact st.hh _ _ (a5 c o e hc)) upd_same (Deep.mono st.ff a7) qw
              rcases st.nw b o e with z | z
              · exact a4 b o z
              · refine .inr ?_
                cases hz : H b with
                | none => rfl
                | some o' =>
                  by_cases hb : b = p
                  · subst hb; rw [hF2] at e; cases e
                  · rw [a5 b o' hz hb] at z; cases z
            | _ => cases ht
          | _ => cases ht
        · rw [if_neg ht] at q; exact False.elim q
theorem sc__law_rules : FnScope ["_law_gaps_here"] ["_law_gaps_here"] (defScope s__law_rules) := ⟨rfl, rfl, rfl, by decide +kernel, rfl, by decide +kernel, by decide +kernel⟩
theorem ok__law_rules {n : Nat} {P : Program} {w : World} {K : PySem.W.Frag} {mg : Str → Option Value} {base : Heap} {CR CP : Addr} (Z : Zs K mg CR CP) {f_nR : Addr} {fd_nR : FuncData} (N_R : Mth K CR "__init__" "Rules.__init__" s_nR ["self", "gaps"] f_nR fd_nR) (OKN_R : FnOk P w K mg base CX0 4 f_nR fd_nR ["self", "gaps"] (spI1 K CR (m_checked_rows CR CP n))) {f_nP : Addr} {fd_nP : FuncData} (N_P : Mth K CP "__init__" "Pair.__init__" s_nP ["self", "gaps", "beside"] f_nP fd_nP) (OKN_P : FnOk P w K mg base CX0 5 f_nP fd_nP ["self", "gaps", "beside"] (spI2 K CP (m_checked_rows CR CP n))) {f__law_rules : Addr} {fd__law_rules : FuncData} (D__law_rules : Def K mg "_law_rules" s__law_rules ["_law_gaps_here"] f__law_rules fd__law_rules) : FnOk P w K mg base CX0 7 f__law_rules fd__law_rules ["_law_gaps_here"] (spF K false (m__law_rules CR CP n) 1) :=
  fn_D (O' := []) D__law_rules.fn sc__law_rules false (g__law_rules CR CP n) fun cdv A outer s H E hr =>
    (ds_cons (ds_if (dt_cmp (o_eq hr.units) (de_callB c_len Z.z_len PySem.boot_len (da_cons (de_v 0) da_nil)) de_int)
      (ds_one (ds_ret (de_newP ⟨Z.kP.mks, N_P.mt.at_, N_P.mt.fn, Z.kP.kp⟩ OKN_P hr Z.kP.mg N_P.bd (da_cons (de_ix x_ix (de_v 0) de_int) (da_cons (de_ix x_ix (de_v 0) de_int) da_nil)))))
      ds_nil)
    (ds_one (ds_ret (de_newR ⟨Z.kR.mks, N_R.mt.at_, N_R.mt.fn, Z.kR.kp⟩ OKN_R (hr.mono (by decide)) Z.kR.mg N_R.bd (da_cons (de_ix x_ix (de_v 0) de_int) da_nil)))))
theorem sc__law_closed : FnScope ["_law_script", "_law_cell_here", "_law_many", "_law_closed_here", "_law_k", "_law_there", "_law_start"] ["_law_script"] (defScope s__law_closed) := ⟨rfl, rfl, rfl, by decide +kernel, rfl, by decide +kernel, by decide +kernel⟩
theorem ok__law_closed {n : Nat} {P : Program} {w : World} {K : PySem.W.Frag} {mg : Str → Option Value} {base : Heap} {CR CP : Addr} (Z : Zs K mg CR CP) {f__law_cell : Addr} {fd__law_cell : FuncData} (D__law_cell : Def K mg "_law_cell" s__law_cell ["_law_script", "_law_k"] f__law_cell fd__law_cell) (OK__law_cell : FnOk P w K mg base CX0 1 f__law_cell fd__law_cell ["_law_script", "_law_k"] (spF K false (m__law_cell CR CP n) 2)) {f__law_closed : Addr} {fd__law_closed : FuncData} (D__law_closed : Def K mg "_law_closed" s__law_closed ["_law_script"] f__law_closed fd__law_closed) : FnOk P w K mg base CX0 2 f__law_closed fd__law_closed ["_law_script"] (spF K false (m__law_closed CR CP n) 1) :=
  fn_D (O' := []) D__law_closed.fn sc__law_closed false (g__law_closed CR CP n) fun cdv A outer s H E hr =>
    (ds_cons (ds_setB (i := 1) (own := false) sc__law_closed.nd (de_call OK__law_cell hr D__law_cell.mg D__law_cell.fn.kp D__law_cell.bd (da_cons (de_v 0) (da_cons de_int da_nil))))
    (ds_cons (ds_setB (i := 2) (own := false) sc__law_closed.nd (de_ix x_ix (de_frz (de_lst (da_cons (de_op o_mod (de_v 1) de_int) (da_cons (de_op o_mod (de_v 1) de_int) (da_cons de_int da_nil))))) (de_op o_fdiv (de_op o_mod (de_op o_fdiv (de_v 1) de_int) de_int) de_int)))
    (ds_cons (ds_setB (i := 3) (own := true) sc__law_closed.nd (de_lst da_nil))
    (ds_cons (ds_for (pt := .nm 4) (di_rng1 Z.z_range (da_cons (de_v 2) da_nil)) (dg_nm sc__law_closed.nd)
      (ds_cons (ds_setB (i := 5) (own := false) sc__law_closed.nd (de_frz (de_op o_add (de_op o_fdiv (de_call OK__law_cell hr D__law_cell.mg D__law_cell.fn.kp D__law_cell.bd (da_cons (de_v 0) (da_cons de_int da_nil))) (de_frz (de_op o_add (de_op o_mul (de_v 4) (de_v 4)) de_int))) (de_op o_mul (de_op o_mul de_int (de_v 4)) (de_op o_mod (de_op o_fdiv (de_v 1) de_int) de_int)))))
    (ds_cons (ds_setB (i := 6) (own := false) sc__law_closed.nd (de_op o_mod (de_v 5) de_int))
    (ds_one (ds_appB (i := 3) (de_tup (da_cons (de_v 6) (da_cons (de_frz (de_op o_add (de_frz (de_op o_add (de_v 6) de_int)) (de_op o_mod (de_op o_fdiv (de_v 5) de_int) de_int))) da_nil))))))))
    (ds_enter (O2 := []) (ds_one (ds_ret (de_v 3))))))))
theorem sc__law_flights : FnScope ["_law_script", "_law_start", "_law_kinds", "_law_many", "_law_flights_here", "_law_k", "_law_cell_here", "_law_wide", "_law_worth", "_law_first", "_law_last", "_law_due", "_law_price"] ["_law_script", "_law_start", "_law_kinds", "_law_many"] (defScope s__law_flights) := ⟨rfl, rfl, rfl, by decide +kernel, rfl, by decide +kernel, by decide +kernel⟩
theorem ok__law_flights {n : Nat} {P : Program} {w : World} {K : PySem.W.Frag} {mg : Str → Option Value} {base : Heap} {CR CP : Addr} (Z : Zs K mg CR CP) {f__law_cell : Addr} {fd__law_cell : FuncData} (D__law_cell : Def K mg "_law_cell" s__law_cell ["_law_script", "_law_k"] f__law_cell fd__law_cell) (OK__law_cell : FnOk P w K mg base CX0 1 f__law_cell fd__law_cell ["_law_script", "_law_k"] (spF K false (m__law_cell CR CP n) 2)) {f__law_flights : Addr} {fd__law_flights : FuncData} (D__law_flights : Def K mg "_law_flights" s__law_flights ["_law_script", "_law_start", "_law_kinds", "_law_many"] f__law_flights fd__law_flights) : FnOk P w K mg base CX0 2 f__law_flights fd__law_flights ["_law_script", "_law_start", "_law_kinds", "_law_many"] (spF K false (m__law_flights CR CP n) 4) :=
  fn_D (O' := []) D__law_flights.fn sc__law_flights false (g__law_flights CR CP n) fun cdv A outer s H E hr =>
    (ds_cons (ds_setB (i := 4) (own := true) sc__law_flights.nd (de_lst da_nil))
    (ds_cons (ds_for (pt := .nm 5) (di_rng1 Z.z_range (da_cons (de_v 3) da_nil)) (dg_nm sc__law_flights.nd)
      (ds_cons (ds_setB (i := 6) (own := false) sc__law_flights.nd (de_call OK__law_cell hr D__law_cell.mg D__law_cell.fn.kp D__law_cell.bd (da_cons (de_v 0) (da_cons (de_frz (de_op o_add (de_v 1) (de_op o_mul de_int (de_v 5)))) da_nil))))
    (ds_cons (ds_setB (i := 7) (own := false) sc__law_flights.nd (de_call OK__law_cell hr D__law_cell.mg D__law_cell.fn.kp D__law_cell.bd (da_cons (de_v 0) (da_cons (de_frz (de_op o_add (de_frz (de_op o_add (de_v 1) (de_op o_mul de_int (de_v 5)))) de_int)) da_nil))))
    (ds_cons (ds_setB (i := 8) (own := false) sc__law_flights.nd (de_call OK__law_cell hr D__law_cell.mg D__law_cell.fn.kp D__law_cell.bd (da_cons (de_v 0) (da_cons (de_frz (de_op o_add (de_frz (de_op o_add (de_v 1) (de_op o_mul de_int (de_v 5)))) de_int)) da_nil))))
    (ds_cons (ds_setB (i := 9) (own := false) sc__law_flights.nd (de_op o_mod (de_op o_fdiv (de_v 6) de_int) (de_ix x_ix (de_frz (de_lst (da_cons de_int (da_cons de_int (da_cons de_int (da_cons (de_op o_mul de_int (de_op o_pow de_int de_int)) da_nil)))))) (de_op o_mod (de_op o_fdiv (de_v 6) de_int) de_int))))
    (ds_cons (ds_setB (i := 10) (own := false) sc__law_flights.nd (de_frz (de_op o_add (de_v 9) (de_op o_mod (de_op o_fdiv (de_v 7) de_int) (de_ix x_ix (de_frz (de_lst (da_cons de_int (da_cons de_int (da_cons de_int (da_cons (de_op o_pow de_int de_int) (da_cons (de_op o_pow de_int de_int) da_nil))))))) (de_op o_mod (de_v 7) de_int))))))
    (ds_cons (ds_setB (i := 11) (own := false) sc__law_flights.nd (de_ix x_ix (de_frz (de_lst (da_cons (de_op o_mod (de_op o_fdiv (de_v 8) de_int) de_int) (da_cons (de_op o_mod (de_op o_fdiv (de_v 8) de_int) (de_frz (de_op o_add (de_op o_pow de_int de_int) de_int))) da_nil)))) (de_op o_mod (de_v 8) de_int)))
    (ds_cons (ds_setB (i := 12) (own := false) sc__law_flights.nd (de_ix x_ix (de_frz (de_lst (da_cons (de_op o_mod (de_op o_fdiv (de_v 8) de_int) de_int) (da_cons (de_op o_mod (de_op o_fdiv (de_v 8) de_int) de_int) (da_cons (de_op o_mod (de_op o_fdiv (de_v 8) de_int) (de_frz (de_op o_add (de_op o_pow de_int de_int) de_int))) da_nil))))) (de_op o_mod (de_op o_fdiv (de_v 8) de_int) de_int)))
    (ds_one (ds_appB (i := 4) (de_tup (da_cons (de_op o_mod (de_v 6) (de_v 2)) (da_cons (de_v 9) (da_cons (de_v 10) (da_cons (de_v 11) (da_cons (de_v 12) da_nil))))))))))))))))
    (ds_enter (O2 := []) (ds_one (ds_ret (de_v 4))))))
theorem sc__law_label : FnScope ["_law_script", "_law_start", "_law_gaps_here", "_law_rows", "_law_kinds", "_law_side", "_law_row", "_law_kind", "_law_cell_here"] ["_law_script", "_law_start", "_law_gaps_here"] (defScope s__law_label) := ⟨rfl, rfl, rfl, by decide +kernel, rfl, by decide +kernel, by decide +kernel⟩
theorem ok__law_label {n : Nat} {P : Program} {w : World} {K : PySem.W.Frag} {mg : Str → Option Value} {base : Heap} {CR CP : Addr} (Z : Zs K mg CR CP) {f__law_cell : Addr} {fd__law_cell : FuncData} (D__law_cell : Def K mg "_law_cell" s__law_cell ["_law_script", "_law_k"] f__law_cell fd__law_cell) (OK__law_cell : FnOk P w K mg base CX0 1 f__law_cell fd__law_cell ["_law_script", "_law_k"] (spF K false (m__law_cell CR CP n) 2)) {f__law_label : Addr} {fd__law_label : FuncData} (D__law_label : Def K mg "_law_label" s__law_label ["_law_script", "_law_start", "_law_gaps_here"] f__law_label fd__law_label) : FnOk P w K mg base CX0 2 f__law_label fd__law_label ["_law_script", "_law_start", "_law_gaps_here"] (spF K false (m__law_label CR CP n) 3) :=
  fn_D (O' := []) D__law_label.fn sc__law_label false (g__law_label CR CP n) fun cdv A outer s H E hr =>
    (ds_cons (ds_setB (i := 3) (own := true) sc__law_label.nd (de_lst da_nil))
    (ds_cons (ds_setB (i := 4) (own := false) sc__law_label.nd (de_callB c_len Z.z_len PySem.boot_len (da_cons (de_ix x_ix (de_v 2) de_int) da_nil)))
    (ds_cons (ds_for (pt := .nm 5) (di_rng1 Z.z_range (da_cons (de_callB c_len Z.z_len PySem.boot_len (da_cons (de_v 2) da_nil)) da_nil)) (dg_nm sc__law_label.nd)
      (ds_cons (ds_setB (i := 6) (own := true) sc__law_label.nd (de_lst da_nil))
    (ds_enter (O2 := [3, 6]) (ds_cons (ds_for (pt := .nm 7) (di_rng1 Z.z_range (da_cons (de_v 4) da_nil)) (dg_nm sc__law_label.nd)
      (ds_cons (ds_setB (i := 8) (own := false) sc__law_label.nd (de_op o_mod (de_op o_mul (de_call OK__law_cell hr D__law_cell.mg D__law_cell.fn.kp D__law_cell.bd (da_cons (de_v 0) (da_cons (de_frz (de_op o_add (de_frz (de_op o_add (de_v 1) (de_op o_mul (de_v 5) (de_v 4)))) (de_v 7))) da_nil))) de_int) de_int))
    (ds_one (ds_appB (i := 6) (de_ix x_ix (de_frz (de_lst (da_cons (de_un o_neg de_int) (da_cons (de_op o_mod (de_op o_fdiv (de_v 8) de_int) de_int) da_nil)))) (de_op o_mod (de_v 8) de_int))))))
    (ds_enter (O2 := [3]) (ds_one (ds_appB (i := 3) (de_callTy c_tuple Z.z_tuple PyProof.Rows.boot_tuple (da_cons (de_v 6) da_nil)))))))))
    (ds_enter (O2 := []) (ds_one (ds_ret (de_tup (da_cons (de_op o_mod (de_call OK__law_cell hr D__law_cell.mg D__law_cell.fn.kp D__law_cell.bd (da_cons (de_v 0) (da_cons (de_v 1) da_nil))) de_int) (da_cons (de_callTy c_tuple Z.z_tuple PyProof.Rows.boot_tuple (da_cons (de_v 3) da_nil)) da_nil)))))))))
theorem sc_is_no_worse : FnScope ["one", "other", "row", "bounds", "last", "bound"] ["one", "other"] (defScope s_is_no_worse) := ⟨rfl, rfl, rfl, by decide +kernel, rfl, by decide +kernel, by decide +kernel⟩
theorem ok_is_no_worse {n : Nat} {P : Program} {w : World} {K : PySem.W.Frag} {mg : Str → Option Value} {base : Heap} {CR CP : Addr} (Z : Zs K mg CR CP) {f_is_no_worse : Addr} {fd_is_no_worse : FuncData} (D_is_no_worse : Def K mg "is_no_worse" s_is_no_worse ["one", "other"] f_is_no_worse fd_is_no_worse) : FnOk P w K mg base CX0 1 f_is_no_worse fd_is_no_worse ["one", "other"] (spF K false (m_is_no_worse CR CP n) 2) :=
  fn_D (O' := []) D_is_no_worse.fn sc_is_no_worse false (g_is_no_worse CR CP n) fun cdv A outer s H E hr =>
    (ds_cons (ds_if (dt_cmp o_gt (de_ix x_ix (de_v 0) de_int) (de_ix x_ix (de_v 1) de_int))
      (ds_one (ds_ret de_bl))
      ds_nil)
    (ds_cons (ds_for (pt := .tp [2, 3]) (di_zipT Z.z_zip (de_ix x_ix (de_v 0) de_int) (de_ix x_ix (de_v 1) de_int)) (dg_tp rfl (dgs_cons (i := 2) sc_is_no_worse.nd (dgs_cons (i := 3) sc_is_no_worse.nd dgs_nil)))
      (ds_one (ds_for (pt := .tp [4, 5]) (di_zipT Z.z_zip (de_v 2) (de_v 3)) (dg_tp rfl (dgs_cons (i := 4) sc_is_no_worse.nd (dgs_cons (i := 5) sc_is_no_worse.nd dgs_nil)))
      (ds_one (ds_if (dt_cmp o_gt (de_v 4) (de_v 5))
      (ds_one (ds_ret de_bl))
      ds_nil)))))
    (ds_one (ds_ret de_bl))))
theorem sc__law_later : FnScope ["_law_label_here", "_law_cell_here", "_law_mixed", "_law_rows", "_law_row", "_law_fresh", "_law_time", "_law_step"] ["_law_label_here", "_law_cell_here"] (defScope s__law_later) := ⟨rfl, rfl, rfl, by decide +kernel, rfl, by decide +kernel, by decide +kernel⟩
theorem ok__law_later {n : Nat} {P : Program} {w : World} {K : PySem.W.Frag} {mg : Str → Option Value} {base : Heap} {CR CP : Addr} (Z : Zs K mg CR CP) {f__law_later : Addr} {fd__law_later : FuncData} (D__law_later : Def K mg "_law_later" s__law_later ["_law_label_here", "_law_cell_here"] f__law_later fd__law_later) : FnOk P w K mg base CX0 1 f__law_later fd__law_later ["_law_label_here", "_law_cell_here"] (spF K false (m__law_later CR CP n) 2) :=
  fn_D (O' := []) D__law_later.fn sc__law_later false (g__law_later CR CP n) fun cdv A outer s H E hr =>
    (ds_cons (ds_setB (i := 2) (own := false) sc__law_later.nd (de_op o_mod (de_op o_mul (de_v 1) de_int) de_int))
    (ds_cons (ds_setB (i := 3) (own := true) sc__law_later.nd (de_lst da_nil))
    (ds_cons (ds_for (pt := .nm 4) (di_seq (de_ix x_ix (de_v 0) de_int)) (dg_nm sc__law_later.nd)
      (ds_cons (ds_setB (i := 5) (own := true) sc__law_later.nd (de_lst da_nil))
    (ds_enter (O2 := [3, 5]) (ds_cons (ds_for (pt := .nm 6) (di_seq (de_v 4)) (dg_nm sc__law_later.nd)
      (ds_cons (ds_setB (i := 2) (own := false) sc__law_later.nd (de_op o_mod (de_op o_mul (de_v 2) de_int) de_int))
    (ds_cons (ds_setB (i := 7) (own := false) sc__law_later.nd (de_ix x_ix (de_frz (de_lst (da_cons de_int (da_cons de_int (da_cons (de_op o_mod (de_op o_fdiv (de_v 2) de_int) de_int) (da_cons (de_op o_mod (de_op o_fdiv (de_v 2) de_int) de_int) (da_cons de_int (da_cons (de_op o_mod (de_op o_fdiv (de_v 2) de_int) de_int) (da_cons de_int (da_cons (de_un o_neg de_int) da_nil)))))))))) (de_op o_mod (de_v 2) de_int)))
    (ds_one (ds_appB (i := 5) (de_callB (c_max rfl) Z.z_max boot_max (da_cons (de_un o_neg de_int) (da_cons (de_frz (de_op o_add (de_v 6) (de_v 7))) da_nil))))))))
    (ds_enter (O2 := [3]) (ds_one (ds_appB (i := 3) (de_callTy c_tuple Z.z_tuple PyProof.Rows.boot_tuple (da_cons (de_v 5) da_nil)))))))))
    (ds_enter (O2 := []) (ds_one (ds_ret (de_tup (da_cons (de_callB (c_max rfl) Z.z_max boot_max (da_cons de_int (da_cons (de_frz (de_op o_add (de_ix x_ix (de_v 0) de_int) (de_ix x_ix (de_frz (de_lst (da_cons de_int (da_cons de_int (da_cons de_int (da_cons de_int (da_cons de_int (da_cons (de_un o_neg de_int) da_nil)))))))) (de_op o_mod (de_v 1) de_int)))) da_nil))) (da_cons (de_callTy c_tuple Z.z_tuple PyProof.Rows.boot_tuple (da_cons (de_v 3) da_nil)) da_nil)))))))))
theorem sc_Rules_many_strips : FnScope ["self"] ["self"] (defScope s_Rules_many_strips) := ⟨rfl, rfl, rfl, by decide +kernel, rfl, by decide +kernel, by decide +kernel⟩
theorem ok_Rules_many_strips {n : Nat} {P : Program} {w : World} {K : PySem.W.Frag} {mg : Str → Option Value} {base : Heap} {CR CP : Addr} (Z : Zs K mg CR CP) {f_Rules_many_strips : Addr} {fd_Rules_many_strips : FuncData} (D_Rules_many_strips : Mth K CR "many_strips" "Rules.many_strips" s_Rules_many_strips ["self"] f_Rules_many_strips fd_Rules_many_strips) : FnOk P w K mg base CX0 1 f_Rules_many_strips fd_Rules_many_strips ["self"] (spF K false (m_Rules_many_strips CR CP n) 1) :=
  fn_D (O' := []) D_Rules_many_strips.fn sc_Rules_many_strips false (g_Rules_many_strips CR CP n) fun cdv A outer s H E hr =>
    (ds_one (ds_ret de_int))
theorem sc_Pair_many_strips : FnScope ["self"] ["self"] (defScope s_Pair_many_strips) := ⟨rfl, rfl, rfl, by decide +kernel, rfl, by decide +kernel, by decide +kernel⟩
theorem ok_Pair_many_strips {n : Nat} {P : Program} {w : World} {K : PySem.W.Frag} {mg : Str → Option Value} {base : Heap} {CR CP : Addr} (Z : Zs K mg CR CP) {f_Pair_many_strips : Addr} {fd_Pair_many_strips : FuncData} (D_Pair_many_strips : Mth K CP "many_strips" "Pair.many_strips" s_Pair_many_strips ["self"] f_Pair_many_strips fd_Pair_many_strips) : FnOk P w K mg base CX0 1 f_Pair_many_strips fd_Pair_many_strips ["self"] (spF K false (m_Pair_many_strips CR CP n) 1) :=
  fn_D (O' := []) D_Pair_many_strips.fn sc_Pair_many_strips false (g_Pair_many_strips CR CP n) fun cdv A outer s H E hr =>
    (ds_one (ds_ret de_int))
theorem sc_joined_stretches : FnScope ["closed", "joined", "start", "stop"] ["closed"] (defScope s_joined_stretches) := ⟨rfl, rfl, rfl, by decide +kernel, rfl, by decide +kernel, by decide +kernel⟩
theorem ok_joined_stretches {n : Nat} {P : Program} {w : World} {K : PySem.W.Frag} {mg : Str → Option Value} {base : Heap} {CR CP : Addr} (Z : Zs K mg CR CP) {f_joined_stretches : Addr} {fd_joined_stretches : FuncData} (D_joined_stretches : Def K mg "joined_stretches" s_joined_stretches ["closed"] f_joined_stretches fd_joined_stretches) : FnOk P w K mg base CX0 1 f_joined_stretches fd_joined_stretches ["closed"] (spF K false (m_joined_stretches CR CP n) 1) :=
  fn_D (O' := []) D_joined_stretches.fn sc_joined_stretches false (g_joined_stretches CR CP n) fun cdv A outer s H E hr =>
    (ds_cons (ds_setB (i := 1) (own := true) sc_joined_stretches.nd (de_lst da_nil))
    (ds_cons (ds_for (pt := .tp [2, 3]) (di_seq (de_frz (de_callB c_sorted Z.z_sorted boot_sorted (da_cons (de_v 0) da_nil)))) (dg_tp rfl (dgs_cons (i := 2) sc_joined_stretches.nd (dgs_cons (i := 3) sc_joined_stretches.nd dgs_nil)))
      (ds_one (ds_if (PW.pt (dw_and (dt_tru (de_v 1)) (dw_and1 (dt_cmp o_le (de_v 2) (de_ix x_ix (de_ix x_ix (de_v 1) (de_un o_neg de_int)) de_int)))))
      (ds_one (ds_setI (i := 1) (de_tup (da_cons (de_ix x_ix (de_ix x_ix (de_v 1) (de_un o_neg de_int)) de_int) (da_cons (de_callB (c_max rfl) Z.z_max boot_max (da_cons (de_v 3) (da_cons (de_ix x_ix (de_ix x_ix (de_v 1) (de_un o_neg de_int)) de_int) da_nil))) da_nil))) (de_un o_neg de_int)))
      (ds_one (ds_appB (i := 1) (de_tup (da_cons (de_v 2) (da_cons (de_v 3) da_nil))))))))
    (ds_enter (O2 := []) (ds_one (ds_ret (de_v 1))))))
theorem sc_next_open : FnScope ["closed", "time", "start", "stop"] ["closed", "time"] (defScope s_next_open) := ⟨rfl, rfl, rfl, by decide +kernel, rfl, by decide +kernel, by decide +kernel⟩
theorem ok_next_open {n : Nat} {P : Program} {w : World} {K : PySem.W.Frag} {mg : Str → Option Value} {base : Heap} {CR CP : Addr} (Z : Zs K mg CR CP) {f_joined_stretches : Addr} {fd_joined_stretches : FuncData} (D_joined_stretches : Def K mg "joined_stretches" s_joined_stretches ["closed"] f_joined_stretches fd_joined_stretches) (OK_joined_stretches : FnOk P w K mg base CX0 1 f_joined_stretches fd_joined_stretches ["closed"] (spF K false (m_joined_stretches CR CP n) 1)) {f_next_open : Addr} {fd_next_open : FuncData} (D_next_open : Def K mg "next_open" s_next_open ["closed", "time"] f_next_open fd_next_open) : FnOk P w K mg base CX0 2 f_next_open fd_next_open ["closed", "time"] (spF K false (m_next_open CR CP n) 2) :=
  fn_D (O' := []) D_next_open.fn sc_next_open false (g_next_open CR CP n) fun cdv A outer s H E hr =>
    (ds_cons (ds_for (pt := .tp [2, 3]) (di_seq (de_call OK_joined_stretches hr D_joined_stretches.mg D_joined_stretches.fn.kp D_joined_stretches.bd (da_cons (de_v 0) da_nil))) (dg_tp rfl (dgs_cons (i := 2) sc_next_open.nd (dgs_cons (i := 3) sc_next_open.nd dgs_nil)))
      (ds_one (ds_if (dt_chain o_le o_lt (de_v 2) (de_v 1) (de_v 3))
      (ds_one (ds_ret (de_v 3)))
      ds_nil)))
    (ds_one (ds_ret (de_v 1))))
theorem sc_lasts_with : FnScope ["lasts", "spot", "time", "rows"] ["lasts", "spot", "time"] (defScope s_lasts_with) := ⟨rfl, rfl, rfl, by decide +kernel, rfl, by decide +kernel, by decide +kernel⟩
theorem ok_lasts_with {n : Nat} {P : Program} {w : World} {K : PySem.W.Frag} {mg : Str → Option Value} {base : Heap} {CR CP : Addr} (Z : Zs K mg CR CP) {f_lasts_with : Addr} {fd_lasts_with : FuncData} (D_lasts_with : Def K mg "lasts_with" s_lasts_with ["lasts", "spot", "time"] f_lasts_with fd_lasts_with) : FnOk P w K mg base CX0 1 f_lasts_with fd_lasts_with ["lasts", "spot", "time"] (spF K false (m_lasts_with CR CP n) 3) :=
  fn_D (O' := []) D_lasts_with.fn sc_lasts_with false (g_lasts_with CR CP n) fun cdv A outer s H E hr =>
    (ds_rows (i := 3) ["row"] [none] sc_lasts_with.nd (di_seq (de_v 0)) (fun _ _ _ _ _ => dgc_nm (by decide +kernel)) (leaves_name rfl) (fun _ _ _ _ _ => dts_nil) (fun _ _ _ _ _ => (de_callTy c_list Z.z_list PyProof.Rows.boot_list (da_cons (de_v 0) da_nil))) listD_lst (de_v 2) (de_ix x_ix (de_v 1) de_int) (de_ix x_ix (de_v 1) de_int)
    (ds_one (ds_ret (de_callTy c_tuple Z.z_tuple PyProof.Rows.boot_tuple (da_cons (de_frz (de_comp ["row"] [none] (di_seq (de_v 3)) (fun _ _ _ _ _ => dgc_nm (by decide +kernel)) (leaves_name rfl) (fun _ _ _ _ _ => dts_nil) (fun _ _ _ _ _ => (de_callTy c_tuple Z.z_tuple PyProof.Rows.boot_tuple (da_cons (de_v 0) da_nil))))) da_nil)))))
theorem sc_late_cost : FnScope ["flight", "time", "due", "price"] ["flight", "time"] (defScope s_late_cost) := ⟨rfl, rfl, rfl, by decide +kernel, rfl, by decide +kernel, by decide +kernel⟩
theorem ok_late_cost {n : Nat} {P : Program} {w : World} {K : PySem.W.Frag} {mg : Str → Option Value} {base : Heap} {CR CP : Addr} (Z : Zs K mg CR CP) {f_late_cost : Addr} {fd_late_cost : FuncData} (D_late_cost : Def K mg "late_cost" s_late_cost ["flight", "time"] f_late_cost fd_late_cost) : FnOk P w K mg base CX0 1 f_late_cost fd_late_cost ["flight", "time"] (spF K false (m_late_cost CR CP n) 2) :=
  fn_D (O' := []) D_late_cost.fn sc_late_cost false (g_late_cost CR CP n) fun cdv A outer s H E hr =>
    (ds_cons (ds_setB (i := 2) (own := false) sc_late_cost.nd (de_ix x_ix (de_v 0) de_int))
    (ds_cons (ds_setB (i := 3) (own := false) sc_late_cost.nd (de_ix x_ix (de_v 0) de_int))
    (ds_one (ds_ret (de_op o_mul (de_v 3) (de_callB (c_max rfl) Z.z_max boot_max (da_cons de_int (da_cons (de_op o_sub (de_v 1) (de_v 2)) da_nil))))))))
theorem sc_Rules_apart : FnScope ["self", "one", "other"] ["self", "one", "other"] (defScope s_Rules_apart) := ⟨rfl, rfl, rfl, by decide +kernel, rfl, by decide +kernel, by decide +kernel⟩
theorem ok_Rules_apart {n : Nat} {P : Program} {w : World} {K : PySem.W.Frag} {mg : Str → Option Value} {base : Heap} {CR CP : Addr} (Z : Zs K mg CR CP) {f_Rules_apart : Addr} {fd_Rules_apart : FuncData} (D_Rules_apart : Mth K CR "apart" "Rules.apart" s_Rules_apart ["self", "one", "other"] f_Rules_apart fd_Rules_apart) : FnOk P w K mg base CX0 1 f_Rules_apart fd_Rules_apart ["self", "one", "other"] (spF K false (m_Rules_apart CR CP n) 3) :=
  fn_D (O' := []) D_Rules_apart.fn sc_Rules_apart false (g_Rules_apart CR CP n) fun cdv A outer s H E hr =>
    (ds_one (ds_ret (de_ix x_ix (de_ix x_ix (de_fld (Cs := [CR, CP]) Z.fld_gaps (de_v 0)) (de_ix x_ix (de_v 1) de_int)) (de_ix x_ix (de_v 2) de_int))))
theorem sc_Pair_apart : FnScope ["self", "one", "other", "rows"] ["self", "one", "other"] (defScope s_Pair_apart) := ⟨rfl, rfl, rfl, by decide +kernel, rfl, by decide +kernel, by decide +kernel⟩
theorem ok_Pair_apart {n : Nat} {P : Program} {w : World} {K : PySem.W.Frag} {mg : Str → Option Value} {base : Heap} {CR CP : Addr} (Z : Zs K mg CR CP) {f_Pair_apart : Addr} {fd_Pair_apart : FuncData} (D_Pair_apart : Mth K CP "apart" "Pair.apart" s_Pair_apart ["self", "one", "other"] f_Pair_apart fd_Pair_apart) : FnOk P w K mg base CX0 1 f_Pair_apart fd_Pair_apart ["self", "one", "other"] (spF K false (m_Pair_apart CR CP n) 3) :=
  fn_D (O' := []) D_Pair_apart.fn sc_Pair_apart false (g_Pair_apart CR CP n) fun cdv A outer s H E hr =>
    (ds_cons (ds_setB (i := 3) (own := false) sc_Pair_apart.nd (de_ite (dt_cmp (o_eq hr.units) (de_ix x_ix (de_v 1) de_int) (de_ix x_ix (de_v 2) de_int)) (de_fld (Cs := [CR, CP]) Z.fld_gaps (de_v 0)) (de_fld (Cs := [CP]) Z.fld_beside (de_v 0))))
    (ds_one (ds_ret (de_ix x_ix (de_ix x_ix (de_v 3) (de_ix x_ix (de_v 1) de_int)) (de_ix x_ix (de_v 2) de_int)))))
theorem sc_last_gap_times : FnScope ["rules", "lasts", "spot", "times", "strip", "row", "kind", "last"] ["rules", "lasts", "spot"] (defScope s_last_gap_times) := ⟨rfl, rfl, rfl, by decide +kernel, rfl, by decide +kernel, by decide +kernel⟩
theorem ok_last_gap_times {n : Nat} {P : Program} {w : World} {K : PySem.W.Frag} {mg : Str → Option Value} {base : Heap} {CR CP : Addr} (Z : Zs K mg CR CP) {f_Rules_apart : Addr} {fd_Rules_apart : FuncData} (M_R_apart : Mth K CR "apart" "Rules.apart" s_Rules_apart ["self", "one", "other"] f_Rules_apart fd_Rules_apart) (OK_Rules_apart : FnOk P w K mg base CX0 1 f_Rules_apart fd_Rules_apart ["self", "one", "other"] (spF K false (m_Rules_apart CR CP n) 3)) {f_Pair_apart : Addr} {fd_Pair_apart : FuncData} (M_P_apart : Mth K CP "apart" "Pair.apart" s_Pair_apart ["self", "one", "other"] f_Pair_apart fd_Pair_apart) (OK_Pair_apart : FnOk P w K mg base CX0 1 f_Pair_apart fd_Pair_apart ["self", "one", "other"] (spF K false (m_Pair_apart CR CP n) 3)) {f_last_gap_times : Addr} {fd_last_gap_times : FuncData} (D_last_gap_times : Def K mg "last_gap_times" s_last_gap_times ["rules", "lasts", "spot"] f_last_gap_times fd_last_gap_times) : FnOk P w K mg base CX0 2 f_last_gap_times fd_last_gap_times ["rules", "lasts", "spot"] (spF K false (m_last_gap_times CR CP n) 3) :=
  fn_D (O' := []) D_last_gap_times.fn sc_last_gap_times false (g_last_gap_times CR CP n) fun cdv A outer s H E hr =>
    (ds_cons (ds_setB (i := 3) (own := true) sc_last_gap_times.nd (de_lst da_nil))
    (ds_cons (ds_for (pt := .tp [4, 5]) (di_enum2 Z.z_enumerate (de_v 1)) (dg_tp rfl (dgs_cons (i := 4) sc_last_gap_times.nd (dgs_cons (i := 5) sc_last_gap_times.nd dgs_nil)))
      (ds_one (ds_for (pt := .tp [6, 7]) (di_enum2 Z.z_enumerate (de_v 5)) (dg_tp rfl (dgs_cons (i := 6) sc_last_gap_times.nd (dgs_cons (i := 7) sc_last_gap_times.nd dgs_nil)))
      (ds_one (ds_if (dt_cmp (o_ne hr.units) (de_v 7) (de_un o_neg de_int))
      (ds_one (ds_appB (i := 3) (de_frz (de_op o_add (de_v 7) (de_meth2 Z.kR.cl M_R_apart.mt OK_Rules_apart hr M_R_apart.bd Z.kP.cl M_P_apart.mt OK_Pair_apart hr M_P_apart.bd (de_v 0) (da_cons (de_tup (da_cons (de_v 6) (da_cons (de_v 4) da_nil))) (da_cons (de_v 2) da_nil)))))))
      ds_nil)))))
    (ds_enter (O2 := []) (ds_one (ds_ret (de_v 3))))))
theorem sc_label_behind : FnScope ["rules", "flights", "closed", "label", "flight", "strip", "told", "spot", "time"] ["rules", "flights", "closed", "label", "flight", "strip"] (defScope s_label_behind) := ⟨rfl, rfl, rfl, by decide +kernel, rfl, by decide +kernel, by decide +kernel⟩
theorem ok_label_behind {n : Nat} {P : Program} {w : World} {K : PySem.W.Frag} {mg : Str → Option Value} {base : Heap} {CR CP : Addr} (Z : Zs K mg CR CP) {f_next_open : Addr} {fd_next_open : FuncData} (D_next_open : Def K mg "next_open" s_next_open ["closed", "time"] f_next_open fd_next_open) (OK_next_open : FnOk P w K mg base CX0 2 f_next_open fd_next_open ["closed", "time"] (spF K false (m_next_open CR CP n) 2)) {f_lasts_with : Addr} {fd_lasts_with : FuncData} (D_lasts_with : Def K mg "lasts_with" s_lasts_with ["lasts", "spot", "time"] f_lasts_with fd_lasts_with) (OK_lasts_with : FnOk P w K mg base CX0 1 f_lasts_with fd_lasts_with ["lasts", "spot", "time"] (spF K false (m_lasts_with CR CP n) 3)) {f_late_cost : Addr} {fd_late_cost : FuncData} (D_late_cost : Def K mg "late_cost" s_late_cost ["flight", "time"] f_late_cost fd_late_cost) (OK_late_cost : FnOk P w K mg base CX0 1 f_late_cost fd_late_cost ["flight", "time"] (spF K false (m_late_cost CR CP n) 2)) {f_last_gap_times : Addr} {fd_last_gap_times : FuncData} (D_last_gap_times : Def K mg "last_gap_times" s_last_gap_times ["rules", "lasts", "spot"] f_last_gap_times fd_last_gap_times) (OK_last_gap_times : FnOk P w K mg base CX0 2 f_last_gap_times fd_last_gap_times ["rules", "lasts", "spot"] (spF K false (m_last_gap_times CR CP n) 3)) {f_label_behind : Addr} {fd_label_behind : FuncData} (D_label_behind : Def K mg "label_behind" s_label_behind ["rules", "flights", "closed", "label", "flight", "strip"] f_label_behind fd_label_behind) : FnOk P w K mg base CX0 3 f_label_behind fd_label_behind ["rules", "flights", "closed", "label", "flight", "strip"] (spF K false (m_label_behind CR CP n) 6) :=
  fn_D (O' := []) D_label_behind.fn sc_label_behind false (g_label_behind CR CP n) fun cdv A outer s H E hr =>
    (ds_cons (ds_setB (i := 6) (own := false) sc_label_behind.nd (de_ix x_ix (de_v 1) (de_v 4)))
    (ds_cons (ds_setB (i := 7) (own := false) sc_label_behind.nd (de_tup (da_cons (de_ix x_ix (de_v 6) de_int) (da_cons (de_v 5) da_nil))))
    (ds_cons (ds_setB (i := 8) (own := false) sc_label_behind.nd (de_call OK_next_open hr D_next_open.mg D_next_open.fn.kp D_next_open.bd (da_cons (de_v 2) (da_cons (de_callB (c_max rfl) Z.z_max boot_max (da_cons (de_frz (de_op o_add (de_frz (de_lst (da_cons (de_ix x_ix (de_v 6) de_int) da_nil))) (de_call OK_last_gap_times hr D_last_gap_times.mg D_last_gap_times.fn.kp D_last_gap_times.bd (da_cons (de_v 0) (da_cons (de_ix x_ix (de_v 3) de_int) (da_cons (de_v 7) da_nil)))))) da_nil)) da_nil))))
    (ds_cons (ds_if (dt_cmp o_gt (de_v 8) (de_ix x_ix (de_v 6) de_int))
      (ds_one (ds_ret de_non))
      ds_nil)
    (ds_one (ds_ret (de_tup (da_cons (de_frz (de_op o_add (de_ix x_ix (de_v 3) de_int) (de_call OK_late_cost (hr.mono (by decide)) D_late_cost.mg D_late_cost.fn.kp D_late_cost.bd (da_cons (de_v 6) (da_cons (de_v 8) da_nil))))) (da_cons (de_call OK_lasts_with (hr.mono (by decide)) D_lasts_with.mg D_lasts_with.fn.kp D_lasts_with.bd (da_cons (de_ix x_ix (de_v 3) de_int) (da_cons (de_v 7) (da_cons (de_v 8) da_nil)))) da_nil)))))))))
theorem sc__law_no_worse : FnScope ["_law_one", "_law_other", "_law_mine", "_law_theirs"] ["_law_one", "_law_other"] (defScope s__law_no_worse) := ⟨rfl, rfl, rfl, by decide +kernel, rfl, by decide +kernel, by decide +kernel⟩
theorem ok__law_no_worse {n : Nat} {P : Program} {w : World} {K : PySem.W.Frag} {mg : Str → Option Value} {base : Heap} {CR CP : Addr} (Z : Zs K mg CR CP) {f__law_no_worse : Addr} {fd__law_no_worse : FuncData} (D__law_no_worse : Def K mg "_law_no_worse" s__law_no_worse ["_law_one", "_law_other"] f__law_no_worse fd__law_no_worse) : FnOk P w K mg base CX0 1 f__law_no_worse fd__law_no_worse ["_law_one", "_law_other"] (spF K false (m__law_no_worse CR CP n) 2) :=
  fn_D (O' := []) D__law_no_worse.fn sc__law_no_worse false (g__law_no_worse CR CP n) fun cdv A outer s H E hr =>
    (ds_cons (ds_if (dt_cmp o_gt (de_ix x_ix (de_v 0) de_int) (de_ix x_ix (de_v 1) de_int))
      (ds_one (ds_ret de_bl))
      ds_nil)
    (ds_cons (ds_for (pt := .tp [2, 3]) (di_zipT Z.z_zip (de_ix x_ix (de_v 0) de_int) (de_ix x_ix (de_v 1) de_int)) (dg_tp rfl (dgs_cons (i := 2) sc__law_no_worse.nd (dgs_cons (i := 3) sc__law_no_worse.nd dgs_nil)))
      (ds_one (ds_if (dt_cmp (o_ne hr.units) (de_frz (de_comp ["_law_k", "_law_mine", "_law_theirs"] [none, some 2, some 3] (di_rng1 Z.z_range (da_cons (de_callB c_len Z.z_len PySem.boot_len (da_cons (de_v 2) da_nil)) da_nil)) (fun _ _ _ _ _ => dgc_nm (by decide +kernel)) (leaves_name rfl) (fun _ _ _ _ _ => pts_one (dt_cmp o_gt (de_ix x_ix (de_v 1) (de_v 0)) (de_ix x_ix (de_v 2) (de_v 0)))) (fun _ _ _ _ _ => (de_v 0)))) (de_frz (de_lst da_nil)))
      (ds_one (ds_ret de_bl))
      ds_nil)))
    (ds_one (ds_ret de_bl))))
theorem sc__law_behind_too : FnScope ["_law_rules_here", "_law_flights_here", "_law_closed_here", "_law_one", "_law_other", "_law_flight", "_law_strip", "_law_theirs", "_law_mine"] ["_law_rules_here", "_law_flights_here", "_law_closed_here", "_law_one", "_law_other"] (defScope s__law_behind_too) := ⟨rfl, rfl, rfl, by decide +kernel, rfl, by decide +kernel, by decide +kernel⟩
theorem ok__law_behind_too {n : Nat} {P : Program} {w : World} {K : PySem.W.Frag} {mg : Str → Option Value} {base : Heap} {CR CP : Addr} (Z : Zs K mg CR CP) {f_label_behind : Addr} {fd_label_behind : FuncData} (D_label_behind : Def K mg "label_behind" s_label_behind ["rules", "flights", "closed", "label", "flight", "strip"] f_label_behind fd_label_behind) (OK_label_behind : FnOk P w K mg base CX0 3 f_label_behind fd_label_behind ["rules", "flights", "closed", "label", "flight", "strip"] (spF K false (m_label_behind CR CP n) 6)) {f__law_no_worse : Addr} {fd__law_no_worse : FuncData} (D__law_no_worse : Def K mg "_law_no_worse" s__law_no_worse ["_law_one", "_law_other"] f__law_no_worse fd__law_no_worse) (OK__law_no_worse : FnOk P w K mg base CX0 1 f__law_no_worse fd__law_no_worse ["_law_one", "_law_other"] (spF K false (m__law_no_worse CR CP n) 2)) {f_Rules_many_strips : Addr} {fd_Rules_many_strips : FuncData} (M_R_many_strips : Mth K CR "many_strips" "Rules.many_strips" s_Rules_many_strips ["self"] f_Rules_many_strips fd_Rules_many_strips) (OK_Rules_many_strips : FnOk P w K mg base CX0 1 f_Rules_many_strips fd_Rules_many_strips ["self"] (spF K false (m_Rules_many_strips CR CP n) 1)) {f_Pair_many_strips : Addr} {fd_Pair_many_strips : FuncData} (M_P_many_strips : Mth K CP "many_strips" "Pair.many_strips" s_Pair_many_strips ["self"] f_Pair_many_strips fd_Pair_many_strips) (OK_Pair_many_strips : FnOk P w K mg base CX0 1 f_Pair_many_strips fd_Pair_many_strips ["self"] (spF K false (m_Pair_many_strips CR CP n) 1)) {f__law_behind_too : Addr} {fd__law_behind_too : FuncData} (D__law_behind_too : Def K mg "_law_behind_too" s__law_behind_too ["_law_rules_here", "_law_flights_here", "_law_closed_here", "_law_one", "_law_other"] f__law_behind_too fd__law_behind_too) : FnOk P w K mg base CX0 4 f__law_behind_too fd__law_behind_too ["_law_rules_here", "_law_flights_here", "_law_closed_here", "_law_one", "_law_other"] (spF K false (m__law_behind_too CR CP n) 5) :=
  fn_D (O' := []) D__law_behind_too.fn sc__law_behind_too false (g__law_behind_too CR CP n) fun cdv A outer s H E hr =>
    (ds_cons (ds_for (pt := .nm 5) (di_rng1 Z.z_range (da_cons (de_callB c_len Z.z_len PySem.boot_len (da_cons (de_v 1) da_nil)) da_nil)) (dg_nm sc__law_behind_too.nd)
      (ds_one (ds_for (pt := .nm 6) (di_rng1 Z.z_range (da_cons (de_meth2z Z.kR.cl M_R_many_strips.mt OK_Rules_many_strips (hr.mono (by decide)) M_R_many_strips.bd Z.kP.cl M_P_many_strips.mt OK_Pair_many_strips (hr.mono (by decide)) M_P_many_strips.bd (de_v 0)) da_nil)) (dg_nm sc__law_behind_too.nd)
      (ds_cons (ds_setB (i := 7) (own := false) sc__law_behind_too.nd (de_call OK_label_behind hr D_label_behind.mg D_label_behind.fn.kp D_label_behind.bd (da_cons (de_v 0) (da_cons (de_v 1) (da_cons (de_v 2) (da_cons (de_v 4) (da_cons (de_v 5) (da_cons (de_v 6) da_nil))))))))
    (ds_cons (ds_setB (i := 8) (own := false) sc__law_behind_too.nd (de_call OK_label_behind hr D_label_behind.mg D_label_behind.fn.kp D_label_behind.bd (da_cons (de_v 0) (da_cons (de_v 1) (da_cons (de_v 2) (da_cons (de_v 3) (da_cons (de_v 5) (da_cons (de_v 6) da_nil))))))))
    (ds_one (ds_if (PW.pt (dw_and (dt_cmp o_notN (de_v 7) de_non) (dw_and1 (PW.pt (dw_or (dt_cmp o_isN (de_v 8) de_non) (dw_or1 (dt_not (dt_tru (de_call OK__law_no_worse (hr.mono (by decide)) D__law_no_worse.mg D__law_no_worse.fn.kp D__law_no_worse.bd (da_cons (de_v 8) (da_cons (de_v 7) da_nil)))))))))))
      (ds_one (ds_ret de_bl))
      ds_nil)))))))
    (ds_one (ds_ret de_bl)))
theorem sc_law : FnScope ["_law_script", "_law_gaps_here", "_law_rules_here", "_law_closed_here", "_law_flights_here", "_law_labels", "_law_k", "_law_one", "_law_other", "_law_found", "_law_third"] ["_law_script"] (defScope s_law) := ⟨rfl, rfl, rfl, by decide +kernel, rfl, by decide +kernel, by decide +kernel⟩
theorem ok_law {n : Nat} {P : Program} {w : World} {K : PySem.W.Frag} {mg : Str → Option Value} {base : Heap} {CR CP : Addr} (Z : Zs K mg CR CP) {f__law_gaps : Addr} {fd__law_gaps : FuncData} (D__law_gaps : Def K mg "_law_gaps" s__law_gaps ["_law_script"] f__law_gaps fd__law_gaps) (OK__law_gaps : FnOk P w K mg base CX0 3 f__law_gaps fd__law_gaps ["_law_script"] (spF K false (m__law_gaps CR CP n) 1)) {f__law_rules : Addr} {fd__law_rules : FuncData} (D__law_rules : Def K mg "_law_rules" s__law_rules ["_law_gaps_here"] f__law_rules fd__law_rules) (OK__law_rules : FnOk P w K mg base CX0 7 f__law_rules fd__law_rules ["_law_gaps_here"] (spF K false (m__law_rules CR CP n) 1)) {f__law_closed : Addr} {fd__law_closed : FuncData} (D__law_closed : Def K mg "_law_closed" s__law_closed ["_law_script"] f__law_closed fd__law_closed) (OK__law_closed : FnOk P w K mg base CX0 2 f__law_closed fd__law_closed ["_law_script"] (spF K false (m__law_closed CR CP n) 1)) {f__law_flights : Addr} {fd__law_flights : FuncData} (D__law_flights : Def K mg "_law_flights" s__law_flights ["_law_script", "_law_start", "_law_kinds", "_law_many"] f__law_flights fd__law_flights) (OK__law_flights : FnOk P w K mg base CX0 2 f__law_flights fd__law_flights ["_law_script", "_law_start", "_law_kinds", "_law_many"] (spF K false (m__law_flights CR CP n) 4)) {f__law_label : Addr} {fd__law_label : FuncData} (D__law_label : Def K mg "_law_label" s__law_label ["_law_script", "_law_start", "_law_gaps_here"] f__law_label fd__law_label) (OK__law_label : FnOk P w K mg base CX0 2 f__law_label fd__law_label ["_law_script", "_law_start", "_law_gaps_here"] (spF K false (m__law_label CR CP n) 3)) {f_is_no_worse : Addr} {fd_is_no_worse : FuncData} (D_is_no_worse : Def K mg "is_no_worse" s_is_no_worse ["one", "other"] f_is_no_worse fd_is_no_worse) (OK_is_no_worse : FnOk P w K mg base CX0 1 f_is_no_worse fd_is_no_worse ["one", "other"] (spF K false (m_is_no_worse CR CP n) 2)) {f__law_later : Addr} {fd__law_later : FuncData} (D__law_later : Def K mg "_law_later" s__law_later ["_law_label_here", "_law_cell_here"] f__law_later fd__law_later) (OK__law_later : FnOk P w K mg base CX0 1 f__law_later fd__law_later ["_law_label_here", "_law_cell_here"] (spF K false (m__law_later CR CP n) 2)) {f__law_cell : Addr} {fd__law_cell : FuncData} (D__law_cell : Def K mg "_law_cell" s__law_cell ["_law_script", "_law_k"] f__law_cell fd__law_cell) (OK__law_cell : FnOk P w K mg base CX0 1 f__law_cell fd__law_cell ["_law_script", "_law_k"] (spF K false (m__law_cell CR CP n) 2)) {f__law_behind_too : Addr} {fd__law_behind_too : FuncData} (D__law_behind_too : Def K mg "_law_behind_too" s__law_behind_too ["_law_rules_here", "_law_flights_here", "_law_closed_here", "_law_one", "_law_other"] f__law_behind_too fd__law_behind_too) (OK__law_behind_too : FnOk P w K mg base CX0 4 f__law_behind_too fd__law_behind_too ["_law_rules_here", "_law_flights_here", "_law_closed_here", "_law_one", "_law_other"] (spF K false (m__law_behind_too CR CP n) 5)) {f__law_no_worse : Addr} {fd__law_no_worse : FuncData} (D__law_no_worse : Def K mg "_law_no_worse" s__law_no_worse ["_law_one", "_law_other"] f__law_no_worse fd__law_no_worse) (OK__law_no_worse : FnOk P w K mg base CX0 1 f__law_no_worse fd__law_no_worse ["_law_one", "_law_other"] (spF K false (m__law_no_worse CR CP n) 2)) {f_law : Addr} {fd_law : FuncData} (D_law : Def K mg "law" s_law ["_law_script"] f_law fd_law) : FnOk P w K mg base CX0 8 f_law fd_law ["_law_script"] (spF K false (m_law CR CP n) 1) :=
  fn_D (O' := []) D_law.fn sc_law false (g_law CR CP n) fun cdv A outer s H E hr =>
    (ds_cons (ds_setB (i := 1) (own := false) sc_law.nd (de_call OK__law_gaps (hr.mono (by decide)) D__law_gaps.mg D__law_gaps.fn.kp D__law_gaps.bd (da_cons (de_v 0) da_nil)))
    (ds_cons (ds_setB (i := 2) (own := false) sc_law.nd (de_call OK__law_rules hr D__law_rules.mg D__law_rules.fn.kp D__law_rules.bd (da_cons (de_v 1) da_nil)))
    (ds_cons (ds_setB (i := 3) (own := false) sc_law.nd (de_call OK__law_closed (hr.mono (by decide)) D__law_closed.mg D__law_closed.fn.kp D__law_closed.bd (da_cons (de_v 0) da_nil)))
    (ds_cons (ds_setB (i := 4) (own := false) sc_law.nd (de_call OK__law_flights (hr.mono (by decide)) D__law_flights.mg D__law_flights.fn.kp D__law_flights.bd (da_cons (de_v 0) (da_cons de_int (da_cons (de_callB c_len Z.z_len PySem.boot_len (da_cons (de_ix x_ix (de_v 1) de_int) da_nil)) (da_cons de_int da_nil))))))
    (ds_cons (ds_setB (i := 5) (own := true) sc_law.nd (de_lst (da_cons (de_call OK__law_label (hr.mono (by decide)) D__law_label.mg D__law_label.fn.kp D__law_label.bd (da_cons (de_v 0) (da_cons de_int (da_cons (de_v 1) da_nil)))) da_nil)))
    (ds_cons (ds_for (pt := .nm 6) (di_rng1 Z.z_range (da_cons de_int da_nil)) (dg_nm sc_law.nd)
      (ds_one (ds_appA (i := 5) (de_call OK__law_later (hr.mono (by decide)) D__law_later.mg D__law_later.fn.kp D__law_later.bd (da_cons (de_ix x_ix (de_v 5) (de_un o_neg de_int)) (da_cons (de_call OK__law_cell (hr.mono (by decide)) D__law_cell.mg D__law_cell.fn.kp D__law_cell.bd (da_cons (de_v 0) (da_cons (de_frz (de_op o_add de_int (de_v 6))) da_nil))) da_nil))))))
    (ds_enter (O2 := []) (ds_cons (ds_for (pt := .nm 7) (di_seq (de_v 5)) (dg_nm sc_law.nd)
      (ds_one (ds_for (pt := .nm 8) (di_seq (de_v 5)) (dg_nm sc_law.nd)
      (ds_cons (ds_setB (i := 9) (own := false) sc_law.nd (de_call OK_is_no_worse (hr.mono (by decide)) D_is_no_worse.mg D_is_no_worse.fn.kp D_is_no_worse.bd (da_cons (de_v 7) (da_cons (de_v 8) da_nil))))
    (ds_cons (ds_if (PW.pt (dw_or (dt_not (dt_tru (de_isi_bool Z.kit Z.z_isinstance Z.z_bool (de_v 9)))) (dw_or1 (dt_cmp (o_ne hr.units) (de_v 9) (de_call OK__law_no_worse (hr.mono (by decide)) D__law_no_worse.mg D__law_no_worse.fn.kp D__law_no_worse.bd (da_cons (de_v 7) (da_cons (de_v 8) da_nil)))))))
      (ds_one (ds_ret de_bl))
      ds_nil)
    (ds_cons (ds_if (dt_not (dt_tru (de_v 9)))
      (ds_one ds_cont)
      ds_nil)
    (ds_cons (ds_if (dt_not (dt_tru (de_call OK__law_behind_too (hr.mono (by decide)) D__law_behind_too.mg D__law_behind_too.fn.kp D__law_behind_too.bd (da_cons (de_v 2) (da_cons (de_v 4) (da_cons (de_v 3) (da_cons (de_v 7) (da_cons (de_v 8) da_nil))))))))
      (ds_one (ds_ret de_bl))
      ds_nil)
    (ds_one (ds_for (pt := .nm 10) (di_seq (de_v 5)) (dg_nm sc_law.nd)
      (ds_one (ds_if (PW.pt (dw_and (dt_tru (de_call OK_is_no_worse (hr.mono (by decide)) D_is_no_worse.mg D_is_no_worse.fn.kp D_is_no_worse.bd (da_cons (de_v 8) (da_cons (de_v 10) da_nil)))) (dw_and1 (dt_not (dt_tru (de_call OK_is_no_worse (hr.mono (by decide)) D_is_no_worse.mg D_is_no_worse.fn.kp D_is_no_worse.bd (da_cons (de_v 7) (da_cons (de_v 10) da_nil))))))))
      (ds_one (ds_ret de_bl))
      ds_nil)))))))))))
    (ds_one (ds_ret (de_cmp o_isB (de_call OK_is_no_worse (hr.mono (by decide)) D_is_no_worse.mg D_is_no_worse.fn.kp D_is_no_worse.bd (da_cons (de_ix x_ix (de_v 5) de_int) (da_cons (de_ix x_ix (de_v 5) de_int) da_nil))) de_bl)))))))))))
noncomputable abbrev Stre := Int × Int
noncomputable def stD (p : Stre) : Dat := .tup [.int p.1, .int p.2]
theorem tupsD_map : ∀ cs : List Stre, tupsD (cs.map stD) = .ok (cs.map fun p => [p.1, p.2])
  | [] => rfl
  | p :: cs => by simp [tupsD, tupD, stD, intsD, tupsD_map cs]
theorem sorted_st (cs : List Stre) (hl : cs.length < 64) : ∃ ss : List Stre, sortedD [.lst (cs.map stD)] = .ok (.lst (ss.map stD)) ∧ ss.Perm cs ∧ ss.Pairwise (fun p q => p.1 ≤ q.1) := by
  cases hc : cs with
  | nil => exact ⟨[], by simp [sortedD, sortDs, intsD, isort], List.Perm.refl _, List.Pairwise.nil⟩
  | cons p ps =>
    rw [← hc]
    have hi : ∃ e, intsD (cs.map stD) = .error e := ⟨.stuck, by rw [hc]; simp [intsD, stD, asI]⟩
    obtain ⟨e, he⟩ := hi
    have hne : ((cs.map fun p => [p.1, p.2]).all fun t => !t.isEmpty) = true := by simp
    have es : sortedD [.lst (cs.map stD)] = .ok (.lst ((isort lexZ (cs.map fun p => [p.1, p.2])).map tupZ)) := by
      simp only [sortedD, sortDs, List.length_map, hl, if_true, he, tupsD_map, bind_ok, hne]
    have hp := isort_perm (lt := lexZ) (cs.map fun p => [p.1, p.2])
    have hs := isort_sorted ordLex (cs.map fun p => [p.1, p.2])
    generalize isort lexZ (cs.map fun p => [p.1, p.2]) = L at *
    let back : List Int → Stre := fun l => (l.getD 0 0, l.getD 1 0)
    have hL : ∀ l ∈ L, ∃ p : Stre, l = [p.1, p.2] := fun l h => by
      have := hp.mem_iff.mp h
      simp only [List.mem_map] at this
      obtain ⟨p, _, e⟩ := this
      exact ⟨p, e.symm⟩
    refine ⟨L.map back, ?_, ?_, ?_⟩
    · rw [es, List.map_map]
      congr 2
      refine List.map_congr_left fun l h => ?_
      obtain ⟨p, rfl⟩ := hL l h
      rfl
    · have := hp.map back
      rw [List.map_map] at this
      have e2 : List.map (back ∘ fun p => [p.1, p.2]) cs = cs := by
        rw [List.map_congr_left (g := id)]
        · simp
        · intro p _; rfl
      rwa [e2] at this
    · rw [List.pairwise_map]
      refine hs.imp_of_mem fun {a b} ha hb h => ?_
      obtain ⟨p, rfl⟩ := hL a ha
      obtain ⟨q, rfl⟩ := hL b hb
      show p.1 ≤ q.1
      simp only [lexZ] at h
      by_cases e1 : q.1 = p.1
      · omega
      · rw [if_neg e1] at h
        have := of_decide_eq_false h
        omega
@[simp] theorem getI_c0 (a : Dat) (l : List Dat) : getI (a :: l) 0 = .ok a := by
  unfold getI atI ixN
  rw [if_pos (by omega), if_pos (by simp <;> omega)]
  rfl
@[simp] theorem getI_c1 (a b : Dat) (l : List Dat) : getI (a :: b :: l) 1 = .ok b := by
  unfold getI atI ixN
  rw [if_pos (by omega), if_pos (by simp <;> omega)]
  rfl
@[simp] theorem getI_c2 (a b c : Dat) (l : List Dat) : getI (a :: b :: c :: l) 2 = .ok c := by
  unfold getI atI ixN
  rw [if_pos (by omega), if_pos (by simp <;> omega)]
  rfl
@[simp] theorem getI_c3 (a b c d : Dat) (l : List Dat) : getI (a :: b :: c :: d :: l) 3 = .ok d := by
  unfold getI atI ixN
  rw [if_pos (by omega), if_pos (by simp <;> omega)]
  rfl
@[simp] theorem getI_c4 (a b c d e : Dat) (l : List Dat) : getI (a :: b :: c :: d :: e :: l) 4 = .ok e := by
  unfold getI atI ixN
  rw [if_pos (by omega), if_pos (by simp <;> omega)]
  rfl
section
variable (CR CP : Addr)
noncomputable def rowD (r : List Int) : Dat := .lst (r.map .int)
noncomputable def rowsD (rows : List (List Int)) : Dat := .lst (rows.map rowD)
noncomputable def GoodRow (k : Nat) (r : List Int) : Prop := r.length = k ∧ ∀ x ∈ r, 0 ≤ x ∧ x ≤ 1000000
noncomputable def GoodRows (k : Nat) (rows : List (List Int)) : Prop := rows.length = k ∧ ∀ r ∈ rows, GoodRow k r
theorem rangeL_get {lo : Int} {m i : Nat} {d : Dat} (h : (rangeL lo m)[i]? = some d) : i < m ∧ d = .int (lo + i) := by
  unfold rangeL at h
  rw [List.getElem?_map] at h
  obtain ⟨a, h1, h2⟩ := Option.map_eq_some_iff.mp h
  have hi := (List.getElem?_eq_some_iff.mp h1).1
  rw [List.length_range] at hi
  rw [List.getElem?_range hi] at h1
  cases h1
  exact ⟨hi, h2.symm⟩
theorem range0_get {m i : Nat} {d : Dat} (h : (rangeL 0 m)[i]? = some d) : i < m ∧ d = .int i := by
  obtain ⟨h1, h2⟩ := rangeL_get h
  exact ⟨h1, by rw [h2, Int.zero_add]⟩
theorem rangeL_len (lo : Int) (m : Nat) : (rangeL lo m).length = m := by unfold rangeL; simp
end
section
variable (CR CP : Addr)
theorem is_gap_ok (n : Nat) (x : Int) (h0 : 0 ≤ x) (h1 : x ≤ 1000000) : m_is_gap CR CP n [.int x] = .ok (.bl true) := by simp [m_is_gap, g_is_gap, c_is_gap_1, h0, h1]
theorem is_gap_row_ok (n : Nat) (k : Nat) (r : List Int) (hk : k ≤ 6) (h : GoodRow k r) : m_is_gap_row CR CP n [rowD r, .int k] = .ok (.bl true) := by
  have hl : r.length ≤ 16777216 := by have := h.1; omega
  have hk' : k ≤ 16777216 := by omega
  have e : compD (.nm 0) fYes (fL (m_is_gap CR CP n) (fCons (fVar 0) fNil)) [none] (r.map .int) = .ok ((r.map fun _ => true).map Dat.bl) := by
    have := compD_map (p := .nm 0) (fe := fL (m_is_gap CR CP n) (fCons (fVar 0) fNil)) (ρ0 := [none]) (fun _ => .bl true) (r.map .int) (fun d hd => by
      obtain ⟨x, hx, rfl⟩ := List.mem_map.mp hd
      exact ⟨[some (.int x)], by simp, by simp [is_gap_ok CR CP n x (h.2 x hx).1 (h.2 x hx).2]⟩)
    rw [this, List.map_map, List.map_map]
    rfl
  simp [m_is_gap_row, g_is_gap_row, rowD, e, hl, hk', h.1, -List.map_map]
theorem copied_ok (n : Nat) (rows : List (List Int)) (hl : rows.length ≤ 1000) : m_copied_rows CR CP n [rowsD rows] = .ok (rowsD rows) := by
  have hl2 : rows.length ≤ 16777216 := by omega
  have e : compD (.nm 0) fYes (fL listD (fCons (fVar 0) fNil)) [none] (rows.map rowD) = .ok (rows.map rowD) := by
    have := compD_map (p := .nm 0) (fe := fL listD (fCons (fVar 0) fNil)) (ρ0 := [none]) id (rows.map rowD) (fun d hd => by
      obtain ⟨x, hx, rfl⟩ := List.mem_map.mp hd
      exact ⟨[some (rowD x)], by simp, by simp [rowD]⟩)
    rw [this, List.map_id]
  simp [m_copied_rows, g_copied_rows, rowsD, e, hl2]
theorem checked_ok (n : Nat) (k : Nat) (rows : List (List Int)) (h1 : 1 ≤ k) (h6 : k ≤ 6) (h : GoodRows k rows) : m_checked_rows CR CP n [rowsD rows] = .ok (rowsD rows) := by
  have hl2 : rows.length ≤ 16777216 := by have := h.1; omega
  have e : compD (.nm 0) fYes (fL (m_is_gap_row CR CP n) (fCons (fVar 0) (fCons (fVar 1) fNil))) [none, some (.int rows.length)] (rows.map rowD) = .ok ((rows.map fun _ => true).map Dat.bl) := by
    have := compD_map (p := .nm 0) (fe := fL (m_is_gap_row CR CP n) (fCons (fVar 0) (fCons (fVar 1) fNil))) (ρ0 := [none, some (.int rows.length)]) (fun _ => .bl true) (rows.map rowD) (fun d hd => by
      obtain ⟨x, hx, rfl⟩ := List.mem_map.mp hd
      exact ⟨[some (rowD x), some (.int rows.length)], by simp, by simp [h.1, is_gap_row_ok CR CP n k x h6 (h.2 x hx)]⟩)
    rw [this, List.map_map, List.map_map]
    rfl
  have a1 : (1 : Int) ≤ rows.length := by have := h.1; omega
  have a2 : (rows.length : Int) ≤ 6 := by have := h.1; omega
  have e3 := copied_ok CR CP n rows (by have := h.1; omega)
  simp only [rowsD] at e3
  simp [m_checked_rows, g_checked_rows, c_checked_rows_1, c_checked_rows_2, rowsD, e, e3, hl2, a1, a2, -List.map_map]
noncomputable def rulesD (rows : List (List Int)) : Dat → Dat
  | .non => .ins CR [("gaps", rowsD rows)]
  | o => .ins CP [("gaps", rowsD rows), ("beside", o)]
theorem gaps_at (rows : List (List Int)) (o : Dat) (ho : o = .non ∨ ∃ rows2, o = rowsD rows2) : attrD [CR, CP] "gaps" (rulesD CR CP rows o) = .ok (rowsD rows) := by
  have h1 : ((("gaps" : Str) == ("gaps" : Str)) = true) := by decide +kernel
  rcases ho with rfl | ⟨rows2, rfl⟩
  · show (if ([CR, CP].contains CR) = true then (match List.lookup ("gaps" : Str) [(("gaps" : Str), rowsD rows)] with | some d => Except.ok d | none => stk) else stk) = _
    rw [if_pos (by simp), List.lookup_cons, h1]
  · show (if ([CR, CP].contains CP) = true then (match List.lookup ("gaps" : Str) [(("gaps" : Str), rowsD rows), (("beside" : Str), rowsD rows2)] with | some d => Except.ok d | none => stk) else stk) = _
    rw [if_pos (by simp), List.lookup_cons, h1]
end
structure Fli where
  kind : Int
  first : Int
  last : Int
  due : Int
  price : Int
noncomputable def flD (f : Fli) : Dat := .tup [.int f.kind, .int f.first, .int f.last, .int f.due, .int f.price]
structure GoodFl (k : Nat) (f : Fli) : Prop where
  k0 : 0 ≤ f.kind
  k1 : f.kind < k
  f0 : 0 ≤ f.first
  f1 : f.first ≤ f.last
  l1 : f.last ≤ 1000000000
  d0 : 0 ≤ f.due
  d1 : f.due ≤ 1000000000
  p0 : 0 ≤ f.price
  p1 : f.price ≤ 1000000000
@[simp] theorem flatD_int (i : Int) : flatD (.int i) = true := by rw [flatD] <;> simp
noncomputable def flAt (fl : List Fli) (i : Int) : Fli := match fl[i.toNat]? with
  | some f => f
  | none => ⟨0, 0, 0, 0, 0⟩
theorem getFl {fl : List Fli} {i : Int} (h0 : 0 ≤ i) (h1 : i < fl.length) : getI (fl.map flD) i = .ok (flD (flAt fl i)) ∧ flAt fl i ∈ fl := by
  have hj : i.toNat < fl.length := by omega
  have e : flAt fl i = fl[i.toNat] := by unfold flAt; rw [List.getElem?_eq_getElem hj]
  refine ⟨?_, by rw [e]; exact List.getElem_mem hj⟩
  have := getI_nat (ds := fl.map flD) (k := i.toNat) (by simpa using hj)
  rw [show ((i.toNat : Nat) : Int) = i by omega] at this
  rw [this, e]
  simp
noncomputable def Cov (cs : List Stre) (t : Int) : Prop := ∃ p ∈ cs, p.1 ≤ t ∧ t < p.2
noncomputable def NextIs (cs : List Stre) (t u : Int) : Prop := t ≤ u ∧ ¬ Cov cs u ∧ ∀ v, t ≤ v → v < u → Cov cs v
noncomputable def LastIs (cs : List Stre) (t u : Int) : Prop := u ≤ t ∧ ¬ Cov cs u ∧ ∀ v, u < v → v ≤ t → Cov cs v
theorem NextIs.uniq {cs : List Stre} {t u v : Int} (h : NextIs cs t u) (k : NextIs cs t v) : u = v := by
  rcases Int.lt_trichotomy u v with e | e | e
  · exact absurd (k.2.2 u h.1 e) h.2.1
  · exact e
  · exact absurd (h.2.2 v k.1 e) k.2.1
theorem LastIs.uniq {cs : List Stre} {t u v : Int} (h : LastIs cs t u) (k : LastIs cs t v) : u = v := by
  rcases Int.lt_trichotomy u v with e | e | e
  · exact absurd (h.2.2 v e k.1) k.2.1
  · exact e
  · exact absurd (k.2.2 u e h.1) h.2.1
theorem cov_nil (t : Int) : ¬ Cov [] t := fun ⟨_, h, _⟩ => by simp at h
theorem cov_cons {p : Stre} {cs : List Stre} {t : Int} : Cov (p :: cs) t ↔ (p.1 ≤ t ∧ t < p.2) ∨ Cov cs t := by
  constructor
  · rintro ⟨q, h, h2⟩
    rcases List.mem_cons.mp h with e | e
    · subst e; exact .inl h2
    · exact .inr ⟨q, e, h2⟩
  · rintro (h | ⟨q, h, h2⟩)
    · exact ⟨p, by simp, h⟩
    · exact ⟨q, by simp [h], h2⟩
theorem cov_append {as bs : List Stre} {t : Int} : Cov (as ++ bs) t ↔ Cov as t ∨ Cov bs t := by
  constructor
  · rintro ⟨q, h, h2⟩
    rcases List.mem_append.mp h with e | e
    · exact .inl ⟨q, e, h2⟩
    · exact .inr ⟨q, e, h2⟩
  · rintro (⟨q, h, h2⟩ | ⟨q, h, h2⟩)
    · exact ⟨q, by simp [h], h2⟩
    · exact ⟨q, by simp [h], h2⟩
theorem cov_perm {as bs : List Stre} (h : as.Perm bs) {t : Int} : Cov as t ↔ Cov bs t := ⟨fun ⟨p, m, q⟩ => ⟨p, h.mem_iff.mp m, q⟩, fun ⟨p, m, q⟩ => ⟨p, h.mem_iff.mpr m, q⟩⟩
theorem cov_one {p : Stre} {t : Int} : Cov [p] t ↔ p.1 ≤ t ∧ t < p.2 := by rw [cov_cons]; simp [cov_nil]
noncomputable def tAt (ts : List Int) (i : Nat) : Int := ts.getD i 0
noncomputable def rwAt (rows : List (List Int)) (i : Int) : List Int := rows.getD i.toNat []
noncomputable def at2 (rows : List (List Int)) (i j : Int) : Int := (rwAt rows i).getD j.toNat 0
noncomputable def apS (rows r2 : List (List Int)) (a b : Stre) : Int := if a.2 = b.2 then at2 rows a.1 b.1 else at2 r2 a.1 b.1
noncomputable def spot (fl : List Fli) (p : Stre) : Stre := ((flAt fl p.1).kind, p.2)
structure Wo where
  k : Nat
  rows : List (List Int)
  r2 : List (List Int)
  o : Dat
  fl : List Fli
  cs : List Stre
  qs : List Stre
structure Wo.Good (w : Wo) : Prop where
  k1 : 1 ≤ w.k
  k6 : w.k ≤ 6
  rows : GoodRows w.k w.rows
  o : (w.o = .non ∧ ∀ p ∈ w.qs, p.2 = 0) ∨ (w.o = rowsD w.r2 ∧ GoodRows w.k w.r2)
  fl : ∀ f ∈ w.fl, GoodFl w.k f
  fll : w.fl.length ≤ 60
  cs : ∀ p ∈ w.cs, p.1 < p.2
  csl : w.cs.length ≤ 20
  qs : ∀ p ∈ w.qs, 0 ≤ p.1 ∧ p.1 < w.fl.length
  qsl : w.qs.length = w.fl.length
theorem getT {ts : List Int} {i : Nat} (h : i < ts.length) : getI (ts.map .int) (i : Int) = .ok (.int (tAt ts i)) := by
  rw [getI_nat (by simpa using h)]
  simp [tAt, h]
theorem getR {k : Nat} {rows : List (List Int)} (g : GoodRows k rows) {i : Int} (h0 : 0 ≤ i) (h1 : i < k) : getI (rows.map rowD) i = .ok (rowD (rwAt rows i)) ∧ GoodRow k (rwAt rows i) := by
  have hl := g.1
  have hj : i.toNat < rows.length := by omega
  have e : rwAt rows i = rows[i.toNat] := by simp [rwAt, hj]
  refine ⟨?_, by rw [e]; exact g.2 _ (List.getElem_mem hj)⟩
  have := getI_nat (ds := rows.map rowD) (k := i.toNat) (by simpa using hj)
  rw [show ((i.toNat : Nat) : Int) = i by omega] at this
  rw [this, e]
  simp
theorem getA {k : Nat} {rows : List (List Int)} (g : GoodRows k rows) {i j : Int} (h0 : 0 ≤ i) (h1 : i < k) (h2 : 0 ≤ j) (h3 : j < k) : getI ((rwAt rows i).map .int) j = .ok (.int (at2 rows i j)) ∧ 0 ≤ at2 rows i j := by
  have gr := (getR g h0 h1).2
  have hl := gr.1
  have hj : j.toNat < (rwAt rows i).length := by omega
  have e : at2 rows i j = (rwAt rows i)[j.toNat] := by simp [at2, hj]
  refine ⟨?_, by rw [e]; exact (gr.2 _ (List.getElem_mem hj)).1⟩
  rw [getI_int h2 (by omega), e]
theorem lookA1 (d : Dat) : List.lookup ("apart" : Str) [(("gaps" : Str), d)] = none := by
  rw [List.lookup_cons, show ((("apart" : Str) == ("gaps" : Str)) = false) from by decide +kernel]
  rfl
theorem lookA2 (d e : Dat) : List.lookup ("apart" : Str) [(("gaps" : Str), d), (("beside" : Str), e)] = none := by
  rw [List.lookup_cons, show ((("apart" : Str) == ("gaps" : Str)) = false) from by decide +kernel]
  show List.lookup ("apart" : Str) [(("beside" : Str), e)] = none
  rw [List.lookup_cons, show ((("apart" : Str) == ("beside" : Str)) = false) from by decide +kernel]
  rfl
section
variable (CR CP : Addr)
theorem beside_at (rows r2 : List (List Int)) : attrD [CP] "beside" (rulesD CR CP rows (rowsD r2)) = .ok (rowsD r2) := by
  have h1 : ((("beside" : Str) == ("gaps" : Str)) = false) := by decide +kernel
  have h2 : ((("beside" : Str) == ("beside" : Str)) = true) := by decide +kernel
  show (if ([CP].contains CP) = true then (match List.lookup ("beside" : Str) [(("gaps" : Str), rowsD rows), (("beside" : Str), rowsD r2)] with | some d => Except.ok d | none => stk) else stk) = _
  rw [if_pos (by simp), List.lookup_cons, h1]
  show (match List.lookup ("beside" : Str) [(("beside" : Str), rowsD r2)] with | some d => Except.ok d | none => stk) = _
  rw [List.lookup_cons, h2]
end
theorem compD_rng {p : Pat} {ft : Env' → M Bool} {fe : Env' → M Dat} {ρ0 : Env'} (b : Nat → Bool) (f : Nat → Dat) (m : Nat) (h : ∀ j, j < m → ∃ ρ, bindP p (.int j) ρ0 = .ok ρ ∧ ft ρ = .ok (b j) ∧ (b j = true → fe ρ = .ok (f j))) : compD p ft fe ρ0 (rangeL 0 m) = .ok (((List.range m).filter b).map f) := by
  have key : ∀ ks : List Nat, (∀ j ∈ ks, j < m) → compD p ft fe ρ0 (ks.map fun j : Nat => Dat.int (j : Int)) = .ok ((ks.filter b).map f) := by
    intro ks
    induction ks with
    | nil => intro _; rfl
    | cons j ks ih =>
      intro hk
      obtain ⟨ρ, e1, e2, e3⟩ := h j (hk j (by simp))
      have ih := ih fun x hx => hk x (by simp [hx])
      rw [List.map_cons, compD, e1, bind_ok, e2, bind_ok]
      by_cases hb : b j = true
      · rw [if_pos hb, e3 hb, bind_ok, ih, bind_ok, List.filter_cons_of_pos hb]
        rfl
      · rw [if_neg hb, ih, List.filter_cons_of_neg hb]
  have := key (List.range m) fun j hj => List.mem_range.mp hj
  rw [← this]
  unfold rangeL
  congr 1
  exact List.map_congr_left fun j _ => by simp
noncomputable def Joined (js : List Stre) : Prop := js.Pairwise (fun p q => p.2 < q.1) ∧ ∀ p ∈ js, p.1 < p.2
theorem ixN_last (n : Nat) : ixN (n + 1) (-1) = some n := by unfold ixN; simp <;> omega
@[simp] theorem getI_last (ds : List Dat) (d : Dat) : getI (ds ++ [d]) (-1) = .ok d := by
  unfold getI atI
  rw [List.length_append, List.length_singleton, ixN_last]
  simp
noncomputable def JoinedOf (js done : List Stre) : Prop := Joined js ∧ (∀ t, Cov js t ↔ Cov done t) ∧ js.length ≤ done.length ∧ ∀ j ∈ js, ∃ d ∈ done, d.1 = j.1
theorem JoinedOf.new {js done : List Stre} {p : Stre} (h : JoinedOf js done) (hp : p.1 < p.2) (hlt : ∀ x ∈ js, x.2 < p.1) : JoinedOf (js ++ [p]) (done ++ [p]) := by
  obtain ⟨⟨h1, h2⟩, h3, h4, h5⟩ := h
  refine ⟨⟨?_, ?_⟩, ?_, by simp; exact h4, ?_⟩
  · rw [List.pairwise_append]
    exact ⟨h1, by simp, fun a ha b hb => by simp at hb; subst hb; exact hlt a ha⟩
  · intro x hx
    rcases List.mem_append.mp hx with e | e
    · exact h2 x e
    · simp at e; subst e; exact hp
  · intro t; rw [cov_append, cov_append, h3]
  · intro j hj
    rcases List.mem_append.mp hj with e | e
    · obtain ⟨d, m, z⟩ := h5 j e; exact ⟨d, by simp [m], z⟩
    · simp at e; subst e; exact ⟨j, by simp, rfl⟩
theorem JoinedOf.more {js0 done : List Stre} {q p : Stre} (h : JoinedOf (js0 ++ [q]) done) (hp : p.1 < p.2) (h1 : q.1 ≤ p.1) (h2 : p.1 ≤ q.2) : JoinedOf (js0 ++ [(q.1, maxZ p.2 q.2)]) (done ++ [p]) := by
  obtain ⟨⟨a1, a2⟩, a3, a4, a5⟩ := h
  have hq : q.1 < q.2 := a2 q (by simp)
  have hm1 : p.2 ≤ maxZ p.2 q.2 := by unfold maxZ; split <;> omega
  have hm2 : q.2 ≤ maxZ p.2 q.2 := by unfold maxZ; split <;> omega
  have hm3 : maxZ p.2 q.2 = p.2 ∨ maxZ p.2 q.2 = q.2 := by unfold maxZ; split <;> omega
  rw [List.pairwise_append] at a1
  refine ⟨⟨?_, ?_⟩, ?_, by simp at a4 ⊢; omega, ?_⟩
  · rw [List.pairwise_append]
    exact ⟨a1.1, by simp, fun a ha b hb => by simp at hb; subst hb; exact a1.2.2 a ha q (by simp)⟩
  · intro x hx
    rcases List.mem_append.mp hx with e | e
    · exact a2 x (by simp [e])
    · simp at e; subst e; show q.1 < maxZ p.2 q.2; omega
  · intro t
    have := a3 t
    rw [cov_append, cov_one] at this
    rw [cov_append, cov_append, ← this, cov_one, cov_one]
    show Cov js0 t ∨ q.1 ≤ t ∧ t < maxZ p.2 q.2 ↔ _
    constructor
    · rintro (z | z)
      · exact .inl (.inl z)
      · by_cases e : t < q.2
        · exact .inl (.inr ⟨z.1, e⟩)
        · exact .inr (by omega)
    · rintro ((z | z) | z)
      · exact .inl z
      · exact .inr (by omega)
      · exact .inr (by omega)
  · intro j hj
    rcases List.mem_append.mp hj with e | e
    · obtain ⟨d, m, z⟩ := a5 j (by simp [e]); exact ⟨d, by simp [m], z⟩
    · simp at e; subst e
      obtain ⟨d, m, z⟩ := a5 q (by simp)
      exact ⟨d, by simp [m], z⟩
theorem find_loop {g : Env' → M Flo} {c : Option Dat} {t : Int} (r : Stre → Dat) (hg : ∀ p : Stre, g [c, some (.int t), some (.int p.1), some (.int p.2)] = if p.1 ≤ t ∧ t < p.2 then .ok (.rt (r p)) else .ok (.nx [c, some (.int t), some (.int p.1), some (.int p.2)])) :
    ∀ (js : List Stre) (z1 z2 : Option Dat), (∃ p ∈ js, (p.1 ≤ t ∧ t < p.2) ∧ forD (.tp [2, 3]) g (js.map stD) [c, some (.int t), z1, z2] = .ok (.rt (r p))) ∨ (¬ Cov js t ∧ ∃ z1' z2', forD (.tp [2, 3]) g (js.map stD) [c, some (.int t), z1, z2] = .ok (.nx [c, some (.int t), z1', z2']))
  | [], z1, z2 => .inr ⟨cov_nil t, z1, z2, rfl⟩
  | p :: js, z1, z2 => by
    have hb : bindP (.tp [2, 3]) (stD p) [c, some (.int t), z1, z2] = .ok [c, some (.int t), some (.int p.1), some (.int p.2)] := by simp [stD]
    by_cases h : p.1 ≤ t ∧ t < p.2
    · refine .inl ⟨p, by simp, h, ?_⟩
      rw [List.map_cons, forD, hb, bind_ok, hg, if_pos h]
      rfl
    · have e : forD (.tp [2, 3]) g ((p :: js).map stD) [c, some (.int t), z1, z2] = forD (.tp [2, 3]) g (js.map stD) [c, some (.int t), some (.int p.1), some (.int p.2)] := by
        rw [List.map_cons, forD, hb, bind_ok, hg, if_neg h]
        rfl
      rcases find_loop r hg js (some (.int p.1)) (some (.int p.2)) with ⟨q, hq, h2, h3⟩ | ⟨h2, h3⟩
      · exact .inl ⟨q, by simp [hq], h2, by rw [e]; exact h3⟩
      · refine .inr ⟨fun z => ?_, by rw [e]; exact h3⟩
        rcases cov_cons.mp z with z | z
        · exact h z
        · exact h2 z
theorem Joined.tri : ∀ {js : List Stre}, Joined js → ∀ p ∈ js, ∀ q ∈ js, p = q ∨ p.2 < q.1 ∨ q.2 < p.1
  | [], _, p, hp, _, _ => by simp at hp
  | a :: js, ⟨h1, h2⟩, p, hp, q, hq => by
    rw [List.pairwise_cons] at h1
    rcases List.mem_cons.mp hp with e | e <;> rcases List.mem_cons.mp hq with e2 | e2
    · exact .inl (e.trans e2.symm)
    · subst e; exact .inr (.inl (h1.1 q e2))
    · subst e2; exact .inr (.inr (h1.1 p e))
    · exact Joined.tri (js := js) ⟨h1.2, fun x hx => h2 x (by simp [hx])⟩ p e q e2
section
variable (CR CP : Addr)
theorem joined_ok (n : Nat) (cs : List Stre) (hl : cs.length < 64) (hs : ∀ p ∈ cs, p.1 < p.2) : ∃ js : List Stre, m_joined_stretches CR CP n [.lst (cs.map stD)] = .ok (.lst (js.map stD)) ∧ Joined js ∧ (∀ t, Cov js t ↔ Cov cs t) ∧ js.length ≤ cs.length := by
  obtain ⟨ss, e, hp, hw⟩ := sorted_st cs hl
  have hlen : ss.length = cs.length := hp.length_eq
  have key := forD_inv (p := .tp [2, 3]) (g := b_joined_stretches_2 CR CP n)
    (fun k ρ => ∃ js z1 z2, ρ = [some (.lst (cs.map stD)), some (.lst (js.map stD)), z1, z2] ∧ JoinedOf js (ss.take k)) (ss.map stD) 0 [some (.lst (cs.map stD)), some (.lst []), none, none] ⟨[], none, none, rfl, ⟨by simp [Joined], fun t => Iff.rfl, by simp, by simp⟩⟩ (by
    rintro i d ρ hd ⟨js, z1, z2, rfl, hj⟩
    rw [List.getElem?_map] at hd
    obtain ⟨p, hpi, rfl⟩ := Option.map_eq_some_iff.mp hd
    obtain ⟨hi, hpe⟩ := List.getElem?_eq_some_iff.mp hpi
    have htk : ss.take (0 + i + 1) = ss.take (0 + i) ++ [p] := by rw [Nat.zero_add, List.take_succ, hpi]; rfl
    have hpp : p.1 < p.2 := hs p (hp.mem_iff.mp (List.mem_of_getElem? hpi))
    have hstart : ∀ j ∈ js, j.1 ≤ p.1 := fun j hjm => by
      obtain ⟨d, dm, de⟩ := hj.2.2.2 j hjm
      rw [Nat.zero_add] at dm
      obtain ⟨m, hm, hme⟩ := List.mem_take_iff_getElem.mp dm
      have := List.pairwise_iff_getElem.mp hw m i (by omega) hi (by omega)
      rw [hme, hpe] at this
      omega
    have hjl : js.length < 64 := by
      have := hj.2.2.1
      rw [List.length_take] at this
      omega
    refine ⟨_, by simp [stD]; rfl, ?_⟩
    rw [htk]
    rcases List.eq_nil_or_concat js with e0 | ⟨js0, q, e0⟩
    · subst e0
      refine ⟨_, .inl (by simp [b_joined_stretches_2, c_joined_stretches_1]; rfl), [p], some (.int p.1), some (.int p.2), by simp [stD], by simpa using hj.new hpp (by simp)⟩
    · rw [List.concat_eq_append] at e0
      subst e0
      by_cases hc : p.1 ≤ q.2
      · refine ⟨_, .inl (by simp [b_joined_stretches_2, c_joined_stretches_1, stD, hc, flatD, flatDs, ixN_last]; rfl), js0 ++ [(q.1, maxZ p.2 q.2)], some (.int p.1), some (.int p.2), ?_, hj.more hpp (hstart q (by simp)) hc⟩
        simp [stD]
      · have hlt : ∀ x ∈ js0 ++ [q], x.2 < p.1 := fun x hx => by
          rcases List.mem_append.mp hx with e | e
          · have h1 := (List.pairwise_append.mp hj.1.1).2.2 x e q (by simp)
            have h2 := hj.1.2 q (by simp)
            omega
          · simp at e; subst e; omega
        simp at hjl
        have hjl2 : js0.length + 1 < 16777216 := by omega
        refine ⟨_, .inl (by simp [b_joined_stretches_2, c_joined_stretches_1, stD, hc, hjl2]; rfl), js0 ++ [q] ++ [p], some (.int p.1), some (.int p.2), by simp [stD], hj.new hpp hlt⟩)
  obtain ⟨ρ', e2, js, z1, z2, rfl, hj⟩ := key
  refine ⟨js, ?_, hj.1, fun t => ?_, ?_⟩
  · simp [m_joined_stretches, g_joined_stretches, e, e2]
  · rw [hj.2.1 t, Nat.zero_add, List.length_map, List.take_length]
    exact cov_perm hp
  · have := hj.2.2.1
    rw [List.length_take, List.length_map] at this
    omega
theorem next_ok (n : Nat) (cs : List Stre) (t : Int) (hl : cs.length < 64) (hs : ∀ p ∈ cs, p.1 < p.2) : ∃ u, m_next_open CR CP n [.lst (cs.map stD), .int t] = .ok (.int u) ∧ NextIs cs t u := by
  obtain ⟨js, e, hj, hc, _⟩ := joined_ok CR CP n cs hl hs
  rcases find_loop (g := b_next_open_2 CR CP n) (c := some (.lst (cs.map stD))) (t := t) (fun p => .int p.2) (fun p => by by_cases h1 : p.1 ≤ t <;> by_cases h2 : t < p.2 <;> simp [b_next_open_2, c_next_open_1, h1, h2]) js none none with ⟨p, hp, h, e2⟩ | ⟨h, z1, z2, e2⟩
  · refine ⟨p.2, by simp [m_next_open, g_next_open, e, e2], by omega, fun z => ?_, fun v h1 h2 => (hc v).mp ⟨p, hp, by omega, h2⟩⟩
    obtain ⟨q, hq, h3⟩ := (hc _).mpr z
    rcases hj.tri p hp q hq with e | e | e
    · subst e; omega
    · omega
    · have := hj.2 p hp; omega
  · exact ⟨t, by simp [m_next_open, g_next_open, e, e2], Int.le_refl _, fun z => h ((hc t).mpr z), fun v h1 h2 => by omega⟩
end
noncomputable def late (f : Fli) (t : Int) : Int := f.price * maxZ 0 (t - f.due)
noncomputable def costs (fl : List Fli) : List Stre → List Int → List Int
  | p :: qs, t :: ts => late (flAt fl p.1) t :: costs fl qs ts
  | _, _ => []
section
variable (CR CP : Addr)
theorem late_ok (n : Nat) (f : Fli) (t : Int) (h0 : 0 ≤ f.price) (h1 : f.price ≤ 1000000000) : m_late_cost CR CP n [flD f, .int t] = .ok (.int (late f t)) := by
  have c1 : -18446744073709551616 < f.price := by omega
  have c2 : f.price < 18446744073709551616 := by omega
  simp [m_late_cost, g_late_cost, flD, c1, c2, late]
end
theorem okEs_in (n : Nat) : ∀ ts : List Int, okEs (ts.map .int) (n + 1) = true
  | [] => by simp [okEs]
  | p :: cs => by simp [okEs, okE, okEs_in n cs]
theorem eq_nil_in (ns : List Int) : eqM (.lst (ns.map .int)) (.lst []) = .ok (.bl ns.isEmpty) := by
  have h : okE (.lst (ns.map .int)) 40 = true := by simp [okE, okEs_in]
  unfold eqM
  rw [h]
  cases ns <;> simp [okE, okEs, eqD, eqDs]
section
variable (CR CP : Addr)
theorem cell_ok (n : Nat) (ns : List Int) (k : Int) (h0 : 0 ≤ k) (h1 : k < 1000000) : ∃ x, m__law_cell CR CP n [.lst (ns.map .int), .int k] = .ok (.int x) := by
  by_cases hk : k < ns.length
  · exact ⟨_, by simp [m__law_cell, g__law_cell, c__law_cell_1, hk, getI_int h0 hk]; rfl⟩
  · have eq0 := eq_nil_in ns
    by_cases hl : 0 < ns.length
    · have hl' : (0 : Int) < ns.length := by omega
      have hm0 : 0 ≤ k % (ns.length : Int) := Int.emod_nonneg _ (by omega)
      have hm1 : k % (ns.length : Int) < (ns.length : Int) := Int.emod_lt_of_pos _ hl'
      have hne : ns.isEmpty = false := by cases ns with | nil => simp at hl | cons a b => rfl
      have k1 : -18446744073709551616 < k := by omega
      have k2 : k < 18446744073709551616 := by omega
      rw [hne] at eq0
      exact ⟨_, by simp [m__law_cell, g__law_cell, c__law_cell_1, hk, c__law_cell_2, eq0, getI_int hm0 hm1, e_mod hl', k1, k2]; rfl⟩
    · have hne : ns.isEmpty = true := by cases ns with | nil => rfl | cons a b => simp at hl
      rw [hne] at eq0
      exact ⟨0, by simp [m__law_cell, g__law_cell, c__law_cell_1, hk, c__law_cell_2, eq0]⟩
theorem gap_v (c : Int) : ∃ v m : Int, 0 ≤ v ∧ v ≤ 1000000 ∧ 0 < m ∧ getI [.int 40, .int 1000001] (c / 4 % 2) = .ok (.int m) ∧ getI [.int 0, .int (c / 4 % 10), .int (c / 4 % 10), .int (c / 4 % m)] (c % 4) = .ok (.int v) := by
  obtain ⟨m, hm0, hm1, em⟩ : ∃ m : Int, 0 < m ∧ m ≤ 1000001 ∧ getI [.int 40, .int 1000001] (c / 4 % 2) = .ok (.int m) := by
    have q : c / 4 % 2 = 0 ∨ c / 4 % 2 = 1 := by omega
    rcases q with h | h
    · exact ⟨40, by omega, by omega, by rw [h]; simp⟩
    · exact ⟨1000001, by omega, by omega, by rw [h]; simp⟩
  have a0 : 0 ≤ c / 4 % m := Int.emod_nonneg _ (by omega)
  have a1 : c / 4 % m < m := Int.emod_lt_of_pos _ hm0
  have q : c % 4 = 0 ∨ c % 4 = 1 ∨ c % 4 = 2 ∨ c % 4 = 3 := by omega
  rcases q with h | h | h | h
  · exact ⟨0, m, by omega, by omega, hm0, em, by rw [h]; simp⟩
  · exact ⟨c / 4 % 10, m, by omega, by omega, hm0, em, by rw [h]; simp⟩
  · exact ⟨c / 4 % 10, m, by omega, by omega, hm0, em, by rw [h]; simp⟩
  · exact ⟨c / 4 % m, m, by omega, by omega, hm0, em, by rw [h]; simp⟩
theorem gapr_row (n : Nat) (ns : List Int) (b : Nat) (k one : Nat) (rows : List Dat) (z6 z7 : Option Dat) (hb : b ≤ 100) (hk : k ≤ 3) (ho : one < k) :
    ∃ (r : List Int) (y6 y7 : Option Dat), GoodRow k r ∧ forD (.nm 6) (b__law_gap_rows_1 CR CP n) (rangeL 0 k) [some (.lst (ns.map .int)), some (.int b), some (.int k), some (.lst rows), some (.int one), some (.lst []), z6, z7] = .ok (.nx [some (.lst (ns.map .int)), some (.int b), some (.int k), some (.lst rows), some (.int one), some (rowD r), y6, y7]) := by
  obtain ⟨ρ', e, r, y6, y7, rfl, h1, h2⟩ := forD_inv (p := .nm 6) (g := b__law_gap_rows_1 CR CP n)
    (fun i ρ => ∃ (r : List Int) (z6 z7 : Option Dat), ρ = [some (.lst (ns.map .int)), some (.int b), some (.int k), some (.lst rows), some (.int one), some (rowD r), z6, z7] ∧ r.length = i ∧ ∀ x ∈ r, 0 ≤ x ∧ x ≤ 1000000) (rangeL 0 k) 0 _ ⟨[], z6, z7, rfl, rfl, by simp⟩ (by
    rintro i d ρ hd ⟨r, z6, z7, rfl, hr1, hr2⟩
    obtain ⟨hi, rfl⟩ := range0_get hd
    have hm : (k : Int) * one ≤ 9 := by
      have : k * one ≤ 3 * 3 := Nat.mul_le_mul hk (by omega)
      exact_mod_cast this
    have hm0 : 0 ≤ (k : Int) * one := Int.mul_nonneg (by omega) (by omega)
    obtain ⟨c, ec⟩ := cell_ok CR CP n ns ((b : Int) + (k : Int) * one + (i : Int)) (by omega) (by omega)
    obtain ⟨v, m, hv0, hv1, hm1, em, ev⟩ := gap_v c
    have k1 : -18446744073709551616 < (k : Int) := by omega
    have k2 : (k : Int) < 18446744073709551616 := by omega
    have hl : r.length < 16777216 := by omega
    refine ⟨[some (.lst (ns.map .int)), some (.int b), some (.int k), some (.lst rows), some (.int one), some (rowD r), some (.int i), z7], by simp, [some (.lst (ns.map .int)), some (.int b), some (.int k), some (.lst rows), some (.int one), some (rowD (r ++ [v])), some (.int i), some (.int c)], .inl ?_, _, _, _, rfl, by simp; omega, fun y hy => ?_⟩
    · simp [b__law_gap_rows_1, k1, k2, ec, em, e_mod hm1, ev, hl, rowD]
    · rcases List.mem_append.mp hy with z | z
      · exact hr2 y z
      · simp at z; subst z; exact ⟨hv0, hv1⟩)
  rw [Nat.zero_add, rangeL_len] at h1
  exact ⟨r, y6, y7, ⟨h1, h2⟩, e⟩
theorem gapr_ok (n : Nat) (ns : List Int) (b k : Nat) (hb : b ≤ 100) (hk : k ≤ 3) : ∃ rows, GoodRows k rows ∧ m__law_gap_rows CR CP n [.lst (ns.map .int), .int b, .int k] = .ok (rowsD rows) := by
  have k1 : -4611686018427387904 ≤ (k : Int) := by omega
  have k2 : (k : Int) < 4611686018427387904 := by omega
  obtain ⟨ρ', e, rows, y4, y5, y6, y7, rfl, h1, h2⟩ := forD_inv (p := .nm 4) (g := b__law_gap_rows_2 CR CP n)
    (fun i ρ => ∃ (rows : List (List Int)) (z4 z5 z6 z7 : Option Dat), ρ = [some (.lst (ns.map .int)), some (.int b), some (.int k), some (rowsD rows), z4, z5, z6, z7] ∧ rows.length = i ∧ ∀ r ∈ rows, GoodRow k r) (rangeL 0 k) 0 [some (.lst (ns.map .int)), some (.int b), some (.int k), some (.lst []), none, none, none, none] ⟨[], none, none, none, none, rfl, rfl, by simp⟩ (by
    rintro i d ρ hd ⟨rows, z4, z5, z6, z7, rfl, hr1, hr2⟩
    obtain ⟨hi, rfl⟩ := range0_get hd
    obtain ⟨r, y6, y7, hr, er⟩ := gapr_row CR CP n ns b k i (rows.map rowD) z6 z7 hb hk hi
    have hl : rows.length < 16777216 := by omega
    refine ⟨[some (.lst (ns.map .int)), some (.int b), some (.int k), some (rowsD rows), some (.int i), z5, z6, z7], by simp, [some (.lst (ns.map .int)), some (.int b), some (.int k), some (rowsD (rows ++ [r])), some (.int i), some (rowD r), y6, y7], .inl ?_, _, _, _, _, _, rfl, by simp; omega, fun y hy => ?_⟩
    · simp [b__law_gap_rows_2, k1, k2, rowsD, er, hl]
    · rcases List.mem_append.mp hy with z | z
      · exact hr2 y z
      · simp at z; subst z; exact hr)
  rw [Nat.zero_add, rangeL_len] at h1
  exact ⟨rows, ⟨h1, h2⟩, by simp [m__law_gap_rows, g__law_gap_rows, k1, k2, e]⟩
end
structure Gp where
  k : Nat
  rows : List (List Int)
  two : Bool
  r2 : List (List Int)
structure Gp.Good (g : Gp) : Prop where
  k1 : 1 ≤ g.k
  k3 : g.k ≤ 3
  rows : GoodRows g.k g.rows
  r2 : GoodRows g.k g.r2
noncomputable def Gp.o (g : Gp) : Dat := if g.two = true then rowsD g.r2 else .non
noncomputable def Gp.s (g : Gp) : Nat := if g.two = true then 2 else 1
noncomputable def Gp.D (g : Gp) : Dat := .lst (if g.two = true then [rowsD g.rows, rowsD g.r2] else [rowsD g.rows])
section
variable (CR CP : Addr)
theorem gps_ok (n : Nat) (ns : List Int) : ∃ g : Gp, g.Good ∧ m__law_gaps CR CP n [.lst (ns.map .int)] = .ok g.D := by
  obtain ⟨c, ec⟩ := cell_ok CR CP n ns 0 (by omega) (by omega)
  obtain ⟨k, hk⟩ : ∃ k : Nat, 1 + c % 3 = k := ⟨(1 + c % 3).toNat, by omega⟩
  obtain ⟨rows, gr, er⟩ := gapr_ok CR CP n ns 3 k (by omega) (by omega)
  have hkk : k * k ≤ 3 * 3 := Nat.mul_le_mul (by omega) (by omega)
  obtain ⟨r2, gr2, er2⟩ := gapr_ok CR CP n ns (3 + k * k) k (by omega) (by omega)
  have hb2 : ((3 + k * k : Nat) : Int) = 3 + (k : Int) * k := by simp
  rw [hb2] at er2
  simp only [Int.cast_ofNat_Int] at er
  have k1 : -18446744073709551616 < (k : Int) := by omega
  have k2 : (k : Int) < 18446744073709551616 := by omega
  by_cases h : c / 3 % 3 = 1
  · exact ⟨⟨k, rows, true, r2⟩, ⟨by show 1 ≤ k; omega, by show k ≤ 3; omega, gr, gr2⟩, by simp [m__law_gaps, g__law_gaps, c__law_gaps_1, ec, hk, er, h, k1, k2, er2, Gp.D]⟩
  · exact ⟨⟨k, rows, false, r2⟩, ⟨by show 1 ≤ k; omega, by show k ≤ 3; omega, gr, gr2⟩, by simp [m__law_gaps, g__law_gaps, c__law_gaps_1, ec, hk, er, h, Gp.D]⟩
theorem grules_ok (n : Nat) {g : Gp} (hg : g.Good) : m__law_rules CR CP n [g.D] = .ok (rulesD CR CP g.rows g.o) := by
  have k1 := hg.k1
  have k3 := hg.k3
  have e1 := checked_ok CR CP n g.k g.rows k1 (by omega) hg.rows
  have e2 := checked_ok CR CP n g.k g.r2 k1 (by omega) hg.r2
  cases h : g.two with
  | false => simp [m__law_rules, g__law_rules, c__law_rules_1, Gp.D, Gp.o, h, newR, e1, rulesD]
  | true =>
    have ht : twoL (rowsD g.rows) (rowsD g.r2) = true := by simp [twoL, rowsD, hg.rows.1, hg.r2.1]
    have en : newP CP (m_checked_rows CR CP n) [rowsD g.rows, rowsD g.r2] = .ok (.ins CP [("gaps", rowsD g.rows), ("beside", rowsD g.r2)]) := by simp [newP, e1, e2, ht]
    have e3 : rulesD CR CP g.rows (rowsD g.r2) = .ins CP [("gaps", rowsD g.rows), ("beside", rowsD g.r2)] := rfl
    simp [m__law_rules, g__law_rules, c__law_rules_1, Gp.D, Gp.o, h, en, e3]
theorem gclosed_ok (n : Nat) (ns : List Int) : ∃ cs : List Stre, cs.length ≤ 20 ∧ (∀ p ∈ cs, p.1 < p.2) ∧ m__law_closed CR CP n [.lst (ns.map .int)] = .ok (.lst (cs.map stD)) := by
  obtain ⟨c, ec⟩ := cell_ok CR CP n ns 1 (by omega) (by omega)
  obtain ⟨c2, ec2⟩ := cell_ok CR CP n ns 2 (by omega) (by omega)
  obtain ⟨many, hm, em⟩ : ∃ m : Nat, m ≤ 20 ∧ getI [.int (c % 4), .int (c % 4), .int 20] (c / 4 % 8 / 3) = .ok (.int m) := by
    have q : c / 4 % 8 / 3 = 0 ∨ c / 4 % 8 / 3 = 1 ∨ c / 4 % 8 / 3 = 2 := by omega
    have hc : ((c % 4).toNat : Int) = c % 4 := by omega
    rcases q with h | h | h
    · exact ⟨(c % 4).toNat, by omega, by rw [h, hc]; simp⟩
    · exact ⟨(c % 4).toNat, by omega, by rw [h, hc]; simp⟩
    · exact ⟨20, by omega, by rw [h]; simp⟩
  have k1 : -4611686018427387904 ≤ (many : Int) := by omega
  have k2 : (many : Int) < 4611686018427387904 := by omega
  obtain ⟨ρ', e, cs, y4, y5, y6, rfl, h1, h2⟩ := forD_inv (p := .nm 4) (g := b__law_closed_1 CR CP n)
    (fun i ρ => ∃ (cs : List Stre) (z4 z5 z6 : Option Dat), ρ = [some (.lst (ns.map .int)), some (.int c), some (.int many), some (.lst (cs.map stD)), z4, z5, z6] ∧ cs.length = i ∧ ∀ p ∈ cs, p.1 < p.2) (rangeL 0 many) 0 [some (.lst (ns.map .int)), some (.int c), some (.int many), some (.lst []), none, none, none] ⟨[], none, none, none, rfl, rfl, by simp⟩ (by
    rintro i d ρ hd ⟨cs, z4, z5, z6, rfl, hr1, hr2⟩
    obtain ⟨hi, rfl⟩ := range0_get hd
    have hl : cs.length < 16777216 := by omega
    have i0 : (0 : Int) ≤ (i : Int) * i := Int.mul_nonneg (by omega) (by omega)
    have i1 : (i : Int) * i ≤ 400 := by
      have : i * i ≤ 20 * 20 := Nat.mul_le_mul (by omega) (by omega)
      exact_mod_cast this
    have p0 : (0 : Int) < (i : Int) * i + 1 := by omega
    have p1 : (i : Int) * i + 1 < 18446744073709551616 := by omega
    have k1 : -18446744073709551616 < (i : Int) := by omega
    have k2 : (i : Int) < 18446744073709551616 := by omega
    have k3 : -18446744073709551616 < 17 * (i : Int) := by omega
    have k4 : 17 * (i : Int) < 18446744073709551616 := by omega
    obtain ⟨t, ht⟩ : ∃ t, t = c2 / ((i : Int) * i + 1) + 17 * (i : Int) * (c / 32 % 3) := ⟨_, rfl⟩
    refine ⟨[some (.lst (ns.map .int)), some (.int c), some (.int many), some (.lst (cs.map stD)), some (.int i), z5, z6], by simp, [some (.lst (ns.map .int)), some (.int c), some (.int many), some (.lst ((cs ++ [(t % 50, t % 50 + 1 + t / 50 % 9)]).map stD)), some (.int i), some (.int t), some (.int (t % 50))], .inl ?_, _, _, _, _, rfl, by simp; omega, fun y hy => ?_⟩
    · simp [b__law_closed_1, ec2, k1, k2, k3, k4, e_fdiv p0 p1, ← ht, hl, stD]
    · rcases List.mem_append.mp hy with z | z
      · exact hr2 y z
      · simp at z; subst z; show t % 50 < t % 50 + 1 + t / 50 % 9; omega)
  rw [Nat.zero_add, rangeL_len] at h1
  exact ⟨cs, by omega, h2, by simp [m__law_closed, g__law_closed, ec, em, k1, k2, e]⟩
theorem gflights_ok (n : Nat) (ns : List Int) (k : Nat) (hk1 : 1 ≤ k) (many : Nat) (hm : many ≤ 40) : ∃ fl : List Fli, fl.length = many ∧ (∀ f ∈ fl, GoodFl k f) ∧ m__law_flights CR CP n [.lst (ns.map .int), .int 21, .int k, .int many] = .ok (.lst (fl.map flD)) := by
  have k1 : -4611686018427387904 ≤ (many : Int) := by omega
  have k2 : (many : Int) < 4611686018427387904 := by omega
  have hk : (0 : Int) < k := by omega
  obtain ⟨ρ', e, fl, y5, y6, y7, y8, y9, y10, y11, y12, rfl, h1, h2⟩ := forD_inv (p := .nm 5) (g := b__law_flights_1 CR CP n)
    (fun i ρ => ∃ (fl : List Fli) (z5 z6 z7 z8 z9 z10 z11 z12 : Option Dat), ρ = [some (.lst (ns.map .int)), some (.int 21), some (.int k), some (.int many), some (.lst (fl.map flD)), z5, z6, z7, z8, z9, z10, z11, z12] ∧ fl.length = i ∧ ∀ f ∈ fl, GoodFl k f) (rangeL 0 many) 0 [some (.lst (ns.map .int)), some (.int 21), some (.int k), some (.int many), some (.lst []), none, none, none, none, none, none, none, none] ⟨[], none, none, none, none, none, none, none, none, rfl, rfl, by simp⟩ (by
    rintro i d ρ hd ⟨fl, z5, z6, z7, z8, z9, z10, z11, z12, rfl, hr1, hr2⟩
    obtain ⟨hi, rfl⟩ := range0_get hd
    have hl : fl.length < 16777216 := by omega
    obtain ⟨c, ec⟩ := cell_ok CR CP n ns (21 + 3 * (i : Int)) (by omega) (by omega)
    obtain ⟨w, ew⟩ := cell_ok CR CP n ns (21 + 3 * (i : Int) + 1) (by omega) (by omega)
    obtain ⟨v, ev⟩ := cell_ok CR CP n ns (21 + 3 * (i : Int) + 2) (by omega) (by omega)
    obtain ⟨m1, a0, a1, e1⟩ : ∃ m : Int, 0 < m ∧ m ≤ 900000000 ∧ getI [.int 20, .int 20, .int 60, .int 900000000] (c / 3 % 4) = .ok (.int m) := by
      have q : c / 3 % 4 = 0 ∨ c / 3 % 4 = 1 ∨ c / 3 % 4 = 2 ∨ c / 3 % 4 = 3 := by omega
      rcases q with h | h | h | h
      · exact ⟨20, by omega, by omega, by rw [h]; simp⟩
      · exact ⟨20, by omega, by omega, by rw [h]; simp⟩
      · exact ⟨60, by omega, by omega, by rw [h]; simp⟩
      · exact ⟨900000000, by omega, by omega, by rw [h]; simp⟩
    obtain ⟨m2, b0, b1, e2⟩ : ∃ m : Int, 0 < m ∧ m ≤ 10000000 ∧ getI [.int 5, .int 30, .int 80, .int 1000000, .int 10000000] (w % 5) = .ok (.int m) := by
      have q : w % 5 = 0 ∨ w % 5 = 1 ∨ w % 5 = 2 ∨ w % 5 = 3 ∨ w % 5 = 4 := by omega
      rcases q with h | h | h | h | h
      · exact ⟨5, by omega, by omega, by rw [h]; simp⟩
      · exact ⟨30, by omega, by omega, by rw [h]; simp⟩
      · exact ⟨80, by omega, by omega, by rw [h]; simp⟩
      · exact ⟨1000000, by omega, by omega, by rw [h]; simp⟩
      · exact ⟨10000000, by omega, by omega, by rw [h]; simp⟩
    obtain ⟨due, d0, d1, e3⟩ : ∃ x : Int, 0 ≤ x ∧ x ≤ 1000000000 ∧ getI [.int (v / 2 % 40), .int (v / 2 % 1000000001)] (v % 2) = .ok (.int x) := by
      have q : v % 2 = 0 ∨ v % 2 = 1 := by omega
      rcases q with h | h
      · exact ⟨v / 2 % 40, by omega, by omega, by rw [h]; simp⟩
      · exact ⟨v / 2 % 1000000001, by omega, by omega, by rw [h]; simp⟩
    obtain ⟨pr, p0, p1, e4⟩ : ∃ x : Int, 0 ≤ x ∧ x ≤ 1000000000 ∧ getI [.int (v / 80 % 5), .int (v / 80 % 5), .int (v / 80 % 1000000001)] (v / 8 % 3) = .ok (.int x) := by
      have q : v / 8 % 3 = 0 ∨ v / 8 % 3 = 1 ∨ v / 8 % 3 = 2 := by omega
      rcases q with h | h | h
      · exact ⟨v / 80 % 5, by omega, by omega, by rw [h]; simp⟩
      · exact ⟨v / 80 % 5, by omega, by omega, by rw [h]; simp⟩
      · exact ⟨v / 80 % 1000000001, by omega, by omega, by rw [h]; simp⟩
    have f0 : 0 ≤ c / 3 % m1 := Int.emod_nonneg _ (by omega)
    have f1 : c / 3 % m1 < m1 := Int.emod_lt_of_pos _ a0
    have w0 : 0 ≤ w / 5 % m2 := Int.emod_nonneg _ (by omega)
    have w1 : w / 5 % m2 < m2 := Int.emod_lt_of_pos _ b0
    have q0 : 0 ≤ c % (k : Int) := Int.emod_nonneg _ (by omega)
    have q1 : c % (k : Int) < k := Int.emod_lt_of_pos _ hk
    refine ⟨[some (.lst (ns.map .int)), some (.int 21), some (.int k), some (.int many), some (.lst (fl.map flD)), some (.int i), z6, z7, z8, z9, z10, z11, z12], by simp, [some (.lst (ns.map .int)), some (.int 21), some (.int k), some (.int many), some (.lst ((fl ++ [(⟨c % k, c / 3 % m1, c / 3 % m1 + w / 5 % m2, due, pr⟩ : Fli)]).map flD)), some (.int i), some (.int c), some (.int w), some (.int v), some (.int (c / 3 % m1)), some (.int (c / 3 % m1 + w / 5 % m2)), some (.int due), some (.int pr)], .inl ?_, _, _, _, _, _, _, _, _, _, rfl, by simp; omega, fun y hy => ?_⟩
    · simp [b__law_flights_1, ec, ew, ev, e1, e_mod a0, e2, e_mod b0, e3, e4, e_mod hk, hl, flD]
    · rcases List.mem_append.mp hy with z | z
      · exact hr2 y z
      · simp at z; subst z
        exact ⟨q0, q1, f0, by show c / 3 % m1 ≤ c / 3 % m1 + w / 5 % m2; omega, by show c / 3 % m1 + w / 5 % m2 ≤ 1000000000; omega, d0, d1, p0, p1⟩)
  rw [Nat.zero_add, rangeL_len] at h1
  exact ⟨fl, h1, h2, by simp [m__law_flights, g__law_flights, k1, k2, e]⟩
end
noncomputable def tupI (r : List Int) : Dat := .tup (r.map .int)
noncomputable def lastsD (L : List (List Int)) : Dat := .tup (L.map tupI)
noncomputable def labD (c : Int) (L : List (List Int)) : Dat := .tup [.int c, lastsD L]
noncomputable def GoodL (s k : Nat) (L : List (List Int)) : Prop := L.length = s ∧ ∀ r ∈ L, r.length = k
noncomputable def rowT (ap : Nat → Int) : Nat → List Int → List Int
  | _, [] => []
  | j, x :: xs => if x = -1 then rowT ap (j + 1) xs else (x + ap j) :: rowT ap (j + 1) xs
noncomputable def allT (ap : Nat → Nat → Int) : Nat → List (List Int) → List Int
  | _, [] => []
  | i, r :: L => rowT (ap i) 0 r ++ allT ap (i + 1) L
theorem rowT_len (ap : Nat → Int) : ∀ (j : Nat) (xs : List Int), (rowT ap j xs).length ≤ xs.length
  | _, [] => by simp [rowT]
  | j, x :: xs => by
    have := rowT_len ap (j + 1) xs
    unfold rowT
    split <;> simp <;> omega
theorem allT_len (ap : Nat → Nat → Int) (k : Nat) : ∀ (i : Nat) (L : List (List Int)), (∀ r ∈ L, r.length = k) → (allT ap i L).length ≤ k * L.length
  | i, [], _ => by simp [allT]
  | i, y :: L, h => by
    have h1 := allT_len ap k (i + 1) L fun r hr => h r (by simp [hr])
    have h2 := rowT_len (ap i) 0 y
    have h3 := h y (by simp)
    rw [allT, List.length_append, List.length_cons, Nat.mul_succ]
    omega
section
variable (CR CP : Addr)
theorem gmeth (n : Nat) (hne : CR ≠ CP) {g : Gp} (hg : g.Good) {a s b t : Int} (a0 : 0 ≤ a) (a1 : a < g.k) (b0 : 0 ≤ b) (b1 : b < g.k) (hst : g.two = false → s = t) (fo f1 f2 : Env' → M Dat) (ρ : Env') (h0 : fo ρ = .ok (rulesD CR CP g.rows g.o)) (h1 : f1 ρ = .ok (.tup [.int a, .int s])) (h2 : f2 ρ = .ok (.tup [.int b, .int t])) :
    fMeth2 CR CP "apart" (m_Rules_apart CR CP n) (m_Pair_apart CR CP n) fo (fCons f1 (fCons f2 fNil)) ρ = .ok (.int (apS g.rows g.r2 (a, s) (b, t))) := by
  obtain ⟨r1, _⟩ := getR hg.rows a0 a1
  obtain ⟨r2, _⟩ := getA hg.rows a0 a1 b0 b1
  unfold fMeth2
  rw [h0, bind_ok]
  cases h : g.two with
  | false =>
    have ho : g.o = .non := by simp [Gp.o, h]
    have hs := hst h
    have hc : isC CR "apart" (rulesD CR CP g.rows g.o) = true := by
      rw [ho]
      show ((CR == CR) && (List.lookup ("apart" : Str) [(("gaps" : Str), rowsD g.rows)]).isNone) = true
      rw [lookA1]; simp
    have hgg := gaps_at CR CP g.rows g.o (.inl ho)
    rw [if_pos hc]
    simp [h1, h2, m_Rules_apart, g_Rules_apart, hgg, rowsD, r1, rowD, r2, apS, hs]
  | true =>
    have ho : g.o = rowsD g.r2 := by simp [Gp.o, h]
    have hc : isC CR "apart" (rulesD CR CP g.rows g.o) = false := by
      rw [ho]
      show ((CP == CR) && (List.lookup ("apart" : Str) [(("gaps" : Str), rowsD g.rows), (("beside" : Str), rowsD g.r2)]).isNone) = false
      have : (CP == CR) = false := by simp; exact fun z => hne z.symm
      rw [this]; rfl
    have hc2 : isC CP "apart" (rulesD CR CP g.rows g.o) = true := by
      rw [ho]
      show ((CP == CP) && (List.lookup ("apart" : Str) [(("gaps" : Str), rowsD g.rows), (("beside" : Str), rowsD g.r2)]).isNone) = true
      rw [lookA2]; simp
    have hgg := gaps_at CR CP g.rows g.o (.inr ⟨_, ho⟩)
    have hb : attrD [CP] "beside" (rulesD CR CP g.rows g.o) = .ok (rowsD g.r2) := by rw [ho]; exact beside_at CR CP g.rows g.r2
    obtain ⟨r3, _⟩ := getR hg.r2 a0 a1
    obtain ⟨r4, _⟩ := getA hg.r2 a0 a1 b0 b1
    rw [if_neg (by rw [hc]; simp), if_pos hc2]
    by_cases hs : s = t
    · simp [h1, h2, m_Pair_apart, g_Pair_apart, hgg, hb, rowsD, r1, rowD, r2, apS, hs]
    · simp [h1, h2, m_Pair_apart, g_Pair_apart, hgg, hb, rowsD, r3, rowD, r4, apS, hs]
theorem lg_row (n : Nat) (hne : CR ≠ CP) {g : Gp} (hg : g.Good) (b t : Int) (b0 : 0 ≤ b) (b1 : b < g.k) (lasts z5 : Option Dat) (i : Nat) (hst : g.two = false → (i : Int) = t) : ∀ (row : List Int) (j : Nat) (ts : List Int) (z6 z7 : Option Dat), j + row.length ≤ g.k → ts.length + row.length ≤ 1000 →
    ∃ y6 y7, forD (.tp [6, 7]) (b_last_gap_times_2 CR CP n) (enumL j (row.map .int)) [some (rulesD CR CP g.rows g.o), lasts, some (.tup [.int b, .int t]), some (.lst (ts.map .int)), some (.int i), z5, z6, z7] = .ok (.nx [some (rulesD CR CP g.rows g.o), lasts, some (.tup [.int b, .int t]), some (.lst ((ts ++ rowT (fun j => apS g.rows g.r2 (j, i) (b, t)) j row).map .int)), some (.int i), z5, y6, y7])
  | [], j, ts, z6, z7, _, _ => ⟨z6, z7, by simp [enumL, forD, rowT]⟩
  | x :: row, j, ts, z6, z7, hj, hl => by
    simp only [List.length_cons] at hj hl
    by_cases hx : x = -1
    · obtain ⟨y6, y7, ih⟩ := lg_row n hne hg b t b0 b1 lasts z5 i hst row (j + 1) ts (some (.int j)) (some (.int x)) (by omega) (by omega)
      refine ⟨y6, y7, ?_⟩
      rw [List.map_cons, enumL, forD]
      simp only [rowT, if_pos hx]
      rw [← ih]
      simp [b_last_gap_times_2, c_last_gap_times_1, hx]
    · obtain ⟨y6, y7, ih⟩ := lg_row n hne hg b t b0 b1 lasts z5 i hst row (j + 1) (ts ++ [x + apS g.rows g.r2 (j, i) (b, t)]) (some (.int j)) (some (.int x)) (by omega) (by simp; omega)
      refine ⟨y6, y7, ?_⟩
      have em := gmeth CR CP n hne hg (a := j) (s := i) (b := b) (t := t) (by omega) (by omega) b0 b1 hst (fVar 0) (fL mkTup (fCons (fVar 6) (fCons (fVar 4) fNil))) (fVar 2) (erase [3] [some (rulesD CR CP g.rows g.o), lasts, some (.tup [.int b, .int t]), some (.lst (ts.map .int)), some (.int i), z5, some (.int j), some (.int x)]) (by simp [erase]) (by simp [erase]) (by simp [erase])
      have hts : ts.length < 16777216 := by omega
      rw [List.map_cons, enumL, forD]
      simp only [rowT, if_neg hx]
      rw [List.append_assoc, List.singleton_append] at ih
      rw [← ih]
      have hb : bindP (.tp [6, 7]) (.tup [.int j, .int x]) [some (rulesD CR CP g.rows g.o), lasts, some (.tup [.int b, .int t]), some (.lst (ts.map .int)), some (.int i), z5, z6, z7] = .ok [some (rulesD CR CP g.rows g.o), lasts, some (.tup [.int b, .int t]), some (.lst (ts.map .int)), some (.int i), z5, some (.int j), some (.int x)] := by simp
      have hg2 : b_last_gap_times_2 CR CP n [some (rulesD CR CP g.rows g.o), lasts, some (.tup [.int b, .int t]), some (.lst (ts.map .int)), some (.int i), z5, some (.int j), some (.int x)] = .ok (.nx [some (rulesD CR CP g.rows g.o), lasts, some (.tup [.int b, .int t]), some (.lst ((ts ++ [x + apS g.rows g.r2 (j, i) (b, t)]).map .int)), some (.int i), z5, some (.int j), some (.int x)]) := by
        have hv : fVar 7 (erase [3] [some (rulesD CR CP g.rows g.o), lasts, some (.tup [.int b, .int t]), some (.lst (ts.map .int)), some (.int i), z5, some (.int j), some (.int x)]) = .ok (.int x) := by simp [erase]
        have es : sAppB [3] 3 (f2 addD (fVar 7) (fMeth2 CR CP "apart" (m_Rules_apart CR CP n) (m_Pair_apart CR CP n) (fVar 0) (fCons (fL mkTup (fCons (fVar 6) (fCons (fVar 4) fNil))) (fCons (fVar 2) fNil)))) [some (rulesD CR CP g.rows g.o), lasts, some (.tup [.int b, .int t]), some (.lst (ts.map .int)), some (.int i), z5, some (.int j), some (.int x)] = .ok (.nx [some (rulesD CR CP g.rows g.o), lasts, some (.tup [.int b, .int t]), some (.lst ((ts ++ [x + apS g.rows g.r2 (j, i) (b, t)]).map .int)), some (.int i), z5, some (.int j), some (.int x)]) := by
          unfold sAppB f2
          rw [em, hv]
          simp [lstAt, put, hts, sizeLine_eq]
        simp [b_last_gap_times_2, c_last_gap_times_1, hx, -e_appB, es]
      rw [hb, bind_ok, hg2]
      rfl
end
section
variable (CR CP : Addr)
theorem lg_all (n : Nat) (hne : CR ≠ CP) {g : Gp} (hg : g.Good) (b t : Int) (b0 : 0 ≤ b) (b1 : b < g.k) (ht : 0 ≤ t ∧ t < g.s) (lasts : Option Dat) : ∀ (L : List (List Int)) (i : Nat) (ts : List Int) (z4 z5 z6 z7 : Option Dat), i + L.length ≤ g.s → (∀ r ∈ L, r.length = g.k) → ts.length + g.k * L.length ≤ 1000 →
    ∃ y4 y5 y6 y7, forD (.tp [4, 5]) (b_last_gap_times_3 CR CP n) (enumL i (L.map tupI)) [some (rulesD CR CP g.rows g.o), lasts, some (.tup [.int b, .int t]), some (.lst (ts.map .int)), z4, z5, z6, z7] = .ok (.nx [some (rulesD CR CP g.rows g.o), lasts, some (.tup [.int b, .int t]), some (.lst ((ts ++ allT (fun i j => apS g.rows g.r2 (j, i) (b, t)) i L).map .int)), y4, y5, y6, y7])
  | [], i, ts, z4, z5, z6, z7, _, _, _ => ⟨z4, z5, z6, z7, by simp [enumL, forD, allT]⟩
  | r :: L, i, ts, z4, z5, z6, z7, hi, hr, hl => by
    have hrl := hr r (by simp)
    simp only [List.length_cons] at hi hl
    rw [Nat.mul_succ] at hl
    have hst : g.two = false → (i : Int) = t := fun h => by
      have hs : g.s = 1 := by simp [Gp.s, h]
      omega
    obtain ⟨y6, y7, e1⟩ := lg_row CR CP n hne hg b t b0 b1 lasts (some (tupI r)) i hst r 0 ts z6 z7 (by omega) (by omega)
    have hlen := rowT_len (fun j => apS g.rows g.r2 (j, i) (b, t)) 0 r
    obtain ⟨w4, w5, w6, w7, ih⟩ := lg_all n hne hg b t b0 b1 ht lasts L (i + 1) (ts ++ rowT (fun j => apS g.rows g.r2 (j, i) (b, t)) 0 r) (some (.int i)) (some (tupI r)) y6 y7 (by omega) (fun x hx => hr x (by simp [hx])) (by rw [List.length_append]; omega)
    refine ⟨w4, w5, w6, w7, ?_⟩
    rw [allT, ← List.append_assoc, ← ih, List.map_cons, enumL, forD]
    have hb : bindP (.tp [4, 5]) (.tup [.int i, tupI r]) [some (rulesD CR CP g.rows g.o), lasts, some (.tup [.int b, .int t]), some (.lst (ts.map .int)), z4, z5, z6, z7] = .ok [some (rulesD CR CP g.rows g.o), lasts, some (.tup [.int b, .int t]), some (.lst (ts.map .int)), some (.int i), some (tupI r), z6, z7] := by simp
    have hg3 : b_last_gap_times_3 CR CP n [some (rulesD CR CP g.rows g.o), lasts, some (.tup [.int b, .int t]), some (.lst (ts.map .int)), some (.int i), some (tupI r), z6, z7] = .ok (.nx [some (rulesD CR CP g.rows g.o), lasts, some (.tup [.int b, .int t]), some (.lst ((ts ++ rowT (fun j => apS g.rows g.r2 (j, i) (b, t)) 0 r).map .int)), some (.int i), some (tupI r), y6, y7]) := by
      rw [← e1]
      simp [b_last_gap_times_3, tupI]
    rw [hb, bind_ok, hg3]
    rfl
theorem lg_ok (n : Nat) (hne : CR ≠ CP) {g : Gp} (hg : g.Good) (b t : Int) (b0 : 0 ≤ b) (b1 : b < g.k) (ht : 0 ≤ t ∧ t < g.s) {L : List (List Int)} (hL : GoodL g.s g.k L) : m_last_gap_times CR CP n [rulesD CR CP g.rows g.o, lastsD L, .tup [.int b, .int t]] = .ok (.lst ((allT (fun i j => apS g.rows g.r2 (j, i) (b, t)) 0 L).map .int)) := by
  have k3 := hg.k3
  have hs : g.s ≤ 2 := by unfold Gp.s; split <;> omega
  have hl := hL.1
  have hk : g.k * L.length ≤ 3 * 2 := Nat.mul_le_mul k3 (by omega)
  obtain ⟨y4, y5, y6, y7, e⟩ := lg_all CR CP n hne hg b t b0 b1 ht (some (lastsD L)) L 0 [] none none none none (by omega) hL.2 (by simp; omega)
  rw [List.nil_append, List.map_nil] at e
  simp only [lastsD] at e ⊢
  simp [m_last_gap_times, g_last_gap_times, e, -List.map_map]
end
noncomputable def lRow (L : List (List Int)) (i : Nat) : List Int := L.getD i []
theorem lRow_mem {s k : Nat} {L : List (List Int)} (h : GoodL s k L) {i : Nat} (hi : i < s) : lRow L i ∈ L ∧ (lRow L i).length = k ∧ getI (L.map tupI) (i : Int) = .ok (tupI (lRow L i)) ∧ L.take (i + 1) = L.take i ++ [lRow L i] := by
  have hl : i < L.length := by rw [h.1]; exact hi
  have e : lRow L i = L[i] := by simp [lRow, hl]
  have m : lRow L i ∈ L := by rw [e]; exact List.getElem_mem hl
  refine ⟨m, h.2 _ m, ?_, ?_⟩
  · rw [getI_nat (by simpa using hl), e]; simp
  · rw [List.take_add_one, List.getElem?_eq_getElem hl, e]; rfl
theorem comp_lists (L : List (List Int)) (hk : ∀ r ∈ L, r.length ≤ 1000) : compD (.nm 0) fYes (fL listD (fCons (fVar 0) fNil)) [none] (L.map tupI) = .ok (L.map rowD) := by
  have h := compD_map (p := .nm 0) (fe := fL listD (fCons (fVar 0) fNil)) (ρ0 := [none]) (fun d => match d with | .tup ds => .lst ds | d => d) (L.map tupI) (fun d hd => by
    obtain ⟨r, hr, rfl⟩ := List.mem_map.mp hd
    have hl : r.length ≤ 16777216 := by have := hk r hr; omega
    exact ⟨[some (tupI r)], by simp, by simp [tupI, hl]⟩)
  rw [h, List.map_map]
  rfl
theorem comp_tups (L : List (List Int)) (hk : ∀ r ∈ L, r.length ≤ 1000) : compD (.nm 0) fYes (fL tupleD (fCons (fVar 0) fNil)) [none] (L.map rowD) = .ok (L.map tupI) := by
  have h := compD_map (p := .nm 0) (fe := fL tupleD (fCons (fVar 0) fNil)) (ρ0 := [none]) (fun d => match d with | .lst ds => .tup ds | d => d) (L.map rowD) (fun d hd => by
    obtain ⟨r, hr, rfl⟩ := List.mem_map.mp hd
    have hl : r.length ≤ 16777216 := by have := hk r hr; omega
    exact ⟨[some (rowD r)], by simp, by simp [rowD, hl]⟩)
  rw [h, List.map_map]
  rfl
noncomputable def putL (L : List (List Int)) (i j : Nat) (x : Int) : List (List Int) := L.set i ((lRow L i).set j x)
theorem putL_good {s k : Nat} {L : List (List Int)} (h : GoodL s k L) {i j : Nat} (hi : i < s) (x : Int) : GoodL s k (putL L i j x) := by
  refine ⟨by unfold putL; rw [List.length_set]; exact h.1, fun r hr => ?_⟩
  unfold putL at hr
  rcases List.mem_or_eq_of_mem_set hr with z | z
  · exact h.2 r z
  · rw [z, List.length_set]; exact (lRow_mem h hi).2.1
theorem ixN_nat {n i : Nat} (h : i < n) : ixN n (i : Int) = some i := by
  unfold ixN
  rw [if_pos (by omega), if_pos (by omega)]
  simp
theorem rows_put {s k : Nat} {L : List (List Int)} (hL : GoodL s k L) {i j : Nat} (hi : i < s) (hj : j < k) (x : Int) : rowAt (L.map rowD) (i : Int) = .ok (i, (lRow L i).map .int) ∧ setRow (L.map rowD) (i, (lRow L i).map .int) (j : Int) (.int x) = .ok ((putL L i j x).map rowD) := by
  have hl : i < L.length := by rw [hL.1]; exact hi
  have e : lRow L i = L[i] := by simp [lRow, hl]
  have hr := (lRow_mem hL hi).2.1
  constructor
  · unfold rowAt
    rw [List.length_map, ixN_nat hl]
    simp [hl, e, rowD]
  · unfold setRow
    simp only [List.length_map]
    rw [ixN_nat (by omega)]
    unfold putL
    simp [List.map_set, rowD]
noncomputable def tmin (g : Gp) (L : List (List Int)) (f : Fli) (s : Nat) : Int := (allT (fun i j => apS g.rows g.r2 (j, i) (f.kind, s)) 0 L).foldl maxZ f.first
noncomputable def after (g : Gp) (c : Int) (L : List (List Int)) (f : Fli) (s : Nat) (u : Int) : Dat := if f.last < u then .non else labD (c + late f u) (putL L s f.kind.toNat u)
theorem GoodL.short {s k : Nat} {L : List (List Int)} (h : GoodL s k L) (hk : k ≤ 1000) : ∀ r ∈ L, r.length ≤ 1000 := fun r hr => by rw [h.2 r hr]; exact hk
section
variable (CR CP : Addr)
theorem lasts_ok (n : Nat) {s k : Nat} {L : List (List Int)} (hL : GoodL s k L) (hs : s ≤ 10) (hk : k ≤ 10) {i j : Nat} (hi : i < s) (hj : j < k) (x : Int) : m_lasts_with CR CP n [lastsD L, .tup [.int j, .int i], .int x] = .ok (lastsD (putL L i j x)) := by
  have h1 := comp_lists L (hL.short (by omega))
  have hp := putL_good (j := j) hL hi x
  have h2 := comp_tups (putL L i j x) (hp.short (by omega))
  obtain ⟨e1, e2⟩ := rows_put hL hi hj x
  have l1 : L.length ≤ 16777216 := by have := hL.1; omega
  have l2 : (putL L i j x).length ≤ 16777216 := by have := hp.1; omega
  simp only [lastsD]
  simp [m_lasts_with, g_lasts_with, sRows, rows1, rows2, rows3, lstOf, asI, h1, l1, e1, e2, h2, l2]
theorem behind_ok (n : Nat) (hne : CR ≠ CP) {g : Gp} (hg : g.Good) {cs : List Stre} (hc1 : cs.length ≤ 20) (hc2 : ∀ p ∈ cs, p.1 < p.2) {fl : List Fli} (hfl : ∀ f ∈ fl, GoodFl g.k f) (c : Int) {L : List (List Int)} (hL : GoodL g.s g.k L) {q s : Nat} (hq : q < fl.length) (hs : s < g.s) {u : Int} (hu : NextIs cs (tmin g L (flAt fl q) s) u) :
    m_label_behind CR CP n [rulesD CR CP g.rows g.o, .lst (fl.map flD), .lst (cs.map stD), labD c L, .int q, .int s] = .ok (after g c L (flAt fl q) s u) := by
  obtain ⟨ef, hm⟩ := getFl (fl := fl) (i := q) (by omega) (by omega)
  have gf := hfl _ hm
  have k3 := hg.k3
  have hs2 : g.s ≤ 2 := by unfold Gp.s; split <;> omega
  have el := lg_ok CR CP n hne hg (flAt fl q).kind s gf.k0 gf.k1 ⟨by omega, by omega⟩ hL
  have hal := allT_len (fun i j => apS g.rows g.r2 (j, i) ((flAt fl q).kind, s)) g.k 0 L hL.2
  have hkk : g.k * L.length ≤ 3 * 2 := Nat.mul_le_mul k3 (by have := hL.1; omega)
  obtain ⟨v, ev, hv⟩ := next_ok CR CP n cs (tmin g L (flAt fl q) s) (by omega) hc2
  have huv := hv.uniq hu
  subst huv
  have ec := late_ok CR CP n (flAt fl q) v gf.p0 gf.p1
  obtain ⟨kk, hkk2⟩ : ∃ kk : Nat, (flAt fl q).kind = kk := ⟨(flAt fl q).kind.toNat, by have := gf.k0; omega⟩
  have ew := lasts_ok CR CP n hL (by omega) (by omega) hs (j := kk) (by have := gf.k1; omega) v
  rw [← hkk2] at ew
  have hkt : (flAt fl q).kind.toNat = kk := by omega
  unfold tmin at ev
  generalize hall : allT (fun i j => apS g.rows g.r2 (j, i) ((flAt fl q).kind, s)) 0 L = A at el hal ev
  have eM : maxD [.lst (.int (flAt fl q).first :: A.map .int)] = .ok (.int (A.foldl maxZ (flAt fl q).first)) := by
    show (intsD (((flAt fl q).first :: A).map .int)).bind maxL = _
    rw [intsD_map, bind_ok, maxL]
  have hA : 1 + A.length ≤ 16777216 := by omega
  unfold after
  simp only [flD] at ef ec
  by_cases hlt : (flAt fl q).last < v
  · rw [if_pos hlt]
    simp [m_label_behind, g_label_behind, c_label_behind_1, ef, labD, el, addD, hA, eM, ev, hlt, -e_maxL]
  · rw [if_neg hlt, hkt]
    simp [m_label_behind, g_label_behind, c_label_behind_1, ef, labD, el, addD, hA, eM, ev, hlt, ec, ew, -e_maxL]
end
noncomputable def labP (p : Int × List (List Int)) : Dat := labD p.1 p.2
noncomputable def leR : List Int → List Int → Bool
  | x :: xs, y :: ys => decide (x ≤ y) && leR xs ys
  | _, _ => true
noncomputable def leL : List (List Int) → List (List Int) → Bool
  | r :: L, t :: M => leR r t && leL L M
  | _, _ => true
noncomputable def geR (r : List Int) : Prop := ∀ x ∈ r, -1 ≤ x
noncomputable def geL (L : List (List Int)) : Prop := ∀ r ∈ L, geR r
noncomputable def nw (p q : Int × List (List Int)) : Bool := decide (p.1 ≤ q.1) && leL p.2 q.2
structure Lab (g : Gp) (p : Int × List (List Int)) : Prop where
  good : GoodL g.s g.k p.2
  ge : geL p.2
theorem leR_refl : ∀ r : List Int, leR r r = true
  | [] => rfl
  | x :: r => by simp [leR, leR_refl r]
theorem leL_refl : ∀ L : List (List Int), leL L L = true
  | [] => rfl
  | r :: L => by simp [leL, leR_refl r, leL_refl L]
theorem nw_refl (p : Int × List (List Int)) : nw p p = true := by simp [nw, leL_refl]
theorem leR_trans : ∀ {a b c : List Int}, a.length = b.length → b.length = c.length → leR a b = true → leR b c = true → leR a c = true
  | [], _, _, _, _, _, _ => by simp [leR]
  | x :: a, [], _, h, _, _, _ => by simp at h
  | x :: a, y :: b, [], _, h, _, _ => by simp at h
  | x :: a, y :: b, z :: c, h1, h2, h3, h4 => by
    simp [leR] at h3 h4 ⊢
    exact ⟨by omega, leR_trans (by simpa using h1) (by simpa using h2) h3.2 h4.2⟩
theorem leL_trans {k : Nat} : ∀ {a b c : List (List Int)}, a.length = b.length → b.length = c.length → (∀ r ∈ a, r.length = k) → (∀ r ∈ b, r.length = k) → (∀ r ∈ c, r.length = k) → leL a b = true → leL b c = true → leL a c = true
  | [], _, _, _, _, _, _, _, _, _ => by simp [leL]
  | x :: a, [], _, h, _, _, _, _, _, _ => by simp at h
  | x :: a, y :: b, [], _, h, _, _, _, _, _ => by simp at h
  | x :: a, y :: b, z :: c, h1, h2, k1, k2, k3, h3, h4 => by
    simp [leL] at h3 h4 ⊢
    have e1 := k1 x (by simp)
    have e2 := k2 y (by simp)
    have e3 := k3 z (by simp)
    exact ⟨leR_trans (by omega) (by omega) h3.1 h4.1, leL_trans (by simpa using h1) (by simpa using h2) (fun r hr => k1 r (by simp [hr])) (fun r hr => k2 r (by simp [hr])) (fun r hr => k3 r (by simp [hr])) h3.2 h4.2⟩
theorem nw_trans {g : Gp} {p q r : Int × List (List Int)} (hp : Lab g p) (hq : Lab g q) (hr : Lab g r) (h1 : nw p q = true) (h2 : nw q r = true) : nw p r = true := by
  simp [nw] at h1 h2 ⊢
  exact ⟨by omega, leL_trans (by rw [hp.good.1, hq.good.1]) (by rw [hq.good.1, hr.good.1]) hp.good.2 hq.good.2 hr.good.2 h1.2 h2.2⟩
theorem maxZ_mono {a b c d : Int} (h1 : a ≤ b) (h2 : c ≤ d) : maxZ a c ≤ maxZ b d := by unfold maxZ; split <;> split <;> omega
theorem row_mono (ap : Nat → Int) : ∀ (a b : List Int) (j : Nat) (x y : Int), a.length = b.length → geR a → leR a b = true → x ≤ y → (rowT ap j a).foldl maxZ x ≤ (rowT ap j b).foldl maxZ y
  | [], [], j, x, y, _, _, _, h => by simpa [rowT] using h
  | [], _ :: _, _, _, _, h, _, _, _ => by simp at h
  | _ :: _, [], _, _, _, h, _, _, _ => by simp at h
  | u :: a, v :: b, j, x, y, hl, hg, hle, h => by
    simp [leR] at hle
    have hu := hg u (by simp)
    have ih := row_mono ap a b (j + 1)
    have hl' : a.length = b.length := by simpa using hl
    have hg' : geR a := fun z hz => hg z (by simp [hz])
    unfold rowT
    by_cases h1 : u = -1
    · rw [if_pos h1]
      by_cases h2 : v = -1
      · rw [if_pos h2]
        exact ih x y hl' hg' hle.2 h
      · rw [if_neg h2, List.foldl_cons]
        refine ih x _ hl' hg' hle.2 (Int.le_trans h ?_)
        unfold maxZ; split <;> omega
    · have h2 : ¬ v = -1 := by omega
      rw [if_neg h1, if_neg h2, List.foldl_cons, List.foldl_cons]
      exact ih _ _ hl' hg' hle.2 (maxZ_mono h (by omega))
theorem all_mono (ap : Nat → Nat → Int) {k : Nat} : ∀ (a b : List (List Int)) (i : Nat) (x y : Int), a.length = b.length → (∀ r ∈ a, r.length = k) → (∀ r ∈ b, r.length = k) → geL a → leL a b = true → x ≤ y → (allT ap i a).foldl maxZ x ≤ (allT ap i b).foldl maxZ y
  | [], [], i, x, y, _, _, _, _, _, h => by simpa [allT] using h
  | [], _ :: _, _, _, _, h, _, _, _, _, _ => by simp at h
  | _ :: _, [], _, _, _, h, _, _, _, _, _ => by simp at h
  | u :: a, v :: b, i, x, y, hl, k1, k2, hg, hle, h => by
    simp [leL] at hle
    rw [allT, allT, List.foldl_append, List.foldl_append]
    exact all_mono ap a b (i + 1) _ _ (by simpa using hl) (fun r hr => k1 r (by simp [hr])) (fun r hr => k2 r (by simp [hr])) (fun r hr => hg r (by simp [hr])) hle.2 (row_mono (ap i) u v 0 x y (by rw [k1 u (by simp), k2 v (by simp)]) (hg u (by simp)) hle.1 h)
theorem NextIs.mono {cs : List Stre} {a b u v : Int} (h : a ≤ b) (hu : NextIs cs a u) (hv : NextIs cs b v) : u ≤ v := by
  refine Classical.byContradiction fun z => hv.2.1 (hu.2.2 v ?_ (by omega))
  have := hv.1
  omega
theorem leR_set : ∀ (a b : List Int) (j : Nat) (x y : Int), a.length = b.length → leR a b = true → x ≤ y → leR (a.set j x) (b.set j y) = true
  | [], [], _, _, _, _, _, _ => rfl
  | [], _ :: _, _, _, _, h, _, _ => by simp at h
  | _ :: _, [], _, _, _, h, _, _ => by simp at h
  | u :: a, v :: b, 0, x, y, _, h, hxy => by simp [leR] at h ⊢; exact ⟨hxy, h.2⟩
  | u :: a, v :: b, j + 1, x, y, hl, h, hxy => by simp [leR] at h ⊢; exact ⟨h.1, leR_set a b j x y (by simpa using hl) h.2 hxy⟩
theorem leL_set : ∀ (a b : List (List Int)) (i : Nat) (r t : List Int), a.length = b.length → leL a b = true → leR r t = true → leL (a.set i r) (b.set i t) = true
  | [], [], _, _, _, _, _, _ => rfl
  | [], _ :: _, _, _, _, h, _, _ => by simp at h
  | _ :: _, [], _, _, _, h, _, _ => by simp at h
  | u :: a, v :: b, 0, x, y, _, h, hxy => by simp [leL] at h ⊢; exact ⟨hxy, h.2⟩
  | u :: a, v :: b, j + 1, x, y, hl, h, hxy => by simp [leL] at h ⊢; exact ⟨h.1, leL_set a b j x y (by simpa using hl) h.2 hxy⟩
theorem leL_row : ∀ (a b : List (List Int)) (i : Nat), a.length = b.length → leL a b = true → leR (lRow a i) (lRow b i) = true
  | [], [], _, _, _ => by simp [lRow, leR]
  | [], _ :: _, _, h, _ => by simp at h
  | _ :: _, [], _, h, _ => by simp at h
  | u :: a, v :: b, 0, _, h => by simp [leL] at h; simpa [lRow] using h.1
  | u :: a, v :: b, i + 1, hl, h => by
    simp [leL] at h
    have := leL_row a b i (by simpa using hl) h.2
    simpa [lRow] using this
theorem late_mono (f : Fli) {t u : Int} (h : t ≤ u) (hp : 0 ≤ f.price) : late f t ≤ late f u := by
  unfold late
  exact Int.mul_le_mul_of_nonneg_left (maxZ_mono (Int.le_refl _) (by omega)) hp
theorem after_mono {g : Gp} {p q : Int × List (List Int)} (hp : Lab g p) (hq : Lab g q) (h : nw p q = true) (f : Fli) (hf : GoodFl g.k f) {s : Nat} (hs : s < g.s) {cs : List Stre} {u v : Int} (hu : NextIs cs (tmin g p.2 f s) u) (hv : NextIs cs (tmin g q.2 f s) v) (hl : ¬ f.last < v) :
    ¬ f.last < u ∧ nw (p.1 + late f u, putL p.2 s f.kind.toNat u) (q.1 + late f v, putL q.2 s f.kind.toNat v) = true := by
  simp [nw] at h
  have hlen : p.2.length = q.2.length := by rw [hp.good.1, hq.good.1]
  have huv : u ≤ v := hu.mono (all_mono _ p.2 q.2 0 f.first f.first hlen hp.good.2 hq.good.2 hp.ge h.2 (Int.le_refl _)) hv
  have hc := late_mono f huv hf.p0
  refine ⟨by omega, ?_⟩
  simp only [nw, Bool.and_eq_true, decide_eq_true_eq]
  refine ⟨by omega, ?_⟩
  unfold putL
  refine leL_set _ _ _ _ _ hlen h.2 (leR_set _ _ _ _ _ ?_ (leL_row _ _ _ hlen h.2) huv)
  rw [(lRow_mem hp.good hs).2.1, (lRow_mem hq.good hs).2.1]
section
variable (CR CP : Addr)
theorem nw_row (n : Nat) (a0 a1 a2 a3 : Option Dat) : ∀ (r t : List Int) (z4 z5 : Option Dat), ∃ y4 y5, forD (.tp [4, 5]) (b_is_no_worse_3 CR CP n) (zipL (r.map .int) (t.map .int)) [a0, a1, a2, a3, z4, z5] = if leR r t = true then .ok (.nx [a0, a1, a2, a3, y4, y5]) else .ok (.rt (.bl false))
  | [], t, z4, z5 => ⟨z4, z5, by rw [List.map_nil, zipL.eq_def]; simp [forD, leR]⟩
  | x :: r, [], z4, z5 => ⟨z4, z5, by rw [List.map_nil, List.map_cons, zipL.eq_def]; simp [forD, leR]⟩
  | x :: r, y :: t, z4, z5 => by
    obtain ⟨y4, y5, ih⟩ := nw_row n a0 a1 a2 a3 r t (some (.int x)) (some (.int y))
    refine ⟨y4, y5, ?_⟩
    rw [List.map_cons, List.map_cons, zipL, forD]
    by_cases h : x ≤ y
    · have h' : ¬ y < x := by omega
      simp only [leR, h, decide_true, Bool.true_and]
      rw [← ih]
      simp [b_is_no_worse_3, c_is_no_worse_2, h']
    · have h' : y < x := by omega
      simp [leR, h, b_is_no_worse_3, c_is_no_worse_2, h']
theorem nw_rows (n : Nat) (a0 a1 : Option Dat) : ∀ (L M : List (List Int)) (z2 z3 z4 z5 : Option Dat), ∃ y2 y3 y4 y5, forD (.tp [2, 3]) (b_is_no_worse_4 CR CP n) (zipL (L.map tupI) (M.map tupI)) [a0, a1, z2, z3, z4, z5] = if leL L M = true then .ok (.nx [a0, a1, y2, y3, y4, y5]) else .ok (.rt (.bl false))
  | [], t, z2, z3, z4, z5 => ⟨z2, z3, z4, z5, by rw [List.map_nil, zipL.eq_def]; simp [forD, leL]⟩
  | x :: r, [], z2, z3, z4, z5 => ⟨z2, z3, z4, z5, by rw [List.map_nil, List.map_cons, zipL.eq_def]; simp [forD, leL]⟩
  | r :: L, t :: M, z2, z3, z4, z5 => by
    obtain ⟨w4, w5, er⟩ := nw_row CR CP n a0 a1 (some (tupI r)) (some (tupI t)) r t z4 z5
    obtain ⟨y2, y3, y4, y5, ih⟩ := nw_rows n a0 a1 L M (some (tupI r)) (some (tupI t)) w4 w5
    refine ⟨y2, y3, y4, y5, ?_⟩
    rw [List.map_cons, List.map_cons, zipL, forD]
    have hb : bindP (.tp [2, 3]) (.tup [tupI r, tupI t]) [a0, a1, z2, z3, z4, z5] = .ok [a0, a1, some (tupI r), some (tupI t), z4, z5] := by simp
    have hg : b_is_no_worse_4 CR CP n [a0, a1, some (tupI r), some (tupI t), z4, z5] = if leR r t = true then .ok (.nx [a0, a1, some (tupI r), some (tupI t), w4, w5]) else .ok (.rt (.bl false)) := by
      rw [← er]
      simp [b_is_no_worse_4, tupI]
    rw [hb, bind_ok, hg]
    by_cases h : leR r t = true
    · simp only [leL, h, if_true, Bool.true_and]
      exact ih
    · simp only [leL, h, Bool.false_and]
      simp
theorem nw_ok (n : Nat) (p q : Int × List (List Int)) : m_is_no_worse CR CP n [labP p, labP q] = .ok (.bl (nw p q)) := by
  obtain ⟨y2, y3, y4, y5, e⟩ := nw_rows CR CP n (some (labP p)) (some (labP q)) p.2 q.2 none none none none
  simp only [labP, labD, lastsD] at e ⊢
  by_cases h : p.1 ≤ q.1
  · have h' : ¬ q.1 < p.1 := by omega
    by_cases hl : leL p.2 q.2 = true
    · rw [if_pos hl] at e
      simp [m_is_no_worse, g_is_no_worse, c_is_no_worse_1, h', e, nw, h, hl]
    · rw [if_neg hl] at e
      simp [m_is_no_worse, g_is_no_worse, c_is_no_worse_1, h', e, nw, h, hl]
  · have h' : q.1 < p.1 := by omega
    simp [m_is_no_worse, g_is_no_worse, c_is_no_worse_1, h', nw, h]
end
theorem leR_iff : ∀ {a b : List Int}, a.length = b.length → (leR a b = true ↔ ∀ j, j < a.length → tAt a j ≤ tAt b j)
  | [], [], _ => by simp [leR]
  | [], _ :: _, h => by simp at h
  | _ :: _, [], h => by simp at h
  | u :: a, v :: b, h => by
    have ih := leR_iff (a := a) (b := b) (by simpa using h)
    simp only [leR, Bool.and_eq_true, decide_eq_true_eq, ih]
    constructor
    · rintro ⟨h1, h2⟩ j hj
      cases j with
      | zero => simpa [tAt] using h1
      | succ j => simpa [tAt] using h2 j (by simpa using hj)
    · intro h2
      refine ⟨by simpa [tAt] using h2 0 (by simp), fun j hj => ?_⟩
      simpa [tAt] using h2 (j + 1) (by simpa using hj)
theorem lookM1 (d : Dat) : List.lookup ("many_strips" : Str) [(("gaps" : Str), d)] = none := by
  rw [List.lookup_cons, show ((("many_strips" : Str) == ("gaps" : Str)) = false) from by decide +kernel]
  rfl
theorem lookM2 (d e : Dat) : List.lookup ("many_strips" : Str) [(("gaps" : Str), d), (("beside" : Str), e)] = none := by
  rw [List.lookup_cons, show ((("many_strips" : Str) == ("gaps" : Str)) = false) from by decide +kernel]
  show List.lookup ("many_strips" : Str) [(("beside" : Str), e)] = none
  rw [List.lookup_cons, show ((("many_strips" : Str) == ("beside" : Str)) = false) from by decide +kernel]
  rfl
section
variable (CR CP : Addr)
theorem lnw_rows (n : Nat) {k : Nat} (hk : k ≤ 1000) (a0 a1 : Option Dat) : ∀ (L M : List (List Int)) (z2 z3 : Option Dat), (∀ r ∈ L, r.length = k) → (∀ r ∈ M, r.length = k) → ∃ y2 y3, forD (.tp [2, 3]) (b__law_no_worse_3 CR CP n) (zipL (L.map tupI) (M.map tupI)) [a0, a1, z2, z3] = if leL L M = true then .ok (.nx [a0, a1, y2, y3]) else .ok (.rt (.bl false))
  | [], t, z2, z3, _, _ => ⟨z2, z3, by rw [List.map_nil, zipL.eq_def]; simp [forD, leL]⟩
  | x :: r, [], z2, z3, _, _ => ⟨z2, z3, by rw [List.map_nil, List.map_cons, zipL.eq_def]; simp [forD, leL]⟩
  | r :: L, t :: M, z2, z3, h1, h2 => by
    obtain ⟨y2, y3, ih⟩ := lnw_rows n hk a0 a1 L M (some (tupI r)) (some (tupI t)) (fun x hx => h1 x (by simp [hx])) (fun x hx => h2 x (by simp [hx]))
    refine ⟨y2, y3, ?_⟩
    have r1 := h1 r (by simp)
    have r2 := h2 t (by simp)
    have k1 : -4611686018427387904 ≤ (r.length : Int) := by omega
    have k2 : (r.length : Int) < 4611686018427387904 := by omega
    have hrl : (rangeL 0 r.length).length ≤ 16777216 := by rw [rangeL_len]; omega
    have ec := compD_rng (p := .nm 0) (ft := fB (f2 gtD (f2 ixD (fVar 1) (fVar 0)) (f2 ixD (fVar 2) (fVar 0)))) (fe := fVar 0) (ρ0 := [none, some (tupI r), some (tupI t)]) (fun j => decide (tAt t j < tAt r j)) (fun j => .int j) r.length (fun j hj => by
      refine ⟨[some (.int j), some (tupI r), some (tupI t)], by simp, ?_, by simp⟩
      have e1 := getT (ts := r) (i := j) hj
      have e2 := getT (ts := t) (i := j) (by omega)
      simp [tupI, e1, e2])
    rw [List.map_cons, List.map_cons, zipL, forD]
    have hb : bindP (.tp [2, 3]) (.tup [tupI r, tupI t]) [a0, a1, z2, z3] = .ok [a0, a1, some (tupI r), some (tupI t)] := by simp
    have hg : b__law_no_worse_3 CR CP n [a0, a1, some (tupI r), some (tupI t)] = if leR r t = true then .ok (.nx [a0, a1, some (tupI r), some (tupI t)]) else .ok (.rt (.bl false)) := by
      have hiff := leR_iff (a := r) (b := t) (by omega)
      generalize hF : (List.range r.length).filter (fun j => decide (tAt t j < tAt r j)) = Fl at ec
      have eL : (Fl.map fun j : Nat => Dat.int j) = (Fl.map fun j : Nat => (j : Int)).map Dat.int := by rw [List.map_map]; rfl
      rw [eL] at ec
      have hlen : lenD [tupI r] = .ok (.int r.length) := by simp [tupI]
      by_cases h : leR r t = true
      · rw [if_pos h]
        have hnil : Fl = [] := by
          rw [← hF]
          refine List.filter_eq_nil_iff.mpr fun j hj => ?_
          have := hiff.mp h j (List.mem_range.mp hj)
          simp; omega
        rw [hnil] at ec
        simp [b__law_no_worse_3, c__law_no_worse_2, hlen, k1, k2, hrl, ec, neM, okE, okEs, eqD, eqDs]
      · rw [if_neg h]
        cases Fl with
        | nil =>
          refine absurd (hiff.mpr fun j hj => ?_) h
          have hn : j ∉ (List.range r.length).filter (fun j => decide (tAt t j < tAt r j)) := by rw [hF]; simp
          rw [List.mem_filter] at hn
          refine Classical.byContradiction fun z => hn ⟨List.mem_range.mpr hj, by simp; omega⟩
        | cons j0 Fl =>
          have hne : neM (.lst (((j0 :: Fl).map fun j : Nat => (j : Int)).map Dat.int)) (.lst []) = .ok (.bl true) := by
            have h : okE (.lst (((j0 :: Fl).map fun j : Nat => (j : Int)).map Dat.int)) 40 = true := by simp [okE, okEs_in, -List.map_map, -List.map_cons]
            unfold neM
            rw [h]
            simp [okE, okEs, eqD, eqDs]
          generalize ((j0 :: Fl).map fun j : Nat => (j : Int)).map Dat.int = LL at ec hne
          simp [b__law_no_worse_3, c__law_no_worse_2, hlen, k1, k2, hrl, ec, hne]
    rw [hb, bind_ok, hg]
    by_cases h : leR r t = true
    · simp only [leL, h, if_true, Bool.true_and]
      exact ih
    · simp only [leL, h, Bool.false_and]
      simp
theorem lnw_ok (n : Nat) {g : Gp} (hg : g.Good) {p q : Int × List (List Int)} (hp : GoodL g.s g.k p.2) (hq : GoodL g.s g.k q.2) : m__law_no_worse CR CP n [labP p, labP q] = .ok (.bl (nw p q)) := by
  have k3 := hg.k3
  obtain ⟨y2, y3, e⟩ := lnw_rows CR CP n (k := g.k) (by omega) (some (labP p)) (some (labP q)) p.2 q.2 none none hp.2 hq.2
  simp only [labP, labD, lastsD] at e ⊢
  by_cases h : p.1 ≤ q.1
  · have h' : ¬ q.1 < p.1 := by omega
    by_cases hl : leL p.2 q.2 = true
    · rw [if_pos hl] at e
      simp [m__law_no_worse, g__law_no_worse, c__law_no_worse_1, h', e, nw, h, hl]
    · rw [if_neg hl] at e
      simp [m__law_no_worse, g__law_no_worse, c__law_no_worse_1, h', e, nw, h, hl]
  · have h' : q.1 < p.1 := by omega
    simp [m__law_no_worse, g__law_no_worse, c__law_no_worse_1, h', nw, h]
theorem gstrips (n : Nat) (hne : CR ≠ CP) {g : Gp} (fo : Env' → M Dat) (ρ : Env') (h0 : fo ρ = .ok (rulesD CR CP g.rows g.o)) : fMeth2 CR CP "many_strips" (m_Rules_many_strips CR CP n) (m_Pair_many_strips CR CP n) fo fNil ρ = .ok (.int g.s) := by
  unfold fMeth2
  rw [h0, bind_ok]
  cases h : g.two with
  | false =>
    have ho : g.o = .non := by simp [Gp.o, h]
    have hc : isC CR "many_strips" (rulesD CR CP g.rows g.o) = true := by
      rw [ho]
      show ((CR == CR) && (List.lookup ("many_strips" : Str) [(("gaps" : Str), rowsD g.rows)]).isNone) = true
      rw [lookM1]; simp
    rw [if_pos hc]
    simp [m_Rules_many_strips, g_Rules_many_strips, Gp.s, h]
  | true =>
    have ho : g.o = rowsD g.r2 := by simp [Gp.o, h]
    have hc : isC CR "many_strips" (rulesD CR CP g.rows g.o) = false := by
      rw [ho]
      show ((CP == CR) && (List.lookup ("many_strips" : Str) [(("gaps" : Str), rowsD g.rows), (("beside" : Str), rowsD g.r2)]).isNone) = false
      have : (CP == CR) = false := by simp; exact fun z => hne z.symm
      rw [this]; rfl
    have hc2 : isC CP "many_strips" (rulesD CR CP g.rows g.o) = true := by
      rw [ho]
      show ((CP == CP) && (List.lookup ("many_strips" : Str) [(("gaps" : Str), rowsD g.rows), (("beside" : Str), rowsD g.r2)]).isNone) = true
      rw [lookM2]; simp
    rw [if_neg (by rw [hc]; simp), if_pos hc2]
    simp [m_Pair_many_strips, g_Pair_many_strips, Gp.s, h]
end
section
variable (CR CP : Addr)
theorem too_ok (n : Nat) (hne : CR ≠ CP) {g : Gp} (hg : g.Good) {cs : List Stre} (hc1 : cs.length ≤ 20) (hc2 : ∀ p ∈ cs, p.1 < p.2) {fl : List Fli} (hfl : ∀ f ∈ fl, GoodFl g.k f) (hf4 : fl.length = 4) {p q : Int × List (List Int)} (hp : Lab g p) (hq : Lab g q) (h : nw p q = true) :
    m__law_behind_too CR CP n [rulesD CR CP g.rows g.o, .lst (fl.map flD), .lst (cs.map stD), labP p, labP q] = .ok (.bl true) := by
  have hs2 : g.s ≤ 2 := by unfold Gp.s; split <;> omega
  have j1 : -4611686018427387904 ≤ (g.s : Int) := by omega
  have j2 : (g.s : Int) < 4611686018427387904 := by omega
  have one : ∀ (f s : Nat), f < 4 → s < g.s → ∀ z7 z8 : Option Dat, ∃ y7 y8, b__law_behind_too_2 CR CP n [some (rulesD CR CP g.rows g.o), some (.lst (fl.map flD)), some (.lst (cs.map stD)), some (labP p), some (labP q), some (.int f), some (.int s), z7, z8] = .ok (.nx [some (rulesD CR CP g.rows g.o), some (.lst (fl.map flD)), some (.lst (cs.map stD)), some (labP p), some (labP q), some (.int f), some (.int s), y7, y8]) := by
    intro f s hf hs z7 z8
    obtain ⟨u, eu, hu⟩ := next_ok CR CP n cs (tmin g p.2 (flAt fl f) s) (by omega) hc2
    obtain ⟨v, ev, hv⟩ := next_ok CR CP n cs (tmin g q.2 (flAt fl f) s) (by omega) hc2
    have b1 := behind_ok CR CP n hne hg hc1 hc2 hfl p.1 hp.good (q := f) (s := s) (by omega) hs hu
    have b2 := behind_ok CR CP n hne hg hc1 hc2 hfl q.1 hq.good (q := f) (s := s) (by omega) hs hv
    have gf := hfl _ (getFl (fl := fl) (i := f) (by omega) (by omega)).2
    refine ⟨some (after g q.1 q.2 (flAt fl f) s v), some (after g p.1 p.2 (flAt fl f) s u), ?_⟩
    change m_label_behind CR CP n [rulesD CR CP g.rows g.o, .lst (fl.map flD), .lst (cs.map stD), labP p, .int f, .int s] = _ at b1
    change m_label_behind CR CP n [rulesD CR CP g.rows g.o, .lst (fl.map flD), .lst (cs.map stD), labP q, .int f, .int s] = _ at b2
    by_cases hl : (flAt fl f).last < v
    · have ea : after g q.1 q.2 (flAt fl f) s v = .non := by unfold after; rw [if_pos hl]
      rw [ea] at b2 ⊢
      simp [b__law_behind_too_2, b1, b2, c__law_behind_too_1]
    · obtain ⟨m1, m2⟩ := after_mono hp hq h (flAt fl f) gf hs hu hv hl
      have ea : after g q.1 q.2 (flAt fl f) s v = labP (q.1 + late (flAt fl f) v, putL q.2 s (flAt fl f).kind.toNat v) := by unfold after labP; rw [if_neg hl]
      have eb : after g p.1 p.2 (flAt fl f) s u = labP (p.1 + late (flAt fl f) u, putL p.2 s (flAt fl f).kind.toNat u) := by unfold after labP; rw [if_neg m1]
      have el := lnw_ok CR CP n hg (p := (p.1 + late (flAt fl f) u, putL p.2 s (flAt fl f).kind.toNat u)) (q := (q.1 + late (flAt fl f) v, putL q.2 s (flAt fl f).kind.toNat v)) (putL_good hp.good hs u) (putL_good hq.good hs v)
      rw [m2] at el
      rw [ea] at b2 ⊢
      rw [eb] at b1 ⊢
      have n1 : ∀ x, notND (labP x) .non = .ok (.bl true) := fun x => by simp [labP, labD]
      have n2 : ∀ x, isND (labP x) .non = .ok (.bl false) := fun x => by simp [labP, labD]
      simp [b__law_behind_too_2, b1, b2, c__law_behind_too_1, n1, n2, el, -e_isN, -e_notN]
  have two : ∀ (f : Nat), f < 4 → ∀ z6 z7 z8 : Option Dat, ∃ y6 y7 y8, b__law_behind_too_3 CR CP n [some (rulesD CR CP g.rows g.o), some (.lst (fl.map flD)), some (.lst (cs.map stD)), some (labP p), some (labP q), some (.int f), z6, z7, z8] = .ok (.nx [some (rulesD CR CP g.rows g.o), some (.lst (fl.map flD)), some (.lst (cs.map stD)), some (labP p), some (labP q), some (.int f), y6, y7, y8]) := by
    intro f hf z6 z7 z8
    obtain ⟨ρ', e, y6, y7, y8, rfl⟩ := forD_inv (p := .nm 6) (g := b__law_behind_too_2 CR CP n)
      (fun i ρ => ∃ (z6 z7 z8 : Option Dat), ρ = [some (rulesD CR CP g.rows g.o), some (.lst (fl.map flD)), some (.lst (cs.map stD)), some (labP p), some (labP q), some (.int f), z6, z7, z8]) (rangeL 0 g.s) 0 [some (rulesD CR CP g.rows g.o), some (.lst (fl.map flD)), some (.lst (cs.map stD)), some (labP p), some (labP q), some (.int f), z6, z7, z8] ⟨z6, z7, z8, rfl⟩ (by
      rintro i d ρ hd ⟨z6, z7, z8, rfl⟩
      obtain ⟨hi, rfl⟩ := range0_get hd
      obtain ⟨y7, y8, e⟩ := one f i hf hi z7 z8
      exact ⟨[some (rulesD CR CP g.rows g.o), some (.lst (fl.map flD)), some (.lst (cs.map stD)), some (labP p), some (labP q), some (.int f), some (.int i), z7, z8], by simp, _, .inl e, some (.int i), y7, y8, rfl⟩)
    refine ⟨y6, y7, y8, ?_⟩
    have em := gstrips CR CP n hne (g := g) (fVar 0) [some (rulesD CR CP g.rows g.o), some (.lst (fl.map flD)), some (.lst (cs.map stD)), some (labP p), some (labP q), some (.int f), z6, z7, z8] (by simp)
    have er : fRng rng1 (fCons (fMeth2 CR CP "many_strips" (m_Rules_many_strips CR CP n) (m_Pair_many_strips CR CP n) (fVar 0) fNil) fNil) [some (rulesD CR CP g.rows g.o), some (.lst (fl.map flD)), some (.lst (cs.map stD)), some (labP p), some (labP q), some (.int f), z6, z7, z8] = .ok (rangeL 0 g.s) := by
      unfold fRng fCons
      rw [em]
      simp [fNil, j1, j2]
    unfold b__law_behind_too_3 sFor
    show Except.bind (fRng rng1 _ _) _ = _
    rw [show erase [] [some (rulesD CR CP g.rows g.o), some (.lst (fl.map flD)), some (.lst (cs.map stD)), some (labP p), some (labP q), some (.int f), z6, z7, z8] = [some (rulesD CR CP g.rows g.o), some (.lst (fl.map flD)), some (.lst (cs.map stD)), some (labP p), some (labP q), some (.int f), z6, z7, z8] from rfl, er]
    exact e
  obtain ⟨ρ', e, y5, y6, y7, y8, rfl⟩ := forD_inv (p := .nm 5) (g := b__law_behind_too_3 CR CP n)
    (fun i ρ => ∃ (z5 z6 z7 z8 : Option Dat), ρ = [some (rulesD CR CP g.rows g.o), some (.lst (fl.map flD)), some (.lst (cs.map stD)), some (labP p), some (labP q), z5, z6, z7, z8]) (rangeL 0 4) 0 [some (rulesD CR CP g.rows g.o), some (.lst (fl.map flD)), some (.lst (cs.map stD)), some (labP p), some (labP q), none, none, none, none] ⟨none, none, none, none, rfl⟩ (by
    rintro i d ρ hd ⟨z5, z6, z7, z8, rfl⟩
    obtain ⟨hi, rfl⟩ := range0_get hd
    obtain ⟨y6, y7, y8, e⟩ := two i hi z6 z7 z8
    exact ⟨[some (rulesD CR CP g.rows g.o), some (.lst (fl.map flD)), some (.lst (cs.map stD)), some (labP p), some (labP q), some (.int i), z6, z7, z8], by simp, _, .inl e, some (.int i), y6, y7, y8, rfl⟩)
  simp [m__law_behind_too, g__law_behind_too, hf4, e]
theorem g0 {g : Gp} (hg : g.Good) : ∃ ds, g.D = .lst ds ∧ ds.length = g.s ∧ getI ds 0 = .ok (rowsD g.rows) ∧ g.rows.length = g.k := by
  unfold Gp.D Gp.s
  cases g.two <;> exact ⟨_, rfl, rfl, by simp, hg.rows.1⟩
theorem lab_row (n : Nat) (ns : List Int) {g : Gp} (hg : g.Good) (rows : List Dat) (i : Nat) (hi : i < g.s) (z7 z8 : Option Dat) :
    ∃ (r : List Int) (y7 y8 : Option Dat), r.length = g.k ∧ geR r ∧ forD (.nm 7) (b__law_label_1 CR CP n) (rangeL 0 g.k) [some (.lst (ns.map .int)), some (.int 33), some g.D, some (.lst rows), some (.int g.k), some (.int i), some (.lst []), z7, z8] = .ok (.nx [some (.lst (ns.map .int)), some (.int 33), some g.D, some (.lst rows), some (.int g.k), some (.int i), some (.lst (r.map .int)), y7, y8]) := by
  have k3 := hg.k3
  have hs2 : g.s ≤ 2 := by unfold Gp.s; split <;> omega
  obtain ⟨ρ', e, r, y7, y8, rfl, h1, h2⟩ := forD_inv (p := .nm 7) (g := b__law_label_1 CR CP n)
    (fun j ρ => ∃ (r : List Int) (z7 z8 : Option Dat), ρ = [some (.lst (ns.map .int)), some (.int 33), some g.D, some (.lst rows), some (.int g.k), some (.int i), some (.lst (r.map .int)), z7, z8] ∧ r.length = j ∧ geR r) (rangeL 0 g.k) 0 _ ⟨[], z7, z8, rfl, rfl, fun x hx => by simp at hx⟩ (by
    rintro j d ρ hd ⟨r, z7, z8, rfl, hr1, hr2⟩
    obtain ⟨hj, rfl⟩ := range0_get hd
    have hm : (i : Int) * g.k ≤ 6 := by
      have : i * g.k ≤ 2 * 3 := Nat.mul_le_mul (by omega) k3
      exact_mod_cast this
    have hm0 : 0 ≤ (i : Int) * g.k := Int.mul_nonneg (by omega) (by omega)
    obtain ⟨c, ec⟩ := cell_ok CR CP n ns (33 + (i : Int) * g.k + (j : Int)) (by omega) (by omega)
    obtain ⟨v, hv, ev⟩ : ∃ v : Int, -1 ≤ v ∧ getI [.int (-1), .int (c * 48271 % 65537 / 2 % 70)] (c * 48271 % 65537 % 2) = .ok (.int v) := by
      have q : c * 48271 % 65537 % 2 = 0 ∨ c * 48271 % 65537 % 2 = 1 := by omega
      rcases q with h | h
      · exact ⟨-1, by omega, by rw [h]; simp⟩
      · exact ⟨c * 48271 % 65537 / 2 % 70, by omega, by rw [h]; simp⟩
    have k1 : -18446744073709551616 < (i : Int) := by omega
    have k2 : (i : Int) < 18446744073709551616 := by omega
    have hl : r.length < 16777216 := by omega
    refine ⟨[some (.lst (ns.map .int)), some (.int 33), some g.D, some (.lst rows), some (.int g.k), some (.int i), some (.lst (r.map .int)), some (.int j), z8], by simp, [some (.lst (ns.map .int)), some (.int 33), some g.D, some (.lst rows), some (.int g.k), some (.int i), some (.lst ((r ++ [v]).map .int)), some (.int j), some (.int (c * 48271 % 65537))], .inl ?_, _, _, _, rfl, by simp; omega, fun y hy => ?_⟩
    · simp [b__law_label_1, k1, k2, ec, ev, hl]
    · rcases List.mem_append.mp hy with z | z
      · exact hr2 y z
      · simp at z; subst z; exact hv)
  rw [Nat.zero_add, rangeL_len] at h1
  exact ⟨r, y7, y8, h1, h2, e⟩
theorem lab_ok (n : Nat) (ns : List Int) {g : Gp} (hg : g.Good) : ∃ p, Lab g p ∧ m__law_label CR CP n [.lst (ns.map .int), .int 33, g.D] = .ok (labP p) := by
  have k3 := hg.k3
  have hs2 : g.s ≤ 2 := by unfold Gp.s; split <;> omega
  obtain ⟨ds, hD, hDl, hd0, hrl⟩ := g0 hg
  have k1 : -4611686018427387904 ≤ (g.k : Int) := by omega
  have k2 : (g.k : Int) < 4611686018427387904 := by omega
  have j1 : -4611686018427387904 ≤ (g.s : Int) := by omega
  have j2 : (g.s : Int) < 4611686018427387904 := by omega
  obtain ⟨x, ex⟩ := cell_ok CR CP n ns 33 (by omega) (by omega)
  obtain ⟨ρ', e, L, y5, y6, y7, y8, rfl, h1, h2, h3⟩ := forD_inv (p := .nm 5) (g := b__law_label_2 CR CP n)
    (fun i ρ => ∃ (L : List (List Int)) (z5 z6 z7 z8 : Option Dat), ρ = [some (.lst (ns.map .int)), some (.int 33), some g.D, some (.lst (L.map tupI)), some (.int g.k), z5, z6, z7, z8] ∧ L.length = i ∧ (∀ r ∈ L, r.length = g.k) ∧ geL L) (rangeL 0 g.s) 0 [some (.lst (ns.map .int)), some (.int 33), some g.D, some (.lst []), some (.int g.k), none, none, none, none] ⟨[], none, none, none, none, rfl, rfl, by simp, fun r hr => by simp at hr⟩ (by
    rintro i d ρ hd ⟨L, z5, z6, z7, z8, rfl, hr1, hr2, hr3⟩
    obtain ⟨hi, rfl⟩ := range0_get hd
    obtain ⟨r, y7, y8, hr, hge, er⟩ := lab_row CR CP n ns hg (L.map tupI) i hi z7 z8
    have hl : L.length < 16777216 := by omega
    have hl2 : r.length ≤ 16777216 := by omega
    refine ⟨[some (.lst (ns.map .int)), some (.int 33), some g.D, some (.lst (L.map tupI)), some (.int g.k), some (.int i), z6, z7, z8], by simp, [some (.lst (ns.map .int)), some (.int 33), some g.D, some (.lst ((L ++ [r]).map tupI)), some (.int g.k), some (.int i), some (.lst (r.map .int)), y7, y8], .inl ?_, _, _, _, _, _, rfl, by simp; omega, fun y hy => ?_, fun y hy => ?_⟩
    · simp [b__law_label_2, k1, k2, er, hl, hl2, tupI]
    · rcases List.mem_append.mp hy with z | z
      · exact hr2 y z
      · simp at z; subst z; exact hr
    · rcases List.mem_append.mp hy with z | z
      · exact hr3 y z
      · simp at z; subst z; exact hge)
  rw [Nat.zero_add, rangeL_len] at h1
  refine ⟨(x % 50, L), ⟨⟨h1, h2⟩, h3⟩, ?_⟩
  have hl : L.length ≤ 16777216 := by omega
  rw [hD] at e ⊢
  simp [m__law_label, g__law_label, ex, hd0, rowsD, hrl, hDl, j1, j2, e, hl, labP, labD, lastsD]
theorem step_v (x : Int) : ∃ v : Int, getI [.int 0, .int 0, .int (x / 64 % 5), .int (x / 64 % 5), .int 1, .int (x / 64 % 40), .int 0, .int (-1)] (x % 8) = .ok (.int v) := by
  obtain ⟨j, hj, hj8⟩ : ∃ j : Nat, x % 8 = j ∧ j < 8 := ⟨(x % 8).toNat, by omega, by omega⟩
  rw [hj, getI_nat (by simpa using hj8)]
  match j, hj8 with
  | 0, _ => exact ⟨_, rfl⟩
  | 1, _ => exact ⟨_, rfl⟩
  | 2, _ => exact ⟨_, rfl⟩
  | 3, _ => exact ⟨_, rfl⟩
  | 4, _ => exact ⟨_, rfl⟩
  | 5, _ => exact ⟨_, rfl⟩
  | 6, _ => exact ⟨_, rfl⟩
  | 7, _ => exact ⟨_, rfl⟩
  | j + 8, h => omega
theorem more_v (x : Int) : ∃ v : Int, getI [.int 0, .int 3, .int 0, .int 1, .int 0, .int (-1)] (x % 6) = .ok (.int v) := by
  obtain ⟨j, hj, hj8⟩ : ∃ j : Nat, x % 6 = j ∧ j < 6 := ⟨(x % 6).toNat, by omega, by omega⟩
  rw [hj, getI_nat (by simpa using hj8)]
  match j, hj8 with
  | 0, _ => exact ⟨_, rfl⟩
  | 1, _ => exact ⟨_, rfl⟩
  | 2, _ => exact ⟨_, rfl⟩
  | 3, _ => exact ⟨_, rfl⟩
  | 4, _ => exact ⟨_, rfl⟩
  | 5, _ => exact ⟨_, rfl⟩
  | j + 6, h => omega
theorem later_row (n : Nat) (a0 a1 a4 : Option Dat) (rows : List Dat) (r : List Int) (hk : r.length ≤ 1000) (m0 : Int) (z6 z7 : Option Dat) : ∃ (t : List Int) (m : Int) (y6 y7 : Option Dat), t.length = r.length ∧ geR t ∧ forD (.nm 6) (b__law_later_1 CR CP n) (r.map .int) [a0, a1, some (.int m0), some (.lst rows), a4, some (.lst []), z6, z7] = .ok (.nx [a0, a1, some (.int m), some (.lst rows), a4, some (.lst (t.map .int)), y6, y7]) := by
  obtain ⟨ρ', e, t, m, y6, y7, rfl, h1, h2⟩ := forD_inv (p := .nm 6) (g := b__law_later_1 CR CP n)
    (fun j ρ => ∃ (t : List Int) (m : Int) (z6 z7 : Option Dat), ρ = [a0, a1, some (.int m), some (.lst rows), a4, some (.lst (t.map .int)), z6, z7] ∧ t.length = j ∧ geR t) (r.map .int) 0 _ ⟨[], m0, z6, z7, rfl, rfl, fun x hx => by simp at hx⟩ (by
    rintro j d ρ hd ⟨t, m, z6, z7, rfl, hr1, hr2⟩
    rw [List.getElem?_map] at hd
    obtain ⟨x, hx, rfl⟩ := Option.map_eq_some_iff.mp hd
    have hj : j < r.length := (List.getElem?_eq_some_iff.mp hx).1
    obtain ⟨v, ev⟩ := step_v (m * 48271 % 2147483647)
    have hl : t.length < 16777216 := by omega
    refine ⟨[a0, a1, some (.int m), some (.lst rows), a4, some (.lst (t.map .int)), some (.int x), z7], by simp, [a0, a1, some (.int (m * 48271 % 2147483647)), some (.lst rows), a4, some (.lst ((t ++ [maxZ (-1) (x + v)]).map .int)), some (.int x), some (.int v)], .inl ?_, _, _, _, _, rfl, by simp; omega, fun y hy => ?_⟩
    · simp [b__law_later_1, ev, hl]
    · rcases List.mem_append.mp hy with z | z
      · exact hr2 y z
      · simp at z; subst z
        unfold maxZ; split <;> omega)
  rw [Nat.zero_add, List.length_map] at h1
  exact ⟨t, m, y6, y7, h1, h2, e⟩
theorem later_ok (n : Nat) {g : Gp} (hg : g.Good) {p : Int × List (List Int)} (hp : Lab g p) (x : Int) : ∃ q, Lab g q ∧ m__law_later CR CP n [labP p, .int x] = .ok (labP q) := by
  have k3 := hg.k3
  have hs2 : g.s ≤ 2 := by unfold Gp.s; split <;> omega
  obtain ⟨hpl, hpr⟩ := hp.good
  obtain ⟨v, ev⟩ := more_v x
  obtain ⟨ρ', e, L, m, y4, y5, y6, y7, rfl, h1, h2, h3⟩ := forD_inv (p := .nm 4) (g := b__law_later_2 CR CP n)
    (fun i ρ => ∃ (L : List (List Int)) (m : Int) (z4 z5 z6 z7 : Option Dat), ρ = [some (labP p), some (.int x), some (.int m), some (.lst (L.map tupI)), z4, z5, z6, z7] ∧ L.length = i ∧ (∀ r ∈ L, r.length = g.k) ∧ geL L) (p.2.map tupI) 0 [some (labP p), some (.int x), some (.int (x * 69621 % 2147483629)), some (.lst []), none, none, none, none] ⟨[], _, none, none, none, none, rfl, rfl, by simp, fun r hr => by simp at hr⟩ (by
    rintro i d ρ hd ⟨L, m, z4, z5, z6, z7, rfl, hr1, hr2, hr3⟩
    rw [List.getElem?_map] at hd
    obtain ⟨r, hr, rfl⟩ := Option.map_eq_some_iff.mp hd
    have hi : i < p.2.length := (List.getElem?_eq_some_iff.mp hr).1
    have hrk := hpr r (List.mem_of_getElem? hr)
    obtain ⟨t, m', y6, y7, ht, hge, et⟩ := later_row CR CP n (some (labP p)) (some (.int x)) (some (tupI r)) (L.map tupI) r (by omega) m z6 z7
    have hl : L.length < 16777216 := by omega
    have hl2 : t.length ≤ 16777216 := by omega
    refine ⟨[some (labP p), some (.int x), some (.int m), some (.lst (L.map tupI)), some (tupI r), z5, z6, z7], by simp, [some (labP p), some (.int x), some (.int m'), some (.lst ((L ++ [t]).map tupI)), some (tupI r), some (.lst (t.map .int)), y6, y7], .inl ?_, _, _, _, _, _, _, rfl, by simp; omega, fun y hy => ?_, fun y hy => ?_⟩
    · simp only [tupI] at et ⊢
      simp [b__law_later_2, et, hl, hl2]
      rfl
    · rcases List.mem_append.mp hy with z | z
      · exact hr2 y z
      · simp at z; subst z; omega
    · rcases List.mem_append.mp hy with z | z
      · exact hr3 y z
      · simp at z; subst z; exact hge)
  rw [Nat.zero_add, List.length_map] at h1
  refine ⟨(maxZ 0 (p.1 + v), L), ⟨⟨by show L.length = _; omega, h2⟩, h3⟩, ?_⟩
  have hl : L.length ≤ 16777216 := by omega
  simp only [labP, labD, lastsD] at e ⊢
  simp [m__law_later, g__law_later, e, ev, hl]
end
theorem flat_ints : ∀ r : List Int, flatDs (r.map .int) = true
  | [] => by simp [flatDs]
  | x :: r => by simp [flatDs, flat_ints r]
theorem flat_tups : ∀ L : List (List Int), flatDs (L.map tupI) = true
  | [] => by simp [flatDs]
  | r :: L => by simp [flatDs, tupI, flatD, flat_ints r, flat_tups L]
theorem flat_lab (p : Int × List (List Int)) : flatD (labP p) = true := by simp [labP, labD, lastsD, flatD, flatDs, flat_tups]
section
variable (CR CP : Addr)
theorem law_true (hne : CR ≠ CP) : ∀ ns : List Int, ns.length ≤ 63 → ∃ n, m_law CR CP n [.lst (ns.map .int)] = .ok (.bl true) := by
  intro ns hns
  refine ⟨64, ?_⟩
  obtain ⟨g, hg, egp⟩ := gps_ok CR CP 64 ns
  obtain ⟨ds, hD, hDl, hd0, hrl⟩ := g0 hg
  have er := grules_ok CR CP 64 hg
  obtain ⟨cs, hc1, hc2, ec⟩ := gclosed_ok CR CP 64 ns
  obtain ⟨fl, hf1, hf2, ef⟩ := gflights_ok CR CP 64 ns g.k hg.k1 4 (by omega)
  simp only [Int.cast_ofNat_Int] at ef
  obtain ⟨p0, hp0, e0⟩ := lab_ok CR CP 64 ns hg
  obtain ⟨x1, ex1⟩ := cell_ok CR CP 64 ns 40 (by omega) (by omega)
  obtain ⟨x2, ex2⟩ := cell_ok CR CP 64 ns 41 (by omega) (by omega)
  obtain ⟨p1, hp1, e1⟩ := later_ok CR CP 64 hg hp0 x1
  obtain ⟨p2, hp2, e2⟩ := later_ok CR CP 64 hg hp1 x2
  have hf := flat_lab
  obtain ⟨all, hall⟩ : ∃ all, all = [p0, p1, p2] := ⟨_, rfl⟩
  have hin : ∀ p ∈ all, Lab g p := fun p hp => by
    rw [hall] at hp
    simp at hp
    rcases hp with rfl | rfl | rfl
    · exact hp0
    · exact hp1
    · exact hp2
  have enw := nw_ok CR CP 64
  have r2 : rangeL 0 2 = [.int 0, .int 1] := rfl
  have eloop : forD (.nm 6) (b_law_1 CR CP 64) (rangeL 0 2) [some (.lst (ns.map .int)), some g.D, some (rulesD CR CP g.rows g.o), some (.lst (cs.map stD)), some (.lst (fl.map flD)), some (.lst [labP p0]), none, none, none, none, none] = .ok (.nx [some (.lst (ns.map .int)), some g.D, some (rulesD CR CP g.rows g.o), some (.lst (cs.map stD)), some (.lst (fl.map flD)), some (.lst (all.map labP)), some (.int 1), none, none, none, none]) := by
    have l1 : getI [labP p0] (-1) = .ok (labP p0) := getI_last [] (labP p0)
    have l2 : getI [labP p0, labP p1] (-1) = .ok (labP p1) := getI_last [labP p0] (labP p1)
    rw [r2, hall]
    simp [forD, b_law_1, l1, l2, ex1, ex2, e1, e2, hf]
  have inner : ∀ (p q : Int × List (List Int)), Lab g p → Lab g q → nw p q = true → ∀ z10 : Option Dat, ∃ y10, forD (.nm 10) (b_law_6 CR CP 64) (all.map labP) [some (.lst (ns.map .int)), some g.D, some (rulesD CR CP g.rows g.o), some (.lst (cs.map stD)), some (.lst (fl.map flD)), some (.lst (all.map labP)), some (.int 1), some (labP p), some (labP q), some (.bl true), z10] = .ok (.nx [some (.lst (ns.map .int)), some g.D, some (rulesD CR CP g.rows g.o), some (.lst (cs.map stD)), some (.lst (fl.map flD)), some (.lst (all.map labP)), some (.int 1), some (labP p), some (labP q), some (.bl true), y10]) := by
    intro p q hp hq hpq z10
    obtain ⟨ρ', e, y10, rfl⟩ := forD_inv (p := .nm 10) (g := b_law_6 CR CP 64)
      (fun i ρ => ∃ (z10 : Option Dat), ρ = [some (.lst (ns.map .int)), some g.D, some (rulesD CR CP g.rows g.o), some (.lst (cs.map stD)), some (.lst (fl.map flD)), some (.lst (all.map labP)), some (.int 1), some (labP p), some (labP q), some (.bl true), z10]) (all.map labP) 0 [some (.lst (ns.map .int)), some g.D, some (rulesD CR CP g.rows g.o), some (.lst (cs.map stD)), some (.lst (fl.map flD)), some (.lst (all.map labP)), some (.int 1), some (labP p), some (labP q), some (.bl true), z10] ⟨z10, rfl⟩ (by
      rintro i d ρ hd ⟨z10, rfl⟩
      rw [List.getElem?_map] at hd
      obtain ⟨t, ht, rfl⟩ := Option.map_eq_some_iff.mp hd
      have hlt := hin t (List.mem_of_getElem? ht)
      refine ⟨[some (.lst (ns.map .int)), some g.D, some (rulesD CR CP g.rows g.o), some (.lst (cs.map stD)), some (.lst (fl.map flD)), some (.lst (all.map labP)), some (.int 1), some (labP p), some (labP q), some (.bl true), some (labP t)], by simp, [some (.lst (ns.map .int)), some g.D, some (rulesD CR CP g.rows g.o), some (.lst (cs.map stD)), some (.lst (fl.map flD)), some (.lst (all.map labP)), some (.int 1), some (labP p), some (labP q), some (.bl true), some (labP t)], .inl ?_, some (labP t), rfl⟩
      cases h2 : nw q t with
      | false => simp [b_law_6, c_law_5, enw, h2]
      | true =>
        have h3 := nw_trans hp hq hlt hpq h2
        simp [b_law_6, c_law_5, enw, h2, h3])
    exact ⟨y10, e⟩
  have mid : ∀ (p : Int × List (List Int)), Lab g p → ∀ z8 z9 z10 : Option Dat, ∃ y8 y9 y10, b_law_8 CR CP 64 [some (.lst (ns.map .int)), some g.D, some (rulesD CR CP g.rows g.o), some (.lst (cs.map stD)), some (.lst (fl.map flD)), some (.lst (all.map labP)), some (.int 1), some (labP p), z8, z9, z10] = .ok (.nx [some (.lst (ns.map .int)), some g.D, some (rulesD CR CP g.rows g.o), some (.lst (cs.map stD)), some (.lst (fl.map flD)), some (.lst (all.map labP)), some (.int 1), some (labP p), y8, y9, y10]) := by
    intro p hp z8 z9 z10
    obtain ⟨ρ', e, y8, y9, y10, rfl⟩ := forD_inv (p := .nm 8) (g := b_law_7 CR CP 64)
      (fun i ρ => ∃ (z8 z9 z10 : Option Dat), ρ = [some (.lst (ns.map .int)), some g.D, some (rulesD CR CP g.rows g.o), some (.lst (cs.map stD)), some (.lst (fl.map flD)), some (.lst (all.map labP)), some (.int 1), some (labP p), z8, z9, z10]) (all.map labP) 0 [some (.lst (ns.map .int)), some g.D, some (rulesD CR CP g.rows g.o), some (.lst (cs.map stD)), some (.lst (fl.map flD)), some (.lst (all.map labP)), some (.int 1), some (labP p), z8, z9, z10] ⟨z8, z9, z10, rfl⟩ (by
      rintro i d ρ hd ⟨z8, z9, z10, rfl⟩
      rw [List.getElem?_map] at hd
      obtain ⟨q, hq, rfl⟩ := Option.map_eq_some_iff.mp hd
      have hlq := hin q (List.mem_of_getElem? hq)
      have el := lnw_ok CR CP 64 hg hp.good hlq.good
      refine ⟨[some (.lst (ns.map .int)), some g.D, some (rulesD CR CP g.rows g.o), some (.lst (cs.map stD)), some (.lst (fl.map flD)), some (.lst (all.map labP)), some (.int 1), some (labP p), some (labP q), z9, z10], by simp, ?_⟩
      cases h : nw p q with
      | false =>
        rw [h] at el
        have ep := enw p q
        rw [h] at ep
        refine ⟨[some (.lst (ns.map .int)), some g.D, some (rulesD CR CP g.rows g.o), some (.lst (cs.map stD)), some (.lst (fl.map flD)), some (.lst (all.map labP)), some (.int 1), some (labP p), some (labP q), some (.bl false), z10], .inr ?_, some (labP q), some (.bl false), z10, rfl⟩
        simp [b_law_7, ep, c_law_2, el, c_law_3, sCont]
      | true =>
        rw [h] at el
        have ep := enw p q
        rw [h] at ep
        have et := too_ok CR CP 64 hne hg hc1 hc2 hf2 hf1 hp hlq h
        obtain ⟨y10, ei⟩ := inner p q hp hlq h z10
        refine ⟨[some (.lst (ns.map .int)), some g.D, some (rulesD CR CP g.rows g.o), some (.lst (cs.map stD)), some (.lst (fl.map flD)), some (.lst (all.map labP)), some (.int 1), some (labP p), some (labP q), some (.bl true), y10], .inl ?_, some (labP q), some (.bl true), y10, rfl⟩
        simp [b_law_7, ep, c_law_2, el, c_law_3, c_law_4, et, ei])
    exact ⟨y8, y9, y10, by simp [b_law_8, e]⟩
  obtain ⟨ρ', e, y7, y8, y9, y10, rfl⟩ := forD_inv (p := .nm 7) (g := b_law_8 CR CP 64)
    (fun i ρ => ∃ (z7 z8 z9 z10 : Option Dat), ρ = [some (.lst (ns.map .int)), some g.D, some (rulesD CR CP g.rows g.o), some (.lst (cs.map stD)), some (.lst (fl.map flD)), some (.lst (all.map labP)), some (.int 1), z7, z8, z9, z10]) (all.map labP) 0 [some (.lst (ns.map .int)), some g.D, some (rulesD CR CP g.rows g.o), some (.lst (cs.map stD)), some (.lst (fl.map flD)), some (.lst (all.map labP)), some (.int 1), none, none, none, none] ⟨none, none, none, none, rfl⟩ (by
    rintro i d ρ hd ⟨z7, z8, z9, z10, rfl⟩
    rw [List.getElem?_map] at hd
    obtain ⟨p, hp, rfl⟩ := Option.map_eq_some_iff.mp hd
    obtain ⟨y8, y9, y10, e⟩ := mid p (hin p (List.mem_of_getElem? hp)) z8 z9 z10
    exact ⟨[some (.lst (ns.map .int)), some g.D, some (rulesD CR CP g.rows g.o), some (.lst (cs.map stD)), some (.lst (fl.map flD)), some (.lst (all.map labP)), some (.int 1), some (labP p), z8, z9, z10], by simp, _, .inl e, some (labP p), y8, y9, y10, rfl⟩)
  have g00 : getI (all.map labP) 0 = .ok (labP p0) := by rw [hall]; simp
  have ep0 := enw p0 p0
  rw [nw_refl] at ep0
  rw [hD] at egp er e0 eloop e
  simp [m_law, g_law, egp, er, ec, hd0, rowsD, hrl, ef, e0, eloop, e, g00, ep0]
end
theorem fin_mk {P : Program} {w : World} {K : PySem.W.Frag} {mg : Str → Option Value} {st : Stmt} {ps : List Str} {f : Addr} {fd : FuncData} {k : Nat} (_ : Def K mg "law" st ps f fd) (hb : ∀ (s : Shared) (v : Value), BindsTo s fd ⟨[v], []⟩ [("_law_script", v)]) (h : ∀ base : Heap, FnOk P w K mg base CX0 k f fd ["_law_script"] (spLaw K)) : ∃ fd : FuncData, (∀ (s : Shared) (v : Value), BindsTo s fd ⟨[v], []⟩ [("_law_script", v)]) ∧ ∀ base : Heap, K.In base → base.Ns mainGlobals mg → FnOk P w K mg base CX0 k f fd ["_law_script"] (spLaw K) := ⟨fd, hb, fun base _ _ => h base⟩
theorem all_mk {l : PySem.W.OpenLaw} {w : World} {K : PySem.W.Frag} {h : Heap} {mg : Str → Option Value} {fa CR CP f__law_cell f__law_gap_rows f__law_gaps f_copied_rows f_is_gap f_is_gap_row f_checked_rows f__law_rules f__law_closed f__law_flights f__law_label f_is_no_worse f__law_later f_Rules_many_strips f_Pair_many_strips f_joined_stretches f_next_open f_lasts_with f_late_cost f_Rules_apart f_Pair_apart f_last_gap_times f_label_behind f__law_no_worse f__law_behind_too f_law f_nR f_nP : Addr} {od__law_cell an__law_cell od__law_gap_rows an__law_gap_rows od__law_gaps an__law_gaps od_copied_rows an_copied_rows od_is_gap an_is_gap od_is_gap_row an_is_gap_row od_checked_rows an_checked_rows od__law_rules an__law_rules od__law_closed an__law_closed od__law_flights an__law_flights od__law_label an__law_label od_is_no_worse an_is_no_worse od__law_later an__law_later od_Rules_many_strips an_Rules_many_strips od_Pair_many_strips an_Pair_many_strips od_joined_stretches an_joined_stretches od_next_open an_next_open od_lasts_with an_lasts_with od_late_cost an_late_cost od_Rules_apart an_Rules_apart od_Pair_apart an_Pair_apart od_last_gap_times an_last_gap_times od_label_behind an_label_behind od__law_no_worse an__law_no_worse od__law_behind_too an__law_behind_too od_law an_law od_nR an_nR od_nP an_nP : Option Addr} {sl__law_cell sl__law_gap_rows sl__law_gaps sl_copied_rows sl_is_gap sl_is_gap_row sl_checked_rows sl__law_rules sl__law_closed sl__law_flights sl__law_label sl_is_no_worse sl__law_later sl_Rules_many_strips sl_Pair_many_strips sl_joined_stretches sl_next_open sl_lasts_with sl_late_cost sl_Rules_apart sl_Pair_apart sl_last_gap_times sl_label_behind sl__law_no_worse sl__law_behind_too sl_law sl_nR sl_nP : Array (Option Value)} {oc__law_cell kV__law_cell dc__law_cell pm__law_cell cd__law_cell ct__law_cell oc__law_gap_rows kV__law_gap_rows dc__law_gap_rows pm__law_gap_rows cd__law_gap_rows ct__law_gap_rows oc__law_gaps kV__law_gaps dc__law_gaps pm__law_gaps cd__law_gaps ct__law_gaps oc_copied_rows kV_copied_rows dc_copied_rows pm_copied_rows cd_copied_rows ct_copied_rows oc_is_gap kV_is_gap dc_is_gap pm_is_gap cd_is_gap ct_is_gap oc_is_gap_row kV_is_gap_row dc_is_gap_row pm_is_gap_row cd_is_gap_row ct_is_gap_row oc_checked_rows kV_checked_rows dc_checked_rows pm_checked_rows cd_checked_rows ct_checked_rows oc__law_rules kV__law_rules dc__law_rules pm__law_rules cd__law_rules ct__law_rules oc__law_closed kV__law_closed dc__law_closed pm__law_closed cd__law_closed ct__law_closed oc__law_flights kV__law_flights dc__law_flights pm__law_flights cd__law_flights ct__law_flights oc__law_label kV__law_label dc__law_label pm__law_label cd__law_label ct__law_label oc_is_no_worse kV_is_no_worse dc_is_no_worse pm_is_no_worse cd_is_no_worse ct_is_no_worse oc__law_later kV__law_later dc__law_later pm__law_later cd__law_later ct__law_later oc_Rules_many_strips kV_Rules_many_strips dc_Rules_many_strips pm_Rules_many_strips cd_Rules_many_strips ct_Rules_many_strips oc_Pair_many_strips kV_Pair_many_strips dc_Pair_many_strips pm_Pair_many_strips cd_Pair_many_strips ct_Pair_many_strips oc_joined_stretches kV_joined_stretches dc_joined_stretches pm_joined_stretches cd_joined_stretches ct_joined_stretches oc_next_open kV_next_open dc_next_open pm_next_open cd_next_open ct_next_open oc_lasts_with kV_lasts_with dc_lasts_with pm_lasts_with cd_lasts_with ct_lasts_with oc_late_cost kV_late_cost dc_late_cost pm_late_cost cd_late_cost ct_late_cost oc_Rules_apart kV_Rules_apart dc_Rules_apart pm_Rules_apart cd_Rules_apart ct_Rules_apart oc_Pair_apart kV_Pair_apart dc_Pair_apart pm_Pair_apart cd_Pair_apart ct_Pair_apart oc_last_gap_times kV_last_gap_times dc_last_gap_times pm_last_gap_times cd_last_gap_times ct_last_gap_times oc_label_behind kV_label_behind dc_label_behind pm_label_behind cd_label_behind ct_label_behind oc__law_no_worse kV__law_no_worse dc__law_no_worse pm__law_no_worse cd__law_no_worse ct__law_no_worse oc__law_behind_too kV__law_behind_too dc__law_behind_too pm__law_behind_too cd__law_behind_too ct__law_behind_too oc_law kV_law dc_law pm_law cd_law ct_law oc_nR kV_nR dc_nR pm_nR cd_nR ct_nR oc_nP kV_nP dc_nP pm_nP cd_nP ct_nP : Value} {t_GREATEST_GAP t_MOST_KINDS : Tok} (KX : K.In h) (G : h.Ns mainGlobals mg) (hfa : mg "law" = some (.ref fa))
    (c_CR_a : PySem.W.nsIn K mainGlobals "Rules" = some (some (.ref CR)))
    (c_CR_pg : PySem.W.plainGet K CR Str.empty = true)
    (c_CR_hd : PySem.W.hasDictIn K CR = true)
    (c_CR_po : PySem.W.plainOver K CR = true)
    (c_CR_sa : PySem.W.findIn K (.ref CR) "__setattr__" = some (some (.builtin "object.__setattr__")))
    (c_CR_mk : PySem.W.makesIn K CR = true)
    (c_CR_kp : PySem.W.keepIn K (.ref CR) = true)
    (c_CR_c1 : PySem.W.findIn K (.ref CR) "__class__" = some (some (.builtin "object.__class__")))
    (c_CR_c4 : PySem.W.mroIn K CR (.type "object") = some true)
    (n_CR_gaps : PySem.W.findIn K (.ref CR) "gaps" = some none)
    (n_CR_beside : PySem.W.findIn K (.ref CR) "beside" = some none)
    (c_CP_a : PySem.W.nsIn K mainGlobals "Pair" = some (some (.ref CP)))
    (c_CP_pg : PySem.W.plainGet K CP Str.empty = true)
    (c_CP_hd : PySem.W.hasDictIn K CP = true)
    (c_CP_po : PySem.W.plainOver K CP = true)
    (c_CP_sa : PySem.W.findIn K (.ref CP) "__setattr__" = some (some (.builtin "object.__setattr__")))
    (c_CP_mk : PySem.W.makesIn K CP = true)
    (c_CP_kp : PySem.W.keepIn K (.ref CP) = true)
    (c_CP_c1 : PySem.W.findIn K (.ref CP) "__class__" = some (some (.builtin "object.__class__")))
    (c_CP_c4 : PySem.W.mroIn K CP (.type "object") = some true)
    (n_CP_gaps : PySem.W.findIn K (.ref CP) "gaps" = some none)
    (n_CP_beside : PySem.W.findIn K (.ref CP) "beside" = some none)
    (o2 : PySem.W.specialIn K (.builtin "object.__class__") "__get__" = some (some (.builtin "getset_descriptor.__get__")))
    (o3 : PySem.W.takesIn K (.builtin "object.__class__") = some true)
    (x_ne : CR ≠ CP)
    (a__law_cell : PySem.W.nsIn K mainGlobals "_law_cell" = some (some (.ref f__law_cell)))
    (l__law_cell : K.lookup f__law_cell = some ⟨oc__law_cell, od__law_cell, .func (PySem.W.fnOf "_law_cell" "_law_cell" (defArgs s__law_cell) (defBody s__law_cell) (defScope s__law_cell) .none kV__law_cell dc__law_cell pm__law_cell an__law_cell cd__law_cell ct__law_cell), sl__law_cell⟩)
    (d__law_cell : PySem.W.codeIn K cd__law_cell "_law_cell" = true)
    (k__law_cell : PySem.W.keepIn K (.ref f__law_cell) = true)
    (a__law_gap_rows : PySem.W.nsIn K mainGlobals "_law_gap_rows" = some (some (.ref f__law_gap_rows)))
    (l__law_gap_rows : K.lookup f__law_gap_rows = some ⟨oc__law_gap_rows, od__law_gap_rows, .func (PySem.W.fnOf "_law_gap_rows" "_law_gap_rows" (defArgs s__law_gap_rows) (defBody s__law_gap_rows) (defScope s__law_gap_rows) .none kV__law_gap_rows dc__law_gap_rows pm__law_gap_rows an__law_gap_rows cd__law_gap_rows ct__law_gap_rows), sl__law_gap_rows⟩)
    (d__law_gap_rows : PySem.W.codeIn K cd__law_gap_rows "_law_gap_rows" = true)
    (k__law_gap_rows : PySem.W.keepIn K (.ref f__law_gap_rows) = true)
    (a__law_gaps : PySem.W.nsIn K mainGlobals "_law_gaps" = some (some (.ref f__law_gaps)))
    (l__law_gaps : K.lookup f__law_gaps = some ⟨oc__law_gaps, od__law_gaps, .func (PySem.W.fnOf "_law_gaps" "_law_gaps" (defArgs s__law_gaps) (defBody s__law_gaps) (defScope s__law_gaps) .none kV__law_gaps dc__law_gaps pm__law_gaps an__law_gaps cd__law_gaps ct__law_gaps), sl__law_gaps⟩)
    (d__law_gaps : PySem.W.codeIn K cd__law_gaps "_law_gaps" = true)
    (k__law_gaps : PySem.W.keepIn K (.ref f__law_gaps) = true)
    (a_copied_rows : PySem.W.nsIn K mainGlobals "copied_rows" = some (some (.ref f_copied_rows)))
    (l_copied_rows : K.lookup f_copied_rows = some ⟨oc_copied_rows, od_copied_rows, .func (PySem.W.fnOf "copied_rows" "copied_rows" (defArgs s_copied_rows) (defBody s_copied_rows) (defScope s_copied_rows) .none kV_copied_rows dc_copied_rows pm_copied_rows an_copied_rows cd_copied_rows ct_copied_rows), sl_copied_rows⟩)
    (d_copied_rows : PySem.W.codeIn K cd_copied_rows "copied_rows" = true)
    (k_copied_rows : PySem.W.keepIn K (.ref f_copied_rows) = true)
    (a_is_gap : PySem.W.nsIn K mainGlobals "is_gap" = some (some (.ref f_is_gap)))
    (l_is_gap : K.lookup f_is_gap = some ⟨oc_is_gap, od_is_gap, .func (PySem.W.fnOf "is_gap" "is_gap" (defArgs s_is_gap) (defBody s_is_gap) (defScope s_is_gap) .none kV_is_gap dc_is_gap pm_is_gap an_is_gap cd_is_gap ct_is_gap), sl_is_gap⟩)
    (d_is_gap : PySem.W.codeIn K cd_is_gap "is_gap" = true)
    (k_is_gap : PySem.W.keepIn K (.ref f_is_gap) = true)
    (a_is_gap_row : PySem.W.nsIn K mainGlobals "is_gap_row" = some (some (.ref f_is_gap_row)))
    (l_is_gap_row : K.lookup f_is_gap_row = some ⟨oc_is_gap_row, od_is_gap_row, .func (PySem.W.fnOf "is_gap_row" "is_gap_row" (defArgs s_is_gap_row) (defBody s_is_gap_row) (defScope s_is_gap_row) .none kV_is_gap_row dc_is_gap_row pm_is_gap_row an_is_gap_row cd_is_gap_row ct_is_gap_row), sl_is_gap_row⟩)
    (d_is_gap_row : PySem.W.codeIn K cd_is_gap_row "is_gap_row" = true)
    (k_is_gap_row : PySem.W.keepIn K (.ref f_is_gap_row) = true)
    (a_checked_rows : PySem.W.nsIn K mainGlobals "checked_rows" = some (some (.ref f_checked_rows)))
    (l_checked_rows : K.lookup f_checked_rows = some ⟨oc_checked_rows, od_checked_rows, .func (PySem.W.fnOf "checked_rows" "checked_rows" (defArgs s_checked_rows) (defBody s_checked_rows) (defScope s_checked_rows) .none kV_checked_rows dc_checked_rows pm_checked_rows an_checked_rows cd_checked_rows ct_checked_rows), sl_checked_rows⟩)
    (d_checked_rows : PySem.W.codeIn K cd_checked_rows "checked_rows" = true)
    (k_checked_rows : PySem.W.keepIn K (.ref f_checked_rows) = true)
    (a__law_rules : PySem.W.nsIn K mainGlobals "_law_rules" = some (some (.ref f__law_rules)))
    (l__law_rules : K.lookup f__law_rules = some ⟨oc__law_rules, od__law_rules, .func (PySem.W.fnOf "_law_rules" "_law_rules" (defArgs s__law_rules) (defBody s__law_rules) (defScope s__law_rules) .none kV__law_rules dc__law_rules pm__law_rules an__law_rules cd__law_rules ct__law_rules), sl__law_rules⟩)
    (d__law_rules : PySem.W.codeIn K cd__law_rules "_law_rules" = true)
    (k__law_rules : PySem.W.keepIn K (.ref f__law_rules) = true)
    (a__law_closed : PySem.W.nsIn K mainGlobals "_law_closed" = some (some (.ref f__law_closed)))
    (l__law_closed : K.lookup f__law_closed = some ⟨oc__law_closed, od__law_closed, .func (PySem.W.fnOf "_law_closed" "_law_closed" (defArgs s__law_closed) (defBody s__law_closed) (defScope s__law_closed) .none kV__law_closed dc__law_closed pm__law_closed an__law_closed cd__law_closed ct__law_closed), sl__law_closed⟩)
    (d__law_closed : PySem.W.codeIn K cd__law_closed "_law_closed" = true)
    (k__law_closed : PySem.W.keepIn K (.ref f__law_closed) = true)
    (a__law_flights : PySem.W.nsIn K mainGlobals "_law_flights" = some (some (.ref f__law_flights)))
    (l__law_flights : K.lookup f__law_flights = some ⟨oc__law_flights, od__law_flights, .func (PySem.W.fnOf "_law_flights" "_law_flights" (defArgs s__law_flights) (defBody s__law_flights) (defScope s__law_flights) .none kV__law_flights dc__law_flights pm__law_flights an__law_flights cd__law_flights ct__law_flights), sl__law_flights⟩)
    (d__law_flights : PySem.W.codeIn K cd__law_flights "_law_flights" = true)
    (k__law_flights : PySem.W.keepIn K (.ref f__law_flights) = true)
    (a__law_label : PySem.W.nsIn K mainGlobals "_law_label" = some (some (.ref f__law_label)))
    (l__law_label : K.lookup f__law_label = some ⟨oc__law_label, od__law_label, .func (PySem.W.fnOf "_law_label" "_law_label" (defArgs s__law_label) (defBody s__law_label) (defScope s__law_label) .none kV__law_label dc__law_label pm__law_label an__law_label cd__law_label ct__law_label), sl__law_label⟩)
    (d__law_label : PySem.W.codeIn K cd__law_label "_law_label" = true)
    (k__law_label : PySem.W.keepIn K (.ref f__law_label) = true)
    (a_is_no_worse : PySem.W.nsIn K mainGlobals "is_no_worse" = some (some (.ref f_is_no_worse)))
    (l_is_no_worse : K.lookup f_is_no_worse = some ⟨oc_is_no_worse, od_is_no_worse, .func (PySem.W.fnOf "is_no_worse" "is_no_worse" (defArgs s_is_no_worse) (defBody s_is_no_worse) (defScope s_is_no_worse) .none kV_is_no_worse dc_is_no_worse pm_is_no_worse an_is_no_worse cd_is_no_worse ct_is_no_worse), sl_is_no_worse⟩)
    (d_is_no_worse : PySem.W.codeIn K cd_is_no_worse "is_no_worse" = true)
    (k_is_no_worse : PySem.W.keepIn K (.ref f_is_no_worse) = true)
    (a__law_later : PySem.W.nsIn K mainGlobals "_law_later" = some (some (.ref f__law_later)))
    (l__law_later : K.lookup f__law_later = some ⟨oc__law_later, od__law_later, .func (PySem.W.fnOf "_law_later" "_law_later" (defArgs s__law_later) (defBody s__law_later) (defScope s__law_later) .none kV__law_later dc__law_later pm__law_later an__law_later cd__law_later ct__law_later), sl__law_later⟩)
    (d__law_later : PySem.W.codeIn K cd__law_later "_law_later" = true)
    (k__law_later : PySem.W.keepIn K (.ref f__law_later) = true)
    (a_Rules_many_strips : PySem.W.findIn K (.ref CR) "many_strips" = some (some (.ref f_Rules_many_strips)))
    (i_Rules_many_strips : PySem.W.isFn K (.ref f_Rules_many_strips) = true)
    (l_Rules_many_strips : K.lookup f_Rules_many_strips = some ⟨oc_Rules_many_strips, od_Rules_many_strips, .func (PySem.W.fnOf "many_strips" "Rules.many_strips" (defArgs s_Rules_many_strips) (defBody s_Rules_many_strips) (defScope s_Rules_many_strips) .none kV_Rules_many_strips dc_Rules_many_strips pm_Rules_many_strips an_Rules_many_strips cd_Rules_many_strips ct_Rules_many_strips), sl_Rules_many_strips⟩)
    (d_Rules_many_strips : PySem.W.codeIn K cd_Rules_many_strips "Rules.many_strips" = true)
    (k_Rules_many_strips : PySem.W.keepIn K (.ref f_Rules_many_strips) = true)
    (a_Pair_many_strips : PySem.W.findIn K (.ref CP) "many_strips" = some (some (.ref f_Pair_many_strips)))
    (i_Pair_many_strips : PySem.W.isFn K (.ref f_Pair_many_strips) = true)
    (l_Pair_many_strips : K.lookup f_Pair_many_strips = some ⟨oc_Pair_many_strips, od_Pair_many_strips, .func (PySem.W.fnOf "many_strips" "Pair.many_strips" (defArgs s_Pair_many_strips) (defBody s_Pair_many_strips) (defScope s_Pair_many_strips) .none kV_Pair_many_strips dc_Pair_many_strips pm_Pair_many_strips an_Pair_many_strips cd_Pair_many_strips ct_Pair_many_strips), sl_Pair_many_strips⟩)
    (d_Pair_many_strips : PySem.W.codeIn K cd_Pair_many_strips "Pair.many_strips" = true)
    (k_Pair_many_strips : PySem.W.keepIn K (.ref f_Pair_many_strips) = true)
    (a_joined_stretches : PySem.W.nsIn K mainGlobals "joined_stretches" = some (some (.ref f_joined_stretches)))
    (l_joined_stretches : K.lookup f_joined_stretches = some ⟨oc_joined_stretches, od_joined_stretches, .func (PySem.W.fnOf "joined_stretches" "joined_stretches" (defArgs s_joined_stretches) (defBody s_joined_stretches) (defScope s_joined_stretches) .none kV_joined_stretches dc_joined_stretches pm_joined_stretches an_joined_stretches cd_joined_stretches ct_joined_stretches), sl_joined_stretches⟩)
    (d_joined_stretches : PySem.W.codeIn K cd_joined_stretches "joined_stretches" = true)
    (k_joined_stretches : PySem.W.keepIn K (.ref f_joined_stretches) = true)
    (a_next_open : PySem.W.nsIn K mainGlobals "next_open" = some (some (.ref f_next_open)))
    (l_next_open : K.lookup f_next_open = some ⟨oc_next_open, od_next_open, .func (PySem.W.fnOf "next_open" "next_open" (defArgs s_next_open) (defBody s_next_open) (defScope s_next_open) .none kV_next_open dc_next_open pm_next_open an_next_open cd_next_open ct_next_open), sl_next_open⟩)
    (d_next_open : PySem.W.codeIn K cd_next_open "next_open" = true)
    (k_next_open : PySem.W.keepIn K (.ref f_next_open) = true)
    (a_lasts_with : PySem.W.nsIn K mainGlobals "lasts_with" = some (some (.ref f_lasts_with)))
    (l_lasts_with : K.lookup f_lasts_with = some ⟨oc_lasts_with, od_lasts_with, .func (PySem.W.fnOf "lasts_with" "lasts_with" (defArgs s_lasts_with) (defBody s_lasts_with) (defScope s_lasts_with) .none kV_lasts_with dc_lasts_with pm_lasts_with an_lasts_with cd_lasts_with ct_lasts_with), sl_lasts_with⟩)
    (d_lasts_with : PySem.W.codeIn K cd_lasts_with "lasts_with" = true)
    (k_lasts_with : PySem.W.keepIn K (.ref f_lasts_with) = true)
    (a_late_cost : PySem.W.nsIn K mainGlobals "late_cost" = some (some (.ref f_late_cost)))
    (l_late_cost : K.lookup f_late_cost = some ⟨oc_late_cost, od_late_cost, .func (PySem.W.fnOf "late_cost" "late_cost" (defArgs s_late_cost) (defBody s_late_cost) (defScope s_late_cost) .none kV_late_cost dc_late_cost pm_late_cost an_late_cost cd_late_cost ct_late_cost), sl_late_cost⟩)
    (d_late_cost : PySem.W.codeIn K cd_late_cost "late_cost" = true)
    (k_late_cost : PySem.W.keepIn K (.ref f_late_cost) = true)
    (a_Rules_apart : PySem.W.findIn K (.ref CR) "apart" = some (some (.ref f_Rules_apart)))
    (i_Rules_apart : PySem.W.isFn K (.ref f_Rules_apart) = true)
    (l_Rules_apart : K.lookup f_Rules_apart = some ⟨oc_Rules_apart, od_Rules_apart, .func (PySem.W.fnOf "apart" "Rules.apart" (defArgs s_Rules_apart) (defBody s_Rules_apart) (defScope s_Rules_apart) .none kV_Rules_apart dc_Rules_apart pm_Rules_apart an_Rules_apart cd_Rules_apart ct_Rules_apart), sl_Rules_apart⟩)
    (d_Rules_apart : PySem.W.codeIn K cd_Rules_apart "Rules.apart" = true)
    (k_Rules_apart : PySem.W.keepIn K (.ref f_Rules_apart) = true)
    (a_Pair_apart : PySem.W.findIn K (.ref CP) "apart" = some (some (.ref f_Pair_apart)))
    (i_Pair_apart : PySem.W.isFn K (.ref f_Pair_apart) = true)
    (l_Pair_apart : K.lookup f_Pair_apart = some ⟨oc_Pair_apart, od_Pair_apart, .func (PySem.W.fnOf "apart" "Pair.apart" (defArgs s_Pair_apart) (defBody s_Pair_apart) (defScope s_Pair_apart) .none kV_Pair_apart dc_Pair_apart pm_Pair_apart an_Pair_apart cd_Pair_apart ct_Pair_apart), sl_Pair_apart⟩)
    (d_Pair_apart : PySem.W.codeIn K cd_Pair_apart "Pair.apart" = true)
    (k_Pair_apart : PySem.W.keepIn K (.ref f_Pair_apart) = true)
    (a_last_gap_times : PySem.W.nsIn K mainGlobals "last_gap_times" = some (some (.ref f_last_gap_times)))
    (l_last_gap_times : K.lookup f_last_gap_times = some ⟨oc_last_gap_times, od_last_gap_times, .func (PySem.W.fnOf "last_gap_times" "last_gap_times" (defArgs s_last_gap_times) (defBody s_last_gap_times) (defScope s_last_gap_times) .none kV_last_gap_times dc_last_gap_times pm_last_gap_times an_last_gap_times cd_last_gap_times ct_last_gap_times), sl_last_gap_times⟩)
    (d_last_gap_times : PySem.W.codeIn K cd_last_gap_times "last_gap_times" = true)
    (k_last_gap_times : PySem.W.keepIn K (.ref f_last_gap_times) = true)
    (a_label_behind : PySem.W.nsIn K mainGlobals "label_behind" = some (some (.ref f_label_behind)))
    (l_label_behind : K.lookup f_label_behind = some ⟨oc_label_behind, od_label_behind, .func (PySem.W.fnOf "label_behind" "label_behind" (defArgs s_label_behind) (defBody s_label_behind) (defScope s_label_behind) .none kV_label_behind dc_label_behind pm_label_behind an_label_behind cd_label_behind ct_label_behind), sl_label_behind⟩)
    (d_label_behind : PySem.W.codeIn K cd_label_behind "label_behind" = true)
    (k_label_behind : PySem.W.keepIn K (.ref f_label_behind) = true)
    (a__law_no_worse : PySem.W.nsIn K mainGlobals "_law_no_worse" = some (some (.ref f__law_no_worse)))
    (l__law_no_worse : K.lookup f__law_no_worse = some ⟨oc__law_no_worse, od__law_no_worse, .func (PySem.W.fnOf "_law_no_worse" "_law_no_worse" (defArgs s__law_no_worse) (defBody s__law_no_worse) (defScope s__law_no_worse) .none kV__law_no_worse dc__law_no_worse pm__law_no_worse an__law_no_worse cd__law_no_worse ct__law_no_worse), sl__law_no_worse⟩)
    (d__law_no_worse : PySem.W.codeIn K cd__law_no_worse "_law_no_worse" = true)
    (k__law_no_worse : PySem.W.keepIn K (.ref f__law_no_worse) = true)
    (a__law_behind_too : PySem.W.nsIn K mainGlobals "_law_behind_too" = some (some (.ref f__law_behind_too)))
    (l__law_behind_too : K.lookup f__law_behind_too = some ⟨oc__law_behind_too, od__law_behind_too, .func (PySem.W.fnOf "_law_behind_too" "_law_behind_too" (defArgs s__law_behind_too) (defBody s__law_behind_too) (defScope s__law_behind_too) .none kV__law_behind_too dc__law_behind_too pm__law_behind_too an__law_behind_too cd__law_behind_too ct__law_behind_too), sl__law_behind_too⟩)
    (d__law_behind_too : PySem.W.codeIn K cd__law_behind_too "_law_behind_too" = true)
    (k__law_behind_too : PySem.W.keepIn K (.ref f__law_behind_too) = true)
    (a_law : PySem.W.nsIn K mainGlobals "law" = some (some (.ref f_law)))
    (l_law : K.lookup f_law = some ⟨oc_law, od_law, .func (PySem.W.fnOf "law" "law" (defArgs s_law) (defBody s_law) (defScope s_law) .none kV_law dc_law pm_law an_law cd_law ct_law), sl_law⟩)
    (d_law : PySem.W.codeIn K cd_law "law" = true)
    (k_law : PySem.W.keepIn K (.ref f_law) = true)
    (a_nR : PySem.W.findIn K (.ref CR) "__init__" = some (some (.ref f_nR)))
    (i_nR : PySem.W.isFn K (.ref f_nR) = true)
    (l_nR : K.lookup f_nR = some ⟨oc_nR, od_nR, .func (PySem.W.fnOf "__init__" "Rules.__init__" (defArgs s_nR) (defBody s_nR) (defScope s_nR) .none kV_nR dc_nR pm_nR an_nR cd_nR ct_nR), sl_nR⟩)
    (d_nR : PySem.W.codeIn K cd_nR "Rules.__init__" = true)
    (k_nR : PySem.W.keepIn K (.ref f_nR) = true)
    (a_nP : PySem.W.findIn K (.ref CP) "__init__" = some (some (.ref f_nP)))
    (i_nP : PySem.W.isFn K (.ref f_nP) = true)
    (l_nP : K.lookup f_nP = some ⟨oc_nP, od_nP, .func (PySem.W.fnOf "__init__" "Pair.__init__" (defArgs s_nP) (defBody s_nP) (defScope s_nP) .none kV_nP dc_nP pm_nP an_nP cd_nP ct_nP), sl_nP⟩)
    (d_nP : PySem.W.codeIn K cd_nP "Pair.__init__" = true)
    (k_nP : PySem.W.keepIn K (.ref f_nP) = true)
    (x_s1 : PySem.W.specialIn K (.ref CR) "__getattribute__" = some (some (.builtin "type.__getattribute__")))
    (x_s2 : PySem.W.readsIn K CR (.type "type") = true)
    (x_s3 : PySem.W.findCls K (.ref CR) (.type "type") "__init__" = some (.val (.ref f_nR)))
    (z_all : PySem.W.nsIn K mainGlobals "all" = some none)
    (z_bool : PySem.W.nsIn K mainGlobals "bool" = some none)
    (z_enumerate : PySem.W.nsIn K mainGlobals "enumerate" = some none)
    (z_int : PySem.W.nsIn K mainGlobals "int" = some none)
    (z_isinstance : PySem.W.nsIn K mainGlobals "isinstance" = some none)
    (z_len : PySem.W.nsIn K mainGlobals "len" = some none)
    (z_list : PySem.W.nsIn K mainGlobals "list" = some none)
    (z_max : PySem.W.nsIn K mainGlobals "max" = some none)
    (z_range : PySem.W.nsIn K mainGlobals "range" = some none)
    (z_sorted : PySem.W.nsIn K mainGlobals "sorted" = some none)
    (z_tuple : PySem.W.nsIn K mainGlobals "tuple" = some none)
    (z_zip : PySem.W.nsIn K mainGlobals "zip" = some none)
    (g_GREATEST_GAP : PySem.W.nsIn K mainGlobals "GREATEST_GAP" = some (some (.int 1000000 t_GREATEST_GAP)))
    (g_MOST_KINDS : PySem.W.nsIn K mainGlobals "MOST_KINDS" = some (some (.int 6 t_MOST_KINDS)))
    (q_int_int : PySem.W.kitOne K (.type "int") (.type "int") = some true)
    (q_bool_int : PySem.W.kitOne K (.type "bool") (.type "int") = some true)
    (q_list_int : PySem.W.kitOne K (.type "list") (.type "int") = some false)
    (q_tuple_int : PySem.W.kitOne K (.type "tuple") (.type "int") = some false)
    (q_str_int : PySem.W.kitOne K (.type "str") (.type "int") = some false)
    (q_NoneType_int : PySem.W.kitOne K (.type "NoneType") (.type "int") = some false)
    (q_int_bool : PySem.W.kitOne K (.type "int") (.type "bool") = some false)
    (q_bool_bool : PySem.W.kitOne K (.type "bool") (.type "bool") = some true)
    (q_list_bool : PySem.W.kitOne K (.type "list") (.type "bool") = some false)
    (q_tuple_bool : PySem.W.kitOne K (.type "tuple") (.type "bool") = some false)
    (q_str_bool : PySem.W.kitOne K (.type "str") (.type "bool") = some false)
    (q_NoneType_bool : PySem.W.kitOne K (.type "NoneType") (.type "bool") = some false)
    (q_int_list : PySem.W.kitOne K (.type "int") (.type "list") = some false)
    (q_bool_list : PySem.W.kitOne K (.type "bool") (.type "list") = some false)
    (q_list_list : PySem.W.kitOne K (.type "list") (.type "list") = some true)
    (q_tuple_list : PySem.W.kitOne K (.type "tuple") (.type "list") = some false)
    (q_str_list : PySem.W.kitOne K (.type "str") (.type "list") = some false)
    (q_NoneType_list : PySem.W.kitOne K (.type "NoneType") (.type "list") = some false)
    (q_int_tuple : PySem.W.kitOne K (.type "int") (.type "tuple") = some false)
    (q_bool_tuple : PySem.W.kitOne K (.type "bool") (.type "tuple") = some false)
    (q_list_tuple : PySem.W.kitOne K (.type "list") (.type "tuple") = some false)
    (q_tuple_tuple : PySem.W.kitOne K (.type "tuple") (.type "tuple") = some true)
    (q_str_tuple : PySem.W.kitOne K (.type "str") (.type "tuple") = some false)
    (q_NoneType_tuple : PySem.W.kitOne K (.type "NoneType") (.type "tuple") = some false)
    (q_int_str : PySem.W.kitOne K (.type "int") (.type "str") = some false)
    (q_bool_str : PySem.W.kitOne K (.type "bool") (.type "str") = some false)
    (q_list_str : PySem.W.kitOne K (.type "list") (.type "str") = some false)
    (q_tuple_str : PySem.W.kitOne K (.type "tuple") (.type "str") = some false)
    (q_str_str : PySem.W.kitOne K (.type "str") (.type "str") = some true)
    (q_NoneType_str : PySem.W.kitOne K (.type "NoneType") (.type "str") = some false) :
    ∃ fd : FuncData, (∀ (s : Shared) (v : Value), BindsTo s fd ⟨[v], []⟩ [("_law_script", v)]) ∧ ∀ base : Heap, K.In base → base.Ns mainGlobals mg → FnOk l.prog w K mg base CX0 8 fa fd ["_law_script"] (spLaw K) := by
  have e := hfa.symm.trans (PySem.W.mg_of KX G a_law)
  cases e
  have K_CR := kls_of (mg := mg) KX G c_CR_a c_CR_pg c_CR_hd c_CR_po c_CR_sa c_CR_mk c_CR_kp c_CR_c1 o2 o3 c_CR_c4
  have K_CP := kls_of (mg := mg) KX G c_CP_a c_CP_pg c_CP_hd c_CP_po c_CP_sa c_CP_mk c_CP_kp c_CP_c1 o2 o3 c_CP_c4
  have D__law_cell := def_of (mg := mg) (st := s__law_cell) (ps := ["_law_script", "_law_k"]) KX G a__law_cell l__law_cell d__law_cell k__law_cell fun _ _ _ _ _ _ us hl => match us, hl with | [_, _], _ => rfl
  have D__law_gap_rows := def_of (mg := mg) (st := s__law_gap_rows) (ps := ["_law_script", "_law_start", "_law_kinds"]) KX G a__law_gap_rows l__law_gap_rows d__law_gap_rows k__law_gap_rows fun _ _ _ _ _ _ us hl => match us, hl with | [_, _, _], _ => rfl
  have D__law_gaps := def_of (mg := mg) (st := s__law_gaps) (ps := ["_law_script"]) KX G a__law_gaps l__law_gaps d__law_gaps k__law_gaps fun _ _ _ _ _ _ us hl => match us, hl with | [_], _ => rfl
  have D_copied_rows := def_of (mg := mg) (st := s_copied_rows) (ps := ["rows"]) KX G a_copied_rows l_copied_rows d_copied_rows k_copied_rows fun _ _ _ _ _ _ us hl => match us, hl with | [_], _ => rfl
  have D_is_gap := def_of (mg := mg) (st := s_is_gap) (ps := ["number"]) KX G a_is_gap l_is_gap d_is_gap k_is_gap fun _ _ _ _ _ _ us hl => match us, hl with | [_], _ => rfl
  have D_is_gap_row := def_of (mg := mg) (st := s_is_gap_row) (ps := ["row", "kinds"]) KX G a_is_gap_row l_is_gap_row d_is_gap_row k_is_gap_row fun _ _ _ _ _ _ us hl => match us, hl with | [_, _], _ => rfl
  have D_checked_rows := def_of (mg := mg) (st := s_checked_rows) (ps := ["rows"]) KX G a_checked_rows l_checked_rows d_checked_rows k_checked_rows fun _ _ _ _ _ _ us hl => match us, hl with | [_], _ => rfl
  have D__law_rules := def_of (mg := mg) (st := s__law_rules) (ps := ["_law_gaps_here"]) KX G a__law_rules l__law_rules d__law_rules k__law_rules fun _ _ _ _ _ _ us hl => match us, hl with | [_], _ => rfl
  have D__law_closed := def_of (mg := mg) (st := s__law_closed) (ps := ["_law_script"]) KX G a__law_closed l__law_closed d__law_closed k__law_closed fun _ _ _ _ _ _ us hl => match us, hl with | [_], _ => rfl
  have D__law_flights := def_of (mg := mg) (st := s__law_flights) (ps := ["_law_script", "_law_start", "_law_kinds", "_law_many"]) KX G a__law_flights l__law_flights d__law_flights k__law_flights fun _ _ _ _ _ _ us hl => match us, hl with | [_, _, _, _], _ => rfl
  have D__law_label := def_of (mg := mg) (st := s__law_label) (ps := ["_law_script", "_law_start", "_law_gaps_here"]) KX G a__law_label l__law_label d__law_label k__law_label fun _ _ _ _ _ _ us hl => match us, hl with | [_, _, _], _ => rfl
  have D_is_no_worse := def_of (mg := mg) (st := s_is_no_worse) (ps := ["one", "other"]) KX G a_is_no_worse l_is_no_worse d_is_no_worse k_is_no_worse fun _ _ _ _ _ _ us hl => match us, hl with | [_, _], _ => rfl
  have D__law_later := def_of (mg := mg) (st := s__law_later) (ps := ["_law_label_here", "_law_cell_here"]) KX G a__law_later l__law_later d__law_later k__law_later fun _ _ _ _ _ _ us hl => match us, hl with | [_, _], _ => rfl
  have D_Rules_many_strips := mth_of (C := CR) (st := s_Rules_many_strips) (ps := ["self"]) a_Rules_many_strips i_Rules_many_strips l_Rules_many_strips d_Rules_many_strips k_Rules_many_strips fun _ _ _ _ _ _ us hl => match us, hl with | [_], _ => rfl
  have D_Pair_many_strips := mth_of (C := CP) (st := s_Pair_many_strips) (ps := ["self"]) a_Pair_many_strips i_Pair_many_strips l_Pair_many_strips d_Pair_many_strips k_Pair_many_strips fun _ _ _ _ _ _ us hl => match us, hl with | [_], _ => rfl
  have D_joined_stretches := def_of (mg := mg) (st := s_joined_stretches) (ps := ["closed"]) KX G a_joined_stretches l_joined_stretches d_joined_stretches k_joined_stretches fun _ _ _ _ _ _ us hl => match us, hl with | [_], _ => rfl
  have D_next_open := def_of (mg := mg) (st := s_next_open) (ps := ["closed", "time"]) KX G a_next_open l_next_open d_next_open k_next_open fun _ _ _ _ _ _ us hl => match us, hl with | [_, _], _ => rfl
  have D_lasts_with := def_of (mg := mg) (st := s_lasts_with) (ps := ["lasts", "spot", "time"]) KX G a_lasts_with l_lasts_with d_lasts_with k_lasts_with fun _ _ _ _ _ _ us hl => match us, hl with | [_, _, _], _ => rfl
  have D_late_cost := def_of (mg := mg) (st := s_late_cost) (ps := ["flight", "time"]) KX G a_late_cost l_late_cost d_late_cost k_late_cost fun _ _ _ _ _ _ us hl => match us, hl with | [_, _], _ => rfl
  have D_Rules_apart := mth_of (C := CR) (st := s_Rules_apart) (ps := ["self", "one", "other"]) a_Rules_apart i_Rules_apart l_Rules_apart d_Rules_apart k_Rules_apart fun _ _ _ _ _ _ us hl => match us, hl with | [_, _, _], _ => rfl
  have D_Pair_apart := mth_of (C := CP) (st := s_Pair_apart) (ps := ["self", "one", "other"]) a_Pair_apart i_Pair_apart l_Pair_apart d_Pair_apart k_Pair_apart fun _ _ _ _ _ _ us hl => match us, hl with | [_, _, _], _ => rfl
  have D_last_gap_times := def_of (mg := mg) (st := s_last_gap_times) (ps := ["rules", "lasts", "spot"]) KX G a_last_gap_times l_last_gap_times d_last_gap_times k_last_gap_times fun _ _ _ _ _ _ us hl => match us, hl with | [_, _, _], _ => rfl
  have D_label_behind := def_of (mg := mg) (st := s_label_behind) (ps := ["rules", "flights", "closed", "label", "flight", "strip"]) KX G a_label_behind l_label_behind d_label_behind k_label_behind fun _ _ _ _ _ _ us hl => match us, hl with | [_, _, _, _, _, _], _ => rfl
  have D__law_no_worse := def_of (mg := mg) (st := s__law_no_worse) (ps := ["_law_one", "_law_other"]) KX G a__law_no_worse l__law_no_worse d__law_no_worse k__law_no_worse fun _ _ _ _ _ _ us hl => match us, hl with | [_, _], _ => rfl
  have D__law_behind_too := def_of (mg := mg) (st := s__law_behind_too) (ps := ["_law_rules_here", "_law_flights_here", "_law_closed_here", "_law_one", "_law_other"]) KX G a__law_behind_too l__law_behind_too d__law_behind_too k__law_behind_too fun _ _ _ _ _ _ us hl => match us, hl with | [_, _, _, _, _], _ => rfl
  have D_law := def_of (mg := mg) (st := s_law) (ps := ["_law_script"]) KX G a_law l_law d_law k_law fun _ _ _ _ _ _ us hl => match us, hl with | [_], _ => rfl
  have M_R_apart := D_Rules_apart
  have M_P_apart := D_Pair_apart
  have M_R_many_strips := D_Rules_many_strips
  have M_P_many_strips := D_Pair_many_strips
  have N_R := mth_of (C := CR) (st := s_nR) (ps := ["self", "gaps"]) a_nR i_nR l_nR d_nR k_nR fun _ _ _ _ _ _ us hl => match us, hl with | [_, _], _ => rfl
  have N_P := mth_of (C := CP) (st := s_nP) (ps := ["self", "gaps", "beside"]) a_nP i_nP l_nP d_nP k_nP fun _ _ _ _ _ _ us hl => match us, hl with | [_, _, _], _ => rfl
  have Z : Zs K mg CR CP := ⟨K_CR, K_CP, (by intro C h; simp only [List.mem_cons, List.not_mem_nil, or_false] at h; exact h.elim (fun e => by subst e; exact ⟨K_CR.cl, n_CR_gaps⟩) (fun e => by subst e; exact ⟨K_CP.cl, n_CP_gaps⟩)), (by intro C h; simp only [List.mem_cons, List.not_mem_nil, or_false] at h; subst h; exact ⟨K_CP.cl, n_CP_beside⟩), PySem.W.mg_none_of KX G z_all, PySem.W.mg_none_of KX G z_bool, PySem.W.mg_none_of KX G z_enumerate, PySem.W.mg_none_of KX G z_int, PySem.W.mg_none_of KX G z_isinstance, PySem.W.mg_none_of KX G z_len, PySem.W.mg_none_of KX G z_list, PySem.W.mg_none_of KX G z_max, PySem.W.mg_none_of KX G z_range, PySem.W.mg_none_of KX G z_sorted, PySem.W.mg_none_of KX G z_tuple, PySem.W.mg_none_of KX G z_zip, ⟨_, PySem.W.mg_of KX G g_GREATEST_GAP⟩, ⟨_, PySem.W.mg_of KX G g_MOST_KINDS⟩, ⟨q_int_int, q_bool_int, q_list_int, q_tuple_int, q_str_int, q_NoneType_int, q_int_bool, q_bool_bool, q_list_bool, q_tuple_bool, q_str_bool, q_NoneType_bool, q_int_list, q_bool_list, q_list_list, q_tuple_list, q_str_list, q_NoneType_list, q_int_tuple, q_bool_tuple, q_list_tuple, q_tuple_tuple, q_str_tuple, q_NoneType_tuple, q_int_str, q_bool_str, q_list_str, q_tuple_str, q_str_str, q_NoneType_str⟩⟩
  refine fin_mk D_law (fun s v => .of_eq rfl) fun base => law_ok (ro := false) (mlaw := m_law CR CP) (fun n => ?_) (law_true CR CP x_ne)
  have OK__law_cell := ok__law_cell (n := n) (P := l.prog) (w := w) (base := base) Z  D__law_cell
  have OK__law_gap_rows := ok__law_gap_rows (n := n) (P := l.prog) (w := w) (base := base) Z D__law_cell OK__law_cell D__law_gap_rows
  have OK__law_gaps := ok__law_gaps (n := n) (P := l.prog) (w := w) (base := base) Z D__law_gap_rows OK__law_gap_rows D__law_cell OK__law_cell D__law_gaps
  have OK_copied_rows := ok_copied_rows (n := n) (P := l.prog) (w := w) (base := base) Z  D_copied_rows
  have OK_is_gap := ok_is_gap (n := n) (P := l.prog) (w := w) (base := base) Z  D_is_gap
  have OK_is_gap_row := ok_is_gap_row (n := n) (P := l.prog) (w := w) (base := base) Z D_is_gap OK_is_gap D_is_gap_row
  have OK_checked_rows := ok_checked_rows (n := n) (P := l.prog) (w := w) (base := base) Z D_copied_rows OK_copied_rows D_is_gap_row OK_is_gap_row D_checked_rows
  have OKN_R := okn_R (n := n) (P := l.prog) (w := w) (base := base) (CR := CR) (CP := CP) (C := CR) D_checked_rows OK_checked_rows N_R.fn K_CR.cl n_CR_gaps
  have OKN_RP := okn_R (n := n) (P := l.prog) (w := w) (base := base) (CR := CR) (CP := CP) (C := CP) D_checked_rows OK_checked_rows N_R.fn K_CP.cl n_CP_gaps
  have OKN_P := okn_P (n := n) (P := l.prog) (w := w) (base := base) (CR := CR) (CP := CP) D_checked_rows OK_checked_rows ⟨x_s1, x_s2, x_s3, k_nR⟩ N_R.bd OKN_RP K_CR.mg (PySem.W.mg_none_of KX G z_len) N_P.fn K_CP.cl n_CP_gaps n_CP_beside
  have OK__law_rules := ok__law_rules (n := n) (P := l.prog) (w := w) (base := base) Z N_R OKN_R N_P OKN_P D__law_rules
  have OK__law_closed := ok__law_closed (n := n) (P := l.prog) (w := w) (base := base) Z D__law_cell OK__law_cell D__law_closed
  have OK__law_flights := ok__law_flights (n := n) (P := l.prog) (w := w) (base := base) Z D__law_cell OK__law_cell D__law_flights
  have OK__law_label := ok__law_label (n := n) (P := l.prog) (w := w) (base := base) Z D__law_cell OK__law_cell D__law_label
  have OK_is_no_worse := ok_is_no_worse (n := n) (P := l.prog) (w := w) (base := base) Z  D_is_no_worse
  have OK__law_later := ok__law_later (n := n) (P := l.prog) (w := w) (base := base) Z  D__law_later
  have OK_Rules_many_strips := ok_Rules_many_strips (n := n) (P := l.prog) (w := w) (base := base) Z  D_Rules_many_strips
  have OK_Pair_many_strips := ok_Pair_many_strips (n := n) (P := l.prog) (w := w) (base := base) Z  D_Pair_many_strips
  have OK_joined_stretches := ok_joined_stretches (n := n) (P := l.prog) (w := w) (base := base) Z  D_joined_stretches
  have OK_next_open := ok_next_open (n := n) (P := l.prog) (w := w) (base := base) Z D_joined_stretches OK_joined_stretches D_next_open
  have OK_lasts_with := ok_lasts_with (n := n) (P := l.prog) (w := w) (base := base) Z  D_lasts_with
  have OK_late_cost := ok_late_cost (n := n) (P := l.prog) (w := w) (base := base) Z  D_late_cost
  have OK_Rules_apart := ok_Rules_apart (n := n) (P := l.prog) (w := w) (base := base) Z  D_Rules_apart
  have OK_Pair_apart := ok_Pair_apart (n := n) (P := l.prog) (w := w) (base := base) Z  D_Pair_apart
  have OK_last_gap_times := ok_last_gap_times (n := n) (P := l.prog) (w := w) (base := base) Z M_R_apart OK_Rules_apart M_P_apart OK_Pair_apart D_last_gap_times
  have OK_label_behind := ok_label_behind (n := n) (P := l.prog) (w := w) (base := base) Z D_next_open OK_next_open D_lasts_with OK_lasts_with D_late_cost OK_late_cost D_last_gap_times OK_last_gap_times D_label_behind
  have OK__law_no_worse := ok__law_no_worse (n := n) (P := l.prog) (w := w) (base := base) Z  D__law_no_worse
  have OK__law_behind_too := ok__law_behind_too (n := n) (P := l.prog) (w := w) (base := base) Z D_label_behind OK_label_behind D__law_no_worse OK__law_no_worse M_R_many_strips OK_Rules_many_strips M_P_many_strips OK_Pair_many_strips D__law_behind_too
  have OK_law := ok_law (n := n) (P := l.prog) (w := w) (base := base) Z D__law_gaps OK__law_gaps D__law_rules OK__law_rules D__law_closed OK__law_closed D__law_flights OK__law_flights D__law_label OK__law_label D_is_no_worse OK_is_no_worse D__law_later OK__law_later D__law_cell OK__law_cell D__law_behind_too OK__law_behind_too D__law_no_worse OK__law_no_worse D_law
  exact OK_law
theorem walk {l : PySem.W.OpenLaw} {q : Program} {loose : List Str} {XP : (Str → Option Value) → Heap → Prop} {YP : World → Heap → Prop} {d : DefRec} {K : Params → PySem.W.Frag} (hn : l.most = some 63) (hdf : d.params.defaults = [])
    (hY : ∀ (w : World) (h : Heap), YP w h → (K w.params).In h)
    (F : ∀ (w : World) (mg : Str → Option Value) (fa : Addr) (h : Heap), (K w.params).In h → h.Ns mainGlobals mg → mg d.name = some (.ref fa) →
      ∃ fd : FuncData, (∀ (s : Shared) (u : Value), BindsTo s fd ⟨[u], []⟩ [("_law_script", u)]) ∧ ∀ base : Heap, (K w.params).In base → base.Ns mainGlobals mg → FnOk l.prog w (K w.params) mg base CX0 8 fa fd ["_law_script"] (spLaw (K w.params))) :
    PySem.W.WalkO q loose XP YP l.row.toRowW d [] (fun f vs => PySem.call f vs) :=
  L2.walk_of (n := 63) (k := 8) (x := "_law_script") (CX := fun _ => CX0) (sp := fun w => spLaw (K w.params)) hn (by decide) hdf ⟨rfl, by decide, by decide⟩ hY F (fun _ _ a ns hl _ hS => ⟨a, ns, rfl, hS, hl, fun _ => rfl⟩) fun _ _ _ _ _ z => z
end Ru
open PySem PySem.W PyProof.Rows
noncomputable def _root_.PySem.W.Fast.tw12562656971794215441 : Nat := 0
noncomputable def _root_.PySem.W.Fast.tw14812920854960404438 : Nat := 0
noncomputable def _root_.PySem.W.Fast.tw14613960324619597052 : Nat := 0
noncomputable def _root_.PySem.W.Fast.tw6056512575759590726 : Nat := 0
noncomputable def _root_.PySem.W.Fast.tw17505698201110824185 : Nat := 0
noncomputable def _root_.PySem.W.Fast.tw3721692479226726039 : Nat := 0
noncomputable def _root_.PySem.W.Fast.tw1448920862508977112 : Nat := 0
noncomputable def _root_.PySem.W.Fast.tw12622298985815055537 : Nat := 0
noncomputable def _root_.PySem.W.Fast.tw13769411321269649436 : Nat := 0
noncomputable def _root_.PySem.W.Fast.tw17315031006204382576 : Nat := 0
noncomputable def _root_.PySem.W.Fast.tw11972037505628923014 : Nat := 0
noncomputable def _root_.PySem.W.Fast.tw5152949995493019467 : Nat := 0
noncomputable def _root_.PySem.W.Fast.tw2476170174517690700 : Nat := 0
noncomputable def _root_.PySem.W.Fast.tw13715061856261695951 : Nat := 0
noncomputable def _root_.PySem.W.Fast.tw11556011285233446815 : Nat := 0
noncomputable def _root_.PySem.W.Fast.tw10714001001089443566 : Nat := 0
noncomputable def _root_.PySem.W.Fast.tw15612865316988537497 : Nat := 0
noncomputable def _root_.PySem.W.Fast.tw13917930812973993755 : Nat := 0
noncomputable def _root_.PySem.W.Fast.tw3493323471509167963 : Nat := 0
noncomputable def _root_.PySem.W.Fast.tw3349099294426994008 : Nat := 0
noncomputable def _root_.PySem.W.Fast.tw9949208555353776322 : Nat := 0
noncomputable def _root_.PySem.W.Fast.tw17464797803704709601 : Nat := 0
noncomputable def _root_.PySem.W.Fast.tw13301519339531253646 : Nat := 0
noncomputable def _root_.PySem.W.Fast.tw9026766125101727481 : Nat := 0
noncomputable def _root_.PySem.W.Fast.tw5238673696357858845 : Nat := 0
noncomputable def _root_.PySem.W.Fast.tw14427549135570326838 : Nat := 0
noncomputable def _root_.PySem.W.Fast.tw9297500253467942886 : Nat := 0
noncomputable def _root_.PySem.W.Fast.tw8698550989203973483 : Nat := 0
noncomputable def _root_.PySem.W.Fast.tw3366358149899475846 : Nat := 0
noncomputable def _root_.PySem.W.Fast.tw9583885144421001807 : Nat := 0
noncomputable def _root_.PySem.W.Fast.tw10922579075209767108 : Nat := 0
noncomputable def _root_.PySem.W.Fast.tw10747976677431455352 : Nat := 0
noncomputable def _root_.PySem.W.Fast.tw3832224372465225217 : Nat := 0
noncomputable def _root_.PySem.W.Fast.tw4671315015314504503 : Nat := 0
noncomputable def _root_.PySem.W.Fast.tw9028607605371215615 : Nat := 0
noncomputable def _root_.PySem.W.Fast.tw4537851915965608333 : Nat := 0
noncomputable def _root_.PySem.W.Fast.tw12672628659475321928 : Nat := 0
noncomputable def _root_.PySem.W.Fast.tw17358848902297056075 : Nat := 0
noncomputable def _root_.PySem.W.Fast.tw14311237899262599720 : Nat := 0
noncomputable def _root_.PySem.W.Fast.tw14105786373241843330 : Nat := 0
noncomputable def _root_.PySem.W.Fast.tw15516991240124873246 : Nat := 0
noncomputable def _root_.PySem.W.Fast.tw3441384573937638827 : Nat := 0
noncomputable def _root_.PySem.W.Fast.tw7292236481139010565 : Nat := 0
noncomputable def _root_.PySem.W.Fast.tw11954305764554583911 : Nat := 0
noncomputable def _root_.PySem.W.Fast.tw6399393057391805399 : Nat := 0
noncomputable def _root_.PySem.W.Fast.tw10242589674454551410 : Nat := 0
noncomputable def _root_.PySem.W.Fast.tw1103817284253804836 : Nat := 0
noncomputable def _root_.PySem.W.Fast.tw14223634604624778802 : Nat := 0
noncomputable def _root_.PySem.W.Fast.tw2599949553338806091 : Nat := 0
noncomputable def _root_.PySem.W.Fast.tw11049835111663343323 : Nat := 0
noncomputable def _root_.PySem.W.Fast.tw17389441038478101684 : Nat := 0
noncomputable def _root_.PySem.W.Fast.tw12001882445766509101 : Nat := 0
noncomputable def _root_.PySem.W.Fast.tw2212951777645691662 : Nat := 0
noncomputable def _root_.PySem.W.Fast.tw9769175376230139096 : Nat := 0
noncomputable def _root_.PySem.W.Fast.tw15558640045146575602 : Nat := 0
set_option maxRecDepth 100000 in
set_option maxHeartbeats 0 in
theorem PySem.Challenge.cw_wakeorder_k52_no_worse_labels_holds : PySem.Challenge.rw_wakeorder_k52_no_worse_labels.Holds := by
  w_on; o_law; k_head; (case hw => w_witness2)
  k_fill
  refine Ru.walk (l := PySem.Challenge.rw_wakeorder_k52_no_worse_labels) rfl rfl (fun w h Y => PySem.W.kIn_of Y) ?F
  case F =>
    intro w mg fa h KX G hmg
    refine' Ru.all_mk KX G hmg ?c_CR_a ?c_CR_pg ?c_CR_hd ?c_CR_po ?c_CR_sa ?c_CR_mk ?c_CR_kp ?c_CR_c1 ?c_CR_c4 ?n_CR_gaps ?n_CR_beside ?c_CP_a ?c_CP_pg ?c_CP_hd ?c_CP_po ?c_CP_sa ?c_CP_mk ?c_CP_kp ?c_CP_c1 ?c_CP_c4 ?n_CP_gaps ?n_CP_beside ?o2 ?o3 ?x_ne ?a__law_cell ?l__law_cell ?d__law_cell ?k__law_cell ?a__law_gap_rows ?l__law_gap_rows ?d__law_gap_rows ?k__law_gap_rows ?a__law_gaps ?l__law_gaps ?d__law_gaps ?k__law_gaps ?a_copied_rows ?l_copied_rows ?d_copied_rows ?k_copied_rows ?a_is_gap ?l_is_gap ?d_is_gap ?k_is_gap ?a_is_gap_row ?l_is_gap_row ?d_is_gap_row ?k_is_gap_row ?a_checked_rows ?l_checked_rows ?d_checked_rows ?k_checked_rows ?a__law_rules ?l__law_rules ?d__law_rules ?k__law_rules ?a__law_closed ?l__law_closed ?d__law_closed ?k__law_closed ?a__law_flights ?l__law_flights ?d__law_flights ?k__law_flights ?a__law_label ?l__law_label ?d__law_label ?k__law_label ?a_is_no_worse ?l_is_no_worse ?d_is_no_worse ?k_is_no_worse ?a__law_later ?l__law_later ?d__law_later ?k__law_later ?a_Rules_many_strips ?i_Rules_many_strips ?l_Rules_many_strips ?d_Rules_many_strips ?k_Rules_many_strips ?a_Pair_many_strips ?i_Pair_many_strips ?l_Pair_many_strips ?d_Pair_many_strips ?k_Pair_many_strips ?a_joined_stretches ?l_joined_stretches ?d_joined_stretches ?k_joined_stretches ?a_next_open ?l_next_open ?d_next_open ?k_next_open ?a_lasts_with ?l_lasts_with ?d_lasts_with ?k_lasts_with ?a_late_cost ?l_late_cost ?d_late_cost ?k_late_cost ?a_Rules_apart ?i_Rules_apart ?l_Rules_apart ?d_Rules_apart ?k_Rules_apart ?a_Pair_apart ?i_Pair_apart ?l_Pair_apart ?d_Pair_apart ?k_Pair_apart ?a_last_gap_times ?l_last_gap_times ?d_last_gap_times ?k_last_gap_times ?a_label_behind ?l_label_behind ?d_label_behind ?k_label_behind ?a__law_no_worse ?l__law_no_worse ?d__law_no_worse ?k__law_no_worse ?a__law_behind_too ?l__law_behind_too ?d__law_behind_too ?k__law_behind_too ?a_law ?l_law ?d_law ?k_law ?a_nR ?i_nR ?l_nR ?d_nR ?k_nR ?a_nP ?i_nP ?l_nP ?d_nP ?k_nP ?x_s1 ?x_s2 ?x_s3 ?z_all ?z_bool ?z_enumerate ?z_int ?z_isinstance ?z_len ?z_list ?z_max ?z_range ?z_sorted ?z_tuple ?z_zip ?g_GREATEST_GAP ?g_MOST_KINDS ?q_int_int ?q_bool_int ?q_list_int ?q_tuple_int ?q_str_int ?q_NoneType_int ?q_int_bool ?q_bool_bool ?q_list_bool ?q_tuple_bool ?q_str_bool ?q_NoneType_bool ?q_int_list ?q_bool_list ?q_list_list ?q_tuple_list ?q_str_list ?q_NoneType_list ?q_int_tuple ?q_bool_tuple ?q_list_tuple ?q_tuple_tuple ?q_str_tuple ?q_NoneType_tuple ?q_int_str ?q_bool_str ?q_list_str ?q_tuple_str ?q_str_str ?q_NoneType_str
    (case c_CR_a => k_is)
    (case c_CR_pg => k_is)
    (case c_CR_hd => k_is)
    (case c_CR_po => k_is)
    (case c_CR_sa => k_is)
    (case c_CR_mk => k_is)
    (case c_CR_kp => k_is)
    (case c_CR_c1 => k_is)
    (case c_CR_c4 => k_is)
    (case n_CR_gaps => k_is)
    (case n_CR_beside => k_is)
    (case c_CP_a => k_is)
    (case c_CP_pg => k_is)
    (case c_CP_hd => k_is)
    (case c_CP_po => k_is)
    (case c_CP_sa => k_is)
    (case c_CP_mk => k_is)
    (case c_CP_kp => k_is)
    (case c_CP_c1 => k_is)
    (case c_CP_c4 => k_is)
    (case n_CP_gaps => k_is)
    (case n_CP_beside => k_is)
    (case o2 => k_is)
    (case o3 => k_is)
    (case x_ne => first | k_is | rfl | decide +kernel)
    (case a__law_cell => k_is)
    (case l__law_cell => k_is)
    (case d__law_cell => k_is)
    (case k__law_cell => k_is)
    (case a__law_gap_rows => k_is)
    (case l__law_gap_rows => k_is)
    (case d__law_gap_rows => k_is)
    (case k__law_gap_rows => k_is)
    (case a__law_gaps => k_is)
    (case l__law_gaps => k_is)
    (case d__law_gaps => k_is)
    (case k__law_gaps => k_is)
    (case a_copied_rows => k_is)
    (case l_copied_rows => k_is)
    (case d_copied_rows => k_is)
    (case k_copied_rows => k_is)
    (case a_is_gap => k_is)
    (case l_is_gap => k_is)
    (case d_is_gap => k_is)
    (case k_is_gap => k_is)
    (case a_is_gap_row => k_is)
    (case l_is_gap_row => k_is)
    (case d_is_gap_row => k_is)
    (case k_is_gap_row => k_is)
    (case a_checked_rows => k_is)
    (case l_checked_rows => k_is)
    (case d_checked_rows => k_is)
    (case k_checked_rows => k_is)
    (case a__law_rules => k_is)
    (case l__law_rules => k_is)
    (case d__law_rules => k_is)
    (case k__law_rules => k_is)
    (case a__law_closed => k_is)
    (case l__law_closed => k_is)
    (case d__law_closed => k_is)
    (case k__law_closed => k_is)
    (case a__law_flights => k_is)
    (case l__law_flights => k_is)
    (case d__law_flights => k_is)
    (case k__law_flights => k_is)
    (case a__law_label => k_is)
    (case l__law_label => k_is)
    (case d__law_label => k_is)
    (case k__law_label => k_is)
    (case a_is_no_worse => k_is)
    (case l_is_no_worse => k_is)
    (case d_is_no_worse => k_is)
    (case k_is_no_worse => k_is)
    (case a__law_later => k_is)
    (case l__law_later => k_is)
    (case d__law_later => k_is)
    (case k__law_later => k_is)
    (case a_Rules_many_strips => k_is)
    (case i_Rules_many_strips => k_is)
    (case l_Rules_many_strips => k_is)
    (case d_Rules_many_strips => k_is)
    (case k_Rules_many_strips => k_is)
    (case a_Pair_many_strips => k_is)
    (case i_Pair_many_strips => k_is)
    (case l_Pair_many_strips => k_is)
    (case d_Pair_many_strips => k_is)
    (case k_Pair_many_strips => k_is)
    (case a_joined_stretches => k_is)
    (case l_joined_stretches => k_is)
    (case d_joined_stretches => k_is)
    (case k_joined_stretches => k_is)
    (case a_next_open => k_is)
    (case l_next_open => k_is)
    (case d_next_open => k_is)
    (case k_next_open => k_is)
    (case a_lasts_with => k_is)
    (case l_lasts_with => k_is)
    (case d_lasts_with => k_is)
    (case k_lasts_with => k_is)
    (case a_late_cost => k_is)
    (case l_late_cost => k_is)
    (case d_late_cost => k_is)
    (case k_late_cost => k_is)
    (case a_Rules_apart => k_is)
    (case i_Rules_apart => k_is)
    (case l_Rules_apart => k_is)
    (case d_Rules_apart => k_is)
    (case k_Rules_apart => k_is)
    (case a_Pair_apart => k_is)
    (case i_Pair_apart => k_is)
    (case l_Pair_apart => k_is)
    (case d_Pair_apart => k_is)
    (case k_Pair_apart => k_is)
    (case a_last_gap_times => k_is)
    (case l_last_gap_times => k_is)
    (case d_last_gap_times => k_is)
    (case k_last_gap_times => k_is)
    (case a_label_behind => k_is)
    (case l_label_behind => k_is)
    (case d_label_behind => k_is)
    (case k_label_behind => k_is)
    (case a__law_no_worse => k_is)
    (case l__law_no_worse => k_is)
    (case d__law_no_worse => k_is)
    (case k__law_no_worse => k_is)
    (case a__law_behind_too => k_is)
    (case l__law_behind_too => k_is)
    (case d__law_behind_too => k_is)
    (case k__law_behind_too => k_is)
    (case a_law => k_is)
    (case l_law => k_is)
    (case d_law => k_is)
    (case k_law => k_is)
    (case a_nR => k_is)
    (case i_nR => k_is)
    (case l_nR => k_is)
    (case d_nR => k_is)
    (case k_nR => k_is)
    (case a_nP => k_is)
    (case i_nP => k_is)
    (case l_nP => k_is)
    (case d_nP => k_is)
    (case k_nP => k_is)
    (case x_s1 => first | k_is | rfl | decide +kernel)
    (case x_s2 => first | k_is | rfl | decide +kernel)
    (case x_s3 => first | k_is | rfl | decide +kernel)
    (case z_all => k_is)
    (case z_bool => k_is)
    (case z_enumerate => k_is)
    (case z_int => k_is)
    (case z_isinstance => k_is)
    (case z_len => k_is)
    (case z_list => k_is)
    (case z_max => k_is)
    (case z_range => k_is)
    (case z_sorted => k_is)
    (case z_tuple => k_is)
    (case z_zip => k_is)
    (case g_GREATEST_GAP => k_is)
    (case g_MOST_KINDS => k_is)
    (case q_int_int => first | k_is | rfl | decide +kernel)
    (case q_bool_int => first | k_is | rfl | decide +kernel)
    (case q_list_int => first | k_is | rfl | decide +kernel)
    (case q_tuple_int => first | k_is | rfl | decide +kernel)
    (case q_str_int => first | k_is | rfl | decide +kernel)
    (case q_NoneType_int => first | k_is | rfl | decide +kernel)
    (case q_int_bool => first | k_is | rfl | decide +kernel)
    (case q_bool_bool => first | k_is | rfl | decide +kernel)
    (case q_list_bool => first | k_is | rfl | decide +kernel)
    (case q_tuple_bool => first | k_is | rfl | decide +kernel)
    (case q_str_bool => first | k_is | rfl | decide +kernel)
    (case q_NoneType_bool => first | k_is | rfl | decide +kernel)
    (case q_int_list => first | k_is | rfl | decide +kernel)
    (case q_bool_list => first | k_is | rfl | decide +kernel)
    (case q_list_list => first | k_is | rfl | decide +kernel)
    (case q_tuple_list => first | k_is | rfl | decide +kernel)
    (case q_str_list => first | k_is | rfl | decide +kernel)
    (case q_NoneType_list => first | k_is | rfl | decide +kernel)
    (case q_int_tuple => first | k_is | rfl | decide +kernel)
    (case q_bool_tuple => first | k_is | rfl | decide +kernel)
    (case q_list_tuple => first | k_is | rfl | decide +kernel)
    (case q_tuple_tuple => first | k_is | rfl | decide +kernel)
    (case q_str_tuple => first | k_is | rfl | decide +kernel)
    (case q_NoneType_tuple => first | k_is | rfl | decide +kernel)
    (case q_int_str => first | k_is | rfl | decide +kernel)
    (case q_bool_str => first | k_is | rfl | decide +kernel)
    (case q_list_str => first | k_is | rfl | decide +kernel)
    (case q_tuple_str => first | k_is | rfl | decide +kernel)
    (case q_str_str => first | k_is | rfl | decide +kernel)
    (case q_NoneType_str => first | k_is | rfl | decide +kernel)
