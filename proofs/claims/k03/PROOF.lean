import PyProof.Rows.All
import KE.KEqDict
import PyProof.Rows.TupTab
import PyProof.AttrMissSeq
import KE.KDictOf
import KE.KPairComp
import PyProof.DictWalks
import PyProof.DictValues
import PyProof.DictItems
import PyProof.Rows.SetFrom
import KE.KRevIter
import PyProof.InstStoreFacts
import PyProof.ExcInit
import PyProof.IsiBase
import PyProof.ExcAttrAll.ValueError
import OpenK.KDescr
import KE.KIsAll
import PyProof.Rows.CatchOwn
import PyProof.RulesTry
import PyProof.RulesAs
import PyProof.RulesDel
import OpenK.KOwn
import PyProof.ExcBaseAll.ValueError
import PyProof.StationsW
import Wide.All
import OpenK.AllK
import Wide.FinOn
import Lean
import PyProof.EqAt
import PyProof.EqKinds
import PyProof.NeKinds
import PyProof.TupleCall
import PySem.Challenge.RW_wakeorder_k03_no_gaps
set_option Elab.async false
set_option linter.all false
set_option maxRecDepth 100000
namespace L2
open PySem PySem.Spec PyProof.Rows
noncomputable abbrev Key := Sum Int Str
noncomputable def keyIs : Key → Value → Bool
  | .inl k, v => Value.isInt k v
  | .inr x, v => Value.isStrOf x v
noncomputable def keyH (w : World) : Key → Int
  | .inl k => hashInt k
  | .inr x => hashStr w x
theorem keyIs_shape : ∀ {k : Key} {v : Value}, keyIs k v = true → (∃ i t, k = Sum.inl i ∧ v = Value.int i t) ∨ (∃ x t, k = Sum.inr x ∧ v = Value.str x t)
  | .inl i, v, h => by
    obtain ⟨t, e⟩ := Value.isInt_shape (k := i) (v := v) h
    exact .inl ⟨i, t, rfl, e⟩
  | .inr x, v, h => by
    obtain ⟨t, e⟩ := Value.isStrOf_shape (x := x) (v := v) h
    exact .inr ⟨x, t, rfl, e⟩
theorem key_ll (a b : Int) : decide ((Sum.inl a : Key) = Sum.inl b) = (a == b) := by
  by_cases e : a = b
  · subst e; simp
  · have h : ¬ (Sum.inl a : Key) = Sum.inl b := fun q => e (Sum.inl.inj q)
    rw [decide_eq_false h]
    exact (beq_eq_false_iff_ne.mpr e).symm
theorem key_rr (a b : Str) : decide ((Sum.inr a : Key) = Sum.inr b) = decide (a = b) := by
  by_cases e : a = b
  · subst e; simp
  · have h : ¬ (Sum.inr a : Key) = Sum.inr b := fun q => e (Sum.inr.inj q)
    rw [decide_eq_false h, decide_eq_false e]
theorem key_lr (a : Int) (b : Str) : decide ((Sum.inl a : Key) = Sum.inr b) = false := decide_eq_false (fun q => nomatch q)
theorem key_rl (a : Str) (b : Int) : decide ((Sum.inr a : Key) = Sum.inl b) = false := decide_eq_false (fun q => nomatch q)
noncomputable def mixKind (prog : Program) (w : World) : PySem.KeyKind prog w Key where
  is := keyIs
  hash := keyH w
  inj := fun v a b ha hb => by
    rcases keyIs_shape ha with ⟨i, t, rfl, rfl⟩ | ⟨x, t, rfl, rfl⟩
    · rcases keyIs_shape hb with ⟨j, u, rfl, e⟩ | ⟨y, u, rfl, e⟩
      · injection e with e1 _; rw [e1]
      · exact nomatch e
    · rcases keyIs_shape hb with ⟨j, u, rfl, e⟩ | ⟨y, u, rfl, e⟩
      · exact nomatch e
      · injection e with e1 _; rw [e1]
  byValue := fun k v h => by
    rcases keyIs_shape h with ⟨i, t, rfl, rfl⟩ | ⟨x, t, rfl, rfl⟩ <;> rfl
  pyHash := fun hv h => by
    rcases keyIs_shape hv with ⟨i, t, rfl, rfl⟩ | ⟨x, t, rfl, rfl⟩
    · exact wpAny_pyHash_int h
    · exact wpAny_pyHash_str h
  eqBool := fun hu hv h => by
    rcases keyIs_shape hu with ⟨i, t, rfl, rfl⟩ | ⟨x, t, rfl, rfl⟩
    · rcases keyIs_shape hv with ⟨j, u, rfl, rfl⟩ | ⟨y, u, rfl, rfl⟩
      · rw [key_ll] at h; exact wpAny_eqBool_int h
      · rw [key_lr] at h; exact SeqAt.EqAt.int_str i t y u _ _ _ _ h
    · rcases keyIs_shape hv with ⟨j, u, rfl, rfl⟩ | ⟨y, u, rfl, rfl⟩
      · rw [key_rl] at h; exact SeqAt.EqAt.str_int x t j u _ _ _ _ h
      · rw [key_rr] at h; exact wpAny_eqBool_str h
  «strs» := fun k x t v h => by
    rcases keyIs_shape h with ⟨i, u, rfl, e⟩ | ⟨y, u, rfl, e⟩
    · exact nomatch e
    · injection e with e1 _
      subst e1
      cases v <;> rfl
end L2
namespace L2
open PySem PySem.Spec PyProof.Rows
inductive V where
  | non | bl (b : Bool) | int (i : Int) | str (x : Str) | byt (b : Array UInt8) | flt (b : UInt64) | ref (a : Addr) | ty (n : String)
  deriving DecidableEq
noncomputable def RelV : V → Value → Prop
  | .non, u => u = Value.none
  | .bl b, u => u = Value.bool b
  | .int i, u => ∃ t, u = Value.int i t
  | .str x, u => ∃ t, u = Value.str x t
  | .byt b, u => ∃ t, u = Value.bytes b t
  | .flt b, u => ∃ t, u = Value.float b t
  | .ref a, u => u = Value.ref a
  | .ty n, u => u = Value.type n
noncomputable abbrev Vals : List V → List Value → Prop := Paired RelV
theorem Vals.length {xs : List V} {us : List Value} (r : Vals xs us) : xs.length = us.length := Paired.length r
theorem Vals.get : ∀ {xs : List V} {us : List Value} {i : Nat} {x : V}, Vals xs us → xs[i]? = some x → ∃ u, us[i]? = some u ∧ RelV x u
  | _, _, _, _, .nil, e => by simp at e
  | _, _, 0, _, .cons r _, e => by simp at e; subst e; exact ⟨_, rfl, r⟩
  | _, _, i + 1, x, .cons _ t, e => by
    obtain ⟨u, h1, h2⟩ := Vals.get (i := i) (x := x) t (by simpa using e)
    exact ⟨u, by simpa using h1, h2⟩
theorem Vals.append : ∀ {xs ys : List V} {us ws : List Value}, Vals xs us → Vals ys ws → Vals (xs ++ ys) (us ++ ws)
  | _, _, _, _, .nil, s => s
  | _, _, _, _, .cons r t, s => .cons r (Vals.append t s)
theorem Vals.take : ∀ {xs : List V} {us : List Value} (n : Nat), Vals xs us → Vals (xs.take n) (us.take n)
  | _, _, 0, _ => .nil
  | _, _, _ + 1, .nil => .nil
  | _, _, n + 1, .cons r t => .cons r (Vals.take n t)
theorem Vals.drop : ∀ {xs : List V} {us : List Value} (n : Nat), Vals xs us → Vals (xs.drop n) (us.drop n)
  | _, _, 0, r => r
  | _, _, _ + 1, .nil => .nil
  | _, _, n + 1, .cons _ t => Vals.drop n t
noncomputable def RelO : Option V → Option Value → Prop
  | some v, some u => RelV v u
  | none, none => True
  | _, _ => False
noncomputable def KV {κ : Type} : List (κ × V) → List (κ × Value) → Prop := Paired fun (p : κ × V) (q : κ × Value) => p.1 = q.1 ∧ RelV p.2 q.2
noncomputable def kV : Key → V
  | .inl i => .int i
  | .inr x => .str x
inductive HO where
    | lst (xs : List V)
    | tup (xs : List V)
    | dK (kvs : List (Key × V)) | dT (kvs : List (List Key × V))
    | set (S : Int → Bool) (n : Nat)
    | ins (C dx : Addr) (fs : List (Str × V))
    | own (x : Addr)
    | xd (fs : List (Str × V))
    | met (f x : Addr)
    | rng (lo hi : Int)
    | frz (o : Obj) (u : HO)
    | tbl (ps : Array Value)
    | ext (φ : Heap → Prop)
noncomputable abbrev Hp := Addr → Option HO
noncomputable def upd (H : Hp) (a : Addr) (o : HO) : Hp := fun b => if b = a then some o else H b
theorem upd_same {H : Hp} {a : Addr} {o : HO} : upd H a o a = some o := by unfold upd; rw [if_pos rfl]
theorem upd_ne {H : Hp} {a b : Addr} {o : HO} (h : b ≠ a) : upd H a o b = H b := by unfold upd; rw [if_neg h]
theorem ne_of_none {H : Hp} {a b : Addr} {o : HO} (h : H a = some o) (h' : H b = none) : a ≠ b := by
  intro e; subst e; rw [h] at h'; cases h'
section
variable (P : Program) (w : World)
noncomputable def ObjOk (H : Hp) (h : Heap) (a : Addr) : HO → Prop
  | .lst xs => xs.length ≤ sizeLine ∧ ∃ (its : List Value) (n : Nat), Vals xs its ∧ h.get? a = some { cls := .type "list", data := .seq its.toArray n }
  | .tup xs => xs.length ≤ sizeLine ∧ ∃ its : List Value, Vals xs its ∧ IsTup h a its.toArray
  | .dK kvs => kvs.length ≤ sizeLine ∧ (a == sysModules) = false ∧ ∃ vs, KV kvs vs ∧ h.DictOf (mixKind P w) a vs
  | .dT kvs => kvs.length ≤ sizeLine ∧ (a == sysModules) = false ∧ ∃ xs : List (List Key × Addr × Value),
      Paired (fun (p : List Key × V) (q : List Key × Addr × Value) => p.1 = q.1 ∧ H q.2.1 = some (.tup (p.1.map kV)) ∧ RelV p.2 q.2.2) kvs xs ∧
      ∃ o es ep, h.get? a = some o ∧ o.ExactDict ∧ o.data = .dict es ep ∧ es.toList = xs.map (entryOfKey (tupleKind (mixKind P w))) ∧ (xs.map (·.1)).Nodup
  | .set S n => h.SetOf (intKind P w) a S n
  | .ins C dx fs => H dx = some (.own a) ∧ fs.length ≤ 1000 ∧ dx ≠ a ∧ h.get? a = some (PySem.W.instObj C dx) ∧
      ∃ mA, h.Ns1 dx mA ∧ (∀ f, RelO (fs.lookup f) (mA f)) ∧ PySem.Within mA (fs.map (·.1))
  | .own _ => ∃ o, h.get? a = some o
  | .xd fs => ∃ mA, h.Ns1 a mA ∧ ∀ f, RelO (fs.lookup f) (mA f)
  | .rng lo hi => ∃ t u v, h.get? a = some { cls := .type "range", data := .fields #[.int lo t, .int hi u, .int 1 v] }
  | .frz o u => h.get? a = some o ∧ ObjOk H h a u
  | .tbl ps => h.get? a = some { cls := .none, data := .fields ps }
  | .met f x => h.get? a = some (PySem.W.methodObj (.ref f) (.ref x))
  | .ext φ => φ h ∧ (∃ o, h.get? a = some o) ∧ ∀ h1 h2 : Heap, φ h1 → (∀ o, h1.get? a = some o → h2.get? a = some o) → φ h2
noncomputable def HOk (H : Hp) (h : Heap) : Prop := ∀ a o, H a = some o → ObjOk P w H h a o
end
section
variable {P : Program} {w : World} {H H' : Hp} {h h' : Heap} {a : Addr} {o : HO}
theorem ObjOk.lt (x : ObjOk P w H h a o) : a < h.objs.size := by
  cases o with
  | lst xs => obtain ⟨_, _, _, _, e⟩ := x; exact Heap.lt_size e
  | tup xs => obtain ⟨_, _, _, p⟩ := x; exact p.lt
  | dK kvs => obtain ⟨_, _, _, _, o, _, _, e, _⟩ := x; exact Heap.lt_size e
  | dT kvs => obtain ⟨_, _, _, _, o, _, _, e, _⟩ := x; exact Heap.lt_size e
  | set S n => obtain ⟨o, _, _, _, e, _⟩ := x; exact Heap.lt_size e
  | ins C dx fs => obtain ⟨_, _, _, e, _⟩ := x; exact Heap.lt_size e
  | own y => obtain ⟨_, e⟩ := x; exact Heap.lt_size e
  | xd fs => obtain ⟨_, ⟨_, _, _, e, _⟩, _⟩ := x; exact Heap.lt_size e
  | rng lo hi => obtain ⟨_, _, _, e⟩ := x; exact Heap.lt_size e
  | frz ob u => obtain ⟨e, _⟩ := x; exact Heap.lt_size e
  | tbl ps => exact Heap.lt_size (show h.get? a = some _ from x)
  | met f y => exact Heap.lt_size (show h.get? a = some _ from x)
  | ext φ => obtain ⟨_, ⟨_, e⟩, _⟩ := x; exact Heap.lt_size e
theorem Paired.mapP {α β : Type} {F G : α → β → Prop} : ∀ {l₁ : List α} {l₂ : List β}, Paired F l₁ l₂ → (∀ a b, F a b → G a b) → Paired G l₁ l₂
  | _, _, .nil, _ => .nil
  | _, _, .cons r t, f => .cons (f _ _ r) (Paired.mapP t f)
theorem ObjOk.stay (x : ObjOk P w H h a o) (k : ∀ b u, (b = a ∨ H b = some (.own a)) → h.get? b = some u → h'.get? b = some u)
    (ho : ∀ b, H b = some (.own a) → H' b = some (.own a)) (ht : ∀ b xs, H b = some (.tup xs) → H' b = some (.tup xs)) : ObjOk P w H' h' a o := by
  induction o with
  | lst xs => obtain ⟨z, its, n, r, e⟩ := x; exact ⟨z, its, n, r, k _ _ (.inl rfl) e⟩
  | tup xs => obtain ⟨z, its, r, ob, e, c⟩ := x; exact ⟨z, its, r, ob, k _ _ (.inl rfl) e, c⟩
  | dK kvs => obtain ⟨z, y, vs, r, ob, es, ep, e, c⟩ := x; exact ⟨z, y, vs, r, ob, es, ep, k _ _ (.inl rfl) e, c⟩
  | dT kvs =>
    obtain ⟨z, y, xs, r, ob, es, ep, e, c⟩ := x
    exact ⟨z, y, xs, Paired.mapP r fun p q z => ⟨z.1, ht _ _ z.2.1, z.2.2⟩, ob, es, ep, k _ _ (.inl rfl) e, c⟩
  | set S n => obtain ⟨ob, es, ep, t, e, c⟩ := x; exact ⟨ob, es, ep, t, k _ _ (.inl rfl) e, c⟩
  | ins C dx fs =>
    obtain ⟨d, z, ne, e, mA, ⟨od, es, ep, e2, c⟩, r⟩ := x
    exact ⟨ho _ d, z, ne, k _ _ (.inl rfl) e, mA, ⟨od, es, ep, k _ _ (.inr d) e2, c⟩, r⟩
  | own y => obtain ⟨ob, e⟩ := x; exact ⟨ob, k _ _ (.inl rfl) e⟩
  | xd fs => obtain ⟨mA, ⟨od, es, ep, e, c⟩, r⟩ := x; exact ⟨mA, ⟨od, es, ep, k _ _ (.inl rfl) e, c⟩, r⟩
  | rng lo hi => obtain ⟨t, u, v, e⟩ := x; exact ⟨t, u, v, k _ _ (.inl rfl) e⟩
  | frz ob u ih => obtain ⟨e, q⟩ := x; exact ⟨k _ _ (.inl rfl) e, ih q⟩
  | tbl ps =>
    have e : h.get? a = some { cls := .none, data := .fields ps } := x
    show h'.get? a = some { cls := .none, data := .fields ps }
    exact k a _ (.inl rfl) e
  | met f y =>
    have e : h.get? a = some (PySem.W.methodObj (.ref f) (.ref y)) := x
    show h'.get? a = some (PySem.W.methodObj (.ref f) (.ref y))
    exact k a _ (.inl rfl) e
  | ext φ => obtain ⟨p, ⟨o, e⟩, st⟩ := x; exact ⟨st _ _ p fun o q => k _ _ (.inl rfl) q, ⟨o, k _ _ (.inl rfl) e⟩, st⟩
theorem HOk.lt (x : HOk P w H h) (e : H a = some o) : a < h.objs.size := (x a o e).lt
theorem HOk.fresh (x : HOk P w H h) (e : h.objs.size ≤ a) : H a = none := by
  cases q : H a with
  | none => rfl
  | some u => exact absurd (Nat.lt_of_lt_of_le (x.lt q) e) (Nat.lt_irrefl _)
theorem HOk.kept (x : HOk P w H h) (k : ∀ b u, h.get? b = some u → h'.get? b = some u) : HOk P w H h' := fun a o e =>
  (x a o e).stay (fun b u _ q => k b u q) (fun _ q => q) fun _ _ q => q
theorem HOk.laid (x : HOk P w H h) (k : ∀ b u, h.get? b = some u → h'.get? b = some u) (hp : h.objs.size ≤ a) (new : ObjOk P w (upd H a o) h' a o) : HOk P w (upd H a o) h' := fun b u e => by
  have hn := x.fresh hp
  by_cases hb : b = a
  · subst hb; rw [upd_same] at e; cases e; exact new
  · rw [upd_ne hb] at e
    exact (x b u e).stay (fun c v _ q => k c v q) (fun c q => by rw [upd_ne (ne_of_none q hn)]; exact q) fun c xs q => by rw [upd_ne (ne_of_none q hn)]; exact q
end
noncomputable def Rd (H : Hp) (a : Addr) (u : HO) : Prop := H a = some u ∨ ∃ o, H a = some (.frz o u)
theorem Rd.ok {P : Program} {w : World} {H : Hp} {h : Heap} {a : Addr} {u : HO} (r : Rd H a u) (x : HOk P w H h) : ObjOk P w H h a u := by
  rcases r with r | ⟨o, r⟩
  · exact x a u r
  · obtain ⟨_, q⟩ := x a _ r
    exact q
noncomputable def Mut : Option HO → Prop
  | some (.lst _) => True
  | some (.dK _) => True
  | some (.dT _) => True
  | some (.set _ _) => True
  | some (.ins _ _ _) => True
  | some (.ext _) => True
  | _ => False
section
variable {P : Program} {w : World} {H : Hp} {h h' : Heap} {x e : Addr} {o' : HO}
theorem HOk.write (ok : HOk P w H h) (mu : Mut (H x)) (he : e = x ∨ H e = some (.own x)) (k : ∀ b u, b ≠ e → h.get? b = some u → h'.get? b = some u) (heo : ∃ u, h'.get? e = some u)
    (new : ObjOk P w (upd H x o') h' x o') : HOk P w (upd H x o') h' := fun b u q => by
  have nown : ∀ c y, H c = some (.own y) → c ≠ x := fun c y r z => by subst z; rw [r] at mu; exact mu
  have ntup : ∀ c xs, H c = some (.tup xs) → c ≠ x := fun c xs r z => by subst z; rw [r] at mu; exact mu
  by_cases hb : b = x
  · subst hb; rw [upd_same] at q; cases q; exact new
  · rw [upd_ne hb] at q
    by_cases hbe : b = e
    · have q' : H b = some (.own x) := by
        rcases he with z | z
        · exact absurd (hbe.trans z) hb
        · rw [hbe]; exact z
      rw [q] at q'; cases q'
      obtain ⟨v, hv⟩ := heo
      exact ⟨v, by rw [hbe]; exact hv⟩
    · refine (ok b u q).stay (fun c v hc r => k c v ?_ r) (fun c r => by rw [upd_ne (nown c b r)]; exact r) fun c xs r => by rw [upd_ne (ntup c xs r)]; exact r
      rcases hc with rfl | hc
      · exact hbe
      · rintro rfl
        rcases he with z | z
        · exact nown c b hc z
        · rw [hc] at z; cases z; exact hb rfl
end
structure Un (fs ex : List Addr) (H H' : Hp) (h h' : Heap) : Prop where
  keep : ∀ b o, h.get? b = some o → H b = none → b ∉ fs → b ∉ ex → h'.get? b = some o
  slot : ∀ b o, h.get? b = some o → H b = none → b ∈ fs → b ∉ ex → ∃ sl, h'.get? b = some { o with slots := sl }
  free : ∀ b o, h.get? b = some o → H b = none → b ∉ ex → H' b = none
  there : ∀ b o, h.get? b = some o → b ∉ ex → ∃ o', h'.get? b = some o'
  tups : ∀ b xs, H b = some (.tup xs) → H' b = some (.tup xs)
  frzs : ∀ b o u, H b = some (.frz o u) → H' b = some (.frz o u)
  tbls : ∀ b ps, H b = some (.tbl ps) → ∃ more, H' b = some (.tbl (ps ++ more))
section
variable {fs fs' ex ex' : List Addr} {H H1 H2 : Hp} {h h1 h2 h' : Heap} {a x e : Addr} {o : HO}
theorem Un.any (u : Un fs ex H H1 h h1) {b : Addr} {ob : Obj} (q : h.get? b = some ob) (n : H b = none) (hx : b ∉ ex) : ∃ sl, h1.get? b = some { ob with slots := sl } := by
  by_cases hb : b ∈ fs
  · exact u.slot b ob q n hb hx
  · exact ⟨ob.slots, u.keep b ob q n hb hx⟩
theorem Un.trans (a : Un fs ex H H1 h h1) (b : Un fs ex H1 H2 h1 h2) : Un fs ex H H2 h h2 where
  keep := fun c ob q n hc hx => b.keep c ob (a.keep c ob q n hc hx) (a.free c ob q n hx) hc hx
  slot := fun c ob q n hc hx => by
    obtain ⟨sl, e1⟩ := a.slot c ob q n hc hx
    obtain ⟨sl', e2⟩ := b.slot c _ e1 (a.free c ob q n hx) hc hx
    exact ⟨sl', e2⟩
  free := fun c ob q n hx => by
    obtain ⟨o', e1⟩ := a.there c ob q hx
    exact b.free c o' e1 (a.free c ob q n hx) hx
  there := fun c ob q hx => by
    obtain ⟨o', e1⟩ := a.there c ob q hx
    exact b.there c o' e1 hx
  tups := fun c xs q => b.tups c xs (a.tups c xs q)
  frzs := fun c ob xs q => b.frzs c ob xs (a.frzs c ob xs q)
  tbls := fun c ps q => by
    obtain ⟨m1, e1⟩ := a.tbls c ps q
    obtain ⟨m2, e2⟩ := b.tbls c _ e1
    exact ⟨m1 ++ m2, by rw [e2, Array.append_assoc]⟩
theorem Un.kept (k : ∀ b u, h.get? b = some u → h'.get? b = some u) : Un fs ex H H h h' :=
  ⟨fun b ob q _ _ _ => k b ob q, fun b ob q _ _ _ => ⟨ob.slots, k b ob q⟩, fun _ _ _ n _ => n, fun b ob q _ => ⟨ob, k b ob q⟩, fun _ _ q => q, fun _ _ _ q => q, fun _ ps q => ⟨#[], by rw [q]; simp⟩⟩
theorem Un.refl : Un fs ex H H h h := Un.kept fun _ _ q => q
theorem Un.laid (k : ∀ b u, h.get? b = some u → h'.get? b = some u) (hp : h.objs.size ≤ a) (hn : H a = none) : Un fs ex H (upd H a o) h h' where
  keep := fun b u q _ _ _ => k b u q
  slot := fun b u q _ _ _ => ⟨u.slots, k b u q⟩
  free := fun b u q n _ => by rw [upd_ne (Nat.ne_of_lt (Nat.lt_of_lt_of_le (Heap.lt_size q) hp))]; exact n
  there := fun b u q _ => ⟨u, k b u q⟩
  tups := fun b xs q => by rw [upd_ne (ne_of_none q hn)]; exact q
  frzs := fun b u xs q => by rw [upd_ne (ne_of_none q hn)]; exact q
  tbls := fun b ps q => ⟨#[], by rw [upd_ne (ne_of_none q hn), q]; simp⟩
theorem Un.write (mu : Mut (H x)) (he : e = x ∨ H e = some (.own x)) (k : ∀ b u, b ≠ e → h.get? b = some u → h'.get? b = some u) (heo : ∃ u, h'.get? e = some u) : Un fs ex H (upd H x o) h h' := by
  have hx : ∀ b, H b = none → b ≠ x := fun b n z => by subst z; rw [n] at mu; exact mu
  have hb : ∀ b, H b = none → b ≠ e := fun b n z => by
    subst z
    rcases he with r | r
    · exact hx b n r
    · rw [n] at r; cases r
  have hm : ∀ b u, H b = some u → ¬ Mut (some u) → b ≠ x := fun b u q nm z => by subst z; rw [q] at mu; exact nm mu
  refine ⟨fun b u q n _ _ => k b u (hb b n) q, fun b u q n _ _ => ⟨u.slots, k b u (hb b n) q⟩, fun b u q n _ => by rw [upd_ne (hx b n)]; exact n, fun b u q _ => ?_,
    fun b xs q => by rw [upd_ne (hm b _ q fun z => z)]; exact q, fun b u xs q => by rw [upd_ne (hm b _ q fun z => z)]; exact q, fun b ps q => ⟨#[], by rw [upd_ne (hm b _ q fun z => z), q]; simp⟩⟩
  by_cases hbe : b = e
  · subst hbe; exact heo
  · exact ⟨u, k b u hbe q⟩
end
noncomputable def trk (h : Heap) (H : Hp) : List Addr := (List.range h.objs.size).filter fun a => (H a).isSome
noncomputable def hidT (h : Heap) (H : Hp) : Heap := PySem.W.hideAll h (trk h H)
theorem hidT_size (h : Heap) (H : Hp) : (hidT h H).objs.size = h.objs.size := PySem.W.hideAll_size _ _
theorem hidT_get {h : Heap} {H : Hp} {b : Addr} {o : Obj} (e : h.get? b = some o) (n : H b = none) : (hidT h H).get? b = some o :=
  PySem.W.hideAll_get _ e fun hm => by
    have q : (H b).isSome = true := (List.mem_filter.mp hm).2
    rw [n] at q; simp at q
theorem of_hidT {h : Heap} {H : Hp} {b : Addr} {o : Obj} (e : (hidT h H).get? b = some o) : h.get? b = some o ∧ H b = none := by
  have e' : h.get? b = some o := PySem.W.of_hideAll (trk h H) e
  refine ⟨e', ?_⟩
  cases q : H b with
  | none => rfl
  | some x =>
    have hm : b ∈ trk h H := List.mem_filter.mpr ⟨List.mem_range.mpr (Heap.lt_size e'), by simp [q]⟩
    have z : (hidT h H).get? b = none := PySem.W.hideAll_none (trk h H) hm
    rw [z] at e; cases e
end L2
namespace L2
open PySem PySem.Spec PyProof.Rows
structure Mod (K : PySem.W.Frag) (mg : Str → Option Value) (base : Heap) : Prop where
  kin : K.In base
  glob : base.Ns mainGlobals mg
  blt : ∃ mb, base.Ns builtinsNs mb ∧ ∀ x : Str, x ≠ "__name__" → mb x = bootBuiltins x
  nolimit : base.NoLimit
structure Cx where
  prog : Program
  w : World
  K : PySem.W.Frag
  mg : Str → Option Value
  base : Heap
  A : Around
  N : List Str
  s₀ : Shared
  H₀ : Hp
  env : Env
  outer : List Env
  stack : List Env
  ex : List Addr
  fn : Str → Bool
  calm : Bool
  pn : List (Addr × Obj)
  xe : Value → Shared → Prop
noncomputable def frs (l : List Env) : List Addr := l.filterMap (·.frame)
noncomputable abbrev Cx.fs (X : Cx) : List Addr := frs X.outer
noncomputable def Vis (sc : Scope) (x : Str) : Prop := sc.names.lookup x = some .local ∨ sc.names.lookup x = some .cell ∨ sc.names.lookup x = some .free
noncomputable def Loc (sc : Scope) (x : Str) : Prop := sc.names.lookup x = some .local ∨ sc.names.lookup x = some .cell
noncomputable def Look (env : Env) (h : Heap) (m : Str → Option Value) (x : Str) (u : Value) : Prop :=
  (env.kindOf x = some .local ∧ m x = some u) ∨ ((env.kindOf x = some .cell ∨ env.kindOf x = some .free) ∧ ∃ c, env.cells.lookup x = some c ∧ h.IsCell c (some u))
structure Cx.Ok (X : Cx) : Prop where
  mod : Mod X.K X.mg X.base
  kind : X.env.scope.kind = .function
  glob : X.env.globals = mainGlobals
  blt : X.env.builtins = builtinsNs
  above : X.s₀.heap.objs.size ≤ X.env.locals
  inj : ∀ x y c, X.env.cells.lookup x = some c → X.env.cells.lookup y = some c → x = y
  has : ∀ x, (X.env.kindOf x = some .cell ∨ X.env.kindOf x = some .free) → ∃ c, X.env.cells.lookup x = some c
  cab : ∀ x c, X.fn x = true → X.env.cells.lookup x = some c → X.s₀.heap.objs.size ≤ c
  hd : X.calm = true → X.A.handled = none
  frames : X.A.frames = some X.stack
  stk : X.stack = X.outer ∨ (X.stack = X.env :: X.outer ∧ X.env.frame = some X.env.locals)
  exf : ∀ b ∈ X.ex, b ≠ X.env.locals ∧ ∀ x c, X.env.cells.lookup x = some c → c ≠ b
  bs : ∀ b o, X.base.get? b = some o → X.s₀.heap.get? b = some o ∧ X.H₀ b = none
  bsz : X.base.objs.size ≤ X.s₀.heap.objs.size
  noex : ∀ b o, X.base.get? b = some o → b ∉ X.ex
  exfs : ∀ b ∈ X.ex, b ∉ X.fs
  funs : X.s₀.heap.FunFrames X.base X.outer
  frf : ∀ b ∈ X.fs, X.H₀ b = none
structure Inv (X : Cx) (pins : List (Addr × Obj)) (σ : List (Option V)) (H : Hp) (s : Shared) : Prop where
  ok : X.Ok
  os : s.os = X.s₀.os
  bare : AllBare s.gens
  base : Un X.fs X.ex X.H₀ H X.s₀.heap s.heap
  loc : ∃ m, s.heap.Ns X.env.locals m ∧ ∀ (i : Nat) (x : Str) (v : V), X.N[i]? = some x → σ[i]? = some (some v) → Vis X.env.scope x → ∃ u, RelV v u ∧ Look X.env s.heap m x u
  cell : ∀ x c, X.env.cells.lookup x = some c → ∃ v, s.heap.IsCell c v
  free : H X.env.locals = none
  freeC : ∀ x c, X.env.cells.lookup x = some c → H c = none
  pin : ∀ p ∈ X.pn ++ pins, s.heap.get? p.1 = some p.2 ∧ H p.1 = none ∧ p.1 ≠ X.env.locals ∧ p.1 ∉ X.fs ∧ ∀ v, p.2.data ≠ .cell v
  hok : HOk X.prog X.w H s.heap
  len : σ.length = X.N.length
section
variable {X : Cx} {pins : List (Addr × Obj)} {σ : List (Option V)} {H H' : Hp} {s : Shared} {h' : Heap}
theorem Cx.Ok.nofr (ok : X.Ok) {b : Addr} {o : Obj} (e : X.base.get? b = some o) : b ∉ X.fs := fun hb => by
  have := (ok.funs.mem hb).1
  rw [e] at this; cases this
theorem Inv.bs (I : Inv X pins σ H s) : ∀ b o, X.base.get? b = some o → s.heap.get? b = some o ∧ H b = none := fun b o e =>
  ⟨I.base.keep b o (I.ok.bs b o e).1 (I.ok.bs b o e).2 (I.ok.nofr e) (I.ok.noex b o e), I.base.free b o (I.ok.bs b o e).1 (I.ok.bs b o e).2 (I.ok.noex b o e)⟩
theorem Inv.bk (I : Inv X pins σ H s) : ∀ b o, X.base.get? b = some o → s.heap.get? b = some o := fun b o e => (I.bs b o e).1
theorem Inv.mod (I : Inv X pins σ H s) : Mod X.K X.mg X.base := I.ok.mod
theorem Inv.kIn (I : Inv X pins σ H s) : X.K.In s.heap := I.ok.mod.kin.keeps I.bk
theorem Inv.lt (I : Inv X pins σ H s) : X.env.locals < s.heap.objs.size := let ⟨_, hn, _⟩ := I.loc; hn.lt
theorem Inv.sz (I : Inv X pins σ H s) : X.s₀.heap.objs.size ≤ s.heap.objs.size := Nat.le_trans I.ok.above (Nat.le_of_lt I.lt)
theorem Inv.nofs (I : Inv X pins σ H s) {a : Addr} (h : s.heap.objs.size ≤ a) : a ∉ X.fs := fun hb => by
  obtain ⟨_, o, ho, _⟩ := I.ok.funs.mem hb
  exact absurd (Nat.lt_of_lt_of_le (Heap.lt_size ho) (Nat.le_trans I.sz h)) (Nat.lt_irrefl _)
theorem Inv.cne (I : Inv X pins σ H s) : ∀ x c, X.env.cells.lookup x = some c → c ≠ X.env.locals := fun x c e z => by
  obtain ⟨v, o, ho, hd⟩ := I.cell x c e
  obtain ⟨m, ⟨o', es, ep, ho', hd', _⟩, _⟩ := I.loc
  rw [z, ho'] at ho; cases ho; rw [hd'] at hd; cases hd
theorem Inv.funs (I : Inv X pins σ H s) : s.heap.FunFrames X.base X.outer := by
  have all : ∀ (l : List Env), (∀ b ∈ frs l, b ∈ X.fs) → X.s₀.heap.FunFrames X.base l → s.heap.FunFrames X.base l := by
    intro l
    induction l with
    | nil => intro _ _; trivial
    | cons env r ih =>
      intro hs hl
      obtain ⟨hk, ⟨L, o, hf, hn, ho, hd⟩, hr⟩ := hl
      have hL : L ∈ X.fs := hs L (by unfold frs; rw [List.filterMap_cons, hf]; exact List.mem_cons_self)
      obtain ⟨sl, e⟩ := I.base.slot L o ho (I.ok.frf L hL) hL fun z => I.ok.exfs L z hL
      exact ⟨hk, ⟨L, _, hf, hn, e, hd⟩, ih (fun b hb => hs b (by unfold frs; rw [List.filterMap_cons, hf]; exact List.mem_cons_of_mem _ hb)) hr⟩
  exact all X.outer (fun _ hb => hb) I.ok.funs
theorem Inv.stack (I : Inv X pins σ H s) : s.heap.FunFrames X.base X.stack := by
  rcases I.ok.stk with e | ⟨e, hf⟩
  · rw [e]; exact I.funs
  · rw [e]
    obtain ⟨m, hn, _⟩ := I.loc
    refine .cons (by rw [I.ok.kind]; decide) hf hn ?_ I.funs
    exact Heap.get?_none_of_le (Nat.le_trans I.ok.bsz I.ok.above)
theorem Inv.stkSub (I : Inv X pins σ H s) : ∀ b ∈ frs X.stack, b ∈ X.env.locals :: X.fs := fun b hb => by
  rcases I.ok.stk with e | ⟨e, hf⟩
  · rw [e] at hb; exact List.mem_cons_of_mem _ hb
  · rw [e] at hb
    unfold frs at hb
    rw [List.filterMap_cons, hf] at hb
    exact hb
theorem Inv.stkFree (I : Inv X pins σ H s) : ∀ b ∈ frs X.stack, H b = none := fun b hb => by
  rcases List.mem_cons.mp (I.stkSub b hb) with e | hb
  · rw [e]; exact I.free
  · obtain ⟨_, o, ho, _⟩ := I.ok.funs.mem hb
    exact I.base.free b o ho (I.ok.frf b hb) fun z => I.ok.exfs b z hb
theorem Inv.step {g' : Array GenState} {t' : Nat} {d' : Drawn} {ch : List Addr} (I : Inv X pins σ H s)
    (hch : ∀ b ∈ ch, (b ∈ X.ex ∨ X.s₀.heap.objs.size ≤ b) ∧ b ≠ X.env.locals ∧ (∀ x c, X.env.cells.lookup x = some c → c ≠ b) ∧ ∀ p ∈ X.pn ++ pins, p.1 ≠ b)
    (keep : ∀ b o, b ≠ X.env.locals → b ∉ X.fs → b ∉ ch → s.heap.get? b = some o → H b = none → h'.get? b = some o)
    (slot : ∀ b o, b ≠ X.env.locals → b ∈ X.fs → b ∉ ch → s.heap.get? b = some o → H b = none → ∃ sl, h'.get? b = some { o with slots := sl }) (free : ∀ b o, b ∉ ch → s.heap.get? b = some o → H b = none → H' b = none)
    (there : ∀ b o, b ∉ ch → s.heap.get? b = some o → ∃ o', h'.get? b = some o')
    (tups : ∀ b xs, H b = some (.tup xs) → H' b = some (.tup xs)) (frzs : ∀ b o u, H b = some (.frz o u) → H' b = some (.frz o u)) (tbls : ∀ b ps, H b = some (.tbl ps) → ∃ more, H' b = some (.tbl (ps ++ more)))
    (ns : ∀ m, s.heap.Ns X.env.locals m → h'.Ns X.env.locals m) (hok : HOk X.prog X.w H' h') (hg : AllBare g') :
    Inv X pins σ H' { s with heap := h', gens := g', drawn := d', toks := t' } := by
  have neL : ∀ b o, X.s₀.heap.get? b = some o → b ≠ X.env.locals := fun b o e => Nat.ne_of_lt (Nat.lt_of_lt_of_le (Heap.lt_size e) I.ok.above)
  have neC : ∀ b o, X.s₀.heap.get? b = some o → b ∉ X.ex → b ∉ ch := fun b o e hx hb => by
    rcases (hch b hb).1 with z | z
    · exact hx z
    · exact absurd (Nat.lt_of_lt_of_le (Heap.lt_size e) z) (Nat.lt_irrefl _)
  have cellK : ∀ x c, X.env.cells.lookup x = some c → ∀ v, s.heap.IsCell c v → h'.IsCell c v := fun x c e v ⟨o, ho, hd⟩ => by
    have nch : c ∉ ch := fun z => (hch c z).2.2.1 x c e rfl
    by_cases hc : c ∈ X.fs
    · obtain ⟨sl, q⟩ := slot c o (I.cne x c e) hc nch ho (I.freeC x c e)
      exact ⟨_, q, hd⟩
    · exact ⟨o, keep c o (I.cne x c e) hc nch ho (I.freeC x c e), hd⟩
  refine ⟨I.ok, I.os, hg, ⟨fun b o e n hb hx => ?_, fun b o e n hb hx => ?_, fun b o e n hx => ?_, fun b o e hx => ?_, fun b xs e => tups b xs (I.base.tups b xs e), fun b o xs e => frzs b o xs (I.base.frzs b o xs e), fun b ps e => ?_⟩, ?_, fun x c e => ?_, ?_, fun x c e => ?_, fun p hp => ?_, hok, I.len⟩
  · exact keep b o (neL b o e) hb (neC b o e hx) (I.base.keep b o e n hb hx) (I.base.free b o e n hx)
  · obtain ⟨sl, e1⟩ := I.base.slot b o e n hb hx
    obtain ⟨sl', e2⟩ := slot b _ (neL b o e) hb (neC b o e hx) e1 (I.base.free b o e n hx)
    exact ⟨sl', e2⟩
  · obtain ⟨o', e1⟩ := I.base.there b o e hx
    exact free b o' (neC b o e hx) e1 (I.base.free b o e n hx)
  · obtain ⟨o', e1⟩ := I.base.there b o e hx
    exact there b o' (neC b o e hx) e1
  · obtain ⟨m1, e1⟩ := I.base.tbls b ps e
    obtain ⟨m2, e2⟩ := tbls b _ e1
    exact ⟨m1 ++ m2, by rw [e2, Array.append_assoc]⟩
  · obtain ⟨m, hn, hl⟩ := I.loc
    refine ⟨m, ns m hn, fun i x v e1 e2 e3 => ?_⟩
    obtain ⟨u, r, l⟩ := hl i x v e1 e2 e3
    refine ⟨u, r, ?_⟩
    rcases l with l | ⟨k, c, e, z⟩
    · exact .inl l
    · exact .inr ⟨k, c, e, cellK x c e _ z⟩
  · obtain ⟨v, z⟩ := I.cell x c e
    exact ⟨v, cellK x c e v z⟩
  · obtain ⟨m, ⟨o, _, _, ho, _⟩, _⟩ := I.loc
    exact free _ o (fun z => (hch _ z).2.1 rfl) ho I.free
  · obtain ⟨v, o, ho, hd⟩ := I.cell x c e
    exact free c o (fun z => (hch c z).2.2.1 x c e rfl) ho (I.freeC x c e)
  · obtain ⟨e, n, ne, nf, d⟩ := I.pin p hp
    have nch : p.1 ∉ ch := fun z => (hch p.1 z).2.2.2 p hp rfl
    exact ⟨keep p.1 p.2 ne nf nch e n, free p.1 p.2 nch e n, ne, nf, d⟩
theorem Inv.un {t' : Nat} (I : Inv X pins σ H s) (u : Un X.fs [] H H' s.heap h') (hok : HOk X.prog X.w H' h') : Inv X pins σ H' { s with heap := h', toks := t' } := by
  obtain ⟨m, ⟨o, es, ep, ho, r⟩, _⟩ := id I.loc
  obtain ⟨sl, hL⟩ := u.any ho I.free (by simp)
  exact I.step (g' := s.gens) (d' := s.drawn) (ch := []) (fun _ z => nomatch z) (fun b o _ hb _ e n => u.keep b o e n hb (by simp)) (fun b o _ hb _ e n => u.slot b o e n hb (by simp)) (fun b o _ e n => u.free b o e n (by simp)) (fun b o _ e => u.there b o e (by simp)) u.tups u.frzs u.tbls (fun m' hm => by
    obtain ⟨o', es', ep', ho', r'⟩ := hm
    rw [ho] at ho'; cases ho'
    exact ⟨_, es', ep', hL, r'⟩) hok I.bare
theorem Inv.call {g' : Array GenState} {t' : Nat} {d' : Drawn} {ch : List Addr} (I : Inv X pins σ H s) (u : Un (frs X.stack) ch H H' s.heap h') (hok : HOk X.prog X.w H' h') (hg : AllBare g')
    (hch : ∀ b ∈ ch, (b ∈ X.ex ∨ X.s₀.heap.objs.size ≤ b) ∧ b ≠ X.env.locals ∧ (∀ x c, X.env.cells.lookup x = some c → c ≠ b) ∧ ∀ p ∈ X.pn ++ pins, p.1 ≠ b) :
    Inv X pins σ H' { s with heap := h', gens := g', drawn := d', toks := t' } := by
  obtain ⟨m, ⟨o, es, ep, ho, r⟩, _⟩ := id I.loc
  obtain ⟨sl, hL⟩ := u.any ho I.free fun z => (hch _ z).2.1 rfl
  exact I.step (ch := ch) hch (fun b o hL hb hc e n => u.keep b o e n (fun z => (List.mem_cons.mp (I.stkSub b z)).elim hL hb) hc) (fun b o _ _ hc e n => u.any e n hc) (fun b o hc e n => u.free b o e n hc) (fun b o hc e => u.there b o e hc) u.tups u.frzs u.tbls (fun m' hm => by
    obtain ⟨o', es', ep', ho', r'⟩ := hm
    rw [ho] at ho'; cases ho'
    exact ⟨_, es', ep', hL, r'⟩) hok hg
theorem Inv.turned {t' : Nat} {it : Addr} (I : Inv X pins σ H s) (k : ∀ b o, b ≠ it → s.heap.get? b = some o → h'.get? b = some o) (hn : H it = none) (hL : it ≠ X.env.locals)
    (h1 : it ∈ X.ex ∨ X.s₀.heap.objs.size ≤ it) (h2 : ∀ x c, X.env.cells.lookup x = some c → c ≠ it) (h3 : ∀ p ∈ X.pn ++ pins, p.1 ≠ it) : Inv X pins σ H { s with heap := h', toks := t' } := by
  have nit : ∀ b u, H b = some u → b ≠ it := fun b u e z => by rw [z, hn] at e; cases e
  refine I.step (g' := s.gens) (d' := s.drawn) (ch := [it]) (fun b hb => ?_) (fun b o _ _ hc e _ => k b o (fun z => hc (by simp [z])) e) (fun b o _ _ hc e _ => ⟨o.slots, k b o (fun z => hc (by simp [z])) e⟩) (fun _ _ _ _ n => n)
    (fun b o hc e => ⟨o, k b o (fun z => hc (by simp [z])) e⟩) (fun _ _ e => e) (fun _ _ _ e => e) (fun b ps e => ⟨#[], by rw [e]; simp⟩) (fun m hm => ?_) (fun b u e => ?_) I.bare
  · have e : b = it := by simpa using hb
    subst e
    exact ⟨h1, hL, h2, h3⟩
  · obtain ⟨o, es, ep, ho, r⟩ := hm
    exact ⟨o, es, ep, k _ o (Ne.symm hL) ho, r⟩
  · refine (I.hok b u e).stay (fun c v hc q => k c v ?_ q) (fun _ q => q) fun _ _ q => q
    rcases hc with z | z
    · rw [z]; exact nit b u e
    · exact nit c _ z
theorem Inv.tok (I : Inv X pins σ H s) (t : Nat) : Inv X pins σ H { s with toks := t } := I.un (h' := s.heap) (t' := t) Un.refl I.hok
theorem Inv.kept {t' : Nat} (I : Inv X pins σ H s) (k : ∀ b u, s.heap.get? b = some u → h'.get? b = some u) : Inv X pins σ H { s with heap := h', toks := t' } := I.un (Un.kept k) (I.hok.kept k)
theorem Inv.laid {a : Addr} {o : HO} {t' : Nat} (I : Inv X pins σ H s) (k : ∀ b u, s.heap.get? b = some u → h'.get? b = some u) (hp : s.heap.objs.size ≤ a) (new : ObjOk X.prog X.w (upd H a o) h' a o) :
    Inv X pins σ (upd H a o) { s with heap := h', toks := t' } := I.un (Un.laid k hp (I.hok.fresh hp)) (I.hok.laid k hp new)
theorem Inv.write {x e : Addr} {o : HO} {t' : Nat} (I : Inv X pins σ H s) (mu : Mut (H x)) (he : e = x ∨ H e = some (.own x)) (k : ∀ b u, b ≠ e → s.heap.get? b = some u → h'.get? b = some u) (heo : ∃ u, h'.get? e = some u)
    (new : ObjOk X.prog X.w (upd H x o) h' x o) : Inv X pins σ (upd H x o) { s with heap := h', toks := t' } := I.un (Un.write mu he k heo) (I.hok.write mu he k heo new)
theorem Inv.weak {σ' : List (Option V)} (I : Inv X pins σ H s) (hl : σ'.length = σ.length) (w : ∀ (i : Nat) v, σ'[i]? = some (some v) → σ[i]? = some (some v)) : Inv X pins σ' H s :=
  ⟨I.ok, I.os, I.bare, I.base, let ⟨m, hn, hl'⟩ := I.loc; ⟨m, hn, fun i x v e1 e2 e3 => hl' i x v e1 (w i v e2) e3⟩, I.cell, I.free, I.freeC, I.pin, I.hok, hl.trans I.len⟩
theorem Inv.pins_of {pins' : List (Addr × Obj)} (I : Inv X pins σ H s) (h : ∀ p ∈ pins', s.heap.get? p.1 = some p.2 ∧ H p.1 = none ∧ p.1 ≠ X.env.locals ∧ p.1 ∉ X.fs ∧ ∀ v, p.2.data ≠ .cell v) : Inv X pins' σ H s :=
  ⟨I.ok, I.os, I.bare, I.base, I.loc, I.cell, I.free, I.freeC, fun p hp => (List.mem_append.mp hp).elim (fun z => I.pin p (List.mem_append_left _ z)) (h p), I.hok, I.len⟩
theorem nodup_ix {N : List Str} (hN : N.Nodup) {i j : Nat} {x : Str} (a : N[i]? = some x) (b : N[j]? = some x) : i = j := by
  obtain ⟨h1, e1⟩ := List.getElem?_eq_some_iff.mp a
  obtain ⟨h2, e2⟩ := List.getElem?_eq_some_iff.mp b
  exact (List.getElem_inj hN).mp (e1.trans e2.symm)
theorem store_ok2 {M : Model} {A : Around} {E : Value → Shared → Prop} {i : Nat} {x : Str} {v : V} {u : Value} {Q : Unit → Shared → Prop} (I : Inv X pins σ H s) (hN : X.N.Nodup) (hi : X.N[i]? = some x) (hx : Loc X.env.scope x) (r : RelV v u)
    (h : ∀ s', Inv X pins (σ.set i (some v)) H s' → (∃ a, Heap.SameBut a s.heap s'.heap ∧ (a = X.env.locals ∨ X.env.cells.lookup x = some a)) → Q () s') (hf : X.fn x = true ∨ X.env.scope.names.lookup x = some .local := by first | exact .inl rfl | exact .inr rfl | assumption) : wpAny M A (storeName X.env x u) Q E s := by
  obtain ⟨m, hn, hl⟩ := id I.loc
  have hcls : (X.env.scope.kind == .class || (X.env.scope.kind == .module && X.env.locals != X.env.globals)) = false := by rw [I.ok.kind]; rfl
  have hiσ : i < σ.length := by rw [I.len]; exact (List.getElem?_eq_some_iff.mp hi).1
  have cne := I.cne
  have tracked : ∀ {a : Addr} {h' : Heap}, (∃ o, s.heap.get? a = some o ∧ H a = none) → Heap.SameBut a s.heap h' → HOk X.prog X.w H h' := fun {a h'} ha hs b ob e => by
    obtain ⟨_, _, hfree⟩ := ha
    refine (I.hok b ob e).stay (fun c w' hc q => (hs.2 c ?_).trans q) (fun _ q => q) fun _ _ q => q
    rintro rfl
    rcases hc with rfl | hc
    · rw [hfree] at e; cases e
    · rw [hfree] at hc; cases hc
  rcases hx with hk | hk
  · refine wpAny_storeName_local hk hn (fun h' hn' hs => ?_) hcls
    obtain ⟨oL, _, _, hoL, _⟩ := id hn
    refine h _ ⟨I.ok, I.os, I.bare, ⟨fun b o e n hb hx => ?_, fun b o e n hb hx => ?_, I.base.free, fun b o e hx => ?_, I.base.tups, I.base.frzs, I.base.tbls⟩, ⟨_, hn', fun j y v' e1 e2 e3 => ?_⟩, fun y c e => ?_, I.free, I.freeC, fun p hp => ?_, tracked ⟨oL, hoL, I.free⟩ hs, by simpa using I.len⟩ ⟨_, hs, .inl rfl⟩
    · exact (hs.2 b (Nat.ne_of_lt (Nat.lt_of_lt_of_le (Heap.lt_size e) I.ok.above))).trans (I.base.keep b o e n hb hx)
    · obtain ⟨sl, e1⟩ := I.base.slot b o e n hb hx
      exact ⟨sl, (hs.2 b (Nat.ne_of_lt (Nat.lt_of_lt_of_le (Heap.lt_size e) I.ok.above))).trans e1⟩
    · obtain ⟨o', e1⟩ := I.base.there b o e hx
      exact ⟨o', (hs.2 b (Nat.ne_of_lt (Nat.lt_of_lt_of_le (Heap.lt_size e) I.ok.above))).trans e1⟩
    · by_cases hj : j = i
      · subst hj
        rw [hi] at e1; cases e1
        rw [List.getElem?_set_self hiσ] at e2
        cases e2
        exact ⟨u, r, .inl ⟨hk, by simp⟩⟩
      · rw [List.getElem?_set_ne (Ne.symm hj)] at e2
        obtain ⟨u', r', q⟩ := hl j y v' e1 e2 e3
        refine ⟨u', r', ?_⟩
        rcases q with ⟨k, e⟩ | ⟨k, c, e, z⟩
        · refine .inl ⟨k, ?_⟩
          have : y ≠ x := fun e => hj (nodup_ix hN e1 (e ▸ hi))
          simp [this, e]
        · exact .inr ⟨k, c, e, z.sameBut hs (cne y c e)⟩
    · obtain ⟨w', z⟩ := I.cell y c e
      exact ⟨w', z.sameBut hs (cne y c e)⟩
    · obtain ⟨e, n, ne, nf, d⟩ := I.pin p hp
      exact ⟨(hs.2 p.1 ne).trans e, n, ne, nf, d⟩
  · have hfn : X.fn x = true := by
      rcases hf with z | z
      · exact z
      · rw [z] at hk; cases hk
    obtain ⟨c, hc⟩ := I.ok.has x (.inl hk)
    obtain ⟨w', z⟩ := I.cell x c hc
    refine wpAny_storeName_cell I.ok.kind hk hc z (fun h' hc' hs => ?_)
    obtain ⟨oc, hoc, hocd⟩ := id z
    refine h { s with heap := h' } ⟨I.ok, I.os, I.bare, ⟨fun b o e n hb hx => ?_, fun b o e n hb hx => ?_, I.base.free, fun b o e hx => ?_, I.base.tups, I.base.frzs, I.base.tbls⟩, ⟨m, hn.sameBut hs (Ne.symm (cne x c hc)), fun j y v' e1 e2 e3 => ?_⟩, fun y c' e => ?_, I.free, I.freeC, fun p hp => ?_, tracked ⟨oc, hoc, I.freeC x c hc⟩ hs, by simpa using I.len⟩ ⟨c, hs, .inr hc⟩
    · exact (hs.2 b (Nat.ne_of_lt (Nat.lt_of_lt_of_le (Heap.lt_size e) (I.ok.cab x c hfn hc)))).trans (I.base.keep b o e n hb hx)
    · obtain ⟨sl, e1⟩ := I.base.slot b o e n hb hx
      exact ⟨sl, (hs.2 b (Nat.ne_of_lt (Nat.lt_of_lt_of_le (Heap.lt_size e) (I.ok.cab x c hfn hc)))).trans e1⟩
    · obtain ⟨o', e1⟩ := I.base.there b o e hx
      exact ⟨o', (hs.2 b (Nat.ne_of_lt (Nat.lt_of_lt_of_le (Heap.lt_size e) (I.ok.cab x c hfn hc)))).trans e1⟩
    · by_cases hj : j = i
      · subst hj
        rw [hi] at e1; cases e1
        rw [List.getElem?_set_self hiσ] at e2
        cases e2
        exact ⟨u, r, .inr ⟨.inl hk, c, hc, hc'⟩⟩
      · rw [List.getElem?_set_ne (Ne.symm hj)] at e2
        obtain ⟨u', r', q⟩ := hl j y v' e1 e2 e3
        refine ⟨u', r', ?_⟩
        rcases q with q | ⟨k, c', e, z'⟩
        · exact .inl q
        · refine .inr ⟨k, c', e, z'.sameBut hs ?_⟩
          rintro rfl
          exact hj (nodup_ix hN e1 (I.ok.inj _ _ _ e hc ▸ hi))
    · by_cases hcc : c' = c
      · subst hcc; exact ⟨_, hc'⟩
      · obtain ⟨w2, z2⟩ := I.cell y c' e
        exact ⟨w2, z2.sameBut hs hcc⟩
    · obtain ⟨e, n, ne, nf, d⟩ := I.pin p hp
      refine ⟨(hs.2 p.1 ?_).trans e, n, ne, nf, d⟩
      intro q
      rw [q, hoc] at e
      have q' : oc = p.2 := Option.some.inj e
      exact d w' (by rw [← q']; exact hocd)
theorem store_ok {M : Model} {A : Around} {E : Value → Shared → Prop} {i : Nat} {x : Str} {v : V} {u : Value} {Q : Unit → Shared → Prop} (I : Inv X pins σ H s) (hN : X.N.Nodup) (hi : X.N[i]? = some x) (hx : Loc X.env.scope x) (r : RelV v u)
    (h : ∀ s', Inv X pins (σ.set i (some v)) H s' → Q () s') (hf : X.fn x = true ∨ X.env.scope.names.lookup x = some .local := by first | exact .inl rfl | exact .inr rfl | assumption) : wpAny M A (storeName X.env x u) Q E s :=
  store_ok2 I hN hi hx r (fun s' I' _ => h s' I') hf
theorem Inv.call' {s' : Shared} {ch : List Addr} (I : Inv X pins σ H s) (ho : s'.os = s.os) (u : Un (frs X.stack) ch H H' s.heap s'.heap) (hok : HOk X.prog X.w H' s'.heap) (hg : AllBare s'.gens)
    (hch : ∀ b ∈ ch, (b ∈ X.ex ∨ X.s₀.heap.objs.size ≤ b) ∧ b ≠ X.env.locals ∧ (∀ x c, X.env.cells.lookup x = some c → c ≠ b) ∧ ∀ p ∈ X.pn ++ pins, p.1 ≠ b) : Inv X pins σ H' s' := by
  obtain ⟨h', g', d', t', o'⟩ := s'
  have e : o' = s.os := ho
  subst e
  exact I.call (g' := g') (t' := t') (d' := d') u hok hg hch
end
noncomputable abbrev XK := Value → Option Addr → Hp → Prop
noncomputable abbrev St := List (Option V)
noncomputable abbrev VK := V → Hp → Prop
noncomputable abbrev TE := St → Hp → VK → Prop
noncomputable abbrev TT := St → Hp → (Bool → Hp → Prop) → Prop
noncomputable abbrev TA := St → Hp → (List V → Hp → Prop) → Prop
structure Ends where
  nx : St → Hp → Prop
  rt : VK
  bk : St → Hp → Prop := fun _ _ => False
  ct : St → Hp → Prop := fun _ _ => False
noncomputable abbrev TS := Ends → St → Hp → Prop
noncomputable def EP (X : Cx) (pins : List (Addr × Obj)) (σ : St) (Q : VK) (u : Value) (s' : Shared) : Prop := ∃ v H', Inv X pins σ H' s' ∧ RelV v u ∧ Q v H'
noncomputable def TP (X : Cx) (pins : List (Addr × Obj)) (σ : St) (Q : Bool → Hp → Prop) (b : Bool) (s' : Shared) : Prop := ∃ H', Inv X pins σ H' s' ∧ Q b H'
noncomputable def AP (X : Cx) (pins : List (Addr × Obj)) (σ : St) (Q : List V → Hp → Prop) (us : List Value) (s' : Shared) : Prop := ∃ vs H', Inv X pins σ H' s' ∧ Vals vs us ∧ Q vs H'
noncomputable def SP (X : Cx) (pins : List (Addr × Obj)) (D : Ends) (f : Flow) (s' : Shared) : Prop :=
  match f with
  | .next => ∃ σ' H', Inv X pins σ' H' s' ∧ D.nx σ' H'
  | .brk => ∃ σ' H', Inv X pins σ' H' s' ∧ D.bk σ' H'
  | .cont => ∃ σ' H', Inv X pins σ' H' s' ∧ D.ct σ' H'
  | .ret u => ∃ v σ' H', Inv X pins σ' H' s' ∧ RelV v u ∧ D.rt v H'
noncomputable def PE (X : Cx) (e : Expr) (t : TE) : Prop :=
  ∀ (pins : List (Addr × Obj)) (s : Shared) (σ : St) (H : Hp) (Q : VK), Inv X pins σ H s → t σ H Q → wpAny (model X.prog X.w) X.A (eval e X.env) (EP X pins σ Q) X.xe s
noncomputable def PT (X : Cx) (e : Expr) (t : TT) : Prop :=
  ∀ (pins : List (Addr × Obj)) (s : Shared) (σ : St) (H : Hp) (Q : Bool → Hp → Prop), Inv X pins σ H s → t σ H Q → wpAny (model X.prog X.w) X.A (isTrue e X.env (eval e X.env)) (TP X pins σ Q) X.xe s
noncomputable def PW (X : Cx) (e : Expr) (t : TT) : Prop :=
  ∀ (whole : Sem Value) (pins : List (Addr × Obj)) (s : Shared) (σ : St) (H : Hp) (Q : Bool → Hp → Prop), Inv X pins σ H s → t σ H Q → wpAny (model X.prog X.w) X.A (isTrue e X.env whole) (TP X pins σ Q) X.xe s
theorem PW.pt {X : Cx} {e : Expr} {t : TT} (h : PW X e t) : PT X e t := h _
noncomputable def PA (X : Cx) (es : List Expr) (t : TA) : Prop :=
  ∀ (pos : Pos) (pins : List (Addr × Obj)) (s : Shared) (σ : St) (H : Hp) (Q : List V → Hp → Prop), Inv X pins σ H s → t σ H Q → wpAny (model X.prog X.w) X.A (spliced (backTo pos (starEach es X.env))) (AP X pins σ Q) X.xe s
noncomputable def PS (X : Cx) (st : Stmt) (t : TS) : Prop :=
  ∀ (pins : List (Addr × Obj)) (s : Shared) (σ : St) (H : Hp) (D : Ends), Inv X pins σ H s → t D σ H → wpAny (model X.prog X.w) X.A (exec st X.env) (SP X pins D) X.xe s
noncomputable def PSs (X : Cx) (st : List Stmt) (t : TS) : Prop :=
  ∀ (pins : List (Addr × Obj)) (s : Shared) (σ : St) (H : Hp) (D : Ends), Inv X pins σ H s → t D σ H → wpAny (model X.prog X.w) X.A (execs st X.env) (SP X pins D) X.xe s
theorem thn {α : Type} {t : Sem α} {Q Q' : α → Shared → Prop} {M : Model} {A : Around} {E : Value → Shared → Prop} {s : Shared} (h : wpAny M A t Q E s) (hQ : ∀ a s, Q a s → Q' a s) : wpAny M A t Q' E s := wpAny_mono h hQ fun _ _ x => x
end L2
namespace L2
open PySem PySem.Spec PyProof.Rows
section
variable {X : Cx}
noncomputable def tVar (i : Nat) : TE := fun σ H Q => ∃ v, σ[i]? = some (some v) ∧ Q v H
noncomputable def tC (v : V) : TE := fun _ H Q => Q v H
theorem pe_var {i : Nat} {x : Str} {pos : Pos} (hN : X.N[i]? = some x) (hv : Vis X.env.scope x) (hd : (x == ("__debug__" : Str)) = false := by decide) (hcd : (x == ("__classdict__" : Str)) = false := by decide) : PE X (.Name x pos) (tVar i) := by
  intro pins s σ H Q I h
  obtain ⟨v, e, h⟩ := h
  obtain ⟨m, hn, hl⟩ := I.loc
  obtain ⟨u, r, l⟩ := hl i x v hN e hv
  have fin : EP X pins σ Q u s := ⟨v, H, I, r, h⟩
  rcases l with ⟨hk, hm⟩ | ⟨hk, c, hc, hcell⟩
  · exact wpAny_Name (wpAny_loadName_local I.ok.kind hk hn hm fin) hd
  · rcases hk with hk | hk
    · exact wpAny_Name (wpAny_loadName_cell I.ok.kind hk hc hcell fin) hd
    · exact wpAny_Name (wpAny_loadName_free I.ok.kind hk hc hcell fin hcd) hd
theorem pe_int {i j pos} : PE X (.Constant (.int i) j pos) (tC (.int i)) := fun _ _ _ H _ I h => wpAny_Constant_int ⟨.int i, H, I.tok _, ⟨_, rfl⟩, h⟩
theorem pe_bl {b j pos} : PE X (.Constant (.bool b) j pos) (tC (.bl b)) := fun _ _ _ H _ I h => Constant_bool ⟨.bl b, H, I, rfl, h⟩
theorem pe_non {j pos} : PE X (.Constant .none j pos) (tC .non) := fun _ _ _ H _ I h => Constant_none ⟨.non, H, I, rfl, h⟩
theorem pe_str {x j pos} : PE X (.Constant (.str x) j pos) (tC (.str x)) := fun _ _ _ H _ I h => Calls.Constant_str ⟨.str x, H, I.tok _, ⟨_, rfl⟩, h⟩
noncomputable def Gl (X : Cx) (x : Str) : Prop := X.env.kindOf x = some .globalImplicit
theorem ld_glob {E : Value → Shared → Prop} {pins : List (Addr × Obj)} {s : Shared} {σ : St} {H : Hp} {x : Str} {u : Value} {pos : Pos} {Q : Value → Shared → Prop} (I : Inv X pins σ H s) (hg : Gl X x) (hm : X.mg x = some u) (h : Q u s)
    (hd : (x == ("__debug__" : Str)) = false := by decide) : wpAny (model X.prog X.w) X.A (eval (.Name x pos) X.env) Q E s :=
  Calls.Name_function_global I.ok.kind hg (Calls.loadGlobal_global (by rw [I.ok.glob]; exact I.mod.glob.keeps I.bk) hm h) hd
theorem ld_blt {E : Value → Shared → Prop} {pins : List (Addr × Obj)} {s : Shared} {σ : St} {H : Hp} {x : Str} {u : Value} {pos : Pos} {Q : Value → Shared → Prop} (I : Inv X pins σ H s) (hg : Gl X x) (hm : X.mg x = none) (hv : bootBuiltins x = some u) (h : Q u s)
    (hn : x ≠ "__name__" := by decide) (hd : (x == ("__debug__" : Str)) = false := by decide) : wpAny (model X.prog X.w) X.A (eval (.Name x pos) X.env) Q E s := by
  obtain ⟨mb, h1, h2⟩ := I.mod.blt
  exact Calls.Name_function_global I.ok.kind hg (Calls.loadGlobal_builtin (by rw [I.ok.glob]; exact I.mod.glob.keeps I.bk) hm (by rw [I.ok.blt]; exact h1.keeps I.bk) ((h2 x hn).trans hv) h) hd
theorem pe_glob {x : Str} {v : V} {u : Value} {pos : Pos} (hg : Gl X x) (hm : X.mg x = some u) (r : RelV v u) (hd : (x == ("__debug__" : Str)) = false := by decide) : PE X (.Name x pos) (tC v) :=
  fun _ _ _ H _ I h => ld_glob I hg hm ⟨v, H, I, r, h⟩ hd
theorem pe_bltn {x : Str} {v : V} {u : Value} {pos : Pos} (hg : Gl X x) (hm : X.mg x = none) (hv : bootBuiltins x = some u) (r : RelV v u) (hn : x ≠ "__name__" := by decide) (hd : (x == ("__debug__" : Str)) = false := by decide) : PE X (.Name x pos) (tC v) :=
  fun _ _ _ H _ I h => ld_blt I hg hm hv ⟨v, H, I, r, h⟩ hn hd
variable {a b : Expr} {ta tb : TE} {pos : Pos}
variable {tA tB' : TT} {rest : List Expr}
noncomputable def tOr (t u : TT) : TT := fun σ H Q => t σ H fun c H1 => if c = true then Q true H1 else u σ H1 Q
noncomputable def tNot (t : TT) : TT := fun σ H Q => t σ H fun c H1 => Q (!c) H1
theorem pw_or1 (ha : PT X a tA) : PW X (.BoolOp .Or [a] pos) tA := by
  intro wh pins s σ H Q I h
  refine isTrue_or (thn (ha pins s σ H Q I h) fun c s1 e => ?_)
  cases c with
  | false => exact isTrue_or_nil e
  | true => exact e
theorem pw_or (ha : PT X a tA) (hb : PW X (.BoolOp .Or (b :: rest) pos) tB') : PW X (.BoolOp .Or (a :: b :: rest) pos) (tOr tA tB') := by
  intro wh pins s σ H Q I h
  refine isTrue_or (thn (ha pins s σ H _ I h) fun c s1 ⟨H1, I1, q1⟩ => ?_)
  cases c with
  | true => exact ⟨H1, I1, q1⟩
  | false => exact hb wh pins s1 σ H1 Q I1 q1
theorem pt_not (ha : PT X a tA) : PT X (.UnaryOp .Not a pos) (tNot tA) := by
  intro pins s σ H Q I h
  exact isTrue_not (ha pins s σ H (fun c H1 => Q (!c) H1) I h)
noncomputable def tAndV (ta tb : TE) : TE := fun σ H Q => ta σ H fun x H1 => ∃ c, x = .bl c ∧ if c = true then tb σ H1 Q else Q (.bl false) H1
theorem pe_one {op} {t : TE} (h : PE X a t) : PE X (.BoolOp op [a] pos) t := fun pins s σ H Q I hw => BoolOp_one (h pins s σ H Q I hw)
theorem pe_and (ha : PE X a ta) (hb : PE X (.BoolOp .And (b :: rest) pos) tb) : PE X (.BoolOp .And (a :: b :: rest) pos) (tAndV ta tb) := by
  intro pins s σ H Q I h
  refine BoolOp_and (thn (ha pins s σ H _ I h) fun v s1 ⟨x, H1, I1, r1, q1⟩ => ?_)
  obtain ⟨c, rfl, q1⟩ := q1
  cases r1
  refine wpAny_truthy_bool ?_
  cases c with
  | true => exact hb pins s1 σ H1 Q I1 q1
  | false => exact ⟨.bl false, H1, I1, rfl, q1⟩
end
end L2
namespace L2
open PySem PySem.Spec PyProof.Rows
noncomputable def SqL (K : PySem.W.Frag) (H : Hp) (a : Addr) (xs : List V) : Prop :=
  Rd H a (.lst xs) ∨
    ∃ (o : Obj) (its : Array Value) (n : Nat), K.lookup a = some o ∧ o.cls = .type "list" ∧ o.dict = none ∧ o.data = .seq its n ∧ its.size ≤ sizeLine ∧ Vals xs its.toList
noncomputable def SqT (K : PySem.W.Frag) (H : Hp) (a : Addr) (xs : List V) : Prop :=
  Rd H a (.tup xs) ∨
    ∃ (o : Obj) (its : Array Value) (n : Nat), K.lookup a = some o ∧ o.cls = .type "tuple" ∧ o.data = .seq its n ∧ its.size ≤ sizeLine ∧ Vals xs its.toList
noncomputable def absV : Value → Option V
  | .none => some .non
  | .bool b => some (.bl b)
  | .int i _ => some (.int i)
  | .str x _ => some (.str x)
  | .bytes b _ => some (.byt b)
  | .float b _ => some (.flt b)
  | .ref a => some (.ref a)
  | .type n => some (.ty n)
  | _ => none
theorem RelV.abs {x : V} {u : Value} (r : RelV x u) : absV u = some x := by
  cases x with
  | non => cases r; rfl
  | bl _ => cases r; rfl
  | int _ => obtain ⟨t, rfl⟩ := r; rfl
  | str _ => obtain ⟨t, rfl⟩ := r; rfl
  | byt _ => obtain ⟨t, rfl⟩ := r; rfl
  | flt _ => obtain ⟨t, rfl⟩ := r; rfl
  | ref _ => cases r; rfl
  | ty _ => cases r; rfl
theorem RelV.inj {x y : V} {u : Value} (r : RelV x u) (q : RelV y u) : x = y := Option.some.inj (r.abs.symm.trans q.abs)
theorem Vals.inj : ∀ {xs ys : List V} {us : List Value}, Vals xs us → Vals ys us → xs = ys
  | _, _, _, .nil, .nil => rfl
  | _, _, _, .cons r t, .cons r' t' => by rw [r.inj r', Vals.inj t t']
section
variable {X : Cx} {pins : List (Addr × Obj)} {σ : St} {H : Hp} {s : Shared} {a : Addr} {xs ys : List V}
theorem SqL.of {K : PySem.W.Frag} (h : H a = some (.lst xs)) : SqL K H a xs := .inl (.inl h)
theorem SqT.of {K : PySem.W.Frag} (h : H a = some (.tup xs)) : SqT K H a xs := .inl (.inl h)
theorem Inv.list (I : Inv X pins σ H s) (h : SqL X.K H a xs) : ∃ its : List Value, Vals xs its ∧ PlainL s.heap a its.toArray ∧ xs.length ≤ sizeLine := by
  rcases h with h | ⟨o, its, n, hk, hc, hd, hs, hz, r⟩
  · obtain ⟨z, its, n, r, e⟩ := h.ok I.hok
    exact ⟨its, r, ⟨_, n, e, rfl, rfl, rfl⟩, z⟩
  · refine ⟨its.toList, r, ⟨o, n, I.kIn a o hk, hc, hd, by simpa using hs⟩, ?_⟩
    have e := r.length
    simp only [Array.length_toList] at e
    omega
theorem Inv.tuple (I : Inv X pins σ H s) (h : SqT X.K H a xs) : ∃ its : List Value, Vals xs its ∧ IsTup s.heap a its.toArray ∧ xs.length ≤ sizeLine := by
  rcases h with h | ⟨o, its, n, hk, hc, hs, hz, r⟩
  · obtain ⟨z, its, r, p⟩ := h.ok I.hok
    exact ⟨its, r, p, z⟩
  · refine ⟨its.toList, r, ⟨o, I.kIn a o hk, hc, n, by simpa using hs⟩, ?_⟩
    have e := r.length
    simp only [Array.length_toList] at e
    omega
theorem Inv.list_inj (I : Inv X pins σ H s) (h : SqL X.K H a xs) (h' : SqL X.K H a ys) : xs = ys := by
  obtain ⟨its, r, ⟨o, n, e, _, _, d⟩, _⟩ := I.list h
  obtain ⟨its', r', ⟨o', n', e', _, _, d'⟩, _⟩ := I.list h'
  rw [e] at e'; cases e'
  rw [d] at d'
  injection d' with d1 _
  have : its = its' := by simpa using congrArg Array.toList d1
  subst this
  exact r.inj r'
theorem Inv.tuple_inj (I : Inv X pins σ H s) (h : SqT X.K H a xs) (h' : SqT X.K H a ys) : xs = ys := by
  obtain ⟨its, r, ⟨o, e, _, n, d⟩, _⟩ := I.tuple h
  obtain ⟨its', r', ⟨o', e', _, n', d'⟩, _⟩ := I.tuple h'
  rw [e] at e'; cases e'
  rw [d] at d'
  injection d' with d1 _
  have : its = its' := by simpa using congrArg Array.toList d1
  subst this
  exact r.inj r'
end
noncomputable abbrev Cx.wish (X : Cx) (E : Value → Shared → Prop) : Cx := { X with xe := E }
noncomputable abbrev Cx.nox (X : Cx) : Cx := X.wish fun _ _ => False
theorem Cx.Ok.wish {X : Cx} (ok : X.Ok) (E : Value → Shared → Prop) : (X.wish E).Ok :=
  ⟨ok.mod, ok.kind, ok.glob, ok.blt, ok.above, ok.inj, ok.has, ok.cab, ok.hd, ok.frames, ok.stk, ok.exf, ok.bs, ok.bsz, ok.noex, ok.exfs, ok.funs, ok.frf⟩
theorem Cx.Ok.unwish {X : Cx} {E : Value → Shared → Prop} (ok : (X.wish E).Ok) : X.Ok :=
  ⟨ok.mod, ok.kind, ok.glob, ok.blt, ok.above, ok.inj, ok.has, ok.cab, ok.hd, ok.frames, ok.stk, ok.exf, ok.bs, ok.bsz, ok.noex, ok.exfs, ok.funs, ok.frf⟩
section
variable {X : Cx} {pins : List (Addr × Obj)} {σ : St} {H : Hp} {s : Shared} {E : Value → Shared → Prop}
theorem Inv.wish (I : Inv X pins σ H s) (E : Value → Shared → Prop) : Inv (X.wish E) pins σ H s := ⟨I.ok.wish E, I.os, I.bare, I.base, I.loc, I.cell, I.free, I.freeC, I.pin, I.hok, I.len⟩
theorem Inv.unwish (I : Inv (X.wish E) pins σ H s) : Inv X pins σ H s := ⟨I.ok.unwish, I.os, I.bare, I.base, I.loc, I.cell, I.free, I.freeC, I.pin, I.hok, I.len⟩
theorem SP.unwish {D : Ends} {f : Flow} {s' : Shared} (h : SP (X.wish E) pins D f s') : SP X pins D f s' := by
  cases f with
  | next => obtain ⟨σ', H', I, q⟩ := h; exact ⟨σ', H', I.unwish, q⟩
  | brk => obtain ⟨σ', H', I, q⟩ := h; exact ⟨σ', H', I.unwish, q⟩
  | cont => obtain ⟨σ', H', I, q⟩ := h; exact ⟨σ', H', I.unwish, q⟩
  | ret u => obtain ⟨v, σ', H', I, r, q⟩ := h; exact ⟨v, σ', H', I.unwish, r, q⟩
theorem PT.nox {e : Expr} {t : TT} (h : PT X.nox e t) : PT X e t := fun pins s σ H Q I hw =>
  wpAny_mono (h pins s σ H Q (I.wish _) hw) (fun _ _ ⟨H', I', q⟩ => ⟨H', I'.unwish, q⟩) fun _ _ z => False.elim z
theorem PSs.nox {st : List Stmt} {t : TS} (h : PSs X.nox st t) : PSs X st t := fun pins s σ H D I hw =>
  wpAny_mono (h pins s σ H D (I.wish _) hw) (fun _ _ q => q.unwish) fun _ _ z => False.elim z
end
section
variable {X : Cx} {st : Stmt} {rest : List Stmt} {t u : TS} {e : Expr} {te : TE} {pos : Pos}
noncomputable def tNext : TS := fun D σ H => D.nx σ H
noncomputable def tSeq (t u : TS) : TS := fun D σ H => t { D with nx := u D } σ H
theorem pss_nil : PSs X [] tNext := fun _ _ σ H _ I h => wpAny_execs_nil ⟨σ, H, I, h⟩
theorem pss_cons (h1 : PS X st t) (h2 : PSs X rest u) : PSs X (st :: rest) (tSeq t u) := by
  intro pins s σ H D I h
  refine wpAny_execs_cons (thn (h1 pins s σ H { D with nx := u D } I h) fun f s1 q => ?_)
  cases f with
  | next =>
    obtain ⟨σ', H', I', q⟩ := q
    exact h2 pins s1 σ' H' D I' q
  | ret v => exact q
  | brk => exact q
  | cont => exact q
theorem pss_one (h1 : PS X st t) : PSs X [st] t := by
  intro pins s σ H D I h
  refine wpAny_execs_cons (thn (h1 pins s σ H D I h) fun f s1 q => ?_)
  cases f with
  | next => exact wpAny_execs_nil q
  | ret v => exact q
  | brk => exact q
  | cont => exact q
theorem Inv.quiet {pins : List (Addr × Obj)} {σ : St} {H : Hp} {s : Shared} (I : Inv X pins σ H s) : interactive X.env = false := by simp [interactive, I.ok.kind]
noncomputable def tDrop (te : TE) : TS := fun D σ H => te σ H fun _ H1 => D.nx σ H1
theorem ps_expr (he : PE X e te) (hs : swapsWith e none pos.line X.env = pure false := by rfl) : PS X (.Expr e pos) (tDrop te) := by
  intro pins s σ H D I h
  exact wpAny_Expr_any (thn (he pins s σ H _ I h) fun v s1 ⟨x, H1, I1, r1, q1⟩ => ⟨σ, H1, I1, q1⟩) I.quiet hs
noncomputable def tRet (te : TE) : TS := fun D σ H => te σ H D.rt
theorem ps_ret (he : PE X e te) : PS X (.Return (some e) pos) (tRet te) := by
  intro pins s σ H D I h
  exact wpAny_Return_some (thn (he pins s σ H _ I h) fun v s1 ⟨x, H1, I1, r1, q1⟩ => ⟨x, σ, H1, I1, r1, q1⟩)
noncomputable def tIfS (c : TT) (t u : TS) : TS := fun D σ H => c σ H fun b H1 => if b = true then t D σ H1 else u D σ H1
theorem ps_if {c : Expr} {a b : List Stmt} {tc : TT} (hc : PT X c tc) (ha : PSs X a t) (hb : PSs X b u) : PS X (.If c a b pos) (tIfS tc t u) := by
  intro pins s σ H D I h
  refine wpAny_If (thn (hc pins s σ H _ I h) fun d s1 ⟨H1, I1, q1⟩ => ?_)
  cases d with
  | true => exact ha pins s1 σ H1 D I1 q1
  | false => exact hb pins s1 σ H1 D I1 q1
noncomputable def tNever : TS := fun _ _ _ => False
theorem pss_never {sts : List Stmt} : PSs X sts tNever := fun _ _ _ _ _ _ h => h.elim
end
noncomputable abbrev TG := V → St → Hp → (St → Hp → Prop) → Prop
noncomputable abbrev TGs := List V → St → Hp → (St → Hp → Prop) → Prop
noncomputable def PG (X : Cx) (target : Expr) (t : TG) : Prop :=
  ∀ (pins : List (Addr × Obj)) (s : Shared) (σ : St) (H : Hp) (v : V) (u : Value) (Q : St → Hp → Prop), Inv X pins σ H s → RelV v u → t v σ H Q →
    wpAny (model X.prog X.w) X.A (assign target X.env u) (fun _ s' => ∃ σ' H', Inv X pins σ' H' s' ∧ Q σ' H') X.xe s
section
variable {X : Cx} {pos : Pos}
noncomputable def gName (i : Nat) : TG := fun v σ H Q => Q (σ.set i (some v)) H
theorem pg_name {i : Nat} {x : Str} (hN : X.N.Nodup) (hi : X.N[i]? = some x) (hx : Loc X.env.scope x) (hf : X.fn x = true ∨ X.env.scope.names.lookup x = some .local := by first | exact .inl rfl | exact .inr rfl | assumption) : PG X (.Name x pos) (gName i) := by
  intro pins s σ H v u Q I r h
  exact wpAny_assign_Name (store_ok I hN hi hx r (fun s' I' => ⟨_, H, I', h⟩) hf)
noncomputable def gNil : TGs := fun vs σ H Q => vs = [] ∧ Q σ H
noncomputable def gCons (t : TG) (u : TGs) : TGs := fun vs σ H Q => ∃ v r, vs = v :: r ∧ t v σ H fun σ' H' => u r σ' H' Q
noncomputable def gTup (K : PySem.W.Frag) (n : Nat) (t : TGs) : TG := fun v σ H Q => ∃ a xs, v = .ref a ∧ SqT K H a xs ∧ xs.length = n ∧ t xs σ H Q
noncomputable def tAsg (te : TE) (g : TG) : TS := fun D σ H => te σ H fun x H1 => g x σ H1 D.nx
theorem ps_set {i : Nat} {x : Str} {e : Expr} {te : TE} {pos' : Pos} (hN : X.N.Nodup) (hi : X.N[i]? = some x) (hx : Loc X.env.scope x) (he : PE X e te) (hs : swapsWith e (some (.Name x pos')) pos.line X.env = pure false := by rfl) (hf : X.fn x = true ∨ X.env.scope.names.lookup x = some .local := by first | exact .inl rfl | exact .inr rfl | assumption) :
    PS X (.Assign [.Name x pos'] e pos) (tAsg te (gName i)) := by
  intro pins s σ H D I h
  refine wpAny_Assign_Name (thn (he pins s σ H _ I h) fun v s1 ⟨y, H1, I1, r1, q1⟩ => ?_) hs
  exact store_ok I1 hN hi hx r1 (fun s2 I2 => ⟨_, H1, I2, q1⟩) hf
end
structure It where
  go : Nat → Hp → Prop
  yld : Nat → Hp → V → Hp → Prop
  stop : Nat → Hp → Prop
noncomputable def FpOk (X : Cx) (pins : List (Addr × Obj)) (H : Hp) (b : Addr) : Prop :=
  H b = none ∧ b ≠ X.env.locals ∧ b ∉ X.fs ∧ (b ∈ X.ex ∨ X.s₀.heap.objs.size ≤ b) ∧ (∀ x c, X.env.cells.lookup x = some c → c ≠ b) ∧ ∀ p ∈ X.pn ++ pins, p.1 ≠ b
theorem Inv.fpOk {X : Cx} {pins : List (Addr × Obj)} {σ : St} {H H' : Hp} {s : Shared} {b : Addr} (I : Inv X pins σ H s) (hb : s.heap.objs.size ≤ b) (hn : H' b = none) : FpOk X pins H' b := by
  refine ⟨hn, Nat.ne_of_gt (Nat.lt_of_lt_of_le I.lt hb), I.nofs hb, .inr (Nat.le_trans I.sz hb), fun x c e z => ?_, fun p hp z => ?_⟩
  · obtain ⟨v, q⟩ := I.cell x c e
    exact absurd (Nat.lt_of_lt_of_le q.lt (by rw [z]; exact hb)) (Nat.lt_irrefl _)
  · exact absurd (Nat.lt_of_lt_of_le (Heap.lt_size (I.pin p hp).1) (by rw [z]; exact hb)) (Nat.lt_irrefl _)
structure Turn (P : Program) (w : World) (K : PySem.W.Frag) (tg : Expr) (J : It) (fp : List Addr) (it : Addr) (tn : Nat → Heap → Prop) : Prop where
  mem : it ∈ fp
  obj : ∀ i h, tn i h → ∀ b ∈ fp, ∃ o, h.get? b = some o ∧ ∀ v, o.data ≠ .cell v
  keep : ∀ i h h', tn i h → (∀ b ∈ fp, ∀ o, h.get? b = some o → h'.get? b = some o) → tn i h'
  item : ∀ (X : Cx), X.prog = P → X.w = w → X.K = K → X.calm = true → ∀ (i : Nat) (pins : List (Addr × Obj)) (s : Shared) (σ : St) (H : Hp) (E : Value → Shared → Prop), Inv X pins σ H s → (∀ b ∈ fp, FpOk X pins H b) → tn i s.heap → J.go i H →
    wpAny (model P w) X.A (pyNext (.ref it)) (fun r s1 => ∃ u, r = some u ∧
      wpAny (model P w) X.A (letOwnedTupleGo tg (.ref it) u) (fun _ s2 => ∃ x H', Inv X pins σ H' s2 ∧ RelV x u ∧ J.yld i H x H' ∧ tn (i + 1) s2.heap ∧ ∀ b ∈ fp, H' b = none) E s1) E s
  done : ∀ (X : Cx), X.prog = P → X.w = w → X.K = K → X.calm = true → ∀ (i : Nat) (pins : List (Addr × Obj)) (s : Shared) (σ : St) (H : Hp) (E : Value → Shared → Prop), Inv X pins σ H s → (∀ b ∈ fp, FpOk X pins H b) → tn i s.heap → J.stop i H →
    wpAny (model P w) X.A (pyNext (.ref it)) (fun r s1 => r = none ∧ Inv X pins σ H s1) E s
  self : ∀ (A : Around) (i : Nat) (s : Shared) (Q : Value → Shared → Prop) (E : Value → Shared → Prop), tn i s.heap → Q (.ref it) s → wpAny (model P w) A (pyIter (.ref it)) Q E s
noncomputable abbrev TI := St → Hp → (It → Hp → Prop) → Prop
noncomputable def PIE (X : Cx) (pins : List (Addr × Obj)) (σ : St) (tg : Expr) (R : It → Hp → Prop) (itv : Value) (s2 : Shared) : Prop :=
  ∃ (it : Addr) (fp : List Addr) (tn : Nat → Heap → Prop) (J : It) (H' : Hp), itv = .ref it ∧ Inv X pins σ H' s2 ∧ Turn X.prog X.w X.K tg J fp it tn ∧ tn 0 s2.heap ∧ (∀ b ∈ fp, FpOk X pins H' b) ∧ R J H'
noncomputable def PI (X : Cx) (tg iter : Expr) (wi : TI) : Prop :=
  ∀ (pins : List (Addr × Obj)) (s : Shared) (σ : St) (H : Hp) (R : It → Hp → Prop), Inv X pins σ H s → wi σ H R →
    wpAny (model X.prog X.w) X.A (eval iter X.env) (fun v s1 => wpAny (model X.prog X.w) X.A (pyIter v) (PIE X pins σ tg R) X.xe s1) X.xe s
theorem go_of {M : Model} {A : Around} {E : Value → Shared → Prop} {s : Shared} {tg : Expr} {it : Addr} {u : Value} {o : Obj} {n : String} {vs : Array Value} {Q : Unit → Shared → Prop} (ho : s.heap.get? it = some o) (hc : o.cls = .type n) (hd : o.data = .fields vs)
    (hn : ["enumerate", "zip", "dict_itemiterator", "dict_reverseitemiterator", "odict_iterator", "itertools.zip_longest", "itertools.pairwise"].contains n = false) (hQ : Q () s) : wpAny M A (letOwnedTupleGo tg (.ref it) u) Q E s := by
  unfold letOwnedTupleGo
  cases tg <;> first
    | exact wpAny_pure hQ
    | (cases u <;> first
        | exact wpAny_pure hQ
        | (refine wpAny_bind (wpAny_load ho ?_)
           rw [hc, hd]
           show wpAny M A (if (["enumerate", "zip", "dict_itemiterator", "dict_reverseitemiterator", "odict_iterator", "itertools.zip_longest", "itertools.pairwise"].contains n && vs[0]? == some (rawInt _)) = true then _ else _) Q E s
           rw [if_neg (by intro h; rw [hn, Bool.false_and] at h; cases h)]
           exact wpAny_pure hQ))
noncomputable def Itl (K : PySem.W.Frag) (a : Addr) : It :=
  ⟨fun i H => ∃ xs x, SqL K H a xs ∧ xs[i]? = some x, fun i H x H' => H' = H ∧ ∀ xs, SqL K H a xs → xs[i]? = some x, fun i H => ∃ xs, SqL K H a xs ∧ xs.length ≤ i⟩
noncomputable def Itt (K : PySem.W.Frag) (a : Addr) : It :=
  ⟨fun i H => ∃ xs x, SqT K H a xs ∧ xs[i]? = some x, fun i H x H' => H' = H ∧ ∀ xs, SqT K H a xs → xs[i]? = some x, fun i H => ∃ xs, SqT K H a xs ∧ xs.length ≤ i⟩
noncomputable def Itr (lo : Int) (n : Nat) : It := ⟨fun i _ => i < n, fun i H x H' => H' = H ∧ x = .int (lo + i), fun i _ => n ≤ i⟩
theorem turn_list {P : Program} {w : World} {K : PySem.W.Frag} {tg : Expr} (a it : Addr) : Turn P w K tg (Itl K a) [it] it (fun i h => h.IsListIter it a i) where
  mem := by simp
  obj := fun i h st b hb => by
    have e : b = it := by simpa using hb
    subst e
    obtain ⟨o, e, c, d⟩ := st
    exact ⟨o, e, fun v z => by rw [d] at z; cases z⟩
  keep := fun i h h' st k => st.at fun o e => k it (by simp) o e
  item := by
    intro X hP hw hK hc i pins s σ H E I hf st hg
    subst hP hw hK
    obtain ⟨xs, x, hq, hx⟩ := hg
    obtain ⟨its, rv, p, hz⟩ := I.list hq
    obtain ⟨u, hu, ru⟩ := rv.get hx
    obtain ⟨f0, f1, f2, f3, f4, f5⟩ := hf it (by simp)
    refine wpAny_pyNext_list_item st p.isList (x := u) (by simpa using hu) fun h' st' sb => ?_
    have I1 : Inv X pins σ H { s with heap := h' } := I.turned (t' := s.toks) (fun b o hb e => (sb.2 b hb).trans e) f0 f1 f3 f4 f5
    obtain ⟨o, e, c, d⟩ := id st'
    exact ⟨u, rfl, go_of (s := { s with heap := h' }) e c d (by decide) ⟨x, H, I1, ru, ⟨rfl, fun ys hy => by rw [I.list_inj hy hq]; exact hx⟩, st', fun b hb => (hf b hb).1⟩⟩
  done := by
    intro X hP hw hK hc i pins s σ H E I hf st hg
    subst hP hw hK
    obtain ⟨xs, hq, hx⟩ := hg
    obtain ⟨its, rv, p, hz⟩ := I.list hq
    obtain ⟨f0, f1, f2, f3, f4, f5⟩ := hf it (by simp)
    have hl := rv.length
    exact wpAny_pyNext_list_end (I.ok.hd hc) st p.isList (by simp; omega) fun h' eb => ⟨rfl, I.turned (t' := s.toks) (fun b o hb e => eb b o hb e) f0 f1 f3 f4 f5⟩
  self := fun _ _ _ _ _ st h => wpAny_pyIter_listiter st h
theorem turn_tuple {P : Program} {w : World} {K : PySem.W.Frag} {tg : Expr} (a it : Addr) : Turn P w K tg (Itt K a) [it] it (fun i h => h.IsTupleIter it a i) where
  mem := by simp
  obj := fun i h st b hb => by
    have e : b = it := by simpa using hb
    subst e
    obtain ⟨o, e, c, d⟩ := st
    exact ⟨o, e, fun v z => by rw [d] at z; cases z⟩
  keep := fun i h h' st k => st.at fun o e => k it (by simp) o e
  item := by
    intro X hP hw hK hc i pins s σ H E I hf st hg
    subst hP hw hK
    obtain ⟨xs, x, hq, hx⟩ := hg
    obtain ⟨its, rv, p, hz⟩ := I.tuple hq
    obtain ⟨u, hu, ru⟩ := rv.get hx
    obtain ⟨f0, f1, f2, f3, f4, f5⟩ := hf it (by simp)
    refine wpAny_pyNext_tuple_item st (show s.heap.IsTuple a its.toArray from p) (x := u) (by simpa using hu) fun h' st' sb => ?_
    have I1 : Inv X pins σ H { s with heap := h' } := I.turned (t' := s.toks) (fun b o hb e => (sb.2 b hb).trans e) f0 f1 f3 f4 f5
    obtain ⟨o, e, c, d⟩ := id st'
    exact ⟨u, rfl, go_of (s := { s with heap := h' }) e c d (by decide) ⟨x, H, I1, ru, ⟨rfl, fun ys hy => by rw [I.tuple_inj hy hq]; exact hx⟩, st', fun b hb => (hf b hb).1⟩⟩
  done := by
    intro X hP hw hK hc i pins s σ H E I hf st hg
    subst hP hw hK
    obtain ⟨xs, hq, hx⟩ := hg
    obtain ⟨its, rv, p, hz⟩ := I.tuple hq
    obtain ⟨f0, f1, f2, f3, f4, f5⟩ := hf it (by simp)
    have hl := rv.length
    exact wpAny_pyNext_tuple_end (I.ok.hd hc) st (show s.heap.IsTuple a its.toArray from p) (by simp; omega) fun h' eb => ⟨rfl, I.turned (t' := s.toks) (fun b o hb e => eb b o hb e) f0 f1 f3 f4 f5⟩
  self := fun _ _ _ _ _ st h => wpAny_pyIter_tupleiter st h
theorem turn_range {P : Program} {w : World} {K : PySem.W.Frag} {tg : Expr} (it : Addr) (lo : Int) (n : Nat) : Turn P w K tg (Itr lo n) [it] it (fun i h => IsRangeIter h it (lo + (i : Nat) * 1) ((n : Int) - (i : Nat)) 1) where
  mem := by simp
  obj := fun i h st b hb => by
    have e : b = it := by simpa using hb
    subst e
    exact ⟨_, st, fun v z => by
      have z' : Data.fields _ = Data.cell v := z
      cases z'⟩
  keep := fun i h h' st k => k it (by simp) _ st
  item := by
    intro X hP hw hK hc i pins s σ H E I hf st hg
    subst hP hw hK
    obtain ⟨f0, f1, f2, f3, f4, f5⟩ := hf it (by simp)
    have W := Walks.range (prog := X.prog) (w := X.w) (I.ok.hd hc) it lo 1 n
    refine W.item i s _ _ hg st fun v h' tk hv st' kk => ?_
    obtain ⟨t, rfl⟩ := hv
    have I1 : Inv X pins σ H { s with heap := h', toks := tk } := I.turned (fun b o hb e => kk b o (by simpa using hb) e) f0 f1 f3 f4 f5
    refine ⟨_, rfl, go_of (s := { s with heap := h', toks := tk }) (n := "range_iterator") st' rfl rfl (by decide) ⟨.int (lo + i), H, I1, ⟨t, ?_⟩, ⟨rfl, rfl⟩, st', fun b hb => (hf b hb).1⟩⟩
    rw [Int.mul_one]
  done := by
    intro X hP hw hK hc i pins s σ H E I hf st hg
    subst hP hw hK
    obtain ⟨f0, f1, f2, f3, f4, f5⟩ := hf it (by simp)
    exact wpAny_pyNext_range_end (I.ok.hd hc) st (by have : n ≤ i := hg; omega) fun h' eb => ⟨rfl, I.turned (t' := s.toks) (fun b o hb e => eb b o hb e) f0 f1 f3 f4 f5⟩
  self := fun _ _ _ _ _ st h => wpAny_pyIter_rangeiter st h
end L2
namespace L2
open PySem PySem.Spec PyProof.Rows
section
variable {X : Cx} {tg : Expr}
theorem range_it {pins : List (Addr × Obj)} {σ : St} {H : Hp} {s : Shared} {R : It → Hp → Prop} {E : Value → Shared → Prop} {lo hi : Int} {t u v : Tok} {tk : Nat} (I : Inv X pins σ H s) (h1 : -(2 ^ 62) ≤ lo) (h2 : lo < 2 ^ 62) (h3 : -(2 ^ 62) ≤ hi) (h4 : hi < 2 ^ 62)
    (q : R (Itr lo (hi - lo).toNat) H) : wpAny (model X.prog X.w) X.A (pyIter (.ref s.heap.objs.size)) (PIE X pins σ tg R) E { s with heap := s.heap.push { cls := .type "range", data := .fields #[.int lo t, .int hi u, .int 1 v] }, toks := tk } := by
  refine wpAny_pyIter_range (IsRange.new ..) (small_one h1 h2 h3 h4) ?_
  have I1 : Inv X pins σ H { s with heap := s.heap.push { cls := .type "range", data := .fields #[.int lo t, .int hi u, .int 1 v] }, toks := tk } := I.kept fun b o e => Heap.get?_push_of_some _ e
  refine ⟨(s.heap.push { cls := .type "range", data := .fields #[.int lo t, .int hi u, .int 1 v] }).objs.size, [(s.heap.push { cls := .type "range", data := .fields #[.int lo t, .int hi u, .int 1 v] }).objs.size], _, _, H, rfl,
    I1.kept (t' := tk) fun b o e => Heap.get?_push_of_some _ e, turn_range _ lo (hi - lo).toNat, ?_, fun b hb => ?_, q⟩
  · have e1 : lo + ((0 : Nat) : Int) * 1 = lo := by simp
    have e2 : (((hi - lo).toNat : Nat) : Int) - ((0 : Nat) : Int) = Builtin.Range.rangeSize lo hi 1 := by rw [rangeSize_one]; split <;> omega
    show IsRangeIter _ _ (lo + ((0 : Nat) : Int) * 1) ((((hi - lo).toNat : Nat) : Int) - ((0 : Nat) : Int)) 1
    rw [e1, e2]
    exact Heap.get?_push_size _ rfl
  · have e : b = (s.heap.push { cls := .type "range", data := .fields #[.int lo t, .int hi u, .int 1 v] }).objs.size := by simpa using hb
    subst e
    exact I1.fpOk (Nat.le_refl _) (I1.hok.fresh (Nat.le_refl _))
noncomputable def iRng1 (ta : TA) : TI := fun σ H R => ta σ H fun vs H1 => ∃ j : Int, vs = [.int j] ∧ -(2 ^ 62) ≤ j ∧ j < 2 ^ 62 ∧ R (Itr 0 j.toNat) H1
theorem pi_range1 {a : Expr} {ta : TA} {p pos : Pos} (hg : Gl X "range") (hm : X.mg "range" = none) (ha : PA X [a] ta) (hs : starEach [a] X.env = [(false, eval a X.env)] := by rfl) : PI X tg (.Call (.Name "range" p) [a] [] pos) (iRng1 ta) := by
  intro pins s σ H R I h
  refine Call_ (ld_blt I hg hm boot_range (PyProof.Rows.callWith_type1 (thn (ha pos pins s σ H _ I h) fun us s1 ⟨vs, H1, I1, r1, q1⟩ => ?_) hs rfl))
  obtain ⟨j, e, q1, q2, q⟩ := q1
  subst e
  cases r1 with
  | cons r rr =>
    cases rr
    obtain ⟨t, rfl⟩ := r
    exact call_range_1 (range_it I1 (by omega) (by omega) q1 q2 (by simpa using q))
noncomputable def tFor (wi : TI) (g : TG) (tb : TS) : TS := fun D σ H => wi σ H fun J H1 => ∃ W : Nat → Nat → St → Hp → Prop, (∃ m, W 0 m σ H1) ∧ ∀ i m σ H, W i m σ H →
  (J.stop i H ∧ D.nx σ H) ∨ (J.go i H ∧ ∃ N : St → Hp → Prop, (∀ σ' H', N σ' H' → ∃ m', m' < m ∧ W (i + 1) m' σ' H') ∧ ∀ x H', J.yld i H x H' → g x σ H' fun σ2 H2 => tb { D with nx := N, ct := N, bk := D.nx } σ2 H2)
noncomputable def pinsAt (fp : List Addr) (h : Heap) : List (Addr × Obj) := fp.filterMap fun b => (h.get? b).map fun o => (b, o)
theorem mem_pinsAt {fp : List Addr} {h : Heap} {b : Addr} {o : Obj} (hb : b ∈ fp) (e : h.get? b = some o) : (b, o) ∈ pinsAt fp h := List.mem_filterMap.mpr ⟨b, hb, by rw [e]; rfl⟩
theorem of_pinsAt {fp : List Addr} {h : Heap} {p : Addr × Obj} (hp : p ∈ pinsAt fp h) : p.1 ∈ fp ∧ h.get? p.1 = some p.2 := by
  obtain ⟨b, hb, e⟩ := List.mem_filterMap.mp hp
  cases q : h.get? b with
  | none => rw [q] at e; cases e
  | some o =>
    rw [q] at e
    have e' : (b, o) = p := Option.some.inj e
    subst e'
    exact ⟨hb, q⟩
theorem Inv.pinned {pins : List (Addr × Obj)} {σ : St} {H : Hp} {s : Shared} {fp : List Addr} (I : Inv X pins σ H s) (hf : ∀ b ∈ fp, FpOk X pins H b) (ho : ∀ b ∈ fp, ∃ o, s.heap.get? b = some o ∧ ∀ v, o.data ≠ .cell v) : Inv X (pins ++ pinsAt fp s.heap) σ H s :=
  I.pins_of fun p hp => (List.mem_append.mp hp).elim (fun z => I.pin p (List.mem_append_right _ z)) fun z => by
    obtain ⟨hb, e⟩ := of_pinsAt z
    obtain ⟨f0, f1, f2, _⟩ := hf p.1 hb
    obtain ⟨o, e', d⟩ := ho p.1 hb
    rw [e] at e'; cases e'
    exact ⟨e, f0, f1, f2, d⟩
theorem Inv.unpinned {pins pl : List (Addr × Obj)} {σ : St} {H : Hp} {s : Shared} (I : Inv X (pins ++ pl) σ H s) : Inv X pins σ H s := I.pins_of fun p hp => I.pin p (List.mem_append_right _ (List.mem_append_left _ hp))
theorem ps_for {iter : Expr} {body : List Stmt} {wi : TI} {g : TG} {tb : TS} {pos : Pos} (hp : PassesOwn (model X.prog X.w) X.A X.env X.xe) (hc : X.calm = true) (hi : PI X tg iter wi) (hg : PG X tg g) (hb : PSs X body tb)
    (hs : ∀ x, foldedSetIterable iter X.env x = pure x := by intro _; rfl) : PS X (.For tg iter body [] pos) (tFor wi g tb) := by
  intro pins s σ H D I h
  refine wpAny_For (thn (hi pins s σ H _ I h) fun v s1 h1 => thn h1 fun itv s2 h2 => ?_) hs
  obtain ⟨it, fp, tn, J, H2, e, I2, T, st2, f2, W, ⟨m0, w0⟩, turn⟩ := h2
  subst e
  have stat : ∀ {H' : Hp}, (∀ b ∈ fp, H' b = none) → ∀ b ∈ fp, FpOk X pins H' b := fun hn b hb => ⟨hn b hb, (f2 b hb).2⟩
  refine codeAny_forLoop_any (fun n s' => ∃ i σ' H', Inv X pins σ' H' s' ∧ tn i s'.heap ∧ (∀ b ∈ fp, H' b = none) ∧ W i n σ' H') ?_ m0 ⟨0, σ, H2, I2, st2, fun b hb => (f2 b hb).1, w0⟩
  rintro n s3 ⟨i, σ3, H3, I3, st3, fr3, w3⟩
  rcases turn i n σ3 H3 w3 with ⟨stop, qn⟩ | ⟨go, N, hN, step⟩
  · refine wpAny_passesOwn hp (thn (T.done X rfl rfl rfl hc i pins s3 σ3 H3 X.xe I3 (stat fr3) st3 stop) fun r s4 ⟨hr, I4⟩ => ?_)
    subst hr
    exact wpAny_execs_nil ⟨σ3, H3, I4, qn⟩
  · refine wpAny_passesOwn hp (thn (T.item X rfl rfl rfl hc i pins s3 σ3 H3 X.xe I3 (stat fr3) st3 go) fun r s4 ⟨u, hr, h4⟩ => ?_)
    subst hr
    refine wpAny_passesOwn hp (thn h4 fun _ s5 ⟨x, H5, I5, r5, y5, st5, fr5⟩ => ?_)
    have I5' := I5.pinned (stat fr5) (T.obj _ _ st5)
    refine wpAny_passesOwn hp (thn (hg _ s5 σ3 H5 x u _ I5' r5 (step x H5 y5)) fun _ s6 ⟨σ6, H6, I6, q6⟩ => ?_)
    refine wpAny_passesOwn hp (thn (hb _ s6 σ6 H6 _ I6 q6) fun f s7 q7 => ?_)
    have again : ∀ {σ7 : St} {H7 : Hp}, Inv X (pins ++ pinsAt fp s5.heap) σ7 H7 s7 → N σ7 H7 → ∃ m, m < n ∧ ∃ i σ' H', Inv X pins σ' H' s7 ∧ tn i s7.heap ∧ (∀ b ∈ fp, H' b = none) ∧ W i m σ' H' := fun {σ7 H7} I7 n7 => by
      obtain ⟨m', hm, w7⟩ := hN σ7 H7 n7
      refine ⟨m', hm, i + 1, σ7, H7, I7.unpinned, T.keep _ _ _ st5 fun b hb o e => (I7.pin (b, o) (List.mem_append_right _ (List.mem_append_right _ (mem_pinsAt hb e)))).1, fun b hb => ?_, w7⟩
      obtain ⟨o, e, d⟩ := T.obj _ _ st5 b hb
      exact (I7.pin (b, o) (List.mem_append_right _ (List.mem_append_right _ (mem_pinsAt hb e)))).2.1
    cases f with
    | next => obtain ⟨σ7, H7, I7, n7⟩ := q7; exact again I7 n7
    | cont => obtain ⟨σ7, H7, I7, n7⟩ := q7; exact again I7 n7
    | brk => obtain ⟨σ7, H7, I7, q7⟩ := q7; exact ⟨σ7, H7, I7.unpinned, q7⟩
    | ret v => obtain ⟨x7, σ7, H7, I7, r7, q7⟩ := q7; exact ⟨x7, σ7, H7, I7.unpinned, r7, q7⟩
end
end L2
namespace L2
open PySem PySem.Spec PyProof.Rows
noncomputable abbrev R2 := V → V → Hp → VK → Prop
noncomputable def OpR (X : Cx) (f : Value → Value → Sem Value) (r : R2) : Prop :=
  ∀ (pins : List (Addr × Obj)) (s : Shared) (σ : St) (H : Hp) (x y : V) (v u : Value) (Q : VK), Inv X pins σ H s → RelV x v → RelV y u → r x y H Q →
    wpAny (model X.prog X.w) X.A (f v u) (EP X pins σ Q) X.xe s
noncomputable def UnR (X : Cx) (f : Value → Sem Value) (r : V → Hp → VK → Prop) : Prop :=
  ∀ (pins : List (Addr × Obj)) (s : Shared) (σ : St) (H : Hp) (x : V) (v : Value) (Q : VK), Inv X pins σ H s → RelV x v → r x H Q →
    wpAny (model X.prog X.w) X.A (f v) (EP X pins σ Q) X.xe s
noncomputable def CallR (X : Cx) (f : Value) (r : List V → Hp → VK → Prop) : Prop :=
  ∀ (pins : List (Addr × Obj)) (s : Shared) (σ : St) (H : Hp) (xs : List V) (us : List Value) (Q : VK), Inv X pins σ H s → Vals xs us → r xs H Q →
    wpAny (model X.prog X.w) X.A (call f us) (EP X pins σ Q) X.xe s
noncomputable def TruR (X : Cx) (r : V → Hp → (Bool → Hp → Prop) → Prop) : Prop :=
  ∀ (pins : List (Addr × Obj)) (s : Shared) (σ : St) (H : Hp) (x : V) (v : Value) (Q : Bool → Hp → Prop), Inv X pins σ H s → RelV x v → r x H Q →
    wpAny (model X.prog X.w) X.A (truthy v) (TP X pins σ Q) X.xe s
noncomputable def tOp (r : R2) (ta tb : TE) : TE := fun σ H Q => ta σ H fun x H1 => tb σ H1 fun y H2 => r x y H2 Q
noncomputable def tUn (r : V → Hp → VK → Prop) (ta : TE) : TE := fun σ H Q => ta σ H fun x H1 => r x H1 Q
noncomputable def rI (C : Int → Int → Prop) (g : Int → Int → V) : R2 := fun x y H Q => ∃ i j, x = .int i ∧ y = .int j ∧ C i j ∧ Q (g i j) H
noncomputable def rI0 (g : Int → Int → V) : R2 := fun x y H Q => ∃ i j, x = .int i ∧ y = .int j ∧ Q (g i j) H
noncomputable def rU (g : Int → V) : V → Hp → VK → Prop := fun x H Q => ∃ i, x = .int i ∧ Q (g i) H
section
variable {X : Cx} {a b c : Expr} {ta tb tc : TE} {pos : Pos}
theorem binT (ha : PE X a ta) (hb : PE X b tb) {pins : List (Addr × Obj)} {s : Shared} {σ : St} {H : Hp} {R : V → V → Hp → Prop} (I : Inv X pins σ H s)
    (h : ta σ H fun x H1 => tb σ H1 fun y H2 => R x y H2) {Q : Value → Shared → Prop} {f : Value → Value → Sem Value}
    (hf : ∀ v u s2 x y H2, Inv X pins σ H2 s2 → RelV x v → RelV y u → R x y H2 → wpAny (model X.prog X.w) X.A (f v u) Q X.xe s2) :
    wpAny (model X.prog X.w) X.A (eval a X.env) (fun v s₁ => wpAny (model X.prog X.w) X.A (eval b X.env) (fun u s₂ => wpAny (model X.prog X.w) X.A (f v u) Q X.xe s₂) X.xe s₁) X.xe s := by
  refine thn (ha pins s σ H _ I h) fun v s1 ⟨x, H1, I1, r1, q1⟩ => ?_
  refine thn (hb pins s1 σ H1 _ I1 q1) fun u s2 ⟨y, H2, I2, r2, q2⟩ => ?_
  exact hf v u s2 x y H2 I2 r1 r2 q2
theorem pe_op {op : Operator} {r : R2} (ho : OpR X (binaryOp op) r) (ha : PE X a ta) (hb : PE X b tb) : PE X (.BinOp a op b pos) (tOp r ta tb) := by
  intro pins s σ H Q I h
  exact wpAny_BinOp (binT ha hb I h fun v u s2 x y H2 I2 rx ry q => ho pins s2 σ H2 x y v u Q I2 rx ry q)
theorem pe_un {op : UnaryOp} {r : V → Hp → VK → Prop} (ho : UnR X (unaryOp op) r) (ha : PE X a ta) : PE X (.UnaryOp op a pos) (tUn r ta) := by
  intro pins s σ H Q I h
  exact UnaryOp_ (thn (ha pins s σ H _ I h) fun v s1 ⟨x, H1, I1, r1, q1⟩ => ho pins s1 σ H1 x v Q I1 r1 q1)
theorem opI {f : Value → Value → Sem Value} {C : Int → Int → Prop} {g : Int → Int → Int}
    (rule : ∀ (i j : Int) (t u : Tok) (s : Shared) (Q : Value → Shared → Prop) (E : Value → Shared → Prop), C i j → Q (.int (g i j) s.toks) { s with toks := s.toks + 1 } → wpAny (model X.prog X.w) X.A (f (.int i t) (.int j u)) Q E s) :
    OpR X f (rI C fun i j => .int (g i j)) := by
  intro pins s σ H x y v u Q I rx ry h
  obtain ⟨i, j, rfl, rfl, hc, q⟩ := h
  obtain ⟨t, rfl⟩ := rx
  obtain ⟨t', rfl⟩ := ry
  exact rule i j t t' s _ _ hc ⟨.int (g i j), H, I.tok _, ⟨_, rfl⟩, q⟩
theorem opI0 {f : Value → Value → Sem Value} {g : Int → Int → Int}
    (rule : ∀ (i j : Int) (t u : Tok) (s : Shared) (Q : Value → Shared → Prop) (E : Value → Shared → Prop), Q (.int (g i j) s.toks) { s with toks := s.toks + 1 } → wpAny (model X.prog X.w) X.A (f (.int i t) (.int j u)) Q E s) :
    OpR X f (rI0 fun i j => .int (g i j)) := by
  intro pins s σ H x y v u Q I rx ry h
  obtain ⟨i, j, rfl, rfl, q⟩ := h
  obtain ⟨t, rfl⟩ := rx
  obtain ⟨t', rfl⟩ := ry
  exact rule i j t t' s _ _ ⟨.int (g i j), H, I.tok _, ⟨_, rfl⟩, q⟩
theorem opB0 {f : Value → Value → Sem Value} {g : Int → Int → Bool}
    (rule : ∀ (i j : Int) (t u : Tok) (s : Shared) (Q : Value → Shared → Prop) (E : Value → Shared → Prop), Q (.bool (g i j)) s → wpAny (model X.prog X.w) X.A (f (.int i t) (.int j u)) Q E s) :
    OpR X f (rI0 fun i j => .bl (g i j)) := by
  intro pins s σ H x y v u Q I rx ry h
  obtain ⟨i, j, rfl, rfl, q⟩ := h
  obtain ⟨t, rfl⟩ := rx
  obtain ⟨t', rfl⟩ := ry
  exact rule i j t t' s _ _ ⟨.bl (g i j), H, I, rfl, q⟩
noncomputable def CPow (i j : Int) : Prop := 0 ≤ j ∧ j ≤ 1000000 ∧ i.natAbs < 2 ^ 64
noncomputable def CMul (i j : Int) : Prop := (-(2 ^ 64) < i ∧ i < 2 ^ 64) ∨ (-(2 ^ 64) < j ∧ j < 2 ^ 64)
theorem CMul.ok {i j : Int} (h : CMul i j) : IntMulOk i j := by
  rcases h with ⟨h1, h2⟩ | ⟨h1, h2⟩
  · exact .of_left (intBits_le_64 h1 h2)
  · exact .of_right (intBits_le_64 h1 h2)
theorem op_add : OpR X (binaryOp .Add) (rI0 fun i j => .int (i + j)) := opI0 fun _ _ _ _ _ _ _ q => add_int q
theorem op_sub : OpR X (binaryOp .Sub) (rI0 fun i j => .int (i - j)) := opI0 fun _ _ _ _ _ _ _ q => sub_int q
theorem op_mul : OpR X (binaryOp .Mult) (rI CMul fun i j => .int (i * j)) := opI fun _ _ _ _ _ _ _ hc q => mul_int q hc.ok
theorem op_mod : OpR X (binaryOp .Mod) (rI (fun _ j => 0 < j) fun i j => .int (i % j)) := opI fun i j _ _ _ _ _ hc q => by
  have h1 : (0 : Int) < j := hc
  exact mod_int' (by omega) (by rw [Int.fmod_eq_emod_of_nonneg i (by omega)]; exact q)
theorem op_pow : OpR X (binaryOp .Pow) (rI CPow fun i j => .int (i ^ j.toNat)) := opI fun _ _ _ _ _ _ _ hc q => pow_int_small hc.1 hc.2.1 hc.2.2 q
theorem unI {f : Value → Sem Value} {g : Int → Int}
    (rule : ∀ (i : Int) (t : Tok) (s : Shared) (Q : Value → Shared → Prop) (E : Value → Shared → Prop), Q (.int (g i) s.toks) { s with toks := s.toks + 1 } → wpAny (model X.prog X.w) X.A (f (.int i t)) Q E s) :
    UnR X f (rU fun i => .int (g i)) := by
  intro pins s σ H x v Q I rx h
  obtain ⟨i, rfl, q⟩ := h
  obtain ⟨t, rfl⟩ := rx
  exact rule i t s _ _ ⟨.int (g i), H, I.tok _, ⟨_, rfl⟩, q⟩
theorem un_neg : UnR X (unaryOp .USub) (rU fun i => .int (-i)) := unI fun _ _ _ _ _ q => neg_int q
end
noncomputable def scal : V → V → Bool
  | .non, .non => true | .non, .int _ => true | .int _, .non => true | .non, .bl _ => true | .bl _, .non => true | .non, .str _ => true | .str _, .non => true
  | .int _, .int _ => true | .bl _, .bl _ => true | .str _, .str _ => true | .byt _, .byt _ => true
  | .int _, .str _ => true | .str _, .int _ => true | .bl _, .str _ => true | .str _, .bl _ => true
  | _, _ => false
noncomputable def rNe : R2 := fun x y H Q => scal x y = true ∧ Q (.bl (!decide (x = y))) H
theorem dec_int {i j : Int} : decide (V.int i = V.int j) = (i == j) := by
  rw [Bool.eq_iff_iff]
  simp
theorem dec_bl {i j : Bool} : decide (V.bl i = V.bl j) = (i == j) := by
  rw [Bool.eq_iff_iff]
  simp
theorem dec_str {i j : Str} : decide (V.str i = V.str j) = (i == j) := by
  rw [Bool.eq_iff_iff]
  simp
theorem dec_byt {i j : Array UInt8} : decide (V.byt i = V.byt j) = (i.toList == j.toList) := by
  rw [Bool.eq_iff_iff]
  cases i
  cases j
  simp
section
variable {X : Cx} {a b c : Expr} {ta tb tc : TE} {pos : Pos}
theorem fin_bl {pins : List (Addr × Obj)} {σ : St} {H : Hp} {s : Shared} {Q : VK} {k k' : Bool} (I : Inv X pins σ H s) (q : Q (.bl k) H) (e : k = k') : EP X pins σ Q (.bool k') s := by
  subst e
  exact ⟨.bl k, H, I, rfl, q⟩
theorem op_ne : OpR X (compareOp .NotEq) rNe := by
  intro pins s σ H x y v u Q I rx ry h
  obtain ⟨hs, q⟩ := h
  cases x with
  | non =>
    cases rx
    cases y with
    | non => cases ry; exact PySem.EqNone.ne_none_none (fin_bl I q (by simp))
    | bl j => cases ry; exact PySem.EqNone.ne_none_bool (fin_bl I q (by simp))
    | int j => obtain ⟨t', rfl⟩ := ry; exact PySem.EqNone.ne_none_int (fin_bl I q (by simp))
    | str j => obtain ⟨t', rfl⟩ := ry; exact PySem.EqNone.ne_none_str (fin_bl I q (by simp))
    | _ => exact absurd (show false = true from hs) Bool.false_ne_true
  | bl i =>
    cases rx
    cases y with
    | non => cases ry; exact PySem.EqNone.ne_bool_none (fin_bl I q (by simp))
    | bl j => cases ry; exact ne_bool (fin_bl I q (congrArg not dec_bl))
    | str j => obtain ⟨t', rfl⟩ := ry; exact PySem.EqMixed.ne_bool_str (fin_bl I q (by simp))
    | _ => exact absurd (show false = true from hs) Bool.false_ne_true
  | int i =>
    obtain ⟨t, rfl⟩ := rx
    cases y with
    | non => cases ry; exact PySem.EqNone.ne_int_none (fin_bl I q (by simp))
    | int j => obtain ⟨t', rfl⟩ := ry; exact ne_int (fin_bl I q (congrArg not dec_int))
    | str j => obtain ⟨t', rfl⟩ := ry; exact PySem.EqMixed.ne_int_str (fin_bl I q (by simp))
    | _ => exact absurd (show false = true from hs) Bool.false_ne_true
  | str i =>
    obtain ⟨t, rfl⟩ := rx
    cases y with
    | non => cases ry; exact PySem.EqNone.ne_str_none (fin_bl I q (by simp))
    | bl j => cases ry; exact PySem.EqMixed.ne_str_bool (fin_bl I q (by simp))
    | int j => obtain ⟨t', rfl⟩ := ry; exact PySem.EqMixed.ne_str_int (fin_bl I q (by simp))
    | str j => obtain ⟨t', rfl⟩ := ry; exact ne_str (fin_bl I q (congrArg not dec_str))
    | _ => exact absurd (show false = true from hs) Bool.false_ne_true
  | byt i =>
    obtain ⟨t, rfl⟩ := rx
    cases y with
    | byt j => obtain ⟨t', rfl⟩ := ry; exact PySem.W.ne_bytes (fin_bl I q (congrArg not dec_byt))
    | _ => exact absurd (show false = true from hs) Bool.false_ne_true
  | _ => cases y <;> exact absurd (show false = true from hs) Bool.false_ne_true
theorem op_lt : OpR X (compareOp .Lt) (rI0 fun i j => .bl (decide (i < j))) := opB0 fun _ _ _ _ _ _ _ q => lt_int q
theorem op_le : OpR X (compareOp .LtE) (rI0 fun i j => .bl (decide (i ≤ j))) := opB0 fun _ _ _ _ _ _ _ q => le_int q
theorem op_gt : OpR X (compareOp .Gt) (rI0 fun i j => .bl (decide (j < i))) := opB0 fun _ _ _ _ _ _ _ q => gt_int q
noncomputable def isObj : HO → Bool
  | .lst _ => true
  | .ins _ _ _ => true
  | _ => false
theorem OpR.or {f : Value → Value → Sem Value} {r r' : R2} (h : OpR X f r) (h' : OpR X f r') : OpR X f (fun x y H Q => r x y H Q ∨ r' x y H Q) := by
  intro pins s σ H x y v u Q I rx ry q
  rcases q with q | q
  · exact h pins s σ H x y v u Q I rx ry q
  · exact h' pins s σ H x y v u Q I rx ry q
theorem nomark (b : Expr) {op : CmpOp} (h : op ≠ .In := by decide) (h2 : op ≠ .NotIn := by decide) : behindInMarks op b = false := by
  have e1 : (op == CmpOp.In) = false := by cases op <;> first | rfl | exact absurd rfl h
  have e2 : (op == CmpOp.NotIn) = false := by cases op <;> first | rfl | exact absurd rfl h2
  cases b <;> simp [behindInMarks, e1, e2]
theorem pe_cmpR {op : CmpOp} {r : R2} (ho : OpR X (compareOp op) r) (ha : PE X a ta) (hb : PE X b tb) (hm : behindInMarks op b = false) : PE X (.Compare a [op] [b] pos) (tOp r ta tb) := by
  intro pins s σ H Q I h
  exact wpAny_Compare1 (binT ha hb I h fun v u s2 x y H2 I2 rx ry q => ho pins s2 σ H2 x y v u Q I2 rx ry q) hm
noncomputable def tTest (t : TE) : TT := fun σ H Q => t σ H fun x H' => ∃ k, x = .bl k ∧ Q k H'
theorem pt_cmpR {op : CmpOp} {r : R2} (ho : OpR X (compareOp op) r) (ha : PE X a ta) (hb : PE X b tb) (hm : behindInMarks op b = false) : PT X (.Compare a [op] [b] pos) (tTest (tOp r ta tb)) := by
  intro pins s σ H Q I h
  refine wpAny_isTrue_Compare1 (thn (ha pins s σ H _ I h) fun v s1 ⟨x, H1, I1, r1, q1⟩ => thn (hb pins s1 σ H1 _ I1 q1) fun u s2 ⟨y, H2, I2, r2, q2⟩ =>
    thn (ho pins s2 σ H2 x y v u _ I2 r1 r2 q2) fun c s3 ⟨z, H3, I3, r3, k, e, q3⟩ => ?_) hm
  subst e
  cases r3
  exact wpAny_truthy_bool ⟨H3, I3, q3⟩
noncomputable def tChain (r r' : R2) (ta tb tc : TE) : TE := fun σ H Q => ta σ H fun x H1 => tb σ H1 fun y H2 => r x y H2 fun z H3 => ∃ k, z = .bl k ∧
  (if k = true then tc σ H3 fun w' H4 => r' y w' H4 Q else Q (.bl false) H3)
theorem pe_chain {op op' : CmpOp} {r r' : R2} (ho : OpR X (compareOp op) r) (ho' : OpR X (compareOp op') r') (ha : PE X a ta) (hb : PE X b tb) (hc : PE X c tc)
    (hm : lastMarks [op, op'] [b, c] = false := by with_unfolding_all rfl) : PE X (.Compare a [op, op'] [b, c] pos) (tChain r r' ta tb tc) := by
  intro pins s σ H Q I h
  refine Compare_chain (thn (ha pins s σ H _ I h) fun v s1 ⟨x, H1, I1, r1, q1⟩ => chain_link (thn (hb pins s1 σ H1 _ I1 q1) fun u s2 ⟨y, H2, I2, r2, q2⟩ =>
    thn (ho pins s2 σ H2 x y v u _ I2 r1 r2 q2) fun d s3 ⟨z, H3, I3, r3, k, e, q3⟩ => ?_)) hm
  subst e
  cases r3
  refine wpAny_truthy_bool ?_
  cases k with
  | false => exact ite_ff ⟨.bl false, H3, I3, rfl, q3⟩
  | true => exact ite_tt (chain_last (thn (hc pins s3 σ H3 _ I3 q3) fun w' s4 ⟨z', H4, I4, r4, q4⟩ => ho' pins s4 σ H4 y z' u w' Q I4 r2 r4 q4))
theorem pt_chain {op op' : CmpOp} {r r' : R2} (ho : OpR X (compareOp op) r) (ho' : OpR X (compareOp op') r') (ha : PE X a ta) (hb : PE X b tb) (hc : PE X c tc)
    (hm : lastMarks [op, op'] [b, c] = false := by with_unfolding_all rfl) : PT X (.Compare a [op, op'] [b, c] pos) (tTest (tChain r r' ta tb tc)) := by
  intro pins s σ H Q I h
  refine isTrue_chain (thn (ha pins s σ H _ I h) fun v s1 ⟨x, H1, I1, r1, q1⟩ => test_link (thn (hb pins s1 σ H1 _ I1 q1) fun u s2 ⟨y, H2, I2, r2, q2⟩ =>
    thn (ho pins s2 σ H2 x y v u _ I2 r1 r2 q2) fun d s3 ⟨z, H3, I3, r3, k, e, q3⟩ => ?_)) hm
  subst e
  cases r3
  refine wpAny_truthy_bool ?_
  cases k with
  | false =>
    obtain ⟨k', e', q'⟩ := q3
    cases e'
    exact ite_ff ⟨H3, I3, q'⟩
  | true =>
    refine ite_tt (test_last (thn (hc pins s3 σ H3 _ I3 q3) fun w' s4 ⟨z', H4, I4, r4, q4⟩ => thn (ho' pins s4 σ H4 y z' u w' _ I4 r2 r4 q4) fun d' s5 ⟨z2, H5, I5, r5, k2, e2, q5⟩ => ?_))
    subst e2
    cases r5
    exact wpAny_truthy_bool ⟨H5, I5, q5⟩
noncomputable def TruV (K : PySem.W.Frag) (x : V) (H : Hp) (k : Bool) : Prop :=
  match x with
  | .non => k = false
  | .bl b => k = b
  | .int i => k = (i != 0)
  | .str y => y.length ≤ sizeLine ∧ k = ((y.length : Int) != 0)
  | .byt y => y.size ≤ sizeLine ∧ k = ((y.size : Int) != 0)
  | .ref p => (∃ xs, SqL K H p xs ∧ k = !xs.isEmpty) ∨ (∃ xs, SqT K H p xs ∧ k = !xs.isEmpty) ∨ ∃ kvs, H p = some (.dK kvs) ∧ k = !kvs.isEmpty
  | _ => False
theorem isEmpty_kv {κ : Type} {kvs : List (κ × V)} {vs : List (κ × Value)} (r : KV kvs vs) : (!vs.isEmpty) = !kvs.isEmpty := by
  cases r <;> rfl
theorem isEmpty_of {xs : List V} {its : List Value} (r : Vals xs its) : (!its.toArray.isEmpty) = !xs.isEmpty := by
  cases r <;> simp
theorem line63 : (sizeLine : Nat) < 2 ^ 63 := by rw [sizeLine_eq]; decide
theorem tru_ok : TruR X (fun x H Q => ∃ k, TruV X.K x H k ∧ Q k H) := by
  intro pins s σ H x v Q I rx h
  obtain ⟨k, e, q⟩ := h
  have hl := line63
  have hs : sizeLine = 16777216 := sizeLine_eq
  cases x with
  | non =>
    cases rx
    have e' : k = false := e
    subst e'
    exact truthy_none ⟨H, I, q⟩
  | bl b =>
    cases rx
    have e' : k = b := e
    subst e'
    exact wpAny_truthy_bool ⟨H, I, q⟩
  | int i =>
    obtain ⟨t, rfl⟩ := rx
    have e' : k = (i != 0) := e
    subst e'
    exact PySem.P.truthy_int ⟨H, I, q⟩
  | str y =>
    obtain ⟨t, rfl⟩ := rx
    obtain ⟨hy, e'⟩ : y.length ≤ sizeLine ∧ k = ((y.length : Int) != 0) := e
    subst e'
    exact PySem.P.truthy_str (by omega) ⟨H, I.tok _, q⟩
  | byt y =>
    obtain ⟨t, rfl⟩ := rx
    obtain ⟨hy, e'⟩ : y.size ≤ sizeLine ∧ k = ((y.size : Int) != 0) := e
    subst e'
    exact PySem.W.truthy_bytes (by omega) ⟨H, I.tok _, q⟩
  | ref p =>
    cases rx
    have e' : (∃ xs, SqL X.K H p xs ∧ k = !xs.isEmpty) ∨ (∃ xs, SqT X.K H p xs ∧ k = !xs.isEmpty) ∨ ∃ kvs, H p = some (.dK kvs) ∧ k = !kvs.isEmpty := e
    rcases e' with ⟨xs, hx, e'⟩ | ⟨xs, hx, e'⟩ | ⟨kvs, hx, e'⟩
    · subst e'
      obtain ⟨its, r, pl, hz⟩ := I.list hx
      have hlen := r.length
      exact wpAny_truthy_list pl.isList (by simp only [List.size_toArray]; omega) ⟨H, I.tok _, by rw [isEmpty_of r]; exact q⟩
    · subst e'
      obtain ⟨its, r, pl, hz⟩ := I.tuple hx
      have hlen := r.length
      exact truthy_tuple pl (by simp only [List.size_toArray]; omega) ⟨H, I.tok _, by rw [isEmpty_of r]; exact q⟩
    · subst e'
      obtain ⟨hz, hS, vs, r, m⟩ : kvs.length ≤ sizeLine ∧ (p == sysModules) = false ∧ ∃ vs, KV kvs vs ∧ s.heap.DictOf (mixKind X.prog X.w) p vs := I.hok p _ hx
      have hlen : kvs.length = vs.length := Paired.length r
      exact wpAny_truthy_dict hS m (by omega) ⟨H, I.tok _, by rw [isEmpty_kv r]; exact q⟩
  | _ => exact (show False from e).elim
theorem pt_truth (ha : PE X a ta) (he : ∀ whole, isTrue a X.env whole = (do let v ← whole; standAt a.pos; holding [v] (truthy v))) :
    PT X a (fun σ H Q => ta σ H fun x H' => ∃ k, TruV X.K x H' k ∧ Q k H') := by
  intro pins s σ H Q I h
  exact isTrue_plain (thn (ha pins s σ H _ I h) fun v s1 ⟨x, H1, I1, r1, q1⟩ => tru_ok pins s1 σ H1 x v Q I1 r1 q1) (he _)
theorem op_add_str : OpR X (binaryOp .Add) (fun x y H Q => ∃ i j, x = .str i ∧ y = .str j ∧ i.length + j.length ≤ sizeLine ∧ Q (.str (i ++ j)) H) := by
  intro pins s σ H x y v u Q I rx ry h
  obtain ⟨i, j, rfl, rfl, hz, q⟩ := h
  obtain ⟨t, rfl⟩ := rx
  obtain ⟨t', rfl⟩ := ry
  exact add_str (fun t' tk => ⟨.str (i ++ j), H, I.tok _, ⟨_, rfl⟩, q⟩) hz
theorem vals1 {x : V} {us : List Value} (r : Vals [x] us) : ∃ u, us = [u] ∧ RelV x u := by
  cases r with
  | cons r1 r2 => cases r2; exact ⟨_, rfl, r1⟩
end
end L2
namespace L2
open PySem PySem.Spec PyProof.Rows
structure ObjM (h : Heap) (x dx C : Addr) (mA : Str → Option Value) : Prop where
  obj : h.get? x = some (PySem.W.instObj C dx)
  ns : h.Ns1 dx mA
  ne : dx ≠ x
theorem lookIn_ns {h : Heap} {dx : Addr} {mA : Str → Option Value} (n : h.Ns1 dx mA) : ∃ od, h.get? dx = some od ∧ ∀ name, PySem.W.lookIn name od = some (mA name) := by
  obtain ⟨o, es, ep, ho, hd, hk, _, hm⟩ := n
  refine ⟨o, ho, fun name => ?_⟩
  have e := hm name
  unfold nsFind findBy at e
  rw [← Array.find?_toList] at e
  unfold PySem.W.lookIn
  rw [hd]
  dsimp only
  split
  · rename_i y q
    rw [q] at e
    exact congrArg some e
  · rename_i q
    rw [q] at e
    have a : es.toList.any (·.refKey) = false := by
      rw [List.any_eq_false]
      intro y hy
      obtain ⟨z, t, hkey⟩ := hk y (Array.mem_toList_iff.mp hy)
      simp [DictEntry.refKey, hkey]
    have a' : ¬ es.toList.any (·.refKey) = true := by rw [a]; exact Bool.false_ne_true
    rw [if_neg a']
    exact congrArg some e
theorem ObjM.look {h : Heap} {x dx C : Addr} {mA : Str → Option Value} (I : ObjM h x dx C mA) : ∃ od, PySem.W.InstAt h x (PySem.W.instObj C dx) C (some od) ∧ ∀ name, PySem.W.lookIn name od = some (mA name) :=
  let ⟨od, ho, hl⟩ := lookIn_ns I.ns
  ⟨od, ⟨I.obj, rfl, rfl, ho⟩, hl⟩
section
variable {prog : Program} {w : World} {A : Around} {E : Value → Shared → Prop} {s : Shared} {K : PySem.W.Frag} {x dx C f : Addr} {mA : Str → Option Value} {name : Str} {v : Value}
theorem get_map {expr : Bool} {Q : Value → Shared → Prop} (X : K.In s.heap) (I : ObjM s.heap x dx C mA) (hg : PySem.W.plainGet K C name = true) (hh : PySem.W.hasDictIn K C = true)
    (ha : PySem.W.findIn K (.ref C) name = some none) (hv : mA name = some v) (hv' : PySem.W.handedIn v = true) (h : Q v { s with toks := s.toks + 1 }) :
    wpAny (model prog w) A (getAttr (.ref x) name expr) Q E s := by
  obtain ⟨od, J, hl⟩ := I.look
  exact PySem.W.get_value X J (PySem.W.plainGet_of hg).1 (PySem.W.findObj_own hh ha rfl (by rw [hl, hv])) hv' h
theorem get_meth {pl : Sem Bool} {Q : Value × List Value → Shared → Prop} (X : K.In s.heap) (I : ObjM s.heap x dx C mA) (hg : PySem.W.plainGet K C name = true)
    (hf : PySem.W.findIn K (.ref C) name = some (some (.ref f))) (ht : PySem.W.isFn K (.ref f) = true) (hv : mA name = none) (h : Q (.ref f, [.ref x]) s) :
    wpAny (model prog w) A (getMethod (.ref x) name pl) Q E s := by
  obtain ⟨od, J, hl⟩ := I.look
  exact PySem.W.method_fn X J (PySem.W.plainGet_of hg).1 (PySem.W.plainGet_of hg).2 hf (beq_iff_eq.mp ht) (by show (PySem.W.lookIn name od).map (·.isSome) = some false; rw [hl, hv]; rfl) h
theorem set_map {ns : List Str} {Q : Unit → Shared → Prop} (X : K.In s.heap) (I : ObjM s.heap x dx C mA)
    (hs : PySem.W.findIn K (.ref C) "__setattr__" = some (some (.builtin "object.__setattr__"))) (hp : PySem.W.plainOver K C = true) (ht : PySem.W.takerIn K C name = some none) (hh : PySem.W.hasDictIn K C = true)
    (hw : PySem.Within mA ns) (hsz : ns.length ≤ sizeLine)
    (h : ∀ h', ObjM h' x dx C (fun y => if y = name then some v else mA y) → Heap.SameBut dx s.heap h' → Q () { s with heap := h', toks := s.toks + 2 }) :
    wpAny (model prog w) A (setAttr (.ref x) name v) Q E s := by
  obtain ⟨od, J, hl⟩ := I.look
  refine PySem.W.set_plain X J hs (PySem.W.osa_open (s := { s with toks := s.toks + 1 }) (r := none) X J hp ht fun b => ?_)
  obtain ⟨cd, hc, hd'⟩ := PySem.W.any_some hh
  have hx : s.heap.get? x = some ⟨.ref C, some dx, .plain, #[]⟩ := I.obj
  refine wpAny_bind (wpAny_pure (wpAny_bind (wpAny_bind (wpAny_loadPart hx (wpAny_bind (PySem.W.Looks.here (s := { s with toks := s.toks + 1 }) (PySem.W.looks_clsIn X hc) ?_))))))
  rw [hd']
  refine wpAny_pure (a := some dx) (wpAny_bind (wpAny_pure (wpAny_bind ?_)))
  refine wpAny_nsSet1 (s := { s with toks := s.toks + 1 }) I.ns fun h' hn2 hs2 => ?_
  obtain ⟨oD, esD, epD, hoD, hdD, hcD⟩ := hn2.count (PySem.Within.cons name v hw)
  refine wpAny_bind (wpAny_lookBehind hoD (by rw [hdD]; exact pastItsLine_dict (Nat.le_trans hcD (by rw [List.length_cons]; omega))) ?_)
  exact wpAny_pure (h _ ⟨(hs2.2 _ (Ne.symm I.ne)).trans I.obj, hn2, I.ne⟩ hs2)
theorem make_map {R : Result → Shared → Prop} {vs : List Value} {kw : List (Str × Value)} (X : K.In s.heap) (hm : PySem.W.makesIn K C = true)
    (hi : PySem.W.findIn K (.ref C) "__init__" = some (some (.ref f))) (hf : PySem.W.typeIn K (.ref f) = some (.type "function"))
    (h : codeAny (model prog w) (A.under (.builtin "type.__call__" ⟨.ref C :: vs, kw⟩)) (.call (.ref f) ⟨.ref (s.heap.objs.size + 1) :: vs, kw⟩) (PySem.W.InitBack (s.heap.objs.size + 1) R)
      { s with heap := (s.heap.push PySem.W.emptyDict).push (PySem.W.instObj C s.heap.objs.size) }) :
    codeAny (model prog w) A (.call (.ref C) ⟨vs, kw⟩) R s := by
  obtain ⟨hh, g, d, t, os⟩ := s
  exact PySem.W.make_core (PySem.W.makes_of X hm) (PySem.W.looks_findIn X hi) (fun self => PySem.W.bind_fn X self hf) (.inl rfl) h
end
noncomputable def putF (f : Str) (v : V) : List (Str × V) → List (Str × V)
  | [] => [(f, v)]
  | (g, x) :: r => if g = f then (g, v) :: r else (g, x) :: putF f v r
theorem lookup_putF (f g : Str) (v : V) : ∀ fs : List (Str × V), (putF f v fs).lookup g = if g = f then some v else fs.lookup g
  | [] => by
    show List.lookup g [(f, v)] = _
    by_cases h : g = f
    · have hb : (g == f) = true := beq_iff_eq.mpr h
      simp only [List.lookup, hb, if_pos h]
    · have hb : (g == f) = false := beq_eq_false_iff_ne.mpr h
      simp only [List.lookup, hb, if_neg h]
  | (k, x) :: r => by
    have ih := lookup_putF f g v r
    rw [show putF f v ((k, x) :: r) = (if k = f then (k, v) :: r else (k, x) :: putF f v r) from rfl]
    by_cases hk : k = f
    · rw [if_pos hk]
      by_cases h : g = k
      · have hb : (g == k) = true := beq_iff_eq.mpr h
        simp only [List.lookup, hb, if_pos (h.trans hk)]
      · have hb : (g == k) = false := beq_eq_false_iff_ne.mpr h
        simp only [List.lookup, hb, if_neg (fun e : g = f => h (e.trans hk.symm))]
    · rw [if_neg hk]
      by_cases h : g = k
      · have hb : (g == k) = true := beq_iff_eq.mpr h
        simp only [List.lookup, hb, if_neg (fun e : g = f => hk (h.symm.trans e))]
      · have hb : (g == k) = false := beq_eq_false_iff_ne.mpr h
        simp only [List.lookup, hb]
        exact ih
theorem keys_putF (f : Str) (v : V) : ∀ fs : List (Str × V), f ∈ (putF f v fs).map (·.1) ∧ ∀ g, g ∈ fs.map (·.1) → g ∈ (putF f v fs).map (·.1)
  | [] => ⟨by simp [putF], fun g h => by simp at h⟩
  | (k, x) :: r => by
    obtain ⟨i1, i2⟩ := keys_putF f v r
    rw [show putF f v ((k, x) :: r) = (if k = f then (k, v) :: r else (k, x) :: putF f v r) from rfl]
    by_cases hk : k = f
    · rw [if_pos hk]
      subst hk
      exact ⟨by simp, fun g h => by simpa using h⟩
    · rw [if_neg hk]
      refine ⟨?_, fun g h => ?_⟩
      · rw [List.map_cons]
        exact List.mem_cons_of_mem _ i1
      · rw [List.map_cons] at h ⊢
        rcases List.mem_cons.mp h with e | e
        · exact List.mem_cons.mpr (.inl e)
        · exact List.mem_cons_of_mem _ (i2 g e)
theorem length_putF (f : Str) (v : V) : ∀ fs : List (Str × V), (putF f v fs).length ≤ fs.length + 1
  | [] => by simp [putF]
  | (k, x) :: r => by
    have ih := length_putF f v r
    rw [show putF f v ((k, x) :: r) = (if k = f then (k, v) :: r else (k, x) :: putF f v r) from rfl]
    by_cases hk : k = f
    · rw [if_pos hk, List.length_cons, List.length_cons]; omega
    · rw [if_neg hk, List.length_cons, List.length_cons]; omega
theorem RelO.some_of {v : V} {o : Option Value} (r : RelO (some v) o) : ∃ u, o = some u ∧ RelV v u := by
  cases o with
  | none => exact (show False from r).elim
  | some u => exact ⟨u, rfl, r⟩
theorem RelO.none_of {o : Option Value} (r : RelO none o) : o = none := by
  cases o with
  | none => rfl
  | some u => exact (show False from r).elim
theorem handed_of {v : V} {u : Value} (r : RelV v u) : PySem.W.handedIn u = true := by
  cases v with
  | non => cases (show u = Value.none from r); rfl
  | bl b => cases (show u = Value.bool b from r); rfl
  | int i => obtain ⟨t, e⟩ := (show ∃ t, u = Value.int i t from r); cases e; rfl
  | str x => obtain ⟨t, e⟩ := (show ∃ t, u = Value.str x t from r); cases e; rfl
  | byt b => obtain ⟨t, e⟩ := (show ∃ t, u = Value.bytes b t from r); cases e; rfl
  | flt b => obtain ⟨t, e⟩ := (show ∃ t, u = Value.float b t from r); cases e; rfl
  | ref a => cases (show u = Value.ref a from r); rfl
  | ty n => cases (show u = Value.type n from r); rfl
section
variable {P : Program} {w : World} {H H' : Hp} {h h' : Heap} {a C dx : Addr} {fs fs' : List (Str × V)}
theorem ins_get (hok : HOk P w H h) (e : H a = some (.ins C dx fs)) : ∃ mA, ObjM h a dx C mA ∧ (∀ f, RelO (fs.lookup f) (mA f)) ∧ PySem.Within mA (fs.map (·.1)) ∧ fs.length ≤ 1000 ∧ H dx = some (.own a) := by
  obtain ⟨d, z, ne, ob, mA, n, r, q⟩ := (show ObjOk P w H h a (.ins C dx fs) from hok a _ e)
  exact ⟨mA, ⟨ob, n, ne⟩, r, q, z, d⟩
end
structure Cls (K : PySem.W.Frag) (C : Addr) : Prop where
  pg : PySem.W.plainGet K C Str.empty = true
  hd : PySem.W.hasDictIn K C = true
  po : PySem.W.plainOver K C = true
  sa : PySem.W.findIn K (.ref C) "__setattr__" = some (some (.builtin "object.__setattr__"))
theorem Cls.get {K : PySem.W.Frag} {C : Addr} (c : Cls K C) (f : Str) : PySem.W.plainGet K C f = true := c.pg
noncomputable def NoAttr (K : PySem.W.Frag) (C : Addr) (f : Str) : Prop := PySem.W.findIn K (.ref C) f = some none
theorem NoAttr.taker {K : PySem.W.Frag} {C : Addr} {f : Str} (n : NoAttr K C f) : PySem.W.takerIn K C f = some none := by
  unfold PySem.W.takerIn
  rw [show PySem.W.findIn K (.ref C) f = some none from n]
  rfl
structure Con (K : PySem.W.Frag) (C : Addr) (f : Str) (v : V) (u : Value) : Prop where
  at_ : PySem.W.findIn K (.ref C) f = some (some u)
  rel : RelV v u
  get : PySem.W.specialIn K u "__get__" = some none
  cp : PySem.W.copiedNames.contains f = false
structure Meth (K : PySem.W.Frag) (C : Addr) (m : Str) (f : Addr) : Prop where
  at_ : PySem.W.findIn K (.ref C) m = some (some (.ref f))
  fn : PySem.W.isFn K (.ref f) = true
  kp : PySem.W.keepIn K (.ref f) = true
section
variable {X : Cx} {pins : List (Addr × Obj)} {σ : St} {H : Hp} {s : Shared} {a C dx : Addr} {fs : List (Str × V)} {f : Str} {v : V} {A : Around} {E : Value → Shared → Prop}
theorem getattr_ok {b : Bool} {Q : Value → Shared → Prop} (I : Inv X pins σ H s) (e : H a = some (.ins C dx fs)) (c : Cls X.K C) (n : NoAttr X.K C f) (l : fs.lookup f = some v)
    (h : ∀ u s', Inv X pins σ H s' → RelV v u → Q u s') : wpAny (model X.prog X.w) A (getAttr (.ref a) f b) Q E s := by
  obtain ⟨mA, O, r, _, _, _⟩ := ins_get I.hok e
  obtain ⟨u, hu, ru⟩ := RelO.some_of (v := v) (o := mA f) (by rw [← l]; exact r f)
  exact get_map I.kIn O (c.get f) c.hd n hu (handed_of ru) (h u _ (I.tok _) ru)
theorem getmeth_ok {m : Str} {g : Addr} {pl : Sem Bool} {Q : Value × List Value → Shared → Prop} (I : Inv X pins σ H s) (e : H a = some (.ins C dx fs)) (c : Cls X.K C) (k : Meth X.K C m g) (l : fs.lookup m = none)
    (h : Q (.ref g, [.ref a]) s) : wpAny (model X.prog X.w) A (getMethod (.ref a) m pl) Q E s := by
  obtain ⟨mA, O, r, _, _, _⟩ := ins_get I.hok e
  have hn : mA m = none := RelO.none_of (by rw [← l]; exact r m)
  exact get_meth I.kIn O (c.get m) k.at_ k.fn hn h
theorem setattr_ok {y : V} {u : Value} {Q : Unit → Shared → Prop} (I : Inv X pins σ H s) (e : H a = some (.ins C dx fs)) (c : Cls X.K C) (n : NoAttr X.K C f) (hl : fs.length < 1000) (ry : RelV y u)
    (h : ∀ s', Inv X pins σ (upd H a (.ins C dx (putF f y fs))) s' → Q () s') : wpAny (model X.prog X.w) A (setAttr (.ref a) f u) Q E s := by
  obtain ⟨mA, O, r, wi, _, ho⟩ := ins_get I.hok e
  have hz : (fs.map (·.1)).length ≤ sizeLine := by rw [List.length_map, sizeLine_eq]; omega
  refine set_map I.kIn O c.sa c.po n.taker c.hd wi hz fun h' O' sb => h _ ?_
  have hd : ∃ o, h'.get? dx = some o := let ⟨o, _, _, e', _⟩ := O'.ns; ⟨o, e'⟩
  refine I.write (x := a) (e := dx) (by rw [e]; exact True.intro) (.inr ho) (fun b q hb z => (sb.2 b hb).trans z) hd ?_
  refine ⟨by rw [upd_ne O.ne]; exact ho, ?_, O.ne, O'.obj, _, O'.ns, fun g => ?_, fun g hg => ?_⟩
  · have := length_putF f y fs; omega
  · show RelO ((putF f y fs).lookup g) (if g = f then some u else mA g)
    rw [lookup_putF]
    by_cases q : g = f
    · rw [if_pos q, if_pos q]; exact ry
    · rw [if_neg q, if_neg q]; exact r g
  · by_cases q : g = f
    · rw [q]; exact (keys_putF f y fs).1
    · refine (keys_putF f y fs).2 g (wi g fun z => hg ?_)
      show (if g = f then some u else mA g) = none
      rw [if_neg q]; exact z
theorem Inv.made (I : Inv X pins σ H s) : Inv X pins σ (upd (upd H s.heap.objs.size (.own (s.heap.objs.size + 1))) (s.heap.objs.size + 1) (.ins C s.heap.objs.size []))
    { s with heap := (s.heap.push PySem.W.emptyDict).push (PySem.W.instObj C s.heap.objs.size) } := by
  have e1 : (s.heap.push PySem.W.emptyDict).get? s.heap.objs.size = some PySem.W.emptyDict := Heap.get?_push_size s.heap rfl
  have e2 : ((s.heap.push PySem.W.emptyDict).push (PySem.W.instObj C s.heap.objs.size)).get? (s.heap.objs.size + 1) = some (PySem.W.instObj C s.heap.objs.size) := by
    have := Heap.get?_push_size (s.heap.push PySem.W.emptyDict) (o := PySem.W.instObj C s.heap.objs.size) rfl
    rwa [Heap.size_push] at this
  have e3 : (s.heap.push PySem.W.emptyDict).Ns s.heap.objs.size (fun _ => none) := ⟨PySem.W.emptyDict, #[], _, e1, rfl, (fun e he => absurd he (by simp)), fun _ => rfl⟩
  have I1 := I.laid (a := s.heap.objs.size) (o := .own (s.heap.objs.size + 1)) (h' := s.heap.push PySem.W.emptyDict) (t' := s.toks) (fun b u q => Heap.get?_push_of_some _ q) (Nat.le_refl _) ⟨_, e1⟩
  refine I1.laid (a := s.heap.objs.size + 1) (o := .ins C s.heap.objs.size []) (t' := s.toks) (fun b u q => Heap.get?_push_of_some _ q) (Nat.le_of_eq (Heap.size_push _ _)) ?_
  have ne : s.heap.objs.size ≠ s.heap.objs.size + 1 := Nat.ne_of_lt (Nat.lt_succ_self _)
  refine ⟨by rw [upd_ne ne, upd_same], Nat.zero_le _, ne, e2, fun _ => none, (Heap.Ns1.of_empty e3).at fun o q => Heap.get?_push_of_some _ q, fun _ => True.intro, fun y hy => absurd rfl hy⟩
theorem attr_of {prog : Program} {w : World} {env : Env} {e : Expr} {f : Str} {pos : Pos} {s : Shared} {Q : Value → Shared → Prop} (hb : attributeBase e f env (eval e env) = eval e env)
    (h : wpAny (model prog w) A (eval e env) (fun o s₁ => wpAny (model prog w) A (getAttr o f true) Q E s₁) E s) : wpAny (model prog w) A (eval (.Attribute e f pos) env) Q E s :=
  Attribute_any_ h (by rw [arm_eval_Attribute, hb])
end
noncomputable def tFld (K : PySem.W.Frag) (ta : TE) (f : Str) : TE := fun σ H Q => ta σ H fun x H1 => ∃ a C dx fs v, x = .ref a ∧ H1 a = some (.ins C dx fs) ∧ Cls K C ∧ NoAttr K C f ∧ fs.lookup f = some v ∧ Q v H1
noncomputable def sFld (K : PySem.W.Frag) (ta tv : TE) (f : Str) : TS := fun D σ H => tv σ H fun y H1 => ta σ H1 fun x H2 => ∃ a C dx fs, x = .ref a ∧ H2 a = some (.ins C dx fs) ∧ Cls K C ∧ NoAttr K C f ∧ fs.length < 1000 ∧
  D.nx σ (upd H2 a (.ins C dx (putF f y fs)))
section
variable {X : Cx} {o e value : Expr} {f : Str} {pos pos' tpos : Pos} {ta tv : TE}
theorem pe_fld (he : PE X e ta) (hb : attributeBase e f X.env (eval e X.env) = eval e X.env) : PE X (.Attribute e f pos) (tFld X.K ta f) := by
  intro pins s σ H Q I h
  refine attr_of hb (thn (he pins s σ H _ I h) fun u s1 ⟨x, H1, I1, rx, a, C, dx, fs, v, ex, ea, c, n, l, q⟩ => ?_)
  subst ex
  obtain rfl : u = Value.ref a := rx
  exact getattr_ok I1 ea c n l fun u' s2 I2 ru => ⟨v, H1, I2, ru, q⟩
theorem ps_fld (ha : PE X o ta) (hv : PE X value tv) (hs : swapsWith value (some (.Attribute o f pos')) pos.line X.env = pure false) : PS X (.Assign [.Attribute o f pos'] value pos) (sFld X.K ta tv f) := by
  intro pins s σ H D I h
  refine plainObj_wpAny_Assign_Attribute (thn (hv pins s σ H _ I h) fun u s1 ⟨y, H1, I1, ry, q⟩ => thn (ha pins s1 σ H1 _ I1 q) fun ov s2 ⟨x, H2, I2, rx, a, C, dx, fs, ex, ea, c, n, l, q2⟩ => ?_) hs
  subst ex
  obtain rfl : ov = Value.ref a := rx
  exact setattr_ok I2 ea c n l ry fun s3 I3 => ⟨σ, _, I3, q2⟩
theorem methcall_of {pl : Sem Bool} {m : Str} {apos : Pos} {args : List Expr} {pins : List (Addr × Obj)} {s : Shared} {σ : St} {H : Hp} {Q : Value → Shared → Prop} {te : TE} (he : PE X e te) (I : Inv X pins σ H s)
    (h : te σ H fun x H1 => ∃ a C dx fs g, x = .ref a ∧ H1 a = some (.ins C dx fs) ∧ Cls X.K C ∧ Meth X.K C m g ∧ fs.lookup m = none ∧
      ∀ s1, Inv X pins σ H1 s1 → wpAny (model X.prog X.w) X.A (callWith pos (.ref g) [.ref a] (backTo pos (starEach args X.env)) (backToKw pos (keywordEach [] X.env))) Q X.xe s1)
    (ht : eval (.Call (.Attribute e m apos) args [] pos) X.env = (do
      let ov ← eval e X.env
      standAt apos.atName
      let (f, first) ← holding [ov] (getMethod ov m pl)
      callWith pos f first (backTo pos (starEach args X.env)) (backToKw pos (keywordEach [] X.env)))) :
    wpAny (model X.prog X.w) X.A (eval (.Call (.Attribute e m apos) args [] pos) X.env) Q X.xe s := by
  refine PySem.W.methodCall_KW (pl := pl) (thn (he pins s σ H _ I h) fun u s1 ⟨x, H1, I1, rx, a, C, dx, fs, g, ex, ea, c, k, l, q⟩ => ?_) ht
  subst ex
  obtain rfl : u = Value.ref a := rx
  exact getmeth_ok I1 ea c k l (q s1 I1)
end
section
variable {X : Cx} {pins : List (Addr × Obj)} {σ : St} {H : Hp} {s : Shared} {A : Around} {E : Value → Shared → Prop} {Q : Value → Shared → Prop} {c : Value} {b : Bool}
inductive TyOf (K : PySem.W.Frag) (H : Hp) : V → Value → Prop where
  | non : TyOf K H .non (.type "NoneType")
  | bl (x : Bool) : TyOf K H (.bl x) (.type "bool")
  | int (i : Int) : TyOf K H (.int i) (.type "int")
  | str (x : Str) : TyOf K H (.str x) (.type "str")
  | flt (x : UInt64) : TyOf K H (.flt x) (.type "float")
  | lst {a : Addr} {xs : List V} (e : H a = some (.lst xs)) : TyOf K H (.ref a) (.type "list")
  | frz {a : Addr} {o : Obj} {xs : List V} (e : H a = some (.frz o (.lst xs))) : TyOf K H (.ref a) (.type "list")
  | tup {a : Addr} {xs : List V} (e : H a = some (.tup xs)) : TyOf K H (.ref a) (.type "tuple")
  | dK {a : Addr} {kvs : List (Key × V)} (e : H a = some (.dK kvs)) : TyOf K H (.ref a) (.type "dict")
  | dT {a : Addr} {kvs : List (List Key × V)} (e : H a = some (.dT kvs)) : TyOf K H (.ref a) (.type "dict")
  | ins {a C dx : Addr} {fs : List (Str × V)} (e : H a = some (.ins C dx fs)) (cl : Cls K C) (ha : PySem.W.findIn K (.ref C) "__class__" = some (some (.builtin "object.__class__")))
      (hn : PySem.W.specialIn K (.builtin "object.__class__") "__get__" = some (some (.builtin "getset_descriptor.__get__"))) (htk : PySem.W.takesIn K (.builtin "object.__class__") = some true)
      (hm : PySem.W.mroIn K C (.type "object") = some true) : TyOf K H (.ref a) (.ref C)
theorem isinst_ok {x : V} {u t : Value} (I : Inv X pins σ H s) (rx : RelV x u) (ty : TyOf X.K H x t) (e : PySem.W.kitOne X.K t c = some b) (h : ∀ tk, Q (.bool b) { s with toks := tk }) :
    wpAny (model X.prog X.w) A (call (.builtin "isinstance") [u, c]) Q E s := by
  cases ty with
  | non => cases (show u = Value.none from rx); exact PySem.W.kia_one PySem.W.kitx_none I.kIn True.intro e (fun z => nomatch z) h
  | bl y => cases (show u = Value.bool y from rx); exact PySem.W.kia_one PySem.W.kitx_bool I.kIn True.intro e (fun z => nomatch z) h
  | int i => obtain ⟨t, q⟩ := (show ∃ t, u = Value.int i t from rx); cases q; exact PySem.W.kia_one PySem.W.kitx_int I.kIn True.intro e (fun z => nomatch z) h
  | str y => obtain ⟨t, q⟩ := (show ∃ t, u = Value.str y t from rx); cases q; exact PySem.W.kia_one PySem.W.kitx_str I.kIn True.intro e (fun z => nomatch z) h
  | flt y => obtain ⟨t, q⟩ := (show ∃ t, u = Value.float y t from rx); cases q; exact PySem.W.kia_one PySem.W.kitx_float I.kIn True.intro e (fun z => nomatch z) h
  | @lst a xs ea =>
    cases (show u = Value.ref a from rx)
    obtain ⟨_, _, n, _, h1⟩ := (show ObjOk X.prog X.w H s.heap a (.lst xs) from I.hok a _ ea)
    exact PySem.W.kia_one PySem.W.kitx_list I.kIn ⟨_, h1, rfl⟩ e (fun z => nomatch z) h
  | @frz a ob xs ea =>
    cases (show u = Value.ref a from rx)
    obtain ⟨_, _, _, n, _, h1⟩ := (show ObjOk X.prog X.w H s.heap a (.frz ob (.lst xs)) from I.hok a _ ea)
    exact PySem.W.kia_one PySem.W.kitx_list I.kIn ⟨_, h1, rfl⟩ e (fun z => nomatch z) h
  | @tup a xs ea =>
    cases (show u = Value.ref a from rx)
    obtain ⟨_, _, _, p⟩ := (show ObjOk X.prog X.w H s.heap a (.tup xs) from I.hok a _ ea)
    obtain ⟨o, h1, h2, _⟩ := p
    exact PySem.W.kia_one PySem.W.kitx_tuple I.kIn ⟨o, h1, h2⟩ e (fun z => nomatch z) h
  | @dK a kvs ea =>
    cases (show u = Value.ref a from rx)
    obtain ⟨_, _, vs, _, p⟩ := (show ObjOk X.prog X.w H s.heap a (.dK kvs) from I.hok a _ ea)
    obtain ⟨o, es, ep, h1, h2, _⟩ := p
    exact PySem.W.kia_one PySem.W.kitx_dict I.kIn ⟨o, h1, h2.1⟩ e (fun z => nomatch z) h
  | @dT a kvs ea =>
    cases (show u = Value.ref a from rx)
    obtain ⟨_, _, xs, _, o, es, ep, h1, h2, _⟩ := (show ObjOk X.prog X.w H s.heap a (.dT kvs) from I.hok a _ ea)
    exact PySem.W.kia_one PySem.W.kitx_dict I.kIn ⟨o, h1, h2.1⟩ e (fun z => nomatch z) h
  | @ins a C dx fs ea cl ha hn htk hm =>
    cases (show u = Value.ref a from rx)
    obtain ⟨mA, O, _⟩ := ins_get I.hok ea
    obtain ⟨od, J, _⟩ := O.look
    exact PySem.W.kia_one (PySem.W.kitx_own (cl.get _) cl.hd ha hn htk hm) I.kIn J e (fun z => nomatch z) h
end
end L2
namespace L2
open PySem PySem.Spec PyProof.Rows
structure Room (k : Nat) (A : Around) : Prop where
  hd : A.handled = none
  dp : A.depth + 3 * k + 5 < recursionLimit
  un : A.units + 16 * k + 200 < cLine
theorem Room.mono {j k : Nat} {A : Around} (r : Room k A) (h : j ≤ k) : Room j A := ⟨r.hd, by have := r.dp; omega, by have := r.un; omega⟩
theorem Room.deeper {k : Nat} {A : Around} (r : Room (k + 1) A) (env : Env) : Room k (A.deeper env) :=
  ⟨r.hd, by have := r.dp; show A.depth + 1 + 3 * k + 5 < _; omega, by have := r.un; show A.units + 3 + 16 * k + 200 < _; omega⟩
theorem make_depth {A : Around} {C : Addr} {us : List Value} {kw : List (Str × Value)} : (A.under (.builtin "type.__call__" ⟨.ref C :: us, kw⟩)).depth = A.depth + 1 := by
  first | rfl | simp [Around.under, Code.weight, Code.isCreation, Code.isGuard, Code.isCaller, Code.frames, Code.isFrame, guardIds]
theorem make_units {A : Around} {C : Addr} {us : List Value} {kw : List (Str × Value)} : (A.under (.builtin "type.__call__" ⟨.ref C :: us, kw⟩)).units = A.units + 1 := by
  first | rfl | simp [Around.under, Code.cUnits, Code.frames, Code.isFrame]
theorem Room.make {k : Nat} {A : Around} (r : Room (k + 1) A) (C : Addr) (us : List Value) (kw : List (Str × Value)) : Room k (A.under (.builtin "type.__call__" ⟨.ref C :: us, kw⟩)) :=
  ⟨r.hd, by have := r.dp; rw [make_depth]; omega, by have := r.un; rw [make_units]; omega⟩
theorem Room.depth {k : Nat} {A : Around} (r : Room k A) : A.depth < recursionLimit := by have := r.dp; omega
theorem Room.units {k : Nat} {A : Around} (r : Room k A) : A.units + 64 < cLine := by have := r.un; omega
noncomputable def tNil : TA := fun _ H Q => Q [] H
noncomputable def tCons (ta : TE) (tr : TA) : TA := fun σ H Q => ta σ H fun x H1 => tr σ H1 fun xs H2 => Q (x :: xs) H2
section
variable {X : Cx} {e : Expr} {es : List Expr} {te : TE} {t : TA} {pos : Pos}
theorem pa_nil : PA X [] tNil := fun _ _ _ _ H Q I h => Calls.spliced_nil ⟨[], H, I, .nil, h⟩
theorem pa_cons (ha : PE X e te) (hr : PA X es t) (hs : starEach (e :: es) X.env = (false, eval e X.env) :: starEach es X.env := by rfl) : PA X (e :: es) (tCons te t) := by
  intro pos pins s σ H Q I h
  rw [hs]
  show wpAny _ _ (spliced ((false, eval e X.env) :: backTo pos (starEach es X.env))) _ _ s
  refine Calls.spliced_cons (thn (ha pins s σ H _ I h) fun u s1 ⟨x, H1, I1, r1, q1⟩ => ?_)
  exact thn (hr pos pins s1 σ H1 _ I1 q1) fun us s2 ⟨xs, H2, I2, r2, q2⟩ => ⟨x :: xs, H2, I2, .cons r1 r2, q2⟩
noncomputable def tTup (t : TA) : TE := fun σ H Q => t σ H fun xs H1 => xs.length ≤ sizeLine ∧ ∀ p, H1 p = none → Q (.ref p) (upd H1 p (.tup xs))
noncomputable def tLst (t : TA) : TE := fun σ H Q => t σ H fun xs H1 => xs.length ≤ sizeLine ∧ ∀ p, H1 p = none → Q (.ref p) (upd H1 p (.lst xs))
theorem pe_tup {x1} (h : PA X es t) : PE X (.Tuple es x1 pos) (tTup t) := by
  intro pins s σ H Q I hq
  refine wpAny_Tuple_spliced (thn (h pos pins s σ H _ I hq) fun us s1 ⟨xs, H1, I1, r, z, q⟩ => ⟨by rw [← r.length]; exact z, ?_⟩)
  have hf : H1 s1.heap.objs.size = none := I1.hok.fresh (Nat.le_refl _)
  refine ⟨.ref s1.heap.objs.size, upd H1 s1.heap.objs.size (.tup xs), I1.laid (t' := s1.toks) (fun b u e => Heap.get?_push_of_some _ e) (Nat.le_refl _) ?_, rfl, q _ hf⟩
  exact ⟨z, us, r, ⟨_, Heap.get?_push_size _ rfl, rfl, _, rfl⟩⟩
theorem pe_lst (h : PA X es t) : PE X (.List es pos) (tLst t) := by
  intro pins s σ H Q I hq
  refine wpAny_List_spliced (thn (h pos pins s σ H _ I hq) fun us s1 ⟨xs, H1, I1, r, z, q⟩ => ⟨by rw [← r.length]; exact z, ?_⟩)
  have hf : H1 s1.heap.objs.size = none := I1.hok.fresh (Nat.le_refl _)
  refine ⟨.ref s1.heap.objs.size, upd H1 s1.heap.objs.size (.lst xs), I1.laid (t' := s1.toks) (fun b u e => Heap.get?_push_of_some _ e) (Nat.le_refl _) ?_, rfl, q _ hf⟩
  exact ⟨z, us, 0, r, Heap.get?_push_size _ rfl⟩
end
noncomputable abbrev Sp := List V → Hp → VK → XK → Prop
noncomputable abbrev CXT := List Env → Hp → Shared → XK → Value → Shared → Prop
structure Env0 (P : Program) (w : World) (K : PySem.W.Frag) (mg : Str → Option Value) (base : Heap) (A : Around) (outer : List Env) (s : Shared) (H : Hp) : Prop where
  frames : A.frames = some outer
  mod : Mod K mg base
  bs : ∀ b o, base.get? b = some o → s.heap.get? b = some o ∧ H b = none
  bsz : base.objs.size ≤ s.heap.objs.size
  funs : s.heap.FunFrames base outer
  frf : ∀ b ∈ frs outer, H b = none
  hok : HOk P w H s.heap
  bare : AllBare s.gens
noncomputable def CE (outer : List Env) (P : Program) (w : World) (H : Hp) (s : Shared) (Q : VK) (u : Value) (s' : Shared) : Prop :=
  ∃ v H', s'.os = s.os ∧ AllBare s'.gens ∧ Un (frs outer) [] H H' s.heap s'.heap ∧ HOk P w H' s'.heap ∧ RelV v u ∧ Q v H'
noncomputable def CR (CX : CXT) (outer : List Env) (P : Program) (w : World) (H : Hp) (s : Shared) (Q : VK) (E : XK) (r : Result) (s' : Shared) : Prop :=
  match r with
  | .ok (.ret u) => CE outer P w H s Q u s'
  | .ok _ => False
  | .error e => CX outer H s E e s'
structure FnOk (P : Program) (w : World) (K : PySem.W.Frag) (mg : Str → Option Value) (base : Heap) (CX : CXT) (k : Nat) (f : Addr) (fd : FuncData) (ps : List Str) (sp : Sp) : Prop where
  len : ∀ vs H Q E, sp vs H Q E → vs.length = ps.length
  run : ∀ (A : Around) (outer : List Env) (s : Shared) (H : Hp) (args : Args) (us : List Value) (vs : List V) (Q : VK) (E : XK), Room k A → Env0 P w K mg base A outer s H → BindsTo s fd args (ps.zip us) → Vals vs us → sp vs H Q E →
    codeAny (model P w) A (.call (.ref f) args) (CR CX outer P w H s Q E) s
theorem Env0.make {P : Program} {w : World} {K : PySem.W.Frag} {mg : Str → Option Value} {base : Heap} {A : Around} {outer : List Env} {s : Shared} {H : Hp} (e : Env0 P w K mg base A outer s H) (C : Addr) (us : List Value) (kw : List (Str × Value)) :
    Env0 P w K mg base (A.under (.builtin "type.__call__" ⟨.ref C :: us, kw⟩)) outer s H := ⟨by first | exact e.frames | (simpa [Around.under, Code.envs, Code.isFrame, pushEnvs] using e.frames), e.mod, e.bs, e.bsz, e.funs, e.frf, e.hok, e.bare⟩
section
variable {X : Cx} {pins : List (Addr × Obj)} {σ : St} {H : Hp} {s s' : Shared}
theorem Inv.env0 (I : Inv X pins σ H s) : Env0 X.prog X.w X.K X.mg X.base X.A X.stack s H :=
  ⟨I.ok.frames, I.ok.mod, I.bs, Nat.le_trans I.ok.bsz I.sz, I.stack, I.stkFree, I.hok, I.bare⟩
theorem Inv.after {Q : VK} {u : Value} (I : Inv X pins σ H s) (h : CE X.stack X.prog X.w H s Q u s') : EP X pins σ Q u s' := by
  obtain ⟨v, H', os, bare, un, hok, r, q⟩ := h
  obtain ⟨hh, g, d, t, os'⟩ := s'
  obtain rfl : os' = s.os := os
  exact ⟨v, H', I.call (h' := hh) (g' := g) (d' := d) (t' := t) (ch := []) un hok bare (fun b z => absurd z (by simp)), r, q⟩
end
noncomputable def tCall (sp : Sp) (dvs : List V) (E : XK) (t : TA) : TE := fun σ H Q => t σ H fun vs H1 => sp (vs ++ dvs) H1 Q E
noncomputable def tMeth (C : Addr) (m : Str) (sp : Sp) (dvs : List V) (E : XK) (ta : TE) (t : TA) : TE := fun σ H Q => ta σ H fun x H1 => ∃ a dx fs, x = .ref a ∧ H1 a = some (.ins C dx fs) ∧ fs.lookup m = none ∧
  t σ H1 fun vs H2 => sp (x :: (vs ++ dvs)) H2 Q E
noncomputable def tMake (C : Addr) (sp : Sp) (dvs : List V) (E : XK) (t : TA) : TE := fun σ H Q => t σ H fun vs H1 => ∀ x dx, H1 x = none → H1 dx = none → dx ≠ x →
  sp (.ref x :: (vs ++ dvs)) (upd (upd H1 dx (.own x)) x (.ins C dx [])) (fun v H2 => v = .non ∧ Q (.ref x) H2) E
noncomputable def Binds (K : PySem.W.Frag) (fd : FuncData) (ps : List Str) (ds : List Value) : Prop :=
  ∀ (s : Shared) (us : List Value), K.In s.heap → (us ++ ds).length = ps.length → BindsTo s fd ⟨us, []⟩ (ps.zip (us ++ ds))
theorem Binds.all {K : PySem.W.Frag} {fd : FuncData} {ps : List Str} (h : ∀ us : List Value, us.length = ps.length → bindArgs fd ⟨us, []⟩ = pure (ps.zip us)) : Binds K fd ps [] := fun s us _ hl => by
  rw [List.append_nil] at hl ⊢
  exact .of_eq (h us hl)
noncomputable def Passes (CX : CXT) (X : Cx) (E : XK) : Prop := ∀ (pins : List (Addr × Obj)) (σ : St) (H : Hp) (s : Shared) (e : Value) (s' : Shared), Inv X pins σ H s → CX X.stack H s E e s' → X.xe e s'
section
variable {X : Cx} {CX : CXT} {k : Nat} {f C : Addr} {fd : FuncData} {ps : List Str} {sp : Sp} {dvs : List V} {ds : List Value} {E : XK} {x m : Str} {p pos apos : Pos} {e o : Expr} {es : List Expr} {ta : TE} {t : TA}
theorem run_fn {pins : List (Addr × Obj)} {σ : St} {H : Hp} {s : Shared} {Q : VK} {us : List Value} {vs : List V} (F : FnOk X.prog X.w X.K X.mg X.base CX k f fd ps sp) (hr : Room k X.A) (hb : Binds X.K fd ps ds) (hd : Vals dvs ds) (hx : Passes CX X E)
    (I : Inv X pins σ H s) (r : Vals vs us) (h : sp (vs ++ dvs) H Q E) : wpAny (model X.prog X.w) X.A (call (.ref f) us) (EP X pins σ Q) X.xe s := by
  have r2 : Vals (vs ++ dvs) (us ++ ds) := r.append hd
  have hl : (us ++ ds).length = ps.length := by rw [← r2.length]; exact F.len _ _ _ _ h
  refine wpAny_call (codeAny_mono (F.run X.A X.stack s H ⟨us, []⟩ (us ++ ds) (vs ++ dvs) Q E hr I.env0 (hb s us I.kIn hl) r2 h) fun r s' hq => ?_)
  cases r with
  | error e => exact hx pins σ H s e s' I hq
  | ok fl =>
    cases fl with
    | ret u => exact I.after hq
    | next => exact False.elim hq
    | brk => exact False.elim hq
    | cont => exact False.elim hq
theorem pe_call (F : FnOk X.prog X.w X.K X.mg X.base CX k f fd ps sp) (hr : Room k X.A) (hg : Gl X x) (hm : X.mg x = some (.ref f)) (hk : PySem.W.keepIn X.K (.ref f) = true) (hb : Binds X.K fd ps ds) (hd : Vals dvs ds) (hx : Passes CX X E)
    (ha : PA X (e :: es) t) (hdb : (x == ("__debug__" : Str)) = false := by decide) (he : starEach (e :: es) X.env = (false, eval e X.env) :: starEach es X.env := by rfl) (hpl : (backTo pos (starEach es X.env)).any (·.1) = false := by rfl) :
    PE X (.Call (.Name x p) (e :: es) [] pos) (tCall sp dvs E t) := by
  intro pins s σ H Q I h
  refine wpAny_Call_Name_kw (ld_glob I hg hm ?_ hdb)
  refine PySem.W.callWith_K (h₀ := X.base) I.ok.mod.kin hk (thn (ha pos pins s σ H _ I h) fun us s1 ⟨vs, H1, I1, r, q⟩ => ⟨I1.kIn, ?_⟩) he hpl
  exact run_fn F hr hb hd hx I1 r q
theorem pe_meth0 {pl : Sem Bool} (he : PE X o ta) (c : Cls X.K C) (hm : Meth X.K C m f) (F : FnOk X.prog X.w X.K X.mg X.base CX k f fd ps sp) (hr : Room k X.A) (hb : Binds X.K fd ps ds) (hd : Vals dvs ds) (hx : Passes CX X E)
    (ht : eval (.Call (.Attribute o m apos) [] [] pos) X.env = (do
      let ov ← eval o X.env
      standAt apos.atName
      let (f, first) ← holding [ov] (getMethod ov m pl)
      callWith pos f first (backTo pos (starEach [] X.env)) (backToKw pos (keywordEach [] X.env))) := by rfl) :
    PE X (.Call (.Attribute o m apos) [] [] pos) (tMeth C m sp dvs E ta tNil) := by
  intro pins s σ H Q I h
  refine PySem.W.methodCall_KW (pl := pl) (thn (he pins s σ H _ I h) fun u s1 ⟨x, H1, I1, rx, a, dx, fs, ex, ea, l, q⟩ => ?_) ht
  subst ex
  obtain rfl : u = Value.ref a := rx
  refine getmeth_ok I1 ea c hm l ?_
  exact PySem.W.callWith_K0 (first := [.ref a]) I1.kIn hm.kp (run_fn (us := [.ref a]) (vs := [.ref a]) F hr hb hd hx I1 (.cons rfl .nil) q)
structure Mk (K : PySem.W.Frag) (C f : Addr) : Prop where
  makes : PySem.W.makesIn K C = true
  init : PySem.W.findIn K (.ref C) "__init__" = some (some (.ref f))
  fn : PySem.W.isFn K (.ref f) = true
  kp : PySem.W.keepIn K (.ref C) = true
theorem run_make {pins : List (Addr × Obj)} {σ : St} {H : Hp} {s : Shared} {Q : VK} {us : List Value} {vs : List V} (M : Mk X.K C f) (F : FnOk X.prog X.w X.K X.mg X.base CX k f fd ps sp) (hr : Room (k + 1) X.A) (hb : Binds X.K fd ps ds) (hd : Vals dvs ds)
    (hx : Passes CX X E) (I : Inv X pins σ H s) (r : Vals vs us)
    (h : ∀ x dx, H x = none → H dx = none → dx ≠ x → sp (.ref x :: (vs ++ dvs)) (upd (upd H dx (.own x)) x (.ins C dx [])) (fun v H2 => v = .non ∧ Q (.ref x) H2) E) :
    wpAny (model X.prog X.w) X.A (call (.ref C) us) (EP X pins σ Q) X.xe s := by
  have hq := h (s.heap.objs.size + 1) s.heap.objs.size (I.hok.fresh (Nat.le_succ _)) (I.hok.fresh (Nat.le_refl _)) (Nat.ne_of_lt (Nat.lt_succ_self _))
  have I2 := Inv.made (C := C) I
  have r2 : Vals (V.ref (s.heap.objs.size + 1) :: (vs ++ dvs)) (Value.ref (s.heap.objs.size + 1) :: (us ++ ds)) := .cons rfl (r.append hd)
  have hl : (Value.ref (s.heap.objs.size + 1) :: us ++ ds).length = ps.length := by
    have e := r2.length
    rw [F.len _ _ _ _ hq] at e
    exact e.symm
  refine wpAny_call (make_map (f := f) I.kIn M.makes M.init (beq_iff_eq.mp M.fn) (codeAny_mono (F.run _ X.stack _ _ ⟨Value.ref (s.heap.objs.size + 1) :: us, []⟩ (Value.ref (s.heap.objs.size + 1) :: (us ++ ds)) _ _ E (hr.make C us [])
    (I2.env0.make C us []) (hb _ (Value.ref (s.heap.objs.size + 1) :: us) I2.kIn hl) r2 hq) fun r s' hq' => ?_))
  cases r with
  | error e => exact hx pins σ _ _ e s' I2 hq'
  | ok fl =>
    cases fl with
    | ret u =>
      obtain ⟨v, H', I3, rv, ev, q3⟩ := I2.after hq'
      subst ev
      exact ⟨rv, ⟨V.ref (s.heap.objs.size + 1), H', I3, rfl, q3⟩⟩
    | next => exact False.elim hq'
    | brk => exact False.elim hq'
    | cont => exact False.elim hq'
theorem pe_make (M : Mk X.K C f) (F : FnOk X.prog X.w X.K X.mg X.base CX k f fd ps sp) (hr : Room (k + 1) X.A) (hg : Gl X x) (hm : X.mg x = some (.ref C)) (hb : Binds X.K fd ps ds) (hd : Vals dvs ds) (hx : Passes CX X E)
    (ha : PA X (e :: es) t) (hdb : (x == ("__debug__" : Str)) = false := by decide) (he : starEach (e :: es) X.env = (false, eval e X.env) :: starEach es X.env := by rfl) (hpl : (backTo pos (starEach es X.env)).any (·.1) = false := by rfl) :
    PE X (.Call (.Name x p) (e :: es) [] pos) (tMake C sp dvs E t) := by
  intro pins s σ H Q I h
  refine wpAny_Call_Name_kw (ld_glob I hg hm ?_ hdb)
  refine PySem.W.callWith_K (h₀ := X.base) I.ok.mod.kin M.kp (thn (ha pos pins s σ H _ I h) fun us s1 ⟨vs, H1, I1, r, q⟩ => ⟨I1.kIn, ?_⟩) he hpl
  exact run_make M F hr hb hd hx I1 r q
end
section
variable {X : Cx} {CX : CXT} {k : Nat} {f C : Addr} {fd : FuncData} {ps ks : List Str} {sp : Sp} {E : XK} {x m : Str} {p pos apos kpos : Pos} {e o : Expr} {es : List Expr} {kws : List Keyword} {te ta : TE} {t tk : TA} {nm : Option Str}
structure KBinds (K : PySem.W.Frag) (fd : FuncData) (ps ks : List Str) (g : List Value → List Value → List Value) (gV : List V → List V → List V) : Prop where
  to : ∀ (s : Shared) (us ws : List Value), K.In s.heap → (g us ws).length = ps.length → BindsTo s fd ⟨us, ks.zip ws⟩ (ps.zip (g us ws))
  rel : ∀ {vs : List V} {us : List Value} {zs : List V} {ws : List Value}, Vals vs us → Vals zs ws → Vals (gV vs zs) (g us ws)
variable {g : List Value → List Value → List Value} {gV : List V → List V → List V}
end
structure FnScope (N P : List Str) (sc : Scope) : Prop where
  kind : sc.kind = .function
  co : sc.isCoroutine = false
  gen : sc.isGenerator = false
  nd : N.Nodup
  pre : N.take P.length = P
  par : ∀ x ∈ P, sc.names.lookup x = some .local ∨ sc.names.lookup x = some .cell
  nofree : ∀ y ∈ sc.names, y.2 ≠ .free
theorem bindL_out {kindOf : Str → Option NameKind} {x : Str} : ∀ {binds : List (Str × Value)} {m : Str → Option Value}, (∀ v, (x, v) ∉ binds) → bindL kindOf binds m x = m x
  | [], _, _ => rfl
  | (n, v) :: r, m, h => by
    unfold bindL
    rw [bindL_out fun w hw => h w (List.mem_cons_of_mem _ hw)]
    split
    · have : x ≠ n := by rintro rfl; exact h v List.mem_cons_self
      simp [this]
    · rfl
theorem bindC_out {kindOf : Str → Option NameKind} {x : Str} : ∀ {binds : List (Str × Value)} {m : Str → Option Value}, (∀ v, (x, v) ∉ binds) → bindC kindOf binds m x = m x
  | [], _, _ => rfl
  | (n, v) :: r, m, h => by
    unfold bindC
    rw [bindC_out fun w hw => h w (List.mem_cons_of_mem _ hw)]
    split
    · rfl
    · have : x ≠ n := by rintro rfl; exact h v List.mem_cons_self
      simp [this]
theorem bindL_get {kindOf : Str → Option NameKind} {x : Str} {v : Value} : ∀ {P : List Str} {vs : List Value} {i : Nat} {m : Str → Option Value}, P.Nodup → P[i]? = some x → vs[i]? = some v → kindOf x = some .local →
    bindL kindOf (P.zip vs) m x = some v
  | [], _, _, _, _, h, _, _ => by simp at h
  | _ :: _, [], _, _, _, _, h, _ => by simp at h
  | p :: P, w :: vs, 0, m, nd, h1, h2, hk => by
    simp at h1 h2; subst h1; subst h2
    show bindL kindOf ((p, w) :: P.zip vs) m p = _
    unfold bindL
    rw [bindL_out fun v hv => (List.nodup_cons.mp nd).1 (List.of_mem_zip hv).1, if_pos hk]
    simp
  | p :: P, w :: vs, i + 1, m, nd, h1, h2, hk => by
    show bindL kindOf ((p, w) :: P.zip vs) m x = _
    unfold bindL
    exact bindL_get (i := i) (List.nodup_cons.mp nd).2 (by simpa using h1) (by simpa using h2) hk
theorem bindC_get {kindOf : Str → Option NameKind} {x : Str} {v : Value} : ∀ {P : List Str} {vs : List Value} {i : Nat} {m : Str → Option Value}, P.Nodup → P[i]? = some x → vs[i]? = some v → kindOf x ≠ some .local →
    bindC kindOf (P.zip vs) m x = some v
  | [], _, _, _, _, h, _, _ => by simp at h
  | _ :: _, [], _, _, _, _, h, _ => by simp at h
  | p :: P, w :: vs, 0, m, nd, h1, h2, hk => by
    simp at h1 h2; subst h1; subst h2
    show bindC kindOf ((p, w) :: P.zip vs) m p = _
    unfold bindC
    rw [bindC_out fun v hv => (List.nodup_cons.mp nd).1 (List.of_mem_zip hv).1, if_neg hk]
    simp
  | p :: P, w :: vs, i + 1, m, nd, h1, h2, hk => by
    show bindC kindOf ((p, w) :: P.zip vs) m x = _
    unfold bindC
    exact bindC_get (i := i) (List.nodup_cons.mp nd).2 (by simpa using h1) (by simpa using h2) hk
noncomputable def start (N : List Str) (vs : List V) : St := vs.map some ++ List.replicate (N.length - vs.length) none
noncomputable def cxOf (CX : CXT) (P : Program) (w : World) (K : PySem.W.Frag) (mg : Str → Option Value) (base : Heap) (N : List Str) (qual : Str) (scope : Scope) (f : Addr) (cd : Value) (A : Around) (outer : List Env) (s : Shared) (H : Hp) (E : XK) : Cx where
  prog := P
  w := w
  K := K
  mg := mg
  base := base
  A := A.deeper (envOfC qual scope s.heap.objs.size f cd)
  N := N
  s₀ := s
  H₀ := H
  env := envOfC qual scope s.heap.objs.size f cd
  outer := outer
  stack := envOfC qual scope s.heap.objs.size f cd :: outer
  ex := []
  calm := true
  fn := fun _ => true
  pn := []
  xe := fun e s' => wpAny (model P w) (A.deeper (envOfC qual scope s.heap.objs.size f cd)) (leaving (envOfC qual scope s.heap.objs.size f cd) e) (fun _ s'' => CX outer H s E e s'') (fun e' s'' => CX outer H s E e' s'') s'
theorem cell_has {sc : Scope} {n : Nat} {x : Str} (h : sc.names.lookup x = some .cell) : ∃ c, (cellsFrom n sc.names []).lookup x = some c := by
  have q := PySem.W.cellsFrom_some sc.names n [] (.inl h)
  exact Option.isSome_iff_exists.mp q
theorem inv_start {CX : CXT} {P : Program} {w : World} {K : PySem.W.Frag} {mg : Str → Option Value} {base : Heap} {N ps : List Str} {qual : Str} {scope : Scope} {f : Addr} {cd : Value} {A : Around} {outer : List Env} {s s1 : Shared} {H : Hp} {E : XK} {us : List Value} {vs : List V}
    (S : FnScope N ps scope) (hd : A.handled = none) (e0 : Env0 P w K mg base A outer s H) (hl : vs.length = ps.length) (r : Vals vs us)
    (x : InCallC s s.heap.objs.size (bindL (envOfC qual scope s.heap.objs.size f cd).kindOf (ps.zip us) fun _ => none) (cellsFrom (s.heap.objs.size + 1) scope.names []) (bindC (envOfC qual scope s.heap.objs.size f cd).kindOf (ps.zip us) fun _ => none) s1) :
    Inv (cxOf CX P w K mg base N qual scope f cd A outer s H E) [] (start N vs) H s1 := by
  have hpl : ps.length ≤ N.length := by have := congrArg List.length S.pre; rw [List.length_take] at this; omega
  obtain ⟨h1, tk, rfl, hk⟩ := x.done
  have noA : ∀ b : Addr, b ∉ (cxOf CX P w K mg base N qual scope f cd A outer s H E).ex := fun b z => absurd (show b ∈ ([] : List Addr) from z) (by simp)
  refine ⟨⟨e0.mod, S.kind, rfl, rfl, Nat.le_refl _, fun y z c h1 h2 => ?_, fun y hy => ?_, fun y c _ h => ?_, fun _ => hd, Around.frames_deeper e0.frames, .inr ⟨rfl, rfl⟩, fun b z => absurd z (noA b), e0.bs, e0.bsz, fun b _ _ => noA b, fun b z => absurd z (noA b), e0.funs, e0.frf⟩,
    rfl, e0.bare, Un.kept hk, ⟨_, x.toInCall.ns, fun i y v h1 h2 h3 => ?_⟩, fun y c h => ⟨_, x.cell y c h⟩, e0.hok.fresh (Nat.le_refl _), fun y c h => ?_, fun p hp => absurd (show p ∈ ([] : List (Addr × Obj)) from hp) (by simp), e0.hok.kept hk, ?_⟩
  · exact name_of_addr x.apart (PySem.mem_of_lookup h1) (PySem.mem_of_lookup h2)
  · have hy : scope.names.lookup y = some .cell ∨ scope.names.lookup y = some .free := hy
    rcases hy with hy | hy
    · exact cell_has hy
    · exact absurd rfl (S.nofree _ (PySem.mem_of_lookup hy))
  · exact Nat.le_of_lt (x.above y c (PySem.mem_of_lookup h))
  · have hi : i < vs.length := by
      unfold start at h2
      by_cases hi : i < vs.length
      · exact hi
      · rw [List.getElem?_append_right (by simpa using hi)] at h2
        rw [List.getElem?_replicate] at h2
        split at h2 <;> cases h2
    have ha : vs[i]? = some v := by
      unfold start at h2
      rw [List.getElem?_append_left (by simpa using hi), List.getElem?_map] at h2
      cases e : vs[i]? with
      | none => rw [e] at h2; cases h2
      | some a => rw [e] at h2; cases h2; rfl
    obtain ⟨u, hu, rv⟩ := r.get ha
    have hp : ps[i]? = some y := by
      rw [← S.pre, List.getElem?_take_of_lt (by omega)]; exact h1
    have ndP : ps.Nodup := by rw [← S.pre]; exact S.nd.sublist (List.take_sublist _ _)
    refine ⟨u, rv, ?_⟩
    rcases S.par y (List.mem_of_getElem? hp) with k | k
    · exact .inl ⟨k, bindL_get ndP hp hu k⟩
    · obtain ⟨c, e⟩ := cell_has (n := s.heap.objs.size + 1) k
      refine .inr ⟨.inl k, c, e, ?_⟩
      have q := x.cell y c e
      rw [bindC_get ndP hp hu (by show scope.names.lookup y ≠ _; rw [k]; decide)] at q
      exact q
  · exact e0.hok.fresh (Nat.le_of_lt (x.above y c (PySem.mem_of_lookup h)))
  · unfold start
    show _ = N.length
    rw [List.length_append, List.length_map, List.length_replicate]
    omega
theorem fn_of {CX : CXT} {P : Program} {w : World} {K : PySem.W.Frag} {mg : Str → Option Value} {base : Heap} {k : Nat} {f : Addr} {name qual : Str} {params : Arguments} {body : List Stmt} {scope : Scope} {dV kV doc pm cdv ct oc : Value} {an od : Option Addr}
    {osl : Array (Option Value)} {N ps : List Str} {sp : Sp} (lk : K.lookup f = some ⟨oc, od, .func (PySem.W.fnOf name qual params body scope dV kV doc pm an cdv ct), osl⟩) (hcd : PySem.W.codeIn K cdv qual = true) (S : FnScope N ps scope)
    (len : ∀ vs H Q E, sp vs H Q E → vs.length = ps.length)
    (hbody : ∀ (A : Around) (outer : List Env) (s : Shared) (H : Hp) (vs : List V) (Q : VK) (E : XK), Room k (A.deeper (envOfC qual scope s.heap.objs.size f cdv)) → sp vs H Q E →
      ∃ t, PSs (cxOf CX P w K mg base N qual scope f cdv A outer s H E) body t ∧ t { nx := fun _ H' => Q .non H', rt := Q } (start N vs) H) :
    FnOk P w K mg base CX (k + 1) f (PySem.W.fnOf name qual params body scope dV kV doc pm an cdv ct) ps sp := by
  refine ⟨len, fun A outer s H args us vs Q E hr e0 hb r hsp => ?_⟩
  have hl := len _ _ _ _ hsp
  have KX : K.In s.heap := e0.mod.kin.keeps fun b o e => (e0.bs b o e).1
  have lim : s.heap.NoLimit := e0.mod.nolimit.keeps fun b o e => (e0.bs b o e).1
  have hkind : ∀ y ∈ ps.zip us, scope.names.lookup y.1 = some .local ∨ (scope.names.lookup y.1 = some .cell ∧ ((cellsFrom (s.heap.objs.size + 1) scope.names []).lookup y.1).isSome = true) := fun ⟨n, v⟩ hy => by
    rcases S.par n (List.of_mem_zip hy).1 with q | q
    · exact .inl q
    · exact .inr ⟨q, PySem.W.cellsFrom_some _ _ _ (.inl q)⟩
  refine codeAny_call_function hr.depth (KX _ _ lk) rfl S.co S.gen rfl (PySem.W.codeRec_of KX hcd) (hb _ _ _ _ ?_)
  refine wpAny_newFunctionEnv_cells S.kind hkind fun env he s1 x => ?_
  subst he
  refine ⟨lim.keeps x.toInCall.keep, codeAny_func ?_⟩
  obtain ⟨t, ht, hq⟩ := hbody A outer s H vs Q E (hr.deeper _) hsp
  have I : Inv (cxOf CX P w K mg base N qual scope f cdv A outer s H E) [] (start N vs) H s1 := inv_start S hr.hd e0 hl r x
  refine wpAny_mono (ht [] s1 (start N vs) H _ I hq) (fun fl s' hs => ?_) fun e s' hs => hs
  have fin : ∀ {σ' : St} {H' : Hp} {v : V} {u : Value}, Inv (cxOf CX P w K mg base N qual scope f cdv A outer s H E) [] σ' H' s' → RelV v u → Q v H' → CE outer P w H s Q u s' :=
    fun {σ' H' v u} J rv q => ⟨v, H', J.os, J.bare, J.base, J.hok, rv, q⟩
  cases fl with
  | ret u =>
    obtain ⟨v, σ', H', J, rv, q⟩ := hs
    exact fin J rv q
  | next =>
    obtain ⟨σ', H', J, q⟩ := hs
    exact fin (v := V.non) (u := Value.none) J rfl q
  | brk =>
    obtain ⟨_, _, _, q⟩ := hs
    exact False.elim q
  | cont =>
    obtain ⟨_, _, _, q⟩ := hs
    exact False.elim q
end L2
namespace L2
open PySem PySem.Spec PyProof.Rows
section
variable {X : Cx} {x : Str} {p pos : Pos} {e : Expr} {es : List Expr} {t : TA} {id T : String} {r : List V → Hp → VK → Prop}
noncomputable def tCB (r : List V → Hp → VK → Prop) (t : TA) : TE := fun σ H Q => t σ H fun vs H1 => r vs H1 Q
theorem pe_callB (hc : CallR X (.builtin id) r) (hg : Gl X x) (hm : X.mg x = none) (hv : bootBuiltins x = some (.builtin id)) (ha : PA X (e :: es) t) (hn : x ≠ "__name__" := by decide) (hdb : (x == ("__debug__" : Str)) = false := by decide)
    (he : starEach (e :: es) X.env = (false, eval e X.env) :: starEach es X.env := by rfl) (hpl : (backTo pos (starEach es X.env)).any (·.1) = false := by rfl) : PE X (.Call (.Name x p) (e :: es) [] pos) (tCB r t) := by
  intro pins s σ H Q I h
  refine wpAny_Call_Name_kw (ld_blt I hg hm hv ?_ hn hdb)
  exact PyProof.Rows.callWith_builtin1 (thn (ha pos pins s σ H _ I h) fun us s1 ⟨vs, H1, I1, r1, q1⟩ => hc pins s1 σ H1 vs us Q I1 r1 q1) he hpl
theorem pe_callTy (hc : CallR X (.type T) r) (hg : Gl X x) (hm : X.mg x = none) (hv : bootBuiltins x = some (.type T)) (ha : PA X (e :: es) t) (hn : x ≠ "__name__" := by decide) (hdb : (x == ("__debug__" : Str)) = false := by decide)
    (he : starEach (e :: es) X.env = (false, eval e X.env) :: starEach es X.env := by rfl) (hpl : (backTo pos (starEach es X.env)).any (·.1) = false := by rfl) : PE X (.Call (.Name x p) (e :: es) [] pos) (tCB r t) := by
  intro pins s σ H Q I h
  refine wpAny_Call_Name_kw (ld_blt I hg hm hv ?_ hn hdb)
  exact PyProof.Rows.callWith_type1 (thn (ha pos pins s σ H _ I h) fun us s1 ⟨vs, H1, I1, r1, q1⟩ => hc pins s1 σ H1 vs us Q I1 r1 q1) he hpl
end
end L2
namespace HT
open PySem PyProof.Rows
section
open PySem.SeqAt
open PySem.AutoSeq1 (wpAny_loadPart')
open PySem.MeetsSeq PySem.MeetsSeq2 PySem.MeetsSeq3
end
section
variable {prog : Program} {w : World} {A : Around} {E : Value → Shared → Prop} {s : Shared}
theorem cat_tup {t b : Addr} {vs ws : List Value} {Q : Value → Shared → Prop} (ht : IsTup s.heap t vs.toArray) (hb : IsTup s.heap b ws.toArray) (hv : vs ≠ [])
    (h1 : ws = [] → Q (.ref t) s) (h2 : ws ≠ [] → Q (.ref s.heap.objs.size) { s with heap := s.heap.push { cls := .type "tuple", data := .seq (vs ++ ws).toArray } })
    (hsz : vs.length + ws.length ≤ sizeLine) : wpAny (model prog w) A (binaryOp .Add (.ref t) (.ref b)) Q E s := by
  obtain ⟨⟨cls, dd, data, sl⟩, ho, hc, n, hd⟩ := id ht
  obtain ⟨⟨cls2, dd2, data2, sl2⟩, ho2, hc2, n2, hd2⟩ := id hb
  simp only at hc hd hc2 hd2
  subst hc hd hc2 hd2
  have e : vs.toArray ++ ws.toArray = (vs ++ ws).toArray := by simp
  by_cases hw : ws = []
  · exact concat_meets ⟨_, ho, rfl⟩ ⟨_, ho2, rfl⟩ noFill_tuple_add seq_tuple_add PySem.F.slot_tuple_add PySem.F.entry_tuple_add (PySem.F.args_tuple_add_2 _ _)
      (tuple_addW1 t b vs.toArray ws.toArray n n2 dd dd2 sl sl2 (by simpa using hv) (by simp [hw])) ⟨ho, ho2, h1 hw⟩
  · refine concat_meets ⟨_, ho, rfl⟩ ⟨_, ho2, rfl⟩ noFill_tuple_add seq_tuple_add PySem.F.slot_tuple_add PySem.F.entry_tuple_add (PySem.F.args_tuple_add_2 _ _)
      (tuple_addW2 t b vs.toArray ws.toArray n n2 dd dd2 sl sl2 (by simpa using hv) (by simpa using hw) (by rw [List.size_toArray, List.size_toArray]; exact hsz)) ⟨ho, ho2, ?_⟩
    rw [e]
    exact h2 hw
noncomputable def sIx (n d : Nat) : Option Int → Nat
  | none => d
  | some v => if v < 0 then (v + (n : Int)).toNat else min v.toNat n
theorem sIx_le (n d : Nat) (hd : d ≤ n) (o : Option Int) : sIx n d o ≤ n := by
  cases o with
  | none => exact hd
  | some v =>
    show (if v < 0 then (v + (n : Int)).toNat else min v.toNat n) ≤ n
    by_cases hv : v < 0
    · rw [if_pos hv]; omega
    · rw [if_neg hv]; exact Nat.min_le_right _ _
theorem clip_eq (v : Int) (n d : Nat) : (if v < 0 then max (v + (n : Int)) 0 else min v (n : Int)) = ((sIx n d (some v) : Nat) : Int) := by
  show (if v < 0 then max (v + (n : Int)) 0 else min v (n : Int)) = (((if v < 0 then (v + (n : Int)).toNat else min v.toNat n) : Nat) : Int)
  by_cases hv : v < 0
  · simp only [if_pos hv]; omega
  · simp only [if_neg hv]; omega
theorem adjust_gen (lo hi : Option Int) (n : Nat) : Builtin.Slice.sliceAdjust lo hi 1 (n : Int) = (((sIx n 0 lo : Nat) : Int), ((sIx n n hi : Nat) : Int)) := by
  have h1 : ¬ ((1 : Int) < 0) := by omega
  unfold Builtin.Slice.sliceAdjust
  simp only [h1, if_false]
  refine Prod.ext ?_ ?_
  · cases lo with
    | none => rfl
    | some v => exact clip_eq v n 0
  · cases hi with
    | none => rfl
    | some v => exact clip_eq v n n
theorem places_gen (i j : Nat) : Builtin.Slice.slicePlaces (i : Int) (j : Int) 1 = j - i := by
  unfold Builtin.Slice.slicePlaces
  have h1 : (1 : Int) > 0 := by omega
  simp only [h1, if_true, Int.ediv_one]
  split <;> omega
theorem slicePart_ {v : Value} {o : Option Int} {Q : Option Int → Shared → Prop} (p : IsPart v o) (h : Q o s) : wpAny (model prog w) A (Builtin.Slice.slicePartIndex v) Q E s := by
  cases p with
  | none => exact slicePart_none h
  | int i t => exact slicePart_int h
theorem sliceApplied_gen {sl : Addr} {vl vu : Value} {lo hi : Option Int} {n : Nat} {Q : Int × Int × Nat → Shared → Prop} (hs : s.heap.IsSliceOf sl vl vu .none) (pl : IsPart vl lo) (pu : IsPart vu hi)
    (h : Q (((sIx n 0 lo : Nat) : Int), 1, sIx n n hi - sIx n 0 lo) s) : wpAny (model prog w) A (Builtin.Slice.sliceApplied (.ref sl) (pure (n : Int))) Q E s := by
  obtain ⟨os, hos, hcs, hds⟩ := id hs
  unfold Builtin.Slice.sliceApplied Builtin.Slice.sliceFields
  refine wpAny_bind (wpAny_bind (wpAny_field hos hds (x := vl) rfl (wpAny_bind (wpAny_field hos hds (x := vu) rfl (wpAny_bind (wpAny_field hos hds (x := .none) rfl (wpAny_pure ?_)))))))
  refine wpAny_bind (slicePart_none ?_)
  show wpAny _ _ (if ((1 : Int) == 0) = true then _ else _) _ _ s
  rw [if_neg (by decide)]
  refine wpAny_bind (slicePart_ pl (wpAny_bind (slicePart_ pu (wpAny_bind (wpAny_pure ?_)))))
  show wpAny _ _ (match Builtin.Slice.sliceAdjust lo hi 1 (n : Int) with | (lo, hi) => pure (lo, (1 : Int), Builtin.Slice.slicePlaces lo hi 1)) _ _ s
  rw [adjust_gen lo hi n]
  show wpAny _ _ (pure (((sIx n 0 lo : Nat) : Int), (1 : Int), Builtin.Slice.slicePlaces ((sIx n 0 lo : Nat) : Int) ((sIx n n hi : Nat) : Int) 1)) _ _ s
  rw [places_gen]
  exact wpAny_pure h
theorem pick_gen (xs : Array Value) (i k : Nat) : ((List.range k).filterMap fun (m : Nat) => xs[((i : Int) + (m : Int) * 1).toNat]?).toArray = ((xs.toList.drop i).take k).toArray := by
  have e : (fun (m : Nat) => xs[((i : Int) + (m : Int) * 1).toNat]?) = fun m => xs[i + m]? := by
    funext m
    have : ((i : Int) + (m : Int) * 1).toNat = i + m := by omega
    rw [this]
  rw [e]
  have := pick_run xs i k
  rw [List.filterMap_map] at this
  have e2 : ((fun x => xs[x]?) ∘ fun x => i + x) = fun m => xs[i + m]? := rfl
  rw [e2] at this
  rw [this]
theorem getItem_tuple_cut {t sl : Addr} {items : Array Value} {vl vu : Value} {lo hi : Option Int} {Q : Value → Shared → Prop} (ht : IsTup s.heap t items) (hs : s.heap.IsSliceOf sl vl vu .none) (pl : IsPart vl lo) (pu : IsPart vu hi)
    (hw : ¬ (sIx items.size 0 lo = 0 ∧ sIx items.size items.size hi = items.size))
    (h : Q (.ref s.heap.objs.size) { s with heap := s.heap.push { cls := .type "tuple", data := .seq ((items.toList.drop (sIx items.size 0 lo)).take (sIx items.size items.size hi - sIx items.size 0 lo)).toArray } })
    (hsz : items.size ≤ sizeLine) : wpAny (model prog w) A (getItem (.ref t) (.ref sl)) Q E s := by
  have htake : sizeOk (.seq ((items.toList.drop (sIx items.size 0 lo)).take (sIx items.size items.size hi - sIx items.size 0 lo)).toArray) := by
    show ((items.toList.drop (sIx items.size 0 lo)).take (sIx items.size items.size hi - sIx items.size 0 lo)).toArray.size ≤ sizeLine
    rw [List.size_toArray, List.length_take, List.length_drop, Array.length_toList]
    omega
  have hj : sIx items.size items.size hi ≤ items.size := sIx_le _ _ (Nat.le_refl _) hi
  obtain ⟨os, hos, hcs, hds⟩ := id hs
  have hTs : s.TypeIs (.ref sl) "slice" := ⟨os, hos, hcs⟩
  unfold getItem
  try with_reducible refine wpAny_holding ?_
  first | refine wpAny_bind (wpAny_pure ?_) | skip
  refine wpAny_bind (wpAny_sequenceKey ht.typeIs (by decide) ?_)
  refine wpAny_bind (wpAny_callSpecial?_slot (name := Str.ofString "__getitem__") ht.typeIs PyProof.Rows.slot_tuple_getitem
    (wpAny_call_entry PyProof.Rows.slot_tuple_getitem ht.typeIs entry_tuple_getitem ?_ (args_tuple_getitem _ _)))
  show wpAny _ _ (Builtin.Tuple.tupleItemsOf (.ref t) >>= _) _ _ s
  refine wpAny_bind (tupleItemsOf_ ht ?_)
  refine wpAny_bind (wpAny_typeOf hTs ?_)
  rw [if_pos (by decide)]
  refine wpAny_bind (sliceApplied_gen hs pl pu ?_)
  have hno : ¬ ((((sIx items.size 0 lo : Nat) : Int) == 0 && (1 : Int) == 1 && (sIx items.size items.size hi - sIx items.size 0 lo) == items.size) = true) := by
    intro q
    rw [Bool.and_eq_true, Bool.and_eq_true] at q
    have q1 : ((sIx items.size 0 lo : Nat) : Int) = 0 := eq_of_beq q.1.1
    have q2 : sIx items.size items.size hi - sIx items.size 0 lo = items.size := eq_of_beq q.2
    exact hw ⟨by omega, by omega⟩
  show wpAny _ _ (if (((sIx items.size 0 lo : Nat) : Int) == 0 && (1 : Int) == 1 && (sIx items.size items.size hi - sIx items.size 0 lo) == items.size) = true then _ else _) _ _ s
  rw [if_neg hno, pick_gen]
  first
    | exact wpAny_bind (m := Builtin.Tuple.tupleExact _) (wpAny_newObj_type (wpAny_pure ⟨_, rfl, wpAny_pure h⟩) htake)
    | exact wpAny_bind (m := Builtin.Tuple.tupleExact _) (wpAny_newObj_type (wpAny_bind (wpAny_pure (wpAny_pure ⟨_, rfl, wpAny_pure h⟩))) htake)
    | exact wpAny_bind (wpAny_bind (m := Builtin.Tuple.tupleExact _) (wpAny_newObj_type (wpAny_pure (wpAny_pure ⟨_, rfl, wpAny_pure h⟩)) htake))
    | exact wpAny_bind (wpAny_bind (m := Builtin.Tuple.tupleExact _) (wpAny_newObj_type (wpAny_pure ⟨_, rfl, wpAny_pure h⟩) htake))
end
end HT
namespace L2
open PySem PySem.Spec PyProof.Rows
noncomputable abbrev TO := St → Hp → (Option Int → Hp → Prop) → Prop
noncomputable def PO (X : Cx) (e : Option Expr) (t : TO) : Prop :=
  ∀ (pins : List (Addr × Obj)) (s : Shared) (σ : St) (H : Hp) (Q : Option Int → Hp → Prop), Inv X pins σ H s → t σ H Q →
    wpAny (model X.prog X.w) X.A (evalPart e X.env) (fun u s' => ∃ o H', Inv X pins σ H' s' ∧ IsPart u o ∧ Q o H') X.xe s
noncomputable def tNoPart : TO := fun _ H Q => Q none H
noncomputable def tPart (t : TE) : TO := fun σ H Q => t σ H fun x H1 => ∃ i, x = .int i ∧ Q (some i) H1
section
variable {X : Cx} {e : Expr} {te : TE} {lo hi : Option Expr} {tl th : TO} {pos p2 : Pos}
theorem po_none : PO X none tNoPart := by
  intro pins s σ H Q I h
  rw [evalPart_none]
  exact wpAny_pure ⟨none, H, I, .none, h⟩
theorem po_some (h : PE X e te) : PO X (some e) (tPart te) := by
  intro pins s σ H Q I hw
  rw [evalPart_some]
  refine thn (h pins s σ H _ I hw) fun u s1 ⟨x, H1, I1, r1, q1⟩ => ?_
  obtain ⟨i, rfl, q⟩ := q1
  obtain ⟨t, rfl⟩ := r1
  exact ⟨some i, H1, I1, .int i t, q⟩
noncomputable def SlR (X : Cx) (r : V → Option Int → Option Int → Hp → VK → Prop) : Prop :=
  ∀ (pins : List (Addr × Obj)) (s : Shared) (σ : St) (H : Hp) (x : V) (v vl vu : Value) (lo hi : Option Int) (sl : Addr) (Q : VK), Inv X pins σ H s → RelV x v → s.heap.IsSliceOf sl vl vu .none → IsPart vl lo → IsPart vu hi → r x lo hi H Q →
    ∃ T id, typeLookup (.type T) "__getitem__" = pure (some (.builtin id)) ∧ s.TypeIs v T ∧ wpAny (model X.prog X.w) X.A (getItem v (.ref sl)) (EP X pins σ Q) X.xe s
theorem SlR.or {r r' : V → Option Int → Option Int → Hp → VK → Prop} (h : SlR X r) (h' : SlR X r') : SlR X (fun x lo hi H Q => r x lo hi H Q ∨ r' x lo hi H Q) := by
  intro pins s σ H x v vl vu lo hi sl Q I rx hs pl pu q
  rcases q with q | q
  · exact h pins s σ H x v vl vu lo hi sl Q I rx hs pl pu q
  · exact h' pins s σ H x v vl vu lo hi sl Q I rx hs pl pu q
noncomputable def tSl (r : V → Option Int → Option Int → Hp → VK → Prop) (te : TE) (tl th : TO) : TE := fun σ H Q => te σ H fun x H1 => tl σ H1 fun l H2 => th σ H2 fun u H3 => r x l u H3 Q
theorem pe_slice {r : V → Option Int → Option Int → Hp → VK → Prop} (hr : SlR X r) (he : PE X e te) (hl : PO X lo tl) (hu : PO X hi th) : PE X (.Subscript e (.Slice lo hi none p2) pos) (tSl r te tl th) := by
  intro pins s σ H Q I h
  refine Subscript_ (thn (he pins s σ H _ I h) fun v s1 ⟨x, H1, I1, r1, q1⟩ => ?_)
  refine wpAny_Slice (thn (hl pins s1 σ H1 _ I1 q1) fun vl s2 ⟨l, H2, I2, pl, q2⟩ => thn (hu pins s2 σ H2 _ I2 q2) fun vu s3 ⟨u, H3, I3, pu, q3⟩ => ?_)
  rw [evalPart_none]
  refine wpAny_pure ?_
  have I4 : Inv X pins σ H3 { s3 with heap := s3.heap.push { cls := .type "slice", data := .fields #[vl, vu, .none] } } := I3.kept (t' := s3.toks) fun b ob q => Heap.get?_push_of_some _ q
  obtain ⟨T, id, hT, ht, hg⟩ := hr pins { s3 with heap := s3.heap.push { cls := .type "slice", data := .fields #[vl, vu, .none] } } σ H3 x v vl vu l u s3.heap.objs.size Q I4 r1 (Heap.IsSliceOf.new ..) pl pu q3
  show wpAny (model X.prog X.w) X.A (subscriptTail e (.Slice lo hi none p2) v (.ref s3.heap.objs.size)) (EP X pins σ Q) X.xe { s3 with heap := s3.heap.push { cls := .type "slice", data := .fields #[vl, vu, .none] } }
  exact tail_any (ops := [.ref s3.heap.objs.size, v]) ht hT hg (by with_unfolding_all rfl)
noncomputable def cutV (xs : List V) (lo hi : Option Int) : List V := (xs.drop (HT.sIx xs.length 0 lo)).take (HT.sIx xs.length xs.length hi - HT.sIx xs.length 0 lo)
theorem cutV_length (xs : List V) (lo hi : Option Int) : (cutV xs lo hi).length ≤ xs.length := by
  unfold cutV
  rw [List.length_take, List.length_drop]
  omega
noncomputable def rSlT (K : PySem.W.Frag) : V → Option Int → Option Int → Hp → VK → Prop := fun x lo hi H Q => ∃ a xs, x = .ref a ∧ SqT K H a xs ∧
  ¬ (HT.sIx xs.length 0 lo = 0 ∧ HT.sIx xs.length xs.length hi = xs.length) ∧ ∀ p, H p = none → Q (.ref p) (upd H p (.tup (cutV xs lo hi)))
theorem sl_tup : SlR X (rSlT X.K) := by
  intro pins s σ H x v vl vu lo hi sl Q I rx hs pl pu h
  obtain ⟨a, xs, rfl, hx, hw, q⟩ := h
  cases rx
  obtain ⟨its, r, ht, hz⟩ := I.tuple hx
  have hlen : its.toArray.size = xs.length := by rw [List.size_toArray]; exact r.length.symm
  refine ⟨"tuple", _, PyProof.Rows.slot_tuple_getitem.lookup, ht.typeIs, ?_⟩
  refine HT.getItem_tuple_cut ht hs pl pu (by rw [hlen]; exact hw) ?_ (by rw [hlen]; exact hz)
  rw [hlen]
  refine ⟨.ref s.heap.objs.size, _, I.laid (t' := s.toks) (o := .tup (cutV xs lo hi)) (fun b ob q => Heap.get?_push_of_some _ q) (Nat.le_refl _) ?_, rfl, q _ (I.hok.fresh (Nat.le_refl _))⟩
  exact ⟨Nat.le_trans (cutV_length xs lo hi) hz, _, (r.drop (HT.sIx xs.length 0 lo)).take (HT.sIx xs.length xs.length hi - HT.sIx xs.length 0 lo), IsTup.new _ _⟩
noncomputable def rCatT (K : PySem.W.Frag) : R2 := fun x y H Q => ∃ a b xs ys, x = .ref a ∧ y = .ref b ∧ SqT K H a xs ∧ SqT K H b ys ∧ xs ≠ [] ∧ xs.length + ys.length ≤ sizeLine ∧
  (ys = [] → Q (.ref a) H) ∧ (ys ≠ [] → ∀ p, H p = none → Q (.ref p) (upd H p (.tup (xs ++ ys))))
theorem Vals.nil_iff {xs : List V} {us : List Value} (r : Vals xs us) : us = [] ↔ xs = [] := by
  cases r with
  | nil => simp
  | cons _ _ => simp
theorem op_catT : OpR X (binaryOp .Add) (rCatT X.K) := by
  intro pins s σ H x y v u Q I rx ry h
  obtain ⟨a, b, xs, ys, rfl, rfl, ha, hb, hx, hz, q1, q2⟩ := h
  cases rx
  cases ry
  obtain ⟨its, r1, p1, _⟩ := I.tuple ha
  obtain ⟨its2, r2, p2, _⟩ := I.tuple hb
  refine HT.cat_tup p1 p2 (fun z => hx (r1.nil_iff.mp z)) (fun z => ⟨.ref a, H, I, rfl, q1 (r2.nil_iff.mp z)⟩) (fun z => ?_) (by rw [← r1.length, ← r2.length]; exact hz)
  refine ⟨.ref s.heap.objs.size, _, I.laid (t' := s.toks) (o := .tup (xs ++ ys)) (fun b ob q => Heap.get?_push_of_some _ q) (Nat.le_refl _) ?_, rfl, q2 (fun w => z (r2.nil_iff.mpr w)) _ (I.hok.fresh (Nat.le_refl _))⟩
  exact ⟨by rw [List.length_append]; exact hz, _, r1.append r2, IsTup.new _ _⟩
end
end L2
namespace L2
open PySem PySem.Spec PyProof.Rows
noncomputable def ixN (n : Nat) (i : Int) : Option Nat := if 0 ≤ i then (if i < n then some i.toNat else none) else if -(n : Int) ≤ i then some (i + n).toNat else none
noncomputable def atI {α : Type} (xs : List α) (i : Int) : Option α := (ixN xs.length i).bind fun j => xs[j]?
theorem ixN_seq {n : Nat} {i : Int} {j : Nat} (h : ixN n i = some j) : seqIndex? i n = some j ∧ j < n ∧ -(n : Int) ≤ i ∧ i < n := by
  unfold ixN at h
  by_cases h0 : 0 ≤ i
  · rw [if_pos h0] at h
    by_cases h1 : i < n
    · rw [if_pos h1] at h
      have e : i.toNat = j := Option.some.inj h
      exact ⟨by rw [seqIndex_of h0 h1, e], by omega, by omega, h1⟩
    · rw [if_neg h1] at h; cases h
  · rw [if_neg h0] at h
    by_cases h1 : -(n : Int) ≤ i
    · rw [if_pos h1] at h
      have e : (i + n).toNat = j := Option.some.inj h
      exact ⟨by rw [seqIndex_neg (by omega) h1, e], by omega, h1, by omega⟩
    · rw [if_neg h1] at h; cases h
theorem atI_get {α : Type} {xs : List α} {i : Int} {v : α} (h : atI xs i = some v) : ∃ j, seqIndex? i xs.length = some j ∧ xs[j]? = some v ∧ j < xs.length ∧ -(xs.length : Int) ≤ i ∧ i < xs.length := by
  unfold atI at h
  cases e : ixN xs.length i with
  | none => rw [e] at h; cases h
  | some j =>
    rw [e] at h
    obtain ⟨h1, h2, h3, h4⟩ := ixN_seq e
    exact ⟨j, h1, h, h2, h3, h4⟩
noncomputable def PlainIx (b : Expr) : Prop := ∀ o i, subscripted b false o i = operate [o, i] (getItem o i)
noncomputable def IxR (X : Cx) (r : R2) : Prop :=
  ∀ (value slice : Expr) (pins : List (Addr × Obj)) (s : Shared) (σ : St) (H : Hp) (x y : V) (v u : Value) (Q : VK), Inv X pins σ H s → RelV x v → RelV y u → r x y H Q →
    subscripted slice false v u = operate [v, u] (getItem v u) → wpAny (model X.prog X.w) X.A (subscriptTail value slice v u) (EP X pins σ Q) X.xe s
noncomputable def MtR (X : Cx) (id : String) (r : V → List V → Hp → VK → Prop) : Prop :=
  ∀ (pins : List (Addr × Obj)) (s : Shared) (σ : St) (H : Hp) (x : V) (xs : List V) (v : Value) (us : List Value) (Q : VK), Inv X pins σ H s → RelV x v → Vals xs us → r x xs H Q →
    wpAny (model X.prog X.w) X.A (call (.builtin id) (v :: us)) (EP X pins σ Q) X.xe s
section
variable {X : Cx} {a b : Expr} {ta tb : TE} {pos : Pos}
theorem IxR.or {r r' : R2} (h : IxR X r) (h' : IxR X r') : IxR X (fun x y H Q => r x y H Q ∨ r' x y H Q) := by
  intro value slice pins s σ H x y v u Q I rx ry q hs
  rcases q with q | q
  · exact h value slice pins s σ H x y v u Q I rx ry q hs
  · exact h' value slice pins s σ H x y v u Q I rx ry q hs
theorem pe_ix {r : R2} (hr : IxR X r) (ha : PE X a ta) (hb : PE X b tb) (hs : PlainIx b) : PE X (.Subscript a b pos) (tOp r ta tb) := by
  intro pins s σ H Q I h
  exact Subscript_ (binT ha hb I h fun v u s2 x y H2 I2 rx ry q => hr a b pins s2 σ H2 x y v u Q I2 rx ry q (hs _ _))
noncomputable def rIxL (K : PySem.W.Frag) : R2 := fun x y H Q => ∃ p xs i v, x = .ref p ∧ y = .int i ∧ SqL K H p xs ∧ atI xs i = some v ∧ Q v H
noncomputable def rIxT (K : PySem.W.Frag) : R2 := fun x y H Q => ∃ p xs i v, x = .ref p ∧ y = .int i ∧ SqT K H p xs ∧ atI xs i = some v ∧ Q v H
noncomputable def rIxS : R2 := fun x y H Q => ∃ z i c, x = .str z ∧ y = .int i ∧ z.length ≤ sizeLine ∧ atI z.cps.toList i = some c ∧ Q (.str ⟨#[c]⟩) H
theorem ix_list : IxR X (rIxL X.K) := by
  intro value slice pins s σ H x y v u Q I rx ry h hs
  obtain ⟨p, xs, i, z, rfl, rfl, hq, he, q⟩ := h
  cases rx
  obtain ⟨t, rfl⟩ := ry
  obtain ⟨its, r, pl, hz⟩ := I.list hq
  obtain ⟨j, h1, h2, h3, h4, h5⟩ := atI_get he
  obtain ⟨w, ew, rw'⟩ := r.get h2
  have hl := r.length
  have hn := line63
  have fin : EP X pins σ Q w s := ⟨z, H, I, rw', q⟩
  by_cases h0 : 0 ≤ i
  · have hj : i.toNat = j := by
      rw [seqIndex_of h0 h5] at h1
      exact Option.some.inj h1
    exact item_listR pl.isList h0 (by omega) (by rw [hj]; simpa using ew) fin hs
  · have hj : (i + (its.toArray.size : Int)).toNat = j := by
      rw [seqIndex_neg (by omega) h4] at h1
      rw [List.size_toArray, ← hl]
      exact Option.some.inj h1
    exact subscriptTail_builtinR (x := w) pl.isList.typeIs slot_list_getitem.lookup
      (wpAny_getItem_list_neg (Q := fun r s' => r = w ∧ EP X pins σ Q r s') pl.isList (by omega) (by rw [List.size_toArray] <;> omega) (by omega) (by rw [hj]; simpa using ew) ⟨rfl, fin⟩) hs
theorem ix_tup : IxR X (rIxT X.K) := by
  intro value slice pins s σ H x y v u Q I rx ry h hs
  obtain ⟨p, xs, i, z, rfl, rfl, hq, he, q⟩ := h
  cases rx
  obtain ⟨t, rfl⟩ := ry
  obtain ⟨its, r, pl, hz⟩ := I.tuple hq
  obtain ⟨j, h1, h2, h3, h4, h5⟩ := atI_get he
  obtain ⟨w, ew, rw'⟩ := r.get h2
  have hl := r.length
  have hn := line63
  have fin : EP X pins σ Q w s := ⟨z, H, I, rw', q⟩
  exact subscriptTail_builtinR (x := w) pl.typeIs slot_tuple_getitem.lookup
    (getItem_tuple (j := j) (Q := fun r s' => r = w ∧ EP X pins σ Q r s') pl (by omega) (by omega) (by rw [List.size_toArray, ← hl]; exact h1) (by simpa using ew) ⟨rfl, fin⟩) hs
theorem ix_str : IxR X rIxS := by
  intro value slice pins s σ H x y v u Q I rx ry h hs
  obtain ⟨z, i, c, rfl, rfl, hz, he, q⟩ := h
  obtain ⟨t, rfl⟩ := rx
  obtain ⟨t', rfl⟩ := ry
  obtain ⟨j, h1, h2, h3, h4, h5⟩ := atI_get he
  have hl : z.cps.toList.length = z.length := by simp [Str.length]
  rw [hl] at h1 h4 h5
  have hn := line63
  exact tail_any (typeIs_str s z t) slot_str_getitem.lookup (getItem_str (c := c) (by
    have e1 : decide (i < -(2 ^ 63 : Int)) = false := decide_eq_false (by omega)
    have e2 : decide (i ≥ 2 ^ 63) = false := decide_eq_false (by omega)
    rw [e1, e2, Bool.or_false]) (by rw [h1]; simpa using h2) ⟨.str ⟨#[c]⟩, H, I.tok _, ⟨_, rfl⟩, q⟩) hs
noncomputable def rIx (K : PySem.W.Frag) : R2 := fun x y H Q => rIxL K x y H Q ∨ rIxT K x y H Q ∨ rIxS x y H Q
theorem ix_seq : IxR X (rIx X.K) := ix_list.or (ix_tup.or ix_str)
theorem slice_bounds (lo hi : Option Int) (n : Nat) : (sliceBounds lo hi none n).1 = ((HT.sIx n 0 lo : Nat) : Int) ∧ (sliceBounds lo hi none n).2.1 = ((HT.sIx n n hi : Nat) : Int) ∧ (sliceBounds lo hi none n).2.2 = 1 := by
  refine ⟨?_, ?_, rfl⟩
  · cases lo with
    | none => simp [sliceBounds, HT.sIx]
    | some i =>
      simp only [sliceBounds, HT.sIx, Option.getD_none, show (1 : Int) > 0 by decide, if_true]
      by_cases h : i < 0
      · simp only [h, if_true] <;> omega
      · simp only [h, if_false] <;> omega
  · cases hi with
    | none => simp [sliceBounds, HT.sIx]
    | some i =>
      simp only [sliceBounds, HT.sIx, Option.getD_none, show (1 : Int) > 0 by decide, if_true]
      by_cases h : i < 0
      · simp only [h, if_true] <;> omega
      · simp only [h, if_false] <;> omega
theorem slicePick_cut (its : List Value) (lo hi : Option Int) : slicePick its.toArray lo hi none = ((its.drop (HT.sIx its.length 0 lo)).take (HT.sIx its.length its.length hi - HT.sIx its.length 0 lo)).toArray := by
  obtain ⟨h1, h2, h3⟩ := slice_bounds lo hi its.toArray.size
  unfold slicePick
  rw [h1, h2, h3]
  simp only [sliceRange_one, pick_run, List.size_toArray] <;> rfl
noncomputable def rSlL (K : PySem.W.Frag) : V → Option Int → Option Int → Hp → VK → Prop := fun x lo hi H Q => ∃ a xs, x = .ref a ∧ SqL K H a xs ∧ ∀ p, H p = none → Q (.ref p) (upd H p (.lst (cutV xs lo hi)))
theorem sl_list : SlR X (rSlL X.K) := by
  intro pins s σ H x v vl vu lo hi sl Q I rx hs pl pu h
  obtain ⟨a, xs, rfl, hx, q⟩ := h
  cases rx
  obtain ⟨its, r, ht, hz⟩ := I.list hx
  have hlen := r.length
  refine ⟨"list", _, slot_list_getitem.lookup, ht.isList.typeIs, ?_⟩
  refine wpAny_getItem_list_slice ht.isList hs pl pu .none (by simp) ?_ (by rw [List.size_toArray] <;> omega)
  rw [slicePick_cut, ← hlen]
  refine ⟨.ref s.heap.objs.size, _, I.laid (t' := s.toks) (o := .lst (cutV xs lo hi)) (fun b ob q => Heap.get?_push_of_some _ q) (Nat.le_refl _) ?_, rfl, q _ (I.hok.fresh (Nat.le_refl _))⟩
  exact ⟨Nat.le_trans (cutV_length xs lo hi) hz, _, 0, (r.drop (HT.sIx xs.length 0 lo)).take (HT.sIx xs.length xs.length hi - HT.sIx xs.length 0 lo), Heap.get?_push_size _ rfl⟩
noncomputable def flatV : V → Bool
  | .non => true
  | .bl _ => true
  | .int _ => true
  | .str _ => true
  | _ => false
noncomputable def eqV : V → V → Bool
  | .non, .non => true
  | .bl a, .bl b => a == b
  | .bl a, .int b => (if a then 1 else 0) == b
  | .int a, .bl b => a == (if b then 1 else 0)
  | .int a, .int b => a == b
  | .str a, .str b => a == b
  | _, _ => false
theorem call_len_seq : CallR X (.builtin "len") (fun xs H Q => ∃ p ys, xs = [.ref p] ∧ (SqL X.K H p ys ∨ SqT X.K H p ys) ∧ Q (.int ys.length) H) := by
  intro pins s σ H xs us Q I r h
  obtain ⟨p, ys, rfl, hq, q⟩ := h
  obtain ⟨u, rfl, rx⟩ := vals1 r
  cases rx
  have hn := line63
  rcases hq with hq | hq
  · obtain ⟨its, r', pl, hz⟩ := I.list hq
    have hlen := r'.length
    exact Calls.call_len_list pl.isList (by simp only [List.size_toArray] <;> omega) ⟨.int ys.length, H, I.tok _, ⟨s.toks + 1, by rw [List.size_toArray, hlen]⟩, q⟩
  · obtain ⟨its, r', pl, hz⟩ := I.tuple hq
    have hlen := r'.length
    exact len_tuple pl (by simp only [List.size_toArray] <;> omega) ⟨.int ys.length, H, I.tok _, ⟨s.toks + 1, by rw [List.size_toArray, hlen]⟩, q⟩
theorem call_list_of : CallR X (.type "list") (fun xs H Q => ∃ p ys, xs = [.ref p] ∧ (SqL X.K H p ys ∨ SqT X.K H p ys) ∧ ∀ l, H l = none → Q (.ref l) (upd H l (.lst ys))) := by
  intro pins s σ H xs us Q I r h
  obtain ⟨p, ys, rfl, hq, q⟩ := h
  obtain ⟨u, rfl, rx⟩ := vals1 r
  cases rx
  have fin : ∀ (its : List Value), Vals ys its → ys.length ≤ sizeLine → ∀ (h' : Heap) (c' : Nat), (∀ b o', s.heap.get? b = some o' → h'.get? b = some o') →
      h'.get? s.heap.objs.size = some { cls := .type "list", dict := none, data := .seq its.toArray c', slots := #[] } → EP X pins σ Q (.ref s.heap.objs.size) { s with heap := h' } := fun its r' hz h' c' kp e =>
    ⟨.ref s.heap.objs.size, _, I.laid (t' := s.toks) kp (Nat.le_refl _) (show ObjOk X.prog X.w _ h' _ (.lst ys) from ⟨hz, its, c', r', e⟩), rfl, q _ (I.hok.fresh (Nat.le_refl _))⟩
  rcases hq with hq | hq
  · obtain ⟨its, r', pl, hz⟩ := I.list hq
    have hlen := r'.length
    obtain ⟨o, ho, hc, n, hd⟩ := pl.isList
    exact call_list_seq p (.inl rfl) ho hc hd (fun h' c' kp e => fin its r' hz h' c' kp e) (by simp only [List.size_toArray] <;> omega)
  · obtain ⟨its, r', pl, hz⟩ := I.tuple hq
    have hlen := r'.length
    obtain ⟨o, ho, hc, n, hd⟩ := pl
    exact call_list_seq p (.inr rfl) ho hc hd (fun h' c' kp e => fin its r' hz h' c' kp e) (by simp only [List.size_toArray] <;> omega)
noncomputable def tyV (K : PySem.W.Frag) (T : String) (x : V) (H : Hp) : Prop := match x with
  | .str _ => T = "str"
  | .int _ => T = "int"
  | .ref p => (T = "list" ∧ ∃ xs, SqL K H p xs) ∨ (T = "tuple" ∧ ∃ o, K.lookup p = some o ∧ o.cls = .type "tuple" ∧ o.dict = none) ∨
      (T = "dict" ∧ ((∃ kvs, H p = some (.dK kvs)) ∨ ∃ kvs, H p = some (.dT kvs))) ∨ (T = "set" ∧ ∃ S n, H p = some (.set S n))
  | _ => False
theorem tyV_is {pins : List (Addr × Obj)} {σ : St} {H : Hp} {s : Shared} {T : String} {x : V} {v : Value} (I : Inv X pins σ H s) (r : RelV x v) (ty : tyV X.K T x H) :
    s.TypeIs v T ∧ ∀ a, v = .ref a → ∃ ob, s.heap.get? a = some ob ∧ ob.dict = none := by
  cases x with
  | str z =>
    obtain ⟨t, rfl⟩ := r
    cases (show T = "str" from ty)
    exact ⟨typeIs_str s z t, fun _ e => nomatch e⟩
  | int i =>
    obtain ⟨t, rfl⟩ := r
    cases (show T = "int" from ty)
    exact ⟨typeIs_int s i t, fun _ e => nomatch e⟩
  | ref p =>
    cases r
    rcases ty with ⟨rfl, xs, hq⟩ | ⟨rfl, o, hk, hc, hd⟩ | ⟨rfl, hk⟩ | ⟨rfl, S, n, hk⟩
    · obtain ⟨its, _, pl, _⟩ := I.list hq
      refine ⟨pl.isList.typeIs, fun a e => ?_⟩
      cases e
      obtain ⟨o, n, e, c, hd, _⟩ := pl
      exact ⟨o, e, hd⟩
    · refine ⟨⟨o, I.kIn p o hk, hc⟩, fun a e => ?_⟩
      cases e
      exact ⟨o, I.kIn _ o hk, hd⟩
    · have z : ∃ o, s.heap.get? p = some o ∧ o.ExactDict := by
        rcases hk with ⟨kvs, hk⟩ | ⟨kvs, hk⟩
        · obtain ⟨_, _, _, _, o, _, _, e, ex, _⟩ := I.hok p _ hk
          exact ⟨o, e, ex⟩
        · obtain ⟨_, _, _, _, o, _, _, e, ex, _⟩ := I.hok p _ hk
          exact ⟨o, e, ex⟩
      obtain ⟨o, e, ex⟩ := z
      refine ⟨⟨o, e, ex.1⟩, fun a e2 => ?_⟩
      cases e2
      exact ⟨o, e, ex.2.1⟩
    · obtain ⟨o, _, _, _, e, ex, _⟩ := I.hok p _ hk
      refine ⟨⟨o, e, ex.1⟩, fun a e2 => ?_⟩
      cases e2
      exact ⟨o, e, ex.2.1⟩
  | _ => exact False.elim ty
noncomputable def tBM (K : PySem.W.Frag) (T : String) (r : V → List V → Hp → VK → Prop) (to : TE) (t : TA) : TE := fun σ H Q => to σ H fun x H1 => tyV K T x H1 ∧ t σ H1 fun xs H2 => r x xs H2 Q
variable {o e : Expr} {es : List Expr} {to : TE} {t : TA} {name : Str} {apos cpos : Pos} {T id : String} {r : V → List V → Hp → VK → Prop}
theorem pe_bm (pa : PlainAttrs T) (slot : Slot T name id) (hty : typeOf (.builtin id) = pure (.type "method_descriptor")) (hm : MtR X id r) (ho : PE X o to) (ha : PA X (e :: es) t)
    (hbase : attributeBase o name X.env (eval o X.env) = eval o X.env := by rfl)
    (hfew : ((backTo cpos (starEach (e :: es) X.env)).all (fun x => !x.1) && (backToKw cpos (keywordEach [] X.env)).all (fun x => x.1.isSome)
      && decide ((e :: es).length + ([] : List Keyword).length + (if ([] : List Keyword).isEmpty then 0 else 1) < 30)) = true := by rfl)
    (hline : (apos.endLine == cpos.line) = true := by rfl) (hs : starEach (e :: es) X.env = (false, eval e X.env) :: starEach es X.env := by rfl) (hplain : (backTo cpos (starEach es X.env)).any (·.1) = false := by rfl) :
    PE X (.Call (.Attribute o name apos) (e :: es) [] cpos) (tBM X.K T r to t) := by
  intro pins s σ H Q I h
  refine wpAny_Call_method_late hbase hfew hline rfl (thn (ho pins s σ H _ I h) fun v s1 ⟨x, H1, I1, r1, ty, q1⟩ => ?_)
  obtain ⟨h1, h2⟩ := tyV_is I1 r1 ty
  refine ⟨T, id, pa, slot, hty, h1, h2, ?_⟩
  have hA := ha cpos pins s1 σ H1 _ I1 q1
  rw [hs] at hA ⊢
  refine Calls.callWith_builtin (by show (false || (backTo cpos (starEach es X.env)).any (·.1)) = false; rw [hplain] <;> rfl) (Calls.evalArgs_plain ?_)
  exact thn hA fun us s2 ⟨vs, H2, I2, r2, q2⟩ => hm pins s2 σ H2 x vs v us Q I2 r1 r2 q2
/- xs.append(e), list.index on a module's tuple .. are MtR facts of 06m -/
end
end L2
namespace L2
open PySem PySem.Spec PyProof.Rows
noncomputable def MtM (X : Cx) (id : String) (r : V → List V → Hp → VK → Prop) : Prop :=
  ∀ (pins : List (Addr × Obj)) (s : Shared) (σ : St) (H : Hp) (x : V) (xs : List V) (v : Value) (us : List Value) (Q : VK), Inv X pins σ H s → RelV x v → Vals xs us → r x xs H Q →
    wpAny (model X.prog X.w) X.A (call (.builtin id) (v :: us)) (EP X pins σ Q) X.xe s
theorem Vals.one : ∀ {x : V} {us : List Value}, Vals [x] us → ∃ u, us = [u] ∧ RelV x u
  | _, _, .cons r .nil => ⟨_, rfl, r⟩
theorem Vals.two : ∀ {x y : V} {us : List Value}, Vals [x, y] us → ∃ u v, us = [u, v] ∧ RelV x u ∧ RelV y v
  | _, _, _, .cons r (.cons q .nil) => ⟨_, _, rfl, r, q⟩
theorem Vals.rep {xs : List V} {us : List Value} (h : Vals xs us) : ∀ k : Nat, Vals (List.replicate k xs).flatten (List.replicate k us).flatten
  | 0 => .nil
  | k + 1 => by
    rw [List.replicate_succ, List.replicate_succ, List.flatten_cons, List.flatten_cons]
    exact Vals.append h (Vals.rep h k)
theorem foldl_rep (its : List Value) : ∀ (k : Nat) (acc : List Value),
    List.foldl (fun x1 x2 => x1 ++ x2) acc.toArray (List.replicate k its.toArray) = (acc ++ (List.replicate k its).flatten).toArray
  | 0, acc => by simp
  | k + 1, acc => by
    have e : acc.toArray ++ its.toArray = (acc ++ its).toArray := by simp
    have e2 : (acc ++ its) ++ (List.replicate k its).flatten = acc ++ (List.replicate (k + 1) its).flatten := by
      rw [List.replicate_succ, List.flatten_cons, List.append_assoc]
    rw [← e2, ← foldl_rep its k (acc ++ its), ← e, List.replicate_succ, List.foldl_cons]
section
variable {X : Cx} {pins : List (Addr × Obj)} {σ : St} {H : Hp} {s : Shared} {l b : Addr} {xs ys zs : List V}
theorem Inv.lset {its its' : List Value} {n : Nat} {f : Array Value → Array Value} {t' : Nat} (I : Inv X pins σ H s) (hH : H l = some (.lst xs))
    (e : s.heap.get? l = some { cls := .type "list", data := .seq its.toArray n }) (hf : f its.toArray = its'.toArray) (hv : Vals ys its') (hz : ys.length ≤ sizeLine) :
    Inv X pins σ (upd H l (.lst ys)) { s with heap := s.heap.update l (Obj.mapSeq f), toks := t' } := by
  have q := PySem.IsL.update e f
  rw [hf] at q
  refine I.write (x := l) (e := l) (by rw [hH]; exact trivial) (.inl rfl) (fun b' u hb hu => (Heap.get?_update_other s.heap (Obj.mapSeq f) (Ne.symm hb)).trans hu) ⟨_, q⟩ ?_
  exact ⟨hz, its', _, hv, q⟩
theorem Inv.lnew {its : List Value} {t' : Nat} (I : Inv X pins σ H s) (hv : Vals ys its) (hz : ys.length ≤ sizeLine) :
    Inv X pins σ (upd H s.heap.objs.size (.lst ys)) { s with heap := s.heap.push { cls := .type "list", data := .seq its.toArray }, toks := t' } :=
  I.laid (fun _ _ q => Heap.get?_push_of_some _ q) (Nat.le_refl _) ⟨hz, its, 0, hv, Heap.get?_push_size _ rfl⟩
theorem Inv.fresh (I : Inv X pins σ H s) : H s.heap.objs.size = none := I.hok.fresh (Nat.le_refl _)
theorem Inv.lstM (I : Inv X pins σ H s) (hH : H l = some (.lst xs)) : xs.length ≤ sizeLine ∧ ∃ (its : List Value) (n : Nat), Vals xs its ∧ xs.length = its.length ∧ s.heap.get? l = some { cls := .type "list", data := .seq its.toArray n } := by
  obtain ⟨z, its, n, r, e⟩ := I.hok l _ hH
  exact ⟨z, its, n, r, r.length, e⟩
theorem notLongL {n : Nat} (h : n ≤ sizeLine) : Builtin.List.listTooLong n = false := by
  unfold Builtin.List.listTooLong
  exact decide_eq_false (by omega)
end
section
variable {X : Cx}
noncomputable def rAppend : V → List V → Hp → VK → Prop := fun x vs H Q => ∃ l xs y, x = .ref l ∧ vs = [y] ∧ H l = some (.lst xs) ∧ xs.length < sizeLine ∧ Q .non (upd H l (.lst (xs ++ [y])))
theorem mt_append : MtM X "list.append" rAppend := by
  intro pins s σ H x vs v us Q I rx rv h
  obtain ⟨l, xs, y, rfl, rfl, hH, hz, q⟩ := h
  cases rx
  obtain ⟨u, rfl, ru⟩ := rv.one
  obtain ⟨z, its, n, r, hl, e⟩ := I.lstM hH
  refine call_meets F.slot_list_append ⟨_, e, rfl⟩ F.entry_list_append (F.args_list_append_2 _ _) (PySem.list_append l its.toArray n u (by rw [List.size_toArray]; omega)) ⟨e, ?_⟩
  refine ⟨.non, _, I.lset (its' := its ++ [u]) hH e (by simp) (r.append (.cons ru .nil)) ?_, rfl, q⟩
  rw [List.length_append, List.length_singleton]
  omega
noncomputable def rRep : R2 := fun x y H Q => ∃ l k xs, x = .ref l ∧ y = .int k ∧ H l = some (.lst xs) ∧ -(2 ^ 63) ≤ k ∧ k < 2 ^ 63 ∧ xs.length * k.toNat ≤ sizeLine ∧
  ∀ p, H p = none → Q (.ref p) (upd H p (.lst (List.replicate k.toNat xs).flatten))
theorem len_rep {α : Type} (xs : List α) (k : Nat) : (List.replicate k xs).flatten.length = k * xs.length := by
  induction k with
  | zero => simp
  | succ k ih => rw [List.replicate_succ, List.flatten_cons, List.length_append, ih, Nat.succ_mul, Nat.add_comm]
theorem op_rep : OpR X (binaryOp .Mult) rRep := by
  intro pins s σ H x y v u Q I rx ry h
  obtain ⟨l, k, xs, rfl, rfl, hH, h1, h2, hz, q⟩ := h
  cases rx
  obtain ⟨t, rfl⟩ := ry
  obtain ⟨z, its, n, r, hl, e⟩ := I.lstM hH
  have hlen : its.toArray.size * k.toNat ≤ sizeLine := by rw [List.size_toArray, ← hl]; exact hz
  have hcap : ¬ its.toArray.size * k.toNat > (2 ^ 63 - 1) / 8 := by
    have : (sizeLine : Nat) ≤ (2 ^ 63 - 1) / 8 := by decide
    omega
  have hfit : ¬ (!Builtin.List.listFitsIndex k) = true := by
    rw [fitsIndex_both h1 h2]
    exact Bool.false_ne_true
  have hlong : ¬ Builtin.List.listTooLong (its.toArray.size * k.toNat) = true := by
    rw [notLongL hlen]
    exact Bool.false_ne_true
  have hnew : List.foldl (fun x1 x2 => x1 ++ x2) #[] (List.replicate (if its.toArray.isEmpty = true then 0 else k.toNat) its.toArray) = (List.replicate k.toNat its).flatten.toArray := by
    have f0 : ∀ m : Nat, List.foldl (fun x1 x2 => x1 ++ x2) #[] (List.replicate m its.toArray) = (List.replicate m its).flatten.toArray := fun m => by
      have := foldl_rep its m []
      rw [List.nil_append] at this
      exact this
    rw [f0]
    cases its with
    | nil => simp
    | cons a r' => rw [if_neg (by simp)]
  refine wpAny_binaryOp_repeat_ref (T := "list") (U := "int") (by decide) ⟨_, e, rfl⟩ (fun s' => typeIs_int s' k t) noFill_list_mul F.fills_int_mul F.slot_int_rmul repeat_list F.slot_int_index.lookup
    (call_meets F.slot_int_rmul (typeIs_int s k t) F.entry_int_rmul (F.args_int_rmul_2 _ _) (int___rmul___int_list k t l its.toArray n)
      ⟨e, rfl, ⟨_, e, rfl⟩, call_meets F.slot_list_mul ⟨_, e, rfl⟩ F.entry_list_mul (F.args_list_mul_2 _ _) (AutoListH.list___mul___list_int_3 l its.toArray n k t hfit hcap hlong) ⟨e, ?_⟩⟩)
  rw [hnew]
  exact ⟨.ref _, _, I.lnew (t' := s.toks) (r.rep k.toNat) (by rw [len_rep, Nat.mul_comm]; exact hz), rfl, q _ I.fresh⟩
end
end L2
namespace Att
open PySem PySem.W PySem.Calls PyProof.Rows
theorem ints_of_wellAll {P : Params} {h : Heap} : ∀ (ns : List Int) (vs : List Value), WellAll P h vs (ns.map WData.int) → IntsAre vs ns := by
  intro ns
  induction ns with
  | nil =>
    intro vs w
    rw [List.map_nil] at w
    cases w
    exact .nil
  | cons n ns ih =>
    intro vs w
    rw [List.map_cons] at w
    cases w with
    | cons a b =>
      cases a
      exact .cons _ _ (ih _ b)
theorem script_of {l : OpenLaw} {n : Nat} (hn : l.most = some n) {P : Params} {h : Heap} {args : List WData} {vals : List Value}
    (hpre : l.row.toRowW.claim.pre args = true) (hwl : WellAll P h vals args) :
    ∃ a vs ns, vals = [Value.ref a] ∧ args = [WData.list (ns.map WData.int)] ∧ h.get? a = some { cls := .type "list", data := .seq vs.toArray } ∧ IntsAre vs ns ∧ ns.length ≤ n := by
  have hsh : WShape.hasAll [] args [.list .int] = true := (pre_splitW hpre).1
  have hc : l.pre.holds [] { args := args } = true := (pre_splitW hpre).2
  obtain ⟨d, r, rfl, h1, h2⟩ := hasAllW_cons hsh
  obtain rfl := hasAllW_nil h2
  obtain ⟨xs, rfl, h3⟩ := hasW_list h1
  obtain ⟨ns, rfl⟩ := items_int h3
  have hlen : ns.length ≤ n := by
    unfold OpenLaw.pre at hc
    have h4 : (WTm.not (.lt (.lit (.int (n : Int))) (.len (.arg 0)))).holds [] { args := [.list (ns.map .int)] } = true := by
      have h4 := (holds_andW hc).1
      rw [hn] at h4
      exact h4
    have h5 := condW_of h4 (w_not (w_lt w_lit (w_len_list (w_arg rfl))))
    rw [List.length_map] at h5
    refine Nat.le_of_not_lt fun q => ?_
    have q' : (n : Int) < ((ns.length : Nat) : Int) := by omega
    first
      | (rw [decide_eq_true q'] at h5; exact absurd h5 (by decide))
      | (simp at h5; omega)
  cases hwl with
  | cons w1 w2 =>
    cases w2
    cases w1 with
    | list ho hall => exact ⟨_, _, ns, rfl, rfl, ho, ints_of_wellAll ns _ hall, hlen⟩
theorem post_true (l : OpenLaw) (args : List WData) : l.row.toRowW.claim.post args (.bool true) args = true :=
  postW_of (r := l.row.toRowW) (X := (true == true))
    (show WShape.has [] (.bool true) .bool = true by first | rfl | decide | simp [WShape.has, WShape.arms, WShape.armsAll])
    (show (WTm.eq .res (.lit (.bool true))).value [] { args := args, res := some (.bool true), after := args } = some (.bool (true == true)) from w_eq_bool (w_res rfl) w_lit) rfl
theorem attach_call {l : OpenLaw} {n : Nat} {q : Program} {loose : List Str} {XP : (Str → Option Value) → Heap → Prop} {YP : World → Heap → Prop} {d : DefRec}
    (hn : l.most = some n) (hdf : d.params.defaults = [])
    (call : ∀ (w : World) (s₀ s₁ : Shared) (mg mb : Str → Option Value) (fa : Addr) (o : Obj) (pm cd doc : Value) (a : Addr) (vs : List Value) (ns : List Int),
      Ground q loose [] XP w s₀ mg mb s₁.heap → YP w s₁.heap →
      s₁.heap.get? fa = some o → o.data = .func (docDef d.name d.params d.body d.scope pm cd doc) → s₁.heap.CodeRec cd d.name → mg d.name = some (.ref fa) →
      s₁.heap.get? a = some { cls := .type "list", data := .seq vs.toArray } → IntsAre vs ns → ns.length ≤ n → s₁.gens = #[] →
      codeAny (model l.prog w) callerA (.call (.ref fa) ⟨[.ref a], []⟩) (fun r s' => r = .ok (.ret (.bool true)) ∧ OldK s₁.heap s'.heap ∧ s'.os = s₁.os ∧ AllBare s'.gens) s₁) :
    WalkO q loose XP YP l.row.toRowW d [] (fun f vs => PySem.call f vs) := by
  intro w s₀ s₁ mg mb G Y fa o pm cd doc dV kV ho hd hcd hD hmg hg args vals as hpre hlay hrd hwl hlo
  obtain rfl : dV = .none := Dflts.none hD hdf
  obtain rfl : kV = .none := Dflts.noKw hD
  obtain ⟨a, vs, ns, rfl, rfl, hobj, hints, hlen⟩ := script_of hn hpre hwl
  refine enter_call (codeAny_mono (call w s₀ s₁ mg mb fa o pm cd doc a vs ns G Y ho (fd_plain hd) hcd hmg hobj hints hlen hg) fun r s' hq => ?_)
  obtain ⟨rfl, h2, h3, h4⟩ := hq
  exact ⟨.inl ⟨.bool true, .bool true, [], rfl, fun _ => rfl, .bool true, post_true l _, fun _ => ⟨List.Pairwise.nil, fun _ hm => (nomatch hm)⟩⟩, h2, h3, h4⟩
section
variable {prog : Program} {w : World} {A : Around} {E : Value → Shared → Prop} {s : Shared} {K : Frag}
theorem make_obj {R : Result → Shared → Prop} {C fI : Addr} {rest : List Value} {kw : List (Str × Value)}
    (X : K.In s.heap) (hm : makesIn K C = true) (hi : findIn K (.ref C) "__init__" = some (some (.ref fI))) (hf : isFn K (.ref fI) = true)
    (h : codeAny (model prog w) (A.under (.builtin "type.__call__" ⟨.ref C :: rest, kw⟩)) (.call (.ref fI) ⟨.ref (s.heap.objs.size + 1) :: rest, kw⟩) (InitBack (s.heap.objs.size + 1) R)
      { s with heap := (s.heap.push emptyDict).push (instObj C s.heap.objs.size) }) : codeAny (model prog w) A (.call (.ref C) ⟨rest, kw⟩) R s := by
  obtain ⟨hh, g, d, t, os⟩ := s
  exact make_core (makes_of X hm) (looks_findIn X hi) (fun self => bind_fn X self (beq_iff_eq.mp hf)) (.inl rfl) h
theorem get_field {x C : Addr} {ox : Obj} {es : List DictEntry} {n : Nat} {name : Str} {expr : Bool} {v : Value} {Q : Value → Shared → Prop}
    (X : K.In s.heap) (I : PySem.W.InstAt s.heap x ox C (some (dictOf es n))) (hg : plainGet K C name = true) (hh : hasDictIn K C = true) (ha : findIn K (.ref C) name = some none)
    (hl : getL name es = some (some v)) (hv : handedIn v = true) (h : Q v { s with toks := s.toks + 1 }) : wpAny (model prog w) A (getAttr (.ref x) name expr) Q E s :=
  get_value X I (plainGet_of hg).1 (findObj_own hh ha rfl hl) hv h
end
end Att
namespace L2
open PySem PySem.Spec PyProof.Rows
theorem vals_ints : ∀ {vs : List Value} {ns : List Int}, IntsAre vs ns → Vals (ns.map V.int) vs
  | _, _, .nil => .nil
  | _, _, .cons n t h => .cons ⟨t, rfl⟩ (vals_ints h)
noncomputable def Only (H : Hp) : Prop := ∀ b, H b = none ∨ ∃ o xs, H b = some (.frz o (.lst xs))
theorem law_call {P : Program} {w : World} {K : PySem.W.Frag} {mg mb : Str → Option Value} {CX : CXT} {k : Nat} {fa a : Addr} {fd : FuncData} {x : Str} {sp : Sp} {s₁ : Shared} {vs : List Value} {ns : List Int}
    (KX : K.In s₁.heap) (hns : s₁.heap.Ns mainGlobals mg) (hb : s₁.heap.Ns builtinsNs mb) (hbb : ∀ x : Str, x ≠ "__name__" → mb x = bootBuiltins x) (hlim : s₁.heap.NoLimit) (hg : s₁.gens = #[])
    (ha : s₁.heap.get? a = some { cls := .type "list", data := .seq vs.toArray }) (hi : IntsAre vs ns) (hl : ns.length ≤ sizeLine) (hr : Room k callerA)
    (F : ∀ base : Heap, K.In base → base.Ns mainGlobals mg → FnOk P w K mg base CX k fa fd [x] sp) (hbind : ∀ (s : Shared) (u : Value), BindsTo s fd ⟨[u], []⟩ [(x, u)])
    (hsp : ∀ H : Hp, Only H → SqL K H a (ns.map V.int) → sp [.ref a] H (fun v _ => v = .bl true) fun _ _ _ => False)
    (hCX : ∀ H e s', CX [] H s₁ (fun _ _ _ => False) e s' → False) :
    codeAny (model P w) callerA (.call (.ref fa) ⟨[.ref a], []⟩) (fun r s' => r = .ok (.ret (.bool true)) ∧ OldK s₁.heap s'.heap ∧ s'.os = s₁.os ∧ AllBare s'.gens) s₁ := by
  have rv := vals_ints hi
  have lenV := hi.length
  have core : ∀ H : Hp, Only H → SqL K H a (ns.map V.int) → HOk P w H s₁.heap → (∀ b, H b ≠ none → b = a) → (H a ≠ none → K.lookup a = none) →
      codeAny (model P w) callerA (.call (.ref fa) ⟨[.ref a], []⟩) (fun r s' => r = .ok (.ret (.bool true)) ∧ OldK s₁.heap s'.heap ∧ s'.os = s₁.os ∧ AllBare s'.gens) s₁ := by
    intro H hO hS hok hA hK
    have base_of : ∀ {b : Addr} {o : Obj}, s₁.heap.get? b = some o → H b = none → (hidT s₁.heap H).get? b = some o := fun e n => hidT_get e n
    have noA : ∀ {b : Addr} {o : Obj} {es : Array DictEntry} {ep : Nat}, s₁.heap.get? b = some o → o.data = .dict es ep → H b = none := fun {b o es ep} e d => by
      cases q : H b with
      | none => rfl
      | some u =>
        have e' : b = a := hA b (by rw [q]; simp)
        subst e'
        rw [ha] at e; cases e
        have d' : Data.seq vs.toArray _ = Data.dict es ep := d
        cases d'
    have nsK : ∀ {b : Addr} {m : Str → Option Value}, s₁.heap.Ns b m → (hidT s₁.heap H).Ns b m := fun {b m} ⟨o, es, ep, e, d, r⟩ => ⟨o, es, ep, base_of e (noA e d), d, r⟩
    have hKb : K.In (hidT s₁.heap H) := fun b o e => base_of (KX b o e) (by
      cases q : H b with
      | none => rfl
      | some u =>
        have e' : b = a := hA b (by rw [q]; simp)
        subst e'
        rw [hK (by rw [q]; simp)] at e; cases e)
    have hM : Mod K mg (hidT s₁.heap H) := ⟨hKb, nsK hns, ⟨mb, nsK hb, hbb⟩, let ⟨mc, h1, h2⟩ := hlim; ⟨mc, nsK h1, h2⟩⟩
    have e0 : Env0 P w K mg (hidT s₁.heap H) callerA [] s₁ H := ⟨rfl, hM, fun b o e => of_hidT e, Nat.le_of_eq (hidT_size _ _), trivial, fun b hb => absurd (show b ∈ ([] : List Addr) from hb) (by simp), hok, .of_eq hg⟩
    refine codeAny_mono ((F _ hKb (nsK hns)).run callerA [] s₁ H ⟨[.ref a], []⟩ [.ref a] [.ref a] _ _ hr e0 (hbind s₁ (.ref a)) (.cons rfl .nil) (hsp H hO hS)) fun r s' h => ?_
    cases r with
    | error e => exact (hCX H e s' h).elim
    | ok fl =>
      cases fl with
      | next => exact False.elim h
      | brk => exact False.elim h
      | cont => exact False.elim h
      | ret u =>
        obtain ⟨v, H', os, bare, un, hok', r', q⟩ := h
        have q' : v = .bl true := q
        subst q'
        obtain rfl : u = Value.bool true := r'
        refine ⟨rfl, OldK.of_keep fun b o e => ?_, os, bare⟩
        cases q : H b with
        | none => exact un.keep b o e q (by intro z; exact absurd (show b ∈ ([] : List Addr) from z) (by simp)) (by simp)
        | some u =>
          rcases hO b with z | ⟨ob, xs, z⟩
          · rw [q] at z; cases z
          · have z2 := un.frzs b ob _ z
            obtain ⟨e1, _⟩ := hok b _ z
            obtain ⟨e2, _⟩ := hok' b _ z2
            rw [e] at e1; cases e1
            exact e2
  cases hk : K.lookup a with
  | some o =>
    have e := KX a o hk
    rw [ha] at e
    cases e
    refine core (fun _ => none) (fun _ => .inl rfl) (.inr ⟨_, vs.toArray, _, hk, rfl, rfl, rfl, by rw [List.size_toArray, lenV]; exact hl, by simpa using rv⟩) (fun b u z => by have z' : (none : Option HO) = some u := z; cases z') (fun b z => absurd rfl z) fun z => absurd rfl z
  | none =>
    refine core (fun b => if b = a then some (.frz { cls := .type "list", data := .seq vs.toArray } (.lst (ns.map V.int))) else none) (fun b => ?_) (.inl (.inr ⟨{ cls := .type "list", data := .seq vs.toArray }, if_pos rfl⟩)) (fun b u z => ?_) (fun b z => ?_) fun _ => hk
    · by_cases hb : b = a
      · exact .inr ⟨_, _, if_pos hb⟩
      · exact .inl (if_neg hb)
    · by_cases hb : b = a
      · have z' := (if_pos hb).symm.trans z
        cases z'
        subst hb
        exact ⟨ha, by rw [List.length_map]; exact hl, vs, _, rv, ha⟩
      · have z' := (if_neg hb).symm.trans z
        cases z'
    · by_cases hb : b = a
      · exact hb
      · exact absurd (if_neg hb) z
end L2
namespace L2
open PySem PySem.Spec PyProof.Rows
theorem walk_of {l : PySem.W.OpenLaw} {n k : Nat} {q : Program} {loose : List Str} {XP : (Str → Option Value) → Heap → Prop} {YP : World → Heap → Prop} {d : DefRec} {K : Params → PySem.W.Frag} {CX : World → CXT} {sp : World → Sp} {x : Str}
    (hn : l.most = some n) (hn2 : n ≤ sizeLine) (hdf : d.params.defaults = []) (hr : Room k callerA)
    (hY : ∀ (w : World) (h : Heap), YP w h → (K w.params).In h)
    (F : ∀ (w : World) (mg : Str → Option Value) (fa : Addr) (h : Heap), (K w.params).In h → h.Ns mainGlobals mg → mg d.name = some (.ref fa) →
      ∃ fd : FuncData, (∀ (s : Shared) (u : Value), BindsTo s fd ⟨[u], []⟩ [(x, u)]) ∧
        ∀ base : Heap, (K w.params).In base → base.Ns mainGlobals mg → FnOk l.prog w (K w.params) mg base (CX w) k fa fd [x] (sp w))
    (hsp : ∀ (w : World) (H : Hp) (a : Addr) (ns : List Int), ns.length ≤ n → Only H → SqL (K w.params) H a (ns.map V.int) → sp w [.ref a] H (fun v _ => v = .bl true) fun _ _ _ => False)
    (hCX : ∀ (w : World) (H : Hp) (s : Shared) (e : Value) (s' : Shared), CX w [] H s (fun _ _ _ => False) e s' → False) :
    PySem.W.WalkO q loose XP YP l.row.toRowW d [] (fun f vs => PySem.call f vs) := by
  refine Att.attach_call hn hdf fun w s₀ s₁ mg mb fa o pm cd doc a vs ns G Y ho hd hcd hmg hobj hints hlen hg => ?_
  have KX := hY w _ Y
  obtain ⟨fd, hb, hF⟩ := F w mg fa _ KX G.T.g hmg
  exact law_call KX G.T.g G.T.b G.T.builtins G.T.nolimit hg hobj hints (Nat.le_trans hlen hn2) hr hF hb (fun H hO hS => hsp w H a ns hlen hO hS) fun H e s' => hCX w H s₁ e s'
end L2
namespace L2
open PySem PySem.Spec PyProof.Rows
noncomputable def inClass (s : Stmt) (j : Nat) : Stmt := match s with
  | .ClassDef _ _ _ body _ _ _ _ _ _ _ => body.getD j (.Pass ⟨0, 0, 0, 0⟩)
  | _ => .Pass ⟨0, 0, 0, 0⟩
noncomputable def defArgs (s : Stmt) : Arguments := match s with
  | .FunctionDef _ a _ _ _ _ _ _ _ _ => a
  | _ => { posonlyargs := [], args := [], vararg := none, kwonlyargs := [], kw_defaults := [], kwarg := none, defaults := [] }
noncomputable def defBody (s : Stmt) : List Stmt := match s with
  | .FunctionDef _ _ b _ _ _ _ _ _ _ => b
  | _ => []
noncomputable def defScope (s : Stmt) : Scope := match s with
  | .FunctionDef _ _ _ _ _ _ sc _ _ _ => sc
  | _ => { kind := .function, names := [], isGenerator := false, isCoroutine := false }
noncomputable abbrev CX0 : CXT := fun _ _ _ _ _ _ => False
noncomputable abbrev E0 : XK := fun _ _ _ => False
theorem pass0 {X : Cx} : Passes CX0 X E0 := fun _ _ _ _ _ _ _ h => h.elim
structure Fun (K : PySem.W.Frag) (x qual : Str) (st : Stmt) (f : Addr) (fd : FuncData) : Prop where
  ex : ∃ (oc : Value) (od : Option Addr) (kV doc pm : Value) (an : Option Addr) (cdv ct : Value) (osl : Array (Option Value)),
    fd = PySem.W.fnOf x qual (defArgs st) (defBody st) (defScope st) .none kV doc pm an cdv ct ∧ K.lookup f = some ⟨oc, od, .func fd, osl⟩ ∧ PySem.W.codeIn K cdv qual = true
  kp : PySem.W.keepIn K (.ref f) = true
section
variable {P : Program} {w : World} {K : PySem.W.Frag} {mg : Str → Option Value} {base : Heap}
theorem Fun.binds {x qual : Str} {st : Stmt} {f : Addr} {fd : FuncData} {ps : List Str} (F : Fun K x qual st f fd)
    (h : ∀ (kV doc pm : Value) (an : Option Addr) (cdv ct : Value) (us : List Value), us.length = ps.length → bindArgs (PySem.W.fnOf x qual (defArgs st) (defBody st) (defScope st) .none kV doc pm an cdv ct) ⟨us, []⟩ = pure (ps.zip us)) : Binds K fd ps [] := by
  obtain ⟨oc, od, kV, doc, pm, an, cdv, ct, osl, rfl, lk, hcd⟩ := F.ex
  exact .all (h kV doc pm an cdv ct)
theorem fun_mk {x qual : Str} {st : Stmt} {f : Addr} {oc : Value} {od an : Option Addr} {osl : Array (Option Value)} {kV doc pm cdv ct : Value} (l : K.lookup f = some ⟨oc, od, .func (PySem.W.fnOf x qual (defArgs st) (defBody st) (defScope st) .none kV doc pm an cdv ct), osl⟩)
    (c : PySem.W.codeIn K cdv qual = true) (k : PySem.W.keepIn K (.ref f) = true) : Fun K x qual st f (PySem.W.fnOf x qual (defArgs st) (defBody st) (defScope st) .none kV doc pm an cdv ct) := ⟨⟨oc, od, kV, doc, pm, an, cdv, ct, osl, rfl, l, c⟩, k⟩
end
section
variable {X : Cx}
theorem pv (i : Nat) {x : Str} {pos : Pos} (hN : X.N[i]? = some x := by rfl) (hv : Vis X.env.scope x := by first | exact Or.inl rfl | exact Or.inr (Or.inl rfl) | exact Or.inr (Or.inr rfl)) (hd : (x == ("__debug__" : Str)) = false := by decide)
    (hcd : (x == ("__classdict__" : Str)) = false := by decide) : PE X (.Name x pos) (tVar i) := pe_var hN hv hd hcd
end
theorem iteF {A B : Prop} (h : B) : if false = true then A else B := by
  rw [if_neg Bool.false_ne_true]
  exact h
theorem iteNS {c A B : Prop} [Decidable c] (hc : c) (h : B) : if (!decide c) = true then A else B := by
  rw [decide_eq_true hc]
  exact iteF h
noncomputable def Same (H H' : Hp) : Prop := ∀ b o, H b = some o → H' b = some o
theorem Same.refl (H : Hp) : Same H H := fun _ _ h => h
theorem Same.trans {H H1 H2 : Hp} (a : Same H H1) (b : Same H1 H2) : Same H H2 := fun c o h => b c o (a c o h)
theorem Same.free {H H' : Hp} (e : Same H H') {l : Addr} (h : H' l = Option.none) : H l = Option.none := by
  cases q : H l with
  | none => rfl
  | some o =>
    rw [e l o q] at h
    cases h
end L2
set_option maxHeartbeats 4000000
namespace L2
open PySem PySem.Spec PyProof.Rows
noncomputable def clOf (cells : List (Str × Addr)) : List (Str × NameKind) → List (Str × Addr) → List (Str × Addr)
  | [], acc => acc
  | (x, k) :: r, acc => clOf cells r (if (k == NameKind.free) = true then (x, (cells.lookup x).getD 0) :: acc else acc)
theorem gt_ne {a b c : Addr} (h1 : b < a) (h2 : a < c) : c ≠ b := by
  rintro rfl
  exact absurd (Nat.lt_trans h1 h2) (Nat.lt_irrefl _)
theorem lt_ne {a b : Addr} {n : Nat} (h1 : a < n) (h2 : n ≤ b) : a ≠ b := by
  rintro rfl
  exact absurd (Nat.lt_of_lt_of_le h1 h2) (Nat.lt_irrefl _)
theorem clOf_cases {cells : List (Str × Addr)} {x : Str} {c : Addr} : ∀ (ns : List (Str × NameKind)) (acc : List (Str × Addr)), (clOf cells ns acc).lookup x = some c →
    ((x, NameKind.free) ∈ ns ∧ c = (cells.lookup x).getD 0) ∨ acc.lookup x = some c
  | [], _, h => .inr h
  | (y, k) :: r, acc, h => by
    unfold clOf at h
    rcases clOf_cases r _ h with ⟨m, e⟩ | q
    · exact .inl ⟨List.mem_cons_of_mem _ m, e⟩
    · by_cases hk : (k == NameKind.free) = true
      · rw [if_pos hk, List.lookup_cons] at q
        cases hy : x == y with
        | true =>
          rw [hy] at q
          have e1 := eq_of_beq hy
          have e2 := eq_of_beq hk
          subst e1 e2
          exact .inl ⟨List.mem_cons_self, (Option.some.inj q).symm⟩
        | false => rw [hy] at q; exact .inr q
      · rw [if_neg hk] at q; exact .inr q
theorem clOf_some {cells : List (Str × Addr)} {x : Str} : ∀ (ns : List (Str × NameKind)) (acc : List (Str × Addr)), ((x, NameKind.free) ∈ ns ∨ (acc.lookup x).isSome = true) → ((clOf cells ns acc).lookup x).isSome = true
  | [], _, h => h.elim (fun z => nomatch z) id
  | (y, k) :: r, acc, h => by
    unfold clOf
    refine clOf_some r _ ?_
    rcases h with h | h
    · rcases List.mem_cons.mp h with e | h
      · cases e
        refine .inr ?_
        rw [if_pos (by decide), List.lookup_cons]
        simp
      · exact .inl h
    · refine .inr ?_
      by_cases hk : (k == NameKind.free) = true
      · rw [if_pos hk, List.lookup_cons]
        cases hy : x == y with
        | true => rfl
        | false => exact h
      · rw [if_neg hk]; exact h
theorem cells_cases {x : Str} {c : Addr} : ∀ (ns : List (Str × NameKind)) (n : Nat) (acc : List (Str × Addr)), (cellsFrom n ns acc).lookup x = some c → (n ≤ c ∧ (x, NameKind.cell) ∈ ns) ∨ acc.lookup x = some c
  | [], _, _, h => .inr h
  | (y, k) :: r, n, acc, h => by
    unfold cellsFrom at h
    by_cases hk : (k == NameKind.cell) = true
    · rw [if_pos hk] at h
      rcases cells_cases r (n + 1) _ h with ⟨a, m⟩ | q
      · exact .inl ⟨by omega, List.mem_cons_of_mem _ m⟩
      · rw [List.lookup_cons] at q
        cases hy : x == y with
        | true =>
          rw [hy] at q
          have e1 := eq_of_beq hy
          have e2 := eq_of_beq hk
          have e3 := Option.some.inj q
          subst e1 e2 e3
          exact .inl ⟨Nat.le_refl _, List.mem_cons_self⟩
        | false => rw [hy] at q; exact .inr q
    · rw [if_neg hk] at h
      rcases cells_cases r n acc h with ⟨a, m⟩ | q
      · exact .inl ⟨a, List.mem_cons_of_mem _ m⟩
      · exact .inr q
theorem cells_inj : ∀ (ns : List (Str × NameKind)) (n : Nat) (acc : List (Str × Addr)), (∀ x y c, acc.lookup x = some c → acc.lookup y = some c → x = y) → (∀ x c, acc.lookup x = some c → c < n) →
    ∀ x y c, (cellsFrom n ns acc).lookup x = some c → (cellsFrom n ns acc).lookup y = some c → x = y
  | [], _, _, hi, _ => hi
  | (z, k) :: r, n, acc, hi, hl => by
    unfold cellsFrom
    by_cases hk : (k == NameKind.cell) = true
    · rw [if_pos hk]
      refine cells_inj r (n + 1) _ (fun x y c h1 h2 => ?_) (fun x c h1 => ?_)
      · rw [List.lookup_cons] at h1 h2
        cases hx : x == z with
        | true =>
          rw [hx] at h1
          have e1 := Option.some.inj h1
          cases hy : y == z with
          | true => rw [eq_of_beq hx, eq_of_beq hy]
          | false =>
            rw [hy] at h2
            have h3 := hl y c h2
            rw [← e1] at h3
            exact absurd h3 (Nat.lt_irrefl _)
        | false =>
          rw [hx] at h1
          cases hy : y == z with
          | true =>
            rw [hy] at h2
            have e2 := Option.some.inj h2
            have h3 := hl x c h1
            rw [← e2] at h3
            exact absurd h3 (Nat.lt_irrefl _)
          | false =>
            rw [hy] at h2
            exact hi x y c h1 h2
      · rw [List.lookup_cons] at h1
        cases hx : x == z with
        | true =>
          rw [hx] at h1
          have e1 := Option.some.inj h1
          rw [← e1]
          exact Nat.lt_succ_self _
        | false =>
          rw [hx] at h1
          exact Nat.lt_succ_of_lt (hl x c h1)
    · rw [if_neg hk]
      exact cells_inj r n acc hi hl
theorem push_cells {x : Str} {c : Addr} : ∀ (ns : List (Str × NameKind)) (h : Heap) (acc : List (Str × Addr)), (cellsFrom h.objs.size ns acc).lookup x = some c →
    acc.lookup x = some c ∨ (h.objs.size ≤ c ∧ (pushCells h ns).IsCell c none)
  | [], _, _, e => .inl e
  | (y, k) :: r, h, acc, e => by
    unfold cellsFrom at e
    unfold pushCells
    by_cases hk : (k == NameKind.cell) = true
    · rw [if_pos hk] at e ⊢
      have q := push_cells (x := x) (c := c) r (h.push { cls := .type "cell", data := .cell none }) ((y, h.objs.size) :: acc) (by rw [Heap.size_push]; exact e)
      rcases q with q | ⟨q1, q2⟩
      · rw [List.lookup_cons] at q
        cases hy : x == y with
        | true =>
          rw [hy] at q
          have e1 := Option.some.inj q
          subst e1
          exact .inr ⟨Nat.le_refl _, Heap.IsCell.keeps ⟨_, Heap.get?_push_size _ rfl, rfl⟩ (pushCells_keeps r _)⟩
        | false => rw [hy] at q; exact .inl q
      · rw [Heap.size_push] at q1
        exact .inr ⟨by omega, q2⟩
    · rw [if_neg hk] at e ⊢
      exact push_cells r h acc e
theorem forIn_clos {env : Env} (f : Str × NameKind → List (Str × Addr) → Sem (ForInStep (List (Str × Addr))))
    (hf : ∀ n k cs, f (n, k) cs = if (k == NameKind.free) = true then (do let a ← cellOf env n; pure (.yield ((n, a) :: cs))) else pure (.yield cs)) :
    ∀ (ns : List (Str × NameKind)) (acc : List (Str × Addr)), (∀ x ∈ ns, x.2 = NameKind.free → ∃ c, env.cells.lookup x.1 = some c) → forIn ns acc f = (pure (clOf env.cells ns acc) : Sem _)
  | [], acc, _ => by rw [List.forIn_nil]; rfl
  | (y, k) :: r, acc, hc => by
    have hr : ∀ x ∈ r, x.2 = NameKind.free → ∃ c, env.cells.lookup x.1 = some c := fun x hx => hc x (List.mem_cons_of_mem _ hx)
    rw [List.forIn_cons, hf]
    unfold clOf
    by_cases hk : (k == NameKind.free) = true
    · rw [if_pos hk, if_pos hk]
      obtain ⟨c, e⟩ := hc (y, k) List.mem_cons_self (eq_of_beq hk)
      have e' : env.cells.lookup y = some c := e
      have e2 : cellOf env y = pure c := by unfold cellOf; rw [e']
      rw [e2, e']
      exact forIn_clos f hf r _ hr
    · rw [if_neg hk, if_neg hk]
      exact forIn_clos f hf r _ hr
theorem closure_eq {scope : Scope} {env : Env} (hc : ∀ x ∈ scope.names, x.2 = NameKind.free → ∃ c, env.cells.lookup x.1 = some c) : closureFor scope env = pure (clOf env.cells scope.names []) := by
  simp only [closureFor]
  rw [forIn_clos (env := env) _ (fun n k cs => by cases h : (k == NameKind.free) <;> simp [h]) scope.names [] hc]
  rfl
theorem new_block {M : Model} {A : Around} {E : Value → Shared → Prop} {s : Shared} {scope : Scope} {gl : Addr} {cl : List (Str × Addr)} {qual : Str} {around : Env} {Q : Env → Shared → Prop}
    (hQ : ∀ h1 : Heap, (∀ b o, s.heap.get? b = some o → h1.get? b = some o) → h1.Ns s.heap.objs.size (fun _ => none) →
      (∀ x c, (cellsFrom (s.heap.objs.size + 1) scope.names cl).lookup x = some c → cl.lookup x = some c ∨ (s.heap.objs.size < c ∧ h1.IsCell c none)) →
      Q { scope := scope, locals := s.heap.objs.size, globals := gl, cells := cellsFrom (s.heap.objs.size + 1) scope.names cl, qual := qual, func := none, code := around.code, frame := around.frame, builtins := around.builtins } { s with heap := h1 }) :
    wpAny M A (newFunctionEnv scope gl cl [] qual none .none (some around)) Q E s := by
  simp only [newFunctionEnv, Option.isSome_some, if_true]
  refine wpAny_bind (wpAny_alloc ?_)
  refine wpAny_bind (wpAny_layCells _ (fun name kind cells => by cases hkc : kind == NameKind.cell <;> simp [hkc]) _ _ _ _ ?_)
  rw [show ({ s with heap := s.heap.push { cls := .type "dict", data := .dict #[] } } : Shared).heap.objs.size = s.heap.objs.size + 1 from Heap.size_push ..]
  rw [List.forIn_nil]
  refine wpAny_bind (wpAny_pure (wpAny_pure ?_))
  refine hQ _ (fun b o e => pushCells_keeps _ _ b o (Heap.get?_push_of_some _ e)) ((Heap.Ns.new s.heap (.type "dict")).keeps (pushCells_keeps _ _)) fun x c e => ?_
  have q := push_cells (x := x) (c := c) scope.names (s.heap.push { cls := .type "dict", data := .dict #[] }) cl (by rw [Heap.size_push]; exact e)
  rw [Heap.size_push] at q
  exact q.imp id fun ⟨a, b⟩ => ⟨by omega, b⟩
theorem relab_free {env : Env} {x : Str} : ∀ {ns : List (Str × NameKind)}, ns.lookup x = some .free →
    (ns.map fun (n, k) => if (k == NameKind.free && env.scope.kind == .function && env.kindOf n == some .cell) then (n, NameKind.cell) else (n, k)).lookup x = some .cell ∨
    (ns.map fun (n, k) => if (k == NameKind.free && env.scope.kind == .function && env.kindOf n == some .cell) then (n, NameKind.cell) else (n, k)).lookup x = some .free
  | [], h => by simp at h
  | (n, k) :: r, h => by
    have ih := @relab_free env x r
    rw [List.map_cons]
    dsimp only
    by_cases hc : (k == NameKind.free && env.scope.kind == .function && env.kindOf n == some .cell) = true
    · rw [if_pos hc, List.lookup_cons]
      cases hx : x == n with
      | true => exact .inl rfl
      | false => rw [List.lookup_cons, hx] at h; exact ih h
    · rw [if_neg hc, List.lookup_cons]
      cases hx : x == n with
      | true =>
        rw [List.lookup_cons, hx] at h
        have e := Option.some.inj h
        subst e
        exact .inr rfl
      | false => rw [List.lookup_cons, hx] at h; exact ih h
theorem relab_back {env : Env} {x : Str} : ∀ {ns : List (Str × NameKind)},
    ((ns.map fun (n, k) => if (k == NameKind.free && env.scope.kind == .function && env.kindOf n == some .cell) then (n, NameKind.cell) else (n, k)).lookup x = some .cell ∨
    (ns.map fun (n, k) => if (k == NameKind.free && env.scope.kind == .function && env.kindOf n == some .cell) then (n, NameKind.cell) else (n, k)).lookup x = some .free) →
    ns.lookup x = some .cell ∨ ns.lookup x = some .free
  | [], h => by simp at h
  | (n, k) :: r, h => by
    have ih := @relab_back env x r
    rw [List.map_cons] at h
    dsimp only at h
    by_cases hc : (k == NameKind.free && env.scope.kind == .function && env.kindOf n == some .cell) = true
    · rw [if_pos hc, List.lookup_cons] at h
      rw [List.lookup_cons]
      cases hx : x == n with
      | true =>
        have : k = NameKind.free := by
          rw [Bool.and_eq_true, Bool.and_eq_true] at hc
          exact eq_of_beq hc.1.1
        subst this
        exact .inr rfl
      | false => rw [hx] at h; exact ih h
    · rw [if_neg hc, List.lookup_cons] at h
      rw [List.lookup_cons]
      cases hx : x == n with
      | true => rw [hx] at h; exact h
      | false => rw [hx] at h; exact ih h
noncomputable def cxComp (X : Cx) (N' : List Str) (sc : Scope) (L : Addr) (cs : List (Str × Addr)) (s : Shared) (H : Hp) (fp : List Addr) : Cx :=
  { X with
    N := N', s₀ := s, H₀ := H, outer := X.stack, ex := fp, pn := [], xe := fun _ _ => False
    fn := fun x => !(sc.names.any fun p => p.1 == x && p.2 == NameKind.free)
    env := { scope := relabel sc X.env, locals := L, globals := X.env.globals, cells := cs, qual := X.env.qual, func := none, code := X.env.code, frame := X.env.frame, builtins := X.env.builtins } }
noncomputable def inS (ix : List (Option Nat)) (σ : St) : St := ix.map fun o => match o with
  | none => none
  | some j => (σ[j]?).join
noncomputable def compOk (N : List Str) (osc : Scope) (N' : List Str) (sc : Scope) (ix : List (Option Nat)) : Bool :=
  decide (ix.length = N'.length) &&
  ((List.range ix.length).all fun i => match ix[i]? with
    | some (some j) => (match N'[i]?, N[j]? with
      | some x, some y => x == y && sc.names.lookup x == some NameKind.free
      | _, _ => false)
    | _ => true) &&
  (sc.names.all fun p => (p.2 != NameKind.free || (osc.names.lookup p.1 == some NameKind.cell || osc.names.lookup p.1 == some NameKind.free)) && (p.2 != NameKind.local || sc.names.lookup p.1 == some NameKind.local)) &&
  (sc.names.all fun p => sc.names.all fun q => !(p.1 == q.1) || p.2 == q.2)
section
variable {X : Cx} {pins : List (Addr × Obj)} {σ : St} {H : Hp} {s : Shared} {N' : List Str} {sc : Scope} {ix : List (Option Nat)}
theorem compOk.len (ok : compOk X.N X.env.scope N' sc ix = true) : ix.length = N'.length := by
  unfold compOk at ok
  rw [Bool.and_eq_true, Bool.and_eq_true, Bool.and_eq_true] at ok
  exact of_decide_eq_true ok.1.1.1
theorem compOk.at (ok : compOk X.N X.env.scope N' sc ix = true) {i j : Nat} {x : Str} (h : ix[i]? = some (some j)) (hx : N'[i]? = some x) : X.N[j]? = some x ∧ sc.names.lookup x = some .free := by
  unfold compOk at ok
  rw [Bool.and_eq_true, Bool.and_eq_true, Bool.and_eq_true] at ok
  have q := List.all_eq_true.mp ok.1.1.2 i (List.mem_range.mpr (List.getElem?_eq_some_iff.mp h).1)
  rw [h, hx] at q
  dsimp only at q
  cases e : X.N[j]? with
  | none => rw [e] at q; cases q
  | some y =>
    rw [e] at q
    dsimp only at q
    rw [Bool.and_eq_true] at q
    exact ⟨by rw [eq_of_beq q.1], eq_of_beq q.2⟩
theorem compOk.fr (ok : compOk X.N X.env.scope N' sc ix = true) {x : Str} (h : (x, NameKind.free) ∈ sc.names) : X.env.kindOf x = some .cell ∨ X.env.kindOf x = some .free := by
  unfold compOk at ok
  rw [Bool.and_eq_true, Bool.and_eq_true] at ok
  have q := List.all_eq_true.mp ok.1.2 _ h
  rw [Bool.and_eq_true] at q
  have q1 := q.1
  rw [Bool.or_eq_true] at q1
  rcases q1 with z | z
  · exact absurd z (by simp)
  · rw [Bool.or_eq_true] at z
    exact z.imp (fun e => eq_of_beq e) fun e => eq_of_beq e
theorem compOk.loc (ok : compOk X.N X.env.scope N' sc ix = true) : ∀ x ∈ sc.names, x.2 = NameKind.local → sc.names.lookup x.1 = some .local := fun x hx e => by
  unfold compOk at ok
  rw [Bool.and_eq_true, Bool.and_eq_true] at ok
  have q := List.all_eq_true.mp ok.1.2 _ hx
  rw [Bool.and_eq_true] at q
  have q1 := q.2
  rw [Bool.or_eq_true] at q1
  rcases q1 with z | z
  · rw [e] at z; exact absurd z (by decide)
  · exact eq_of_beq z
theorem compOk.apart (ok : compOk X.N X.env.scope N' sc ix = true) {x : Str} (h1 : (x, NameKind.cell) ∈ sc.names) (h2 : (x, NameKind.free) ∈ sc.names) : False := by
  unfold compOk at ok
  rw [Bool.and_eq_true] at ok
  have q := List.all_eq_true.mp (List.all_eq_true.mp ok.2 _ h1) _ h2
  simp at q
theorem comp_free (I : Inv X pins σ H s) (ok : compOk X.N X.env.scope N' sc ix = true) : ∀ x ∈ sc.names, x.2 = NameKind.free → ∃ c, X.env.cells.lookup x.1 = some c := fun x hx e => by
  obtain ⟨n, k⟩ := x
  have e' : k = NameKind.free := e
  subst e'
  exact I.ok.has n (compOk.fr ok hx)
theorem comp_cl (I : Inv X pins σ H s) (ok : compOk X.N X.env.scope N' sc ix = true) {x : Str} {c : Addr} (h : (clOf X.env.cells sc.names []).lookup x = some c) : (x, NameKind.free) ∈ sc.names ∧ X.env.cells.lookup x = some c := by
  rcases clOf_cases _ _ h with ⟨m, e⟩ | z
  · obtain ⟨d, hd⟩ := comp_free I ok _ m rfl
    have hd' : X.env.cells.lookup x = some d := hd
    rw [hd'] at e
    have e2 : c = d := e
    subst e2
    exact ⟨m, hd'⟩
  · simp at z
theorem comp_inv {fp : List Addr} {L : Addr} {h1 : Heap} (I : Inv X pins σ H s) (hf : ∀ b ∈ fp, FpOk X pins H b) (hb : ∀ b ∈ fp, ∃ o, s.heap.get? b = some o) (ok : compOk X.N X.env.scope N' sc ix = true) (hk : sc.kind = .function) (hL : s.heap.objs.size ≤ L)
    (kp : ∀ b o, s.heap.get? b = some o → h1.get? b = some o) (ns : h1.Ns L fun _ => none)
    (hc : ∀ x c, (cellsFrom (L + 1) sc.names (clOf X.env.cells sc.names [])).lookup x = some c → (clOf X.env.cells sc.names []).lookup x = some c ∨ (L < c ∧ h1.IsCell c none)) :
    Inv (cxComp X N' sc L (cellsFrom (L + 1) sc.names (clOf X.env.cells sc.names [])) s H fp) [] (inS ix σ) H { s with heap := h1 } := by
  have cc : ∀ x c, (clOf X.env.cells sc.names []).lookup x = some c → (x, NameKind.free) ∈ sc.names ∧ X.env.cells.lookup x = some c ∧ (∃ v, s.heap.IsCell c v) ∧ c < s.heap.objs.size := fun x c e => by
    obtain ⟨m, e'⟩ := comp_cl I ok e
    obtain ⟨v, z⟩ := I.cell x c e'
    exact ⟨m, e', ⟨v, z⟩, z.lt⟩
  have fpl : ∀ b ∈ fp, b < s.heap.objs.size := fun b z => let ⟨o, e⟩ := hb b z; Heap.lt_size e
  have cne : ∀ b ∈ fp, ∀ x c, (cellsFrom (L + 1) sc.names (clOf X.env.cells sc.names [])).lookup x = some c → c ≠ b := fun b z x c e => by
    have hlt := fpl b z
    rcases hc x c e with q | ⟨q, _⟩
    · exact (hf b z).2.2.2.2.1 x c (cc x c q).2.1
    · exact gt_ne (Nat.lt_of_lt_of_le hlt hL) q
  have okk : (cxComp X N' sc L (cellsFrom (L + 1) sc.names (clOf X.env.cells sc.names [])) s H fp).Ok := by
    refine ⟨I.ok.mod, hk, I.ok.glob, I.ok.blt, hL, ?_, ?_, ?_, I.ok.hd, I.ok.frames, .inl rfl, ?_, I.bs, Nat.le_trans I.ok.bsz I.sz, ?_, ?_, I.stack, I.stkFree⟩
    · refine cells_inj sc.names (L + 1) _ (fun x y c e1 e2 => I.ok.inj x y c (cc x c e1).2.1 (cc y c e2).2.1) fun x c e => ?_
      exact Nat.lt_succ_of_lt (Nat.lt_of_lt_of_le (cc x c e).2.2.2 hL)
    · intro x hx
      have hx' := relab_back (env := X.env) (x := x) (ns := sc.names) hx
      have q : ((cellsFrom (L + 1) sc.names (clOf X.env.cells sc.names [])).lookup x).isSome = true := by
        rcases hx' with z | z
        · exact PySem.W.cellsFrom_some _ _ _ (.inl z)
        · exact PySem.W.cellsFrom_some _ _ _ (.inr (clOf_some _ _ (.inl (PySem.mem_of_lookup z))))
      exact Option.isSome_iff_exists.mp q
    · intro x c hfn e
      show s.heap.objs.size ≤ c
      rcases hc x c e with q | ⟨q, _⟩
      · have m := (cc x c q).1
        have hfn' : (!(sc.names.any fun p => p.1 == x && p.2 == NameKind.free)) = true := hfn
        have z : (sc.names.any fun p => p.1 == x && p.2 == NameKind.free) = true := List.any_eq_true.mpr ⟨_, m, by simp⟩
        rw [z] at hfn'
        cases hfn'
      · exact Nat.le_trans hL (Nat.le_of_lt q)
    · intro b z
      have hlt := fpl b z
      exact ⟨Nat.ne_of_lt (Nat.lt_of_lt_of_le hlt hL), cne b z⟩
    · intro b o e z
      rcases (hf b z).2.2.2.1 with q | q
      · exact I.ok.noex b o e q
      · exact absurd (Nat.lt_of_lt_of_le (Heap.lt_size e) (Nat.le_trans I.ok.bsz q)) (Nat.lt_irrefl _)
    · intro b z hs
      rcases List.mem_cons.mp (I.stkSub b hs) with q | q
      · exact (hf b z).2.1 q
      · exact (hf b z).2.2.1 q
  refine ⟨okk, rfl, I.bare, Un.kept kp, ⟨_, ns, fun i x v h1' h2 h3 => ?_⟩, fun x c e => ?_, I.hok.fresh hL, fun x c e => ?_, fun p hp => absurd hp (by simp [cxComp]), I.hok.kept kp, ?_⟩
  · have hix : ∃ j, ix[i]? = some (some j) ∧ σ[j]? = some (some v) := by
      unfold inS at h2
      rw [List.getElem?_map] at h2
      cases e : ix[i]? with
      | none => rw [e] at h2; cases h2
      | some o =>
        rw [e] at h2
        cases o with
        | none => cases h2
        | some j =>
          have h2' : (σ[j]?).join = some v := Option.some.inj h2
          refine ⟨j, rfl, ?_⟩
          cases e2 : σ[j]? with
          | none => rw [e2] at h2'; cases h2'
          | some w =>
            rw [e2] at h2'
            have h2'' : w = some v := h2'
            rw [h2'']
    obtain ⟨j, e1, e2⟩ := hix
    obtain ⟨e3, e4⟩ := compOk.at ok e1 h1'
    have hfr := compOk.fr ok (PySem.mem_of_lookup e4)
    obtain ⟨m, hn, hl⟩ := I.loc
    obtain ⟨u, r, l⟩ := hl j x v e3 e2 (hfr.elim (fun z => .inr (.inl z)) fun z => .inr (.inr z))
    refine ⟨u, r, .inr ⟨relab_free (env := X.env) (x := x) (ns := sc.names) e4, ?_⟩⟩
    rcases l with ⟨k, _⟩ | ⟨k, c, e, z⟩
    · rcases hfr with q | q <;> rw [q] at k <;> cases k
    · have q1 := clOf_some (cells := X.env.cells) sc.names [] (.inl (PySem.mem_of_lookup e4))
      obtain ⟨c2, q2⟩ := Option.isSome_iff_exists.mp q1
      have q3 := (cc x c2 q2).2.1
      rw [e] at q3
      cases q3
      have q4 := PySem.W.cellsFrom_some (x := x) sc.names (L + 1) (clOf X.env.cells sc.names []) (.inr q1)
      obtain ⟨c3, q5⟩ := Option.isSome_iff_exists.mp q4
      rcases hc x c3 q5 with q6 | ⟨q6, q7⟩
      · rw [q2] at q6
        cases q6
        exact ⟨c, q5, z.keeps kp⟩
      · exfalso
        rcases cells_cases _ _ _ q5 with ⟨_, m'⟩ | q8
        · exact compOk.apart ok m' (PySem.mem_of_lookup e4)
        · rw [q2] at q8
          cases q8
          exact absurd (Nat.lt_trans (Nat.lt_of_lt_of_le (cc x c q2).2.2.2 hL) q6) (Nat.lt_irrefl _)
  · rcases hc x c e with q | ⟨_, q⟩
    · obtain ⟨v, z⟩ := (cc x c q).2.2.1
      exact ⟨v, z.keeps kp⟩
    · exact ⟨_, q⟩
  · rcases hc x c e with q | ⟨q, _⟩
    · exact I.freeC x c (cc x c q).2.1
    · exact I.hok.fresh (Nat.le_trans hL (Nat.le_of_lt q))
  · show (inS ix σ).length = N'.length
    unfold inS
    rw [List.length_map]
    exact compOk.len ok
end
noncomputable def PTs (X : Cx) (ifs : List Expr) (t : TT) : Prop :=
  ∀ (pins : List (Addr × Obj)) (s : Shared) (σ : St) (H : Hp) (Q : Bool → Hp → Prop), Inv X pins σ H s → t σ H Q →
    wpAny (model X.prog X.w) X.A (forIn ifs true fun c r => if r = true then do let ok ← isTrue c X.env (eval c X.env); pure (ForInStep.yield ok) else pure (ForInStep.yield r)) (TP X pins σ Q) X.xe s
noncomputable def tYes : TT := fun _ H Q => Q true H
theorem pts_nil {X : Cx} : PTs X [] tYes := fun _ _ _ H _ I h => wpAny_tests_nil ⟨H, I, h⟩
theorem pts_one {X : Cx} {c : Expr} {t : TT} (h : PT X c t) : PTs X [c] t := fun pins s σ H Q I q => wpAny_tests_one (h pins s σ H Q I q)
theorem compLoop_any {prog : Program} {w : World} {A : Around} {R : Result → Shared → Prop} {s : Shared} {elt tg iter : Expr} {ifs : List Expr} {scope : Scope} {pos : Pos} {it acc : Value} {env : Env} (J : Nat → Shared → Prop)
    (turn : ∀ n s, J n s → wpAny (model prog w) A (pyNext it) (fun r s1 => match r with
      | none => R (.ok .next) s1
      | some v => wpAny (model prog w) A (letOwnedTupleGo tg it v) (fun _ s1' => wpAny (model prog w) A (assign tg env v) (fun _ s2 =>
          wpAny (model prog w) A (forIn ifs true fun c r => if r = true then do let ok ← isTrue c env (eval c env); pure (ForInStep.yield ok) else pure (ForInStep.yield r)) (fun ok s3 =>
            if ok = true then wpAny (model prog w) A (eval elt env) (fun x s4 => wpAny (model prog w) A (call (.builtin "list.append") [acc, x]) (fun _ s5 => ∃ m, m < n ∧ J m s5) (fun _ _ => False) s4) (fun _ _ => False) s3
            else ∃ m, m < n ∧ J m s3) (fun _ _ => False) s2) (fun _ _ => False) s1') (fun _ _ => False) s1) (fun _ _ => False) s)
    (n : Nat) (h : J n s) : codeAny (model prog w) A (.compLoop (.ListComp elt [⟨tg, iter, ifs, 0⟩] scope pos) 0 it acc env) R s := by
  refine codeAny_loop rfl J (fun n s hJ => ?_) n h
  show wpAny _ A ((compTurn (.ListComp elt [⟨tg, iter, ifs, 0⟩] scope pos) 0 it acc env).onRaise (fun x => do noteFrame x env; theTreesLotGoes x)) _ _ s
  refine wpAny_noted ?_
  rw [compTurn_list]
  refine wpAny_bind (wpAny_standAt (wpAny_bind (wpAny_mono (turn n s hJ) (fun r s1 h1 => ?_) fun _ _ z => z.elim)))
  cases r with
  | none => exact wpAny_pure h1
  | some v =>
    refine wpAny_bind (wpAny_mono h1 (fun _ s1' h1' => ?_) fun _ _ z => z.elim)
    refine wpAny_bind (wpAny_mono h1' (fun _ s2 h2 => wpAny_bind (wpAny_mono h2 (fun ok s3 h3 => ?_) fun _ _ z => z.elim)) fun _ _ z => z.elim)
    cases ok with
    | false => exact wpAny_pure ⟨rfl, h3⟩
    | true =>
      exact wpAny_bind (wpAny_bind (wpAny_mono h3 (fun x s4 h4 => wpAny_bind (wpAny_mono h4 (fun _ s5 h5 => wpAny_pure (wpAny_pure ⟨rfl, h5⟩)) fun _ _ z => z.elim)) fun _ _ z => z.elim))
noncomputable def compTurns (J : It) (ix : List (Option Nat)) (g : TG) (tt : TT) (te : TE) (σ : St) (F : List V → Hp → Prop) (H : Hp) : Prop :=
  ∃ W : Nat → Nat → List V → Hp → Prop, (∃ m, W 0 m [] H) ∧ ∀ i m ys H, W i m ys H →
    (J.stop i H ∧ ys.length ≤ sizeLine ∧ F ys H) ∨ (J.go i H ∧ ys.length ≤ sizeLine ∧ ∃ N : List V → Hp → Prop, (∀ ys' H', N ys' H' → ∃ m', m' < m ∧ W (i + 1) m' ys' H') ∧
      ∀ x H', J.yld i H x H' → g x (inS ix σ) H' fun σ2 H2 => tt σ2 H2 fun b H3 => if b = true then te σ2 H3 fun y H4 => N (ys ++ [y]) H4 else N ys H3)
section
variable {X : Cx} {pins : List (Addr × Obj)} {σ : St} {H : Hp} {s : Shared} {N' : List Str} {sc : Scope} {ix : List (Option Nat)}
theorem Inv.slots0 {X : Cx} {σ' : St} (I : Inv X pins σ' H s) (h : ∀ (i : Nat) v, (inS ix σ)[i]? = some (some v) → σ'[i]? = some (some v)) (hl : (inS ix σ).length = X.N.length) : Inv X pins (inS ix σ) H s :=
  I.weak (by rw [hl, I.len]) h
theorem comp_core {tg elt iter : Expr} {ifs : List Expr} {pos : Pos} {g : TG} {tt : TT} {te : TE} {J : It} {fp : List Addr} {it : Addr} {tn : Nat → Heap → Prop} {F : List V → Hp → Prop} {E : Value → Shared → Prop}
    (hc : X.calm = true) (I : Inv X pins σ H s) (T : Turn X.prog X.w X.K tg J fp it tn) (st : tn 0 s.heap) (hf : ∀ b ∈ fp, FpOk X pins H b) (ok : compOk X.N X.env.scope N' sc ix = true) (hk : sc.kind = .function)
    (hg : ∀ L cs s H fp, PG (cxComp X N' sc L cs s H fp) tg g) (hkeep : ∀ x σ' H' (Q : St → Hp → Prop), g x σ' H' Q → g x σ' H' fun σ2 H2 => Q σ2 H2 ∧ ∀ (i : Nat) v, σ'[i]? = some (some v) → (∃ j, ix[i]? = some (some j)) → σ2[i]? = some (some v))
    (ht : ∀ L cs s H fp, PTs (cxComp X N' sc L cs s H fp) ifs tt) (he : ∀ L cs s H fp, PE (cxComp X N' sc L cs s H fp) elt te)
    (tr : compTurns J ix g tt te σ F H) :
    wpAny (model X.prog X.w) X.A (newList []) (fun acc s3 => wpAny (model X.prog X.w) X.A (newFunctionEnv sc X.env.globals (clOf X.env.cells sc.names []) [] X.env.qual none .none (some X.env)) (fun cenv s4 =>
      codeAny (model X.prog X.w) X.A (.compStart (.ListComp elt [⟨tg, iter, ifs, 0⟩] sc pos) 0 (.ref it) acc { cenv with scope := relabel sc X.env }) (fun r s' => (∃ fl, r = .ok fl) ∧
        ∃ (p : Addr) (ys : List V) (H2 : Hp), acc = .ref p ∧ Inv X pins σ (upd H2 p (.lst ys)) s' ∧ H2 p = none ∧ F ys H2 ∧ (∃ m, s'.heap.Ns cenv.locals m) ∧ (upd H2 p (.lst ys)) cenv.locals = none ∧ cenv.locals ≠ X.env.locals ∧
          X.s₀.heap.objs.size ≤ cenv.locals ∧ (∀ x c, X.env.cells.lookup x = some c → c ≠ cenv.locals) ∧ ∀ q ∈ X.pn ++ pins, q.1 ≠ cenv.locals) s4) E s3) E s := by
  obtain ⟨W, ⟨m0, w0⟩, turn⟩ := tr
  refine wpAny_newObj_type (new_block fun h1 kp ns hcl => ?_)
  dsimp only at kp ns hcl ⊢
  generalize hH2 : s.heap.push { cls := .type "list", dict := none, data := .seq ([] : List Value).toArray } = HH at kp ns hcl ⊢
  have eL : HH.objs.size = s.heap.objs.size + 1 := by rw [← hH2, Heap.size_push]
  have kp0 : ∀ b o, s.heap.get? b = some o → h1.get? b = some o := fun b o e => kp b o (hH2 ▸ Heap.get?_push_of_some _ e)
  have hD0 : h1.PlainList s.heap.objs.size #[] := ⟨_, kp _ _ (hH2 ▸ Heap.get?_push_size _ rfl)⟩
  have fpo : ∀ b ∈ fp, ∃ o, s.heap.get? b = some o := fun b z => let ⟨o, e, _⟩ := T.obj 0 _ st b z; ⟨o, e⟩
  have fpl : ∀ b ∈ fp, b < s.heap.objs.size := fun b z => let ⟨o, e⟩ := fpo b z; Heap.lt_size e
  have sL : s.heap.objs.size ≤ HH.objs.size := by rw [eL]; exact Nat.le_succ _
  have sL' : s.heap.objs.size < HH.objs.size := by rw [eL]; exact Nat.lt_succ_self _
  have I0 := comp_inv (h1 := h1) I hf fpo ok hk sL kp0 ns hcl
  generalize hXX : cxComp X N' sc HH.objs.size (cellsFrom (HH.objs.size + 1) sc.names (clOf X.env.cells sc.names [])) s H fp = Y at I0
  have eY1 : Y.prog = X.prog := by subst hXX; rfl
  have eY2 : Y.w = X.w := by subst hXX; rfl
  have eY3 : Y.K = X.K := by subst hXX; rfl
  have eY4 : Y.calm = true := by subst hXX; exact hc
  have eY5 : Y.A = X.A := by subst hXX; rfl
  have eY6 : Y.env = { scope := relabel sc X.env, locals := HH.objs.size, globals := X.env.globals, cells := cellsFrom (HH.objs.size + 1) sc.names (clOf X.env.cells sc.names []), qual := X.env.qual, func := none, code := X.env.code, frame := X.env.frame, builtins := X.env.builtins } := by subst hXX; rfl
  have eY7 : Y.xe = fun _ _ => False := by subst hXX; rfl
  have eY8 : Y.pn = [] := by subst hXX; rfl
  have eY9 : Y.fs = frs X.stack := by subst hXX; rfl
  have eY10 : Y.s₀ = s := by subst hXX; rfl
  have eY11 : Y.H₀ = H := by subst hXX; rfl
  have eY12 : Y.ex = fp := by subst hXX; rfl
  have eY13 : Y.N = N' := by subst hXX; rfl
  have hgY : PG Y tg g := by subst hXX; exact hg _ _ _ _ _
  have htY : PTs Y ifs tt := by subst hXX; exact ht _ _ _ _ _
  have heY : PE Y elt te := by subst hXX; exact he _ _ _ _ _
  have lenI : (inS ix σ).length = Y.N.length := by rw [eY13]; unfold inS; rw [List.length_map]; exact compOk.len ok
  have cellN : ∀ (b : Addr), b ≤ HH.objs.size → (∀ x c, X.env.cells.lookup x = some c → c ≠ b) → ∀ x c, Y.env.cells.lookup x = some c → c ≠ b := fun b hb hx x c e => by
    rw [eY6] at e
    rcases hcl x c e with q | ⟨q, _⟩
    · exact hx x c (comp_cl I ok q).2
    · exact (lt_ne (Nat.lt_of_le_of_lt hb (Nat.lt_succ_self _)) q).symm
  have oldc : ∀ x c, X.env.cells.lookup x = some c → c < s.heap.objs.size := fun x c e => let ⟨v, z⟩ := I.cell x c e; z.lt
  have nfs : ∀ b, s.heap.objs.size ≤ b → b ∉ frs X.stack := fun b hb z => by
    rcases List.mem_cons.mp (I.stkSub b z) with q | q
    · exact lt_ne I.lt hb q.symm
    · exact I.nofs hb q
  have fpY : ∀ (pp : List (Addr × Obj)) (H' : Hp), (∀ b ∈ fp, H' b = none) → (∀ q ∈ pp, q.1 ∉ fp) → ∀ b ∈ fp, FpOk Y pp H' b := fun pp H' hn hq b z => by
    have hlt := fpl b z
    refine ⟨hn b z, ?_, ?_, .inl (by rw [eY12]; exact z), cellN b (Nat.le_of_lt (Nat.lt_trans hlt sL')) ((hf b z).2.2.2.2.1), fun q hq' e => ?_⟩
    · rw [eY6]; exact lt_ne hlt sL
    · rw [eY9]; intro hs
      rcases List.mem_cons.mp (I.stkSub b hs) with q | q
      · exact (hf b z).2.1 q
      · exact (hf b z).2.2.1 q
    · rw [eY8] at hq'
      exact hq q (by simpa using hq') (by rw [e]; exact z)
  have Dfp : s.heap.objs.size ∉ fp := fun z => absurd (fpl _ z) (Nat.lt_irrefl _)
  have Dok : ∀ (pp : List (Addr × Obj)) (H' : Hp), H' s.heap.objs.size = none → (∀ q ∈ pp, q.1 ≠ s.heap.objs.size) → FpOk Y pp H' s.heap.objs.size := fun pp H' hn hq => by
    refine ⟨hn, ?_, by rw [eY9]; exact nfs _ (Nat.le_refl _), .inr (by rw [eY10]; exact Nat.le_refl _), cellN _ sL (fun x c e => Nat.ne_of_lt (oldc x c e)), fun q hq' => ?_⟩
    · rw [eY6]; exact Nat.ne_of_lt sL'
    · rw [eY8] at hq'
      exact hq q (by simpa using hq')
  have loop : codeAny (model X.prog X.w) X.A (.compLoop (.ListComp elt [⟨tg, iter, ifs, 0⟩] sc pos) 0 (.ref it) (.ref s.heap.objs.size) Y.env) (fun r s' => (∃ fl, r = .ok fl) ∧
        ∃ (p : Addr) (ys : List V) (H2 : Hp), Value.ref s.heap.objs.size = .ref p ∧ Inv X pins σ (upd H2 p (.lst ys)) s' ∧ H2 p = none ∧ F ys H2 ∧ (∃ m, s'.heap.Ns HH.objs.size m) ∧ (upd H2 p (.lst ys)) HH.objs.size = none ∧ HH.objs.size ≠ X.env.locals ∧
          X.s₀.heap.objs.size ≤ HH.objs.size ∧ (∀ x c, X.env.cells.lookup x = some c → c ≠ HH.objs.size) ∧ ∀ q ∈ X.pn ++ pins, q.1 ≠ HH.objs.size) { s with heap := h1 } := by
    refine compLoop_any (fun n s' => ∃ i ys its H', Inv Y [] (inS ix σ) H' s' ∧ tn i s'.heap ∧ (∀ b ∈ fp, H' b = none) ∧ H' s.heap.objs.size = none ∧ s'.heap.PlainList s.heap.objs.size its ∧ Vals ys its.toList ∧ W i n ys H') ?_ m0
      ⟨0, [], #[], H, I0, T.keep _ _ _ st fun b _ o e => kp0 b o e, fun b z => (hf b z).1, I.hok.fresh (Nat.le_refl _), hD0, .nil, w0⟩
    rintro n s3 ⟨i, ys, its, H3, I3, st3, fr3, hD3, pl3, vs3, w3⟩
    obtain ⟨nD, oD⟩ := pl3
    have hpD : ∀ q ∈ [((s.heap.objs.size : Addr), ({ cls := .type "list", data := .seq its nD } : Obj))], q.1 ∉ fp := fun q hq => by
      have : q = _ := List.mem_singleton.mp hq
      rw [this]; exact Dfp
    have I3' : Inv Y [((s.heap.objs.size : Addr), ({ cls := .type "list", data := .seq its nD } : Obj))] (inS ix σ) H3 s3 := I3.pins_of fun q hq => by
      have e : q = _ := List.mem_singleton.mp hq
      obtain ⟨d0, d1, d2, _⟩ := Dok [] H3 hD3 (fun _ z => nomatch z)
      rw [e]
      exact ⟨oD, d0, d1, d2, fun v z => by cases z⟩
    rcases turn i n ys H3 w3 with ⟨stop, ln, qn⟩ | ⟨go, ln, NN, hNN, step⟩
    · have h1 := T.done Y eY1 eY2 eY3 eY4 i _ s3 _ H3 (fun _ _ => False) I3' (fpY _ H3 fr3 hpD) st3 stop
      rw [eY5] at h1
      refine wpAny_mono h1 (fun r s4 ⟨hr, I4⟩ => ?_) fun _ _ z => z
      subst hr
      obtain ⟨oD4, hD4, _⟩ := I4.pin ((s.heap.objs.size : Addr), ({ cls := .type "list", data := .seq its nD } : Obj)) (by rw [eY8]; simp)
      refine ⟨⟨_, rfl⟩, s.heap.objs.size, ys, H3, rfl, ?_, hD3, qn, ?_, ?_, ?_, ?_, ?_, ?_⟩
      · have ub : Un (frs X.stack) fp H H3 s.heap s4.heap := by
          have := I4.base
          rw [eY9, eY10, eY11, eY12] at this
          exact this
        have hok4 : HOk X.prog X.w H3 s4.heap := by
          have := I4.hok
          rw [eY1, eY2] at this
          exact this
        refine I.call' (ch := fp) (by have := I4.os; rw [eY10] at this; exact this) ⟨ub.keep, ub.slot, fun b o e nn hx => ?_, ub.there, fun b xs q => ?_, fun b o u q => ?_, fun b ps q => ?_⟩ (fun b u e => ?_) I4.bare (fun b hb => ?_)
        · rw [upd_ne (Nat.ne_of_lt (Heap.lt_size e))]; exact ub.free b o e nn hx
        · rw [upd_ne (ne_of_none (ub.tups b xs q) hD3)]; exact ub.tups b xs q
        · rw [upd_ne (ne_of_none (ub.frzs b o u q) hD3)]; exact ub.frzs b o u q
        · obtain ⟨more, z⟩ := ub.tbls b ps q
          exact ⟨more, by rw [upd_ne (ne_of_none z hD3)]; exact z⟩
        · by_cases hb : b = s.heap.objs.size
          · subst hb
            rw [upd_same] at e
            cases e
            exact ⟨ln, its.toList, nD, vs3, by simpa using oD4⟩
          · rw [upd_ne hb] at e
            exact (hok4 b u e).stay (fun _ _ _ q => q) (fun c q => by rw [upd_ne (ne_of_none q hD3)]; exact q) fun c xs q => by rw [upd_ne (ne_of_none q hD3)]; exact q
        · obtain ⟨f0, f1, f2, f3, f4, f5⟩ := hf b hb
          exact ⟨f3, f1, f4, f5⟩
      · obtain ⟨m, hn, _⟩ := I4.loc
        rw [eY6] at hn
        exact ⟨m, hn⟩
      · rw [upd_ne (Nat.ne_of_gt sL')]
        have := I4.free
        rw [eY6] at this
        exact this
      · exact Nat.ne_of_gt (Nat.lt_trans I.lt sL')
      · exact Nat.le_trans I.sz sL
      · exact fun x c e => lt_ne (oldc x c e) sL
      · exact fun q hq => lt_ne (Heap.lt_size (I.pin q hq).1) sL
    · have h1 := T.item Y eY1 eY2 eY3 eY4 i _ s3 _ H3 (fun _ _ => False) I3' (fpY _ H3 fr3 hpD) st3 go
      rw [eY5] at h1
      refine wpAny_mono h1 (fun r s4 ⟨u, hr, h4⟩ => ?_) fun _ _ z => z
      subst hr
      refine wpAny_mono h4 (fun _ s5 ⟨x, H5, I5, r5, y5, st5, fr5⟩ => ?_) fun _ _ z => z
      have I5' := I5.pinned (fpY _ H5 fr5 hpD) (T.obj _ _ st5)
      have h5 := hgY _ s5 _ H5 x u _ I5' r5 (hkeep x _ H5 _ (step x H5 y5))
      rw [eY1, eY2, eY5, eY7] at h5
      refine wpAny_mono h5 (fun _ s6 ⟨σ6, H6, I6, q6, k6⟩ => ?_) fun _ _ z => z
      have h6 := htY _ s6 σ6 H6 _ I6 q6
      rw [eY1, eY2, eY5, eY7] at h6
      refine wpAny_mono h6 (fun b s7 ⟨H7, I7, q7⟩ => ?_) fun _ _ z => z
      have back : ∀ {s8 : Shared} {H8 : Hp}, Inv Y ([((s.heap.objs.size : Addr), ({ cls := .type "list", data := .seq its nD } : Obj))] ++ pinsAt fp s5.heap) σ6 H8 s8 → Inv Y [] (inS ix σ) H8 s8 ∧ tn (i + 1) s8.heap ∧ (∀ b ∈ fp, H8 b = none) ∧ H8 s.heap.objs.size = none ∧ s8.heap.get? s.heap.objs.size = some { cls := .type "list", data := .seq its nD } := fun {s8 H8} I8 => by
        obtain ⟨a1, a2, _⟩ := I8.pin ((s.heap.objs.size : Addr), ({ cls := .type "list", data := .seq its nD } : Obj)) (by rw [eY8]; simp)
        refine ⟨(I8.pins_of (pins' := []) fun _ z => nomatch z).slots0 (fun k v e => ?_) lenI, T.keep _ _ _ st5 fun b hb o e => (I8.pin (b, o) (List.mem_append_right _ (List.mem_append_right _ (mem_pinsAt hb e)))).1, fun b hb => ?_, a2, a1⟩
        · refine k6 k v e ?_
          unfold inS at e
          rw [List.getElem?_map] at e
          cases e2 : ix[k]? with
          | none => rw [e2] at e; cases e
          | some o =>
            cases o with
            | none => rw [e2] at e; cases e
            | some j => exact ⟨j, rfl⟩
        · obtain ⟨o, e, d⟩ := T.obj _ _ st5 b hb
          exact (I8.pin (b, o) (List.mem_append_right _ (List.mem_append_right _ (mem_pinsAt hb e)))).2.1
      cases b with
      | false =>
        rw [if_neg Bool.false_ne_true] at q7 ⊢
        obtain ⟨m', hm, w7⟩ := hNN _ _ q7
        obtain ⟨b1, b2, b3, b4, b5⟩ := back I7
        exact ⟨m', hm, i + 1, ys, its, H7, b1, b2, b3, b4, ⟨nD, b5⟩, vs3, w7⟩
      | true =>
        rw [if_pos rfl] at q7 ⊢
        have h7 := heY _ s7 σ6 H7 _ I7 q7
        rw [eY1, eY2, eY5, eY7, eY6] at h7
        rw [eY6]
        refine wpAny_mono h7 (fun uu s8 ⟨y, H8, I8, r8, q8⟩ => ?_) fun _ _ z => z
        obtain ⟨m', hm, w8⟩ := hNN _ _ q8
        obtain ⟨b1, b2, b3, b4, b5⟩ := back I8
        have ez : its.size ≤ sizeLine := by
          have h1 := vs3.length
          have h2 : its.toList.length = its.size := by simp
          omega
        refine wpAny_list_append_plain (hsz := ez) ⟨nD, b5⟩ fun h9 pl9 sb9 => ?_
        obtain ⟨d0, d1, d2, d3, d4, d5⟩ := Dok [] H8 b4 (fun _ z => nomatch z)
        refine ⟨m', hm, i + 1, ys ++ [y], its.push uu, H8, b1.turned (t' := s8.toks) (fun b o hb e => (sb9.2 b hb).trans e) d0 d1 d3 d4 d5, T.keep _ _ _ b2 fun b hb o e => (sb9.2 b ?_).trans e, b3, b4, pl9, ?_, w8⟩
        · exact lt_ne (fpl b hb) (Nat.le_refl _)
        · rw [Array.toList_push]
          exact vs3.append (.cons r8 .nil)
  rw [eY6] at loop
  exact codeAny_compStart_list loop (T.self X.A 0 _ _ _ (T.keep _ _ _ st fun b _ o e => kp0 b o e) loop)
end
noncomputable def tComp (wi : TI) (ix : List (Option Nat)) (g : TG) (tt : TT) (te : TE) : TE := fun σ H Q => wi σ H fun J H1 => compTurns J ix g tt te σ (fun ys H2 => ∀ p, H2 p = none → Q (.ref p) (upd H2 p (.lst ys))) H1
noncomputable def Leaves (ix : List (Option Nat)) (g : TG) : Prop := ∀ x σ' H' (Q : St → Hp → Prop), g x σ' H' Q → g x σ' H' fun σ2 H2 => Q σ2 H2 ∧ ∀ (i : Nat) v, σ'[i]? = some (some v) → (∃ j, ix[i]? = some (some j)) → σ2[i]? = some (some v)
theorem leaves_name {ix : List (Option Nat)} {k : Nat} (h : ix[k]? = some none) : Leaves ix (gName k) := fun x σ' H' Q q => ⟨q, fun i v e ⟨j, hj⟩ => by
  have : k ≠ i := by rintro rfl; rw [h] at hj; cases hj
  rw [List.getElem?_set_ne this]; exact e⟩
section
variable {X : Cx} {N' : List Str} {sc : Scope} {ix : List (Option Nat)} {tg elt iter : Expr} {ifs : List Expr} {pos spos py : Pos} {wi : TI} {g : TG} {tt : TT} {te : TE}
theorem pe_comp (N' : List Str) (ix : List (Option Nat)) (hc : X.calm = true) (hi : PI X tg iter wi) (hg : ∀ L cs s H fp, PG (cxComp X N' sc L cs s H fp) tg g) (hl : Leaves ix g)
    (ht : ∀ L cs s H fp, PTs (cxComp X N' sc L cs s H fp) ifs tt) (he : ∀ L cs s H fp, PE (cxComp X N' sc L cs s H fp) elt te)
    (ok : compOk X.N X.env.scope N' sc ix = true := by rfl) (hk : sc.kind = .function := by rfl) (hs : ∀ x, foldedSetIterable iter X.env x = pure x := by intro _; rfl) :
    PE X (.ListComp elt [⟨tg, iter, ifs, 0⟩] sc pos) (tComp wi ix g tt te) := by
  intro pins s σ H Q I h
  rw [eval_ListComp]
  refine wpAny_comprehension_free (use := none) rfl hs (closure_eq (comp_free I ok)) hk (compOk.loc ok) (thn (hi pins s σ H _ I h) fun v s1 h1 => thn h1 fun itv s2 h2 => ?_)
  obtain ⟨it, fp, tn, J, H2, e, I2, T, st2, f2, tr⟩ := h2
  subst e
  refine thn (comp_core hc I2 T st2 f2 ok hk hg hl ht he tr) fun acc s3 h3 => thn h3 fun cenv s4 h4 => codeAny_mono h4 fun r s5 hr => ?_
  obtain ⟨⟨fl, e1⟩, p, ys, H5, e2, I5, hp, q, ⟨m, hn⟩, c0, c1, c2, c3, c4⟩ := hr
  subst e1
  subst e2
  exact ⟨m, hn, fun h' sb => ⟨.ref p, _, I5.turned (t' := s5.toks) (fun b o hb e => (sb.2 b hb).trans e) c0 c1 (.inr c2) c3 c4, rfl, q p hp⟩⟩
end
end L2
namespace L2
open PySem PySem.Spec PyProof.Rows
section
variable {X : Cx}
theorem bools_of : ∀ {bs : List Bool} {us : List Value}, Vals (bs.map V.bl) us → LSm.BoolsAre us bs
  | [], _, .nil => .nil
  | b :: r, _, .cons e t => by cases e; exact .cons b (bools_of t)
theorem call_all (hc : X.calm = true) : CallR X (.builtin "all") (fun xs H Q => ∃ (a : Addr) (bs : List Bool), xs = [.ref a] ∧ SqL X.K H a (bs.map V.bl) ∧ Q (.bl (bs.all id)) H) := by
  intro pins s σ H xs us Q I r h
  obtain ⟨a, bs, rfl, hq, q⟩ := h
  obtain ⟨u, rfl, ru⟩ := r.one
  cases ru
  obtain ⟨its, rv, p, hz⟩ := I.list hq
  have hb := bools_of rv
  have hl := p.isList
  have hlt : a < s.heap.objs.size := by obtain ⟨_, e, _⟩ := hl; exact Heap.lt_size e
  refine call_all_walk (wpAny_pyIter_list hl ?_)
  refine ⟨s.heap.objs.size, [s.heap.objs.size, a], [s.heap.objs.size], its.toArray.size, _, _, fun i => (bs[i]?).getD true, rfl, Walks.list (A := X.A.in1) (I.ok.hd hc) _ a (Nat.ne_of_lt hlt) its.toArray,
    ⟨⟨_, Heap.get?_push_size _ rfl, rfl, rfl⟩, hl.push _⟩, fun i v s' Q' E' hP hQ => ?_, fun h' tk hk => ?_⟩
  · obtain ⟨b, e, rfl⟩ := hb.get i v (by simpa using hP)
    simp only [e, Option.getD_some] at hQ
    exact wpAny_truthy_bool hQ
  · have e : ((List.range its.toArray.size).all fun i => (bs[i]?).getD true) = bs.all id := by
      rw [List.size_toArray, hb.length]; exact LSm.range_all bs
    rw [e]
    exact ⟨.bl (bs.all id), H, I.kept (LSm.kept_iter hk), rfl, q⟩
noncomputable def clsV : V → Option Value
  | .ty n => some (.type n)
  | .ref a => some (.ref a)
  | _ => none
theorem clsV_is {y : V} {c u : Value} (h : clsV y = some c) (r : RelV y u) : u = c := by
  cases y with
  | ty n => cases r; exact Option.some.inj h
  | ref a => cases r; exact Option.some.inj h
  | _ => cases h
theorem call_isi : CallR X (.builtin "isinstance") (fun xs H Q => ∃ x y c t b, xs = [x, y] ∧ clsV y = some c ∧ TyOf X.K H x t ∧ PySem.W.kitOne X.K t c = some b ∧ Q (.bl b) H) := by
  intro pins s σ H xs us Q I r h
  obtain ⟨x, y, c, t, b, rfl, hc, ty, e, q⟩ := h
  obtain ⟨u, v, rfl, ru, rv⟩ := r.two
  have ev := clsV_is hc rv
  subst ev
  exact isinst_ok I ru ty e fun tk => ⟨.bl b, H, I.tok tk, rfl, q⟩
inductive EqV (K : PySem.W.Frag) (H : Hp) : Nat → V → V → Bool → Prop where
  | flat {n : Nat} {x y : V} (hx : flatV x = true) (hy : flatV y = true) : EqV K H n x y (eqV x y)
  | same {n : Nat} {a : Addr} : EqV K H n (.ref a) (.ref a) true
  | lists {n : Nat} {a b : Addr} {xs ys : List V} {e : Nat → Bool} (ha : SqL K H a xs) (hb : SqL K H b ys) (hl : xs.length = ys.length) (ne : a ≠ b)
      (he : ∀ j x y, xs[j]? = some x → ys[j]? = some y → EqV K H n x y (e j)) : EqV K H (n + 1) (.ref a) (.ref b) ((List.range xs.length).all e)
  | listsL {n : Nat} {a b : Addr} {xs ys : List V} (ha : SqL K H a xs) (hb : SqL K H b ys) (hl : xs.length ≠ ys.length) (ne : a ≠ b) : EqV K H (n + 1) (.ref a) (.ref b) false
  | tups {n : Nat} {a b : Addr} {xs ys : List V} {e : Nat → Bool} (ha : SqT K H a xs) (hb : SqT K H b ys) (ne : a ≠ b)
      (he : ∀ j x y, xs[j]? = some x → ys[j]? = some y → EqV K H n x y (e j)) : EqV K H (n + 1) (.ref a) (.ref b) ((List.range (min xs.length ys.length)).all e && xs.length == ys.length)
theorem Vals.atA {xs : List V} {us : List Value} (r : Vals xs us) {j : Nat} (h : j < us.toArray.size) : ∃ x, xs[j]? = some x ∧ RelV x us.toArray[j] := by
  have hl := r.length
  have hj : j < xs.length := by rw [hl]; simpa using h
  obtain ⟨u, e1, e2⟩ := r.get (i := j) (x := xs[j]) (by simp [hj])
  refine ⟨xs[j], by simp [hj], ?_⟩
  have : us.toArray[j] = u := by
    have h' : j < us.length := by simpa using h
    rw [List.getElem?_eq_getElem h'] at e1
    simpa using Option.some.inj e1
  rw [this]; exact e2
end
end L2
namespace L2
open PySem PySem.Spec PyProof.Rows
section
variable {X : Cx} {x : Str} {pos : Pos}
theorem pe_tyN {T : String} (hg : Gl X x) (hm : X.mg x = none) (hv : bootBuiltins x = some (.type T)) (hn : x ≠ "__name__" := by decide) (hd : (x == ("__debug__" : Str)) = false := by decide) : PE X (.Name x pos) (tC (.ty T)) := pe_bltn (v := .ty T) hg hm hv rfl hn hd
theorem pe_gint {n : Int} (hg : Gl X x) (hm : ∃ t, X.mg x = some (.int n t)) (hd : (x == ("__debug__" : Str)) = false := by decide) : PE X (.Name x pos) (tC (.int n)) := by
  obtain ⟨t, e⟩ := hm
  exact pe_glob (v := .int n) hg e ⟨t, rfl⟩ hd
end
section
variable {P : Program} {w : World} {K : PySem.W.Frag} {mg : Str → Option Value} {base : Heap} {CX : CXT}
theorem Fun.okX {x qual : Str} {st : Stmt} {f : Addr} {fd : FuncData} {N ps : List Str} {k : Nat} {sp : Sp} (F : Fun K x qual st f fd) (S : FnScope N ps (defScope st)) (len : ∀ vs H Q E, sp vs H Q E → vs.length = ps.length)
    (hbody : ∀ (cdv : Value) (A : Around) (outer : List Env) (s : Shared) (H : Hp) (vs : List V) (Q : VK) (E : XK), Room k (A.deeper (envOfC qual (defScope st) s.heap.objs.size f cdv)) → sp vs H Q E →
      ∃ t, PSs (cxOf CX P w K mg base N qual (defScope st) f cdv A outer s H E).nox (defBody st) t ∧ t { nx := fun _ H' => Q .non H', rt := Q } (start N vs) H) : FnOk P w K mg base CX (k + 1) f fd ps sp := by
  obtain ⟨oc, od, kV, doc, pm, an, cdv, ct, osl, rfl, lk, hcd⟩ := F.ex
  refine fn_of lk hcd S len fun A outer s H vs Q E hr hsp => ?_
  obtain ⟨t, h, q⟩ := hbody cdv A outer s H vs Q E hr hsp
  exact ⟨t, h.nox, q⟩
structure Def (K : PySem.W.Frag) (mg : Str → Option Value) (x : Str) (st : Stmt) (ps : List Str) (f : Addr) (fd : FuncData) : Prop where
  fn : Fun K x x st f fd
  mg : mg x = some (.ref f)
  bd : Binds K fd ps []
theorem def_of {h : Heap} (KX : K.In h) (G : h.Ns mainGlobals mg) {x : Str} {st : Stmt} {ps : List Str} {f : Addr} {oc : Value} {od an : Option Addr} {osl : Array (Option Value)} {kV doc pm cdv ct : Value}
    (a : PySem.W.nsIn K mainGlobals x = some (some (.ref f))) (l : K.lookup f = some ⟨oc, od, .func (PySem.W.fnOf x x (defArgs st) (defBody st) (defScope st) .none kV doc pm an cdv ct), osl⟩) (c : PySem.W.codeIn K cdv x = true) (k : PySem.W.keepIn K (.ref f) = true)
    (hb : ∀ (kV doc pm : Value) (an : Option Addr) (cdv ct : Value) (us : List Value), us.length = ps.length → bindArgs (PySem.W.fnOf x x (defArgs st) (defBody st) (defScope st) .none kV doc pm an cdv ct) ⟨us, []⟩ = pure (ps.zip us)) :
    Def K mg x st ps f (PySem.W.fnOf x x (defArgs st) (defBody st) (defScope st) .none kV doc pm an cdv ct) :=
  ⟨fun_mk l c k, PySem.W.mg_of KX G a, (fun_mk l c k).binds hb⟩
structure Mth (K : PySem.W.Frag) (C : Addr) (x qual : Str) (st : Stmt) (ps : List Str) (f : Addr) (fd : FuncData) : Prop where
  fn : Fun K x qual st f fd
  mt : Meth K C x f
  bd : Binds K fd ps []
theorem mth_of {C : Addr} {x qual : Str} {st : Stmt} {ps : List Str} {f : Addr} {oc : Value} {od an : Option Addr} {osl : Array (Option Value)} {kV doc pm cdv ct : Value}
    (a : PySem.W.findIn K (.ref C) x = some (some (.ref f))) (i : PySem.W.isFn K (.ref f) = true) (l : K.lookup f = some ⟨oc, od, .func (PySem.W.fnOf x qual (defArgs st) (defBody st) (defScope st) .none kV doc pm an cdv ct), osl⟩) (c : PySem.W.codeIn K cdv qual = true) (k : PySem.W.keepIn K (.ref f) = true)
    (hb : ∀ (kV doc pm : Value) (an : Option Addr) (cdv ct : Value) (us : List Value), us.length = ps.length → bindArgs (PySem.W.fnOf x qual (defArgs st) (defBody st) (defScope st) .none kV doc pm an cdv ct) ⟨us, []⟩ = pure (ps.zip us)) :
    Mth K C x qual st ps f (PySem.W.fnOf x qual (defArgs st) (defBody st) (defScope st) .none kV doc pm an cdv ct) :=
  ⟨fun_mk l c k, ⟨a, i, k⟩, (fun_mk l c k).binds hb⟩
structure Kls (K : PySem.W.Frag) (mg : Str → Option Value) (x : Str) (C : Addr) : Prop where
  cl : Cls K C
  mg : mg x = some (.ref C)
  mks : PySem.W.makesIn K C = true
  kp : PySem.W.keepIn K (.ref C) = true
  c1 : PySem.W.findIn K (.ref C) "__class__" = some (some (.builtin "object.__class__"))
  c2 : PySem.W.specialIn K (.builtin "object.__class__") "__get__" = some (some (.builtin "getset_descriptor.__get__"))
  c3 : PySem.W.takesIn K (.builtin "object.__class__") = some true
  c4 : PySem.W.mroIn K C (.type "object") = some true
theorem Kls.ty {x : Str} {C a dx : Addr} {fs : List (Str × V)} {H : Hp} (k : Kls K mg x C) (e : H a = some (.ins C dx fs)) : TyOf K H (.ref a) (.ref C) := .ins e k.cl k.c1 k.c2 k.c3 k.c4
theorem kls_of {h : Heap} (KX : K.In h) (G : h.Ns mainGlobals mg) {x : Str} {C : Addr} (a : PySem.W.nsIn K mainGlobals x = some (some (.ref C)))
    (pg : PySem.W.plainGet K C Str.empty = true) (hd : PySem.W.hasDictIn K C = true) (po : PySem.W.plainOver K C = true) (sa : PySem.W.findIn K (.ref C) "__setattr__" = some (some (.builtin "object.__setattr__"))) (mk : PySem.W.makesIn K C = true) (kp : PySem.W.keepIn K (.ref C) = true)
    (c1 : PySem.W.findIn K (.ref C) "__class__" = some (some (.builtin "object.__class__"))) (c2 : PySem.W.specialIn K (.builtin "object.__class__") "__get__" = some (some (.builtin "getset_descriptor.__get__")))
    (c3 : PySem.W.takesIn K (.builtin "object.__class__") = some true) (c4 : PySem.W.mroIn K C (.type "object") = some true) : Kls K mg x C :=
  ⟨⟨pg, hd, po, sa⟩, PySem.W.mg_of KX G a, mk, kp, c1, c2, c3, c4⟩
end
section
variable {X : Cx} {K : PySem.W.Frag}
theorem call_isiK (hK : X.K = K := by rfl) : CallR X (.builtin "isinstance") (fun xs H Q => ∃ x y c t b, xs = [x, y] ∧ clsV y = some c ∧ TyOf K H x t ∧ PySem.W.kitOne K t c = some b ∧ Q (.bl b) H) := by subst hK; exact call_isi
theorem pg_c {N' : List Str} {sc : Scope} {L : Addr} {cs : List (Str × Addr)} {s : Shared} {H : Hp} {fp : List Addr} {pos : Pos} {i : Nat} {x : Str} (hN : N'.Nodup) (hi : N'[i]? = some x) (hx : Loc (cxComp X N' sc L cs s H fp).env.scope x)
    (hf : (cxComp X N' sc L cs s H fp).fn x = true ∨ (cxComp X N' sc L cs s H fp).env.scope.names.lookup x = some .local := by first | exact .inl rfl | exact .inr rfl | assumption) : PG (cxComp X N' sc L cs s H fp) (.Name x pos) (gName i) := pg_name hN hi hx hf
end
structure Grid (H : Hp) (a : Addr) (as : List Addr) (rows : List (List Int)) : Prop where
  top : H a = some (.lst (as.map V.ref))
  len : as.length = rows.length
  row : ∀ (i : Nat) (b : Addr) (r : List Int), as[i]? = some b → rows[i]? = some r → H b = some (.lst (r.map V.int))
theorem Same.upd {H : Hp} {a : Addr} {o : HO} (h : H a = none) : Same H (upd H a o) := fun b u e => by rw [upd_ne (ne_of_none e h)]; exact e
end L2
namespace L2
open PySem PySem.Spec PyProof.Rows
section
variable {X : Cx} {CX : CXT} {k : Nat} {f C : Addr} {fd : FuncData} {ps : List Str} {sp : Sp} {dvs : List V} {ds : List Value} {E : XK} {x m : Str} {p pos apos : Pos} {e : Expr} {es : List Expr} {t : TA} {mc : Value}
structure Stat (K : PySem.W.Frag) (C : Addr) (mc : Value) (m : Str) (f : Addr) : Prop where
  s1 : PySem.W.specialIn K (.ref C) "__getattribute__" = some (some (.builtin "type.__getattribute__"))
  s2 : PySem.W.readsIn K C mc = true
  s3 : PySem.W.findCls K (.ref C) mc m = some (.val (.ref f))
  s4 : PySem.W.keepIn K (.ref f) = true
theorem pe_cmeth {pl : Sem Bool} (S : Stat X.K C mc m f) (hg : Gl X x) (hm : X.mg x = some (.ref C)) (F : FnOk X.prog X.w X.K X.mg X.base CX k f fd ps sp) (hr : Room k X.A) (hb : Binds X.K fd ps ds) (hd : Vals dvs ds) (hx : Passes CX X E) (ha : PA X (e :: es) t)
    (hdb : (x == ("__debug__" : Str)) = false := by decide)
    (hst : starEach (e :: es) X.env = (false, eval e X.env) :: starEach es X.env := by rfl) (hpl : (backTo pos (starEach es X.env)).any (·.1) = false := by rfl)
    (ht : eval (.Call (.Attribute (.Name x p) m apos) (e :: es) [] pos) X.env = (do
      let ov ← eval (.Name x p) X.env
      standAt apos.atName
      let (f, first) ← holding [ov] (getMethod ov m pl)
      callWith pos f first (backTo pos (starEach (e :: es) X.env)) (backToKw pos (keywordEach [] X.env))) := by rfl) :
    PE X (.Call (.Attribute (.Name x p) m apos) (e :: es) [] pos) (tCall sp dvs E t) := by
  intro pins s σ H Q I h
  refine PySem.W.methodCall_KW (pl := pl) (ld_glob I hg hm ?_ hdb) ht
  refine PySem.W.method_cls I.kIn S.s1 (PySem.W.cls_value I.kIn S.s2 S.s3 rfl ?_)
  refine PySem.W.callWith_K (first := []) (h₀ := X.base) I.ok.mod.kin S.s4 (thn (ha pos pins _ σ H _ (I.tok (s.toks + 1)) h) fun us s2 ⟨vs, H2, I2, r, q2⟩ => ⟨I2.kIn, ?_⟩) hst hpl
  exact run_fn (us := us) (vs := vs) F hr hb hd hx I2 r q2
end
end L2
namespace L2
open PySem PySem.Spec PyProof.Rows
section
variable {X : Cx} {a b c d : Expr} {ta tb tc td : TE} {pos : Pos}
theorem Same.tup {K : PySem.W.Frag} {H H' : Hp} {a : Addr} {xs : List V} (e : Same H H') (h : SqT K H a xs) : SqT K H' a xs := by
  rcases h with (h | ⟨o, h⟩) | h
  · exact .inl (.inl (e _ _ h))
  · exact .inl (.inr ⟨o, e _ _ h⟩)
  · exact .inr h
end
end L2
namespace L2
open PySem PySem.Spec PyProof.Rows
theorem tyV_list {K : PySem.W.Frag} {a : Addr} {H : Hp} {xs : List V} (h : H a = some (.lst xs)) : tyV K "list" (.ref a) H := .inl ⟨rfl, _, SqL.of h⟩
inductive Dat where
  | non | bl (b : Bool) | int (i : Int) | str (x : Str) | tup (ds : List Dat) | lst (ds : List Dat) | ins (C : Addr) (fs : List (Str × Dat)) | dic (ks : List (List Int × Dat))
noncomputable abbrev DRow := List Int × Addr × V
noncomputable def tHash (ks : List Int) : Int := reduceHash (PySem.Builtin.Tuple.tupleHashOf (ks.map hashInt))
noncomputable def rowE (x : List Int × Addr × Value) : DictEntry := ⟨tHash x.1, .ref x.2.1, x.2.2⟩
noncomputable def RowRel (p : DRow) (q : List Int × Addr × Value) : Prop := p.1 = q.1 ∧ p.2.1 = q.2.1 ∧ RelV p.2.2 q.2.2
noncomputable def DicOk (h : Heap) (a : Addr) (xs : List DRow) (ep : Nat) : Prop := ∃ vs : List (List Int × Addr × Value), Paired RowRel xs vs ∧ (a == sysModules) = false ∧ xs.length ≤ sizeLine ∧ (vs.map (·.1)).Nodup ∧ ∃ o es, h.get? a = some o ∧ o.ExactDict ∧ o.data = .dict es ep ∧ es.toList = vs.map rowE
noncomputable def DicO (a : Addr) (xs : List DRow) (ep : Nat) : HO := .ext fun h => DicOk h a xs ep
mutual
noncomputable def Deep (K : PySem.W.Frag) (F : Hp) : Dat → V → Prop
  | .non, v => v = .non
  | .bl b, v => v = .bl b
  | .int i, v => v = .int i
  | .str x, v => v = .str x
  | .tup ds, v => ∃ a xs, v = .ref a ∧ SqT K F a xs ∧ Deeps K F ds xs
  | .lst ds, v => ∃ a xs, v = .ref a ∧ SqL K F a xs ∧ Deeps K F ds xs
  | .ins C gs, v => ∃ a dx fs, v = .ref a ∧ F a = some (.ins C dx fs) ∧ DeepF K F gs fs
  | .dic ks, v => ∃ a xs, v = .ref a ∧ (∃ ep, F a = some (DicO a xs ep)) ∧ DeepK K F ks xs
noncomputable def Deeps (K : PySem.W.Frag) (F : Hp) : List Dat → List V → Prop
  | [], xs => xs = []
  | d :: ds, xs => ∃ v vs, xs = v :: vs ∧ Deep K F d v ∧ Deeps K F ds vs
noncomputable def DeepF (K : PySem.W.Frag) (F : Hp) : List (Str × Dat) → List (Str × V) → Prop
  | [], fs => fs = []
  | (f, d) :: gs, fs => ∃ v r, fs = (f, v) :: r ∧ Deep K F d v ∧ DeepF K F gs r
noncomputable def DeepK (K : PySem.W.Frag) (F : Hp) : List (List Int × Dat) → List DRow → Prop
  | [], xs => xs = []
  | (k, d) :: ks, xs => ∃ b v r, xs = (k, b, v) :: r ∧ SqT K F b (k.map .int) ∧ Deep K F d v ∧ DeepK K F ks r
end
mutual
noncomputable def flatD : Dat → Bool
  | .tup ds => flatDs ds
  | .lst _ => false
  | .ins _ _ => false
  | .dic _ => false
  | _ => true
noncomputable def flatDs : List Dat → Bool
  | [] => true
  | d :: ds => flatD d && flatDs ds
end
theorem Same.lst {K : PySem.W.Frag} {H H' : Hp} {a : Addr} {xs : List V} (e : Same H H') (h : SqL K H a xs) : SqL K H' a xs := by
  rcases h with (h | ⟨o, h⟩) | h
  · exact .inl (.inl (e _ _ h))
  · exact .inl (.inr ⟨o, e _ _ h⟩)
  · exact .inr h
mutual
theorem Deep.mono {K : PySem.W.Frag} {F F' : Hp} (s : Same F F') : ∀ {d : Dat} {v : V}, Deep K F d v → Deep K F' d v
  | .non, _, h => h
  | .bl _, _, h => h
  | .int _, _, h => h
  | .str _, _, h => h
  | .tup _, _, ⟨a, xs, e, q, r⟩ => ⟨a, xs, e, s.tup q, Deeps.mono s r⟩
  | .lst _, _, ⟨a, xs, e, q, r⟩ => ⟨a, xs, e, s.lst q, Deeps.mono s r⟩
  | .ins _ _, _, ⟨a, dx, fs, e, q, r⟩ => ⟨a, dx, fs, e, s _ _ q, DeepF.mono s r⟩
  | .dic _, _, ⟨a, xs, e, ⟨ep, q⟩, r⟩ => ⟨a, xs, e, ⟨ep, s _ _ q⟩, DeepK.mono s r⟩
theorem Deeps.mono {K : PySem.W.Frag} {F F' : Hp} (s : Same F F') : ∀ {ds : List Dat} {xs : List V}, Deeps K F ds xs → Deeps K F' ds xs
  | [], _, h => h
  | _ :: _, _, ⟨v, vs, e, q, r⟩ => ⟨v, vs, e, Deep.mono s q, Deeps.mono s r⟩
theorem DeepF.mono {K : PySem.W.Frag} {F F' : Hp} (s : Same F F') : ∀ {gs : List (Str × Dat)} {fs : List (Str × V)}, DeepF K F gs fs → DeepF K F' gs fs
  | [], _, h => h
  | (_, _) :: _, _, ⟨v, r, e, q, t⟩ => ⟨v, r, e, Deep.mono s q, DeepF.mono s t⟩
theorem DeepK.mono {K : PySem.W.Frag} {F F' : Hp} (s : Same F F') : ∀ {ks : List (List Int × Dat)} {xs : List DRow}, DeepK K F ks xs → DeepK K F' ks xs
  | [], _, h => h
  | (_, _) :: _, _, ⟨b, v, r, e, t, q, z⟩ => ⟨b, v, r, e, s.tup t, Deep.mono s q, DeepK.mono s z⟩
end
mutual
theorem Deep.flat {K : PySem.W.Frag} {F F' : Hp} (s : ∀ a xs, SqT K F a xs → SqT K F' a xs) : ∀ {d : Dat} {v : V}, flatD d = true → Deep K F d v → Deep K F' d v
  | .non, _, _, h => h
  | .bl _, _, _, h => h
  | .int _, _, _, h => h
  | .str _, _, _, h => h
  | .tup ds, _, f, ⟨a, xs, e, q, r⟩ => ⟨a, xs, e, s _ _ q, Deeps.flat s (by simpa [flatD] using f) r⟩
  | .lst _, _, f, _ => by simp [flatD] at f
  | .ins _ _, _, f, _ => by simp [flatD] at f
  | .dic _, _, f, _ => by simp [flatD] at f
theorem Deeps.flat {K : PySem.W.Frag} {F F' : Hp} (s : ∀ a xs, SqT K F a xs → SqT K F' a xs) : ∀ {ds : List Dat} {xs : List V}, flatDs ds = true → Deeps K F ds xs → Deeps K F' ds xs
  | [], _, _, h => h
  | d :: ds, _, f, ⟨v, vs, e, q, r⟩ => by
    simp only [flatDs, Bool.and_eq_true] at f
    exact ⟨v, vs, e, Deep.flat s f.1 q, Deeps.flat s f.2 r⟩
end
theorem Deeps.length {K : PySem.W.Frag} {F : Hp} : ∀ {ds : List Dat} {xs : List V}, Deeps K F ds xs → xs.length = ds.length
  | [], _, h => by rw [show _ = [] from h]; rfl
  | _ :: _, _, ⟨_, _, e, _, r⟩ => by rw [e, List.length_cons, List.length_cons, Deeps.length r]
theorem Deeps.get {K : PySem.W.Frag} {F : Hp} : ∀ {ds : List Dat} {xs : List V} {i : Nat} {d : Dat}, Deeps K F ds xs → ds[i]? = some d → ∃ v, xs[i]? = some v ∧ Deep K F d v
  | [], _, _, _, _, e => by simp at e
  | _ :: _, _, 0, _, ⟨v, vs, e, q, _⟩, h => by
    simp only [List.getElem?_cons_zero, Option.some.injEq] at h
    subst h e
    exact ⟨v, rfl, q⟩
  | _ :: _, _, i + 1, _, ⟨v, vs, e, _, r⟩, h => by
    subst e
    simp only [List.getElem?_cons_succ] at h ⊢
    exact Deeps.get r h
theorem Deeps.at {K : PySem.W.Frag} {F : Hp} {ds : List Dat} {xs : List V} {i : Nat} {v : V} (r : Deeps K F ds xs) (h : xs[i]? = some v) : ∃ d, ds[i]? = some d ∧ Deep K F d v := by
  have hi : i < ds.length := by rw [← r.length]; exact (List.getElem?_eq_some_iff.mp h).1
  obtain ⟨w, e, q⟩ := r.get (i := i) (d := ds[i]) (by simp [hi])
  rw [h] at e
  have e' := Option.some.inj e
  subst e'
  exact ⟨ds[i], by simp [hi], q⟩
theorem Deeps.append {K : PySem.W.Frag} {F : Hp} : ∀ {ds es : List Dat} {xs ys : List V}, Deeps K F ds xs → Deeps K F es ys → Deeps K F (ds ++ es) (xs ++ ys)
  | [], _, _, _, h, r => by rw [show _ = [] from h]; exact r
  | _ :: _, _, _, _, ⟨v, vs, e, q, t⟩, r => by subst e; exact ⟨v, _, rfl, q, Deeps.append t r⟩
theorem Deeps.take {K : PySem.W.Frag} {F : Hp} : ∀ {ds : List Dat} {xs : List V} (n : Nat), Deeps K F ds xs → Deeps K F (ds.take n) (xs.take n)
  | _, _, 0, _ => rfl
  | [], _, _ + 1, h => by rw [show _ = [] from h]; rfl
  | _ :: _, _, n + 1, ⟨v, vs, e, q, r⟩ => by subst e; exact ⟨v, _, rfl, q, Deeps.take n r⟩
theorem Deeps.drop {K : PySem.W.Frag} {F : Hp} : ∀ {ds : List Dat} {xs : List V} (n : Nat), Deeps K F ds xs → Deeps K F (ds.drop n) (xs.drop n)
  | _, _, 0, h => h
  | [], _, _ + 1, h => by rw [show _ = [] from h]; rfl
  | _ :: _, _, n + 1, ⟨v, vs, e, q, r⟩ => by subst e; exact Deeps.drop n r
structure Step (F H F' H' : Hp) : Prop where
  ff : Same F F'
  hh : Same H H'
  fh : Same F' H'
  nw : ∀ b o, F' b = some o → F b = some o ∨ H b = none
theorem Step.refl {F H : Hp} (s : Same F H) : Step F H F H := ⟨Same.refl _, Same.refl _, s, fun _ _ h => .inl h⟩
theorem Step.trans {F H F1 H1 F2 H2 : Hp} (a : Step F H F1 H1) (b : Step F1 H1 F2 H2) : Step F H F2 H2 :=
  ⟨a.ff.trans b.ff, a.hh.trans b.hh, b.fh, fun x o h => (b.nw x o h).elim (fun z => a.nw x o z) fun z => .inr (a.hh.free z)⟩
theorem Step.lay {F H : Hp} {p : Addr} {o : HO} (s : Same F H) (hp : H p = none) : Step F H (upd F p o) (upd H p o) :=
  ⟨Same.upd (s.free hp), Same.upd hp, fun b u h => by
    by_cases e : b = p
    · subst e; rw [upd_same] at h ⊢; exact h
    · rw [upd_ne e] at h ⊢; exact s b u h, fun b u h => by
    by_cases e : b = p
    · subst e; exact .inr hp
    · rw [upd_ne e] at h; exact .inl h⟩
theorem Step.grow {F H : Hp} {p : Addr} {o : HO} (s : Same F H) (hp : H p = none) : Step F H F (upd H p o) :=
  ⟨Same.refl _, Same.upd hp, s.trans (Same.upd hp), fun _ _ h => .inl h⟩
noncomputable def OwnD (K : PySem.W.Frag) (F H0 H : Hp) : Dat → V → Prop
  | .lst ds, v => ∃ a xs, v = .ref a ∧ H a = some (.lst xs) ∧ F a = none ∧ H0 a = none ∧ Deeps K F ds xs
  | .dic ks, v => ∃ a xs, v = .ref a ∧ (∃ ep, H a = some (DicO a xs ep)) ∧ F a = none ∧ H0 a = none ∧ DeepK K F ks xs
  | d, v => Deep K F d v
noncomputable def isO : Dat → Bool
  | .lst _ => true
  | .dic _ => true
  | _ => false
noncomputable def isMu : HO → Bool
  | .lst _ => true
  | .ext _ => true
  | _ => false
theorem OwnD.non {K : PySem.W.Frag} {F H0 H : Hp} {d : Dat} {v : V} (hd : isO d = false) : OwnD K F H0 H d v = Deep K F d v := by
  cases d <;> first | rfl | cases hd
theorem OwnD.top {K : PySem.W.Frag} {F H0 H : Hp} {d : Dat} {v : V} (hd : isO d = true) (q : OwnD K F H0 H d v) : ∃ a o, v = .ref a ∧ H a = some o ∧ isMu o = true ∧ F a = none ∧ H0 a = none := by
  cases d with
  | lst ds => obtain ⟨a, xs, e, p, f, z, _⟩ := q; exact ⟨a, _, e, p, rfl, f, z⟩
  | dic ks => obtain ⟨a, xs, e, ⟨ep, p⟩, f, z, _⟩ := q; exact ⟨a, _, e, p, rfl, f, z⟩
  | _ => cases hd
theorem OwnD.re {K : PySem.W.Frag} {F F' H0 H H' : Hp} {d : Dat} {a : Addr} (hd : isO d = true) (q : OwnD K F H0 H d (.ref a)) (ff : Same F F') (fa : F' a = none) (hh : ∀ o, H a = some o → H' a = some o) : OwnD K F' H0 H' d (.ref a) := by
  cases d with
  | lst ds => obtain ⟨b, xs, e, p, f, z, r⟩ := q; cases e; exact ⟨a, xs, rfl, hh _ p, fa, z, r.mono ff⟩
  | dic ks => obtain ⟨b, xs, e, ⟨ep, p⟩, f, z, r⟩ := q; cases e; exact ⟨a, xs, rfl, ⟨ep, hh _ p⟩, fa, z, r.mono ff⟩
  | _ => cases hd
theorem OwnD.give {K : PySem.W.Frag} {F F' H0 H : Hp} {d : Dat} {a : Addr} (hd : isO d = true) (q : OwnD K F H0 H d (.ref a)) (ff : Same F F') (fa : F' a = H a) : Deep K F' d (.ref a) := by
  cases d with
  | lst ds => obtain ⟨b, xs, e, p, f, z, r⟩ := q; cases e; exact ⟨a, xs, rfl, SqL.of (fa.trans p), r.mono ff⟩
  | dic ks => obtain ⟨b, xs, e, ⟨ep, p⟩, f, z, r⟩ := q; cases e; exact ⟨a, xs, rfl, ⟨ep, fa.trans p⟩, r.mono ff⟩
  | _ => cases hd
noncomputable def Val (K : PySem.W.Frag) (own : Bool) (F H0 H : Hp) (d : Dat) (v : V) : Prop := if own = true then OwnD K F H0 H d v else Deep K F d v
theorem OwnD.back {K : PySem.W.Frag} {F H0 H1 H : Hp} {d : Dat} {v : V} (s : Same H0 H1) (h : OwnD K F H1 H d v) : OwnD K F H0 H d v := by
  cases d with
  | lst ds => obtain ⟨a, xs, e, p, q, z, r⟩ := h; exact ⟨a, xs, e, p, q, s.free z, r⟩
  | dic ks => obtain ⟨a, xs, e, p, q, z, r⟩ := h; exact ⟨a, xs, e, p, q, s.free z, r⟩
  | _ => exact h
theorem Val.back {K : PySem.W.Frag} {own : Bool} {F H0 H1 H : Hp} {d : Dat} {v : V} (s : Same H0 H1) (h : Val K own F H1 H d v) : Val K own F H0 H d v := by
  cases own with
  | true => exact OwnD.back s h
  | false => exact h
theorem OwnD.freeze {K : PySem.W.Frag} {F H0 H : Hp} {d : Dat} {v : V} (s : Same F H) (h : OwnD K F H0 H d v) : ∃ F', Same F F' ∧ Same F' H ∧ (∀ b o, F' b = some o → F b = some o ∨ H0 b = none) ∧ Deep K F' d v := by
  cases hd : isO d with
  | true =>
    obtain ⟨a, u, e, p, _, q, z⟩ := h.top hd
    subst e
    refine ⟨upd F a u, Same.upd q, fun b o h => ?_, fun b o h => ?_, h.give hd (Same.upd q) (by rw [upd_same, p])⟩
    · by_cases e : b = a
      · subst e; rw [upd_same] at h; rw [p, ← h]
      · rw [upd_ne e] at h; exact s b o h
    · by_cases e : b = a
      · subst e; exact .inr z
      · rw [upd_ne e] at h; exact .inl h
  | false => rw [OwnD.non hd] at h; exact ⟨F, Same.refl _, s, fun _ _ z => .inl z, h⟩
inductive Err where
  | stuck | exc (C : Addr) (fs : List (Str × Dat))
noncomputable abbrev M := Except Err
noncomputable abbrev Env' := List (Option Dat)
structure Wish where
  p : Err → Hp → Hp → Prop
  mono : ∀ {e : Err} {F H F' H' : Hp}, p e F H → Step F H F' H' → p e F' H'
  ns : ∀ {F H : Hp}, p .stuck F H → False
noncomputable def Wno : Wish := ⟨fun _ _ _ => False, fun h _ => h, fun h => h⟩
noncomputable def Post (K : PySem.W.Frag) (W : Wish) (own : Bool) (F H : Hp) (r : M Dat) (Q : VK) : Prop := match r with
  | .ok d => ∀ v F' H', Step F H F' H' → Val K own F' H H' d v → Q v H'
  | .error e => W.p e F H
theorem Post.step {K : PySem.W.Frag} {W : Wish} {own : Bool} {F H F1 H1 : Hp} {r : M Dat} {Q : VK} (p : Post K W own F H r Q) (s : Step F H F1 H1) : Post K W own F1 H1 r Q := by
  cases r with
  | ok d => exact fun v F' H' t q => p v F' H' (s.trans t) (q.back s.hh)
  | error e => exact W.mono p s
theorem Post.frz {K : PySem.W.Frag} {W : Wish} {F H : Hp} {r : M Dat} {Q : VK} (p : Post K W false F H r Q) : Post K W true F H r Q := by
  cases r with
  | ok d =>
    intro v F' H' t q
    obtain ⟨F2, s1, s2, n, z⟩ := OwnD.freeze t.fh q
    exact p v F2 H' ⟨t.ff.trans s1, t.hh, s2, fun b o h => (n b o h).elim (fun z => t.nw b o z) .inr⟩ z
  | error e => exact p
structure RepE (K : PySem.W.Frag) (F : Hp) (σ : St) (ρ : Env') : Prop where
  len : ρ.length = σ.length
  sl : ∀ (i : Nat) (d : Dat), ρ[i]? = some (some d) → ∃ v, σ[i]? = some (some v) ∧ Deep K F d v
theorem RepE.mono {K : PySem.W.Frag} {F F' : Hp} {σ : St} {ρ : Env'} (r : RepE K F σ ρ) (s : Same F F') : RepE K F' σ ρ :=
  ⟨r.len, fun i d e => let ⟨v, h, q⟩ := r.sl i d e; ⟨v, h, q.mono s⟩⟩
theorem RepE.set {K : PySem.W.Frag} {F : Hp} {σ : St} {ρ : Env'} {d : Dat} {v : V} (r : RepE K F σ ρ) (q : Deep K F d v) (i : Nat) : RepE K F (σ.set i (some v)) (ρ.set i (some d)) :=
  ⟨by rw [List.length_set, List.length_set, r.len], fun j e h => by
    by_cases hij : i = j
    · subst hij
      have hi : i < ρ.length := by
        have := (List.getElem?_eq_some_iff.mp h).1
        simpa using this
      rw [List.getElem?_set_self hi] at h
      cases h
      exact ⟨v, by rw [List.getElem?_set_self (by rw [← r.len]; exact hi)], q⟩
    · rw [List.getElem?_set_ne hij] at h
      obtain ⟨w, h1, h2⟩ := r.sl j e h
      exact ⟨w, by rw [List.getElem?_set_ne hij]; exact h1, h2⟩⟩
noncomputable def tD (K : PySem.W.Frag) (W : Wish) (own : Bool) (f : Env' → M Dat) : TE := fun σ H Q => ∃ F ρ, RepE K F σ ρ ∧ Same F H ∧ Post K W own F H (f ρ) Q
theorem tD_run {K : PySem.W.Frag} {W : Wish} {own : Bool} {f : Env' → M Dat} {σ : St} {ρ : Env'} {F H : Hp} {R : VK} (r : RepE K F σ ρ) (s : Same F H) (hE : ∀ e, f ρ = .error e → W.p e F H)
    (hO : ∀ d, f ρ = .ok d → ∀ v F1 H1, Step F H F1 H1 → Val K own F1 H H1 d v → R v H1) : tD K W own f σ H R := by
  refine ⟨F, ρ, r, s, ?_⟩
  cases e : f ρ with
  | ok d => exact hO d e
  | error x => exact hE x e
noncomputable def tDT (K : PySem.W.Frag) (W : Wish) (f : Env' → M Bool) : TT := fun σ H Q => ∃ F ρ, RepE K F σ ρ ∧ Same F H ∧ (match f ρ with
  | .ok b => ∀ F' H', Step F H F' H' → Q b H'
  | .error e => W.p e F H)
theorem tDT_run {K : PySem.W.Frag} {W : Wish} {f : Env' → M Bool} {σ : St} {ρ : Env'} {F H : Hp} {R : Bool → Hp → Prop} (r : RepE K F σ ρ) (s : Same F H) (hE : ∀ e, f ρ = .error e → W.p e F H)
    (hO : ∀ b, f ρ = .ok b → ∀ F1 H1, Step F H F1 H1 → R b H1) : tDT K W f σ H R := by
  refine ⟨F, ρ, r, s, ?_⟩
  cases e : f ρ with
  | ok d => exact hO d e
  | error x => exact hE x e
noncomputable def tDA (K : PySem.W.Frag) (W : Wish) (f : Env' → M (List Dat)) : TA := fun σ H Q => ∃ F ρ, RepE K F σ ρ ∧ Same F H ∧ (match f ρ with
  | .ok ds => ∀ vs F' H', Step F H F' H' → Deeps K F' ds vs → Q vs H'
  | .error e => W.p e F H)
theorem tDA_run {K : PySem.W.Frag} {W : Wish} {f : Env' → M (List Dat)} {σ : St} {ρ : Env'} {F H : Hp} {R : List V → Hp → Prop} (r : RepE K F σ ρ) (s : Same F H) (hE : ∀ e, f ρ = .error e → W.p e F H)
    (hO : ∀ ds, f ρ = .ok ds → ∀ vs F1 H1, Step F H F1 H1 → Deeps K F1 ds vs → R vs H1) : tDA K W f σ H R := by
  refine ⟨F, ρ, r, s, ?_⟩
  cases e : f ρ with
  | ok d => exact hO d e
  | error x => exact hE x e
noncomputable def fVar (i : Nat) : Env' → M Dat := fun ρ => match ρ[i]? with
  | some (some d) => .ok d
  | _ => .error .stuck
noncomputable def fC (d : Dat) : Env' → M Dat := fun _ => .ok d
noncomputable def f1 (g : Dat → M Dat) (fa : Env' → M Dat) : Env' → M Dat := fun ρ => (fa ρ).bind g
noncomputable def f2 (g : Dat → Dat → M Dat) (fa fb : Env' → M Dat) : Env' → M Dat := fun ρ => (fa ρ).bind fun a => (fb ρ).bind fun b => g a b
noncomputable def fNil : Env' → M (List Dat) := fun _ => .ok []
noncomputable def fCons (fa : Env' → M Dat) (fr : Env' → M (List Dat)) : Env' → M (List Dat) := fun ρ => (fa ρ).bind fun a => (fr ρ).bind fun r => .ok (a :: r)
noncomputable def fL (g : List Dat → M Dat) (fr : Env' → M (List Dat)) : Env' → M Dat := fun ρ => (fr ρ).bind g
noncomputable def mkTup (ds : List Dat) : M Dat := if ds.length ≤ sizeLine then .ok (.tup ds) else .error .stuck
noncomputable def mkLst (ds : List Dat) : M Dat := if ds.length ≤ sizeLine then .ok (.lst ds) else .error .stuck
noncomputable def fOr (ft fu : Env' → M Bool) : Env' → M Bool := fun ρ => (ft ρ).bind fun b => if b = true then .ok true else fu ρ
noncomputable def fNot (ft : Env' → M Bool) : Env' → M Bool := fun ρ => (ft ρ).bind fun b => .ok (!b)
noncomputable def asB : Dat → M Bool
  | .bl b => .ok b
  | _ => .error .stuck
noncomputable def fB (fa : Env' → M Dat) : Env' → M Bool := fun ρ => (fa ρ).bind asB
noncomputable def fAndV (fa fb : Env' → M Dat) : Env' → M Dat := fun ρ => (fa ρ).bind fun a => (asB a).bind fun b => if b = true then fb ρ else .ok (.bl false)
noncomputable def truD : Dat → M Bool
  | .non => .ok false
  | .bl b => .ok b
  | .int i => .ok (i != 0)
  | .str x => if x.length ≤ sizeLine then .ok ((x.length : Int) != 0) else .error .stuck
  | .tup ds => .ok (!ds.isEmpty)
  | .lst ds => .ok (!ds.isEmpty)
  | _ => .error .stuck
noncomputable def fTru (fa : Env' → M Dat) : Env' → M Bool := fun ρ => (fa ρ).bind truD
noncomputable def fChain (g g' : Dat → Dat → M Dat) (fa fb fc : Env' → M Dat) : Env' → M Dat := fun ρ => (fa ρ).bind fun a => (fb ρ).bind fun b => (g a b).bind fun x => (asB x).bind fun k => if k = true then (fc ρ).bind fun c => g' b c else .ok (.bl false)
noncomputable def rD2 (K : PySem.W.Frag) (W : Wish) (own : Bool) (g : Dat → Dat → M Dat) : R2 := fun x y H Q => ∃ F a b, Same F H ∧ Deep K F a x ∧ Deep K F b y ∧ Post K W own F H (g a b) Q
noncomputable def rD1 (K : PySem.W.Frag) (W : Wish) (own : Bool) (g : Dat → M Dat) : V → Hp → VK → Prop := fun x H Q => ∃ F a, Same F H ∧ Deep K F a x ∧ Post K W own F H (g a) Q
noncomputable def rDL (K : PySem.W.Frag) (W : Wish) (own : Bool) (g : List Dat → M Dat) : List V → Hp → VK → Prop := fun xs H Q => ∃ F ds, Same F H ∧ Deeps K F ds xs ∧ Post K W own F H (g ds) Q
section
variable {K : PySem.W.Frag} {W : Wish} {own : Bool} {σ : St} {H : Hp} {Q : VK} {fa fb fc : Env' → M Dat}
theorem rd_var {i : Nat} (h : tD K W false (fVar i) σ H Q) : tVar i σ H Q := by
  obtain ⟨F, ρ, r, s, p⟩ := h
  unfold fVar at p
  match e : ρ[i]? with
  | some (some d) =>
    rw [e] at p
    obtain ⟨v, e1, q⟩ := r.sl i d e
    exact ⟨v, e1, p v F H (Step.refl s) q⟩
  | some none => rw [e] at p; exact (W.ns p).elim
  | none => rw [e] at p; exact (W.ns p).elim
theorem rd_c {d : Dat} {v : V} (hd : ∀ F, Deep K F d v) (h : tD K W false (fC d) σ H Q) : tC v σ H Q := by
  obtain ⟨F, ρ, r, s, p⟩ := h
  exact p v F H (Step.refl s) (hd F)
theorem Post.err {F : Hp} {x : M Dat} {e : Err} (p : Post K W own F H x Q) (h : x = .error e) : W.p e F H := by rw [h] at p; exact p
theorem rd_1 {g : Dat → M Dat} (h : tD K W own (f1 g fa) σ H Q) : tUn (rD1 K W own g) (tD K W false fa) σ H Q := by
  obtain ⟨F, ρ, r, s, p⟩ := h
  refine tD_run r s (fun e he => p.err (by unfold f1; rw [he]; rfl)) fun a ha x F1 H1 s1 q1 => ?_
  refine ⟨F1, a, s1.fh, q1, ?_⟩
  have e : f1 g fa ρ = g a := by unfold f1; rw [ha]; rfl
  rw [e] at p
  exact p.step s1
theorem rd_2 {g : Dat → Dat → M Dat} (h : tD K W own (f2 g fa fb) σ H Q) : tOp (rD2 K W own g) (tD K W false fa) (tD K W false fb) σ H Q := by
  obtain ⟨F, ρ, r, s, p⟩ := h
  refine tD_run r s (fun e he => p.err (by unfold f2; rw [he]; rfl)) fun a ha x F1 H1 s1 q1 => ?_
  refine tD_run (r.mono s1.ff) s1.fh (fun e he => (p.step s1).err (by unfold f2; rw [ha]; show (fb ρ).bind _ = _; rw [he]; rfl)) fun b hb y F2 H2 s2 q2 => ?_
  refine ⟨F2, a, b, s2.fh, Deep.mono s2.ff q1, q2, ?_⟩
  have e : f2 g fa fb ρ = g a b := by unfold f2; rw [ha]; show (fb ρ).bind _ = _; rw [hb]; rfl
  rw [e] at p
  exact p.step (s1.trans s2)
theorem rd_nil {R : List V → Hp → Prop} (h : tDA K W fNil σ H R) : tNil σ H R := by
  obtain ⟨F, ρ, r, s, p⟩ := h
  exact p [] F H (Step.refl s) rfl
theorem rd_cons {fr : Env' → M (List Dat)} {R : List V → Hp → Prop} (h : tDA K W (fCons fa fr) σ H R) : tCons (tD K W false fa) (tDA K W fr) σ H R := by
  obtain ⟨F, ρ, r, s, p⟩ := h
  refine tD_run r s (fun e he => ?_) fun a ha x F1 H1 s1 q1 => tDA_run (r.mono s1.ff) s1.fh (fun e he => ?_) fun ds hd xs F2 H2 s2 q2 => ?_
  · have z : fCons fa fr ρ = .error e := by unfold fCons; rw [he]; rfl
    rw [z] at p
    exact p
  · have z : fCons fa fr ρ = .error e := by unfold fCons; rw [ha]; show (fr ρ).bind _ = _; rw [he]; rfl
    rw [z] at p
    exact W.mono p s1
  · have z : fCons fa fr ρ = .ok (a :: ds) := by unfold fCons; rw [ha]; show (fr ρ).bind _ = _; rw [hd]; rfl
    rw [z] at p
    exact p (x :: xs) F2 H2 (s1.trans s2) ⟨x, xs, rfl, Deep.mono s2.ff q1, q2⟩
theorem rd_L {g : List Dat → M Dat} {fr : Env' → M (List Dat)} (h : tD K W own (fL g fr) σ H Q) : tDA K W fr σ H fun xs H1 => rDL K W own g xs H1 Q := by
  obtain ⟨F, ρ, r, s, p⟩ := h
  refine tDA_run r s (fun e he => p.err (by unfold fL; rw [he]; rfl)) fun ds hd xs F1 H1 s1 q1 => ⟨F1, ds, s1.fh, q1, ?_⟩
  have e : fL g fr ρ = g ds := by unfold fL; rw [hd]; rfl
  rw [e] at p
  exact p.step s1
theorem rd_tup {fr : Env' → M (List Dat)} (h : tD K W own (fL mkTup fr) σ H Q) : tTup (tDA K W fr) σ H Q := by
  obtain ⟨F, ρ, r, s, p⟩ := rd_L h
  refine ⟨F, ρ, r, s, ?_⟩
  cases e : fr ρ with
  | error x => rw [e] at p; exact p
  | ok ds =>
    rw [e] at p
    intro vs F' H' t q
    obtain ⟨F1, es, s1, q1, z⟩ := p vs F' H' t q
    unfold mkTup at z
    by_cases hl : es.length ≤ sizeLine
    · rw [if_pos hl] at z
      refine ⟨by rw [q1.length]; exact hl, fun a ha => z (.ref a) _ _ (Step.lay s1 ha) ?_⟩
      have : Deep K (upd F1 a (.tup vs)) (.tup es) (.ref a) := ⟨a, vs, rfl, SqT.of upd_same, q1.mono (Same.upd (s1.free ha))⟩
      cases own with
      | true => exact this
      | false => exact this
    · rw [if_neg hl] at z
      exact (W.ns z).elim
theorem rd_lst {fr : Env' → M (List Dat)} (h : tD K W true (fL mkLst fr) σ H Q) : tLst (tDA K W fr) σ H Q := by
  obtain ⟨F, ρ, r, s, p⟩ := rd_L h
  refine ⟨F, ρ, r, s, ?_⟩
  cases e : fr ρ with
  | error x => rw [e] at p; exact p
  | ok ds =>
    rw [e] at p
    intro vs F' H' t q
    obtain ⟨F1, es, s1, q1, z⟩ := p vs F' H' t q
    unfold mkLst at z
    by_cases hl : es.length ≤ sizeLine
    · rw [if_pos hl] at z
      exact ⟨by rw [q1.length]; exact hl, fun a ha => z (.ref a) F1 _ (Step.grow s1 ha) ⟨a, vs, rfl, upd_same, s1.free ha, ha, q1⟩⟩
    · rw [if_neg hl] at z
      exact (W.ns z).elim
theorem tDT_mono {f : Env' → M Bool} {F F1 H1 : Hp} {ρ : Env'} {R : Bool → Hp → Prop} (r : RepE K F σ ρ) (s1 : Step F H F1 H1) (p : match f ρ with
  | .ok b => ∀ F' H', Step F H F' H' → R b H'
  | .error e => W.p e F H) : tDT K W f σ H1 R := by
  refine ⟨F1, ρ, r.mono s1.ff, s1.fh, ?_⟩
  cases e : f ρ with
  | ok b => rw [e] at p; exact fun F' H' t => p F' H' (s1.trans t)
  | error x => rw [e] at p; exact W.mono p s1
theorem rd_or {ft fu : Env' → M Bool} {R : Bool → Hp → Prop} (h : tDT K W (fOr ft fu) σ H R) : tOr (tDT K W ft) (tDT K W fu) σ H R := by
  obtain ⟨F, ρ, r, s, p⟩ := h
  refine tDT_run r s (fun e he => ?_) fun b hb F1 H1 s1 => ?_
  · have z : fOr ft fu ρ = .error e := by unfold fOr; rw [he]; rfl
    rw [z] at p; exact p
  · have z : fOr ft fu ρ = if b = true then .ok true else fu ρ := by unfold fOr; rw [hb]; rfl
    rw [z] at p
    cases b with
    | false => exact tDT_mono r s1 p
    | true => exact p F1 H1 s1
theorem rd_not {ft : Env' → M Bool} {R : Bool → Hp → Prop} (h : tDT K W (fNot ft) σ H R) : tNot (tDT K W ft) σ H R := by
  obtain ⟨F, ρ, r, s, p⟩ := h
  refine tDT_run r s (fun e he => ?_) fun b hb F1 H1 s1 => ?_
  · have z : fNot ft ρ = .error e := by unfold fNot; rw [he]; rfl
    rw [z] at p; exact p
  · have z : fNot ft ρ = .ok (!b) := by unfold fNot; rw [hb]; rfl
    rw [z] at p; exact p F1 H1 s1
theorem rd_B {R : Bool → Hp → Prop} (h : tDT K W (fB fa) σ H R) : tTest (tD K W false fa) σ H R := by
  obtain ⟨F, ρ, r, s, p⟩ := h
  refine tD_run r s (fun e he => ?_) fun a ha x F1 H1 s1 q1 => ?_
  · have z : fB fa ρ = .error e := by unfold fB; rw [he]; rfl
    rw [z] at p; exact p
  · have z : fB fa ρ = asB a := by unfold fB; rw [ha]; rfl
    rw [z] at p
    cases a with
    | bl b => exact ⟨b, q1, p F1 H1 s1⟩
    | _ => exact (W.ns p).elim
theorem tru_of {F H1 : Hp} {a : Dat} {x : V} {b : Bool} (s : Same F H1) (q : Deep K F a x) (h : truD a = .ok b) : TruV K x H1 b := by
  cases a with
  | non => rw [show x = .non from q]; exact (Except.ok.inj h).symm
  | bl c => rw [show x = .bl c from q]; exact (Except.ok.inj h).symm
  | int i => rw [show x = .int i from q]; exact (Except.ok.inj h).symm
  | str y =>
    rw [show x = .str y from q]
    have h' : (if y.length ≤ sizeLine then Except.ok ((y.length : Int) != 0) else Except.error Err.stuck) = Except.ok b := h
    by_cases hy : y.length ≤ sizeLine
    · rw [if_pos hy] at h'
      exact ⟨hy, (Except.ok.inj h').symm⟩
    · rw [if_neg hy] at h'
      cases h'
  | tup ds =>
    obtain ⟨p, xs, e, t, r⟩ := q
    subst e
    refine .inr (.inl ⟨xs, s.tup t, ?_⟩)
    rw [← Except.ok.inj h]
    cases ds with
    | nil => rw [show xs = [] from r]; rfl
    | cons d ds => obtain ⟨v, vs, e, _⟩ := r; rw [e]; rfl
  | lst ds =>
    obtain ⟨p, xs, e, t, r⟩ := q
    subst e
    refine .inl ⟨xs, s.lst t, ?_⟩
    rw [← Except.ok.inj h]
    cases ds with
    | nil => rw [show xs = [] from r]; rfl
    | cons d ds => obtain ⟨v, vs, e, _⟩ := r; rw [e]; rfl
  | ins C fs => cases h
  | dic ks => cases h
theorem rd_tru {R : Bool → Hp → Prop} (h : tDT K W (fTru fa) σ H R) : tD K W false fa σ H fun x H1 => ∃ k, TruV K x H1 k ∧ R k H1 := by
  obtain ⟨F, ρ, r, s, p⟩ := h
  refine tD_run r s (fun e he => ?_) fun a ha x F1 H1 s1 q1 => ?_
  · have z : fTru fa ρ = .error e := by unfold fTru; rw [he]; rfl
    rw [z] at p; exact p
  · have z : fTru fa ρ = truD a := by unfold fTru; rw [ha]; rfl
    rw [z] at p
    cases e : truD a with
    | ok b => rw [e] at p; exact ⟨b, tru_of s1.fh q1 e, p F1 H1 s1⟩
    | error x =>
      rw [e] at p
      have : x = .stuck := by
        cases a with
        | str y =>
          have e' : (if y.length ≤ sizeLine then Except.ok ((y.length : Int) != 0) else Except.error Err.stuck) = Except.error x := e
          by_cases hy : y.length ≤ sizeLine
          · rw [if_pos hy] at e'
            cases e'
          · rw [if_neg hy] at e'
            cases e'
            rfl
        | ins C fs => cases e; rfl
        | dic ks => cases e; rfl
        | _ => cases e
      subst this
      exact (W.ns p).elim
theorem rd_andV (h : tD K W false (fAndV fa fb) σ H Q) : tAndV (tD K W false fa) (tD K W false fb) σ H Q := by
  obtain ⟨F, ρ, r, s, p⟩ := h
  refine tD_run r s (fun e he => p.err (by unfold fAndV; rw [he]; rfl)) fun a ha x F1 H1 s1 q1 => ?_
  have z : fAndV fa fb ρ = (asB a).bind fun b => if b = true then fb ρ else .ok (.bl false) := by unfold fAndV; rw [ha]; rfl
  rw [z] at p
  cases a with
  | bl b =>
    refine ⟨b, q1, ?_⟩
    cases b with
    | true => exact ⟨F1, ρ, r.mono s1.ff, s1.fh, Post.step (own := false) (r := fb ρ) p s1⟩
    | false => exact p (.bl false) F1 H1 s1 rfl
  | _ => exact (W.ns p).elim
theorem rd_chain {g g' : Dat → Dat → M Dat} (h : tD K W false (fChain g g' fa fb fc) σ H Q) : tChain (rD2 K W false g) (rD2 K W false g') (tD K W false fa) (tD K W false fb) (tD K W false fc) σ H Q := by
  obtain ⟨F, ρ, r, s, p⟩ := h
  refine tD_run r s (fun e he => p.err (by unfold fChain; rw [he]; rfl)) fun a ha x F1 H1 s1 q1 => ?_
  refine tD_run (r.mono s1.ff) s1.fh (fun e he => (p.step s1).err (by unfold fChain; rw [ha]; show (fb ρ).bind _ = _; rw [he]; rfl)) fun b hb y F2 H2 s2 q2 => ?_
  have z : fChain g g' fa fb fc ρ = (g a b).bind fun x => (asB x).bind fun k => if k = true then (fc ρ).bind fun c => g' b c else .ok (.bl false) := by unfold fChain; rw [ha]; show (fb ρ).bind _ = _; rw [hb]; rfl
  rw [z] at p
  refine ⟨F2, a, b, s2.fh, Deep.mono s2.ff q1, q2, ?_⟩
  have p2 := p.step (s1.trans s2)
  cases e : g a b with
  | error x => rw [e] at p2; exact p2
  | ok d =>
    rw [e] at p2
    intro v F3 H3 s3 q3
    have p3 : Post K W false F3 H3 ((asB d).bind fun k => if k = true then (fc ρ).bind fun c => g' b c else .ok (.bl false)) Q := Post.step p2 s3
    cases d with
    | bl k =>
      refine ⟨k, q3, ?_⟩
      cases k with
      | false => exact p3 (.bl false) F3 H3 (Step.refl s3.fh) rfl
      | true =>
        have p4 : Post K W false F3 H3 ((fc ρ).bind fun c => g' b c) Q := p3
        refine tD_run (r.mono (s1.trans (s2.trans s3)).ff) s3.fh (fun e he => p4.err (by rw [he]; rfl)) fun c hc w F4 H4 s4 q4 => ⟨F4, b, c, s4.fh, Deep.mono (s3.trans s4).ff q2, q4, ?_⟩
        rw [hc] at p4
        exact p4.step s4
    | _ => exact (W.ns p3).elim
end
inductive Pat where
  | nm (i : Nat) | tp (is : List Nat)
noncomputable def setAll : List Nat → List Dat → Env' → Env'
  | i :: is, d :: ds, ρ => setAll is ds (ρ.set i (some d))
  | _, _, ρ => ρ
noncomputable def bindP : Pat → Dat → Env' → M Env'
  | .nm i, d, ρ => .ok (ρ.set i (some d))
  | .tp is, .tup ds, ρ => if ds.length = is.length then .ok (setAll is ds ρ) else .error .stuck
  | .tp _, _, _ => .error .stuck
noncomputable def gNames : List Nat → TGs
  | [] => gNil
  | i :: is => gCons (gName i) (gNames is)
noncomputable def gP (K : PySem.W.Frag) : Pat → TG
  | .nm i => gName i
  | .tp is => gTup K is.length (gNames is)
theorem gNames_run {K : PySem.W.Frag} {F H : Hp} {R : St → Hp → Prop} : ∀ {is : List Nat} {ds : List Dat} {vs : List V} {σ : St} {ρ : Env'}, RepE K F σ ρ → Deeps K F ds vs → ds.length = is.length → (∀ σ', RepE K F σ' (setAll is ds ρ) → R σ' H) → gNames is vs σ H R
  | [], [], _, σ, ρ, r, q, _, h => ⟨q, h σ r⟩
  | [], _ :: _, _, _, _, _, _, e, _ => by simp at e
  | _ :: _, [], _, _, _, _, _, e, _ => by simp at e
  | i :: is, d :: ds, _, σ, ρ, r, ⟨v, vs, e, q, t⟩, l, h => ⟨v, vs, e, gNames_run (r.set q i) t (by simpa using l) h⟩
theorem gP_run {K : PySem.W.Frag} {F H : Hp} {R : St → Hp → Prop} {p : Pat} {d : Dat} {v : V} {σ : St} {ρ ρ' : Env'} (r : RepE K F σ ρ) (s : Same F H) (q : Deep K F d v) (e : bindP p d ρ = .ok ρ') (h : ∀ σ', RepE K F σ' ρ' → R σ' H) : gP K p v σ H R := by
  cases p with
  | nm i =>
    have := Except.ok.inj e
    subst this
    exact h _ (r.set q i)
  | tp is =>
    cases d with
    | tup ds =>
      have e' : (if ds.length = is.length then Except.ok (setAll is ds ρ) else Except.error Err.stuck) = Except.ok ρ' := e
      by_cases hl : ds.length = is.length
      · rw [if_pos hl] at e'
        have := Except.ok.inj e'
        subst this
        obtain ⟨a, xs, ev, t, z⟩ := q
        exact ⟨a, xs, ev, s.tup t, by rw [z.length, hl], gNames_run r z hl h⟩
      · rw [if_neg hl] at e'
        cases e'
    | _ => cases e
theorem bindP_err {p : Pat} {d : Dat} {ρ : Env'} {e : Err} (h : bindP p d ρ = .error e) : e = .stuck := by
  cases p with
  | nm i => cases h
  | tp is =>
    cases d with
    | tup ds =>
      have e' : (if ds.length = is.length then Except.ok (setAll is ds ρ) else Except.error Err.stuck) = Except.error e := h
      by_cases hl : ds.length = is.length
      · rw [if_pos hl] at e'; cases e'
      · rw [if_neg hl] at e'; cases e'; rfl
    | _ => cases h; rfl
structure IterD (K : PySem.W.Frag) (F1 : Hp) (J : It) (ds : List Dat) : Prop where
  go : ∀ (i : Nat) (F H : Hp), Same F1 F → Same F H → i < ds.length → J.go i H
  yl : ∀ (i : Nat) (F H : Hp) (x : V) (H' : Hp) (d : Dat), Same F1 F → Same F H → ds[i]? = some d → J.yld i H x H' → ∃ F', Step F H F' H' ∧ Deep K F' d x
  st : ∀ (F H : Hp), Same F1 F → Same F H → J.stop ds.length H
noncomputable def iD (K : PySem.W.Frag) (W : Wish) (f : Env' → M (List Dat)) : TI := fun σ H R => ∃ F ρ, RepE K F σ ρ ∧ Same F H ∧ (match f ρ with
  | .ok ds => ∀ J F1 H1, Step F H F1 H1 → IterD K F1 J ds → R J H1
  | .error e => W.p e F H)
noncomputable def itemsD : Dat → M (List Dat)
  | .lst ds => .ok ds
  | .tup ds => .ok ds
  | _ => .error .stuck
noncomputable def fIt (fa : Env' → M Dat) : Env' → M (List Dat) := fun ρ => (fa ρ).bind itemsD
noncomputable def iSeq (K : PySem.W.Frag) (tl : TE) : TI := fun σ H R => tl σ H fun x H1 => ∃ a, x = .ref a ∧ ((∃ xs, SqL K H1 a xs) ∧ R (Itl K a) H1 ∨ (∃ xs, SqT K H1 a xs) ∧ R (Itt K a) H1)
theorem iter_list {K : PySem.W.Frag} {F : Hp} {a : Addr} {xs : List V} {ds : List Dat} (t : SqL K F a xs) (z : Deeps K F ds xs) : IterD K F (Itl K a) ds where
  go := fun i F' H' s1 s2 hi => ⟨xs, xs[i]'(by rw [z.length]; exact hi), s2.lst (s1.lst t), by simp [z.length, hi]⟩
  yl := fun i F' H' x H2 d s1 s2 hd hy => by
    obtain ⟨e, hy⟩ := hy
    subst e
    obtain ⟨v, e1, q⟩ := z.get hd
    have e2 := hy xs (s2.lst (s1.lst t))
    rw [e1] at e2
    cases e2
    exact ⟨F', Step.refl s2, q.mono s1⟩
  st := fun F' H' s1 s2 => ⟨xs, s2.lst (s1.lst t), by rw [z.length]; exact Nat.le_refl _⟩
theorem iter_tup {K : PySem.W.Frag} {F : Hp} {a : Addr} {xs : List V} {ds : List Dat} (t : SqT K F a xs) (z : Deeps K F ds xs) : IterD K F (Itt K a) ds where
  go := fun i F' H' s1 s2 hi => ⟨xs, xs[i]'(by rw [z.length]; exact hi), s2.tup (s1.tup t), by simp [z.length, hi]⟩
  yl := fun i F' H' x H2 d s1 s2 hd hy => by
    obtain ⟨e, hy⟩ := hy
    subst e
    obtain ⟨v, e1, q⟩ := z.get hd
    have e2 := hy xs (s2.tup (s1.tup t))
    rw [e1] at e2
    cases e2
    exact ⟨F', Step.refl s2, q.mono s1⟩
  st := fun F' H' s1 s2 => ⟨xs, s2.tup (s1.tup t), by rw [z.length]; exact Nat.le_refl _⟩
noncomputable def rangeL (lo : Int) (n : Nat) : List Dat := (List.range n).map fun k : Nat => Dat.int (lo + k)
theorem iter_range {K : PySem.W.Frag} {F : Hp} {lo : Int} {n : Nat} : IterD K F (Itr lo n) (rangeL lo n) where
  go := fun i F' H' s1 s2 hi => by show i < n; simpa [rangeL] using hi
  yl := fun i F' H' x H2 d s1 s2 hd hy => by
    obtain ⟨e, hy⟩ := hy
    subst e hy
    unfold rangeL at hd
    rw [List.getElem?_map] at hd
    have hi : i < n := by
      have := (List.getElem?_eq_some_iff.mp (show ((List.range n).map fun k : Nat => Dat.int (lo + k))[i]? = some d by rw [List.getElem?_map]; exact hd)).1
      simpa using this
    rw [List.getElem?_range hi] at hd
    cases hd
    exact ⟨F', Step.refl s2, rfl⟩
  st := fun F' H' s1 s2 => by show n ≤ _; simp [rangeL]
noncomputable def small62 (i : Int) : Bool := decide (-(2 ^ 62) ≤ i) && decide (i < 2 ^ 62)
noncomputable def rng1 : List Dat → M (List Dat)
  | [.int j] => if small62 j = true then .ok (rangeL 0 j.toNat) else .error .stuck
  | _ => .error .stuck
noncomputable def fRng (g : List Dat → M (List Dat)) (fr : Env' → M (List Dat)) : Env' → M (List Dat) := fun ρ => (fr ρ).bind g
section
variable {K : PySem.W.Frag} {W : Wish} {own : Bool} {σ : St} {H : Hp} {Q : VK} {fa fb fc : Env' → M Dat}
theorem ri_seq {R : It → Hp → Prop} (h : iD K W (fIt fa) σ H R) : iSeq K (tD K W false fa) σ H R := by
  obtain ⟨F, ρ, r, s, p⟩ := h
  refine tD_run r s (fun e he => ?_) fun a ha x F1 H1 s1 q1 => ?_
  · have z : fIt fa ρ = .error e := by unfold fIt; rw [he]; rfl
    rw [z] at p; exact p
  · have z : fIt fa ρ = itemsD a := by unfold fIt; rw [ha]; rfl
    rw [z] at p
    cases a with
    | lst ds =>
      obtain ⟨b, xs, e, t, z⟩ := q1
      exact ⟨b, e, .inl ⟨⟨xs, s1.fh.lst t⟩, p _ F1 H1 s1 (iter_list t z)⟩⟩
    | tup ds =>
      obtain ⟨b, xs, e, t, z⟩ := q1
      exact ⟨b, e, .inr ⟨⟨xs, s1.fh.tup t⟩, p _ F1 H1 s1 (iter_tup t z)⟩⟩
    | _ => exact (W.ns p).elim
theorem ri_rng1 {fr : Env' → M (List Dat)} {R : It → Hp → Prop} (h : iD K W (fRng rng1 fr) σ H R) : iRng1 (tDA K W fr) σ H R := by
  obtain ⟨F, ρ, r, s, p⟩ := h
  refine tDA_run r s (fun e he => ?_) fun ds hd xs F1 H1 s1 q1 => ?_
  · have z : fRng rng1 fr ρ = .error e := by unfold fRng; rw [he]; rfl
    rw [z] at p; exact p
  · have z : fRng rng1 fr ρ = rng1 ds := by unfold fRng; rw [hd]; rfl
    rw [z] at p
    match ds, q1, p with
    | [.int j], ⟨v, vs, e, q, t⟩, p =>
      have p' : match (if small62 j = true then Except.ok (rangeL 0 j.toNat) else Except.error Err.stuck : M (List Dat)) with
        | .ok ds => ∀ J F1 H1, Step F H F1 H1 → IterD K F1 J ds → R J H1
        | .error e => W.p e F H := p
      by_cases hj : small62 j = true
      · rw [if_pos hj] at p'
        unfold small62 at hj
        simp only [Bool.and_eq_true, decide_eq_true_eq] at hj
        exact ⟨j, by rw [e, show v = .int j from q, show vs = [] from t], hj.1, hj.2, p' _ F1 H1 s1 iter_range⟩
      · rw [if_neg hj] at p'
        exact (W.ns p').elim
    | [], _, p => exact (W.ns p).elim
    | .non :: _, _, p => exact (W.ns p).elim
    | .bl _ :: _, _, p => exact (W.ns p).elim
    | .str _ :: _, _, p => exact (W.ns p).elim
    | .tup _ :: _, _, p => exact (W.ns p).elim
    | .lst _ :: _, _, p => exact (W.ns p).elim
    | .ins _ _ :: _, _, p => exact (W.ns p).elim
    | .dic _ :: _, _, p => exact (W.ns p).elim
    | .int _ :: _ :: _, _, p => exact (W.ns p).elim
noncomputable def inSE (ix : List (Option Nat)) (ρ : Env') : Env' := ix.map fun o => match o with
  | none => none
  | some j => (ρ[j]?).join
noncomputable def compD (p : Pat) (ft : Env' → M Bool) (fe : Env' → M Dat) (ρ0 : Env') : List Dat → M (List Dat)
  | [] => .ok []
  | d :: ds => (bindP p d ρ0).bind fun ρ => (ft ρ).bind fun b => if b = true then (fe ρ).bind fun y => (compD p ft fe ρ0 ds).bind fun r => .ok (y :: r) else compD p ft fe ρ0 ds
noncomputable def fComp (fi : Env' → M (List Dat)) (ix : List (Option Nat)) (p : Pat) (ft : Env' → M Bool) (fe : Env' → M Dat) : Env' → M Dat := fun ρ => (fi ρ).bind fun ds => if ds.length ≤ sizeLine then (compD p ft fe (inSE ix ρ) ds).bind fun r => .ok (.lst r) else .error .stuck
noncomputable def fYes : Env' → M Bool := fun _ => .ok true
theorem RepE.inS {F : Hp} {ρ : Env'} (r : RepE K F σ ρ) (ix : List (Option Nat)) : RepE K F (L2.inS ix σ) (inSE ix ρ) :=
  ⟨by simp [L2.inS, inSE], fun i d e => by
    unfold inSE at e
    unfold L2.inS
    rw [List.getElem?_map] at e ⊢
    cases h : ix[i]? with
    | none => rw [h] at e; cases e
    | some o =>
      rw [h] at e
      cases o with
      | none => cases e
      | some j =>
        simp only [Option.map_some, Option.some.injEq] at e ⊢
        have e1 : ρ[j]? = some (some d) := by
          cases z : ρ[j]? with
          | none => rw [z] at e; cases e
          | some w => rw [z] at e; simp at e; rw [e]
        obtain ⟨v, h1, h2⟩ := r.sl j d e1
        exact ⟨v, by rw [h1]; rfl, h2⟩⟩
theorem rd_comp {fi : Env' → M (List Dat)} {ix : List (Option Nat)} {p : Pat} {ft : Env' → M Bool} {fe : Env' → M Dat} (h : tD K W true (fComp fi ix p ft fe) σ H Q) :
    tComp (iD K W fi) ix (gP K p) (tDT K W ft) (tD K W false fe) σ H Q := by
  obtain ⟨F, ρ, r, s, q⟩ := h
  refine ⟨F, ρ, r, s, ?_⟩
  cases hf : fi ρ with
  | error e => exact q.err (by unfold fComp; rw [hf]; rfl)
  | ok ds =>
    intro J F1 H1 s1 it
    have e0 : fComp fi ix p ft fe ρ = if ds.length ≤ sizeLine then (compD p ft fe (inSE ix ρ) ds).bind fun r => .ok (.lst r) else .error .stuck := by unfold fComp; rw [hf]; rfl
    rw [e0] at q
    by_cases hl : ds.length ≤ sizeLine
    · rw [if_pos hl] at q
      refine ⟨fun i m ys H2 => m = ds.length - i ∧ i ≤ ds.length ∧ ∃ F2 yd, Step F1 H1 F2 H2 ∧ Deeps K F2 yd ys ∧ yd.length ≤ i ∧
        (match compD p ft fe (inSE ix ρ) (ds.drop i) with
          | .ok rr => compD p ft fe (inSE ix ρ) ds = .ok (yd ++ rr)
          | .error e => W.p e F H), ⟨ds.length, by omega, Nat.zero_le _, F1, [], Step.refl s1.fh, rfl, Nat.zero_le _, ?_⟩, ?_⟩
      · rw [List.drop_zero]
        cases e : compD p ft fe (inSE ix ρ) ds with
        | ok rr => rfl
        | error x => exact q.err (by rw [e]; rfl)
      · rintro i m ys H2 ⟨rfl, hi, F2, yd, s2, dy, ly, hc⟩
        have lys : ys.length ≤ sizeLine := by rw [dy.length]; omega
        by_cases hlt : i < ds.length
        · have ed : ds.drop i = ds[i] :: ds.drop (i + 1) := List.drop_eq_getElem_cons hlt
          rw [ed] at hc
          refine .inr ⟨it.go i F2 H2 s2.ff s2.fh hlt, lys, fun ys' H' => (i + 1 ≤ ds.length ∧ ∃ F2 yd, Step F1 H1 F2 H' ∧ Deeps K F2 yd ys' ∧ yd.length ≤ i + 1 ∧
            (match compD p ft fe (inSE ix ρ) (ds.drop (i + 1)) with
              | .ok rr => compD p ft fe (inSE ix ρ) ds = .ok (yd ++ rr)
              | .error e => W.p e F H)), fun ys' H' n => ⟨ds.length - (i + 1), by omega, rfl, n⟩, fun x H' y => ?_⟩
          obtain ⟨F3, s3, q3⟩ := it.yl i F2 H2 x H' ds[i] s2.ff s2.fh (by simp [hlt]) y
          have r3 : RepE K F3 (L2.inS ix σ) (inSE ix ρ) := (r.mono (s1.trans (s2.trans s3)).ff).inS ix
          have st3 : Step F H F3 H' := s1.trans (s2.trans s3)
          have ec : compD p ft fe (inSE ix ρ) (ds[i] :: ds.drop (i + 1)) = (bindP p ds[i] (inSE ix ρ)).bind fun ρ1 => (ft ρ1).bind fun b => if b = true then (fe ρ1).bind fun y => (compD p ft fe (inSE ix ρ) (ds.drop (i + 1))).bind fun r => .ok (y :: r) else compD p ft fe (inSE ix ρ) (ds.drop (i + 1)) := by rw [compD]
          rw [ec] at hc
          cases hb : bindP p ds[i] (inSE ix ρ) with
          | error e =>
            rw [hb] at hc
            have := bindP_err hb
            subst this
            exact (W.ns hc).elim
          | ok ρ1 =>
            rw [hb] at hc
            refine gP_run r3 s3.fh q3 hb fun σ2 r4 => ?_
            have hc1 : match ((ft ρ1).bind fun b => if b = true then (fe ρ1).bind fun y => (compD p ft fe (inSE ix ρ) (ds.drop (i + 1))).bind fun r => .ok (y :: r) else compD p ft fe (inSE ix ρ) (ds.drop (i + 1))) with
              | .ok rr => compD p ft fe (inSE ix ρ) ds = .ok (yd ++ rr)
              | .error e => W.p e F H := hc
            refine tDT_run r4 s3.fh (fun e he => by rw [he] at hc1; exact W.mono hc1 st3) fun b hb2 F5 H5 s5 => ?_
            rw [hb2] at hc1
            cases b with
            | false =>
              have hc2 : match compD p ft fe (inSE ix ρ) (ds.drop (i + 1)) with
                | .ok rr => compD p ft fe (inSE ix ρ) ds = .ok (yd ++ rr)
                | .error e => W.p e F H := hc1
              exact ⟨hlt, F5, yd, s2.trans (s3.trans s5), dy.mono (s3.trans s5).ff, by omega, hc2⟩
            | true =>
              have hc2 : match ((fe ρ1).bind fun y => (compD p ft fe (inSE ix ρ) (ds.drop (i + 1))).bind fun r => .ok (y :: r)) with
                | .ok rr => compD p ft fe (inSE ix ρ) ds = .ok (yd ++ rr)
                | .error e => W.p e F H := hc1
              refine tD_run (r4.mono s5.ff) s5.fh (fun e he => by rw [he] at hc2; exact W.mono hc2 (st3.trans s5)) fun d hd v F6 H6 s6 q6 => ?_
              rw [hd] at hc2
              refine ⟨hlt, F6, yd ++ [d], s2.trans (s3.trans (s5.trans s6)), Deeps.append (dy.mono (s3.trans (s5.trans s6)).ff) ⟨v, [], rfl, q6, rfl⟩, by simp; omega, ?_⟩
              have hc3 : match ((compD p ft fe (inSE ix ρ) (ds.drop (i + 1))).bind fun r => .ok (d :: r) : M (List Dat)) with
                | .ok rr => compD p ft fe (inSE ix ρ) ds = .ok (yd ++ rr)
                | .error e => W.p e F H := hc2
              cases e7 : compD p ft fe (inSE ix ρ) (ds.drop (i + 1)) with
              | ok rr =>
                rw [e7] at hc3
                show _ = Except.ok ((yd ++ [d]) ++ rr)
                rw [List.append_assoc]
                exact hc3
              | error x => rw [e7] at hc3; exact hc3
        · have : i = ds.length := by omega
          subst this
          rw [List.drop_length] at hc
          have hc' : compD p ft fe (inSE ix ρ) ds = .ok (yd ++ []) := hc
          rw [List.append_nil] at hc'
          rw [hc'] at q
          refine .inl ⟨it.st F2 H2 s2.ff s2.fh, lys, fun a ha => ?_⟩
          have st : Step F H F2 H2 := s1.trans s2
          exact q (.ref a) F2 _ (st.trans (Step.grow s2.fh ha)) ⟨a, ys, rfl, upd_same, s2.fh.free ha, st.hh.free ha, dy⟩
    · rw [if_neg hl] at q
      exact (W.ns q).elim
end
inductive Flo where
  | nx (ρ : Env') | rt (d : Dat) | bk (ρ : Env') | ct (ρ : Env')
structure Rep (K : PySem.W.Frag) (F0 H0 FB : Hp) (O : List Nat) (F H : Hp) (σ : St) (ρ : Env') : Prop where
  st : Step F0 H0 F H
  fb : Same FB F
  len : ρ.length = σ.length
  fz : ∀ (i : Nat) (d : Dat), ρ[i]? = some (some d) → i ∉ O → ∃ v, σ[i]? = some (some v) ∧ Deep K F d v
  ow : ∀ (i : Nat) (d : Dat), ρ[i]? = some (some d) → i ∈ O → ∃ v, σ[i]? = some (some v) ∧ OwnD K F H0 H d v
  ap : ∀ (i j : Nat) (d e : Dat) (a : Addr), i ∈ O → j ∈ O → (ρ[i]? = some (some d) ∧ isO d = true) → (ρ[j]? = some (some e) ∧ isO e = true) → σ[i]? = some (some (.ref a)) → σ[j]? = some (some (.ref a)) → i = j
noncomputable def Own' (O O2 : List Nat) (σ : St) (ρ : Env') (b : Addr) : Prop := ∃ (i : Nat) (d : Dat), i ∈ O ∧ i ∉ O2 ∧ isO d = true ∧ ρ[i]? = some (some d) ∧ σ[i]? = some (some (.ref b))
open Classical in
noncomputable def plus (F H : Hp) (A : Addr → Prop) : Hp := fun b => if A b then H b else F b
open Classical in
noncomputable def minus (F : Hp) (A : Addr → Prop) : Hp := fun b => if A b then none else F b
theorem plus_in {F H : Hp} {A : Addr → Prop} {b : Addr} (h : A b) : plus F H A b = H b := by unfold plus; rw [if_pos h]
theorem plus_out {F H : Hp} {A : Addr → Prop} {b : Addr} (h : ¬ A b) : plus F H A b = F b := by unfold plus; rw [if_neg h]
theorem minus_in {F : Hp} {A : Addr → Prop} {b : Addr} (h : A b) : minus F A b = none := by unfold minus; rw [if_pos h]
theorem minus_out {F : Hp} {A : Addr → Prop} {b : Addr} (h : ¬ A b) : minus F A b = F b := by unfold minus; rw [if_neg h]
section
variable {K : PySem.W.Frag} {F0 H0 FB F H : Hp} {O O2 : List Nat} {σ : St} {ρ : Env'}
theorem Rep.own (r : Rep K F0 H0 FB O F H σ ρ) {b : Addr} (h : Own' O O2 σ ρ b) : F b = none ∧ H0 b = none ∧ ∃ o, H b = some o ∧ isMu o = true := by
  obtain ⟨i, d, hi, _, hd, e1, e2⟩ := h
  obtain ⟨v, e3, q⟩ := r.ow i _ e1 hi
  rw [e2] at e3
  cases e3
  obtain ⟨a, o, e, p, m, f, z⟩ := q.top hd
  cases e
  exact ⟨f, z, o, p, m⟩
theorem Rep.plus_ff (r : Rep K F0 H0 FB O F H σ ρ) : Same F (plus F H (Own' O O2 σ ρ)) := fun b o h => by
  by_cases hb : Own' O O2 σ ρ b
  · rw [(r.own hb).1] at h; cases h
  · rw [plus_out hb]; exact h
theorem Rep.plus_fh (r : Rep K F0 H0 FB O F H σ ρ) : Same (plus F H (Own' O O2 σ ρ)) H := fun b o h => by
  by_cases hb : Own' O O2 σ ρ b
  · rw [plus_in hb] at h; exact h
  · rw [plus_out hb] at h; exact r.st.fh b o h
theorem Rep.freeze (r : Rep K F0 H0 FB O F H σ ρ) (hs : ∀ i ∈ O2, i ∈ O) : Rep K F0 H0 FB O2 (plus F H (Own' O O2 σ ρ)) H σ ρ where
  st := ⟨r.st.ff.trans r.plus_ff, r.st.hh, r.plus_fh, fun b o h => by
    by_cases hb : Own' O O2 σ ρ b
    · exact .inr (r.own hb).2.1
    · rw [plus_out hb] at h; exact r.st.nw b o h⟩
  fb := r.fb.trans r.plus_ff
  len := r.len
  fz := fun i d e hi => by
    by_cases ho : i ∈ O
    · obtain ⟨v, e3, q⟩ := r.ow i d e ho
      refine ⟨v, e3, ?_⟩
      cases hd : isO d with
      | true =>
        obtain ⟨a, _, ev, _⟩ := q.top hd
        subst ev
        exact q.give hd r.plus_ff (plus_in ⟨i, d, ho, hi, hd, e, e3⟩)
      | false => rw [OwnD.non hd] at q; exact q.mono r.plus_ff
    · obtain ⟨v, e3, q⟩ := r.fz i d e ho
      exact ⟨v, e3, q.mono r.plus_ff⟩
  ow := fun i d e hi => by
    obtain ⟨v, e3, q⟩ := r.ow i d e (hs i hi)
    refine ⟨v, e3, ?_⟩
    cases hd : isO d with
    | true =>
      obtain ⟨a, o, ev, p, _, f, z⟩ := q.top hd
      subst ev
      refine q.re hd r.plus_ff ?_ fun _ h => h
      have : ¬ Own' O O2 σ ρ a := fun ⟨j, d', hj, hj2, hd', f1, f2⟩ => by
        have := r.ap i j d d' a (hs i hi) hj ⟨e, hd⟩ ⟨f1, hd'⟩ e3 f2
        subst this
        exact hj2 hi
      rw [plus_out this]
      exact f
    | false => rw [OwnD.non hd] at q ⊢; exact q.mono r.plus_ff
  ap := fun i j d e a hi hj => r.ap i j d e a (hs i hi) (hs j hj)
theorem Rep.repE (r : Rep K F0 H0 FB [] F H σ ρ) : RepE K F σ ρ := ⟨r.len, fun i d e => r.fz i d e (by simp)⟩
theorem Rep.repAll (r : Rep K F0 H0 FB O F H σ ρ) : RepE K (plus F H (Own' O [] σ ρ)) σ ρ := (r.freeze (O2 := []) (by simp)).repE
noncomputable def erase : List Nat → Env' → Env'
  | [], ρ => ρ
  | i :: is, ρ => erase is (ρ.set i none)
theorem erase_len : ∀ (O : List Nat) (ρ : Env'), (erase O ρ).length = ρ.length
  | [], _ => rfl
  | i :: is, ρ => by rw [erase, erase_len, List.length_set]
theorem erase_get : ∀ (O : List Nat) (ρ : Env') (i : Nat) (d : Dat), (erase O ρ)[i]? = some (some d) → ρ[i]? = some (some d) ∧ i ∉ O
  | [], _, _, _, h => ⟨h, by simp⟩
  | j :: is, ρ, i, d, h => by
    obtain ⟨h1, h2⟩ := erase_get is (ρ.set j none) i d h
    by_cases e : j = i
    · subst e
      have hj : j < ρ.length := by
        have := (List.getElem?_eq_some_iff.mp h1).1
        simpa using this
      rw [List.getElem?_set_self hj] at h1
      cases h1
    · rw [List.getElem?_set_ne e] at h1
      exact ⟨h1, by simp [h2]; omega⟩
theorem Rep.repErase (r : Rep K F0 H0 FB O F H σ ρ) : RepE K F σ (erase O ρ) :=
  ⟨by rw [erase_len, r.len], fun i d e => let ⟨h1, h2⟩ := erase_get O ρ i d e; r.fz i d h1 h2⟩
theorem Rep.step {F1 H1 : Hp} (r : Rep K F0 H0 FB O F H σ ρ) (s : Step F H F1 H1) : Rep K F0 H0 FB O F1 H1 σ ρ where
  st := r.st.trans s
  fb := r.fb.trans s.ff
  len := r.len
  fz := fun i d e hi => let ⟨v, e3, q⟩ := r.fz i d e hi; ⟨v, e3, q.mono s.ff⟩
  ow := fun i d e hi => by
    obtain ⟨v, e3, q⟩ := r.ow i d e hi
    refine ⟨v, e3, ?_⟩
    cases hd : isO d with
    | true =>
      obtain ⟨a, u, ev, p, _, f, z⟩ := q.top hd
      subst ev
      refine q.re hd s.ff ?_ (s.hh a)
      cases e1 : F1 a with
      | none => rfl
      | some o =>
        rcases s.nw a o e1 with h | h
        · rw [f] at h; cases h
        · rw [p] at h; cases h
    | false => rw [OwnD.non hd] at q ⊢; exact q.mono s.ff
  ap := r.ap
theorem Rep.stepAll {F1 H1 : Hp} (r : Rep K F0 H0 FB O F H σ ρ) (s : Step (plus F H (Own' O [] σ ρ)) H F1 H1) : Rep K F0 H0 FB O (minus F1 (Own' O [] σ ρ)) H1 σ ρ := by
  refine r.step ⟨fun b o h => ?_, s.hh, fun b o h => ?_, fun b o h => ?_⟩
  · by_cases hb : Own' O [] σ ρ b
    · rw [(r.own hb).1] at h; cases h
    · rw [minus_out hb]; exact s.ff b o (by rw [plus_out hb]; exact h)
  · by_cases hb : Own' O [] σ ρ b
    · rw [minus_in hb] at h; cases h
    · rw [minus_out hb] at h; exact s.fh b o h
  · by_cases hb : Own' O [] σ ρ b
    · rw [minus_in hb] at h; cases h
    · rw [minus_out hb] at h
      rcases s.nw b o h with z | z
      · rw [plus_out hb] at z; exact .inl z
      · exact .inr z
theorem Rep.set {d : Dat} {v : V} (r : Rep K F0 H0 FB O F H σ ρ) (q : Deep K F d v) (i : Nat) : Rep K F0 H0 FB (O.filter (· != i)) F H (σ.set i (some v)) (ρ.set i (some d)) where
  st := r.st
  fb := r.fb
  len := by rw [List.length_set, List.length_set, r.len]
  fz := fun j e h hj => by
    by_cases hij : i = j
    · subst hij
      have hi : i < ρ.length := by
        have := (List.getElem?_eq_some_iff.mp h).1
        simpa using this
      rw [List.getElem?_set_self hi] at h
      cases h
      exact ⟨v, by rw [List.getElem?_set_self (by rw [← r.len]; exact hi)], q⟩
    · rw [List.getElem?_set_ne hij] at h
      rw [List.getElem?_set_ne hij]
      exact r.fz j e h fun z => hj (List.mem_filter.mpr ⟨z, by simpa using Ne.symm hij⟩)
  ow := fun j e h hj => by
    obtain ⟨h1, h2⟩ := List.mem_filter.mp hj
    have hij : i ≠ j := fun z => by simp [z] at h2
    rw [List.getElem?_set_ne hij] at h ⊢
    exact r.ow j e h h1
  ap := fun j k ds es a hj hk e1 e2 e3 e4 => by
    obtain ⟨j1, j2⟩ := List.mem_filter.mp hj
    obtain ⟨k1, k2⟩ := List.mem_filter.mp hk
    have hij : i ≠ j := fun z => by simp [z] at j2
    have hik : i ≠ k := fun z => by simp [z] at k2
    rw [List.getElem?_set_ne hij] at e1 e3
    rw [List.getElem?_set_ne hik] at e2 e4
    exact r.ap j k ds es a j1 k1 e1 e2 e3 e4
theorem Rep.setOwn {d : Dat} {v : V} (r : Rep K F0 H0 FB O F H σ ρ) (q : OwnD K F H0 H d v) (nw : ∀ a, v = .ref a → isO d = true → ¬ Own' O [i] σ ρ a) : Rep K F0 H0 FB (i :: O.filter (· != i)) F H (σ.set i (some v)) (ρ.set i (some d)) where
  st := r.st
  fb := r.fb
  len := by rw [List.length_set, List.length_set, r.len]
  fz := fun j e h hj => by
    simp only [List.mem_cons, not_or] at hj
    have hij : i ≠ j := fun z => hj.1 z.symm
    rw [List.getElem?_set_ne hij] at h ⊢
    exact r.fz j e h fun z => hj.2 (List.mem_filter.mpr ⟨z, by simpa using Ne.symm hij⟩)
  ow := fun j e h hj => by
    by_cases hij : i = j
    · subst hij
      have hi : i < ρ.length := by
        have := (List.getElem?_eq_some_iff.mp h).1
        simpa using this
      rw [List.getElem?_set_self hi] at h
      cases h
      exact ⟨v, by rw [List.getElem?_set_self (by rw [← r.len]; exact hi)], q⟩
    · rw [List.getElem?_set_ne hij] at h ⊢
      rcases List.mem_cons.mp hj with z | z
      · exact absurd z.symm hij
      · exact r.ow j e h (List.mem_filter.mp z).1
  ap := fun j k ds es a hj hk e1 e2 e3 e4 => by
    have key : ∀ {k' : Nat} {ds' es' : Dat}, k' ∈ O → k' ≠ i → ((ρ.set i (some d))[i]? = some (some ds') ∧ isO ds' = true) → ((ρ.set i (some d))[k']? = some (some es') ∧ isO es' = true) → (σ.set i (some v))[i]? = some (some (.ref a)) → (σ.set i (some v))[k']? = some (some (.ref a)) → False := by
      intro k' ds' es' hk' hne f1 f2 f3 f4
      have hi : i < ρ.length := by
        have := (List.getElem?_eq_some_iff.mp f1.1).1
        simpa using this
      rw [List.getElem?_set_self hi] at f1
      rw [List.getElem?_set_self (by rw [← r.len]; exact hi)] at f3
      rw [List.getElem?_set_ne (Ne.symm hne)] at f2 f4
      have z1 : v = .ref a := by simpa using f3
      have z2 : d = ds' := by simpa using f1.1
      exact nw a z1 (z2 ▸ f1.2) ⟨k', es', hk', by simpa using hne, f2.2, f2.1, f4⟩
    rcases List.mem_cons.mp hj with zj | zj
    · rcases List.mem_cons.mp hk with zk | zk
      · rw [zj, zk]
      · obtain ⟨k1, k2⟩ := List.mem_filter.mp zk
        subst zj
        exact (key k1 (by simpa using k2) e1 e2 e3 e4).elim
    · obtain ⟨j1, j2⟩ := List.mem_filter.mp zj
      have hij : i ≠ j := fun z => by simp [z] at j2
      rcases List.mem_cons.mp hk with zk | zk
      · subst zk
        exact (key j1 (Ne.symm hij) e2 e1 e4 e3).elim
      · obtain ⟨k1, k2⟩ := List.mem_filter.mp zk
        have hik : i ≠ k := fun z => by simp [z] at k2
        rw [List.getElem?_set_ne hij] at e1 e3
        rw [List.getElem?_set_ne hik] at e2 e4
        exact r.ap j k ds es a j1 k1 e1 e2 e3 e4
end
section
variable {K : PySem.W.Frag} {F0 H0 FB F H : Hp} {O O2 : List Nat} {σ : St} {ρ : Env'}
theorem filter_out {i : Nat} {O : List Nat} (h : i ∉ O) : O.filter (· != i) = O := by
  rw [List.filter_eq_self]
  intro a ha
  simp
  intro e
  exact h (e ▸ ha)
theorem Rep.set' {d : Dat} {v : V} (r : Rep K F0 H0 FB O F H σ ρ) (q : Deep K F d v) {i : Nat} (hi : i ∉ O) : Rep K F0 H0 FB O F H (σ.set i (some v)) (ρ.set i (some d)) := by
  have := r.set q i
  rw [filter_out hi] at this
  exact this
theorem Rep.base {FB' : Hp} (r : Rep K F0 H0 FB O F H σ ρ) (s : Same FB' FB) : Rep K F0 H0 FB' O F H σ ρ := ⟨r.st, s.trans r.fb, r.len, r.fz, r.ow, r.ap⟩
theorem Rep.writeO {i : Nat} {a : Addr} {d d' : Dat} {u : HO} (r : Rep K F0 H0 FB O F H σ ρ) (hi : i ∈ O) (e1 : ρ[i]? = some (some d)) (hd : isO d = true) (e2 : σ[i]? = some (some (.ref a))) (q : F a = none → H0 a = none → OwnD K F H0 (upd H a u) d' (.ref a)) : Rep K F0 H0 FB O F (upd H a u) σ (ρ.set i (some d')) := by
  have ho : F a = none ∧ H0 a = none ∧ ∃ o, H a = some o ∧ isMu o = true := r.own (O2 := []) ⟨i, d, hi, by simp, hd, e1, e2⟩
  have hil : i < ρ.length := (List.getElem?_eq_some_iff.mp e1).1
  refine ⟨⟨r.st.ff, fun b o h => ?_, fun b o h => ?_, r.st.nw⟩, r.fb, by rw [List.length_set, r.len], fun j e h hj => ?_, fun j e h hj => ?_, fun j k es fs b hj hk f1 f2 f3 f4 => ?_⟩
  · rw [upd_ne (ne_of_none h ho.2.1)]; exact r.st.hh b o h
  · rw [upd_ne (ne_of_none h ho.1)]; exact r.st.fh b o h
  · have hij : i ≠ j := fun z => hj (z ▸ hi)
    rw [List.getElem?_set_ne hij] at h
    exact r.fz j e h hj
  · by_cases hij : i = j
    · subst hij
      rw [List.getElem?_set_self hil] at h
      cases h
      exact ⟨.ref a, e2, q ho.1 ho.2.1⟩
    · rw [List.getElem?_set_ne hij] at h
      obtain ⟨v, e3, z⟩ := r.ow j e h hj
      refine ⟨v, e3, ?_⟩
      cases he : isO e with
      | true =>
        obtain ⟨b, o, ev, p, _, f, _⟩ := z.top he
        subst ev
        have hab : b ≠ a := fun z => by
          subst z
          exact hij (r.ap i j d e b hi hj ⟨e1, hd⟩ ⟨h, he⟩ e2 e3)
        exact z.re he (Same.refl _) f fun o h => by rw [upd_ne hab]; exact h
      | false => rw [OwnD.non he] at z ⊢; exact z
  · have fix : ∀ {j : Nat} {e : Dat}, ((ρ.set i (some d'))[j]? = some (some e) ∧ isO e = true) → ∃ e', ρ[j]? = some (some e') ∧ isO e' = true := fun {j e} f => by
      by_cases hij : i = j
      · subst hij; exact ⟨d, e1, hd⟩
      · rw [List.getElem?_set_ne hij] at f; exact ⟨e, f⟩
    obtain ⟨es', g1⟩ := fix f1
    obtain ⟨fs', g2⟩ := fix f2
    exact r.ap j k es' fs' b hj hk g1 g2 f3 f4
theorem Rep.write {i : Nat} {a : Addr} {ds ds' : List Dat} {xs' : List V} (r : Rep K F0 H0 FB O F H σ ρ) (hi : i ∈ O) (e1 : ρ[i]? = some (some (.lst ds))) (e2 : σ[i]? = some (some (.ref a))) (q : Deeps K F ds' xs') : Rep K F0 H0 FB O F (upd H a (.lst xs')) σ (ρ.set i (some (.lst ds'))) :=
  r.writeO hi e1 rfl e2 fun f z => ⟨a, xs', rfl, upd_same, f, z, q⟩
noncomputable def Pat.names : Pat → List Nat
  | .nm i => [i]
  | .tp is => is
theorem gNames_rep {R : St → Hp → Prop} : ∀ {is : List Nat} {ds : List Dat} {vs : List V} {σ : St} {ρ : Env'}, Rep K F0 H0 FB O F H σ ρ → (∀ i ∈ is, i ∉ O) → Deeps K F ds vs → ds.length = is.length → (∀ σ', Rep K F0 H0 FB O F H σ' (setAll is ds ρ) → R σ' H) → gNames is vs σ H R
  | [], [], _, σ, ρ, r, _, q, _, h => ⟨q, h σ r⟩
  | [], _ :: _, _, _, _, _, _, _, e, _ => by simp at e
  | _ :: _, [], _, _, _, _, _, _, e, _ => by simp at e
  | i :: is, d :: ds, _, σ, ρ, r, n, ⟨v, vs, e, q, t⟩, l, h => ⟨v, vs, e, gNames_rep (r.set' q (n i (by simp))) (fun j hj => n j (by simp [hj])) t (by simpa using l) h⟩
theorem gP_rep {R : St → Hp → Prop} {p : Pat} {d : Dat} {v : V} {ρ' : Env'} (r : Rep K F0 H0 FB O F H σ ρ) (n : ∀ i ∈ p.names, i ∉ O) (q : Deep K F d v) (e : bindP p d ρ = .ok ρ') (h : ∀ σ', Rep K F0 H0 FB O F H σ' ρ' → R σ' H) : gP K p v σ H R := by
  cases p with
  | nm i =>
    have := Except.ok.inj e
    subst this
    exact h _ (r.set' q (n i (by simp [Pat.names])))
  | tp is =>
    cases d with
    | tup ds =>
      have e' : (if ds.length = is.length then Except.ok (setAll is ds ρ) else Except.error Err.stuck) = Except.ok ρ' := e
      by_cases hl : ds.length = is.length
      · rw [if_pos hl] at e'
        have := Except.ok.inj e'
        subst this
        obtain ⟨a, xs, ev, t, z⟩ := q
        exact ⟨a, xs, ev, r.st.fh.tup t, by rw [z.length, hl], gNames_rep r n z hl h⟩
      · rw [if_neg hl] at e'
        cases e'
    | _ => cases e
end
noncomputable def PostS (K : PySem.W.Frag) (W : Wish) (ro : Bool) (F0 H0 FB : Hp) (OL O' : List Nat) (D : Ends) (r : M Flo) : Prop := match r with
  | .ok (.nx ρ) => ∀ σ F H, Rep K F0 H0 FB O' F H σ ρ → D.nx σ H
  | .ok (.rt d) => ∀ v F H, Step F0 H0 F H → Val K ro F H0 H d v → D.rt v H
  | .ok (.bk ρ) => ∀ σ F H, Rep K F0 H0 FB OL F H σ ρ → D.bk σ H
  | .ok (.ct ρ) => ∀ σ F H, Rep K F0 H0 FB OL F H σ ρ → D.ct σ H
  | .error e => W.p e F0 H0
noncomputable def tS (K : PySem.W.Frag) (W : Wish) (ro : Bool) (F0 H0 : Hp) (OL O O' : List Nat) (g : Env' → M Flo) : TS := fun D σ H => ∃ FB F ρ, Rep K F0 H0 FB O F H σ ρ ∧ PostS K W ro F0 H0 FB OL O' D (g ρ)
noncomputable def sNext : Env' → M Flo := fun ρ => .ok (.nx ρ)
noncomputable def sSeq (g h : Env' → M Flo) : Env' → M Flo := fun ρ => (g ρ).bind fun fl => match fl with
  | .nx ρ' => h ρ'
  | fl => .ok fl
noncomputable def sIf (ft : Env' → M Bool) (g h : Env' → M Flo) : Env' → M Flo := fun ρ => (ft ρ).bind fun b => if b = true then g ρ else h ρ
noncomputable def sSetB (O : List Nat) (i : Nat) (f : Env' → M Dat) : Env' → M Flo := fun ρ => (f (erase O ρ)).bind fun d => .ok (.nx (ρ.set i (some d)))
noncomputable def lstAt (ρ : Env') (i : Nat) : M (List Dat) := match ρ[i]? with
  | some (some (.lst ds)) => .ok ds
  | _ => .error .stuck
noncomputable def put (ρ : Env') (i : Nat) (ds : List Dat) : M Flo := .ok (.nx (ρ.set i (some (.lst ds))))
noncomputable def sAppB (O : List Nat) (i : Nat) (f : Env' → M Dat) : Env' → M Flo := fun ρ => (lstAt ρ i).bind fun ds => (f (erase O ρ)).bind fun d => if ds.length < sizeLine then put ρ i (ds ++ [d]) else .error .stuck
noncomputable def asI : Dat → M Int
  | .int i => .ok i
  | _ => .error .stuck
noncomputable def sRet (f : Env' → M Dat) : Env' → M Flo := fun ρ => (f ρ).bind fun d => .ok (.rt d)
noncomputable def forD (p : Pat) (g : Env' → M Flo) : List Dat → Env' → M Flo
  | [], ρ => .ok (.nx ρ)
  | d :: ds, ρ => (bindP p d ρ).bind fun ρ1 => (g ρ1).bind fun fl => match fl with
    | .nx ρ2 => forD p g ds ρ2
    | .ct ρ2 => forD p g ds ρ2
    | .bk ρ2 => .ok (.nx ρ2)
    | .rt d => .ok (.rt d)
noncomputable def sFor (O : List Nat) (fi : Env' → M (List Dat)) (p : Pat) (g : Env' → M Flo) : Env' → M Flo := fun ρ => (fi (erase O ρ)).bind fun ds => forD p g ds ρ
section
variable {K : PySem.W.Frag} {W : Wish} {ro own : Bool} {F0 H0 FB F H : Hp} {OL O O' O2 : List Nat} {D : Ends} {σ : St} {ρ : Env'} {g h : Env' → M Flo} {f fi : Env' → M Dat} {ft : Env' → M Bool}
theorem PostS.err {x : M Flo} {e : Err} (p : PostS K W ro F0 H0 FB OL O' D x) (h : x = .error e) : W.p e F0 H0 := by rw [h] at p; exact p
theorem PostS.errAt {x : M Flo} {e : Err} (p : PostS K W ro F0 H0 FB OL O' D x) (s : Step F0 H0 F H) (h : x = .error e) : W.p e F H := W.mono (p.err h) s
theorem PostS.stuck {x : M Flo} {P : Prop} (p : PostS K W ro F0 H0 FB OL O' D x) (h : x = .error .stuck) : P := (W.ns (p.err h)).elim
theorem tS.enter (hs : ∀ i ∈ O2, i ∈ O) (t : tS K W ro F0 H0 OL O O' g D σ H) : tS K W ro F0 H0 OL O2 O' g D σ H := by
  obtain ⟨FB, F, ρ, r, p⟩ := t
  exact ⟨FB, _, ρ, r.freeze hs, p⟩
theorem rs_next (t : tS K W ro F0 H0 OL O O sNext D σ H) : tNext D σ H := by
  obtain ⟨FB, F, ρ, r, p⟩ := t
  exact p σ F H r
theorem rs_seq (t : tS K W ro F0 H0 OL O O2 (sSeq g h) D σ H) : tSeq (tS K W ro F0 H0 OL O O' g) (tS K W ro F0 H0 OL O' O2 h) D σ H := by
  obtain ⟨FB, F, ρ, r, p⟩ := t
  refine ⟨FB, F, ρ, r, ?_⟩
  unfold sSeq at p
  cases e : g ρ with
  | error x => exact p.err (by rw [e]; rfl)
  | ok fl =>
    rw [e] at p
    cases fl with
    | nx ρ' => exact fun σ' F' H' r' => ⟨FB, F', ρ', r', p⟩
    | rt d => exact p
    | bk ρ' => exact p
    | ct ρ' => exact p
theorem rs_if (t : tS K W ro F0 H0 OL O O' (sIf ft g h) D σ H) : tIfS (tDT K W ft) (tS K W ro F0 H0 OL O O' g) (tS K W ro F0 H0 OL O O' h) D σ H := by
  obtain ⟨FB, F, ρ, r, p⟩ := t
  refine tDT_run r.repAll r.plus_fh (fun e he => p.errAt (r.freeze (O2 := []) (by simp)).st (by unfold sIf; rw [he]; rfl)) fun b hb F1 H1 s1 => ?_
  have z : sIf ft g h ρ = if b = true then g ρ else h ρ := by unfold sIf; rw [hb]; rfl
  rw [z] at p
  cases b with
  | true => exact ⟨FB, _, ρ, r.stepAll s1, p⟩
  | false => exact ⟨FB, _, ρ, r.stepAll s1, p⟩
noncomputable def aft (own : Bool) (i : Nat) (O : List Nat) : List Nat := if own = true then i :: O.filter (· != i) else O.filter (· != i)
theorem Rep.bindV {i : Nat} {d : Dat} {v : V} {H2 : Hp} (r : Rep K F0 H0 FB O F H σ ρ) (q : Val K own F H2 H d v) (h2 : Same H0 H2) (nw : ∀ a, Own' O [] σ ρ a → ∃ o, H2 a = some o) : Rep K F0 H0 FB (aft own i O) F H (σ.set i (some v)) (ρ.set i (some d)) := by
  cases own with
  | false => exact r.set q i
  | true =>
    refine r.setOwn (OwnD.back h2 q) fun a ha hd z => ?_
    subst ha
    obtain ⟨b, _, e, _, _, _, n⟩ := OwnD.top hd q
    cases e
    obtain ⟨j, es, h1, h2, h3, h4, h5⟩ := z
    obtain ⟨o, ho⟩ := nw a ⟨j, es, h1, by simp, h3, h4, h5⟩
    rw [n] at ho
    cases ho
theorem rs_setB {i : Nat} (t : tS K W ro F0 H0 OL O (aft own i O) (sSetB O i f) D σ H) : tAsg (tD K W own f) (gName i) D σ H := by
  obtain ⟨FB, F, ρ, r, p⟩ := t
  refine tD_run r.repErase r.st.fh (fun e he => p.errAt r.st (by unfold sSetB; rw [he]; rfl)) fun d hd v F1 H1 s1 q => ?_
  have z : sSetB O i f ρ = .ok (.nx (ρ.set i (some d))) := by unfold sSetB; rw [hd]; rfl
  rw [z] at p
  exact p _ F1 H1 ((r.step s1).bindV q r.st.hh fun a ha => let ⟨_, _, _, e, _⟩ := r.own ha; ⟨_, e⟩)
theorem lstAt_ok {i : Nat} {ds : List Dat} (h : lstAt ρ i = .ok ds) : ρ[i]? = some (some (.lst ds)) := by
  unfold lstAt at h
  split at h
  · cases h; assumption
  · cases h
theorem lstAt_err {i : Nat} {e : Err} (h : lstAt ρ i = .error e) : e = .stuck := by
  unfold lstAt at h
  split at h
  · cases h
  · cases h; rfl
theorem Rep.lstOwn {i : Nat} {ds : List Dat} (r : Rep K F0 H0 FB O F H σ ρ) (hi : i ∈ O) (e : ρ[i]? = some (some (.lst ds))) : ∃ a xs, σ[i]? = some (some (.ref a)) ∧ H a = some (.lst xs) ∧ Deeps K F ds xs := by
  obtain ⟨v, e3, a, xs, ev, p, _, _, t⟩ := r.ow i _ e hi
  subst ev
  exact ⟨a, xs, e3, p, t⟩
noncomputable def tApp (K : PySem.W.Frag) (i : Nat) (te : TE) : TS := tDrop (tBM K "list" rAppend (tVar i) (tCons te tNil))
theorem rs_appB {i : Nat} (hi : i ∈ O) (t : tS K W ro F0 H0 OL O O (sAppB O i f) D σ H) : tApp K i (tD K W false f) D σ H := by
  obtain ⟨FB, F, ρ, r, p⟩ := t
  cases hl : lstAt ρ i with
  | error e =>
    have := lstAt_err hl
    subst this
    exact p.stuck (by unfold sAppB; rw [hl]; rfl)
  | ok ds =>
    obtain ⟨a, xs, e2, ha, z⟩ := r.lstOwn hi (lstAt_ok hl)
    refine ⟨.ref a, e2, tyV_list ha, ?_⟩
    refine tD_run r.repErase r.st.fh (fun e he => p.errAt r.st (by unfold sAppB; rw [hl]; show (f (erase O ρ)).bind _ = _; rw [he]; rfl)) fun d hd v F1 H1 s1 q => ?_
    have ez : sAppB O i f ρ = if ds.length < sizeLine then put ρ i (ds ++ [d]) else .error .stuck := by unfold sAppB; rw [hl]; show (f (erase O ρ)).bind _ = _; rw [hd]; rfl
    rw [ez] at p
    by_cases hs : ds.length < sizeLine
    · rw [if_pos hs] at p
      exact ⟨a, xs, v, rfl, rfl, s1.hh _ _ ha, by rw [z.length]; exact hs, p σ F1 _ ((r.step s1).write hi (lstAt_ok hl) e2 (Deeps.append (z.mono s1.ff) ⟨v, [], rfl, q, rfl⟩))⟩
    · rw [if_neg hs] at p
      exact p.stuck rfl
theorem rs_ret (t : tS K W ro F0 H0 OL O O' (sRet f) D σ H) : tRet (tD K W ro f) D σ H := by
  obtain ⟨FB, F, ρ, r, p⟩ := t
  have rf := r.freeze (O2 := []) (by simp)
  refine tD_run r.repAll r.plus_fh (fun e he => p.errAt rf.st (by unfold sRet; rw [he]; rfl)) fun d hd v F1 H1 s1 q => ?_
  have z : sRet f ρ = .ok (.rt d) := by unfold sRet; rw [hd]; rfl
  rw [z] at p
  exact p v F1 H1 (rf.st.trans s1) (q.back r.st.hh)
theorem rs_for {fs : Env' → M (List Dat)} {pt : Pat} (n : ∀ i ∈ pt.names, i ∉ O) (t : tS K W ro F0 H0 OL O O (sFor O fs pt g) D σ H) : tFor (iD K W fs) (gP K pt) (tS K W ro F0 H0 O O O g) D σ H := by
  obtain ⟨FB, F, ρ, r, p⟩ := t
  refine ⟨F, erase O ρ, r.repErase, r.st.fh, ?_⟩
  cases e : fs (erase O ρ) with
  | error x => exact p.errAt r.st (by unfold sFor; rw [e]; rfl)
  | ok ds =>
    have z : sFor O fs pt g ρ = forD pt g ds ρ := by unfold sFor; rw [e]; rfl
    rw [z] at p
    intro J F1 H1 s1 it
    refine ⟨fun i m σ H => ∃ F ρ, Rep K F0 H0 F1 O F H σ ρ ∧ i ≤ ds.length ∧ m = ds.length - i ∧ PostS K W ro F0 H0 FB OL O D (forD pt g (ds.drop i) ρ), ⟨ds.length, F1, ρ, ?_, Nat.zero_le _, by omega, by rw [List.drop_zero]; exact p⟩, ?_⟩
    · have r1 := r.step s1
      exact ⟨r1.st, Same.refl _, r1.len, r1.fz, r1.ow, r1.ap⟩
    · rintro i m σ2 H2 ⟨F2, ρ2, r2, hi, rfl, p2⟩
      by_cases hlt : i < ds.length
      · have ed : ds.drop i = ds[i] :: ds.drop (i + 1) := List.drop_eq_getElem_cons hlt
        rw [ed] at p2
        refine .inr ⟨it.go i F2 H2 r2.fb r2.st.fh hlt, fun σ' H' => (∃ F ρ, Rep K F0 H0 F1 O F H' σ' ρ ∧ PostS K W ro F0 H0 FB OL O D (forD pt g (ds.drop (i + 1)) ρ)), fun σ' H' ⟨F, ρ, r, p⟩ => ⟨ds.length - (i + 1), by omega, F, ρ, r, hlt, rfl, p⟩, fun x H' y => ?_⟩
        obtain ⟨F3, s3, q3⟩ := it.yl i F2 H2 x H' ds[i] r2.fb r2.st.fh (by simp [hlt]) y
        have ef : forD pt g (ds[i] :: ds.drop (i + 1)) ρ2 = (bindP pt ds[i] ρ2).bind fun ρ1 => (g ρ1).bind fun fl => match fl with
          | .nx ρ2 => forD pt g (ds.drop (i + 1)) ρ2
          | .ct ρ2 => forD pt g (ds.drop (i + 1)) ρ2
          | .bk ρ2 => .ok (.nx ρ2)
          | .rt d => .ok (.rt d) := by rw [forD]
        rw [ef] at p2
        cases eb : bindP pt ds[i] ρ2 with
        | error x =>
          have := bindP_err eb
          subst this
          exact p2.stuck (by rw [eb]; rfl)
        | ok ρ3 =>
          rw [eb] at p2
          have p2 : PostS K W ro F0 H0 FB OL O D ((g ρ3).bind fun fl => match fl with
            | .nx ρ2 => forD pt g (ds.drop (i + 1)) ρ2
            | .ct ρ2 => forD pt g (ds.drop (i + 1)) ρ2
            | .bk ρ2 => .ok (.nx ρ2)
            | .rt d => .ok (.rt d)) := p2
          refine gP_rep (r2.step s3) n q3 eb fun σ4 r4 => ⟨F1, F3, ρ3, r4, ?_⟩
          have fb1 : Same FB F1 := (r.step s1).fb
          cases eg : g ρ3 with
          | error x => exact p2.err (by rw [eg]; rfl)
          | ok fl =>
            rw [eg] at p2
            cases fl with
            | nx ρ5 => exact fun σ' F' H' r' => ⟨F', ρ5, r', p2⟩
            | ct ρ5 => exact fun σ' F' H' r' => ⟨F', ρ5, r', p2⟩
            | bk ρ5 => exact fun σ' F' H' r' => p2 σ' F' H' (r'.base fb1)
            | rt d => exact p2
      · have : i = ds.length := by omega
        subst this
        rw [List.drop_length] at p2
        exact .inl ⟨it.st F2 H2 r2.fb r2.st.fh, p2 σ2 F2 H2 (r2.base (r.step s1).fb)⟩
end
noncomputable def stk {α : Type} : M α := .error .stuck
noncomputable def addD : Dat → Dat → M Dat
  | .int i, .int j => .ok (.int (i + j))
  | .str x, .str y => if x.length + y.length ≤ sizeLine then .ok (.str (x ++ y)) else stk
  | .lst xs, .lst ys => if xs.length + ys.length ≤ sizeLine then .ok (.lst (xs ++ ys)) else stk
  | .tup xs, .tup ys => if xs.length + ys.length ≤ sizeLine then .ok (.tup (xs ++ ys)) else stk
  | _, _ => stk
noncomputable def subD : Dat → Dat → M Dat
  | .int i, .int j => .ok (.int (i - j))
  | _, _ => stk
noncomputable def small64 (i : Int) : Bool := decide (-(2 ^ 64) < i) && decide (i < 2 ^ 64)
noncomputable def mulD : Dat → Dat → M Dat
  | .int i, .int j => if (small64 i || small64 j) = true then .ok (.int (i * j)) else stk
  | _, _ => stk
noncomputable def fdivD : Dat → Dat → M Dat
  | .int i, .int j => if (decide (0 < j) && decide (j < 18446744073709551616)) = true then .ok (.int (i / j)) else stk
  | _, _ => stk
noncomputable def modD : Dat → Dat → M Dat
  | .int i, .int j => if 0 < j then .ok (.int (i % j)) else stk
  | _, _ => stk
noncomputable def powD : Dat → Dat → M Dat
  | .int i, .int j => if (decide (0 ≤ j) && decide (j ≤ 1000000) && decide (i.natAbs < 2 ^ 64)) = true then .ok (.int (i ^ j.toNat)) else stk
  | _, _ => stk
noncomputable def negD : Dat → M Dat
  | .int i => .ok (.int (-i))
  | _ => stk
noncomputable def ltD : Dat → Dat → M Dat
  | .int i, .int j => .ok (.bl (decide (i < j)))
  | _, _ => stk
noncomputable def leD : Dat → Dat → M Dat
  | .int i, .int j => .ok (.bl (decide (i ≤ j)))
  | _, _ => stk
noncomputable def gtD : Dat → Dat → M Dat
  | .int i, .int j => .ok (.bl (decide (j < i)))
  | _, _ => stk
noncomputable def b2z (b : Bool) : Int := if b then 1 else 0
mutual
noncomputable def eqD : Dat → Dat → Bool
  | .non, .non => true
  | .bl a, .bl b => a == b
  | .bl a, .int b => b2z a == b
  | .int a, .bl b => a == b2z b
  | .int a, .int b => a == b
  | .str a, .str b => a == b
  | .tup xs, .tup ys => eqDs xs ys
  | .lst xs, .lst ys => eqDs xs ys
  | _, _ => false
noncomputable def eqDs : List Dat → List Dat → Bool
  | [], [] => true
  | d :: ds, e :: es => eqD d e && eqDs ds es
  | _, _ => false
end
mutual
noncomputable def okE : Dat → Nat → Bool
  | .tup ds, n => (match n with
    | 0 => false
    | n + 1 => okEs ds n)
  | .lst ds, n => (match n with
    | 0 => false
    | n + 1 => okEs ds n)
  | .ins _ _, _ => false
  | .dic _, _ => false
  | .non, _ => true
  | .bl _, _ => true
  | .int _, _ => true
  | .str _, _ => true
noncomputable def okEs : List Dat → Nat → Bool
  | [], _ => true
  | d :: ds, n => okE d n && okEs ds n
end
noncomputable def eqM (a b : Dat) : M Dat := if (okE a 40 && okE b 40) = true then .ok (.bl (eqD a b)) else stk
noncomputable def neM (a b : Dat) : M Dat := if (okE a 40 && okE b 40) = true then .ok (.bl (!eqD a b)) else stk
noncomputable def getI (ds : List Dat) (i : Int) : M Dat := match atI ds i with
  | some d => .ok d
  | none => stk
noncomputable def ixD : Dat → Dat → M Dat
  | .lst ds, .int i => getI ds i
  | .tup ds, .int i => getI ds i
  | _, _ => stk
noncomputable def lenD : List Dat → M Dat
  | [.lst ds] => .ok (.int ds.length)
  | [.tup ds] => .ok (.int ds.length)
  | _ => stk
noncomputable def boolsD : List Dat → M (List Bool)
  | [] => .ok []
  | d :: ds => (asB d).bind fun b => (boolsD ds).bind fun r => .ok (b :: r)
noncomputable def allD : List Dat → M Dat
  | [.lst ds] => (boolsD ds).bind fun bs => .ok (.bl (bs.all id))
  | _ => stk
noncomputable def listD : List Dat → M Dat
  | [.lst ds] => .ok (.lst ds)
  | [.tup ds] => .ok (.lst ds)
  | _ => stk
noncomputable def isi_intD : Dat → M Dat
  | .int _ => .ok (.bl true)
  | .bl _ => .ok (.bl true)
  | .ins _ _ => stk
  | .dic _ => stk
  | _ => .ok (.bl false)
noncomputable def isi_boolD : Dat → M Dat
  | .bl _ => .ok (.bl true)
  | .ins _ _ => stk
  | .dic _ => stk
  | _ => .ok (.bl false)
noncomputable def isi_listD : Dat → M Dat
  | .lst _ => .ok (.bl true)
  | .ins _ _ => stk
  | .dic _ => stk
  | _ => .ok (.bl false)
noncomputable def isi_tupleD : Dat → M Dat
  | .tup _ => .ok (.bl true)
  | .ins _ _ => stk
  | .dic _ => stk
  | _ => .ok (.bl false)
noncomputable def runB (nN n : Nat) (g : Env' → M Flo) (ds : List Dat) : M Dat := if ds.length = n then (g (ds.map some ++ List.replicate (nN - ds.length) none)).bind fun fl => match fl with
  | .nx _ => .ok .non
  | .rt d => .ok d
  | _ => stk else stk
@[simp] theorem bind_ok {α β : Type} (a : α) (f : α → M β) : Except.bind (Except.ok a : M α) f = f a := id rfl
@[simp] theorem bind_er {α β : Type} (e : Err) (f : α → M β) : Except.bind (Except.error e : M α) f = .error e := id rfl
@[simp] theorem boolsD_map : ∀ is : List Bool, boolsD (is.map Dat.bl) = .ok is
  | [] => rfl
  | i :: is => by simp [boolsD, asB, boolsD_map is]
theorem getI_nat {ds : List Dat} {k : Nat} (h : k < ds.length) : getI ds (k : Int) = .ok ds[k] := by
  unfold getI atI ixN
  rw [if_pos (by omega), if_pos (by omega)]
  simp [h]
theorem forD_inv {p : Pat} {g : Env' → M Flo} (P : Nat → Env' → Prop) : ∀ (ds : List Dat) (k : Nat) (ρ : Env'), P k ρ →
    (∀ (i : Nat) (d : Dat) (ρ : Env'), ds[i]? = some d → P (k + i) ρ → ∃ ρ1, bindP p d ρ = .ok ρ1 ∧ ∃ ρ2, (g ρ1 = .ok (.nx ρ2) ∨ g ρ1 = .ok (.ct ρ2)) ∧ P (k + i + 1) ρ2) → ∃ ρ', forD p g ds ρ = .ok (.nx ρ') ∧ P (k + ds.length) ρ'
  | [], k, ρ, h, _ => ⟨ρ, rfl, h⟩
  | d :: ds, k, ρ, h, st => by
    obtain ⟨ρ1, e1, ρ2, e2, h2⟩ := st 0 d ρ rfl h
    obtain ⟨ρ', e3, h3⟩ := forD_inv P ds (k + 1) ρ2 h2 fun i d' ρ he hp => by
      have := st (i + 1) d' ρ (by simpa using he) (by rw [show k + (i + 1) = k + 1 + i by omega]; exact hp)
      rw [show k + (i + 1) + 1 = k + 1 + i + 1 by omega] at this
      exact this
    refine ⟨ρ', ?_, by rw [show k + (d :: ds).length = k + 1 + ds.length by simp; omega]; exact h3⟩
    rw [forD, e1]
    rcases e2 with e2 | e2
    · simp only [bind_ok, e2]; exact e3
    · simp only [bind_ok, e2]; exact e3
theorem compD_map {p : Pat} {fe : Env' → M Dat} {ρ0 : Env'} (f : Dat → Dat) : ∀ (ds : List Dat), (∀ d ∈ ds, ∃ ρ, bindP p d ρ0 = .ok ρ ∧ fe ρ = .ok (f d)) → compD p fYes fe ρ0 ds = .ok (ds.map f)
  | [], _ => rfl
  | d :: ds, h => by
    obtain ⟨ρ, e1, e2⟩ := h d (by simp)
    rw [compD, e1]
    simp only [bind_ok, fYes, e2, compD_map f ds fun x hx => h x (by simp [hx])]
    simp
@[simp] theorem small_def (i : Int) : small64 i = (decide (-(2 ^ 64) < i) && decide (i < 2 ^ 64)) := id rfl
@[simp] theorem small_def2 (i : Int) : small62 i = (decide (-(2 ^ 62) ≤ i) && decide (i < 2 ^ 62)) := id rfl
section
variable {ρ : Env'} {fa fb fc : Env' → M Dat} {fr : Env' → M (List Dat)} {ft fu : Env' → M Bool} {g h : Env' → M Flo}
@[simp] theorem e_var0 (d : Dat) (r : Env') : fVar 0 (some d :: r) = .ok d := id rfl
@[simp] theorem e_varS (i : Nat) (o : Option Dat) (r : Env') : fVar (i + 1) (o :: r) = fVar i r := by simp [fVar]
@[simp] theorem e_c (d : Dat) : fC d ρ = .ok d := id rfl
@[simp] theorem e_1 (k : Dat → M Dat) : f1 k fa ρ = (fa ρ).bind k := id rfl
@[simp] theorem e_2 (k : Dat → Dat → M Dat) : f2 k fa fb ρ = (fa ρ).bind fun a => (fb ρ).bind fun b => k a b := id rfl
@[simp] theorem e_nil : fNil ρ = .ok [] := id rfl
@[simp] theorem e_cons : fCons fa fr ρ = (fa ρ).bind fun a => (fr ρ).bind fun r => .ok (a :: r) := id rfl
@[simp] theorem e_L (k : List Dat → M Dat) : fL k fr ρ = (fr ρ).bind k := id rfl
@[simp] theorem e_or : fOr ft fu ρ = (ft ρ).bind fun b => if b = true then .ok true else fu ρ := id rfl
@[simp] theorem e_not : fNot ft ρ = (ft ρ).bind fun b => .ok (!b) := id rfl
@[simp] theorem e_B : fB fa ρ = (fa ρ).bind asB := id rfl
@[simp] theorem e_andV : fAndV fa fb ρ = (fa ρ).bind fun a => (asB a).bind fun b => if b = true then fb ρ else .ok (.bl false) := id rfl
@[simp] theorem e_tru : fTru fa ρ = (fa ρ).bind truD := id rfl
@[simp] theorem e_chain (k k' : Dat → Dat → M Dat) : fChain k k' fa fb fc ρ = (fa ρ).bind fun a => (fb ρ).bind fun b => (k a b).bind fun x => (asB x).bind fun z => if z = true then (fc ρ).bind fun c => k' b c else .ok (.bl false) := id rfl
@[simp] theorem e_it : fIt fa ρ = (fa ρ).bind itemsD := id rfl
@[simp] theorem e_rng (k : List Dat → M (List Dat)) : fRng k fr ρ = (fr ρ).bind k := id rfl
@[simp] theorem e_comp (fi : Env' → M (List Dat)) (ix : List (Option Nat)) (p : Pat) : fComp fi ix p ft fa ρ = (fi ρ).bind fun ds => if ds.length ≤ sizeLine then (compD p ft fa (inSE ix ρ) ds).bind fun r => .ok (.lst r) else .error .stuck := id rfl
@[simp] theorem e_asB (b : Bool) : asB (.bl b) = .ok b := id rfl
@[simp] theorem e_asI (b : Int) : asI (.int b) = .ok b := id rfl
@[simp] theorem e_itemsL (ds : List Dat) : itemsD (.lst ds) = .ok ds := id rfl
@[simp] theorem e_truB (b : Bool) : truD (.bl b) = .ok b := id rfl
@[simp] theorem e_addI (i j : Int) : addD (.int i) (.int j) = .ok (.int (i + j)) := id rfl
@[simp] theorem e_subI (i j : Int) : subD (.int i) (.int j) = .ok (.int (i - j)) := id rfl
@[simp] theorem e_negI (i : Int) : negD (.int i) = .ok (.int (-i)) := id rfl
@[simp] theorem e_ltI (i j : Int) : ltD (.int i) (.int j) = .ok (.bl (decide (i < j))) := id rfl
@[simp] theorem e_leI (i j : Int) : leD (.int i) (.int j) = .ok (.bl (decide (i ≤ j))) := id rfl
@[simp] theorem e_gtI (i j : Int) : gtD (.int i) (.int j) = .ok (.bl (decide (j < i))) := id rfl
@[simp] theorem e_ixL (ds : List Dat) (i : Int) : ixD (.lst ds) (.int i) = getI ds i := id rfl
@[simp] theorem e_lenL (ds : List Dat) : lenD [.lst ds] = .ok (.int ds.length) := id rfl
@[simp] theorem e_all (ds : List Dat) : allD [.lst ds] = (boolsD ds).bind fun bs => .ok (.bl (bs.all id)) := id rfl
@[simp] theorem e_listL (ds : List Dat) : listD [.lst ds] = .ok (.lst ds) := id rfl
@[simp] theorem e_isiLL (ds : List Dat) : isi_listD (.lst ds) = .ok (.bl true) := id rfl
@[simp] theorem e_next : sNext ρ = .ok (.nx ρ) := id rfl
@[simp] theorem e_seq : sSeq g h ρ = (g ρ).bind fun fl => match fl with
  | .nx ρ' => h ρ'
  | fl => .ok fl := id rfl
@[simp] theorem e_if : sIf ft g h ρ = (ft ρ).bind fun b => if b = true then g ρ else h ρ := id rfl
@[simp] theorem e_setB (O : List Nat) (i : Nat) : sSetB O i fa ρ = (fa (erase O ρ)).bind fun d => .ok (.nx (ρ.set i (some d))) := id rfl
@[simp] theorem e_ret : sRet fa ρ = (fa ρ).bind fun d => .ok (.rt d) := id rfl
@[simp] theorem e_for (O : List Nat) (fi : Env' → M (List Dat)) (p : Pat) : sFor O fi p g ρ = (fi (erase O ρ)).bind fun ds => forD p g ds ρ := id rfl
@[simp] theorem e_appB (O : List Nat) (i : Nat) : sAppB O i fa ρ = (lstAt ρ i).bind fun ds => (fa (erase O ρ)).bind fun d => if ds.length < sizeLine then put ρ i (ds ++ [d]) else .error .stuck := id rfl
@[simp] theorem e_put (i : Nat) (ds : List Dat) : put ρ i ds = .ok (.nx (ρ.set i (some (.lst ds)))) := id rfl
@[simp] theorem e_lst0 (ds : List Dat) (r : Env') : lstAt (some (.lst ds) :: r) 0 = .ok ds := id rfl
@[simp] theorem e_lstS (i : Nat) (o : Option Dat) (r : Env') : lstAt (o :: r) (i + 1) = lstAt r i := by simp [lstAt]
@[simp] theorem e_er0 : erase [] ρ = ρ := id rfl
@[simp] theorem e_erS (i : Nat) (O : List Nat) : erase (i :: O) ρ = erase O (ρ.set i none) := id rfl
@[simp] theorem e_bnm (i : Nat) (d : Dat) : bindP (.nm i) d ρ = .ok (ρ.set i (some d)) := id rfl
@[simp] theorem e_in0 : inSE [] ρ = [] := id rfl
@[simp] theorem e_inN (ix : List (Option Nat)) : inSE (none :: ix) ρ = none :: inSE ix ρ := id rfl
@[simp] theorem e_inS (j : Nat) (ix : List (Option Nat)) : inSE (some j :: ix) ρ = (ρ[j]?).join :: inSE ix ρ := id rfl
@[simp] theorem e_tup (ds : List Dat) : mkTup ds = if ds.length ≤ sizeLine then .ok (.tup ds) else .error .stuck := id rfl
@[simp] theorem e_lst (ds : List Dat) : mkLst ds = if ds.length ≤ sizeLine then .ok (.lst ds) else .error .stuck := id rfl
@[simp] theorem e_line : sizeLine = 16777216 := sizeLine_eq
@[simp] theorem e_run (a b : Nat) (ds : List Dat) : runB a b g ds = if ds.length = b then (g (ds.map some ++ List.replicate (a - ds.length) none)).bind fun fl => match fl with
  | .nx _ => .ok .non
  | .rt d => .ok d
  | _ => stk else stk := id rfl
@[simp] theorem e_rng1 {j : Int} (h : small62 j = true) : rng1 [.int j] = .ok (rangeL 0 j.toNat) := by show (if small62 j = true then _ else _) = _; rw [if_pos h]
@[simp] theorem e_mod {i j : Int} (h : 0 < j) : modD (.int i) (.int j) = .ok (.int (i % j)) := by simp [modD, h]
@[simp] theorem e_fdiv {i j : Int} (h : 0 < j) (h2 : j < 18446744073709551616) : fdivD (.int i) (.int j) = .ok (.int (i / j)) := by simp [fdivD, h, h2]
@[simp] theorem e_mulR {i j : Int} (h : small64 j = true) : mulD (.int i) (.int j) = .ok (.int (i * j)) := by show (if (small64 i || small64 j) = true then _ else _) = _; rw [h, Bool.or_true, if_pos rfl]
@[simp] theorem e_mulL {i j : Int} (h : small64 i = true) : mulD (.int i) (.int j) = .ok (.int (i * j)) := by show (if (small64 i || small64 j) = true then _ else _) = _; rw [h, Bool.true_or, if_pos rfl]
end
end L2
namespace L2
open PySem PySem.Spec PyProof.Rows
section
variable {X : Cx} {K : PySem.W.Frag} {W : Wish} {own ro : Bool} {e a b c : Expr} {es rest : List Expr} {x : Str} {pos p : Pos} {f fa fb fc : Env' → M Dat} {fr : Env' → M (List Dat)} {ft fu : Env' → M Bool}
theorem PE.imp {t t' : TE} (h : PE X e t) (q : ∀ σ H Q, t' σ H Q → t σ H Q) : PE X e t' := fun pins s σ H Q I z => h pins s σ H Q I (q σ H Q z)
theorem PT.imp {t t' : TT} (h : PT X e t) (q : ∀ σ H Q, t' σ H Q → t σ H Q) : PT X e t' := fun pins s σ H Q I z => h pins s σ H Q I (q σ H Q z)
theorem PW.imp {t t' : TT} (h : PW X e t) (q : ∀ σ H Q, t' σ H Q → t σ H Q) : PW X e t' := fun wh pins s σ H Q I z => h wh pins s σ H Q I (q σ H Q z)
theorem PA.imp {t t' : TA} (h : PA X es t) (q : ∀ σ H Q, t' σ H Q → t σ H Q) : PA X es t' := fun ps pins s σ H Q I z => h ps pins s σ H Q I (q σ H Q z)
theorem PI.imp {tg : Expr} {t t' : TI} (h : PI X tg e t) (q : ∀ σ H Q, t' σ H Q → t σ H Q) : PI X tg e t' := fun pins s σ H Q I z => h pins s σ H Q I (q σ H Q z)
theorem PS.imp {st : Stmt} {t t' : TS} (h : PS X st t) (q : ∀ D σ H, t' D σ H → t D σ H) : PS X st t' := fun pins s σ H D I z => h pins s σ H D I (q D σ H z)
theorem PSs.imp {st : List Stmt} {t t' : TS} (h : PSs X st t) (q : ∀ D σ H, t' D σ H → t D σ H) : PSs X st t' := fun pins s σ H D I z => h pins s σ H D I (q D σ H z)
noncomputable abbrev DE (K : PySem.W.Frag) (W : Wish) (own : Bool) (X : Cx) (e : Expr) (f : Env' → M Dat) : Prop := PE X e (tD K W own f)
noncomputable abbrev DT (K : PySem.W.Frag) (W : Wish) (X : Cx) (e : Expr) (f : Env' → M Bool) : Prop := PT X e (tDT K W f)
noncomputable abbrev DW (K : PySem.W.Frag) (W : Wish) (X : Cx) (e : Expr) (f : Env' → M Bool) : Prop := PW X e (tDT K W f)
noncomputable abbrev DA (K : PySem.W.Frag) (W : Wish) (X : Cx) (es : List Expr) (f : Env' → M (List Dat)) : Prop := PA X es (tDA K W f)
noncomputable abbrev DI (K : PySem.W.Frag) (W : Wish) (X : Cx) (tg e : Expr) (f : Env' → M (List Dat)) : Prop := PI X tg e (iD K W f)
noncomputable abbrev DG (K : PySem.W.Frag) (X : Cx) (tg : Expr) (p : Pat) : Prop := PG X tg (gP K p)
noncomputable abbrev DS (K : PySem.W.Frag) (W : Wish) (ro : Bool) (X : Cx) (OL O O' : List Nat) (st : Stmt) (g : Env' → M Flo) : Prop := ∀ F0 H0 : Hp, PS X st (tS K W ro F0 H0 OL O O' g)
noncomputable abbrev DSs (K : PySem.W.Frag) (W : Wish) (ro : Bool) (X : Cx) (OL O O' : List Nat) (st : List Stmt) (g : Env' → M Flo) : Prop := ∀ F0 H0 : Hp, PSs X st (tS K W ro F0 H0 OL O O' g)
noncomputable abbrev Op2 (K : PySem.W.Frag) (W : Wish) (own : Bool) (X : Cx) (o : Value → Value → Sem Value) (g : Dat → Dat → M Dat) : Prop := OpR X o (rD2 K W own g)
noncomputable abbrev CallD (K : PySem.W.Frag) (W : Wish) (own : Bool) (X : Cx) (v : Value) (g : List Dat → M Dat) : Prop := CallR X v (rDL K W own g)
theorem de_v (i : Nat) (hN : X.N[i]? = some x := by rfl) (hv : Vis X.env.scope x := by first | exact Or.inl rfl | exact Or.inr (Or.inl rfl) | exact Or.inr (Or.inr rfl)) (hd : (x == ("__debug__" : Str)) = false := by decide)
    (hcd : (x == ("__classdict__" : Str)) = false := by decide) : DE K W false X (.Name x pos) (fVar i) := (pv i hN hv hd hcd).imp fun _ _ _ => rd_var
theorem de_int {i : Int} {j} : DE K W false X (.Constant (.int i) j pos) (fC (.int i)) := pe_int.imp fun _ _ _ => rd_c fun _ => rfl
theorem de_bl {k : Bool} {j} : DE K W false X (.Constant (.bool k) j pos) (fC (.bl k)) := pe_bl.imp fun _ _ _ => rd_c fun _ => rfl
theorem de_non {j} : DE K W false X (.Constant .none j pos) (fC .non) := pe_non.imp fun _ _ _ => rd_c fun _ => rfl
theorem de_str {z : Str} {j} : DE K W false X (.Constant (.str z) j pos) (fC (.str z)) := pe_str.imp fun _ _ _ => rd_c fun _ => rfl
theorem de_gint {n : Int} (hm : ∃ t, X.mg x = some (.int n t)) (hg : Gl X x := by rfl) (hd : (x == ("__debug__" : Str)) = false := by decide) : DE K W false X (.Name x pos) (fC (.int n)) := (pe_gint hg hm hd).imp fun _ _ _ => rd_c fun _ => rfl
theorem de_frz (h : DE K W true X e f) : DE K W false X e f := PE.imp h fun _ _ _ ⟨F, ρ, r, s, p⟩ => ⟨F, ρ, r, s, p.frz⟩
theorem de_op {op : Operator} {g : Dat → Dat → M Dat} (ho : Op2 K W own X (binaryOp op) g) (ha : DE K W false X a fa) (hb : DE K W false X b fb) : DE K W own X (.BinOp a op b pos) (f2 g fa fb) := (pe_op ho ha hb).imp fun _ _ _ => rd_2
theorem de_un {op : UnaryOp} {g : Dat → M Dat} (ho : UnR X (unaryOp op) (rD1 K W own g)) (ha : DE K W false X a fa) : DE K W own X (.UnaryOp op a pos) (f1 g fa) := (pe_un ho ha).imp fun _ _ _ => rd_1
theorem de_cmp {op : CmpOp} {g : Dat → Dat → M Dat} (ho : Op2 K W false X (compareOp op) g) (ha : DE K W false X a fa) (hb : DE K W false X b fb) (hm : behindInMarks op b = false := by first | exact nomark _ | with_unfolding_all rfl) : DE K W false X (.Compare a [op] [b] pos) (f2 g fa fb) :=
  (pe_cmpR ho ha hb hm).imp fun _ _ _ => rd_2
theorem dt_cmp {op : CmpOp} {g : Dat → Dat → M Dat} (ho : Op2 K W false X (compareOp op) g) (ha : DE K W false X a fa) (hb : DE K W false X b fb) (hm : behindInMarks op b = false := by first | exact nomark _ | with_unfolding_all rfl) : DT K W X (.Compare a [op] [b] pos) (fB (f2 g fa fb)) :=
  (pt_cmpR ho ha hb hm).imp fun σ H Q h => by
    have q := rd_B h
    exact rd_2 (own := false) q
theorem de_chain {op op' : CmpOp} {g g' : Dat → Dat → M Dat} (ho : Op2 K W false X (compareOp op) g) (ho' : Op2 K W false X (compareOp op') g') (ha : DE K W false X a fa) (hb : DE K W false X b fb) (hc : DE K W false X c fc)
    (hm : lastMarks [op, op'] [b, c] = false := by with_unfolding_all rfl) : DE K W false X (.Compare a [op, op'] [b, c] pos) (fChain g g' fa fb fc) := (pe_chain ho ho' ha hb hc hm).imp fun _ _ _ => rd_chain
theorem dt_chain {op op' : CmpOp} {g g' : Dat → Dat → M Dat} (ho : Op2 K W false X (compareOp op) g) (ho' : Op2 K W false X (compareOp op') g') (ha : DE K W false X a fa) (hb : DE K W false X b fb) (hc : DE K W false X c fc)
    (hm : lastMarks [op, op'] [b, c] = false := by with_unfolding_all rfl) : DT K W X (.Compare a [op, op'] [b, c] pos) (fB (fChain g g' fa fb fc)) := (pt_chain ho ho' ha hb hc hm).imp fun σ H Q h => by
    have q := rd_B h
    exact rd_chain q
theorem dt_tru (ha : DE K W false X a fa) (hK : X.K = K := by rfl) (he : ∀ whole, isTrue a X.env whole = (do let v ← whole; standAt a.pos; holding [v] (truthy v)) := by intro _; rfl) : DT K W X a (fTru fa) := by
  subst hK
  exact (pt_truth ha he).imp fun _ _ _ => rd_tru
theorem dt_not (ha : DT K W X a ft) : DT K W X (.UnaryOp .Not a pos) (fNot ft) := (pt_not ha).imp fun _ _ _ => rd_not
theorem dw_or1 (ha : DT K W X a ft) : DW K W X (.BoolOp .Or [a] pos) ft := pw_or1 ha
theorem dw_or (ha : DT K W X a ft) (hb : DW K W X (.BoolOp .Or (b :: rest) pos) fu) : DW K W X (.BoolOp .Or (a :: b :: rest) pos) (fOr ft fu) := (pw_or ha hb).imp fun _ _ _ => rd_or
theorem de_one {op} (h : DE K W false X a f) : DE K W false X (.BoolOp op [a] pos) f := pe_one h
theorem de_and (ha : DE K W false X a fa) (hb : DE K W false X (.BoolOp .And (b :: rest) pos) fb) : DE K W false X (.BoolOp .And (a :: b :: rest) pos) (fAndV fa fb) := (pe_and ha hb).imp fun _ _ _ => rd_andV
theorem da_nil : DA K W X [] fNil := pa_nil.imp fun _ _ _ => rd_nil
theorem da_cons (ha : DE K W false X e fa) (hr : DA K W X es fr) (hs : starEach (e :: es) X.env = (false, eval e X.env) :: starEach es X.env := by rfl) : DA K W X (e :: es) (fCons fa fr) := (pa_cons ha hr hs).imp fun _ _ _ => rd_cons
theorem de_tup {x1} (h : DA K W X es fr) : DE K W own X (.Tuple es x1 pos) (fL mkTup fr) := (pe_tup h).imp fun _ _ _ => rd_tup
theorem de_lst (h : DA K W X es fr) : DE K W true X (.List es pos) (fL mkLst fr) := (pe_lst h).imp fun _ _ _ => rd_lst
theorem de_callB {id : String} {g : List Dat → M Dat} (hc : CallD K W own X (.builtin id) g) (hm : X.mg x = none) (hv : bootBuiltins x = some (.builtin id)) (ha : DA K W X (e :: es) fr) (hg : Gl X x := by rfl) (hn : x ≠ "__name__" := by decide) (hdb : (x == ("__debug__" : Str)) = false := by decide)
    (hst : starEach (e :: es) X.env = (false, eval e X.env) :: starEach es X.env := by rfl) (hpl : (backTo pos (starEach es X.env)).any (·.1) = false := by rfl) : DE K W own X (.Call (.Name x p) (e :: es) [] pos) (fL g fr) :=
  (pe_callB hc hg hm hv ha hn hdb hst hpl).imp fun _ _ _ => rd_L
theorem de_callTy {T : String} {g : List Dat → M Dat} (hc : CallD K W own X (.type T) g) (hm : X.mg x = none) (hv : bootBuiltins x = some (.type T)) (ha : DA K W X (e :: es) fr) (hg : Gl X x := by rfl) (hn : x ≠ "__name__" := by decide) (hdb : (x == ("__debug__" : Str)) = false := by decide)
    (hst : starEach (e :: es) X.env = (false, eval e X.env) :: starEach es X.env := by rfl) (hpl : (backTo pos (starEach es X.env)).any (·.1) = false := by rfl) : DE K W own X (.Call (.Name x p) (e :: es) [] pos) (fL g fr) :=
  (pe_callTy hc hg hm hv ha hn hdb hst hpl).imp fun _ _ _ => rd_L
theorem de_ix {g : Dat → Dat → M Dat} (hr : IxR X (rD2 K W own g)) (ha : DE K W false X a fa) (hb : DE K W false X b fb) (hs : PlainIx b := by exact fun _ _ => rfl) : DE K W own X (.Subscript a b pos) (f2 g fa fb) := (pe_ix hr ha hb hs).imp fun _ _ _ => rd_2
theorem dg_nm {i : Nat} (hN : X.N.Nodup) (hi : X.N[i]? = some x := by rfl) (hx : Loc X.env.scope x := by first | exact Or.inl rfl | exact Or.inr rfl) (hf : X.fn x = true ∨ X.env.scope.names.lookup x = some .local := by first | exact .inl rfl | exact .inr rfl | assumption) : DG K X (.Name x pos) (.nm i) := pg_name hN hi hx hf
theorem di_seq {tg : Expr} (hl : DE K W false X e fa) (hK : X.K = K := by rfl) : DI K W X tg e (fIt fa) := by
  subst hK
  refine PI.imp (t := iSeq X.K (tD X.K W false fa)) ?_ fun _ _ _ => ri_seq
  intro pins s σ H R I h
  refine thn (hl pins s σ H _ I h) fun v s1 ⟨y, H1, I1, r1, q1⟩ => ?_
  obtain ⟨l, e1, q⟩ := q1
  subst e1
  cases r1
  rcases q with ⟨⟨xs, hq⟩, q⟩ | ⟨⟨xs, hq⟩, q⟩
  · obtain ⟨its, rv, p, hz⟩ := I1.list hq
    refine wpAny_pyIter_list p.isList ?_
    refine ⟨s1.heap.objs.size, [s1.heap.objs.size], _, _, H1, rfl, I1.kept (t' := s1.toks) fun b o e => Heap.get?_push_of_some _ e, turn_list l _, ⟨_, Heap.get?_push_size _ rfl, rfl, rfl⟩, fun b hb => ?_, q⟩
    have e : b = s1.heap.objs.size := by simpa using hb
    subst e
    exact I1.fpOk (Nat.le_refl _) (I1.hok.fresh (Nat.le_refl _))
  · obtain ⟨its, rv, p, hz⟩ := I1.tuple hq
    refine wpAny_pyIter_tuple (show s1.heap.IsTuple l its.toArray from p) ?_
    refine ⟨s1.heap.objs.size, [s1.heap.objs.size], _, _, H1, rfl, I1.kept (t' := s1.toks) fun b o e => Heap.get?_push_of_some _ e, turn_tuple l _, ⟨_, Heap.get?_push_size _ rfl, rfl, rfl⟩, fun b hb => ?_, q⟩
    have e : b = s1.heap.objs.size := by simpa using hb
    subst e
    exact I1.fpOk (Nat.le_refl _) (I1.hok.fresh (Nat.le_refl _))
theorem di_rng1 {tg : Expr} (hm : X.mg "range" = none) (ha : DA K W X [a] fr) (hg : Gl X "range" := by rfl) (hs : starEach [a] X.env = [(false, eval a X.env)] := by rfl) : DI K W X tg (.Call (.Name "range" p) [a] [] pos) (fRng rng1 fr) := (pi_range1 hg hm ha hs).imp fun _ _ _ => ri_rng1
variable {OL O O' O2 : List Nat} {st : Stmt} {sts : List Stmt} {g h : Env' → M Flo}
theorem ds_nil : DSs K W ro X OL O O [] sNext := fun _ _ => pss_nil.imp fun _ _ _ => rs_next
theorem ds_cons (h1 : DS K W ro X OL O O' st g) (h2 : DSs K W ro X OL O' O2 sts h) : DSs K W ro X OL O O2 (st :: sts) (sSeq g h) := fun F0 H0 => (pss_cons (h1 F0 H0) (h2 F0 H0)).imp fun _ _ _ => rs_seq
theorem ds_one (h1 : DS K W ro X OL O O' st g) : DSs K W ro X OL O O' [st] g := fun F0 H0 => pss_one (h1 F0 H0)
theorem ds_enter (h1 : DSs K W ro X OL O2 O' sts g) (hs : ∀ i ∈ O2, i ∈ O := by decide) : DSs K W ro X OL O O' sts g := fun F0 H0 => PSs.imp (h1 F0 H0) fun _ _ _ => tS.enter hs
theorem ds_if {sa sb : List Stmt} (hc : DT K W X c ft) (ha : DSs K W ro X OL O O' sa g) (hb : DSs K W ro X OL O O' sb h) : DS K W ro X OL O O' (.If c sa sb pos) (sIf ft g h) := fun F0 H0 => (ps_if hc (ha F0 H0) (hb F0 H0)).imp fun _ _ _ => rs_if
theorem ds_setB {i : Nat} {pos' : Pos} (hN : X.N.Nodup) (he : DE K W own X e f) (hi : X.N[i]? = some x := by rfl) (hx : Loc X.env.scope x := by first | exact Or.inl rfl | exact Or.inr rfl) (hs : swapsWith e (some (.Name x pos')) pos.line X.env = pure false := by rfl) (hf : X.fn x = true ∨ X.env.scope.names.lookup x = some .local := by first | exact .inl rfl | exact .inr rfl | assumption) :
    DS K W ro X OL O (aft own i O) (.Assign [.Name x pos'] e pos) (sSetB O i f) := fun F0 H0 => (ps_set hN hi hx he hs hf).imp fun _ _ _ => rs_setB
theorem ds_ret (he : DE K W ro X e f) : DS K W ro X OL O O' (.Return (some e) pos) (sRet f) := fun F0 H0 => (ps_ret he).imp fun _ _ _ => rs_ret
theorem ds_for {tg iter : Expr} {body : List Stmt} {fs : Env' → M (List Dat)} {pt : Pat} (hi : DI K W X tg iter fs) (hg : DG K X tg pt) (hb : DSs K W ro X O O O body g) (n : ∀ i ∈ pt.names, i ∉ O := by decide) (hp : PassesOwn (model X.prog X.w) X.A X.env X.xe := by exact PassesOwn.never) (hc : X.calm = true := by rfl)
    (hs : ∀ x, foldedSetIterable iter X.env x = pure x := by intro _; rfl) : DS K W ro X OL O O (.For tg iter body [] pos) (sFor O fs pt g) := fun F0 H0 => (ps_for hp hc hi hg (hb F0 H0) hs).imp fun _ _ _ => rs_for n
theorem ds_appB {i : Nat} {apos : Pos} {q : Pos} (he : DE K W false X e f) (ho : i ∈ O := by decide) (hN : X.N[i]? = some x := by rfl) (hv : Vis X.env.scope x := by first | exact Or.inl rfl | exact Or.inr (Or.inl rfl) | exact Or.inr (Or.inr rfl)) (hd : (x == ("__debug__" : Str)) = false := by decide) (hcd : (x == ("__classdict__" : Str)) = false := by decide) (hK : X.K = K := by rfl)
    (hst : starEach [e] X.env = [(false, eval e X.env)] := by rfl) (hbase : attributeBase (.Name x p) "append" X.env (eval (.Name x p) X.env) = eval (.Name x p) X.env := by rfl) (hfew : ((backTo q (starEach [e] X.env)).all (fun x => !x.1) && (backToKw q (keywordEach [] X.env)).all (fun x => x.1.isSome) && decide ([e].length + ([] : List Keyword).length + (if ([] : List Keyword).isEmpty then 0 else 1) < 30)) = true := by rfl) (hplain : (backTo q (starEach [] X.env)).any (·.1) = false := by rfl) (hline : (apos.endLine == q.line) = true := by rfl) (hsw : swapsWith (.Call (.Attribute (.Name x p) "append" apos) [e] [] q) none pos.line X.env = pure false := by rfl) :
    DS K W ro X OL O O (.Expr (.Call (.Attribute (.Name x p) "append" apos) [e] [] q) pos) (sAppB O i f) := fun F0 H0 => by
  subst hK
  exact PS.imp (ps_expr (pe_bm PySem.F.plainAttrs_list PySem.F.slot_list_append PySem.F.type_list_append mt_append (pv i hN hv hd hcd) (pa_cons he pa_nil hst) hbase hfew hline hst hplain) hsw) fun _ _ _ => rs_appB ho
end
end L2
namespace L2
open PySem PySem.Spec PyProof.Rows
section
variable {X : Cx} {K : PySem.W.Frag} {W : Wish} {own : Bool}
theorem OpR.imp {f : Value → Value → Sem Value} {r r' : R2} (h : OpR X f r) (q : ∀ x y H Q, r' x y H Q → r x y H Q) : OpR X f r' := fun pins s σ H x y v u Q I rx ry z => h pins s σ H x y v u Q I rx ry (q x y H Q z)
theorem UnR.imp {f : Value → Sem Value} {r r' : V → Hp → VK → Prop} (h : UnR X f r) (q : ∀ x H Q, r' x H Q → r x H Q) : UnR X f r' := fun pins s σ H x v Q I rx z => h pins s σ H x v Q I rx (q x H Q z)
theorem CallR.imp {f : Value} {r r' : List V → Hp → VK → Prop} (h : CallR X f r) (q : ∀ x H Q, r' x H Q → r x H Q) : CallR X f r' := fun pins s σ H x v Q I rx z => h pins s σ H x v Q I rx (q x H Q z)
theorem IxR.imp {r r' : R2} (h : IxR X r) (q : ∀ x y H Q, r' x y H Q → r x y H Q) : IxR X r' := fun va sl pins s σ H x y v u Q I rx ry z e => h va sl pins s σ H x y v u Q I rx ry (q x y H Q z) e
theorem Post.stuck {F H : Hp} {Q : VK} {P : Prop} (p : Post K W own F H (stk) Q) : P := (W.ns p).elim
theorem Post.int {F H : Hp} {Q : VK} {i : Int} (p : Post K W own F H (.ok (.int i)) Q) (s : Same F H) : Q (.int i) H := p _ F H (Step.refl s) (by cases own <;> rfl)
theorem Post.bl {F H : Hp} {Q : VK} {b : Bool} (p : Post K W own F H (.ok (.bl b)) Q) (s : Same F H) : Q (.bl b) H := p _ F H (Step.refl s) (by cases own <;> rfl)
theorem Post.str {F H : Hp} {Q : VK} {x : Str} (p : Post K W own F H (.ok (.str x)) Q) (s : Same F H) : Q (.str x) H := p _ F H (Step.refl s) (by cases own <;> rfl)
theorem Post.tup {F H : Hp} {Q : VK} {ds : List Dat} {xs : List V} {a : Addr} (p : Post K W own F H (.ok (.tup ds)) Q) (s : Same F H) (q : Deeps K F ds xs) (ha : H a = none) : Q (.ref a) (upd H a (.tup xs)) :=
  p _ _ _ (Step.lay s ha) (by
    have : Deep K (upd F a (.tup xs)) (.tup ds) (.ref a) := ⟨a, xs, rfl, SqT.of upd_same, q.mono (Same.upd (s.free ha))⟩
    cases own <;> exact this)
theorem Post.same {F H : Hp} {Q : VK} {ds : List Dat} {v : V} (p : Post K W own F H (.ok (.tup ds)) Q) (s : Same F H) (q : Deep K F (.tup ds) v) : Q v H := p _ F H (Step.refl s) (by cases own <;> exact q)
theorem Post.lst {F H : Hp} {Q : VK} {ds : List Dat} {xs : List V} {a : Addr} (p : Post K W true F H (.ok (.lst ds)) Q) (s : Same F H) (q : Deeps K F ds xs) (ha : H a = none) : Q (.ref a) (upd H a (.lst xs)) :=
  p _ F _ (Step.grow s ha) ⟨a, xs, rfl, upd_same, s.free ha, ha, q⟩
theorem two_ints {g : Dat → Dat → M Dat} (hg : ∀ a b, (∃ i j, a = .int i ∧ b = .int j) ∨ g a b = stk) {x y : V} {H : Hp} {Q : VK} (h : rD2 K W own g x y H Q) : ∃ F i j, Same F H ∧ x = .int i ∧ y = .int j ∧ Post K W own F H (g (.int i) (.int j)) Q := by
  obtain ⟨F, a, b, s, qa, qb, p⟩ := h
  rcases hg a b with ⟨i, j, rfl, rfl⟩ | e
  · exact ⟨F, i, j, s, qa, qb, p⟩
  · rw [e] at p; exact p.stuck
theorem o_sub : Op2 K W own X (binaryOp .Sub) subD := op_sub.imp fun x y H Q h => by
  obtain ⟨F, i, j, s, e1, e2, p⟩ := two_ints (fun a b => by cases a <;> cases b <;> first | exact .inr rfl | exact .inl ⟨_, _, rfl, rfl⟩) h
  exact ⟨i, j, e1, e2, p.int s⟩
theorem o_mul : Op2 K W own X (binaryOp .Mult) mulD := op_mul.imp fun x y H Q h => by
  obtain ⟨F, i, j, s, e1, e2, p⟩ := two_ints (fun a b => by cases a <;> cases b <;> first | exact .inr rfl | exact .inl ⟨_, _, rfl, rfl⟩) h
  have p' : Post K W own F H (if (small64 i || small64 j) = true then .ok (.int (i * j)) else stk) Q := p
  by_cases hc : (small64 i || small64 j) = true
  · rw [if_pos hc] at p'
    refine ⟨i, j, e1, e2, ?_, p'.int s⟩
    unfold small64 at hc
    simp only [Bool.or_eq_true, Bool.and_eq_true, decide_eq_true_eq] at hc
    exact hc
  · rw [if_neg hc] at p'; exact p'.stuck
theorem log_small {j : Int} (h0 : 0 < j) (h1 : j < 18446744073709551616) : j.natAbs.log2 < 9000 := by
  have a : j.natAbs < 2 ^ 64 := by omega
  have b := (Nat.log2_lt (n := j.natAbs) (k := 64) (by omega)).mpr a
  omega
theorem op_fdiv64 : OpR X (binaryOp .FloorDiv) (rI (fun _ j => 0 < j ∧ j < 18446744073709551616) fun i j => .int (i / j)) := opI fun i j _ _ _ _ _ hc q => by
  obtain ⟨c1, c2⟩ := hc
  exact floordiv_int (by omega) (by rw [Int.fdiv_eq_ediv_of_nonneg i (by omega)]; exact q) (.inl (PyProof.noPylong_of_log2 (log_small c1 c2)))
theorem o_fdiv : Op2 K W own X (binaryOp .FloorDiv) fdivD := op_fdiv64.imp fun x y H Q h => by
  obtain ⟨F, i, j, s, e1, e2, p⟩ := two_ints (fun a b => by cases a <;> cases b <;> first | exact .inr rfl | exact .inl ⟨_, _, rfl, rfl⟩) h
  have p' : Post K W own F H (if (decide (0 < j) && decide (j < 18446744073709551616)) = true then .ok (.int (i / j)) else stk) Q := p
  by_cases hc : (decide (0 < j) && decide (j < 18446744073709551616)) = true
  · rw [if_pos hc] at p'
    simp only [Bool.and_eq_true, decide_eq_true_eq] at hc
    exact ⟨i, j, e1, e2, hc, p'.int s⟩
  · rw [if_neg hc] at p'; exact p'.stuck
theorem o_mod : Op2 K W own X (binaryOp .Mod) modD := op_mod.imp fun x y H Q h => by
  obtain ⟨F, i, j, s, e1, e2, p⟩ := two_ints (fun a b => by cases a <;> cases b <;> first | exact .inr rfl | exact .inl ⟨_, _, rfl, rfl⟩) h
  have p' : Post K W own F H (if 0 < j then .ok (.int (i % j)) else stk) Q := p
  by_cases hc : 0 < j
  · rw [if_pos hc] at p'
    exact ⟨i, j, e1, e2, hc, p'.int s⟩
  · rw [if_neg hc] at p'; exact p'.stuck
theorem o_pow : Op2 K W own X (binaryOp .Pow) powD := op_pow.imp fun x y H Q h => by
  obtain ⟨F, i, j, s, e1, e2, p⟩ := two_ints (fun a b => by cases a <;> cases b <;> first | exact .inr rfl | exact .inl ⟨_, _, rfl, rfl⟩) h
  have p' : Post K W own F H (if (decide (0 ≤ j) && decide (j ≤ 1000000) && decide (i.natAbs < 2 ^ 64)) = true then .ok (.int (i ^ j.toNat)) else stk) Q := p
  by_cases hc : (decide (0 ≤ j) && decide (j ≤ 1000000) && decide (i.natAbs < 2 ^ 64)) = true
  · rw [if_pos hc] at p'
    simp only [Bool.and_eq_true, decide_eq_true_eq] at hc
    exact ⟨i, j, e1, e2, ⟨hc.1.1, hc.1.2, hc.2⟩, p'.int s⟩
  · rw [if_neg hc] at p'; exact p'.stuck
theorem o_neg : UnR X (unaryOp .USub) (rD1 K W own negD) := un_neg.imp fun x H Q h => by
  obtain ⟨F, a, s, qa, p⟩ := h
  cases a with
  | int i => exact ⟨i, qa, Post.int (own := own) p s⟩
  | _ => exact Post.stuck p
theorem o_lt : Op2 K W own X (compareOp .Lt) ltD := op_lt.imp fun x y H Q h => by
  obtain ⟨F, i, j, s, e1, e2, p⟩ := two_ints (fun a b => by cases a <;> cases b <;> first | exact .inr rfl | exact .inl ⟨_, _, rfl, rfl⟩) h
  exact ⟨i, j, e1, e2, p.bl s⟩
theorem o_le : Op2 K W own X (compareOp .LtE) leD := op_le.imp fun x y H Q h => by
  obtain ⟨F, i, j, s, e1, e2, p⟩ := two_ints (fun a b => by cases a <;> cases b <;> first | exact .inr rfl | exact .inl ⟨_, _, rfl, rfl⟩) h
  exact ⟨i, j, e1, e2, p.bl s⟩
theorem o_gt : Op2 K W own X (compareOp .Gt) gtD := op_gt.imp fun x y H Q h => by
  obtain ⟨F, i, j, s, e1, e2, p⟩ := two_ints (fun a b => by cases a <;> cases b <;> first | exact .inr rfl | exact .inl ⟨_, _, rfl, rfl⟩) h
  exact ⟨i, j, e1, e2, p.bl s⟩
theorem op_catL : OpR X (binaryOp .Add) (fun x y H Q => ∃ l b xs zs, x = .ref l ∧ y = .ref b ∧ SqL X.K H l xs ∧ SqL X.K H b zs ∧ xs.length + zs.length ≤ sizeLine ∧ ∀ p, H p = none → Q (.ref p) (upd H p (.lst (xs ++ zs)))) := by
  intro pins s σ H x y v u Q I rx ry h
  obtain ⟨l, b, xs, zs, rfl, rfl, hH, hB, hz, q⟩ := h
  cases rx
  cases ry
  obtain ⟨its, r, p1, hl⟩ := I.list hH
  obtain ⟨its2, r2, p2, hl2⟩ := I.list hB
  have z1 := r.length
  have z2 := r2.length
  obtain ⟨⟨cls, dd, data, sl⟩, ho, hc, n, hd⟩ := id p1.isList
  obtain ⟨⟨cls2, dd2, data2, sl2⟩, ho2, hc2, n2, hd2⟩ := id p2.isList
  simp only at hc hd hc2 hd2
  subst hc hd hc2 hd2
  refine concat_meets ⟨_, ho, rfl⟩ ⟨_, ho2, rfl⟩ noFill_list_add seq_list_add PySem.F.slot_list_add PySem.F.entry_list_add (PySem.F.args_list_add_2 _ _) (list_addW l b its.toArray its2.toArray n n2 dd dd2 sl sl2 (by simp only [List.size_toArray]; omega)) ⟨ho, ho2, ?_⟩
  have ea : its.toArray ++ its2.toArray = (its ++ its2).toArray := by simp
  rw [ea]
  exact ⟨.ref _, _, I.lnew (t' := s.toks) (r.append r2) (by rw [List.length_append]; omega), rfl, q _ I.fresh⟩
theorem op_cat3 : OpR X (binaryOp .Add) (fun x y H Q => ∃ a b xs ys, x = .ref a ∧ y = .ref b ∧ SqT X.K H a xs ∧ SqT X.K H b ys ∧ xs.length + ys.length ≤ sizeLine ∧ (xs = [] → Q (.ref b) H) ∧ (ys = [] → Q (.ref a) H) ∧ ∀ p, H p = none → Q (.ref p) (upd H p (.tup (xs ++ ys)))) := by
  intro pins s σ H x y v u Q I rx ry h
  obtain ⟨a, b, xs, ys, rfl, rfl, ha, hb, hz, q1, q2, q3⟩ := h
  by_cases hx : xs = []
  · subst hx
    cases rx
    cases ry
    obtain ⟨its, r1, p1, _⟩ := I.tuple ha
    obtain ⟨its2, r2, p2, _⟩ := I.tuple hb
    cases r1
    obtain ⟨⟨cls, dd, data, sl⟩, ho, hc, n, hd⟩ := id p1
    obtain ⟨⟨cls2, dd2, data2, sl2⟩, ho2, hc2, n2, hd2⟩ := id p2
    simp only at hc hd hc2 hd2
    subst hc hd hc2 hd2
    exact concat_meets ⟨_, ho, rfl⟩ ⟨_, ho2, rfl⟩ noFill_tuple_add seq_tuple_add PySem.F.slot_tuple_add PySem.F.entry_tuple_add (PySem.F.args_tuple_add_2 _ _)
      (tuple_addW0 a b #[] its2.toArray n n2 dd dd2 sl sl2 rfl) ⟨ho, ho2, ⟨.ref b, H, I, rfl, q1 rfl⟩⟩
  · exact op_catT pins s σ H _ _ v u Q I rx ry ⟨a, b, xs, ys, rfl, rfl, ha, hb, hx, hz, fun e => q2 e, fun _ p hp => q3 p hp⟩
theorem o_add (hK : X.K = K := by rfl) : Op2 K W true X (binaryOp .Add) addD := by
  subst hK
  refine (op_add.or (op_add_str.or (op_catL.or op_cat3))).imp fun x y H Q h => ?_
  obtain ⟨F, a, b, s, qa, qb, p⟩ := h
  cases a with
  | int i =>
    cases b with
    | int j => exact .inl ⟨i, j, qa, qb, p.int s⟩
    | _ => exact Post.stuck p
  | str z =>
    cases b with
    | str w =>
      have p' : Post X.K W true F H (if z.length + w.length ≤ sizeLine then .ok (.str (z ++ w)) else stk) Q := p
      by_cases hc : z.length + w.length ≤ sizeLine
      · rw [if_pos hc] at p'
        exact .inr (.inl ⟨z, w, qa, qb, hc, p'.str s⟩)
      · rw [if_neg hc] at p'; exact p'.stuck
    | _ => exact Post.stuck p
  | lst ds =>
    cases b with
    | lst es =>
      obtain ⟨a, xs, e1, t1, r1⟩ := qa
      obtain ⟨b, ys, e2, t2, r2⟩ := qb
      have p' : Post X.K W true F H (if ds.length + es.length ≤ sizeLine then .ok (.lst (ds ++ es)) else stk) Q := p
      by_cases hc : ds.length + es.length ≤ sizeLine
      · rw [if_pos hc] at p'
        exact .inr (.inr (.inl ⟨a, b, xs, ys, e1, e2, s.lst t1, s.lst t2, by rw [r1.length, r2.length]; exact hc, fun l hl => p'.lst s (r1.append r2) hl⟩))
      · rw [if_neg hc] at p'; exact p'.stuck
    | _ => exact Post.stuck p
  | tup ds =>
    cases b with
    | tup es =>
      obtain ⟨a, xs, e1, t1, r1⟩ := qa
      obtain ⟨b, ys, e2, t2, r2⟩ := qb
      have p' : Post X.K W true F H (if ds.length + es.length ≤ sizeLine then .ok (.tup (ds ++ es)) else stk) Q := p
      by_cases hc : ds.length + es.length ≤ sizeLine
      · rw [if_pos hc] at p'
        refine .inr (.inr (.inr ⟨a, b, xs, ys, e1, e2, s.tup t1, s.tup t2, by rw [r1.length, r2.length]; exact hc, fun e => ?_, fun e => ?_, fun l hl => p'.tup s (r1.append r2) hl⟩))
        · have z : ds = [] := by have := r1.length; rw [e] at this; exact List.length_eq_zero_iff.mp this.symm
          subst z
          exact p'.same s ⟨b, ys, rfl, t2, r2⟩
        · have z : es = [] := by have := r2.length; rw [e] at this; exact List.length_eq_zero_iff.mp this.symm
          subst z
          rw [List.append_nil] at p'
          exact p'.same s ⟨a, xs, rfl, t1, r1⟩
      · rw [if_neg hc] at p'; exact p'.stuck
    | _ => exact Post.stuck p
  | _ => exact Post.stuck p
theorem getI_at {F H : Hp} {Q : VK} {ds : List Dat} {xs : List V} {i : Int} (p : Post K W false F H (getI ds i) Q) (s : Same F H) (r : Deeps K F ds xs) : ∃ v, atI xs i = some v ∧ Q v H := by
  unfold getI at p
  cases e : atI ds i with
  | none => rw [e] at p; exact Post.stuck p
  | some d =>
    rw [e] at p
    unfold atI at e
    cases hj : ixN ds.length i with
    | none => rw [hj] at e; cases e
    | some j =>
      rw [hj] at e
      obtain ⟨v, e1, q⟩ := r.get (show ds[j]? = some d from e)
      refine ⟨v, ?_, p v F H (Step.refl s) q⟩
      unfold atI
      rw [r.length, hj]
      exact e1
theorem x_ix (hK : X.K = K := by rfl) : IxR X (rD2 K W false ixD) := by
  subst hK
  refine ix_seq.imp fun x y H Q h => ?_
  obtain ⟨F, a, b, s, qa, qb, p⟩ := h
  cases a with
  | lst ds =>
    cases b with
    | int i =>
      obtain ⟨a, xs, e1, t1, r1⟩ := qa
      obtain ⟨v, e2, q⟩ := getI_at p s r1
      exact .inl ⟨a, xs, i, v, e1, qb, s.lst t1, e2, q⟩
    | _ => exact Post.stuck p
  | tup ds =>
    cases b with
    | int i =>
      obtain ⟨a, xs, e1, t1, r1⟩ := qa
      obtain ⟨v, e2, q⟩ := getI_at p s r1
      exact .inr (.inl ⟨a, xs, i, v, e1, qb, s.tup t1, e2, q⟩)
    | _ => exact Post.stuck p
  | _ => exact Post.stuck p
theorem c_len (hK : X.K = K := by rfl) : CallD K W own X (.builtin "len") lenD := by
  subst hK
  refine call_len_seq.imp fun xs H Q h => ?_
  obtain ⟨F, ds, s, q, p⟩ := h
  match ds, q, p with
  | [.lst es], ⟨v, vs, e, ⟨a, ys, e1, t, r⟩, e2⟩, p =>
    refine ⟨a, ys, by rw [e, e1, show vs = [] from e2], .inl (s.lst t), ?_⟩
    rw [r.length]
    exact Post.int (own := own) p s
  | [.tup es], ⟨v, vs, e, ⟨a, ys, e1, t, r⟩, e2⟩, p =>
    refine ⟨a, ys, by rw [e, e1, show vs = [] from e2], .inr (s.tup t), ?_⟩
    rw [r.length]
    exact Post.int (own := own) p s
  | [], _, p => exact Post.stuck p
  | [.non], _, p => exact Post.stuck p
  | [.bl _], _, p => exact Post.stuck p
  | [.int _], _, p => exact Post.stuck p
  | [.str _], _, p => exact Post.stuck p
  | [.ins _ _], _, p => exact Post.stuck p
  | [.dic _], _, p => exact Post.stuck p
  | .non :: _ :: _, _, p => exact Post.stuck p
  | .bl _ :: _ :: _, _, p => exact Post.stuck p
  | .int _ :: _ :: _, _, p => exact Post.stuck p
  | .str _ :: _ :: _, _, p => exact Post.stuck p
  | .ins _ _ :: _ :: _, _, p => exact Post.stuck p
  | .dic _ :: _ :: _, _, p => exact Post.stuck p
  | .lst _ :: _ :: _, _, p => exact Post.stuck p
  | .tup _ :: _ :: _, _, p => exact Post.stuck p
end
end L2
namespace L2
open PySem PySem.Spec PyProof.Rows
section
variable {X : Cx} {K : PySem.W.Frag} {W : Wish} {own ro : Bool}
theorem one_arg {g : List Dat → M Dat} (hg : ∀ ds, (∃ d, ds = [d]) ∨ g ds = stk) {xs : List V} {H : Hp} {Q : VK} (h : rDL K W own g xs H Q) : ∃ F d x, Same F H ∧ xs = [x] ∧ Deep K F d x ∧ Post K W own F H (g [d]) Q := by
  obtain ⟨F, ds, s, q, p⟩ := h
  rcases hg ds with ⟨d, rfl⟩ | e
  · obtain ⟨v, vs, e, q1, e2⟩ := q
    exact ⟨F, d, v, s, by rw [e, show vs = [] from e2], q1, p⟩
  · rw [e] at p; exact p.stuck
theorem bools_deep {F : Hp} : ∀ {ds : List Dat} {xs : List V} {bs : List Bool}, Deeps K F ds xs → boolsD ds = .ok bs → xs = bs.map V.bl
  | [], _, _, q, e => by cases e; exact q
  | d :: ds, _, bs, ⟨v, vs, e1, q, r⟩, e => by
    cases d with
    | bl b =>
      cases e2 : boolsD ds with
      | error x => simp only [boolsD, asB, bind_ok, e2, bind_er] at e; cases e
      | ok cs =>
        simp only [boolsD, asB, bind_ok, e2] at e
        cases e
        rw [e1, show v = .bl b from q, bools_deep r e2]
        rfl
    | _ => cases e
theorem boolsD_err : ∀ {ds : List Dat} {e : Err}, boolsD ds = .error e → e = .stuck
  | [], _, h => by cases h
  | d :: ds, e, h => by
    cases d with
    | bl b =>
      cases e2 : boolsD ds with
      | error x => simp only [boolsD, asB, bind_ok, e2, bind_er] at h; cases h; exact boolsD_err e2
      | ok cs => simp only [boolsD, asB, bind_ok, e2] at h; cases h
    | _ => cases h; rfl
theorem c_all (hc : X.calm = true) (hK : X.K = K := by rfl) : CallD K W own X (.builtin "all") allD := by
  subst hK
  refine (call_all hc).imp fun xs H Q h => ?_
  obtain ⟨F, d, x, s, e, q, p⟩ := one_arg (fun ds => by match ds with | [d] => exact .inl ⟨d, rfl⟩ | [] => exact .inr rfl | a :: b :: c => exact .inr (by cases a <;> rfl)) h
  cases d with
  | lst ds =>
    obtain ⟨a, ys, e1, t, r⟩ := q
    have p' : Post X.K W own F H ((boolsD ds).bind fun bs => .ok (.bl (bs.all id))) Q := p
    cases eb : boolsD ds with
    | error z => rw [eb] at p'; have := boolsD_err eb; subst this; exact Post.stuck p'
    | ok bs =>
      rw [eb] at p'
      refine ⟨a, bs, by rw [e, e1], ?_, Post.bl (own := own) p' s⟩
      rw [← bools_deep r eb]
      exact s.lst t
  | _ => exact Post.stuck p
theorem c_list (hK : X.K = K := by rfl) : CallD K W true X (.type "list") listD := by
  subst hK
  refine call_list_of.imp fun xs H Q h => ?_
  obtain ⟨F, d, x, s, e, q, p⟩ := one_arg (fun ds => by match ds with | [d] => exact .inl ⟨d, rfl⟩ | [] => exact .inr rfl | a :: b :: c => exact .inr (by cases a <;> rfl)) h
  cases d with
  | lst ds =>
    obtain ⟨a, ys, e1, t, r⟩ := q
    exact ⟨a, ys, by rw [e, e1], .inl (s.lst t), fun l hl => Post.lst p s r hl⟩
  | tup ds =>
    obtain ⟨a, ys, e1, t, r⟩ := q
    exact ⟨a, ys, by rw [e, e1], .inr (s.tup t), fun l hl => Post.lst p s r hl⟩
  | _ => exact Post.stuck p
end
section
variable {X : Cx} {K : PySem.W.Frag} {W : Wish} {own ro : Bool}
theorem SqL.inj {pins : List (Addr × Obj)} {σ : St} {H : Hp} {s : Shared} {a : Addr} {xs ys : List V} (I : Inv X pins σ H s) (h : SqL X.K H a xs) (h' : SqL X.K H a ys) : xs = ys := by
  obtain ⟨i1, r1, p1, _⟩ := I.list h
  obtain ⟨i2, r2, p2, _⟩ := I.list h'
  obtain ⟨o, n, e, _, _, d⟩ := p1
  obtain ⟨o', n', e', _, _, d'⟩ := p2
  rw [e] at e'
  cases e'
  rw [d] at d'
  injection d' with d1 _
  have : i1 = i2 := by simpa using congrArg Array.toList d1
  subst this
  exact r1.inj r2
theorem SqT.inj {pins : List (Addr × Obj)} {σ : St} {H : Hp} {s : Shared} {a : Addr} {xs ys : List V} (I : Inv X pins σ H s) (h : SqT X.K H a xs) (h' : SqT X.K H a ys) : xs = ys := by
  obtain ⟨i1, r1, p1, _⟩ := I.tuple h
  obtain ⟨i2, r2, p2, _⟩ := I.tuple h'
  obtain ⟨o, e, _, n, d⟩ := p1
  obtain ⟨o', e', _, n', d'⟩ := p2
  rw [e] at e'
  cases e'
  rw [d] at d'
  injection d' with d1 _
  have : i1 = i2 := by simpa using congrArg Array.toList d1
  subst this
  exact r1.inj r2
theorem Deeps.all_eq {F : Hp} (e : Nat → Bool) : ∀ {ds es : List Dat}, ds.length = es.length → (∀ (j : Nat) a b, ds[j]? = some a → es[j]? = some b → e j = eqD a b) → (List.range ds.length).all e = eqDs ds es := by
  intro ds
  induction ds generalizing e with
  | nil => intro es h _; cases es with
    | nil => rfl
    | cons _ _ => simp at h
  | cons d ds ih =>
    intro es h q
    cases es with
    | nil => simp at h
    | cons b es =>
      rw [List.length_cons, List.range_succ_eq_map, List.all_cons, List.all_map, eqDs]
      rw [q 0 d b rfl rfl]
      congr 1
      exact ih (e ∘ Nat.succ) (by simpa using h) fun j x y hx hy => q (j + 1) x y (by simpa using hx) (by simpa using hy)
theorem eqDs_len : ∀ {ds es : List Dat}, ds.length ≠ es.length → eqDs ds es = false
  | [], [], h => absurd rfl h
  | [], _ :: _, _ => rfl
  | _ :: _, [], _ => rfl
  | d :: ds, e :: es, h => by
    rw [eqDs, eqDs_len (ds := ds) (es := es) (fun z => h (by simp [z])), Bool.and_false]
theorem eqDs_zip (e : Nat → Bool) : ∀ {ds es : List Dat}, (∀ (j : Nat) a b, ds[j]? = some a → es[j]? = some b → e j = eqD a b) → ((List.range (min ds.length es.length)).all e && ds.length == es.length) = eqDs ds es := by
  intro ds es q
  by_cases hl : ds.length = es.length
  · have e1 : min ds.length es.length = ds.length := by omega
    rw [e1, Deeps.all_eq (F := fun _ => none) e hl q, hl, beq_self_eq_true, Bool.and_true]
  · rw [eqDs_len hl]
    have : (ds.length == es.length) = false := by simpa using hl
    rw [this, Bool.and_false]
mutual
theorem eqD_refl : ∀ {d : Dat} {n : Nat}, okE d n = true → eqD d d = true
  | .non, _, _ => rfl
  | .bl b, _, _ => by simp [eqD]
  | .int i, _, _ => by simp [eqD]
  | .str x, _, _ => by simp [eqD]
  | .tup ds, 0, h => by simp [okE] at h
  | .tup ds, n + 1, h => by simp only [okE] at h; simp only [eqD]; exact eqDs_refl h
  | .lst ds, 0, h => by simp [okE] at h
  | .lst ds, n + 1, h => by simp only [okE] at h; simp only [eqD]; exact eqDs_refl h
  | .ins _ _, _, h => by simp [okE] at h
  | .dic _, _, h => by simp [okE] at h
theorem eqDs_refl : ∀ {ds : List Dat} {n : Nat}, okEs ds n = true → eqDs ds ds = true
  | [], _, _ => rfl
  | d :: ds, n, h => by
    simp only [okEs, Bool.and_eq_true] at h
    simp only [eqDs, eqD_refl h.1, eqDs_refl h.2, Bool.and_self]
end
theorem okEs_get : ∀ {ds : List Dat} {n i : Nat} {d : Dat}, okEs ds n = true → ds[i]? = some d → okE d n = true
  | [], _, _, _, _, h => by simp at h
  | _ :: _, _, 0, _, h, e => by
    simp only [okEs, Bool.and_eq_true] at h
    simp at e
    rw [← e]; exact h.1
  | _ :: _, _, i + 1, _, h, e => by
    simp only [okEs, Bool.and_eq_true] at h
    exact okEs_get h.2 (by simpa using e)
end
noncomputable def eqAtJ (ds es : List Dat) (j : Nat) : Bool := match ds[j]?, es[j]? with
  | some a, some b => eqD a b
  | _, _ => true
section
variable {X : Cx}
mutual
theorem deep_inj {pins : List (Addr × Obj)} {σ : St} {F H : Hp} {s : Shared} (I : Inv X pins σ H s) (hF : Same F H) : ∀ (d e : Dat) {v : V} {n : Nat}, Deep X.K F d v → Deep X.K F e v → okE d n = true → okE e n = true → d = e
  | .non, .non, v, n, q, r, o1, o2 => by
      rfl
  | .non, .bl b, v, n, q, r, o1, o2 => by
      have e1 : v = .non := q
      have e2 : v = .bl b := r
      rw [e1] at e2
      cases e2
  | .non, .int b, v, n, q, r, o1, o2 => by
      have e1 : v = .non := q
      have e2 : v = .int b := r
      rw [e1] at e2
      cases e2
  | .non, .str b, v, n, q, r, o1, o2 => by
      have e1 : v = .non := q
      have e2 : v = .str b := r
      rw [e1] at e2
      cases e2
  | .non, .tup es, v, n, q, r, o1, o2 => by
      have e1 : v = .non := q
      obtain ⟨l, xs, e2, _⟩ := r
      rw [e1] at e2
      cases e2
  | .non, .lst es, v, n, q, r, o1, o2 => by
      have e1 : v = .non := q
      obtain ⟨l, xs, e2, _⟩ := r
      rw [e1] at e2
      cases e2
  | .bl a, .non, v, n, q, r, o1, o2 => by
      have e1 : v = .bl a := q
      have e2 : v = .non := r
      rw [e1] at e2
      cases e2
  | .bl a, .bl b, v, n, q, r, o1, o2 => by
      have e1 : v = .bl a := q
      have e2 : v = .bl b := r
      rw [e1] at e2
      cases e2
      rfl
  | .bl a, .int b, v, n, q, r, o1, o2 => by
      have e1 : v = .bl a := q
      have e2 : v = .int b := r
      rw [e1] at e2
      cases e2
  | .bl a, .str b, v, n, q, r, o1, o2 => by
      have e1 : v = .bl a := q
      have e2 : v = .str b := r
      rw [e1] at e2
      cases e2
  | .bl a, .tup es, v, n, q, r, o1, o2 => by
      have e1 : v = .bl a := q
      obtain ⟨l, xs, e2, _⟩ := r
      rw [e1] at e2
      cases e2
  | .bl a, .lst es, v, n, q, r, o1, o2 => by
      have e1 : v = .bl a := q
      obtain ⟨l, xs, e2, _⟩ := r
      rw [e1] at e2
      cases e2
  | .int a, .non, v, n, q, r, o1, o2 => by
      have e1 : v = .int a := q
      have e2 : v = .non := r
      rw [e1] at e2
      cases e2
  | .int a, .bl b, v, n, q, r, o1, o2 => by
      have e1 : v = .int a := q
      have e2 : v = .bl b := r
      rw [e1] at e2
      cases e2
  | .int a, .int b, v, n, q, r, o1, o2 => by
      have e1 : v = .int a := q
      have e2 : v = .int b := r
      rw [e1] at e2
      cases e2
      rfl
  | .int a, .str b, v, n, q, r, o1, o2 => by
      have e1 : v = .int a := q
      have e2 : v = .str b := r
      rw [e1] at e2
      cases e2
  | .int a, .tup es, v, n, q, r, o1, o2 => by
      have e1 : v = .int a := q
      obtain ⟨l, xs, e2, _⟩ := r
      rw [e1] at e2
      cases e2
  | .int a, .lst es, v, n, q, r, o1, o2 => by
      have e1 : v = .int a := q
      obtain ⟨l, xs, e2, _⟩ := r
      rw [e1] at e2
      cases e2
  | .str a, .non, v, n, q, r, o1, o2 => by
      have e1 : v = .str a := q
      have e2 : v = .non := r
      rw [e1] at e2
      cases e2
  | .str a, .bl b, v, n, q, r, o1, o2 => by
      have e1 : v = .str a := q
      have e2 : v = .bl b := r
      rw [e1] at e2
      cases e2
  | .str a, .int b, v, n, q, r, o1, o2 => by
      have e1 : v = .str a := q
      have e2 : v = .int b := r
      rw [e1] at e2
      cases e2
  | .str a, .str b, v, n, q, r, o1, o2 => by
      have e1 : v = .str a := q
      have e2 : v = .str b := r
      rw [e1] at e2
      cases e2
      rfl
  | .str a, .tup es, v, n, q, r, o1, o2 => by
      have e1 : v = .str a := q
      obtain ⟨l, xs, e2, _⟩ := r
      rw [e1] at e2
      cases e2
  | .str a, .lst es, v, n, q, r, o1, o2 => by
      have e1 : v = .str a := q
      obtain ⟨l, xs, e2, _⟩ := r
      rw [e1] at e2
      cases e2
  | .tup ds, .non, v, n, q, r, o1, o2 => by
      have e1 : v = .non := r
      obtain ⟨l, xs, e2, _⟩ := q
      rw [e1] at e2
      cases e2
  | .tup ds, .bl b, v, n, q, r, o1, o2 => by
      have e1 : v = .bl b := r
      obtain ⟨l, xs, e2, _⟩ := q
      rw [e1] at e2
      cases e2
  | .tup ds, .int b, v, n, q, r, o1, o2 => by
      have e1 : v = .int b := r
      obtain ⟨l, xs, e2, _⟩ := q
      rw [e1] at e2
      cases e2
  | .tup ds, .str b, v, n, q, r, o1, o2 => by
      have e1 : v = .str b := r
      obtain ⟨l, xs, e2, _⟩ := q
      rw [e1] at e2
      cases e2
  | .tup ds, .tup es, v, n, q, r, o1, o2 => by
      obtain ⟨l, xs, e1, h1, r1⟩ := q
      obtain ⟨l2, ys, e2, h2, r2⟩ := r
      rw [e1] at e2
      cases e2
      have e3 := SqT.inj I (hF.tup h1) (hF.tup h2)
      subst e3
      cases n with
      | zero => exact absurd o1 (by simp [okE])
      | succ n => rw [deeps_inj I hF ds es r1 r2 (by simpa only [okE] using o1) (by simpa only [okE] using o2)]
  | .tup ds, .lst es, v, n, q, r, o1, o2 => by
      obtain ⟨l, xs, e1, h1, r1⟩ := q
      obtain ⟨l2, ys, e2, h2, r2⟩ := r
      rw [e1] at e2
      cases e2
      obtain ⟨i1, _, p1, _⟩ := I.list (hF.lst h2)
      obtain ⟨i2, _, p2, _⟩ := I.tuple (hF.tup h1)
      exact absurd rfl (SeqAt.ne_of_list_tuple p1.isList (show s.heap.IsTuple l i2.toArray from p2))
  | .lst ds, .non, v, n, q, r, o1, o2 => by
      have e1 : v = .non := r
      obtain ⟨l, xs, e2, _⟩ := q
      rw [e1] at e2
      cases e2
  | .lst ds, .bl b, v, n, q, r, o1, o2 => by
      have e1 : v = .bl b := r
      obtain ⟨l, xs, e2, _⟩ := q
      rw [e1] at e2
      cases e2
  | .lst ds, .int b, v, n, q, r, o1, o2 => by
      have e1 : v = .int b := r
      obtain ⟨l, xs, e2, _⟩ := q
      rw [e1] at e2
      cases e2
  | .lst ds, .str b, v, n, q, r, o1, o2 => by
      have e1 : v = .str b := r
      obtain ⟨l, xs, e2, _⟩ := q
      rw [e1] at e2
      cases e2
  | .lst ds, .tup es, v, n, q, r, o1, o2 => by
      obtain ⟨l, xs, e1, h1, r1⟩ := q
      obtain ⟨l2, ys, e2, h2, r2⟩ := r
      rw [e1] at e2
      cases e2
      obtain ⟨i1, _, p1, _⟩ := I.list (hF.lst h1)
      obtain ⟨i2, _, p2, _⟩ := I.tuple (hF.tup h2)
      exact absurd rfl (SeqAt.ne_of_list_tuple p1.isList (show s.heap.IsTuple l i2.toArray from p2))
  | .lst ds, .lst es, v, n, q, r, o1, o2 => by
      obtain ⟨l, xs, e1, h1, r1⟩ := q
      obtain ⟨l2, ys, e2, h2, r2⟩ := r
      rw [e1] at e2
      cases e2
      have e3 := SqL.inj I (hF.lst h1) (hF.lst h2)
      subst e3
      cases n with
      | zero => exact absurd o1 (by simp [okE])
      | succ n => rw [deeps_inj I hF ds es r1 r2 (by simpa only [okE] using o1) (by simpa only [okE] using o2)]
  | .ins _ _, _, _, _, _, _, o1, _ => by simp [okE] at o1
  | .dic _, _, _, _, _, _, o1, _ => by simp [okE] at o1
  | _, .ins _ _, _, _, _, _, _, o2 => by simp [okE] at o2
  | _, .dic _, _, _, _, _, _, o2 => by simp [okE] at o2
theorem deeps_inj {pins : List (Addr × Obj)} {σ : St} {F H : Hp} {s : Shared} (I : Inv X pins σ H s) (hF : Same F H) : ∀ (ds es : List Dat) {xs : List V} {n : Nat}, Deeps X.K F ds xs → Deeps X.K F es xs → okEs ds n = true → okEs es n = true → ds = es
  | [], [], _, _, _, _, _, _ => rfl
  | [], _ :: _, _, _, q, ⟨_, _, e, _⟩, _, _ => by rw [show _ = [] from q] at e; cases e
  | _ :: _, [], _, _, ⟨_, _, e, _⟩, q, _, _ => by rw [show _ = [] from q] at e; cases e
  | d :: ds, e :: es, _, n, ⟨v, vs, e1, q1, r1⟩, ⟨w, ws, e2, q2, r2⟩, o1, o2 => by
    rw [e1] at e2
    cases e2
    simp only [okEs, Bool.and_eq_true] at o1 o2
    rw [deep_inj I hF d e q1 q2 o1.1 o2.1, deeps_inj I hF ds es r1 r2 o1.2 o2.2]
end
end
section
variable {X : Cx} {K : PySem.W.Frag} {W : Wish} {own ro : Bool}
mutual
theorem eqAt_D {pins : List (Addr × Obj)} {σ : St} {F H : Hp} {s : Shared} (I : Inv X pins σ H s) (hF : Same F H) : ∀ (a b : Dat) {n : Nat} {x y : V} {u v : Value} {A : Around}, okE a n = true → okE b n = true → Deep X.K F a x → Deep X.K F b y → RelV x u → RelV y v → A.units + n < cLine → SeqAt.EqAt A s u v (eqD a b)
  | .non, .non, n, x, y, u, v, A, oa, ob, qa, qb, ra, rb, hu => by
      cases (show x = .non from qa)
      cases ra
      cases (show y = .non from qb)
      cases rb
      exact SeqAt.EqAt.same _
  | .non, .bl b, n, x, y, u, v, A, oa, ob, qa, qb, ra, rb, hu => by
      cases (show x = .non from qa)
      cases ra
      cases (show y = .bl b from qb)
      cases rb
      exact SeqAt.EqAt.none_bool b
  | .non, .int b, n, x, y, u, v, A, oa, ob, qa, qb, ra, rb, hu => by
      cases (show x = .non from qa)
      cases ra
      cases (show y = .int b from qb)
      obtain ⟨t2, rfl⟩ := rb
      exact SeqAt.EqAt.none_int b t2
  | .non, .str b, n, x, y, u, v, A, oa, ob, qa, qb, ra, rb, hu => by
      cases (show x = .non from qa)
      cases ra
      cases (show y = .str b from qb)
      obtain ⟨t2, rfl⟩ := rb
      exact SeqAt.EqAt.none_str b t2
  | .non, .tup es, n, x, y, u, v, A, oa, ob, qa, qb, ra, rb, hu => by
      cases (show x = .non from qa)
      cases ra
      obtain ⟨l2, ys, e2, h2, r2⟩ := qb
      subst e2
      cases rb
      obtain ⟨js, w2, p2, _⟩ := I.tuple (hF.tup h2)
      exact SeqAt.EqAt.none_tuple (show s.heap.IsTuple l2 js.toArray from p2) (by omega)
  | .non, .lst es, n, x, y, u, v, A, oa, ob, qa, qb, ra, rb, hu => by
      cases (show x = .non from qa)
      cases ra
      obtain ⟨l2, ys, e2, h2, r2⟩ := qb
      subst e2
      cases rb
      obtain ⟨js, w2, p2, _⟩ := I.list (hF.lst h2)
      exact SeqAt.EqAt.none_list p2.isList (by omega)
  | .bl a, .non, n, x, y, u, v, A, oa, ob, qa, qb, ra, rb, hu => by
      cases (show x = .bl a from qa)
      cases ra
      cases (show y = .non from qb)
      cases rb
      exact SeqAt.EqAt.bool_none a
  | .bl a, .bl b, n, x, y, u, v, A, oa, ob, qa, qb, ra, rb, hu => by
      cases (show x = .bl a from qa)
      cases ra
      cases (show y = .bl b from qb)
      cases rb
      exact SeqAt.EqAt.bool_bool a b
  | .bl a, .int b, n, x, y, u, v, A, oa, ob, qa, qb, ra, rb, hu => by
      cases (show x = .bl a from qa)
      cases ra
      cases (show y = .int b from qb)
      obtain ⟨t2, rfl⟩ := rb
      exact SeqAt.EqAt.bool_int a b t2
  | .bl a, .str b, n, x, y, u, v, A, oa, ob, qa, qb, ra, rb, hu => by
      cases (show x = .bl a from qa)
      cases ra
      cases (show y = .str b from qb)
      obtain ⟨t2, rfl⟩ := rb
      exact SeqAt.EqAt.bool_str a b t2
  | .bl a, .tup es, n, x, y, u, v, A, oa, ob, qa, qb, ra, rb, hu => by
      cases (show x = .bl a from qa)
      cases ra
      obtain ⟨l2, ys, e2, h2, r2⟩ := qb
      subst e2
      cases rb
      obtain ⟨js, w2, p2, _⟩ := I.tuple (hF.tup h2)
      exact SeqAt.EqAt.bool_tuple a (show s.heap.IsTuple l2 js.toArray from p2) (by omega)
  | .bl a, .lst es, n, x, y, u, v, A, oa, ob, qa, qb, ra, rb, hu => by
      cases (show x = .bl a from qa)
      cases ra
      obtain ⟨l2, ys, e2, h2, r2⟩ := qb
      subst e2
      cases rb
      obtain ⟨js, w2, p2, _⟩ := I.list (hF.lst h2)
      exact SeqAt.EqAt.bool_list a p2.isList (by omega)
  | .int a, .non, n, x, y, u, v, A, oa, ob, qa, qb, ra, rb, hu => by
      cases (show x = .int a from qa)
      obtain ⟨t1, rfl⟩ := ra
      cases (show y = .non from qb)
      cases rb
      exact SeqAt.EqAt.int_none a t1
  | .int a, .bl b, n, x, y, u, v, A, oa, ob, qa, qb, ra, rb, hu => by
      cases (show x = .int a from qa)
      obtain ⟨t1, rfl⟩ := ra
      cases (show y = .bl b from qb)
      cases rb
      exact SeqAt.EqAt.int_bool a t1 b
  | .int a, .int b, n, x, y, u, v, A, oa, ob, qa, qb, ra, rb, hu => by
      cases (show x = .int a from qa)
      obtain ⟨t1, rfl⟩ := ra
      cases (show y = .int b from qb)
      obtain ⟨t2, rfl⟩ := rb
      exact SeqAt.EqAt.int_int a t1 b t2
  | .int a, .str b, n, x, y, u, v, A, oa, ob, qa, qb, ra, rb, hu => by
      cases (show x = .int a from qa)
      obtain ⟨t1, rfl⟩ := ra
      cases (show y = .str b from qb)
      obtain ⟨t2, rfl⟩ := rb
      exact SeqAt.EqAt.int_str a t1 b t2
  | .int a, .tup es, n, x, y, u, v, A, oa, ob, qa, qb, ra, rb, hu => by
      cases (show x = .int a from qa)
      obtain ⟨t1, rfl⟩ := ra
      obtain ⟨l2, ys, e2, h2, r2⟩ := qb
      subst e2
      cases rb
      obtain ⟨js, w2, p2, _⟩ := I.tuple (hF.tup h2)
      exact SeqAt.EqAt.int_tuple a t1 (show s.heap.IsTuple l2 js.toArray from p2) (by omega)
  | .int a, .lst es, n, x, y, u, v, A, oa, ob, qa, qb, ra, rb, hu => by
      cases (show x = .int a from qa)
      obtain ⟨t1, rfl⟩ := ra
      obtain ⟨l2, ys, e2, h2, r2⟩ := qb
      subst e2
      cases rb
      obtain ⟨js, w2, p2, _⟩ := I.list (hF.lst h2)
      exact SeqAt.EqAt.int_list a t1 p2.isList (by omega)
  | .str a, .non, n, x, y, u, v, A, oa, ob, qa, qb, ra, rb, hu => by
      cases (show x = .str a from qa)
      obtain ⟨t1, rfl⟩ := ra
      cases (show y = .non from qb)
      cases rb
      exact SeqAt.EqAt.str_none a t1
  | .str a, .bl b, n, x, y, u, v, A, oa, ob, qa, qb, ra, rb, hu => by
      cases (show x = .str a from qa)
      obtain ⟨t1, rfl⟩ := ra
      cases (show y = .bl b from qb)
      cases rb
      exact SeqAt.EqAt.str_bool a t1 b
  | .str a, .int b, n, x, y, u, v, A, oa, ob, qa, qb, ra, rb, hu => by
      cases (show x = .str a from qa)
      obtain ⟨t1, rfl⟩ := ra
      cases (show y = .int b from qb)
      obtain ⟨t2, rfl⟩ := rb
      exact SeqAt.EqAt.str_int a t1 b t2
  | .str a, .str b, n, x, y, u, v, A, oa, ob, qa, qb, ra, rb, hu => by
      cases (show x = .str a from qa)
      obtain ⟨t1, rfl⟩ := ra
      cases (show y = .str b from qb)
      obtain ⟨t2, rfl⟩ := rb
      exact SeqAt.EqAt.str_str a t1 b t2
  | .str a, .tup es, n, x, y, u, v, A, oa, ob, qa, qb, ra, rb, hu => by
      cases (show x = .str a from qa)
      obtain ⟨t1, rfl⟩ := ra
      obtain ⟨l2, ys, e2, h2, r2⟩ := qb
      subst e2
      cases rb
      obtain ⟨js, w2, p2, _⟩ := I.tuple (hF.tup h2)
      exact SeqAt.EqAt.str_tuple a t1 (show s.heap.IsTuple l2 js.toArray from p2) (by omega)
  | .str a, .lst es, n, x, y, u, v, A, oa, ob, qa, qb, ra, rb, hu => by
      cases (show x = .str a from qa)
      obtain ⟨t1, rfl⟩ := ra
      obtain ⟨l2, ys, e2, h2, r2⟩ := qb
      subst e2
      cases rb
      obtain ⟨js, w2, p2, _⟩ := I.list (hF.lst h2)
      exact SeqAt.EqAt.str_list a t1 p2.isList (by omega)
  | .tup ds, .non, n, x, y, u, v, A, oa, ob, qa, qb, ra, rb, hu => by
      obtain ⟨l1, xs, e1, h1, r1⟩ := qa
      subst e1
      cases ra
      obtain ⟨is, w1, p1, _⟩ := I.tuple (hF.tup h1)
      cases (show y = .non from qb)
      cases rb
      exact SeqAt.EqAt.tuple_none (show s.heap.IsTuple l1 is.toArray from p1) (by omega)
  | .tup ds, .bl b, n, x, y, u, v, A, oa, ob, qa, qb, ra, rb, hu => by
      obtain ⟨l1, xs, e1, h1, r1⟩ := qa
      subst e1
      cases ra
      obtain ⟨is, w1, p1, _⟩ := I.tuple (hF.tup h1)
      cases (show y = .bl b from qb)
      cases rb
      exact SeqAt.EqAt.tuple_bool b (show s.heap.IsTuple l1 is.toArray from p1) (by omega)
  | .tup ds, .int b, n, x, y, u, v, A, oa, ob, qa, qb, ra, rb, hu => by
      obtain ⟨l1, xs, e1, h1, r1⟩ := qa
      subst e1
      cases ra
      obtain ⟨is, w1, p1, _⟩ := I.tuple (hF.tup h1)
      cases (show y = .int b from qb)
      obtain ⟨t2, rfl⟩ := rb
      exact SeqAt.EqAt.tuple_int b t2 (show s.heap.IsTuple l1 is.toArray from p1) (by omega)
  | .tup ds, .str b, n, x, y, u, v, A, oa, ob, qa, qb, ra, rb, hu => by
      obtain ⟨l1, xs, e1, h1, r1⟩ := qa
      subst e1
      cases ra
      obtain ⟨is, w1, p1, _⟩ := I.tuple (hF.tup h1)
      cases (show y = .str b from qb)
      obtain ⟨t2, rfl⟩ := rb
      exact SeqAt.EqAt.tuple_str b t2 (show s.heap.IsTuple l1 is.toArray from p1) (by omega)
  | .tup ds, .tup es, n, x, y, u, v, A, oa, ob, qa, qb, ra, rb, hu => by
      obtain ⟨l1, xs, e1, h1, r1⟩ := qa
      subst e1
      cases ra
      obtain ⟨is, w1, p1, _⟩ := I.tuple (hF.tup h1)
      obtain ⟨l2, ys, e2, h2, r2⟩ := qb
      subst e2
      cases rb
      obtain ⟨js, w2, p2, _⟩ := I.tuple (hF.tup h2)
      have z1 := w1.length
      have z2 := w2.length
      have y1 := r1.length
      have y2 := r2.length
      cases n with
      | zero => exact absurd oa (by simp [okE])
      | succ n =>
        have oa' : okEs ds n = true := by simpa only [okE] using oa
        have ob' : okEs es n = true := by simpa only [okE] using ob
        by_cases hab : l1 = l2
        · subst hab
          have e3 := SqT.inj I (hF.tup h1) (hF.tup h2)
          subst e3
          have e4 : ds = es := deeps_inj I hF ds es r1 r2 oa' ob'
          subst e4
          rw [eqD_refl (n := n + 1) oa]
          exact SeqAt.EqAt.same _
        · have q := SeqAt.RcAt.tuples (A := A) (e := eqAtJ ds es) (show s.heap.IsTuple l1 is.toArray from p1) (show s.heap.IsTuple l2 js.toArray from p2) (by omega) (fun j h1 h2 => by
            obtain ⟨x', f1, g1⟩ := w1.atA h1
            obtain ⟨y', f2, g2⟩ := w2.atA h2
            obtain ⟨d1, k1, m1⟩ := r1.at f1
            obtain ⟨d2, k2, m2⟩ := r2.at f2
            have q := eqsAt_D I hF ds j d1 k1 d2 (n := n) (A := A.in1) (okEs_get oa' k1) (okEs_get ob' k2) m1 m2 g1 g2 (by show A.units + 1 + n < cLine; omega)
            have e5 : eqAtJ ds es j = eqD d1 d2 := by simp only [eqAtJ, k1, k2]
            rw [e5]
            exact q
            )
          have ez : is.toArray.size = ds.length := by simp; omega
          have ez2 : js.toArray.size = es.length := by simp; omega
          rw [ez, ez2, eqDs_zip _ (fun j a b h1 h2 => by simp only [eqAtJ, h1, h2])] at q
          exact SeqAt.EqAt.of_refs hab q
  | .tup ds, .lst es, n, x, y, u, v, A, oa, ob, qa, qb, ra, rb, hu => by
      obtain ⟨l1, xs, e1, h1, r1⟩ := qa
      subst e1
      cases ra
      obtain ⟨is, w1, p1, _⟩ := I.tuple (hF.tup h1)
      obtain ⟨l2, ys, e2, h2, r2⟩ := qb
      subst e2
      cases rb
      obtain ⟨js, w2, p2, _⟩ := I.list (hF.lst h2)
      exact SeqAt.EqAt.tuple_list (show s.heap.IsTuple l1 is.toArray from p1) p2.isList (by omega)
  | .lst ds, .non, n, x, y, u, v, A, oa, ob, qa, qb, ra, rb, hu => by
      obtain ⟨l1, xs, e1, h1, r1⟩ := qa
      subst e1
      cases ra
      obtain ⟨is, w1, p1, _⟩ := I.list (hF.lst h1)
      cases (show y = .non from qb)
      cases rb
      exact SeqAt.EqAt.list_none p1.isList (by omega)
  | .lst ds, .bl b, n, x, y, u, v, A, oa, ob, qa, qb, ra, rb, hu => by
      obtain ⟨l1, xs, e1, h1, r1⟩ := qa
      subst e1
      cases ra
      obtain ⟨is, w1, p1, _⟩ := I.list (hF.lst h1)
      cases (show y = .bl b from qb)
      cases rb
      exact SeqAt.EqAt.list_bool b p1.isList (by omega)
  | .lst ds, .int b, n, x, y, u, v, A, oa, ob, qa, qb, ra, rb, hu => by
      obtain ⟨l1, xs, e1, h1, r1⟩ := qa
      subst e1
      cases ra
      obtain ⟨is, w1, p1, _⟩ := I.list (hF.lst h1)
      cases (show y = .int b from qb)
      obtain ⟨t2, rfl⟩ := rb
      exact SeqAt.EqAt.list_int b t2 p1.isList (by omega)
  | .lst ds, .str b, n, x, y, u, v, A, oa, ob, qa, qb, ra, rb, hu => by
      obtain ⟨l1, xs, e1, h1, r1⟩ := qa
      subst e1
      cases ra
      obtain ⟨is, w1, p1, _⟩ := I.list (hF.lst h1)
      cases (show y = .str b from qb)
      obtain ⟨t2, rfl⟩ := rb
      exact SeqAt.EqAt.list_str b t2 p1.isList (by omega)
  | .lst ds, .tup es, n, x, y, u, v, A, oa, ob, qa, qb, ra, rb, hu => by
      obtain ⟨l1, xs, e1, h1, r1⟩ := qa
      subst e1
      cases ra
      obtain ⟨is, w1, p1, _⟩ := I.list (hF.lst h1)
      obtain ⟨l2, ys, e2, h2, r2⟩ := qb
      subst e2
      cases rb
      obtain ⟨js, w2, p2, _⟩ := I.tuple (hF.tup h2)
      exact SeqAt.EqAt.list_tuple p1.isList (show s.heap.IsTuple l2 js.toArray from p2) (by omega)
  | .lst ds, .lst es, n, x, y, u, v, A, oa, ob, qa, qb, ra, rb, hu => by
      obtain ⟨l1, xs, e1, h1, r1⟩ := qa
      subst e1
      cases ra
      obtain ⟨is, w1, p1, _⟩ := I.list (hF.lst h1)
      obtain ⟨l2, ys, e2, h2, r2⟩ := qb
      subst e2
      cases rb
      obtain ⟨js, w2, p2, _⟩ := I.list (hF.lst h2)
      have z1 := w1.length
      have z2 := w2.length
      have y1 := r1.length
      have y2 := r2.length
      cases n with
      | zero => exact absurd oa (by simp [okE])
      | succ n =>
        have oa' : okEs ds n = true := by simpa only [okE] using oa
        have ob' : okEs es n = true := by simpa only [okE] using ob
        by_cases hab : l1 = l2
        · subst hab
          have e3 := SqL.inj I (hF.lst h1) (hF.lst h2)
          subst e3
          have e4 : ds = es := deeps_inj I hF ds es r1 r2 oa' ob'
          subst e4
          rw [eqD_refl (n := n + 1) oa]
          exact SeqAt.EqAt.same _
        · by_cases hl : ds.length = es.length
          · have q := SeqAt.RcAt.lists (A := A) (e := eqAtJ ds es) p1.isList p2.isList (by simp; omega) (by omega) (fun j h1 h2 => by
              obtain ⟨x', f1, g1⟩ := w1.atA h1
              obtain ⟨y', f2, g2⟩ := w2.atA h2
              obtain ⟨d1, k1, m1⟩ := r1.at f1
              obtain ⟨d2, k2, m2⟩ := r2.at f2
              have q := eqsAt_D I hF ds j d1 k1 d2 (n := n) (A := A.in1) (okEs_get oa' k1) (okEs_get ob' k2) m1 m2 g1 g2 (by show A.units + 1 + n < cLine; omega)
              have e5 : eqAtJ ds es j = eqD d1 d2 := by simp only [eqAtJ, k1, k2]
              rw [e5]
              exact q
              )
            have ez : is.toArray.size = ds.length := by simp; omega
            rw [ez, Deeps.all_eq (F := F) _ hl (fun j a b h1 h2 => by simp only [eqAtJ, h1, h2])] at q
            exact SeqAt.EqAt.of_refs hab q
          · rw [show eqD (.lst ds) (.lst es) = false from eqDs_len hl]
            exact SeqAt.EqAt.of_refs hab (SeqAt.RcAt.lists_lengths (A := A) p1.isList p2.isList (by simp; omega) (by omega))
  | .ins _ _, _, _, _, _, _, _, _, oa, _, _, _, _, _, _ => by simp [okE] at oa
  | .dic _, _, _, _, _, _, _, _, oa, _, _, _, _, _, _ => by simp [okE] at oa
  | _, .ins _ _, _, _, _, _, _, _, _, ob, _, _, _, _, _ => by simp [okE] at ob
  | _, .dic _, _, _, _, _, _, _, _, ob, _, _, _, _, _ => by simp [okE] at ob
theorem eqsAt_D {pins : List (Addr × Obj)} {σ : St} {F H : Hp} {s : Shared} (I : Inv X pins σ H s) (hF : Same F H) : ∀ (ds : List Dat) (j : Nat) (a : Dat), ds[j]? = some a → ∀ (b : Dat) {n : Nat} {x y : V} {u v : Value} {A : Around}, okE a n = true → okE b n = true → Deep X.K F a x → Deep X.K F b y → RelV x u → RelV y v → A.units + n < cLine → SeqAt.EqAt A s u v (eqD a b)
  | [], j, _, h => by simp at h
  | d :: ds, 0, _, h => by
    simp only [List.getElem?_cons_zero, Option.some.injEq] at h
    subst h
    exact eqAt_D I hF d
  | d :: ds, j + 1, a, h => eqsAt_D I hF ds j a (by simpa using h)
end
theorem rcAt_D {pins : List (Addr × Obj)} {σ : St} {F H : Hp} {s : Shared} (I : Inv X pins σ H s) (hF : Same F H) : ∀ (a b : Dat) {n : Nat} {x y : V} {u v : Value} {A : Around}, okE a n = true → okE b n = true → Deep X.K F a x → Deep X.K F b y → RelV x u → RelV y v → A.units + n < cLine → SeqAt.RcAt A s u v (eqD a b)
  | .non, .non, n, x, y, u, v, A, oa, ob, qa, qb, ra, rb, hu => by
      cases (show x = .non from qa)
      cases ra
      cases (show y = .non from qb)
      cases rb
      exact SeqAt.RcAt.none_none
  | .non, .bl b, n, x, y, u, v, A, oa, ob, qa, qb, ra, rb, hu => by
      cases (show x = .non from qa)
      cases ra
      cases (show y = .bl b from qb)
      cases rb
      exact SeqAt.RcAt.none_bool b
  | .non, .int b, n, x, y, u, v, A, oa, ob, qa, qb, ra, rb, hu => by
      cases (show x = .non from qa)
      cases ra
      cases (show y = .int b from qb)
      obtain ⟨t2, rfl⟩ := rb
      exact SeqAt.RcAt.none_int b t2
  | .non, .str b, n, x, y, u, v, A, oa, ob, qa, qb, ra, rb, hu => by
      cases (show x = .non from qa)
      cases ra
      cases (show y = .str b from qb)
      obtain ⟨t2, rfl⟩ := rb
      exact SeqAt.RcAt.none_str b t2
  | .non, .tup es, n, x, y, u, v, A, oa, ob, qa, qb, ra, rb, hu => by
      cases (show x = .non from qa)
      cases ra
      obtain ⟨l2, ys, e2, h2, r2⟩ := qb
      subst e2
      cases rb
      obtain ⟨js, w2, p2, _⟩ := I.tuple (hF.tup h2)
      exact SeqAt.RcAt.none_tuple (show s.heap.IsTuple l2 js.toArray from p2) (by omega)
  | .non, .lst es, n, x, y, u, v, A, oa, ob, qa, qb, ra, rb, hu => by
      cases (show x = .non from qa)
      cases ra
      obtain ⟨l2, ys, e2, h2, r2⟩ := qb
      subst e2
      cases rb
      obtain ⟨js, w2, p2, _⟩ := I.list (hF.lst h2)
      exact SeqAt.RcAt.none_list p2.isList (by omega)
  | .bl a, .non, n, x, y, u, v, A, oa, ob, qa, qb, ra, rb, hu => by
      cases (show x = .bl a from qa)
      cases ra
      cases (show y = .non from qb)
      cases rb
      exact SeqAt.RcAt.bool_none a
  | .bl a, .bl b, n, x, y, u, v, A, oa, ob, qa, qb, ra, rb, hu => by
      cases (show x = .bl a from qa)
      cases ra
      cases (show y = .bl b from qb)
      cases rb
      exact SeqAt.RcAt.bool_bool a b
  | .bl a, .int b, n, x, y, u, v, A, oa, ob, qa, qb, ra, rb, hu => by
      cases (show x = .bl a from qa)
      cases ra
      cases (show y = .int b from qb)
      obtain ⟨t2, rfl⟩ := rb
      exact SeqAt.RcAt.bool_int a b t2
  | .bl a, .str b, n, x, y, u, v, A, oa, ob, qa, qb, ra, rb, hu => by
      cases (show x = .bl a from qa)
      cases ra
      cases (show y = .str b from qb)
      obtain ⟨t2, rfl⟩ := rb
      exact SeqAt.RcAt.bool_str a b t2
  | .bl a, .tup es, n, x, y, u, v, A, oa, ob, qa, qb, ra, rb, hu => by
      cases (show x = .bl a from qa)
      cases ra
      obtain ⟨l2, ys, e2, h2, r2⟩ := qb
      subst e2
      cases rb
      obtain ⟨js, w2, p2, _⟩ := I.tuple (hF.tup h2)
      exact SeqAt.RcAt.bool_tuple a (show s.heap.IsTuple l2 js.toArray from p2) (by omega)
  | .bl a, .lst es, n, x, y, u, v, A, oa, ob, qa, qb, ra, rb, hu => by
      cases (show x = .bl a from qa)
      cases ra
      obtain ⟨l2, ys, e2, h2, r2⟩ := qb
      subst e2
      cases rb
      obtain ⟨js, w2, p2, _⟩ := I.list (hF.lst h2)
      exact SeqAt.RcAt.bool_list a p2.isList (by omega)
  | .int a, .non, n, x, y, u, v, A, oa, ob, qa, qb, ra, rb, hu => by
      cases (show x = .int a from qa)
      obtain ⟨t1, rfl⟩ := ra
      cases (show y = .non from qb)
      cases rb
      exact SeqAt.RcAt.int_none a t1
  | .int a, .bl b, n, x, y, u, v, A, oa, ob, qa, qb, ra, rb, hu => by
      cases (show x = .int a from qa)
      obtain ⟨t1, rfl⟩ := ra
      cases (show y = .bl b from qb)
      cases rb
      exact SeqAt.RcAt.int_bool a t1 b
  | .int a, .int b, n, x, y, u, v, A, oa, ob, qa, qb, ra, rb, hu => by
      cases (show x = .int a from qa)
      obtain ⟨t1, rfl⟩ := ra
      cases (show y = .int b from qb)
      obtain ⟨t2, rfl⟩ := rb
      exact SeqAt.RcAt.int_int a t1 b t2
  | .int a, .str b, n, x, y, u, v, A, oa, ob, qa, qb, ra, rb, hu => by
      cases (show x = .int a from qa)
      obtain ⟨t1, rfl⟩ := ra
      cases (show y = .str b from qb)
      obtain ⟨t2, rfl⟩ := rb
      exact SeqAt.RcAt.int_str a t1 b t2
  | .int a, .tup es, n, x, y, u, v, A, oa, ob, qa, qb, ra, rb, hu => by
      cases (show x = .int a from qa)
      obtain ⟨t1, rfl⟩ := ra
      obtain ⟨l2, ys, e2, h2, r2⟩ := qb
      subst e2
      cases rb
      obtain ⟨js, w2, p2, _⟩ := I.tuple (hF.tup h2)
      exact SeqAt.RcAt.int_tuple a t1 (show s.heap.IsTuple l2 js.toArray from p2) (by omega)
  | .int a, .lst es, n, x, y, u, v, A, oa, ob, qa, qb, ra, rb, hu => by
      cases (show x = .int a from qa)
      obtain ⟨t1, rfl⟩ := ra
      obtain ⟨l2, ys, e2, h2, r2⟩ := qb
      subst e2
      cases rb
      obtain ⟨js, w2, p2, _⟩ := I.list (hF.lst h2)
      exact SeqAt.RcAt.int_list a t1 p2.isList (by omega)
  | .str a, .non, n, x, y, u, v, A, oa, ob, qa, qb, ra, rb, hu => by
      cases (show x = .str a from qa)
      obtain ⟨t1, rfl⟩ := ra
      cases (show y = .non from qb)
      cases rb
      exact SeqAt.RcAt.str_none a t1
  | .str a, .bl b, n, x, y, u, v, A, oa, ob, qa, qb, ra, rb, hu => by
      cases (show x = .str a from qa)
      obtain ⟨t1, rfl⟩ := ra
      cases (show y = .bl b from qb)
      cases rb
      exact SeqAt.RcAt.str_bool a t1 b
  | .str a, .int b, n, x, y, u, v, A, oa, ob, qa, qb, ra, rb, hu => by
      cases (show x = .str a from qa)
      obtain ⟨t1, rfl⟩ := ra
      cases (show y = .int b from qb)
      obtain ⟨t2, rfl⟩ := rb
      exact SeqAt.RcAt.str_int a t1 b t2
  | .str a, .str b, n, x, y, u, v, A, oa, ob, qa, qb, ra, rb, hu => by
      cases (show x = .str a from qa)
      obtain ⟨t1, rfl⟩ := ra
      cases (show y = .str b from qb)
      obtain ⟨t2, rfl⟩ := rb
      exact SeqAt.RcAt.str_str a t1 b t2
  | .str a, .tup es, n, x, y, u, v, A, oa, ob, qa, qb, ra, rb, hu => by
      cases (show x = .str a from qa)
      obtain ⟨t1, rfl⟩ := ra
      obtain ⟨l2, ys, e2, h2, r2⟩ := qb
      subst e2
      cases rb
      obtain ⟨js, w2, p2, _⟩ := I.tuple (hF.tup h2)
      exact SeqAt.RcAt.str_tuple a t1 (show s.heap.IsTuple l2 js.toArray from p2) (by omega)
  | .str a, .lst es, n, x, y, u, v, A, oa, ob, qa, qb, ra, rb, hu => by
      cases (show x = .str a from qa)
      obtain ⟨t1, rfl⟩ := ra
      obtain ⟨l2, ys, e2, h2, r2⟩ := qb
      subst e2
      cases rb
      obtain ⟨js, w2, p2, _⟩ := I.list (hF.lst h2)
      exact SeqAt.RcAt.str_list a t1 p2.isList (by omega)
  | .tup ds, .non, n, x, y, u, v, A, oa, ob, qa, qb, ra, rb, hu => by
      obtain ⟨l1, xs, e1, h1, r1⟩ := qa
      subst e1
      cases ra
      obtain ⟨is, w1, p1, _⟩ := I.tuple (hF.tup h1)
      cases (show y = .non from qb)
      cases rb
      exact SeqAt.RcAt.tuple_none (show s.heap.IsTuple l1 is.toArray from p1) (by omega)
  | .tup ds, .bl b, n, x, y, u, v, A, oa, ob, qa, qb, ra, rb, hu => by
      obtain ⟨l1, xs, e1, h1, r1⟩ := qa
      subst e1
      cases ra
      obtain ⟨is, w1, p1, _⟩ := I.tuple (hF.tup h1)
      cases (show y = .bl b from qb)
      cases rb
      exact SeqAt.RcAt.tuple_bool b (show s.heap.IsTuple l1 is.toArray from p1) (by omega)
  | .tup ds, .int b, n, x, y, u, v, A, oa, ob, qa, qb, ra, rb, hu => by
      obtain ⟨l1, xs, e1, h1, r1⟩ := qa
      subst e1
      cases ra
      obtain ⟨is, w1, p1, _⟩ := I.tuple (hF.tup h1)
      cases (show y = .int b from qb)
      obtain ⟨t2, rfl⟩ := rb
      exact SeqAt.RcAt.tuple_int b t2 (show s.heap.IsTuple l1 is.toArray from p1) (by omega)
  | .tup ds, .str b, n, x, y, u, v, A, oa, ob, qa, qb, ra, rb, hu => by
      obtain ⟨l1, xs, e1, h1, r1⟩ := qa
      subst e1
      cases ra
      obtain ⟨is, w1, p1, _⟩ := I.tuple (hF.tup h1)
      cases (show y = .str b from qb)
      obtain ⟨t2, rfl⟩ := rb
      exact SeqAt.RcAt.tuple_str b t2 (show s.heap.IsTuple l1 is.toArray from p1) (by omega)
  | .tup ds, .tup es, n, x, y, u, v, A, oa, ob, qa, qb, ra, rb, hu => by
      obtain ⟨l1, xs, e1, h1, r1⟩ := qa
      subst e1
      cases ra
      obtain ⟨is, w1, p1, _⟩ := I.tuple (hF.tup h1)
      obtain ⟨l2, ys, e2, h2, r2⟩ := qb
      subst e2
      cases rb
      obtain ⟨js, w2, p2, _⟩ := I.tuple (hF.tup h2)
      have z1 := w1.length
      have z2 := w2.length
      have y1 := r1.length
      have y2 := r2.length
      cases n with
      | zero => exact absurd oa (by simp [okE])
      | succ n =>
        have oa' : okEs ds n = true := by simpa only [okE] using oa
        have ob' : okEs es n = true := by simpa only [okE] using ob
        have q := SeqAt.RcAt.tuples (A := A) (e := eqAtJ ds es) (show s.heap.IsTuple l1 is.toArray from p1) (show s.heap.IsTuple l2 js.toArray from p2) (by omega) (fun j h1 h2 => by
          obtain ⟨x', f1, g1⟩ := w1.atA h1
          obtain ⟨y', f2, g2⟩ := w2.atA h2
          obtain ⟨d1, k1, m1⟩ := r1.at f1
          obtain ⟨d2, k2, m2⟩ := r2.at f2
          have q := eqsAt_D I hF ds j d1 k1 d2 (n := n) (A := A.in1) (okEs_get oa' k1) (okEs_get ob' k2) m1 m2 g1 g2 (by show A.units + 1 + n < cLine; omega)
          have e5 : eqAtJ ds es j = eqD d1 d2 := by simp only [eqAtJ, k1, k2]
          rw [e5]
          exact q
          )
        have ez : is.toArray.size = ds.length := by simp; omega
        have ez2 : js.toArray.size = es.length := by simp; omega
        rw [ez, ez2, eqDs_zip _ (fun j a b h1 h2 => by simp only [eqAtJ, h1, h2])] at q
        exact q
  | .tup ds, .lst es, n, x, y, u, v, A, oa, ob, qa, qb, ra, rb, hu => by
      obtain ⟨l1, xs, e1, h1, r1⟩ := qa
      subst e1
      cases ra
      obtain ⟨is, w1, p1, _⟩ := I.tuple (hF.tup h1)
      obtain ⟨l2, ys, e2, h2, r2⟩ := qb
      subst e2
      cases rb
      obtain ⟨js, w2, p2, _⟩ := I.list (hF.lst h2)
      exact SeqAt.RcAt.tuple_list (show s.heap.IsTuple l1 is.toArray from p1) p2.isList (by omega)
  | .lst ds, .non, n, x, y, u, v, A, oa, ob, qa, qb, ra, rb, hu => by
      obtain ⟨l1, xs, e1, h1, r1⟩ := qa
      subst e1
      cases ra
      obtain ⟨is, w1, p1, _⟩ := I.list (hF.lst h1)
      cases (show y = .non from qb)
      cases rb
      exact SeqAt.RcAt.list_none p1.isList (by omega)
  | .lst ds, .bl b, n, x, y, u, v, A, oa, ob, qa, qb, ra, rb, hu => by
      obtain ⟨l1, xs, e1, h1, r1⟩ := qa
      subst e1
      cases ra
      obtain ⟨is, w1, p1, _⟩ := I.list (hF.lst h1)
      cases (show y = .bl b from qb)
      cases rb
      exact SeqAt.RcAt.list_bool b p1.isList (by omega)
  | .lst ds, .int b, n, x, y, u, v, A, oa, ob, qa, qb, ra, rb, hu => by
      obtain ⟨l1, xs, e1, h1, r1⟩ := qa
      subst e1
      cases ra
      obtain ⟨is, w1, p1, _⟩ := I.list (hF.lst h1)
      cases (show y = .int b from qb)
      obtain ⟨t2, rfl⟩ := rb
      exact SeqAt.RcAt.list_int b t2 p1.isList (by omega)
  | .lst ds, .str b, n, x, y, u, v, A, oa, ob, qa, qb, ra, rb, hu => by
      obtain ⟨l1, xs, e1, h1, r1⟩ := qa
      subst e1
      cases ra
      obtain ⟨is, w1, p1, _⟩ := I.list (hF.lst h1)
      cases (show y = .str b from qb)
      obtain ⟨t2, rfl⟩ := rb
      exact SeqAt.RcAt.list_str b t2 p1.isList (by omega)
  | .lst ds, .tup es, n, x, y, u, v, A, oa, ob, qa, qb, ra, rb, hu => by
      obtain ⟨l1, xs, e1, h1, r1⟩ := qa
      subst e1
      cases ra
      obtain ⟨is, w1, p1, _⟩ := I.list (hF.lst h1)
      obtain ⟨l2, ys, e2, h2, r2⟩ := qb
      subst e2
      cases rb
      obtain ⟨js, w2, p2, _⟩ := I.tuple (hF.tup h2)
      exact SeqAt.RcAt.list_tuple p1.isList (show s.heap.IsTuple l2 js.toArray from p2) (by omega)
  | .lst ds, .lst es, n, x, y, u, v, A, oa, ob, qa, qb, ra, rb, hu => by
      obtain ⟨l1, xs, e1, h1, r1⟩ := qa
      subst e1
      cases ra
      obtain ⟨is, w1, p1, _⟩ := I.list (hF.lst h1)
      obtain ⟨l2, ys, e2, h2, r2⟩ := qb
      subst e2
      cases rb
      obtain ⟨js, w2, p2, _⟩ := I.list (hF.lst h2)
      have z1 := w1.length
      have z2 := w2.length
      have y1 := r1.length
      have y2 := r2.length
      cases n with
      | zero => exact absurd oa (by simp [okE])
      | succ n =>
        have oa' : okEs ds n = true := by simpa only [okE] using oa
        have ob' : okEs es n = true := by simpa only [okE] using ob
        by_cases hl : ds.length = es.length
        · have q := SeqAt.RcAt.lists (A := A) (e := eqAtJ ds es) p1.isList p2.isList (by simp; omega) (by omega) (fun j h1 h2 => by
            obtain ⟨x', f1, g1⟩ := w1.atA h1
            obtain ⟨y', f2, g2⟩ := w2.atA h2
            obtain ⟨d1, k1, m1⟩ := r1.at f1
            obtain ⟨d2, k2, m2⟩ := r2.at f2
            have q := eqsAt_D I hF ds j d1 k1 d2 (n := n) (A := A.in1) (okEs_get oa' k1) (okEs_get ob' k2) m1 m2 g1 g2 (by show A.units + 1 + n < cLine; omega)
            have e5 : eqAtJ ds es j = eqD d1 d2 := by simp only [eqAtJ, k1, k2]
            rw [e5]
            exact q
            )
          have ez : is.toArray.size = ds.length := by simp; omega
          rw [ez, Deeps.all_eq (F := F) _ hl (fun j a b h1 h2 => by simp only [eqAtJ, h1, h2])] at q
          exact q
        · rw [show eqD (.lst ds) (.lst es) = false from eqDs_len hl]
          exact SeqAt.RcAt.lists_lengths (A := A) p1.isList p2.isList (by simp; omega) (by omega)
  | .ins _ _, _, _, _, _, _, _, _, oa, _, _, _, _, _, _ => by simp [okE] at oa
  | .dic _, _, _, _, _, _, _, _, oa, _, _, _, _, _, _ => by simp [okE] at oa
  | _, .ins _ _, _, _, _, _, _, _, _, ob, _, _, _, _, _ => by simp [okE] at ob
  | _, .dic _, _, _, _, _, _, _, _, ob, _, _, _, _, _ => by simp [okE] at ob
theorem rcNeAt_D {pins : List (Addr × Obj)} {σ : St} {F H : Hp} {s : Shared} (I : Inv X pins σ H s) (hF : Same F H) : ∀ (a b : Dat) {n : Nat} {x y : V} {u v : Value} {A : Around}, okE a n = true → okE b n = true → Deep X.K F a x → Deep X.K F b y → RelV x u → RelV y v → A.units + n < cLine → SeqAt.RcNeAt A s u v (!eqD a b)
  | .non, .non, n, x, y, u, v, A, oa, ob, qa, qb, ra, rb, hu => by
      cases (show x = .non from qa)
      cases ra
      cases (show y = .non from qb)
      cases rb
      exact SeqAt.RcNeAt.none_none
  | .non, .bl b, n, x, y, u, v, A, oa, ob, qa, qb, ra, rb, hu => by
      cases (show x = .non from qa)
      cases ra
      cases (show y = .bl b from qb)
      cases rb
      exact SeqAt.RcNeAt.none_bool b
  | .non, .int b, n, x, y, u, v, A, oa, ob, qa, qb, ra, rb, hu => by
      cases (show x = .non from qa)
      cases ra
      cases (show y = .int b from qb)
      obtain ⟨t2, rfl⟩ := rb
      exact SeqAt.RcNeAt.none_int b t2
  | .non, .str b, n, x, y, u, v, A, oa, ob, qa, qb, ra, rb, hu => by
      cases (show x = .non from qa)
      cases ra
      cases (show y = .str b from qb)
      obtain ⟨t2, rfl⟩ := rb
      exact SeqAt.RcNeAt.none_str b t2
  | .non, .tup es, n, x, y, u, v, A, oa, ob, qa, qb, ra, rb, hu => by
      cases (show x = .non from qa)
      cases ra
      obtain ⟨l2, ys, e2, h2, r2⟩ := qb
      subst e2
      cases rb
      obtain ⟨js, w2, p2, _⟩ := I.tuple (hF.tup h2)
      exact SeqAt.RcNeAt.none_tuple (show s.heap.IsTuple l2 js.toArray from p2) (by omega)
  | .non, .lst es, n, x, y, u, v, A, oa, ob, qa, qb, ra, rb, hu => by
      cases (show x = .non from qa)
      cases ra
      obtain ⟨l2, ys, e2, h2, r2⟩ := qb
      subst e2
      cases rb
      obtain ⟨js, w2, p2, _⟩ := I.list (hF.lst h2)
      exact SeqAt.RcNeAt.none_list p2.isList (by omega)
  | .bl a, .non, n, x, y, u, v, A, oa, ob, qa, qb, ra, rb, hu => by
      cases (show x = .bl a from qa)
      cases ra
      cases (show y = .non from qb)
      cases rb
      exact SeqAt.RcNeAt.bool_none a
  | .bl a, .bl b, n, x, y, u, v, A, oa, ob, qa, qb, ra, rb, hu => by
      cases (show x = .bl a from qa)
      cases ra
      cases (show y = .bl b from qb)
      cases rb
      exact SeqAt.RcNeAt.bool_bool a b
  | .bl a, .int b, n, x, y, u, v, A, oa, ob, qa, qb, ra, rb, hu => by
      cases (show x = .bl a from qa)
      cases ra
      cases (show y = .int b from qb)
      obtain ⟨t2, rfl⟩ := rb
      exact SeqAt.RcNeAt.bool_int a b t2
  | .bl a, .str b, n, x, y, u, v, A, oa, ob, qa, qb, ra, rb, hu => by
      cases (show x = .bl a from qa)
      cases ra
      cases (show y = .str b from qb)
      obtain ⟨t2, rfl⟩ := rb
      exact SeqAt.RcNeAt.bool_str a b t2
  | .bl a, .tup es, n, x, y, u, v, A, oa, ob, qa, qb, ra, rb, hu => by
      cases (show x = .bl a from qa)
      cases ra
      obtain ⟨l2, ys, e2, h2, r2⟩ := qb
      subst e2
      cases rb
      obtain ⟨js, w2, p2, _⟩ := I.tuple (hF.tup h2)
      exact SeqAt.RcNeAt.bool_tuple a (show s.heap.IsTuple l2 js.toArray from p2) (by omega)
  | .bl a, .lst es, n, x, y, u, v, A, oa, ob, qa, qb, ra, rb, hu => by
      cases (show x = .bl a from qa)
      cases ra
      obtain ⟨l2, ys, e2, h2, r2⟩ := qb
      subst e2
      cases rb
      obtain ⟨js, w2, p2, _⟩ := I.list (hF.lst h2)
      exact SeqAt.RcNeAt.bool_list a p2.isList (by omega)
  | .int a, .non, n, x, y, u, v, A, oa, ob, qa, qb, ra, rb, hu => by
      cases (show x = .int a from qa)
      obtain ⟨t1, rfl⟩ := ra
      cases (show y = .non from qb)
      cases rb
      exact SeqAt.RcNeAt.int_none a t1
  | .int a, .bl b, n, x, y, u, v, A, oa, ob, qa, qb, ra, rb, hu => by
      cases (show x = .int a from qa)
      obtain ⟨t1, rfl⟩ := ra
      cases (show y = .bl b from qb)
      cases rb
      exact SeqAt.RcNeAt.int_bool a t1 b
  | .int a, .int b, n, x, y, u, v, A, oa, ob, qa, qb, ra, rb, hu => by
      cases (show x = .int a from qa)
      obtain ⟨t1, rfl⟩ := ra
      cases (show y = .int b from qb)
      obtain ⟨t2, rfl⟩ := rb
      exact SeqAt.RcNeAt.int_int a t1 b t2
  | .int a, .str b, n, x, y, u, v, A, oa, ob, qa, qb, ra, rb, hu => by
      cases (show x = .int a from qa)
      obtain ⟨t1, rfl⟩ := ra
      cases (show y = .str b from qb)
      obtain ⟨t2, rfl⟩ := rb
      exact SeqAt.RcNeAt.int_str a t1 b t2
  | .int a, .tup es, n, x, y, u, v, A, oa, ob, qa, qb, ra, rb, hu => by
      cases (show x = .int a from qa)
      obtain ⟨t1, rfl⟩ := ra
      obtain ⟨l2, ys, e2, h2, r2⟩ := qb
      subst e2
      cases rb
      obtain ⟨js, w2, p2, _⟩ := I.tuple (hF.tup h2)
      exact SeqAt.RcNeAt.int_tuple a t1 (show s.heap.IsTuple l2 js.toArray from p2) (by omega)
  | .int a, .lst es, n, x, y, u, v, A, oa, ob, qa, qb, ra, rb, hu => by
      cases (show x = .int a from qa)
      obtain ⟨t1, rfl⟩ := ra
      obtain ⟨l2, ys, e2, h2, r2⟩ := qb
      subst e2
      cases rb
      obtain ⟨js, w2, p2, _⟩ := I.list (hF.lst h2)
      exact SeqAt.RcNeAt.int_list a t1 p2.isList (by omega)
  | .str a, .non, n, x, y, u, v, A, oa, ob, qa, qb, ra, rb, hu => by
      cases (show x = .str a from qa)
      obtain ⟨t1, rfl⟩ := ra
      cases (show y = .non from qb)
      cases rb
      exact SeqAt.RcNeAt.str_none a t1
  | .str a, .bl b, n, x, y, u, v, A, oa, ob, qa, qb, ra, rb, hu => by
      cases (show x = .str a from qa)
      obtain ⟨t1, rfl⟩ := ra
      cases (show y = .bl b from qb)
      cases rb
      exact SeqAt.RcNeAt.str_bool a t1 b
  | .str a, .int b, n, x, y, u, v, A, oa, ob, qa, qb, ra, rb, hu => by
      cases (show x = .str a from qa)
      obtain ⟨t1, rfl⟩ := ra
      cases (show y = .int b from qb)
      obtain ⟨t2, rfl⟩ := rb
      exact SeqAt.RcNeAt.str_int a t1 b t2
  | .str a, .str b, n, x, y, u, v, A, oa, ob, qa, qb, ra, rb, hu => by
      cases (show x = .str a from qa)
      obtain ⟨t1, rfl⟩ := ra
      cases (show y = .str b from qb)
      obtain ⟨t2, rfl⟩ := rb
      exact SeqAt.RcNeAt.str_str a t1 b t2
  | .str a, .tup es, n, x, y, u, v, A, oa, ob, qa, qb, ra, rb, hu => by
      cases (show x = .str a from qa)
      obtain ⟨t1, rfl⟩ := ra
      obtain ⟨l2, ys, e2, h2, r2⟩ := qb
      subst e2
      cases rb
      obtain ⟨js, w2, p2, _⟩ := I.tuple (hF.tup h2)
      exact SeqAt.RcNeAt.str_tuple a t1 (show s.heap.IsTuple l2 js.toArray from p2) (by omega)
  | .str a, .lst es, n, x, y, u, v, A, oa, ob, qa, qb, ra, rb, hu => by
      cases (show x = .str a from qa)
      obtain ⟨t1, rfl⟩ := ra
      obtain ⟨l2, ys, e2, h2, r2⟩ := qb
      subst e2
      cases rb
      obtain ⟨js, w2, p2, _⟩ := I.list (hF.lst h2)
      exact SeqAt.RcNeAt.str_list a t1 p2.isList (by omega)
  | .tup ds, .non, n, x, y, u, v, A, oa, ob, qa, qb, ra, rb, hu => by
      obtain ⟨l1, xs, e1, h1, r1⟩ := qa
      subst e1
      cases ra
      obtain ⟨is, w1, p1, _⟩ := I.tuple (hF.tup h1)
      cases (show y = .non from qb)
      cases rb
      exact SeqAt.RcNeAt.tuple_none (show s.heap.IsTuple l1 is.toArray from p1) (by omega)
  | .tup ds, .bl b, n, x, y, u, v, A, oa, ob, qa, qb, ra, rb, hu => by
      obtain ⟨l1, xs, e1, h1, r1⟩ := qa
      subst e1
      cases ra
      obtain ⟨is, w1, p1, _⟩ := I.tuple (hF.tup h1)
      cases (show y = .bl b from qb)
      cases rb
      exact SeqAt.RcNeAt.tuple_bool b (show s.heap.IsTuple l1 is.toArray from p1) (by omega)
  | .tup ds, .int b, n, x, y, u, v, A, oa, ob, qa, qb, ra, rb, hu => by
      obtain ⟨l1, xs, e1, h1, r1⟩ := qa
      subst e1
      cases ra
      obtain ⟨is, w1, p1, _⟩ := I.tuple (hF.tup h1)
      cases (show y = .int b from qb)
      obtain ⟨t2, rfl⟩ := rb
      exact SeqAt.RcNeAt.tuple_int b t2 (show s.heap.IsTuple l1 is.toArray from p1) (by omega)
  | .tup ds, .str b, n, x, y, u, v, A, oa, ob, qa, qb, ra, rb, hu => by
      obtain ⟨l1, xs, e1, h1, r1⟩ := qa
      subst e1
      cases ra
      obtain ⟨is, w1, p1, _⟩ := I.tuple (hF.tup h1)
      cases (show y = .str b from qb)
      obtain ⟨t2, rfl⟩ := rb
      exact SeqAt.RcNeAt.tuple_str b t2 (show s.heap.IsTuple l1 is.toArray from p1) (by omega)
  | .tup ds, .tup es, n, x, y, u, v, A, oa, ob, qa, qb, ra, rb, hu => by
      obtain ⟨l1, xs, e1, h1, r1⟩ := qa
      subst e1
      cases ra
      obtain ⟨is, w1, p1, _⟩ := I.tuple (hF.tup h1)
      obtain ⟨l2, ys, e2, h2, r2⟩ := qb
      subst e2
      cases rb
      obtain ⟨js, w2, p2, _⟩ := I.tuple (hF.tup h2)
      have z1 := w1.length
      have z2 := w2.length
      have y1 := r1.length
      have y2 := r2.length
      cases n with
      | zero => exact absurd oa (by simp [okE])
      | succ n =>
        have oa' : okEs ds n = true := by simpa only [okE] using oa
        have ob' : okEs es n = true := by simpa only [okE] using ob
        have q := SeqAt.RcNeAt.tuples (A := A) (e := eqAtJ ds es) (show s.heap.IsTuple l1 is.toArray from p1) (show s.heap.IsTuple l2 js.toArray from p2) (by omega) (fun j h1 h2 => by
          obtain ⟨x', f1, g1⟩ := w1.atA h1
          obtain ⟨y', f2, g2⟩ := w2.atA h2
          obtain ⟨d1, k1, m1⟩ := r1.at f1
          obtain ⟨d2, k2, m2⟩ := r2.at f2
          have q := eqsAt_D I hF ds j d1 k1 d2 (n := n) (A := A.in1) (okEs_get oa' k1) (okEs_get ob' k2) m1 m2 g1 g2 (by show A.units + 1 + n < cLine; omega)
          have e5 : eqAtJ ds es j = eqD d1 d2 := by simp only [eqAtJ, k1, k2]
          rw [e5]
          exact q
          )
        have ez : is.toArray.size = ds.length := by simp; omega
        have ez2 : js.toArray.size = es.length := by simp; omega
        rw [ez, ez2, eqDs_zip _ (fun j a b h1 h2 => by simp only [eqAtJ, h1, h2])] at q
        exact q
  | .tup ds, .lst es, n, x, y, u, v, A, oa, ob, qa, qb, ra, rb, hu => by
      obtain ⟨l1, xs, e1, h1, r1⟩ := qa
      subst e1
      cases ra
      obtain ⟨is, w1, p1, _⟩ := I.tuple (hF.tup h1)
      obtain ⟨l2, ys, e2, h2, r2⟩ := qb
      subst e2
      cases rb
      obtain ⟨js, w2, p2, _⟩ := I.list (hF.lst h2)
      exact SeqAt.RcNeAt.tuple_list (show s.heap.IsTuple l1 is.toArray from p1) p2.isList (by omega)
  | .lst ds, .non, n, x, y, u, v, A, oa, ob, qa, qb, ra, rb, hu => by
      obtain ⟨l1, xs, e1, h1, r1⟩ := qa
      subst e1
      cases ra
      obtain ⟨is, w1, p1, _⟩ := I.list (hF.lst h1)
      cases (show y = .non from qb)
      cases rb
      exact SeqAt.RcNeAt.list_none p1.isList (by omega)
  | .lst ds, .bl b, n, x, y, u, v, A, oa, ob, qa, qb, ra, rb, hu => by
      obtain ⟨l1, xs, e1, h1, r1⟩ := qa
      subst e1
      cases ra
      obtain ⟨is, w1, p1, _⟩ := I.list (hF.lst h1)
      cases (show y = .bl b from qb)
      cases rb
      exact SeqAt.RcNeAt.list_bool b p1.isList (by omega)
  | .lst ds, .int b, n, x, y, u, v, A, oa, ob, qa, qb, ra, rb, hu => by
      obtain ⟨l1, xs, e1, h1, r1⟩ := qa
      subst e1
      cases ra
      obtain ⟨is, w1, p1, _⟩ := I.list (hF.lst h1)
      cases (show y = .int b from qb)
      obtain ⟨t2, rfl⟩ := rb
      exact SeqAt.RcNeAt.list_int b t2 p1.isList (by omega)
  | .lst ds, .str b, n, x, y, u, v, A, oa, ob, qa, qb, ra, rb, hu => by
      obtain ⟨l1, xs, e1, h1, r1⟩ := qa
      subst e1
      cases ra
      obtain ⟨is, w1, p1, _⟩ := I.list (hF.lst h1)
      cases (show y = .str b from qb)
      obtain ⟨t2, rfl⟩ := rb
      exact SeqAt.RcNeAt.list_str b t2 p1.isList (by omega)
  | .lst ds, .tup es, n, x, y, u, v, A, oa, ob, qa, qb, ra, rb, hu => by
      obtain ⟨l1, xs, e1, h1, r1⟩ := qa
      subst e1
      cases ra
      obtain ⟨is, w1, p1, _⟩ := I.list (hF.lst h1)
      obtain ⟨l2, ys, e2, h2, r2⟩ := qb
      subst e2
      cases rb
      obtain ⟨js, w2, p2, _⟩ := I.tuple (hF.tup h2)
      exact SeqAt.RcNeAt.list_tuple p1.isList (show s.heap.IsTuple l2 js.toArray from p2) (by omega)
  | .lst ds, .lst es, n, x, y, u, v, A, oa, ob, qa, qb, ra, rb, hu => by
      obtain ⟨l1, xs, e1, h1, r1⟩ := qa
      subst e1
      cases ra
      obtain ⟨is, w1, p1, _⟩ := I.list (hF.lst h1)
      obtain ⟨l2, ys, e2, h2, r2⟩ := qb
      subst e2
      cases rb
      obtain ⟨js, w2, p2, _⟩ := I.list (hF.lst h2)
      have z1 := w1.length
      have z2 := w2.length
      have y1 := r1.length
      have y2 := r2.length
      cases n with
      | zero => exact absurd oa (by simp [okE])
      | succ n =>
        have oa' : okEs ds n = true := by simpa only [okE] using oa
        have ob' : okEs es n = true := by simpa only [okE] using ob
        by_cases hl : ds.length = es.length
        · have q := SeqAt.RcNeAt.lists (A := A) (e := eqAtJ ds es) p1.isList p2.isList (by simp; omega) (by omega) (fun j h1 h2 => by
            obtain ⟨x', f1, g1⟩ := w1.atA h1
            obtain ⟨y', f2, g2⟩ := w2.atA h2
            obtain ⟨d1, k1, m1⟩ := r1.at f1
            obtain ⟨d2, k2, m2⟩ := r2.at f2
            have q := eqsAt_D I hF ds j d1 k1 d2 (n := n) (A := A.in1) (okEs_get oa' k1) (okEs_get ob' k2) m1 m2 g1 g2 (by show A.units + 1 + n < cLine; omega)
            have e5 : eqAtJ ds es j = eqD d1 d2 := by simp only [eqAtJ, k1, k2]
            rw [e5]
            exact q
            )
          have ez : is.toArray.size = ds.length := by simp; omega
          rw [ez, Deeps.all_eq (F := F) _ hl (fun j a b h1 h2 => by simp only [eqAtJ, h1, h2])] at q
          exact q
        · rw [show eqD (.lst ds) (.lst es) = false from eqDs_len hl]
          exact SeqAt.RcNeAt.lists_lengths (A := A) p1.isList p2.isList (by simp; omega) (by omega)
  | .ins _ _, _, _, _, _, _, _, _, oa, _, _, _, _, _, _ => by simp [okE] at oa
  | .dic _, _, _, _, _, _, _, _, oa, _, _, _, _, _, _ => by simp [okE] at oa
  | _, .ins _ _, _, _, _, _, _, _, _, ob, _, _, _, _, _ => by simp [okE] at ob
  | _, .dic _, _, _, _, _, _, _, _, ob, _, _, _, _, _ => by simp [okE] at ob
end
section
variable {X : Cx} {K : PySem.W.Frag} {W : Wish} {own ro : Bool}
theorem Post.blS {F H : Hp} {Q : VK} {pins : List (Addr × Obj)} {σ : St} {s : Shared} {b : Bool} (p : Post K W own F H (.ok (.bl b)) Q) (s1 : Same F H) (I : Inv X pins σ H s) : EP X pins σ Q (.bool b) s := ⟨.bl b, H, I, rfl, p.bl s1⟩
theorem o_eq (hu : X.A.units + 64 < cLine) (hK : X.K = K := by rfl) : Op2 K W own X (compareOp .Eq) eqM := by
  subst hK
  intro pins s σ H x y v u Q I rx ry h
  obtain ⟨F, a, b, s1, qa, qb, p⟩ := h
  unfold eqM at p
  by_cases hc : (okE a 40 && okE b 40) = true
  · rw [if_pos hc] at p
    simp only [Bool.and_eq_true] at hc
    exact rcAt_D I s1 a b hc.1 hc.2 qa qb rx ry (by omega) _ _ _ _ (p.blS s1 I)
  · rw [if_neg hc] at p; exact p.stuck
theorem o_ne (hu : X.A.units + 64 < cLine) (hK : X.K = K := by rfl) : Op2 K W own X (compareOp .NotEq) neM := by
  subst hK
  intro pins s σ H x y v u Q I rx ry h
  obtain ⟨F, a, b, s1, qa, qb, p⟩ := h
  unfold neM at p
  by_cases hc : (okE a 40 && okE b 40) = true
  · rw [if_pos hc] at p
    simp only [Bool.and_eq_true] at hc
    exact rcNeAt_D I s1 a b hc.1 hc.2 qa qb rx ry (by omega) _ _ _ _ (p.blS s1 I)
  · rw [if_neg hc] at p; exact p.stuck
end
end L2
namespace L2
open PySem PySem.Spec PyProof.Rows
section
variable {X : Cx} {K : PySem.W.Frag} {W : Wish} {own ro : Bool} {e a b c : Expr} {es : List Expr} {x : Str} {pos p : Pos} {f fa fb fc : Env' → M Dat} {fr : Env' → M (List Dat)} {ft : Env' → M Bool}
theorem dts_nil : PTs X [] (tDT K W fYes) := fun pins s σ H Q I h => pts_nil pins s σ H Q I (by
  obtain ⟨F, ρ, r, s1, q⟩ := h
  exact q F H (Step.refl s1))
theorem dgc_nm {N' : List Str} {sc : Scope} {L : Addr} {cs : List (Str × Addr)} {s : Shared} {H : Hp} {fp : List Addr} {i : Nat} (hN : N'.Nodup) (hi : N'[i]? = some x := by rfl) (hx : Loc (cxComp X N' sc L cs s H fp).env.scope x := by first | exact Or.inl rfl | exact Or.inr rfl)
    (hf : (cxComp X N' sc L cs s H fp).fn x = true ∨ (cxComp X N' sc L cs s H fp).env.scope.names.lookup x = some .local := by first | exact .inl rfl | exact .inr rfl | assumption) : DG K (cxComp X N' sc L cs s H fp) (.Name x pos) (.nm i) := pg_c hN hi hx hf
variable {sc : Scope} {tg elt iter : Expr} {ifs : List Expr} {fi : Env' → M (List Dat)} {pt : Pat} {fe : Env' → M Dat} {spos py : Pos}
theorem de_comp (N' : List Str) (ix : List (Option Nat)) (hi : DI K W X tg iter fi) (hg : ∀ L cs s H fp, DG K (cxComp X N' sc L cs s H fp) tg pt) (hl : Leaves ix (gP K pt))
    (ht : ∀ L cs s H fp, PTs (cxComp X N' sc L cs s H fp) ifs (tDT K W ft)) (he : ∀ L cs s H fp, DE K W false (cxComp X N' sc L cs s H fp) elt fe) (hc : X.calm = true := by rfl)
    (ok : compOk X.N X.env.scope N' sc ix = true := by rfl) (hk : sc.kind = .function := by rfl) (hs : ∀ x, foldedSetIterable iter X.env x = pure x := by intro _; rfl) :
    DE K W true X (.ListComp elt [⟨tg, iter, ifs, 0⟩] sc pos) (fComp fi ix pt ft fe) := (pe_comp N' ix hc hi hg hl ht he ok hk hs).imp fun _ _ _ => rd_comp
noncomputable def spF (K : PySem.W.Frag) (ro : Bool) (g : List Dat → M Dat) (n : Nat) : Sp := fun vs H Q _ => ∃ F ds, Same F H ∧ Deeps K F ds vs ∧ ds.length = n ∧ Post K Wno ro F H (g ds) Q
theorem runB_len {nN n : Nat} {g : Env' → M Flo} {ds : List Dat} (h : ds.length ≠ n) : runB nN n g ds = stk := by unfold runB; rw [if_neg h]
theorem de_call {k nN n : Nat} {fad : Addr} {fd : FuncData} {ps : List Str} {g : Env' → M Flo} (F : FnOk X.prog X.w X.K X.mg X.base CX0 k fad fd ps (spF K ro (runB nN n g) n)) (hr : Room k X.A) (hm : X.mg x = some (.ref fad)) (hk : PySem.W.keepIn X.K (.ref fad) = true) (hb : Binds X.K fd ps [])
    (ha : DA K Wno X (e :: es) fr) (hg : Gl X x := by rfl) (hdb : (x == ("__debug__" : Str)) = false := by decide) (hst : starEach (e :: es) X.env = (false, eval e X.env) :: starEach es X.env := by rfl) (hpl : (backTo pos (starEach es X.env)).any (·.1) = false := by rfl) :
    DE K Wno ro X (.Call (.Name x p) (e :: es) [] pos) (fL (runB nN n g) fr) := by
  refine PE.imp (pe_call F hr hg hm hk hb .nil pass0 ha hdb hst hpl) fun σ H Q h => ?_
  obtain ⟨F, ρ, r, s, p⟩ := rd_L h
  refine ⟨F, ρ, r, s, ?_⟩
  cases e1 : fr ρ with
  | error z => rw [e1] at p; exact p
  | ok ds =>
    rw [e1] at p
    intro vs F' H' st q
    obtain ⟨F1, es1, s1, q1, z⟩ := p vs F' H' st q
    show spF K ro (runB nN n g) n (vs ++ []) H' Q E0
    rw [List.append_nil]
    by_cases hl : es1.length = n
    · exact ⟨F1, es1, s1, q1, hl, z⟩
    · rw [runB_len hl] at z
      exact Post.stuck z
end
section
variable {P : Program} {w : World} {K : PySem.W.Frag} {mg : Str → Option Value} {base : Heap}
theorem start_get {N : List Str} {vs : List V} {ds : List Dat} {i : Nat} {d : Dat} {F : Hp} (q : Deeps K F ds vs) (h : (ds.map some ++ List.replicate (N.length - ds.length) none)[i]? = some (some d)) : ∃ v, (start N vs)[i]? = some (some v) ∧ Deep K F d v := by
  have hi : i < ds.length := by
    by_cases hi : i < ds.length
    · exact hi
    · rw [List.getElem?_append_right (by simpa using hi), List.getElem?_replicate] at h
      split at h <;> cases h
  rw [List.getElem?_append_left (by simpa using hi), List.getElem?_map] at h
  cases e : ds[i]? with
  | none => rw [e] at h; cases h
  | some d' =>
    rw [e] at h
    cases h
    obtain ⟨v, e1, q1⟩ := q.get e
    refine ⟨v, ?_, q1⟩
    unfold start
    rw [List.getElem?_append_left (by rw [List.length_map, q.length]; exact hi), List.getElem?_map, e1]
    rfl
theorem fn_D {x qual : Str} {st : Stmt} {f : Addr} {fd : FuncData} {N ps : List Str} {k : Nat} {O' : List Nat} (F : Fun K x qual st f fd) (S : FnScope N ps (defScope st)) (ro : Bool) (g : Env' → M Flo)
    (hb : ∀ (cdv : Value) (A : Around) (outer : List Env) (s : Shared) (H : Hp) (E : XK), Room k (A.deeper (envOfC qual (defScope st) s.heap.objs.size f cdv)) →
      DSs K Wno ro (cxOf CX0 P w K mg base N qual (defScope st) f cdv A outer s H E).nox [] [] O' (defBody st) g) : FnOk P w K mg base CX0 (k + 1) f fd ps (spF K ro (runB N.length ps.length g) ps.length) := by
  have hpl : ps.length ≤ N.length := by have := congrArg List.length S.pre; rw [List.length_take] at this; omega
  refine F.okX S (fun vs H Q E ⟨F, ds, s, q, l, p⟩ => by rw [q.length, l]) fun cdv A outer s H vs Q E hr ⟨F1, ds, s1, q, l, p⟩ => ⟨_, hb cdv A outer s H E hr F1 H, F1, F1, ds.map some ++ List.replicate (N.length - ds.length) none, ?_, ?_⟩
  · refine ⟨Step.refl s1, Same.refl _, ?_, fun i d e _ => start_get q e, (fun i d e h => nomatch h), (fun i j ds es a h => nomatch h)⟩
    unfold start
    rw [List.length_append, List.length_append, List.length_map, List.length_map, List.length_replicate, List.length_replicate, q.length]
  · have e1 : runB N.length ps.length g ds = (g (ds.map some ++ List.replicate (N.length - ds.length) none)).bind fun fl => match fl with
      | .nx _ => .ok .non
      | .rt d => .ok d
      | _ => stk := by
        unfold runB
        exact if_pos l
    rw [e1] at p
    cases e2 : g (ds.map some ++ List.replicate (N.length - ds.length) none) with
    | error z => rw [e2] at p; exact p
    | ok fl =>
      rw [e2] at p
      cases fl with
      | nx ρ => exact fun σ F H r => p .non F H r.st (by cases ro <;> rfl)
      | rt d => exact fun v F H st q => p v F H st q
      | bk ρ => exact Post.stuck p
      | ct ρ => exact Post.stuck p
noncomputable def spLaw (K : PySem.W.Frag) : Sp := fun vs H Q _ => ∃ (a : Addr) (ns : List Int), vs = [.ref a] ∧ SqL K H a (ns.map V.int) ∧ ns.length ≤ 63 ∧ ∀ H', Q (.bl true) H'
theorem deeps_ints {F : Hp} : ∀ is : List Int, Deeps K F (is.map Dat.int) (is.map V.int)
  | [] => rfl
  | i :: is => ⟨.int i, is.map V.int, rfl, rfl, deeps_ints is⟩
theorem law_ok {k : Nat} {f : Addr} {fd : FuncData} {x : Str} {ro : Bool} {mlaw : Nat → List Dat → M Dat} (F : ∀ n, FnOk P w K mg base CX0 k f fd [x] (spF K ro (mlaw n) 1)) (h : ∀ ns : List Int, ns.length ≤ 63 → ∃ n, mlaw n [.lst (ns.map .int)] = .ok (.bl true)) : FnOk P w K mg base CX0 k f fd [x] (spLaw K) := by
  refine ⟨fun vs H Q E ⟨a, ns, e, _⟩ => by rw [e]; rfl, fun A outer s H args us vs Q E hr he hb hv ⟨a, ns, e, hq, hl, q⟩ => ?_⟩
  obtain ⟨n, hn⟩ := h ns hl
  refine (F n).run A outer s H args us vs Q E hr he hb hv ⟨H, [.lst (ns.map .int)], Same.refl _, ⟨.ref a, [], e, ⟨a, _, rfl, hq, deeps_ints ns⟩, rfl⟩, rfl, ?_⟩
  rw [hn]
  intro v F' H' st z
  have : v = .bl true := by cases ro <;> exact z
  rw [this]
  exact q H'
end
end L2
namespace L2
open PySem PySem.Spec PyProof.Rows
structure Kit (K : PySem.W.Frag) : Prop where
  q_int_int : PySem.W.kitOne K (.type "int") (.type "int") = some true
  q_bool_int : PySem.W.kitOne K (.type "bool") (.type "int") = some true
  q_list_int : PySem.W.kitOne K (.type "list") (.type "int") = some false
  q_tuple_int : PySem.W.kitOne K (.type "tuple") (.type "int") = some false
  q_str_int : PySem.W.kitOne K (.type "str") (.type "int") = some false
  q_NoneType_int : PySem.W.kitOne K (.type "NoneType") (.type "int") = some false
  q_int_bool : PySem.W.kitOne K (.type "int") (.type "bool") = some false
  q_bool_bool : PySem.W.kitOne K (.type "bool") (.type "bool") = some true
  q_list_bool : PySem.W.kitOne K (.type "list") (.type "bool") = some false
  q_tuple_bool : PySem.W.kitOne K (.type "tuple") (.type "bool") = some false
  q_str_bool : PySem.W.kitOne K (.type "str") (.type "bool") = some false
  q_NoneType_bool : PySem.W.kitOne K (.type "NoneType") (.type "bool") = some false
  q_int_list : PySem.W.kitOne K (.type "int") (.type "list") = some false
  q_bool_list : PySem.W.kitOne K (.type "bool") (.type "list") = some false
  q_list_list : PySem.W.kitOne K (.type "list") (.type "list") = some true
  q_tuple_list : PySem.W.kitOne K (.type "tuple") (.type "list") = some false
  q_str_list : PySem.W.kitOne K (.type "str") (.type "list") = some false
  q_NoneType_list : PySem.W.kitOne K (.type "NoneType") (.type "list") = some false
  q_int_tuple : PySem.W.kitOne K (.type "int") (.type "tuple") = some false
  q_bool_tuple : PySem.W.kitOne K (.type "bool") (.type "tuple") = some false
  q_list_tuple : PySem.W.kitOne K (.type "list") (.type "tuple") = some false
  q_tuple_tuple : PySem.W.kitOne K (.type "tuple") (.type "tuple") = some true
  q_str_tuple : PySem.W.kitOne K (.type "str") (.type "tuple") = some false
  q_NoneType_tuple : PySem.W.kitOne K (.type "NoneType") (.type "tuple") = some false
  q_int_str : PySem.W.kitOne K (.type "int") (.type "str") = some false
  q_bool_str : PySem.W.kitOne K (.type "bool") (.type "str") = some false
  q_list_str : PySem.W.kitOne K (.type "list") (.type "str") = some false
  q_tuple_str : PySem.W.kitOne K (.type "tuple") (.type "str") = some false
  q_str_str : PySem.W.kitOne K (.type "str") (.type "str") = some true
  q_NoneType_str : PySem.W.kitOne K (.type "NoneType") (.type "str") = some false
section
variable {X : Cx} {K : PySem.W.Frag} {W : Wish} {own ro : Bool} {e a b c : Expr} {es : List Expr} {x : Str} {pos p p2 : Pos} {f fa fb fc : Env' → M Dat} {fr : Env' → M (List Dat)} {ft : Env' → M Bool}
theorem isi_D {pins : List (Addr × Obj)} {σ : St} {F H : Hp} {s : Shared} {T : String} {d : Dat} {x : V} {u : Value} {bi bb bl bt bs bn : Bool} {Q : Value → Shared → Prop} (I : Inv X pins σ H s) (hF : Same F H) (q : Deep X.K F d x) (r : RelV x u)
    (hi : PySem.W.kitOne X.K (.type "int") (.type T) = some bi) (hb : PySem.W.kitOne X.K (.type "bool") (.type T) = some bb) (hl : PySem.W.kitOne X.K (.type "list") (.type T) = some bl) (ht : PySem.W.kitOne X.K (.type "tuple") (.type T) = some bt)
    (hs : PySem.W.kitOne X.K (.type "str") (.type T) = some bs) (hn : PySem.W.kitOne X.K (.type "NoneType") (.type T) = some bn)
    (h : ∀ k tk, (match d with | .int _ => k = bi | .bl _ => k = bb | .lst _ => k = bl | .tup _ => k = bt | .str _ => k = bs | .non => k = bn | .ins _ _ => False | .dic _ => False) → Q (.bool k) { s with toks := tk }) (no : ∀ C fs, d ≠ .ins C fs) (nd : ∀ ks, d ≠ .dic ks) :
    wpAny (model X.prog X.w) X.A (call (.builtin "isinstance") [u, .type T]) Q X.xe s := by
  cases d with
  | non => cases (show x = .non from q); cases r; exact PySem.W.kia_one PySem.W.kitx_none I.kIn True.intro hn (fun z => nomatch z) fun tk => h _ tk rfl
  | bl y => cases (show x = .bl y from q); cases r; exact PySem.W.kia_one PySem.W.kitx_bool I.kIn True.intro hb (fun z => nomatch z) fun tk => h _ tk rfl
  | int i => cases (show x = .int i from q); obtain ⟨t, rfl⟩ := r; exact PySem.W.kia_one PySem.W.kitx_int I.kIn True.intro hi (fun z => nomatch z) fun tk => h _ tk rfl
  | str y => cases (show x = .str y from q); obtain ⟨t, rfl⟩ := r; exact PySem.W.kia_one PySem.W.kitx_str I.kIn True.intro hs (fun z => nomatch z) fun tk => h _ tk rfl
  | lst ds =>
    obtain ⟨l, xs, e, t, _⟩ := q
    subst e
    cases r
    obtain ⟨its, _, pl, _⟩ := I.list (hF.lst t)
    obtain ⟨o, h1, h2, _⟩ := pl.isList
    exact PySem.W.kia_one PySem.W.kitx_list I.kIn ⟨o, h1, h2⟩ hl (fun z => nomatch z) fun tk => h _ tk rfl
  | tup ds =>
    obtain ⟨l, xs, e, t, _⟩ := q
    subst e
    cases r
    obtain ⟨its, _, pl, _⟩ := I.tuple (hF.tup t)
    obtain ⟨o, h1, h2, _⟩ := pl
    exact PySem.W.kia_one PySem.W.kitx_tuple I.kIn ⟨o, h1, h2⟩ ht (fun z => nomatch z) fun tk => h _ tk rfl
  | ins C fs => exact absurd rfl (no C fs)
  | dic ks => exact absurd rfl (nd ks)
theorem de_isi {T : String} {y : Str} {g : Dat → M Dat} (hc : CallR X (.builtin "isinstance") (fun xs H Q => ∃ v, xs = [v, .ty T] ∧ rD1 K W own g v H Q)) (hm : X.mg "isinstance" = none) (hmT : X.mg y = none) (hvT : bootBuiltins y = some (.type T)) (ha : DE K W false X a fa)
    (hg : Gl X "isinstance" := by rfl) (hgT : Gl X y := by rfl) (hn : y ≠ "__name__" := by decide) (hd : (y == ("__debug__" : Str)) = false := by decide)
    (hst : starEach [a, .Name y p2] X.env = [(false, eval a X.env), (false, eval (.Name y p2) X.env)] := by rfl) (hst2 : starEach [.Name y p2] X.env = [(false, eval (.Name y p2) X.env)] := by rfl) (hpl : (backTo pos (starEach [.Name y p2] X.env)).any (·.1) = false := by rfl) :
    DE K W own X (.Call (.Name "isinstance" p) [a, .Name y p2] [] pos) (f1 g fa) :=
  (pe_callB hc hg hm boot_isinstance (pa_cons ha (pa_cons (pe_tyN (pos := p2) hgT hmT hvT hn hd) pa_nil hst2) (by rw [hst, hst2])) (by decide) (by decide) (by rw [hst, hst2]) hpl).imp fun σ H Q h => by
    obtain ⟨F, ρ, r, s, q⟩ := rd_1 h
    refine ⟨F, ρ, r, s, ?_⟩
    cases e1 : fa ρ with
    | error z => rw [e1] at q; exact q
    | ok d => rw [e1] at q; exact fun v F' H' st z => ⟨v, rfl, q v F' H' st z⟩
theorem c_isi_int (kit : Kit K) (hK : X.K = K := by rfl) : CallR X (.builtin "isinstance") (fun xs H Q => ∃ v, xs = [v, .ty "int"] ∧ rD1 K W own isi_intD v H Q) := by
  subst hK
  intro pins s σ H xs us Q I r h
  obtain ⟨v, rfl, F, d, s1, q, p⟩ := h
  obtain ⟨u, w, rfl, ru, rw'⟩ := r.two
  cases (show w = Value.type "int" from rw')
  by_cases hi : (∃ C fs, d = .ins C fs) ∨ ∃ ks, d = .dic ks
  · rcases hi with ⟨C, fs, rfl⟩ | ⟨ks, rfl⟩ <;> exact Post.stuck p
  · refine isi_D I s1 q ru kit.q_int_int kit.q_bool_int kit.q_list_int kit.q_tuple_int kit.q_str_int kit.q_NoneType_int (fun k tk hk => ⟨.bl k, H, I.tok tk, rfl, ?_⟩) (fun C fs e => hi (.inl ⟨C, fs, e⟩)) (fun ks e => hi (.inr ⟨ks, e⟩))
    cases d <;> first | (have hk' : k = _ := hk; subst hk'; exact Post.bl (own := own) p s1) | exact absurd (.inl ⟨_, _, rfl⟩) hi | exact absurd (.inr ⟨_, rfl⟩) hi
theorem de_isi_int (kit : Kit K) (hm : X.mg "isinstance" = none) (hmT : X.mg "int" = none) (ha : DE K W false X a fa) (hK : X.K = K := by rfl)
    (hg : Gl X "isinstance" := by rfl) (hgT : Gl X "int" := by rfl)
    (hst : starEach [a, .Name "int" p2] X.env = [(false, eval a X.env), (false, eval (.Name "int" p2) X.env)] := by rfl) (hst2 : starEach [.Name "int" p2] X.env = [(false, eval (.Name "int" p2) X.env)] := by rfl) (hpl : (backTo pos (starEach [.Name "int" p2] X.env)).any (·.1) = false := by rfl) :
    DE K W own X (.Call (.Name "isinstance" p) [a, .Name "int" p2] [] pos) (f1 isi_intD fa) := de_isi (c_isi_int kit hK) hm hmT (by decide +kernel) ha hg hgT (by decide) (by decide) hst hst2 hpl
theorem c_isi_bool (kit : Kit K) (hK : X.K = K := by rfl) : CallR X (.builtin "isinstance") (fun xs H Q => ∃ v, xs = [v, .ty "bool"] ∧ rD1 K W own isi_boolD v H Q) := by
  subst hK
  intro pins s σ H xs us Q I r h
  obtain ⟨v, rfl, F, d, s1, q, p⟩ := h
  obtain ⟨u, w, rfl, ru, rw'⟩ := r.two
  cases (show w = Value.type "bool" from rw')
  by_cases hi : (∃ C fs, d = .ins C fs) ∨ ∃ ks, d = .dic ks
  · rcases hi with ⟨C, fs, rfl⟩ | ⟨ks, rfl⟩ <;> exact Post.stuck p
  · refine isi_D I s1 q ru kit.q_int_bool kit.q_bool_bool kit.q_list_bool kit.q_tuple_bool kit.q_str_bool kit.q_NoneType_bool (fun k tk hk => ⟨.bl k, H, I.tok tk, rfl, ?_⟩) (fun C fs e => hi (.inl ⟨C, fs, e⟩)) (fun ks e => hi (.inr ⟨ks, e⟩))
    cases d <;> first | (have hk' : k = _ := hk; subst hk'; exact Post.bl (own := own) p s1) | exact absurd (.inl ⟨_, _, rfl⟩) hi | exact absurd (.inr ⟨_, rfl⟩) hi
theorem de_isi_bool (kit : Kit K) (hm : X.mg "isinstance" = none) (hmT : X.mg "bool" = none) (ha : DE K W false X a fa) (hK : X.K = K := by rfl)
    (hg : Gl X "isinstance" := by rfl) (hgT : Gl X "bool" := by rfl)
    (hst : starEach [a, .Name "bool" p2] X.env = [(false, eval a X.env), (false, eval (.Name "bool" p2) X.env)] := by rfl) (hst2 : starEach [.Name "bool" p2] X.env = [(false, eval (.Name "bool" p2) X.env)] := by rfl) (hpl : (backTo pos (starEach [.Name "bool" p2] X.env)).any (·.1) = false := by rfl) :
    DE K W own X (.Call (.Name "isinstance" p) [a, .Name "bool" p2] [] pos) (f1 isi_boolD fa) := de_isi (c_isi_bool kit hK) hm hmT (by decide +kernel) ha hg hgT (by decide) (by decide) hst hst2 hpl
theorem c_isi_list (kit : Kit K) (hK : X.K = K := by rfl) : CallR X (.builtin "isinstance") (fun xs H Q => ∃ v, xs = [v, .ty "list"] ∧ rD1 K W own isi_listD v H Q) := by
  subst hK
  intro pins s σ H xs us Q I r h
  obtain ⟨v, rfl, F, d, s1, q, p⟩ := h
  obtain ⟨u, w, rfl, ru, rw'⟩ := r.two
  cases (show w = Value.type "list" from rw')
  by_cases hi : (∃ C fs, d = .ins C fs) ∨ ∃ ks, d = .dic ks
  · rcases hi with ⟨C, fs, rfl⟩ | ⟨ks, rfl⟩ <;> exact Post.stuck p
  · refine isi_D I s1 q ru kit.q_int_list kit.q_bool_list kit.q_list_list kit.q_tuple_list kit.q_str_list kit.q_NoneType_list (fun k tk hk => ⟨.bl k, H, I.tok tk, rfl, ?_⟩) (fun C fs e => hi (.inl ⟨C, fs, e⟩)) (fun ks e => hi (.inr ⟨ks, e⟩))
    cases d <;> first | (have hk' : k = _ := hk; subst hk'; exact Post.bl (own := own) p s1) | exact absurd (.inl ⟨_, _, rfl⟩) hi | exact absurd (.inr ⟨_, rfl⟩) hi
theorem de_isi_list (kit : Kit K) (hm : X.mg "isinstance" = none) (hmT : X.mg "list" = none) (ha : DE K W false X a fa) (hK : X.K = K := by rfl)
    (hg : Gl X "isinstance" := by rfl) (hgT : Gl X "list" := by rfl)
    (hst : starEach [a, .Name "list" p2] X.env = [(false, eval a X.env), (false, eval (.Name "list" p2) X.env)] := by rfl) (hst2 : starEach [.Name "list" p2] X.env = [(false, eval (.Name "list" p2) X.env)] := by rfl) (hpl : (backTo pos (starEach [.Name "list" p2] X.env)).any (·.1) = false := by rfl) :
    DE K W own X (.Call (.Name "isinstance" p) [a, .Name "list" p2] [] pos) (f1 isi_listD fa) := de_isi (c_isi_list kit hK) hm hmT (by decide +kernel) ha hg hgT (by decide) (by decide) hst hst2 hpl
theorem c_isi_tuple (kit : Kit K) (hK : X.K = K := by rfl) : CallR X (.builtin "isinstance") (fun xs H Q => ∃ v, xs = [v, .ty "tuple"] ∧ rD1 K W own isi_tupleD v H Q) := by
  subst hK
  intro pins s σ H xs us Q I r h
  obtain ⟨v, rfl, F, d, s1, q, p⟩ := h
  obtain ⟨u, w, rfl, ru, rw'⟩ := r.two
  cases (show w = Value.type "tuple" from rw')
  by_cases hi : (∃ C fs, d = .ins C fs) ∨ ∃ ks, d = .dic ks
  · rcases hi with ⟨C, fs, rfl⟩ | ⟨ks, rfl⟩ <;> exact Post.stuck p
  · refine isi_D I s1 q ru kit.q_int_tuple kit.q_bool_tuple kit.q_list_tuple kit.q_tuple_tuple kit.q_str_tuple kit.q_NoneType_tuple (fun k tk hk => ⟨.bl k, H, I.tok tk, rfl, ?_⟩) (fun C fs e => hi (.inl ⟨C, fs, e⟩)) (fun ks e => hi (.inr ⟨ks, e⟩))
    cases d <;> first | (have hk' : k = _ := hk; subst hk'; exact Post.bl (own := own) p s1) | exact absurd (.inl ⟨_, _, rfl⟩) hi | exact absurd (.inr ⟨_, rfl⟩) hi
theorem de_isi_tuple (kit : Kit K) (hm : X.mg "isinstance" = none) (hmT : X.mg "tuple" = none) (ha : DE K W false X a fa) (hK : X.K = K := by rfl)
    (hg : Gl X "isinstance" := by rfl) (hgT : Gl X "tuple" := by rfl)
    (hst : starEach [a, .Name "tuple" p2] X.env = [(false, eval a X.env), (false, eval (.Name "tuple" p2) X.env)] := by rfl) (hst2 : starEach [.Name "tuple" p2] X.env = [(false, eval (.Name "tuple" p2) X.env)] := by rfl) (hpl : (backTo pos (starEach [.Name "tuple" p2] X.env)).any (·.1) = false := by rfl) :
    DE K W own X (.Call (.Name "isinstance" p) [a, .Name "tuple" p2] [] pos) (f1 isi_tupleD fa) := de_isi (c_isi_tuple kit hK) hm hmT (by decide +kernel) ha hg hgT (by decide) (by decide) hst hst2 hpl
end
end L2
namespace L2
open PySem PySem.Spec PyProof.Rows
end L2
namespace L2
open PySem PySem.Spec PyProof.Rows
open PySem.W in
section
open PySem.W
variable {α β : Type} {lt : Nat → Nat → Bool}
variable {key : Nat → Int} {p : Array Nat}
noncomputable def ltK (key : Nat → Int) (i j : Nat) : Bool := decide (key i < key j)
end
end L2
namespace L2
open PySem PySem.Spec PyProof.Rows
section
open PySem.W
variable {α β : Type} {n : Nat}
variable {p : Array Nat}
end
section
open PySem.W
variable {prog : Program} {w : World} {A : Around} {E : Value → Shared → Prop} {s : Shared} {key : Nat → Int}
noncomputable def Asks (prog : Program) (w : World) (A : Around) (key : Nat → Int) (vs : List Value) (s' : Shared) : Prop :=
  wpAny (model prog w) A (keyKind' vs.toArray) (fun κ s2 => s2 = s' ∧ ∀ i j (C : Bool → Shared → Prop), i < vs.length → j < vs.length → C (ltK key i j) s' → kas_ask prog w A κ vs i j C s') (fun _ _ => False) s'
end
end L2
namespace L2
open PySem PySem.Spec PyProof.Rows
noncomputable def ltZ (a b : Int) : Bool := decide (a < b)
section
variable {α : Type} {lt : α → α → Bool}
structure Ord (lt : α → α → Bool) : Prop where
  irr : ∀ a, lt a a = false
  tr : ∀ a b c, lt a b = true → lt b c = true → lt a c = true
  tot : ∀ a b, lt a b = false → lt b a = false → a = b
theorem ordZ : Ord ltZ := ⟨fun a => by simp [ltZ], fun a b c h1 h2 => by simp [ltZ] at *; omega, fun a b h1 h2 => by simp [ltZ] at *; omega⟩
theorem Ord.le_trans (o : Ord lt) {a b c : α} (h1 : lt b a = false) (h2 : lt c b = false) : lt c a = false := by
  cases h : lt c a with
  | false => rfl
  | true =>
    cases h3 : lt b c with
    | true => rw [o.tr b c a h3 h] at h1; cases h1
    | false =>
      have := o.tot c b h2 h3
      subst this
      rw [h] at h1; cases h1
end
section
open PySem.W
variable {α : Type} {lt : α → α → Bool}
theorem getD_get {l : List α} {i : Nat} {d : α} (h : i < l.length) : l.getD i d = l[i] := by simp [h]
noncomputable def rk (lt : α → α → Bool) (zs : List α) (d : α) (i : Nat) : Int := ((zs.filter fun z => lt z (zs.getD i d)).length : Int)
theorem filter_lt {p q : α → Bool} (h : ∀ z, p z = true → q z = true) : ∀ l : List α, (l.filter p).length ≤ (l.filter q).length ∧ ((∃ z ∈ l, p z = false ∧ q z = true) → (l.filter p).length < (l.filter q).length)
  | [] => ⟨Nat.le_refl _, fun ⟨_, h, _⟩ => nomatch h⟩
  | x :: xs => by
    obtain ⟨i1, i2⟩ := filter_lt h xs
    cases hp : p x with
    | true =>
      have hq := h x hp
      rw [List.filter_cons_of_pos hp, List.filter_cons_of_pos hq]
      refine ⟨by simp; exact i1, fun ⟨z, hz, e1, e2⟩ => ?_⟩
      rcases List.mem_cons.mp hz with e | e
      · rw [e, hp] at e1; cases e1
      · have := i2 ⟨z, e, e1, e2⟩
        simp; exact this
    | false =>
      rw [List.filter_cons_of_neg (by simp [hp])]
      cases hq : q x with
      | true =>
        rw [List.filter_cons_of_pos hq]
        exact ⟨by simp; omega, fun _ => by simp; omega⟩
      | false =>
        rw [List.filter_cons_of_neg (by simp [hq])]
        refine ⟨i1, fun ⟨z, hz, e1, e2⟩ => ?_⟩
        rcases List.mem_cons.mp hz with e | e
        · rw [e, hq] at e2; cases e2
        · exact i2 ⟨z, e, e1, e2⟩
theorem rk_lt (o : Ord lt) {zs : List α} {d : α} {i j : Nat} (hi : i < zs.length) (hj : j < zs.length) : ltK (rk lt zs d) i j = lt (zs.getD i d) (zs.getD j d) := by
  unfold ltK rk
  have gi : zs.getD i d ∈ zs := by rw [getD_get hi]; exact List.getElem_mem hi
  have gj : zs.getD j d ∈ zs := by rw [getD_get hj]; exact List.getElem_mem hj
  cases h : lt (zs.getD i d) (zs.getD j d) with
  | true =>
    refine decide_eq_true ?_
    have := (filter_lt (p := fun z => lt z (zs.getD i d)) (q := fun z => lt z (zs.getD j d)) (fun z hz => o.tr _ _ _ hz h) zs).2 ⟨_, gi, o.irr _, h⟩
    omega
  | false =>
    refine decide_eq_false ?_
    have := (filter_lt (p := fun z => lt z (zs.getD j d)) (q := fun z => lt z (zs.getD i d)) (fun z hz => by
      cases h3 : lt z (zs.getD i d) with
      | true => rfl
      | false =>
        have e := o.le_trans h h3
        rw [hz] at e; cases e) zs).1
    omega
variable {X : Cx} {K : PySem.W.Frag} {W : Wish} {own : Bool}
theorem rk_ints (is : List Int) (i j : Nat) (hi : i < is.length) (hj : j < is.length) : ltK (rk ltZ is 0) i j = decide (is.getD i 0 < is.getD j 0) := rk_lt ordZ hi hj
theorem asks_ints {prog : Program} {w : World} {A : Around} {s' : Shared} {its : List Value} {is : List Int} (hi : IntsAre its is) (h2 : 2 ≤ its.length) : Asks prog w A (rk ltZ is 0) its s' := by
  have hl := hi.length
  obtain ⟨v1, v2, rest, rfl⟩ : ∃ v1 v2 rest, its = v1 :: v2 :: rest := by
    match its, h2 with
    | v1 :: v2 :: rest, _ => exact ⟨v1, v2, rest, rfl⟩
  unfold Asks
  rw [keyKind_ints hi]
  refine wpAny_pure ⟨rfl, fun i j C h1 h2 hc => ?_⟩
  unfold kas_ask
  obtain ⟨t1, e1⟩ := ints_at hi i h1
  obtain ⟨t2, e2⟩ := ints_at hi j h2
  rw [e1, e2]
  rw [rk_ints is i j (by omega) (by omega)] at hc
  exact kat_lt_int hc
where
  ints_at {vs : List Value} {ns : List Int} (h : IntsAre vs ns) (i : Nat) (hi : i < vs.length) : ∃ t, vs.getD i Value.none = .int (ns.getD i 0) t := by
    induction h generalizing i with
    | nil => simp at hi
    | cons n t r ih =>
      cases i with
      | zero => exact ⟨t, rfl⟩
      | succ i => obtain ⟨t', e⟩ := ih i (by simpa using hi); exact ⟨t', by simpa using e⟩
end
end L2
namespace L2
open PySem PySem.Spec PyProof.Rows
noncomputable def cX (n d : Nat) : Option Int → Nat
  | none => d
  | some v => if v < 0 then (v + (n : Int)).toNat else min v.toNat n
noncomputable def cutL {α : Type} (xs : List α) (lo hi : Option Int) : List α := (xs.drop (cX xs.length 0 lo)).take (cX xs.length xs.length hi - cX xs.length 0 lo)
noncomputable def sliceD : Dat → Option Int → Option Int → M Dat
  | .lst ds, lo, hi => .ok (.lst (cutL ds lo hi))
  | .tup ds, lo, hi => if (decide (cX ds.length 0 lo = 0) && decide (cX ds.length ds.length hi = ds.length)) = true then stk else .ok (.tup (cutL ds lo hi))
  | _, _, _ => stk
noncomputable def pNone : Env' → M (Option Int) := fun _ => .ok none
noncomputable def pSome (f : Env' → M Dat) : Env' → M (Option Int) := fun ρ => (f ρ).bind fun d => (asI d).bind fun i => .ok (some i)
noncomputable def fSl (g : Dat → Option Int → Option Int → M Dat) (fa : Env' → M Dat) (fl fu : Env' → M (Option Int)) : Env' → M Dat := fun ρ => (fa ρ).bind fun a => (fl ρ).bind fun l => (fu ρ).bind fun u => g a l u
section
variable {X : Cx} {K : PySem.W.Frag} {W : Wish} {own ro : Bool} {e a b c d : Expr} {lo hi : Option Expr} {es : List Expr} {x y : Str} {pos p p2 p3 q r t u : Pos} {f fa fb fc fd' fk : Env' → M Dat} {fl fu : Env' → M (Option Int)} {OL O : List Nat}
noncomputable def tDO (K : PySem.W.Frag) (W : Wish) (f : Env' → M (Option Int)) : TO := fun σ H Q => ∃ F ρ, RepE K F σ ρ ∧ Same F H ∧ (match f ρ with
  | .ok o => ∀ F' H', Step F H F' H' → Q o H'
  | .error e => W.p e F H)
theorem tDO_run {σ : St} {ρ : Env'} {F H : Hp} {R : Option Int → Hp → Prop} (r : RepE K F σ ρ) (s : Same F H) (hE : ∀ e, fl ρ = .error e → W.p e F H) (hO : ∀ o, fl ρ = .ok o → ∀ F1 H1, Step F H F1 H1 → R o H1) : tDO K W fl σ H R := by
  refine ⟨F, ρ, r, s, ?_⟩
  cases e : fl ρ with
  | ok d => exact hO d e
  | error x => exact hE x e
noncomputable abbrev DP (K : PySem.W.Frag) (W : Wish) (X : Cx) (e : Option Expr) (f : Env' → M (Option Int)) : Prop := PO X e (tDO K W f)
theorem PO.imp {t t' : TO} (h : PO X lo t) (q : ∀ σ H Q, t' σ H Q → t σ H Q) : PO X lo t' := fun pins s σ H Q I z => h pins s σ H Q I (q σ H Q z)
theorem dp_none : DP K W X none pNone := po_none.imp fun σ H Q ⟨F, ρ, r, s, p⟩ => p F H (Step.refl s)
theorem dp_some (h : DE K W false X e f) : DP K W X (some e) (pSome f) := (po_some h).imp fun σ H Q ⟨F, ρ, r, s, p⟩ => by
  refine tD_run r s (fun e he => ?_) fun d hd v F1 H1 s1 q1 => ?_
  · have z : pSome f ρ = .error e := by unfold pSome; rw [he]; rfl
    rw [z] at p; exact p
  · have z : pSome f ρ = (asI d).bind fun i => .ok (some i) := by unfold pSome; rw [hd]; rfl
    rw [z] at p
    cases d with
    | int i => exact ⟨i, q1, p F1 H1 s1⟩
    | _ => exact (W.ns p).elim
noncomputable def rDS (K : PySem.W.Frag) (W : Wish) (own : Bool) (g : Dat → Option Int → Option Int → M Dat) : V → Option Int → Option Int → Hp → VK → Prop := fun x lo hi H Q => ∃ F a, Same F H ∧ Deep K F a x ∧ Post K W own F H (g a lo hi) Q
theorem rd_sl {g : Dat → Option Int → Option Int → M Dat} {σ : St} {H : Hp} {Q : VK} (h : tD K W own (fSl g fa fl fu) σ H Q) : tSl (rDS K W own g) (tD K W false fa) (tDO K W fl) (tDO K W fu) σ H Q := by
  obtain ⟨F, ρ, r, s, p⟩ := h
  refine tD_run r s (fun e he => p.err (by unfold fSl; rw [he]; rfl)) fun a ha x F1 H1 s1 q1 => ?_
  refine tDO_run (r.mono s1.ff) s1.fh (fun e he => (p.step s1).err (by unfold fSl; rw [ha]; show (fl ρ).bind _ = _; rw [he]; rfl)) fun l hl F2 H2 s2 => ?_
  refine tDO_run ((r.mono s1.ff).mono s2.ff) s2.fh (fun e he => (p.step (s1.trans s2)).err (by unfold fSl; rw [ha]; show (fl ρ).bind _ = _; rw [hl]; show (fu ρ).bind _ = _; rw [he]; rfl)) fun u hu F3 H3 s3 => ?_
  refine ⟨F3, a, s3.fh, Deep.mono (s2.trans s3).ff q1, ?_⟩
  have e : fSl g fa fl fu ρ = g a l u := by unfold fSl; rw [ha]; show (fl ρ).bind _ = _; rw [hl]; show (fu ρ).bind _ = _; rw [hu]; rfl
  rw [e] at p
  exact p.step ((s1.trans s2).trans s3)
theorem de_sl {g : Dat → Option Int → Option Int → M Dat} (hr : SlR X (rDS K W own g)) (ha : DE K W false X a fa) (hl : DP K W X lo fl) (hu : DP K W X hi fu) : DE K W own X (.Subscript a (.Slice lo hi none p2) pos) (fSl g fa fl fu) := (pe_slice hr ha hl hu).imp fun _ _ _ => rd_sl
theorem cX_sIx (n d : Nat) (o : Option Int) : cX n d o = HT.sIx n d o := by cases o <;> rfl
theorem Deeps.cut {F : Hp} {ds : List Dat} {xs : List V} {l u : Option Int} (h : Deeps K F ds xs) : Deeps K F (cutL ds l u) (cutV xs l u) := by
  unfold cutL cutV
  rw [cX_sIx, cX_sIx, h.length]
  exact Deeps.take _ (Deeps.drop _ h)
theorem x_sl (hK : X.K = K := by rfl) : SlR X (rDS K W true sliceD) := by
  subst hK
  intro pins s σ H x v vl vu lo hi sl Q I rx hs pl pu h
  refine (SlR.or sl_list sl_tup) pins s σ H x v vl vu lo hi sl Q I rx hs pl pu ?_
  obtain ⟨F, a, s1, qa, p⟩ := h
  cases a with
  | lst ds =>
    obtain ⟨l, xs, e, t, z⟩ := qa
    exact .inl ⟨l, xs, e, s1.lst t, fun r hr => Post.lst p s1 z.cut hr⟩
  | tup ds =>
    obtain ⟨l, xs, e, t, z⟩ := qa
    have p' : Post X.K W true F H (if (decide (cX ds.length 0 lo = 0) && decide (cX ds.length ds.length hi = ds.length)) = true then stk else .ok (.tup (cutL ds lo hi))) Q := p
    by_cases hc : (decide (cX ds.length 0 lo = 0) && decide (cX ds.length ds.length hi = ds.length)) = true
    · rw [if_pos hc] at p'; exact p'.stuck
    · rw [if_neg hc] at p'
      refine .inr ⟨l, xs, e, s1.tup t, fun hw => hc ?_, fun r hr => Post.tup p' s1 z.cut hr⟩
      rw [cX_sIx, cX_sIx, ← z.length]
      simp only [Bool.and_eq_true, decide_eq_true_eq]
      exact hw
  | _ => exact Post.stuck p
end
section
variable {ρ : Env'} {fa fb fc fd' : Env' → M Dat} {fl fu : Env' → M (Option Int)}
@[simp] theorem e_pNone : pNone ρ = .ok none := id rfl
@[simp] theorem e_pSome : pSome fa ρ = (fa ρ).bind fun d => (asI d).bind fun i => .ok (some i) := id rfl
@[simp] theorem e_slF (k : Dat → Option Int → Option Int → M Dat) : fSl k fa fl fu ρ = (fa ρ).bind fun a => (fl ρ).bind fun l => (fu ρ).bind fun u => k a l u := id rfl
@[simp] theorem e_sliceL (ds : List Dat) (lo hi : Option Int) : sliceD (.lst ds) lo hi = .ok (.lst (cutL ds lo hi)) := id rfl
@[simp] theorem e_pow {i j : Int} (h0 : 0 ≤ j) (h1 : j ≤ 1000000) (h2 : i.natAbs < 2 ^ 64) : powD (.int i) (.int j) = .ok (.int (i ^ j.toNat)) := by
  show (if (decide (0 ≤ j) && decide (j ≤ 1000000) && decide (i.natAbs < 2 ^ 64)) = true then _ else _) = _
  rw [if_pos (by simp only [Bool.and_eq_true, decide_eq_true_eq]; exact ⟨⟨h0, h1⟩, h2⟩)]
@[simp] theorem e_eqII (i j : Int) : eqM (.int i) (.int j) = .ok (.bl (decide (i = j))) := by
  show Except.ok (Dat.bl (i == j)) = _
  rw [show (i == j) = decide (i = j) from rfl]
@[simp] theorem e_neII (i j : Int) : neM (.int i) (.int j) = .ok (.bl (!decide (i = j))) := by
  show Except.ok (Dat.bl (!(i == j))) = _
  rw [show (i == j) = decide (i = j) from rfl]
@[simp] theorem cut_take {α : Type} (xs : List α) {j : Int} (h : 0 ≤ j) : cutL xs none (some j) = xs.take j.toNat := by
  unfold cutL cX
  simp only [if_neg (show ¬ j < 0 by omega), List.drop_zero, Nat.sub_zero]
  rcases Nat.le_total j.toNat xs.length with h1 | h1
  · rw [Nat.min_eq_left h1]
  · rw [Nat.min_eq_right h1, List.take_length, List.take_of_length_le h1]
@[simp] theorem cut_drop {α : Type} (xs : List α) {j : Int} (h : 0 ≤ j) : cutL xs (some j) none = xs.drop j.toNat := by
  unfold cutL cX
  simp only [if_neg (show ¬ j < 0 by omega)]
  rcases Nat.le_total j.toNat xs.length with h1 | h1
  · rw [Nat.min_eq_left h1, List.take_of_length_le (by simp)]
  · rw [Nat.min_eq_right h1, List.drop_of_length_le h1, List.drop_length]; simp
end
end L2
namespace L2
open PySem PySem.Spec PyProof.Rows
section
variable {X : Cx} {K : PySem.W.Frag} {W : Wish} {own ro : Bool} {e a b c d : Expr} {st : Option Expr} {te : TE} {tp : TO} {es : List Expr} {x y : Str} {pos p p2 p3 p4 q r t u : Pos} {f fa fb fc fk : Env' → M Dat} {fp : Env' → M (Option Int)} {OL O : List Nat}
end
end L2
namespace L2
open PySem PySem.Spec PyProof.Rows
noncomputable def attrD (Cs : List Addr) (x : Str) : Dat → M Dat
  | .ins C fs => if Cs.contains C = true then (match fs.lookup x with
    | some d => .ok d
    | none => stk) else stk
  | _ => stk
noncomputable def isC (C : Addr) (m : Str) : Dat → Bool
  | .ins D fs => (D == C) && (fs.lookup m).isNone
  | _ => false
noncomputable def fMeth (C : Addr) (m : Str) (g : List Dat → M Dat) (fo : Env' → M Dat) (fr : Env' → M (List Dat)) : Env' → M Dat := fun ρ => (fo ρ).bind fun o => if isC C m o = true then (fr ρ).bind fun as => g (o :: as) else stk
noncomputable def fMeth2 (C C2 : Addr) (m : Str) (g g2 : List Dat → M Dat) (fo : Env' → M Dat) (fr : Env' → M (List Dat)) : Env' → M Dat := fun ρ => (fo ρ).bind fun o => if isC C m o = true then (fr ρ).bind fun as => g (o :: as) else if isC C2 m o = true then (fr ρ).bind fun as => g2 (o :: as) else stk
noncomputable def newR (C : Addr) (g : List Dat → M Dat) : List Dat → M Dat
  | [d] => (g [d]).bind fun r => .ok (.ins C [("gaps", r)])
  | _ => stk
noncomputable def twoL : Dat → Dat → Bool
  | .lst xs, .lst ys => decide (xs.length = ys.length)
  | _, _ => false
section
variable {X : Cx} {K : PySem.W.Frag} {W : Wish} {own ro : Bool} {e o a b c d : Expr} {es : List Expr} {x y m : Str} {pos p p2 apos : Pos} {f fa fo : Env' → M Dat} {fr : Env' → M (List Dat)} {OL O O' : List Nat} {C C2 : Addr} {Cs : List Addr}
theorem DeepF.at {F : Hp} {x : Str} : ∀ {gs : List (Str × Dat)} {fs : List (Str × V)}, DeepF K F gs fs → (∀ d, gs.lookup x = some d → ∃ v, fs.lookup x = some v ∧ Deep K F d v) ∧ (gs.lookup x = none → fs.lookup x = none)
  | [], fs, h => by cases (show fs = [] from h); exact ⟨fun d h => by simp at h, fun _ => rfl⟩
  | (g, d) :: gs, fs, h => by
    obtain ⟨v, r, rfl, h1, h2⟩ := h
    have ih := DeepF.at (x := x) h2
    rw [List.lookup_cons, List.lookup_cons]
    cases e : x == g with
    | true => exact ⟨fun d' h' => by cases h'; exact ⟨v, rfl, h1⟩, fun h' => by cases h'⟩
    | false => exact ih
theorem de_fld (hC : ∀ C ∈ Cs, Cls K C ∧ NoAttr K C y) (he : DE K W false X e fa) (hb : attributeBase e y X.env (eval e X.env) = eval e X.env := by rfl) (hK : X.K = K := by rfl) : DE K W false X (.Attribute e y pos) (f1 (attrD Cs y) fa) := by
  subst hK
  refine (pe_fld he hb).imp fun σ H Q h => ?_
  obtain ⟨F, ρ, r, s, p⟩ := h
  refine tD_run r s (fun e he => p.err (by unfold f1; rw [he]; rfl)) fun a ha x F1 H1 s1 q1 => ?_
  have ez : f1 (attrD Cs y) fa ρ = attrD Cs y a := by unfold f1; rw [ha]; rfl
  rw [ez] at p
  cases a with
  | ins C gs =>
    obtain ⟨l, dx, fs, e1, ea, df⟩ := q1
    have p' : Post X.K W false F H (if Cs.contains C = true then (match gs.lookup y with
      | some d => .ok d
      | none => stk) else stk) Q := p
    by_cases hc : Cs.contains C = true
    · rw [if_pos hc] at p'
      obtain ⟨h1, h2⟩ := hC C (by simpa using hc)
      cases hl : gs.lookup y with
      | none => rw [hl] at p'; exact Post.stuck p'
      | some d =>
        rw [hl] at p'
        obtain ⟨v, hv, hd⟩ := df.at.1 d hl
        exact ⟨l, C, dx, fs, v, e1, s1.fh _ _ ea, h1, h2, hv, (p'.step s1) v F1 H1 (Step.refl s1.fh) hd⟩
    · rw [if_neg hc] at p'; exact Post.stuck p'
  | _ => exact Post.stuck p
theorem PE.or {t1 t2 : TE} (h1 : PE X e t1) (h2 : PE X e t2) : PE X e (fun σ H Q => t1 σ H Q ∨ t2 σ H Q) := fun pins s σ H Q I h => h.elim (h1 pins s σ H Q I) (h2 pins s σ H Q I)
theorem rd_meth {nN n : Nat} {g : Env' → M Flo} {σ : St} {H : Hp} {Q : VK} (h : tD K Wno ro (fMeth C m (runB nN n g) fo fr) σ H Q) : tMeth C m (spF K ro (runB nN n g) n) [] E0 (tD K Wno false fo) (tDA K Wno fr) σ H Q := by
  obtain ⟨F, ρ, r, s, p⟩ := h
  refine tD_run r s (fun e he => p.err (by unfold fMeth; rw [he]; rfl)) fun o ho x F1 H1 s1 q1 => ?_
  have ez : fMeth C m (runB nN n g) fo fr ρ = if isC C m o = true then (fr ρ).bind fun as => runB nN n g (o :: as) else stk := by unfold fMeth; rw [ho]; rfl
  rw [ez] at p
  by_cases hc : isC C m o = true
  · rw [if_pos hc] at p
    cases o with
    | ins D gs =>
      obtain ⟨l, dx, fs, e1, ea, df⟩ := id q1
      have hc' : ((D == C) && (gs.lookup m).isNone) = true := hc
      rw [Bool.and_eq_true] at hc'
      obtain ⟨hD, hn⟩ := hc'
      have hD : D = C := by simpa using hD
      subst hD
      refine ⟨l, dx, fs, e1, s1.fh _ _ ea, df.at.2 (by simpa using hn), ?_⟩
      have p := p.step s1
      refine tDA_run (r.mono s1.ff) s1.fh (fun e he => p.err (by rw [he]; rfl)) fun as has vs F2 H2 s2 qs => ?_
      rw [has] at p
      have p : Post K Wno ro F1 H1 (runB nN n g (.ins D gs :: as)) Q := p
      have p := p.step s2
      show spF K ro (runB nN n g) n (x :: (vs ++ [])) H2 Q E0
      rw [List.append_nil]
      by_cases hl : (Dat.ins D gs :: as).length = n
      · exact ⟨F2, .ins D gs :: as, s2.fh, ⟨x, vs, rfl, Deep.mono s2.ff q1, qs⟩, hl, p⟩
      · rw [runB_len hl] at p
        exact Post.stuck p
    | _ => cases hc
  · rw [if_neg hc] at p; exact Post.stuck p
theorem rd_meth2 {nN n nN2 n2 : Nat} {g g2 : Env' → M Flo} {σ : St} {H : Hp} {Q : VK} (h : tD K Wno ro (fMeth2 C C2 m (runB nN n g) (runB nN2 n2 g2) fo fr) σ H Q) :
    tD K Wno ro (fMeth C m (runB nN n g) fo fr) σ H Q ∨ tD K Wno ro (fMeth C2 m (runB nN2 n2 g2) fo fr) σ H Q := by
  obtain ⟨F, ρ, r, s, p⟩ := h
  cases ho : fo ρ with
  | error e =>
    refine .inl ⟨F, ρ, r, s, ?_⟩
    have e1 : fMeth2 C C2 m (runB nN n g) (runB nN2 n2 g2) fo fr ρ = .error e := by unfold fMeth2; rw [ho]; rfl
    have e2 : fMeth C m (runB nN n g) fo fr ρ = .error e := by unfold fMeth; rw [ho]; rfl
    rw [e1] at p; rw [e2]; exact p
  | ok o =>
    have e1 : fMeth2 C C2 m (runB nN n g) (runB nN2 n2 g2) fo fr ρ = if isC C m o = true then (fr ρ).bind fun as => runB nN n g (o :: as) else if isC C2 m o = true then (fr ρ).bind fun as => runB nN2 n2 g2 (o :: as) else stk := by unfold fMeth2; rw [ho]; rfl
    have e2 : fMeth C m (runB nN n g) fo fr ρ = if isC C m o = true then (fr ρ).bind fun as => runB nN n g (o :: as) else stk := by unfold fMeth; rw [ho]; rfl
    have e3 : fMeth C2 m (runB nN2 n2 g2) fo fr ρ = if isC C2 m o = true then (fr ρ).bind fun as => runB nN2 n2 g2 (o :: as) else stk := by unfold fMeth; rw [ho]; rfl
    rw [e1] at p
    by_cases hc : isC C m o = true
    · rw [if_pos hc] at p e2
      exact .inl ⟨F, ρ, r, s, by rw [e2]; exact p⟩
    · rw [if_neg hc] at p
      exact .inr ⟨F, ρ, r, s, by rw [e3]; exact p⟩
noncomputable def MethEq (X : Cx) (o : Expr) (m : Str) (apos : Pos) (es : List Expr) (pos : Pos) (pl : Sem Bool) : Prop := eval (.Call (.Attribute o m apos) es [] pos) X.env = (do let ov ← eval o X.env; standAt apos.atName; let (f, first) ← holding [ov] (getMethod ov m pl); callWith pos f first (backTo pos (starEach es X.env)) (backToKw pos (keywordEach [] X.env)))
section
variable {k nN n nN2 n2 : Nat} {fad fad2 : Addr} {fd fd2 : FuncData} {ps : List Str} {g g2 : Env' → M Flo} {pl : Sem Bool}
theorem pe_methD0 (c : Cls X.K C) (M : Meth X.K C m fad) (F : FnOk X.prog X.w X.K X.mg X.base CX0 k fad fd ps (spF X.K ro (runB nN n g) n)) (hr : Room k X.A) (hb : Binds X.K fd ps []) (ho : DE X.K Wno false X o fo)
    (ht : MethEq X o m apos [] pos pl) : DE X.K Wno ro X (.Call (.Attribute o m apos) [] [] pos) (fMeth C m (runB nN n g) fo fNil) :=
  (pe_meth0 (pl := pl) ho c M F hr hb .nil pass0 ht).imp fun σ H Q h => by
    obtain ⟨F, ρ, r, s, z⟩ := rd_meth h
    refine ⟨F, ρ, r, s, ?_⟩
    cases e1 : fo ρ with
    | error z' => rw [e1] at z; exact z
    | ok od =>
      rw [e1] at z
      intro v F' H' st q
      obtain ⟨l, dx, fs, h1, h2, h3, h4⟩ := z v F' H' st q
      exact ⟨l, dx, fs, h1, h2, h3, rd_nil h4⟩
theorem de_meth2z {k2 : Nat} {ps2 : List Str} (c : Cls K C) (M : Meth K C m fad) (F : FnOk X.prog X.w X.K X.mg X.base CX0 k fad fd ps (spF K ro (runB nN n g) n)) (hr : Room k X.A) (hb : Binds X.K fd ps [])
    (c2 : Cls K C2) (M2 : Meth K C2 m fad2) (F2 : FnOk X.prog X.w X.K X.mg X.base CX0 k2 fad2 fd2 ps2 (spF K ro (runB nN2 n2 g2) n2)) (hr2 : Room k2 X.A) (hb2 : Binds X.K fd2 ps2 []) (ho : DE K Wno false X o fo)
    (hK : X.K = K := by rfl) (ht : MethEq X o m apos [] pos pl := by rfl) :
    DE K Wno ro X (.Call (.Attribute o m apos) [] [] pos) (fMeth2 C C2 m (runB nN n g) (runB nN2 n2 g2) fo fNil) := by
  subst hK
  exact (PE.or (pe_methD0 c M F hr hb ho ht) (pe_methD0 c2 M2 F2 hr2 hb2 ho ht)).imp fun _ _ _ => rd_meth2
end
theorem Step.born {F H F' H' : Hp} {x dx : Addr} {fs : List (Str × V)} (s : Same F H) (hx : H x = none) (hdx : H dx = none) (hne : dx ≠ x) (h1 : Same F F') (h2 : Same F' H') (h3 : F' x = none) (h4 : ∀ b o, F' b = some o → F b = some o ∨ upd (upd H dx (.own x)) x (.ins C dx []) b = none)
    (h5 : ∀ c o, upd (upd H dx (.own x)) x (.ins C dx []) c = some o → c ≠ x → H' c = some o) (h6 : H' x = some (.ins C dx fs)) : Step F H (upd F' x (.ins C dx fs)) H' where
  ff := h1.trans (Same.upd h3)
  hh := fun c o e => by
    have hc : c ≠ x := fun h => by rw [h, hx] at e; cases e
    have hd : c ≠ dx := fun h => by rw [h, hdx] at e; cases e
    exact h5 c o (by rw [upd_ne hc, upd_ne hd]; exact e) hc
  fh := fun c o e => by
    by_cases hc : c = x
    · subst hc; rw [upd_same] at e; rw [h6]; exact e
    · rw [upd_ne hc] at e; exact h2 _ _ e
  nw := fun c o e => by
    by_cases hc : c = x
    · subst hc; exact .inr hx
    · rw [upd_ne hc] at e
      rcases h4 c o e with z | z
      · exact .inl z
      · refine .inr ?_
        by_cases hd : c = dx
        · subst hd; exact hdx
        · rw [upd_ne hc, upd_ne hd] at z; exact z
end
end L2
namespace L2
open PySem PySem.Spec PyProof.Rows
end L2
namespace L2
open PySem PySem.Spec PyProof.Rows
end L2
namespace L2
open PySem PySem.Spec PyProof.Rows
end L2
namespace L2
open PySem PySem.Spec PyProof.Rows
section
variable {X : Cx} {K : PySem.W.Frag} {W : Wish} {own ro : Bool}
open Classical in
end
end L2
namespace L2
open PySem PySem.Spec PyProof.Rows
noncomputable abbrev ZRec (h : Heap) (z p q : Addr) (m k : Value) : Prop := h.get? z = some { cls := .type "zip", dict := none, data := .fields #[m, k, .bool false, .ref p, .ref q], slots := #[] }
structure Zs (z p q u v l m : Addr) (r k a b : Value) (i j : Nat) (xs ys : Array Value) (h : Heap) : Prop where
  me : ZRec h z p q r k
  its : IsPair h p (.ref u) (.ref v)
  own : IsPair h q a b
  one : h.IsListIter u l i
  two : h.IsListIter v m j
  xl : h.IsList l xs
  yl : h.IsList m ys
noncomputable def Off (z q u v : Addr) (h h' : Heap) : Prop := ∀ c o, c ≠ z → c ≠ q → c ≠ u → c ≠ v → h.get? c = some o → h'.get? c = some o
section
variable {z p q u v l m : Addr} {r k a b : Value} {i j n : Nat} {xs ys : Array Value} {h h' g : Heap}
theorem Off.then (A : Off z q u v h h') (B : Off z q u v h' g) : Off z q u v h g := fun c o a b d e x => B c o a b d e (A c o a b d e x)
end
inductive Mem : Value → Prop
  | no : Mem .none
  | was (a : Int) (t : Tok) : Mem (.int a t)
end L2
namespace L2
open PySem PySem.Spec PyProof.Rows
inductive Laid2 : Hp → List (V × V) → List V → Hp → Prop
  | nil {G : Hp} : Laid2 G [] [] G
  | cons {G G' : Hp} {T : Addr} {x y : V} {ps : List (V × V)} {vs : List V} : G T = none → Laid2 (upd G T (.tup [x, y])) ps vs G' → Laid2 G ((x, y) :: ps) (.ref T :: vs) G'
end L2
namespace L2
open PySem PySem.Spec PyProof.Rows
noncomputable def repD : Dat → Dat → M Dat
  | .lst ds, .int k => if (decide (-(2 ^ 63) ≤ k) && decide (k < 2 ^ 63) && decide (ds.length * k.toNat ≤ sizeLine)) = true then .ok (.lst (List.replicate k.toNat ds).flatten) else stk
  | _, _ => stk
@[simp] theorem e_rep {ds : List Dat} {k : Int} (h0 : -9223372036854775808 ≤ k) (h1 : k < 9223372036854775808) (h2 : ds.length * k.toNat ≤ 16777216) : repD (.lst ds) (.int k) = .ok (.lst (List.replicate k.toNat ds).flatten) := by
  show (if _ then _ else _) = _
  rw [if_pos]; simp only [Bool.and_eq_true, decide_eq_true_eq]
  exact ⟨⟨by omega, by omega⟩, by rw [sizeLine_eq]; exact h2⟩
theorem Deeps.rep {K : PySem.W.Frag} {F : Hp} {ds : List Dat} {xs : List V} (h : Deeps K F ds xs) : ∀ m : Nat, Deeps K F (List.replicate m ds).flatten (List.replicate m xs).flatten
  | 0 => rfl
  | m + 1 => by
    rw [List.replicate_succ, List.replicate_succ, List.flatten_cons, List.flatten_cons]
    exact h.append (Deeps.rep h m)
section
variable {X : Cx} {K : PySem.W.Frag} {W : Wish} {a b : Expr} {pos : Pos} {fa fb : Env' → M Dat}
theorem de_rep (ha : DE K W true X a fa) (hb : DE K W false X b fb) : DE K W true X (.BinOp a .Mult b pos) (f2 repD fa fb) := by
  refine PE.imp (pe_op op_rep ha hb) fun σ H Q h => ?_
  obtain ⟨F, ρ, r, s, p⟩ := h
  refine tD_run r s (fun e he => p.err (by unfold f2; rw [he]; rfl)) fun x hx v F1 H1 s1 q1 => ?_
  refine tD_run (r.mono s1.ff) s1.fh (fun e he => (p.step s1).err (by unfold f2; rw [hx]; show (fb ρ).bind _ = _; rw [he]; rfl)) fun y hy u F2 H2 s2 q2 => ?_
  have e : f2 repD fa fb ρ = repD x y := by unfold f2; rw [hx]; show (fb ρ).bind _ = _; rw [hy]; rfl
  rw [e] at p
  cases x with
  | lst ds =>
    cases y with
    | int k =>
      obtain ⟨l, xs, e1, t1, t2, t3, t4⟩ := q1
      have e2 : u = .int k := q2
      have p' : Post K W true F H (if (decide (-(2 ^ 63) ≤ k) && decide (k < 2 ^ 63) && decide (ds.length * k.toNat ≤ sizeLine)) = true then .ok (.lst (List.replicate k.toNat ds).flatten) else stk) Q := p
      by_cases hc : (decide (-(2 ^ 63) ≤ k) && decide (k < 2 ^ 63) && decide (ds.length * k.toNat ≤ sizeLine)) = true
      · rw [if_pos hc] at p'; simp only [Bool.and_eq_true, decide_eq_true_eq] at hc
        have t4' := t4.mono s2.ff
        refine ⟨l, k, xs, e1, e2, s2.hh l _ t1, hc.1.1, hc.1.2, by rw [t4.length]; exact hc.2, fun z hz => ?_⟩
        exact (p'.step (s1.trans s2)).lst s2.fh (t4'.rep k.toNat) hz
      · rw [if_neg hc] at p'; exact p'.stuck
    | _ => exact Post.stuck p
  | _ => exact Post.stuck p
end
end L2
namespace L2
open PySem PySem.Spec PyProof.Rows
structure Owns (K : PySem.W.Frag) (F G H : Hp) (ds : List Dat) (vs : List V) : Prop where
  len : vs.length = ds.length
  get : ∀ (k : Nat) (d : Dat), ds[k]? = some d → ∃ a xs es, vs[k]? = some (.ref a) ∧ d = .lst es ∧ H a = some (.lst xs) ∧ F a = none ∧ G a = none ∧ Deeps K F es xs
  ap : ∀ (j k : Nat) (a : Addr), vs[j]? = some (.ref a) → vs[k]? = some (.ref a) → j = k
end L2
namespace L2
open PySem PySem.Spec PyProof.Rows
end L2
namespace L2
open PySem PySem.Spec PyProof.Rows
structure Ys (z p q u v l m : Addr) (r k a b : Value) (i j : Nat) (xs ys : Array Value) (h : Heap) : Prop where
  me : ZRec h z p q r k
  its : IsPair h p (.ref u) (.ref v)
  own : IsPair h q a b
  one : h.IsTupleIter u l i
  two : h.IsTupleIter v m j
  xl : h.IsTuple l xs
  yl : h.IsTuple m ys
end L2
namespace L2
open PySem PySem.Spec PyProof.Rows
structure RepR (K : PySem.W.Frag) (F0 H0 FB : Hp) (i : Nat) (a : Addr) (ys : List V) (rs : List Dat) (F H : Hp) (σ : St) (ρ : Env') : Prop where
  r : Rep K F0 H0 FB [] F H σ ρ
  sl : σ[i]? = some (some (.ref a))
  hp : H a = some (.lst ys)
  fa : F a = none
  ha : H0 a = none
  nm : ∀ m : Nat, ys[m]? ≠ some (.ref a)
  ow : Owns K F H0 H rs ys
section
variable {K : PySem.W.Frag} {F0 H0 FB F H F1 H1 : Hp} {i : Nat} {a : Addr} {ys : List V} {rs : List Dat} {σ : St} {ρ : Env'}
theorem RepR.base {FB' : Hp} (h : RepR K F0 H0 FB i a ys rs F H σ ρ) (s : Same FB' FB) : RepR K F0 H0 FB' i a ys rs F H σ ρ := ⟨h.r.base s, h.sl, h.hp, h.fa, h.ha, h.nm, h.ow⟩
end
end L2
namespace L2
open PySem PySem.Spec PyProof.Rows
section
variable {κ : Type} [DecidableEq κ]
noncomputable def dropK (kvs : List (κ × V)) (k : κ) : List (κ × V) := kvs.filter fun kv => decide (kv.1 ≠ k)
theorem RelO.getD {o : Option V} {u : Option Value} {d : V} {d' : Value} (r : RelO o u) (rd : RelV d d') : RelV (o.getD d) (u.getD d') := by
  cases o with
  | none => cases u with
    | none => exact rd
    | some _ => exact (show False from r).elim
  | some _ => cases u with
    | none => exact (show False from r).elim
    | some _ => exact r
theorem KV.drop {kvs : List (κ × V)} {vs : List (κ × Value)} (r : KV kvs vs) (k : κ) : KV (dropK kvs k) (without vs k) := by
  unfold KV at r ⊢
  unfold dropK without
  induction r with
  | nil => exact .nil
  | @cons p q ps qs h t ih =>
    obtain ⟨h1, h2⟩ := h
    rw [List.filter_cons, List.filter_cons]
    by_cases e : p.1 = k
    · have a : ¬ decide (p.1 ≠ k) = true := by simp [e]
      have b : ¬ decide (q.1 ≠ k) = true := by simp [h1.symm.trans e]
      rw [if_neg a, if_neg b]; exact ih
    · have e' : ¬ q.1 = k := fun z => e (h1.trans z)
      have a : decide (p.1 ≠ k) = true := by simp [e]
      have b : decide (q.1 ≠ k) = true := by simp [e']
      rw [if_pos a, if_pos b]; exact .cons ⟨h1, h2⟩ ih
theorem KV.length {kvs : List (κ × V)} {vs : List (κ × Value)} (r : KV kvs vs) : kvs.length = vs.length := Paired.length r
end
section
variable {X : Cx} {pins : List (Addr × Obj)} {σ : St} {H : Hp} {s : Shared} {a : Addr} {y v : V} {u r : Value} {o : Option V} {A : Around} {E : Value → Shared → Prop}
theorem Inv.big (I : Inv X pins σ H s) : sysModules < s.heap.objs.size := by
  have h : mainGlobals < s.heap.objs.size := (I.mod.glob.keeps I.bk).lt
  exact Nat.lt_trans (by decide) h
end
structure M1 (X : Cx) (o : Expr) (m : Str) (apos : Pos) (e : Expr) (cpos : Pos) : Prop where
  base : attributeBase o m X.env (eval o X.env) = eval o X.env
  few : ((backTo cpos (starEach [e] X.env)).all (fun x => !x.1) && (backToKw cpos (keywordEach [] X.env)).all (fun x => x.1.isSome)
    && decide (([e] : List Expr).length + ([] : List Keyword).length + (if ([] : List Keyword).isEmpty then 0 else 1) < 30)) = true
  line : (apos.endLine == cpos.line) = true
  trees : backTo cpos (starEach [e] X.env) = [(false, eval e X.env)]
structure M2 (X : Cx) (o : Expr) (m : Str) (apos : Pos) (e f : Expr) (cpos : Pos) : Prop where
  base : attributeBase o m X.env (eval o X.env) = eval o X.env
  few : ((backTo cpos (starEach [e, f] X.env)).all (fun x => !x.1) && (backToKw cpos (keywordEach [] X.env)).all (fun x => x.1.isSome)
    && decide (([e, f] : List Expr).length + ([] : List Keyword).length + (if ([] : List Keyword).isEmpty then 0 else 1) < 30)) = true
  line : (apos.endLine == cpos.line) = true
  trees : backTo cpos (starEach [e, f] X.env) = [(false, eval e X.env), (false, eval f X.env)]
end L2
namespace L2
open PySem PySem.Spec PyProof.Rows
noncomputable def keysI (ks : List Int) : List (Key × V) := ks.map fun k => (Sum.inl k, .bl true)
structure RepK (K : PySem.W.Frag) (F0 H0 FB : Hp) (i : Nat) (a : Addr) (ks : List Int) (F H : Hp) (σ : St) (ρ : Env') : Prop where
  r : Rep K F0 H0 FB [] F H σ ρ
  sl : σ[i]? = some (some (.ref a))
  hp : H a = some (.dK (keysI ks))
  fa : F a = none
  ha : H0 a = none
end L2
namespace L2
open PySem PySem.Spec PyProof.Rows
structure ExA (h : Heap) (e : Addr) (C : Value) (dx hd : Option Addr) : Prop where
  ob : ∃ oe vs, h.get? e = some oe ∧ oe.cls = C ∧ oe.dict = dx ∧ oe.data = .fields vs ∧ vs[1]? = some (hd.elim Value.none Value.ref)
  tb : ∀ T, hd = some T → T ≠ e ∧ ∃ oT ts, h.get? T = some oT ∧ oT.data = .fields ts ∧ ts[3]? = some .none
theorem dictMapF (f : Array Value → Array Value) (o : Obj) : (o.mapFields f).dict = o.dict := by
  obtain ⟨c, d, dt, sl⟩ := o
  cases dt <;> rfl
theorem size3 {l : List Value} (h : 3 < l.length) : 3 < l.toArray.size := by rw [List.size_toArray]; exact h
section
variable {M : Model} {A : Around} {E : Value → Shared → Prop} {s : Shared}
theorem mkEntry {hv fv lv : Value} {pl : List Value} {Q : Value → Shared → Prop} (hp : IsPlace pl) (h : ∀ (o : Obj) (ts : Array Value), o.data = .fields ts → 3 < ts.size → o.isFreed = false → Q (.ref s.heap.objs.size) { s with heap := s.heap.push o }) :
    wpAny M A (EntryCells.newEntry hv fv .none lv .none pl) Q E s := by
  unfold EntryCells.newEntry newFields
  refine wpAny_newObj_type (h _ _ rfl (size3 ?_) ?_) (hp.sizeOk5 _ _ _ _ _)
  · simp
  · exact Obj.isFreed_of_fields rfl
structure Left (fs : List Addr) (e : Addr) (hd : Option Addr) (h h' : Heap) : Prop where
  keep : ∀ b o, h.get? b = some o → b ∉ fs → b ≠ e → (∀ T, hd = some T → b ≠ T) → h'.get? b = some o
  slot : ∀ b o, h.get? b = some o → b ∈ fs → ∃ sl, h'.get? b = some { o with slots := sl }
  size : h.objs.size ≤ h'.objs.size
theorem entry_at {base : Heap} {env : Env} {outer : List Env} {L e : Addr} {C : Value} {dx : Option Addr} {oe : Obj} {vs : Array Value} {hv : Value} {bn : Bool} {Q : Unit → Shared → Prop}
    (hfr : A.frames = some (env :: outer)) (hl : s.heap.FunFrames base (env :: outer)) (hf : env.frame = some L) (he : s.heap.get? e = some oe) (hc : oe.cls = C) (hdx : oe.dict = dx) (hd : oe.data = .fields vs) (hs : 1 < vs.size)
    (h : ∀ h' T, ExA h' e C dx (some T) → s.heap.objs.size ≤ T → Left (frs (env :: outer)) e none s.heap h' → Q () { s with heap := h' }) :
    wpAny M A (frameOf env >>= fun a => entryPlaceOf L bn >>= fun pl => EntryCells.newEntry hv a .none (rawInt L) .none pl >>= fun b => setField (.ref e) 1 b) (fun _ s' => wpAny M A (setFlight (.ref e) none) Q E s') E s := by
  have nfr : ∀ b o, b ∈ frs (env :: outer) → s.heap.get? b = some o → ∀ vs, o.data ≠ .fields vs := fun b o hm q => by
    obtain ⟨_, o', ho', n⟩ := hl.mem hm
    rw [q] at ho'
    cases ho'
    exact n
  have hne : e ∉ frs (env :: outer) := fun hm => nfr e oe hm he vs hd
  refine wpAny_bind (wpAny_frameOf_fun hfr hl hf fun h1 x1 => ?_)
  obtain ⟨z1, z2, z3⟩ := x1
  refine wpAny_bind (wpAny_entryPlaceOf fun pl hp => ?_)
  refine wpAny_bind (mkEntry hp fun o ts ho h3 hfo => ?_)
  have e1 : h1.get? e = some oe := by rw [z2 e hne]; exact he
  have n1 : h1.objs.size ≠ e := fun z => absurd (Heap.lt_size e1) (by rw [z]; exact Nat.lt_irrefl _)
  have e2 : (h1.push o).get? e = some oe := Heap.get?_push_of_some o e1
  have t2 : (h1.push o).get? h1.objs.size = some o := Heap.get?_push_size h1 hfo
  refine wpAny_setField e2 hd hs ?_
  have d3 := Obj.data_mapFields hd (·.setIfInBounds 1 (Value.ref h1.objs.size))
  have e3 := Heap.get?_update_self (h := h1.push o) (Obj.mapFields (·.setIfInBounds 1 (Value.ref h1.objs.size))) e2 (Obj.isFreed_of_fields d3)
  have t3 : ((h1.push o).update e (Obj.mapFields (·.setIfInBounds 1 (Value.ref h1.objs.size)))).get? h1.objs.size = some o := by
    rw [Heap.get?_update_other _ _ (Ne.symm n1)]
    exact t2
  unfold setFlight
  refine wpAny_bind (wpAny_field e3 d3 (x := .ref h1.objs.size) (by simp [hs]) ?_)
  rw [if_pos (by simp)]
  refine wpAny_setField t3 ho h3 ?_
  have dT := Obj.data_mapFields ho (·.setIfInBounds 3 ((none : Option Addr).elim Value.none fun f => rawInt f))
  refine h _ h1.objs.size ⟨⟨_, _, by rw [Heap.get?_update_other _ _ n1]; exact e3, by rw [Obj.cls_mapFields]; exact hc, by rw [dictMapF]; exact hdx, d3, by simp [hs]⟩, fun T hT => ?_⟩ (by rw [z1]; exact Nat.le_refl _) ⟨fun b o' q hb hbe _ => ?_, fun b o' q hb => ?_, ?_⟩
  · cases hT
    exact ⟨n1, _, _, Heap.get?_update_self _ t3 (Obj.isFreed_of_fields dT), dT, by simp [h3]⟩
  · have q1 : h1.get? b = some o' := by rw [z2 b hb]; exact q
    have nb : h1.objs.size ≠ b := fun z => absurd (Heap.lt_size q1) (by rw [z]; exact Nat.lt_irrefl _)
    rw [Heap.get?_update_other _ _ nb, Heap.get?_update_other _ _ (Ne.symm hbe)]
    exact Heap.get?_push_of_some o q1
  · obtain ⟨sl, q1⟩ := z3 b o' q
    have nb : h1.objs.size ≠ b := fun z => absurd (Heap.lt_size q1) (by rw [z]; exact Nat.lt_irrefl _)
    have nbe : e ≠ b := fun z => hne (z ▸ hb)
    refine ⟨sl, ?_⟩
    rw [Heap.get?_update_other _ _ nb, Heap.get?_update_other _ _ nbe]
    exact Heap.get?_push_of_some o q1
  · rw [Heap.size_update, Heap.size_update, Heap.size_push, z1]
    exact Nat.le_succ _
theorem leave2 {base : Heap} {env : Env} {outer : List Env} {L e : Addr} {C : Value} {dx hd : Option Addr} {Q : Unit → Shared → Prop}
    (hfr : A.frames = some (env :: outer)) (hl : s.heap.FunFrames base (env :: outer)) (hf : env.frame = some L) (x : ExA s.heap e C dx hd)
    (h : ∀ h' T, ExA h' e C dx (some T) → s.heap.objs.size ≤ T → Left (frs (env :: outer)) e hd s.heap h' → Q () { s with heap := h' }) : wpAny M A (noteFrame (.ref e) env) (fun _ s' => wpAny M A (setFlight (.ref e) none) Q E s') E s := by
  obtain ⟨oe, vs, he, hc, hdx, hdt, h1⟩ := x.ob
  have hs : 1 < vs.size := (Array.getElem?_eq_some_iff.mp h1).1
  unfold noteFrame
  simp only [hf]
  cases hd with
  | none =>
    refine wpAny_bind (wpAny_field he hdt h1 ?_)
    rw [if_neg (by decide)]
    exact entry_at hfr hl hf he hc hdx hdt hs fun h' T a b c => h h' T a b c
  | some T =>
    obtain ⟨nTe, oT, ts, hT, hdT, h3⟩ := x.tb T rfl
    have hs3 : 3 < ts.size := (Array.getElem?_eq_some_iff.mp h3).1
    refine wpAny_bind (wpAny_field he hdt h1 ?_)
    rw [if_pos (by simp)]
    refine wpAny_bind (wpAny_field (x := .none) hT hdT h3 ?_)
    rw [if_neg (by simp [rawInt])]
    refine wpAny_bind (wpAny_setField hT hdT hs3 ?_)
    have oth : ∀ b, b ≠ T → (s.heap.update T (Obj.mapFields (·.setIfInBounds 3 Value.none))).get? b = s.heap.get? b := fun b hb => Heap.get?_update_other _ _ (Ne.symm hb)
    have nT : ∀ b o, s.heap.get? b = some o → (∀ vs, o.data ≠ .fields vs) → b ≠ T := fun b o q n z => by
      subst z
      rw [hT] at q
      cases q
      exact n ts hdT
    refine entry_at hfr (hl.of_keeps fun b o q n => ⟨o, by rw [oth b (nT b o q n)]; exact q, rfl⟩) hf (by rw [oth e (Ne.symm nTe)]; exact he) hc hdx hdt hs fun h' T' a b c => ?_
    refine h h' T' a (by rw [Heap.size_update] at b; exact b) ⟨fun b' o q hb hbe hbT => c.keep b' o (by rw [oth b' (hbT T rfl)]; exact q) hb hbe (fun _ z => nomatch z), fun b' o q hb => ?_, ?_⟩
    · obtain ⟨_, o', ho', n⟩ := hl.mem hb
      rw [q] at ho'
      cases ho'
      exact c.slot b' o (by rw [oth b' (nT b' o q n)]; exact q) hb
    · have := c.size
      rw [Heap.size_update] at this
      exact this
theorem leave_at {base : Heap} {env : Env} {outer : List Env} {L e : Addr} {C : Value} {dx hd : Option Addr} {Q : Unit → Shared → Prop}
    (hfr : A.frames = some (env :: outer)) (hl : s.heap.FunFrames base (env :: outer)) (hf : env.frame = some L) (x : ExA s.heap e C dx hd)
    (h : ∀ h' T, ExA h' e C dx (some T) → s.heap.objs.size ≤ T → Left (frs (env :: outer)) e hd s.heap h' → Q () { s with heap := h' }) : wpAny M A (leaving env (.ref e)) Q E s := by
  unfold leaving
  exact wpAny_bind (leave2 hfr hl hf x h)
end
end L2
namespace L2
open PySem PySem.Spec PyProof.Rows
structure CXs (P : Program) (w : World) (outer : List Env) (H : Hp) (s : Shared) (E : XK) (a T : Addr) (C : Value) (dx : Option Addr) (H' : Hp) (s' : Shared) : Prop where
  ex : ExA s'.heap a C dx (some T)
  na : s.heap.get? a = none
  nT : s.heap.get? T = none
  fa : H' a = none
  fT : H' T = none
  os : s'.os = s.os
  bare : AllBare s'.gens
  un : Un (frs outer) [] H H' s.heap s'.heap
  hok : HOk P w H' s'.heap
  want : E C dx H'
noncomputable def CXd (P : Program) (w : World) : CXT := fun outer H s E e s' => ∃ (a T : Addr) (C : Value) (dx : Option Addr) (H' : Hp), e = .ref a ∧ CXs P w outer H s E a T C dx H' s'
theorem get_none {h : Heap} {a : Addr} (z : h.objs.size ≤ a) : h.get? a = none := by
  cases e : h.get? a with
  | none => rfl
  | some o => exact absurd (Heap.lt_size e) (Nat.not_lt.mpr z)
theorem Inv.was_none {X : Cx} {pins : List (Addr × Obj)} {σ : St} {H : Hp} {s : Shared} {a : Addr} (I : Inv X pins σ H s) (hx : X.ex = []) (e : s.heap.get? a = none) : X.s₀.heap.get? a = none := by
  cases q : X.s₀.heap.get? a with
  | none => rfl
  | some o =>
    obtain ⟨o', z⟩ := I.base.there a o q (by rw [hx]; exact fun z => nomatch z)
    rw [e] at z
    cases z
theorem ObjOk.is {P : Program} {w : World} {H : Hp} {h : Heap} {a : Addr} {o : HO} (x : ObjOk P w H h a o) : ∃ u, h.get? a = some u := by
  cases o with
  | lst xs => obtain ⟨_, _, _, _, e⟩ := x; exact ⟨_, e⟩
  | tup xs => obtain ⟨_, _, _, ob, e, _⟩ := x; exact ⟨_, e⟩
  | dK kvs => obtain ⟨_, _, _, _, o, _, _, e, _⟩ := x; exact ⟨_, e⟩
  | dT kvs => obtain ⟨_, _, _, _, o, _, _, e, _⟩ := x; exact ⟨_, e⟩
  | set S n => obtain ⟨o, _, _, _, e, _⟩ := x; exact ⟨_, e⟩
  | ins C dx fs => obtain ⟨_, _, _, e, _⟩ := x; exact ⟨_, e⟩
  | own y => exact x
  | xd fs => obtain ⟨_, ⟨_, _, _, e, _⟩, _⟩ := x; exact ⟨_, e⟩
  | rng lo hi => obtain ⟨_, _, _, e⟩ := x; exact ⟨_, e⟩
  | frz ob u => obtain ⟨e, _⟩ := x; exact ⟨_, e⟩
  | tbl ps => exact ⟨_, show h.get? a = some _ from x⟩
  | met f y => exact ⟨_, show h.get? a = some _ from x⟩
  | ext φ => obtain ⟨_, e, _⟩ := x; exact e
theorem HOk.off {P : Program} {w : World} {H : Hp} {h : Heap} {a : Addr} (x : HOk P w H h) (e : h.get? a = none) : H a = none := by
  cases q : H a with
  | none => rfl
  | some o =>
    obtain ⟨u, z⟩ := (x a o q).is
    rw [e] at z
    cases z
section
variable {P : Program} {w : World} {K : PySem.W.Frag} {mg : Str → Option Value} {base : Heap} {N : List Str} {qual : Str} {scope : Scope} {f : Addr} {cd : Value} {A : Around} {outer : List Env} {s : Shared} {H : Hp} {E : XK}
theorem xe_of {pins : List (Addr × Obj)} {σ : St} {H' : Hp} {s' : Shared} {a : Addr} {C : Value} {dx hd : Option Addr} (J : Inv (cxOf (CXd P w) P w K mg base N qual scope f cd A outer s H E) pins σ H' s') (x : ExA s'.heap a C dx hd)
    (na : s.heap.get? a = none) (nT : ∀ T, hd = some T → s.heap.get? T = none ∧ H' T = none) (fa : H' a = none) (q : E C dx H') : (cxOf (CXd P w) P w K mg base N qual scope f cd A outer s H E).xe (.ref a) s' := by
  have e0 := J.env0
  have hfs : ∀ b ∈ frs (envOfC qual scope s.heap.objs.size f cd :: outer), H' b = none := e0.frf
  have old : ∀ b o, s.heap.get? b = some o → b ≠ a ∧ (∀ T, hd = some T → b ≠ T) ∧ b < s.heap.objs.size := fun b o e => by
    have hb := Heap.lt_size e
    exact ⟨fun z => (by subst z; rw [e] at na; cases na), fun T hT z => (by subst z; have := (nT _ hT).1; rw [e] at this; cases this), hb⟩
  have infs : ∀ b, b < s.heap.objs.size → b ∈ frs (envOfC qual scope s.heap.objs.size f cd :: outer) → b ∈ frs outer := fun b hb hm => by
    rcases List.mem_filterMap.mp hm with ⟨v, hv, e⟩
    rcases List.mem_cons.mp hv with z | z
    · subst z
      have : s.heap.objs.size = b := by simpa [envOfC] using e
      omega
    · exact List.mem_filterMap.mpr ⟨v, z, e⟩
  have outfs : ∀ b, b ∈ frs outer → b ∈ frs (envOfC qual scope s.heap.objs.size f cd :: outer) := fun b hm => by
    rcases List.mem_filterMap.mp hm with ⟨v, hv, e⟩
    exact List.mem_filterMap.mpr ⟨v, List.mem_cons_of_mem _ hv, e⟩
  have base' : Un (frs outer) [] H H' s.heap s'.heap := J.base
  show wpAny (model P w) (A.deeper (envOfC qual scope s.heap.objs.size f cd)) (leaving (envOfC qual scope s.heap.objs.size f cd) (.ref a)) (fun _ s'' => CXd P w outer H s E (.ref a) s'') (fun e' s'' => CXd P w outer H s E e' s'') s'
  refine leave_at (base := base) e0.frames e0.funs rfl x fun h' T x' hT lf => ⟨a, T, C, dx, H', rfl, x', na, get_none (Nat.le_trans (show s.heap.objs.size ≤ s'.heap.objs.size from J.sz) hT), fa, ?_, J.os, J.bare, ?_, ?_, q⟩
  · exact J.hok.fresh hT
  · have stay : ∀ b o, s.heap.get? b = some o → ∀ o', s'.heap.get? b = some o' → b ∉ frs outer → h'.get? b = some o' := fun b o e o' e' hb => by
      obtain ⟨z1, z2, z3⟩ := old b o e
      exact lf.keep b o' e' (fun z => hb (infs b z3 z)) z1 z2
    refine ⟨fun b o e n hb hx => stay b o e o (base'.keep b o e n hb hx) hb, fun b o e n hb hx => ?_, base'.free, fun b o e hx => ?_, base'.tups, base'.frzs, base'.tbls⟩
    · obtain ⟨sl, e1⟩ := base'.slot b o e n hb hx
      obtain ⟨sl2, e2⟩ := lf.slot b _ e1 (outfs b hb)
      exact ⟨sl2, e2⟩
    · obtain ⟨o', e1⟩ := base'.there b o e hx
      by_cases hb : b ∈ frs outer
      · obtain ⟨sl, e2⟩ := lf.slot b o' e1 (outfs b hb)
        exact ⟨_, e2⟩
      · exact ⟨o', stay b o e o' e1 hb⟩
  · intro b o e
    refine (J.hok b o e).stay (fun c u hc e1 => ?_) (fun _ z => z) fun _ _ z => z
    have hcn : H' c ≠ none := by
      rcases hc with z | z
      · rw [z, e]; exact fun z => nomatch z
      · rw [z]; exact fun z => nomatch z
    exact lf.keep c u e1 (fun z => hcn (hfs c z)) (fun z => hcn (by rw [z]; exact fa)) fun T hT z => hcn (by rw [z]; exact (nT T hT).2)
theorem passD : Passes (CXd P w) (cxOf (CXd P w) P w K mg base N qual scope f cd A outer s H E) E := by
  rintro pins σ H1 s1 e s' I ⟨a, T, C, dx, H', rfl, z⟩
  have J := I.call' z.os z.un z.hok z.bare (fun _ h => nomatch h)
  exact xe_of J z.ex (I.was_none rfl z.na) (fun T' hT => by cases hT; exact ⟨I.was_none rfl z.nT, z.fT⟩) z.fa z.want
end
end L2
namespace L2
open PySem PySem.Spec PyProof.Rows
theorem exc_obj {K : PySem.W.Frag} {h : Heap} {C : Addr} {bmB : List Value} {newId : String} (X : K.In h) (q : PySem.W.excIn K C bmB newId = true) :
    ∃ tl N nm qn bs hdct sn sub ab col dd k0 k1 k2 k3 k5 mN, h.get? C = some (excClassObj nm qn C N bs tl hdct sn sub ab col dd k0 k1 k2 k3 k5 newId) ∧ h.Ns N mN ∧ mN "__init__" = none ∧ OwnTail h bmB tl := by
  unfold PySem.W.excIn at q
  split at q
  next dd cd sl ho =>
    split at q
    next C' tl k0 k1 k2 k3 n k5 hm hs =>
      obtain ⟨c1, c2, mro, c4, c5, c6, c7, c8, c9, c10, del⟩ := cd
      obtain ⟨l⟩ := sl
      simp only [Bool.and_eq_true] at q
      obtain ⟨⟨⟨⟨⟨a1, a2⟩, a3⟩, a4⟩, a5⟩, a6⟩ := q
      have b1 : C' = C := beq_iff_eq.mp a1
      have b2 : n = newId := beq_iff_eq.mp a2
      have b3 : del = false := by cases del <;> first | rfl | cases a3
      have b4 : mro = Value.ref C' :: tl := hm
      have b5 : l = [k0, k1, k2, k3, some (.builtin n), k5] := hs
      subst b1 b2 b3 b4 b5
      exact ⟨tl, c4, c1, c5, c2, c6, c7, c8, c9, c10, dd, k0, k1, k2, k3, k5, _, X _ _ ho, .of_isNs (PySem.W.isNs_of_in X a5), PySem.W.nsMap_none_of_in X a5 (beq_iff_eq.mp a6), PySem.W.tail_of_in X a4⟩
    next => cases q
  next => cases q
noncomputable def XEq (X : Cx) (E : XK) (C : Addr) : Prop := ∀ (pins : List (Addr × Obj)) (σ : St) (H : Hp) (s' : Shared) (a : Addr), Inv X pins σ H s' → ExA s'.heap a (.ref C) none none → X.s₀.heap.get? a = none → H a = none → E (.ref C) none H → X.xe (.ref a) s'
noncomputable def tRaise (te : TE) (C : Addr) (E : XK) : TS := fun _ σ H => te σ H fun _ H1 => E (.ref C) none H1
section
variable {X : Cx} {E : XK} {C : Addr} {x : Str} {e : Expr} {te : TE} {np cpos pos : Pos} {B newId initId : String} {bmB : List Value}
theorem ps_raise (FB : ExcBaseFacts B newId initId bmB) (hx : XEq X E C) (he : PE X e te) (hg : Gl X x) (hm : X.mg x = some (.ref C)) (hC : PySem.W.excIn X.K C bmB newId = true) (hh : X.A.handled = none) (hex : X.ex = [] := by rfl)
    (hdb : (x == ("__debug__" : Str)) = false := by decide) (hst : starEach [e] X.env = [(false, eval e X.env)] := by rfl) : PS X (.Raise (some (.Call (.Name x np) [e] [] cpos)) none pos) (tRaise te C E) := by
  intro pins s σ H D I h
  obtain ⟨tl, N, nm, qn, bs, hdct, sn, sub, ab, col, dd, k0, k1, k2, k3, k5, mN, o1, o2, o3, o4⟩ := exc_obj I.mod.kin hC
  refine wpAny_Raise_call_subT FB (C := C) (nm := nm) (q := qn) (N := N) (bs := bs) (bm := tl) (hdct := hdct) (sn := sn) (sub := sub) (ab := ab) (col := col) (dd := dd) (k0 := k0) (k1 := k1) (k2 := k2) (k3 := k3) (k5 := k5) (mN := mN)
    (o4.hasType FB.hasBase) hh (by rw [hst]; rfl) o3 (ld_glob I hg hm ⟨rfl, ?_⟩ hdb)
  rw [hst]
  refine Calls.evalArgs_plain (Calls.spliced_cons (thn (he pins s σ H _ I h) fun v s1 ⟨y, H1, I1, ry, q1⟩ => Calls.spliced_nil ⟨rfl, ?_, I1.bk _ _ o1, o2.keeps I1.bk, o4.keeps I1.bk, fun h' e hm => ?_⟩))
  · have := sizeLine_eq
    show 1 ≤ sizeLine
    omega
  · obtain ⟨t, z1, z2, z3⟩ := hm.there
    have J : Inv X pins σ H1 { s1 with heap := h' } := I1.kept (t' := s1.toks) hm.keeps
    exact hx pins σ H1 _ e J ⟨⟨_, _, z1, rfl, rfl, rfl, rfl⟩, fun T hT => nomatch hT⟩ (I1.was_none hex hm.new) (I1.hok.off hm.new) q1
end
section
variable {P : Program} {w : World} {K : PySem.W.Frag} {mg : Str → Option Value} {base : Heap} {N : List Str} {qual : Str} {scope : Scope} {f : Addr} {cd : Value} {A : Around} {outer : List Env} {s : Shared} {H : Hp} {E : XK} {C : Addr}
theorem xeqD : XEq (cxOf (CXd P w) P w K mg base N qual scope f cd A outer s H E) E C := fun _ _ _ _ _ J x na fa q => xe_of J x na (fun T hT => nomatch hT) fa q
end
end L2
namespace L2
open PySem PySem.Spec PyProof.Rows
noncomputable def WE (K : PySem.W.Frag) (E : XK) : Wish where
  p := fun e F H => match e with
    | .stuck => False
    | .exc C fs => ∀ F' H', Step F H F' H' → match fs with
      | [] => E (.ref C) none H'
      | fs => ∀ d gs, F' d = some (.xd gs) → DeepF K F' fs gs → E (.ref C) (some d) H'
  mono := fun {e F H F' H'} h s => by
    cases e with
    | stuck => exact h
    | exc C fs => exact fun F2 H2 s2 => h F2 H2 (s.trans s2)
  ns := fun h => h
noncomputable def noX {α : Type} : M α → M α
  | .ok d => .ok d
  | .error _ => .error .stuck
@[simp] theorem noX_ok {α : Type} (d : α) : noX (.ok d : M α) = .ok d := id rfl
noncomputable def fNoX {α : Type} (f : Env' → M α) : Env' → M α := fun ρ => noX (f ρ)
@[simp] theorem e_fNoX {α : Type} (f : Env' → M α) (ρ : Env') : fNoX f ρ = noX (f ρ) := id rfl
section
variable {K : PySem.W.Frag} {W : Wish} {X : Cx} {own ro : Bool} {OL O O' : List Nat}
theorem dt_lift {e : Expr} {f : Env' → M Bool} (h : DT K Wno X.nox e f) : DT K W X e (fNoX f) := PT.imp (PT.nox h) fun σ H Q ⟨F, ρ, r, s, p⟩ => by
  refine ⟨F, ρ, r, s, ?_⟩
  have p : match noX (f ρ) with
    | .ok b => ∀ F' H', Step F H F' H' → Q b H'
    | .error e => W.p e F H := p
  cases e : f ρ with
  | ok d => rw [e] at p; exact p
  | error x => rw [e] at p; exact (W.ns p).elim
theorem dss_lift {st : List Stmt} {g : Env' → M Flo} (h : DSs K Wno ro X.nox OL O O' st g) : DSs K W ro X OL O O' st (fNoX g) := fun F0 H0 => PSs.imp (PSs.nox (h F0 H0)) fun D σ H ⟨FB, F, ρ, r, p⟩ => by
  refine ⟨FB, F, ρ, r, ?_⟩
  have p : PostS K W ro F0 H0 FB OL O' D (noX (g ρ)) := p
  unfold PostS at p ⊢
  cases e : g ρ with
  | ok fl =>
    rw [e] at p
    cases fl <;> exact p
  | error x => rw [e] at p; exact (W.ns p).elim
end
noncomputable def sExc (C : Addr) : Env' → M Flo := fun _ => .error (.exc C [])
@[simp] theorem e_sExc (C : Addr) (ρ : Env') : sExc C ρ = .error (.exc C []) := id rfl
section
variable {K : PySem.W.Frag} {X : Cx} {ro : Bool} {OL O O' : List Nat} {E : XK} {C : Addr} {x : Str} {np cpos pos p1 : Pos} {B newId initId : String} {bmB : List Value} {t : Str} {j1 : Nat}
theorem ds_raise {j1} (FB : ExcBaseFacts B newId initId bmB) (hx : XEq X E C) (hm : X.mg x = some (.ref C)) (hC : PySem.W.excIn X.K C bmB newId = true) (hh : X.A.handled = none) (hg : Gl X x := by rfl) (hex : X.ex = [] := by rfl)
    (hdb : (x == ("__debug__" : Str)) = false := by decide) (hst : starEach [.Constant (.str t) j1 p1] X.env = [(false, eval (.Constant (.str t) j1 p1) X.env)] := by rfl) :
    DS K (WE K E) ro X OL O O' (.Raise (some (.Call (.Name x np) [.Constant (.str t) j1 p1] [] cpos)) none pos) (sExc C) := fun F0 H0 => PS.imp (ps_raise FB hx pe_str hg hm hC hh hex hdb hst) fun D σ H ⟨FB', F, ρ, r, p⟩ => by
  have q : (WE K E).p (.exc C []) F0 H0 := p
  exact q F H r.st
end
noncomputable def spX (K : PySem.W.Frag) (ro : Bool) (g : List Dat → M Dat) (n : Nat) : Sp := fun vs H Q E => ∃ F ds, Same F H ∧ Deeps K F ds vs ∧ ds.length = n ∧ Post K (WE K E) ro F H (g ds) Q
section
variable {P : Program} {w : World} {K : PySem.W.Frag} {mg : Str → Option Value} {base : Heap}
theorem fn_X {x qual : Str} {st : Stmt} {f : Addr} {fd : FuncData} {N ps : List Str} {k : Nat} {O' : List Nat} (F : Fun K x qual st f fd) (S : FnScope N ps (defScope st)) (ro : Bool) (g : Env' → M Flo)
    (hb : ∀ (cdv : Value) (A : Around) (outer : List Env) (s : Shared) (H : Hp) (E : XK), Room k (A.deeper (envOfC qual (defScope st) s.heap.objs.size f cdv)) →
      DSs K (WE K E) ro (cxOf (CXd P w) P w K mg base N qual (defScope st) f cdv A outer s H E) [] [] O' (defBody st) g) : FnOk P w K mg base (CXd P w) (k + 1) f fd ps (spX K ro (runB N.length ps.length g) ps.length) := by
  obtain ⟨oc, od, kV, doc, pm, an, cdv, ct, osl, rfl, lk, hcd⟩ := F.ex
  refine fn_of lk hcd S (fun vs H Q E ⟨F, ds, s, q, l, p⟩ => by rw [q.length, l]) fun A outer s H vs Q E hr ⟨F1, ds, s1, q, l, p⟩ => ⟨_, hb cdv A outer s H E hr F1 H, F1, F1, ds.map some ++ List.replicate (N.length - ds.length) none, ?_, ?_⟩
  · refine ⟨Step.refl s1, Same.refl _, ?_, fun i d e _ => start_get q e, (fun i d e h => nomatch h), (fun i j ds es a h => nomatch h)⟩
    unfold start
    rw [List.length_append, List.length_append, List.length_map, List.length_map, List.length_replicate, List.length_replicate, q.length]
  · have e1 : runB N.length ps.length g ds = (g (ds.map some ++ List.replicate (N.length - ds.length) none)).bind fun fl => match fl with
      | .nx _ => .ok .non
      | .rt d => .ok d
      | _ => stk := by
        unfold runB
        exact if_pos l
    rw [e1] at p
    cases e2 : g (ds.map some ++ List.replicate (N.length - ds.length) none) with
    | error z => rw [e2] at p; exact p
    | ok fl =>
      rw [e2] at p
      cases fl with
      | nx ρ => exact fun σ F H r => p .non F H r.st (by cases ro <;> rfl)
      | rt d => exact fun v F H st q => p v F H st q
      | bk ρ => exact Post.stuck p
      | ct ρ => exact Post.stuck p
end
end L2
namespace L2
open PySem PySem.Spec PyProof.Rows
section
variable {X : Cx} {pins : List (Addr × Obj)} {σ : St} {H : Hp} {s : Shared} {a : Addr} {C : Value} {dx hd : Option Addr}
structure Apart (X : Cx) (pins : List (Addr × Obj)) (H : Hp) (s : Shared) (a : Addr) (hd : Option Addr) : Prop where
  na : X.s₀.heap.get? a = none
  fa : H a = none
  pa : ∀ p ∈ X.pn ++ pins, p.1 ≠ a
  nT : ∀ T, hd = some T → X.s₀.heap.get? T = none ∧ H T = none ∧ ∀ p ∈ X.pn ++ pins, p.1 ≠ T
theorem Inv.left {h' : Heap} (I : Inv X pins σ H s) (hx : X.ex = []) (x : ExA s.heap a C dx hd) (ap : Apart X pins H s a hd) (lf : Left (frs X.stack) a hd s.heap h') : Inv X pins σ H { s with heap := h' } := by
  have e0 := I.env0
  obtain ⟨oe, vs, he, _, _, hdt, _⟩ := x.ob
  have nof : ∀ b o, s.heap.get? b = some o → (∀ vs, o.data ≠ .fields vs) → b ≠ a ∧ ∀ T, hd = some T → b ≠ T := fun b o e n => by
    refine ⟨fun z => ?_, fun T hT z => ?_⟩
    · subst z
      rw [he] at e
      cases e
      exact n vs hdt
    · subst z
      obtain ⟨_, oT, ts, h1, h2, _⟩ := x.tb _ hT
      rw [h1] at e
      cases e
      exact n ts h2
  have stk : ∀ b ∈ frs X.stack, H b = none := e0.frf
  have any : ∀ b o, s.heap.get? b = some o → (∀ vs, o.data ≠ .fields vs) → ∃ sl, h'.get? b = some { o with slots := sl } := fun b o e n => by
    obtain ⟨z1, z2⟩ := nof b o e n
    by_cases hb : b ∈ frs X.stack
    · exact lf.slot b o e hb
    · exact ⟨o.slots, lf.keep b o e hb z1 z2⟩
  have old : ∀ b o, X.s₀.heap.get? b = some o → b ≠ a ∧ ∀ T, hd = some T → b ≠ T := fun b o e =>
    ⟨fun z => (by subst z; rw [ap.na] at e; cases e), fun T hT z => (by subst z; rw [(ap.nT _ hT).1] at e; cases e)⟩
  have up : s.heap.UpToSlots h' := any
  have loc0 : X.s₀.heap.get? X.env.locals = none := get_none I.ok.above
  have out : ∀ b, b ≠ X.env.locals → b ∉ X.fs → b ∉ frs X.stack := fun b h1 h2 h3 => by
    rcases List.mem_cons.mp (I.stkSub b h3) with z | z
    · exact h1 z
    · exact h2 z
  have cel : ∀ c v, s.heap.IsCell c v → h'.IsCell c v := fun c v ⟨o, h1, h2⟩ => by
    obtain ⟨sl, z⟩ := any c o h1 (fun vs q => by rw [h2] at q; cases q)
    exact ⟨_, z, h2⟩
  refine ⟨I.ok, I.os, I.bare, ?_, ?_, fun x c e => ?_, I.free, I.freeC, fun p hp => ?_, ?_, I.len⟩
  · have go : ∀ b o, X.s₀.heap.get? b = some o → ∀ o', s.heap.get? b = some o' → ∃ sl, h'.get? b = some { o' with slots := sl } := fun b o e o' e' => by
      obtain ⟨z1, z2⟩ := old b o e
      by_cases hb : b ∈ frs X.stack
      · exact lf.slot b o' e' hb
      · exact ⟨o'.slots, lf.keep b o' e' hb z1 z2⟩
    refine ⟨fun b o e n hb hx' => ?_, fun b o e n hb hx' => ?_, I.base.free, fun b o e hx' => ?_, I.base.tups, I.base.frzs, I.base.tbls⟩
    · obtain ⟨z1, z2⟩ := old b o e
      exact lf.keep b o (I.base.keep b o e n hb hx') (out b (fun z => by rw [z, loc0] at e; cases e) hb) z1 z2
    · obtain ⟨sl, e1⟩ := I.base.slot b o e n hb hx'
      obtain ⟨sl2, e2⟩ := go b o e _ e1
      exact ⟨sl2, e2⟩
    · obtain ⟨o', e1⟩ := I.base.there b o e hx'
      obtain ⟨sl2, e2⟩ := go b o e _ e1
      exact ⟨_, e2⟩
  · obtain ⟨m, hn, hl⟩ := I.loc
    refine ⟨m, up.ns hn, fun i x v e1 e2 e3 => ?_⟩
    obtain ⟨u, r, lk⟩ := hl i x v e1 e2 e3
    refine ⟨u, r, ?_⟩
    rcases lk with z | ⟨z, c, c1, c2⟩
    · exact .inl z
    · exact .inr ⟨z, c, c1, cel c _ c2⟩
  · obtain ⟨v, z⟩ := I.cell x c e
    exact ⟨v, cel c v z⟩
  · obtain ⟨p1, p2, p3, p4, p5⟩ := I.pin p hp
    exact ⟨lf.keep p.1 p.2 p1 (out p.1 p3 p4) (ap.pa p hp) fun T hT => (ap.nT T hT).2.2 p hp, p2, p3, p4, p5⟩
  · intro b o e
    refine (I.hok b o e).stay (fun c u hc e1 => ?_) (fun _ z => z) fun _ _ z => z
    have hcn : H c ≠ none := by
      rcases hc with z | z
      · rw [z, e]; exact fun z => nomatch z
      · rw [z]; exact fun z => nomatch z
    exact lf.keep c u e1 (fun z => hcn (stk c z)) (fun z => hcn (by rw [z]; exact ap.fa)) fun T hT z => hcn (by rw [z]; exact (ap.nT T hT).2.1)
end
noncomputable def PEat (X : Cx) (pins : List (Addr × Obj)) (σ : St) (e : Expr) (t : TE) : Prop := ∀ (s : Shared) (H : Hp) (Q : VK), Inv X pins σ H s → t σ H Q → wpAny (model X.prog X.w) X.A (eval e X.env) (EP X pins σ Q) X.xe s
noncomputable def PSat (X : Cx) (pins : List (Addr × Obj)) (σ : St) (st : Stmt) (t : TS) : Prop := ∀ (s : Shared) (H : Hp) (D : Ends), Inv X pins σ H s → t D σ H → wpAny (model X.prog X.w) X.A (exec st X.env) (SP X pins D) X.xe s
noncomputable def PSsAt (X : Cx) (pins : List (Addr × Obj)) (σ : St) (st : List Stmt) (t : TS) : Prop := ∀ (s : Shared) (H : Hp) (D : Ends), Inv X pins σ H s → t D σ H → wpAny (model X.prog X.w) X.A (execs st X.env) (SP X pins D) X.xe s
noncomputable def PassesAt (CX : CXT) (X : Cx) (pins : List (Addr × Obj)) (σ : St) (E : XK) : Prop := ∀ (H : Hp) (s : Shared) (e : Value) (s' : Shared), Inv X pins σ H s → CX X.stack H s E e s' → X.xe e s'
section
variable {X : Cx} {pins : List (Addr × Obj)} {σ : St} {st : Stmt} {t u : TS} {pos : Pos}
theorem at_one (h : PSat X pins σ st t) : PSsAt X pins σ [st] t := fun s H D I q => by
  refine wpAny_execs_cons (thn (h s H D I q) fun f s1 z => ?_)
  cases f with
  | next => exact wpAny_execs_nil z
  | _ => exact z
theorem at_if {c : Expr} {a b : List Stmt} {tc : TT} (hc : PT X c tc) (ha : PSsAt X pins σ a t) (hb : PSsAt X pins σ b u) : PSat X pins σ (.If c a b pos) (tIfS tc t u) := fun s H D I q => by
  refine wpAny_If (thn (hc pins s σ H _ I q) fun d s1 ⟨H1, I1, q1⟩ => ?_)
  cases d with
  | true => exact ha s1 H1 D I1 q1
  | false => exact hb s1 H1 D I1 q1
theorem at_expr {e : Expr} {te : TE} (he : PEat X pins σ e te) (hs : swapsWith e none pos.line X.env = pure false := by rfl) : PSat X pins σ (.Expr e pos) (tDrop te) := fun s H D I q =>
  wpAny_Expr_any (thn (he s H _ I q) fun v s1 ⟨x, H1, I1, r1, q1⟩ => ⟨σ, H1, I1, q1⟩) I.quiet hs
end
end L2
namespace L2
open PySem PySem.Spec PyProof.Rows
section
variable {X : Cx} {pins : List (Addr × Obj)} {σ : St} {H : Hp} {s : Shared}
theorem Inv.names {h' : Heap} {m : Str → Option Value} {σ' : St} (I : Inv X pins σ H s) (hn : h'.Ns X.env.locals m) (hs : Heap.SameBut X.env.locals s.heap h') (hl : σ'.length = X.N.length)
    (hv : ∀ (i : Nat) (x : Str) (v : V), X.N[i]? = some x → σ'[i]? = some (some v) → Vis X.env.scope x → ∃ u, RelV v u ∧ Look X.env s.heap m x u) : Inv X pins σ' H { s with heap := h' } := by
  have far : ∀ b o, X.s₀.heap.get? b = some o → b ≠ X.env.locals := fun b o e z => by
    subst z
    exact absurd (Heap.lt_size e) (Nat.not_lt.mpr I.ok.above)
  have cel : ∀ x c v, X.env.cells.lookup x = some c → s.heap.IsCell c v → h'.IsCell c v := fun x c v e z => z.sameBut hs (I.cne x c e)
  refine ⟨I.ok, I.os, I.bare, ⟨fun b o e n hb hx => ?_, fun b o e n hb hx => ?_, I.base.free, fun b o e hx => ?_, I.base.tups, I.base.frzs, I.base.tbls⟩, ⟨m, hn, fun i x v e1 e2 e3 => ?_⟩, fun x c e => ?_, I.free, I.freeC, fun p hp => ?_, fun b o e => ?_, hl⟩
  · show h'.get? b = _
    rw [hs.2 b (far b o e)]; exact I.base.keep b o e n hb hx
  · obtain ⟨sl, z⟩ := I.base.slot b o e n hb hx
    refine ⟨sl, ?_⟩
    show h'.get? b = _
    rw [hs.2 b (far b o e)]; exact z
  · obtain ⟨o', z⟩ := I.base.there b o e hx
    refine ⟨o', ?_⟩
    show h'.get? b = _
    rw [hs.2 b (far b o e)]; exact z
  · obtain ⟨u, r, lk⟩ := hv i x v e1 e2 e3
    refine ⟨u, r, ?_⟩
    rcases lk with z | ⟨z, c, c1, c2⟩
    · exact .inl z
    · exact .inr ⟨z, c, c1, cel x c _ c1 c2⟩
  · obtain ⟨v, z⟩ := I.cell x c e
    exact ⟨v, cel x c v e z⟩
  · obtain ⟨p1, p2, p3, p4, p5⟩ := I.pin p hp
    refine ⟨?_, p2, p3, p4, p5⟩
    show h'.get? p.1 = _
    rw [hs.2 p.1 p3]; exact p1
  · refine (I.hok b o e).stay (fun c u hc e1 => ?_) (fun _ z => z) fun _ _ z => z
    show h'.get? c = _
    rw [hs.2 c fun z => ?_]
    · exact e1
    · rcases hc with y | y
      · rw [← y, z, I.free] at e; cases e
      · rw [z, I.free] at y; cases y
theorem gone_ok {M : Model} {A : Around} {E : Value → Shared → Prop} {i : Nat} {x : Str} {pos : Pos} {Q : Unit → Shared → Prop} (I : Inv X pins σ H s) (hN : X.N.Nodup) (hi : X.N[i]? = some x) (hk : X.env.scope.names.lookup x = some .local)
    (h : ∀ s', Inv X pins (σ.set i none) H s' → Q () s') : wpAny M A (do bindName X.env x .none; unbindBehindTheSuite X.env x pos) Q E s := by
  have hcls : (X.env.scope.kind == .class || (X.env.scope.kind == .module && X.env.locals != X.env.globals)) = false := by rw [I.ok.kind]; rfl
  have hil : i < σ.length := by rw [I.len]; exact (List.getElem?_eq_some_iff.mp hi).1
  refine wpAny_bind (wpAny_bindName (store_ok I hN hi (.inl hk) (v := .non) rfl (fun s1 I1 => ?_) (.inr hk)))
  unfold unbindBehindTheSuite
  refine wpAny_onRaise ?_
  obtain ⟨m, hn, hl⟩ := id I1.loc
  obtain ⟨u, _, lk⟩ := hl i x .non hi (by rw [List.getElem?_set_self hil]) (.inl hk)
  have hmx : m x = some u := by
    rcases lk with z | ⟨z, _⟩
    · exact z.2
    · have hkk : X.env.kindOf x = some .local := hk
      rw [hkk] at z
      rcases z with z | z <;> cases z
  refine wpAny_unbindName_local hk hn hmx hcls fun h' u' hn' hs => h _ (I1.names hn' hs (by rw [List.length_set]; exact I.len) fun j y v e1 e2 e3 => ?_)
  have hij : i ≠ j := fun z => by
    subst z
    rw [List.getElem?_set_self hil] at e2
    cases e2
  rw [List.getElem?_set_ne hij] at e2
  obtain ⟨w, r, lk⟩ := hl j y v e1 (by rw [List.getElem?_set_ne hij]; exact e2) e3
  refine ⟨w, r, ?_⟩
  rcases lk with ⟨z1, z2⟩ | z
  · have hyx : y ≠ x := fun z => hij (nodup_ix hN hi (z ▸ e1))
    exact .inl ⟨z1, by simp [hyx, z2]⟩
  · exact .inr z
end
end L2
namespace L2
open PySem PySem.Spec PyProof.Rows
noncomputable def XNamed (K : PySem.W.Frag) (C : Addr) (bmB : List Value) : Prop := ∀ h : Heap, K.In h → ∃ tl N nm qn bs hdct sn sub ab col dd k0 k1 k2 k3 k5 newId, h.get? C = some (excClassObj nm qn C N bs tl hdct sn sub ab col dd k0 k1 k2 k3 k5 newId) ∧ OwnTail h bmB tl
theorem xnamed1 {K : PySem.W.Frag} {C : Addr} {bmB : List Value} {newId : String} (q : PySem.W.excIn K C bmB newId = true) : XNamed K C bmB := fun _ X => by
  obtain ⟨tl, N, nm, qn, bs, hdct, sn, sub, ab, col, dd, k0, k1, k2, k3, k5, mN, o1, o2, o3, o4⟩ := exc_obj X q
  exact ⟨tl, N, nm, qn, bs, hdct, sn, sub, ab, col, dd, k0, k1, k2, k3, k5, newId, o1, o4⟩
noncomputable abbrev Cx.hand (X : Cx) (a : Addr) (oe : Obj) : Cx := { X with A := X.A.mark (some (.ref a)), calm := false, xe := fun _ _ => False, pn := (a, oe) :: X.pn }
section
variable {X : Cx} {pins : List (Addr × Obj)} {σ : St} {H : Hp} {s : Shared} {a T : Addr} {C : Value} {dx : Option Addr} {oe : Obj}
theorem Inv.hand {vs : Array Value} (I : Inv X pins σ H s) (he : s.heap.get? a = some oe) (hd : oe.data = .fields vs) (na : X.s₀.heap.get? a = none) (fa : H a = none) : Inv (X.hand a oe) pins σ H s := by
  have ok := I.ok
  refine ⟨⟨ok.mod, ok.kind, ok.glob, ok.blt, ok.above, ok.inj, ok.has, ok.cab, (fun z => nomatch z), ok.frames, ok.stk, ok.exf, ok.bs, ok.bsz, ok.noex, ok.exfs, ok.funs, ok.frf⟩, I.os, I.bare, I.base, I.loc, I.cell, I.free, I.freeC, fun p hp => ?_, I.hok, I.len⟩
  rcases List.mem_cons.mp (show p ∈ (a, oe) :: (X.pn ++ pins) from hp) with z | z
  · subst z
    refine ⟨he, fa, fun z => ?_, fun hm => ?_, fun v z => ?_⟩
    · obtain ⟨m, ⟨o, es, ep, h1, h2, _⟩, _⟩ := I.loc
      have z : a = X.env.locals := z
      rw [← z, he] at h1
      cases h1
      rw [hd] at h2
      cases h2
    · obtain ⟨_, o, h1, _⟩ := ok.funs.mem hm
      have h1 : X.s₀.heap.get? a = some o := h1
      rw [na] at h1
      cases h1
    · have z : oe.data = .cell v := z
      rw [hd] at z
      cases z
  · exact I.pin p z
theorem Inv.unhand (J : Inv (X.hand a oe) pins σ H s) (ok : X.Ok) : Inv X pins σ H s :=
  ⟨ok, J.os, J.bare, J.base, J.loc, J.cell, J.free, J.freeC, fun p hp => J.pin p (List.mem_cons_of_mem _ hp), J.hok, J.len⟩
theorem flight_at {M : Model} {A : Around} {E : Value → Shared → Prop} {base : Heap} {l : List Env} {Q : Unit → Shared → Prop} (hl : s.heap.FunFrames base l) (x : ExA s.heap a C dx (some T))
    (h : ∀ h', ExA h' a C dx (some T) → Left (frs l) a (some T) s.heap h' → h'.get? a = s.heap.get? a → Q () { s with heap := h' }) : wpAny M A (setFlight (.ref a) none) Q E s := by
  obtain ⟨o, vs, he, hc, hdx, hdt, h1⟩ := x.ob
  obtain ⟨nT, oT, ts, hT, hdT, h3⟩ := x.tb T rfl
  have hs3 : 3 < ts.size := (Array.getElem?_eq_some_iff.mp h3).1
  unfold setFlight
  refine wpAny_bind (wpAny_field he hdt (x := .ref T) h1 ?_)
  rw [if_pos (by simp)]
  refine wpAny_setField hT hdT hs3 ?_
  have oth : ∀ b, b ≠ T → (s.heap.update T (Obj.mapFields (·.setIfInBounds 3 ((none : Option Addr).elim Value.none fun f => rawInt f)))).get? b = s.heap.get? b := fun b hb => Heap.get?_update_other _ _ (Ne.symm hb)
  have dT := Obj.data_mapFields hdT (·.setIfInBounds 3 ((none : Option Addr).elim Value.none fun f => rawInt f))
  refine h _ ⟨⟨o, vs, by rw [oth a (Ne.symm nT)]; exact he, hc, hdx, hdt, h1⟩, fun T' hT' => ?_⟩ ⟨fun b o' q _ _ hb => by rw [oth b (hb T rfl)]; exact q, fun b o' q hb => ?_, ?_⟩ (oth a (Ne.symm nT))
  · cases hT'
    exact ⟨nT, _, _, Heap.get?_update_self _ hT (Obj.isFreed_of_fields dT), dT, by simp [hs3]⟩
  · obtain ⟨_, o2, ho2, n⟩ := hl.mem hb
    have hbT : b ≠ T := fun z => by
      subst z
      rw [hT] at ho2
      cases ho2
      exact n ts hdT
    exact ⟨o'.slots, by rw [oth b hbT]; exact q⟩
  · rw [Heap.size_update]
    exact Nat.le_refl _
end
noncomputable def Ends.less (D : Ends) (i : Nat) : Ends := { nx := fun σ H => D.nx (σ.set i none) H, rt := D.rt, bk := fun σ H => D.bk (σ.set i none) H, ct := fun σ H => D.ct (σ.set i none) H }
section
variable {X : Cx} {pins : List (Addr × Obj)} {σ : St} {H : Hp} {s : Shared} {a T C : Addr} {dx : Option Addr} {c n : Str} {i : Nat} {np pos : Pos} {b₀ : Stmt} {suite : List Stmt} {ts : TS} {D : Ends} {bmB : List Value}
theorem at_handle (I : Inv X pins σ H s) (x : ExA s.heap a (.ref C) dx (some T)) (ap : Apart X pins H s a (some T)) (hex : X.ex = []) (hC : XNamed X.K C bmB) (hB : bmB.contains (.type "BaseException") = true)
    (hg : Gl X c) (hm : X.mg c = some (.ref C)) (hN : X.N.Nodup) (hi : X.N[i]? = some n) (hk : X.env.scope.names.lookup n = some .local)
    (hs : ∀ oe : Obj, oe.cls = .ref C → oe.dict = dx → (∃ vs, oe.data = .fields vs) → PSs (X.hand a oe) (b₀ :: suite) ts) (q : ts (D.less i) (σ.set i (some (.ref a))) H) (hdb : (c == ("__debug__" : Str)) = false := by decide) :
    wpAny (model X.prog X.w) X.A (handleBy (.ref a) X.env [.ExceptHandler (some (.Name c np)) (some n) (b₀ :: suite) pos]) (SP X pins D) X.xe s := by
  obtain ⟨oe, vs, he, hcl, hdx, hdt, h1⟩ := x.ob
  have J := I.hand he hdt ap.na ap.fa
  refine wpAny_handleBy_cons (codeAny_handlers_test (ld_glob (X := X.hand a oe) J hg hm ?_ hdb)) (by intro z; cases z)
  obtain ⟨tl, N, nm, qn, bs, hdct, sn, sub, ab, col, dd, k0, k1, k2, k3, k5, newId, o1, o4⟩ := hC _ I.kIn
  have e0 := I.env0
  obtain ⟨hh, gg, d, tk, os⟩ := s
  refine wpAny_excMatches_sub_self o1 he hcl (o4.hasType hB) (codeAny_handlers_suite_as ?_)
  refine flight_at (base := X.base) (l := X.stack) e0.funs x fun h' x' lf ea => ?_
  have I2 := I.left hex x ap lf
  have he2 : h'.get? a = some oe := by rw [ea]; exact he
  have J2 := I2.hand he2 hdt ap.na ap.fa
  refine store_ok (X := X.hand a oe) J2 hN hi (.inl hk) (v := .ref a) rfl (fun s3 J3 => ?_) (.inr hk)
  refine wpAny_mono (hs oe hcl hdx ⟨vs, hdt⟩ pins s3 _ H (D.less i) J3 q) (fun f s4 z => ?_) fun _ _ z => z.elim
  cases f with
  | next =>
    obtain ⟨σ', H', J4, q4⟩ := z
    exact gone_ok (J4.unhand I.ok) hN hi hk fun s5 I5 => ⟨_, H', I5, q4⟩
  | brk =>
    obtain ⟨σ', H', J4, q4⟩ := z
    exact gone_ok (J4.unhand I.ok) hN hi hk fun s5 I5 => ⟨_, H', I5, q4⟩
  | cont =>
    obtain ⟨σ', H', J4, q4⟩ := z
    exact gone_ok (J4.unhand I.ok) hN hi hk fun s5 I5 => ⟨_, H', I5, q4⟩
  | ret u =>
    obtain ⟨v, σ', H', J4, r, q4⟩ := z
    exact gone_ok (J4.unhand I.ok) hN hi hk fun s5 I5 => ⟨v, _, H', I5, r, q4⟩
end
end L2
namespace L2
open PySem PySem.Spec PyProof.Rows
noncomputable def EH (i : Nat) (C : Addr) (ts : Addr → Option Addr → TS) (D : Ends) (σ : St) : XK := fun Cv dx H' => Cv = .ref C ∧ ∀ a, H' a = none → ts a dx (D.less i) (σ.set i (some (.ref a))) H'
noncomputable def tTry (tb : XK → TS) (i : Nat) (C : Addr) (ts : Addr → Option Addr → TS) : TS := fun D σ H => tb (EH i C ts D σ) D σ H
section
variable {X : Cx} {C : Addr} {c n : Str} {i : Nat} {np hpos pos : Pos} {b₀ : Stmt} {body suite : List Stmt} {ts : Addr → Option Addr → TS} {tb : XK → TS} {bmB : List Value}
theorem ps_try (hb : ∀ (pins : List (Addr × Obj)) (σ : St) (E : XK) (xe : Value → Shared → Prop), PassesAt (CXd X.prog X.w) (X.wish xe) pins σ E → PSsAt (X.wish xe) pins σ body (tb E))
    (hs : ∀ (a : Addr) (oe : Obj), oe.cls = .ref C → (∃ vs, oe.data = .fields vs) → PSs (X.hand a oe) (b₀ :: suite) (ts a oe.dict))
    (hC : XNamed X.K C bmB) (hB : bmB.contains (.type "BaseException") = true) (hm : X.mg c = some (.ref C)) (hN : X.N.Nodup) (hi : X.N[i]? = some n := by rfl) (hk : X.env.scope.names.lookup n = some .local := by rfl)
    (hg : Gl X c := by rfl) (hex : X.ex = [] := by rfl) (hstk : X.stack = X.env :: X.outer := by rfl) (hfr : X.env.frame = some X.env.locals := by rfl) (hdb : (c == ("__debug__" : Str)) = false := by decide) :
    PS X (.Try body [.ExceptHandler (some (.Name c np)) (some n) (b₀ :: suite) hpos] [] [] pos) (tTry tb i C ts) := by
  intro pins s σ H D I h
  refine wpAny_Try_except (thn (hb pins σ (EH i C ts D σ) (fun e s₁ => wpAny (model X.prog X.w) X.A (noteFrame e X.env) (fun _ s₂ => wpAny (model X.prog X.w) X.A (setFlight e none) (fun _ s₃ => wpAny (model X.prog X.w) X.A (handleBy e X.env [.ExceptHandler (some (.Name c np)) (some n) (b₀ :: suite) hpos]) (SP X pins D) X.xe s₃) X.xe s₂) X.xe s₁) ?_ s H D (I.wish _) h) fun f s1 z => ?_)
  · rintro H1 s1 e s' I1' ⟨a, T, Cv, dx, H', rfl, z⟩
    have I1 := I1'.unwish
    obtain ⟨rfl, q⟩ := z.want
    have J : Inv X pins σ H' s' := I1.call' z.os z.un z.hok z.bare (fun _ h => nomatch h)
    have off : ∀ b, s1.heap.get? b = none → ∀ p ∈ X.pn ++ pins, p.1 ≠ b := fun b e p hp w => by
      have := (I1.pin p hp).1
      rw [w, e] at this
      cases this
    have ap : Apart X pins H' s' a (some T) := ⟨I1.was_none hex z.na, z.fa, off a z.na, fun T' hT => by cases hT; exact ⟨I1.was_none hex z.nT, z.fT, off T z.nT⟩⟩
    have e0 := J.env0
    have f1 := e0.frames
    have f2 := e0.funs
    rw [hstk] at f1 f2
    refine leave2 (base := X.base) f1 f2 hfr z.ex fun h' T2 x' hT lf => ?_
    rw [← hstk] at lf
    have I2 := J.left hex z.ex ap lf
    have ap2 : Apart X pins H' { s' with heap := h' } a (some T2) := ⟨ap.na, ap.fa, ap.pa, fun T' hT' => by
      cases hT'
      refine ⟨get_none (Nat.le_trans J.sz hT), J.hok.fresh hT, fun p hp w => ?_⟩
      have := Heap.lt_size (J.pin p hp).1
      rw [w] at this
      exact absurd this (Nat.not_lt.mpr hT)⟩
    exact at_handle I2 x' ap2 hex hC hB hg hm hN hi hk (fun oe h1 h2 h3 => by rw [← h2]; exact hs a oe h1 h3) (q a z.fa) hdb
  · have z := SP.unwish z
    cases f with
    | next => exact wpAny_execs_nil z
    | _ => exact z
end
end L2
namespace L2
open PySem PySem.Spec PyProof.Rows
section
variable {X : Cx} {pins : List (Addr × Obj)} {σ : St} {CX : CXT} {k : Nat} {f C : Addr} {fd : FuncData} {ps : List Str} {sp : Sp} {dvs : List V} {ds : List Value} {E : XK} {x m : Str} {p pos apos : Pos} {e o : Expr} {es : List Expr} {ta : TE} {t : TA}
theorem at_new {H : Hp} {s : Shared} {Q : VK} {us : List Value} {vs : List V} (M : Mk X.K C f) (F : FnOk X.prog X.w X.K X.mg X.base CX k f fd ps sp) (hx : PassesAt CX X pins σ E) (hr : Room (k + 1) X.A) (hb : Binds X.K fd ps ds) (hd : Vals dvs ds) (I : Inv X pins σ H s) (r : Vals vs us)
    (h : ∀ y dx, H y = none → H dx = none → dx ≠ y → sp (.ref y :: (vs ++ dvs)) (upd (upd H dx (.own y)) y (.ins C dx [])) (fun v H2 => v = .non ∧ Q (.ref y) H2) E) : wpAny (model X.prog X.w) X.A (call (.ref C) us) (EP X pins σ Q) X.xe s := by
  have q := h _ _ (I.hok.fresh (Nat.le_succ s.heap.objs.size)) (I.hok.fresh (Nat.le_refl s.heap.objs.size)) (Nat.ne_of_lt (Nat.lt_succ_self _))
  have J := Inv.made (C := C) I
  have w : Vals (V.ref (s.heap.objs.size + 1) :: (vs ++ dvs)) (Value.ref (s.heap.objs.size + 1) :: (us ++ ds)) := .cons rfl (r.append hd)
  have n : (Value.ref (s.heap.objs.size + 1) :: (us ++ ds)).length = ps.length := w.length.symm.trans (F.len _ _ _ _ q)
  refine wpAny_call (make_map (f := f) I.kIn M.makes M.init (beq_iff_eq.mp M.fn) (codeAny_mono (F.run _ X.stack _ _ ⟨.ref (s.heap.objs.size + 1) :: us, []⟩ _ _ _ E (hr.make C us []) (J.env0.make C us []) (hb _ (.ref (s.heap.objs.size + 1) :: us) J.kIn n) w q) fun z s' hq => ?_))
  cases z with
  | error e => exact hx _ _ e s' J hq
  | ok fl =>
    cases fl with
    | ret u =>
      obtain ⟨v, H', J3, rv, ev, q3⟩ := J.after hq
      subst ev
      exact ⟨rv, .ref (s.heap.objs.size + 1), H', J3, rfl, q3⟩
    | _ => exact False.elim hq
theorem at_make (M : Mk X.K C f) (F : FnOk X.prog X.w X.K X.mg X.base CX k f fd ps sp) (hx : PassesAt CX X pins σ E) (hr : Room (k + 1) X.A) (hm : X.mg x = some (.ref C)) (hb : Binds X.K fd ps ds) (hd : Vals dvs ds) (ha : PA X (e :: es) t) (hg : Gl X x := by rfl)
    (hdb : (x == ("__debug__" : Str)) = false := by decide) (he : starEach (e :: es) X.env = (false, eval e X.env) :: starEach es X.env := by rfl) (hpl : (backTo pos (starEach es X.env)).any (·.1) = false := by rfl) :
    PEat X pins σ (.Call (.Name x p) (e :: es) [] pos) (tMake C sp dvs E t) := fun s H Q I q =>
  wpAny_Call_Name_kw (ld_glob I hg hm (PySem.W.callWith_K (h₀ := X.base) I.ok.mod.kin M.kp (thn (ha pos pins s σ H _ I q) fun us s1 ⟨vs, H1, I1, r, q1⟩ => ⟨I1.kIn, at_new M F hx hr hb hd I1 r q1⟩) he hpl) hdb)
end
end L2
namespace L2
open PySem PySem.Spec PyProof.Rows
section
open PySem.W
variable {prog : Program} {w : World} {A : Around} {E : Value → Shared → Prop} {h : Heap} {g : Array GenState} {d : Drawn} {t : Nat} {os : OsState} {a C : Addr} {oe : Obj} {od : Option Obj} {K : Frag} {bmB : List Value} {B : String}
theorem xcls_by {tk : Tok} {Q : Value → Shared → Prop} (FB : ExcAttrBase B bmB) (kX : K.In h) (I : W.InstAt h a oe C od) (e1 : findIn K (.ref C) "__getattribute__" = some (some (.builtin "BaseException.__getattribute__")))
    (e3 : findIn K (.ref C) "__getattr__" = some none)
    (hq : ∀ R : Result → Shared → Prop, R (.ok (.ret (.ref C))) ⟨h, g, d, t, os⟩ → codeAny (model prog w) A (.call (.builtin "BaseException.__getattribute__") ⟨[.ref a, .str "__class__" tk], []⟩) R ⟨h, g, d, t, os⟩) (q : Q (.ref C) ⟨h, g, d, t, os⟩) :
    wpAny (model prog w) A (getAttrBy (.ref a) (.str "__class__" tk) false) Q E ⟨h, g, d, t, os⟩ := by
  have m0 := I.type (M := model prog w)
  have m1 := looks_findIn (M := model prog w) kX e1
  have L2 := looks_findIn (M := model prog w) kX e3
  have b3 := FB.ga.bind (.ref a)
  have nx : (Value.builtin "BaseException.__getattribute__" == Value.builtin "object.__getattribute__") = false := by decide +kernel
  unfold getAttrBy
  repeat (any_goals (first | assumption | with_reducible refine m0.at ?_ | with_reducible refine m1.at ?_ | with_reducible refine L2.at ?_ | wp_step))
  all_goals (refine hq _ ?_)
  repeat (any_goals (first | wp_step | assumption))
theorem xcls_check {M : Model} {nameV : Value} {Q : Unit → Shared → Prop} (kX : K.In h) (I : W.InstAt h a oe C od) (hb : mroIn K C (.type "BaseException") = some true) (hq : Q () ⟨h, g, d, t, os⟩) :
    wpAny M A (checkBuiltinCall "BaseException.__getattribute__" ⟨[.ref a, nameV], []⟩) Q E ⟨h, g, d, t, os⟩ := by
  have kd : builtinKind "BaseException.__getattribute__" = some .slot := by decide +kernel
  have hs : splitId "BaseException.__getattribute__" = some ("BaseException", "__getattribute__") := by decide +kernel
  have m0 := I.type (M := M)
  have m1 := looks_mroIn (M := M) kX hb
  have ag := F.args_bexc_ga (.ref a) nameV
  simp only [checkBuiltinCall, hs, kd]
  refine wpAny_bind ?_
  unfold isInstance
  repeat (first | with_reducible refine m0.at ?_ | with_reducible refine m1.at ?_ | wp_step)
  exact hq
theorem xcls_entry {tk : Tok} {Q : Fin → Shared → Prop} (kX : K.In h) (I : W.InstAt h a oe C od) (e2 : findIn K (.ref C) "__class__" = some (some (.builtin "object.__class__"))) (hm : mroIn K C (.type "object") = some true) (hq : Q (.done (.ret (.ref C))) ⟨h, g, d, t, os⟩) :
    wpAny (model prog w) A (Builtin.«object.__getattribute__» ⟨[.ref a, .str "__class__" tk], []⟩) Q E ⟨h, g, d, t, os⟩ := by
  have tc : Shared.TypeIs ⟨h, g, d, t, os⟩ (.builtin "object.__class__") "getset_descriptor" := F.typeOf_object_class
  have m0 := I.type (M := model prog w)
  have m1 := looks_findIn (M := model prog w) kX e2
  have p5 := F.typeOf_object_class
  have p6 := F.slot_gs_get.lookup
  have p7 := F.slot_gs_set.lookup
  repeat (any_goals (first | assumption | with_reducible refine m0.at ?_ | with_reducible refine m1.at ?_ | wp_step))
  refine W.class_get (s := ⟨h, g, d, t, os⟩) kX I hm ?_
  repeat (any_goals (first | wp_step | assumption))
theorem xcls_attr {Q : Option Value → Shared → Prop} (FB : ExcAttrBase B bmB) (kX : K.In h) (I : W.InstAt h a oe C od) (e1 : findIn K (.ref C) "__getattribute__" = some (some (.builtin "BaseException.__getattribute__"))) (e2 : findIn K (.ref C) "__class__" = some (some (.builtin "object.__class__"))) (e3 : findIn K (.ref C) "__getattr__" = some none)
    (hb : mroIn K C (.type "BaseException") = some true) (hm : mroIn K C (.type "object") = some true) (hq : Q (some (.ref C)) ⟨h, g, d, t + 1, os⟩) : wpAny (model prog w) A (getAttr? (.ref a) "__class__") Q E ⟨h, g, d, t, os⟩ := by
  unfold getAttr? getAttrBy?
  refine wpAny_bind (wpAny_mkText (wpAny_bind (wpAny_attempt (xcls_by FB kX I e1 e3 (fun R hR => codeAny_call_builtin FB.ga.plain F.entry_bexc_ga (xcls_check kX I hb (xcls_entry kX I e2 hm hR))) ?_))))
  exact wpAny_pure hq
structure XIsi (K : Frag) (C : Addr) : Prop where
  ga : findIn K (.ref C) "__getattribute__" = some (some (.builtin "BaseException.__getattribute__"))
  cl : findIn K (.ref C) "__class__" = some (some (.builtin "object.__class__"))
  gt : findIn K (.ref C) "__getattr__" = some none
  bs : mroIn K C (.type "BaseException") = some true
  ob : mroIn K C (.type "object") = some true
  is : ∃ cd, clsIn K C = some cd
theorem kitx_exc (FB : ExcAttrBase B bmB) (Z : XIsi K C) : KitX K (.ref a) (.ref C) (fun h => W.InstAt h a oe C od) where
  ty := fun _ _ _ I => I.type
  it := fun _ _ X _ => by
    obtain ⟨cd, hc⟩ := Z.is
    unfold clsIn at hc
    split at hc
    · next ho =>
      intro A' Q' E' s' k q
      unfold isType loadHead
      refine wpAny_bind (wpAny_loadPart (k C _ (X C _ ho)) ?_)
      exact wpAny_pure q
    · cases hc
  ne := fun hh tq d1 is n1 s1 X htp => by
    obtain ⟨cd, hc⟩ := Z.is
    refine Bool.eq_false_iff.mpr (fun q => ?_)
    have e : C = tq := Value.ref.inj (beq_iff_eq.mp q)
    subst e
    unfold clsIn at hc
    split at hc
    · next ho =>
      cases (X C _ ho).symm.trans htp
    · cases hc
  ca := fun {_ _ _ _ _ s} X I k => by
    obtain ⟨h, g, d, t, os⟩ := s
    exact xcls_attr FB X I Z.ga Z.cl Z.gt Z.bs Z.ob k
end
theorem refs_are : ∀ {ys : List Addr} {its : List Value}, Vals (ys.map V.ref) its → its = ys.map Value.ref
  | [], _, .nil => rfl
  | y :: ys, _, .cons r rs => by rw [refs_are rs, show _ = Value.ref y from r]; rfl
section
variable {X : Cx} {C a : Addr} {oe : Obj} {B : String} {bmB : List Value}
theorem c_isiX (FB : ExcAttrBase B bmB) (Z : XIsi X.K C) (hc : oe.cls = .ref C) (hd : ∃ vs, oe.data = .fields vs) (hn : oe.dict = none) : CallR (X.hand a oe) (.builtin "isinstance") (fun xs H Q => ∃ v b, xs = [.ref a, v] ∧
    ((∃ c, RelV v c ∧ (∀ u, RelV v u → u = c) ∧ PySem.W.kitOne X.K (.ref C) c = some b) ∨ ∃ (tp : Addr) (ys : List Addr), v = .ref tp ∧ H tp = some (.tup (ys.map V.ref)) ∧ PySem.W.kitAny X.K (.ref C) (ys.map Value.ref) = some b) ∧ Q (.bl b) H) := by
  intro pins s σ H xs us Q I r h
  obtain ⟨v, b, rfl, h1, q⟩ := h
  obtain ⟨u, w, rfl, ru, rw'⟩ := r.two
  cases (show u = Value.ref a from ru)
  have pa := (I.pin (a, oe) (List.mem_cons_self ..)).1
  obtain ⟨vs, hdt⟩ := hd
  have J : PySem.W.InstAt s.heap a oe C none := ⟨pa, hc, by unfold PySem.W.notCls; rw [hdt], by rw [hn]; trivial⟩
  rcases h1 with ⟨c, rc, uniq, e⟩ | ⟨tp, ys, rfl, ht, e⟩
  · cases uniq w rw'
    exact PySem.W.kia_one (kitx_exc FB Z) I.kIn J e (fun z => nomatch z) fun tk => ⟨.bl b, H, I.tok tk, rfl, q⟩
  · cases (show w = Value.ref tp from rw')
    obtain ⟨_, its, rv, ob, z1, z2⟩ := (show ObjOk X.prog X.w H s.heap tp (.tup (ys.map V.ref)) from I.hok tp _ ht)
    obtain ⟨z3, n, z4⟩ := z2
    have ei : its = ys.map Value.ref := refs_are rv
    subst ei
    obtain ⟨oc, odd, odt, osl⟩ := ob
    have z5 : oc = Value.type "tuple" := z3
    have z6 : odt = .seq (ys.map Value.ref).toArray n := z4
    subst z5 z6
    exact PySem.W.kia_tup (kitx_exc FB Z) I.kIn J z1 e (fun z => nomatch z) fun tk => ⟨.bl b, H, I.tok tk, rfl, q⟩
end
end L2
namespace L2
open PySem PySem.Spec PyProof.Rows
noncomputable def tIsiX (i : Nat) (a : Addr) (b : Bool) : TE := fun σ H Q => σ[i]? = some (some (.ref a)) ∧ Q (.bl b) H
noncomputable def tIsiT (i : Nat) (a : Addr) (ys : List Addr) (b : Bool) : TE := fun σ H Q => σ[i]? = some (some (.ref a)) ∧ ∀ p, H p = none → Q (.bl b) (upd H p (.tup (ys.map V.ref)))
section
variable {X : Cx} {C a D : Addr} {oe : Obj} {B : String} {bmB : List Value} {i : Nat} {n x y T : Str} {p p1 p2 pos : Pos} {b : Bool}
theorem pe_isiO (FB : ExcAttrBase B bmB) (Z : XIsi X.K C) (hc : oe.cls = .ref C) (hd : ∃ vs, oe.data = .fields vs) (hn : oe.dict = none) (hm : X.mg "isinstance" = none) (hD : X.mg y = some (.ref D)) (hb : PySem.W.kitOne X.K (.ref C) (.ref D) = some b)
    (hN : X.N[i]? = some n := by rfl) (hv : Vis X.env.scope n := by first | exact Or.inl rfl | exact Or.inr (Or.inl rfl) | exact Or.inr (Or.inr rfl)) (hd1 : (n == ("__debug__" : Str)) = false := by decide) (hd2 : (n == ("__classdict__" : Str)) = false := by decide)
    (hg : Gl (X.hand a oe) "isinstance" := by rfl) (hgD : Gl (X.hand a oe) y := by rfl) (hd3 : (y == ("__debug__" : Str)) = false := by decide)
    (hst : starEach [.Name n p1, .Name y p2] X.env = [(false, eval (.Name n p1) X.env), (false, eval (.Name y p2) X.env)] := by rfl) (hst2 : starEach [.Name y p2] X.env = [(false, eval (.Name y p2) X.env)] := by rfl) (hpl : (backTo pos (starEach [.Name y p2] X.env)).any (·.1) = false := by rfl) :
    PE (X.hand a oe) (.Call (.Name "isinstance" p) [.Name n p1, .Name y p2] [] pos) (tIsiX i a b) := by
  have vD : PE (X.hand a oe) (.Name y p2) (tC (.ref D)) := fun pins s σ H Q I h => ld_glob I hgD hD ⟨.ref D, H, I, rfl, h⟩ hd3
  refine PE.imp (pe_callB (X := X.hand a oe) (c_isiX FB Z hc hd hn) hg hm boot_isinstance (pa_cons (pv i hN hv hd1 hd2) (pa_cons vD pa_nil hst2) (by rw [hst, hst2])) (by decide) (by decide) (by rw [hst, hst2]) hpl) fun σ H Q h => ?_
  obtain ⟨e1, q⟩ := h
  exact ⟨.ref a, e1, .ref D, b, rfl, .inl ⟨.ref D, rfl, fun u hu => hu, hb⟩, q⟩
end
noncomputable def tRefs (ys : List Addr) : TA := fun _ H Q => Q (ys.map V.ref) H
section
variable {X : Cx} {C a D : Addr} {oe : Obj} {B : String} {bmB : List Value} {i : Nat} {n x y : Str} {T : String} {p p1 p2 pos : Pos} {b : Bool} {ys : List Addr} {es : List Expr}
theorem pa_refs0 : PA X [] (tRefs []) := pa_nil
theorem pa_refs (hr : PA X es (tRefs ys)) (hD : X.mg y = some (.ref D)) (hg : Gl X y := by rfl) (hd : (y == ("__debug__" : Str)) = false := by decide) (hs : starEach (.Name y p :: es) X.env = (false, eval (.Name y p) X.env) :: starEach es X.env := by rfl) : PA X (.Name y p :: es) (tRefs (D :: ys)) :=
  fun ps pins s σ H Q I h => pa_cons (pe_glob (v := .ref D) hg hD rfl hd) hr hs ps pins s σ H Q I h
theorem pe_isiB (FB : ExcAttrBase B bmB) (Z : XIsi X.K C) (hc : oe.cls = .ref C) (hd : ∃ vs, oe.data = .fields vs) (hn : oe.dict = none) (hm : X.mg "isinstance" = none) (hmT : X.mg y = none) (hvT : bootBuiltins y = some (.type T)) (hb : PySem.W.kitOne X.K (.ref C) (.type T) = some b)
    (hN : X.N[i]? = some n := by rfl) (hv : Vis X.env.scope n := by first | exact Or.inl rfl | exact Or.inr (Or.inl rfl) | exact Or.inr (Or.inr rfl)) (hd1 : (n == ("__debug__" : Str)) = false := by decide) (hd2 : (n == ("__classdict__" : Str)) = false := by decide)
    (hg : Gl (X.hand a oe) "isinstance" := by rfl) (hgT : Gl (X.hand a oe) y := by rfl) (hy : y ≠ "__name__" := by decide) (hd3 : (y == ("__debug__" : Str)) = false := by decide)
    (hst : starEach [.Name n p1, .Name y p2] X.env = [(false, eval (.Name n p1) X.env), (false, eval (.Name y p2) X.env)] := by rfl) (hst2 : starEach [.Name y p2] X.env = [(false, eval (.Name y p2) X.env)] := by rfl) (hpl : (backTo pos (starEach [.Name y p2] X.env)).any (·.1) = false := by rfl) :
    PE (X.hand a oe) (.Call (.Name "isinstance" p) [.Name n p1, .Name y p2] [] pos) (tIsiX i a b) := by
  refine PE.imp (pe_callB (X := X.hand a oe) (c_isiX FB Z hc hd hn) hg hm boot_isinstance (pa_cons (pv i hN hv hd1 hd2) (pa_cons (pe_tyN (X := X.hand a oe) (pos := p2) hgT hmT hvT hy hd3) pa_nil hst2) (by rw [hst, hst2])) (by decide) (by decide) (by rw [hst, hst2]) hpl) fun σ H Q h => ?_
  obtain ⟨e1, q⟩ := h
  exact ⟨.ref a, e1, .ty T, b, rfl, .inl ⟨.type T, rfl, fun u hu => hu, hb⟩, q⟩
theorem pe_isiT {j} (FB : ExcAttrBase B bmB) (Z : XIsi X.K C) (hc : oe.cls = .ref C) (hd : ∃ vs, oe.data = .fields vs) (hn : oe.dict = none) (hm : X.mg "isinstance" = none) (hT : PA (X.hand a oe) es (tRefs ys)) (hl : ys.length ≤ sizeLine) (hb : PySem.W.kitAny X.K (.ref C) (ys.map Value.ref) = some b)
    (hN : X.N[i]? = some n := by rfl) (hv : Vis X.env.scope n := by first | exact Or.inl rfl | exact Or.inr (Or.inl rfl) | exact Or.inr (Or.inr rfl)) (hd1 : (n == ("__debug__" : Str)) = false := by decide) (hd2 : (n == ("__classdict__" : Str)) = false := by decide)
    (hg : Gl (X.hand a oe) "isinstance" := by rfl)
    (hst : starEach [.Name n p1, .Tuple es j p2] X.env = [(false, eval (.Name n p1) X.env), (false, eval (.Tuple es j p2) X.env)] := by rfl) (hst2 : starEach [.Tuple es j p2] X.env = [(false, eval (.Tuple es j p2) X.env)] := by rfl) (hpl : (backTo pos (starEach [.Tuple es j p2] X.env)).any (·.1) = false := by rfl) :
    PE (X.hand a oe) (.Call (.Name "isinstance" p) [.Name n p1, .Tuple es j p2] [] pos) (tIsiT i a ys b) := by
  refine PE.imp (pe_callB (X := X.hand a oe) (c_isiX FB Z hc hd hn) hg hm boot_isinstance (pa_cons (pv i hN hv hd1 hd2) (pa_cons (pe_tup hT) pa_nil hst2) (by rw [hst, hst2])) (by decide) (by decide) (by rw [hst, hst2]) hpl) fun σ H Q h => ?_
  obtain ⟨e1, q⟩ := h
  exact ⟨.ref a, e1, by rw [List.length_map]; exact hl, fun tp htp => ⟨.ref tp, b, rfl, .inr ⟨tp, ys, rfl, upd_same, hb⟩, q tp htp⟩⟩
end
end L2
namespace L2
open PySem PySem.Spec PyProof.Rows
noncomputable def DEat (K : PySem.W.Frag) (E : XK) (own : Bool) (X : Cx) (pins : List (Addr × Obj)) (σ : St) (e : Expr) (f : Env' → M Dat) : Prop := PEat X pins σ e (tD K (WE K E) own f)
noncomputable def DSat (K : PySem.W.Frag) (E : XK) (ro : Bool) (X : Cx) (OL O O' : List Nat) (pins : List (Addr × Obj)) (σ : St) (st : List Stmt) (g : Env' → M Flo) : Prop := ∀ F0 H0, PSsAt X pins σ st (tS K (WE K E) ro F0 H0 OL O O' g)
theorem PEat.imp {X : Cx} {pins : List (Addr × Obj)} {σ : St} {e : Expr} {t u : TE} (h : PEat X pins σ e t) (k : ∀ H Q, u σ H Q → t σ H Q) : PEat X pins σ e u := fun s H Q I q => h s H Q I (k H Q q)
theorem PSat.imp {X : Cx} {pins : List (Addr × Obj)} {σ : St} {st : Stmt} {t u : TS} (h : PSat X pins σ st t) (k : ∀ D H, u D σ H → t D σ H) : PSat X pins σ st u := fun s H D I q => h s H D I (k D H q)
noncomputable def sDropB (O : List Nat) (f : Env' → M Dat) : Env' → M Flo := fun ρ => (f (erase O ρ)).bind fun _ => .ok (.nx ρ)
@[simp] theorem e_dropB (O : List Nat) (f : Env' → M Dat) (ρ : Env') : sDropB O f ρ = (f (erase O ρ)).bind fun _ => .ok (.nx ρ) := id rfl
section
variable {X : Cx} {pins : List (Addr × Obj)} {σ : St} {K : PySem.W.Frag} {ro own : Bool} {OL O : List Nat} {E : XK} {e : Expr} {f : Env' → M Dat} {pos : Pos}
theorem dsa_expr (h : DEat K E own X pins σ e f) (hs : swapsWith e none pos.line X.env = pure false := by rfl) : DSat K E ro X OL O O pins σ [.Expr e pos] (sDropB O f) := fun F0 H0 => at_one (PSat.imp (at_expr h hs) fun D H ⟨FB, F, ρ, r, p⟩ => by
  refine tD_run r.repErase r.st.fh (fun e he => p.errAt r.st (by unfold sDropB; rw [he]; rfl)) fun d hd v F1 H1 s1 q => ?_
  have z : sDropB O f ρ = .ok (.nx ρ) := by unfold sDropB; rw [hd]; rfl
  rw [z] at p
  exact p σ F1 H1 (r.step s1))
theorem dsa_if {c : Expr} {a b : List Stmt} {ft : Env' → M Bool} {g k : Env' → M Flo} {O' : List Nat} (hc : DT K (WE K E) X c ft) (ha : DSat K E ro X OL O O' pins σ a g) (hb : DSat K E ro X OL O O' pins σ b k) : DSat K E ro X OL O O' pins σ [.If c a b pos] (sIf ft g k) := fun F0 H0 =>
  at_one (PSat.imp (at_if hc (ha F0 H0) (hb F0 H0)) fun D H z => rs_if z)
end
end L2
namespace L2
open PySem PySem.Spec PyProof.Rows
section
variable {K : PySem.W.Frag} {W : Wish} {ro : Bool} {F0 H0 FB F H : Hp} {OL : List Nat} {D : Ends} {σ : St} {ρ : Env'} {i j : Nat} {a : Addr} {b1 b2 b3 : Bool} {ys : List Addr}
theorem rs_suite3 (r : Rep K F0 H0 FB [] F H σ ρ) (hij : i ≠ j) (hi : i < σ.length) (hj : j < σ.length) (q : PostS K W ro F0 H0 FB OL [] D (.ok (.nx ((ρ.set j (some (.lst [.bl b1, .bl b2, .bl b3]))).set i none)))) :
    tSeq (tAsg (tLst (tCons (tIsiX i a b1) (tCons (tIsiX i a b2) tNil))) (gName j)) (tDrop (tBM K "list" rAppend (tVar j) (tCons (tIsiT i a ys b3) tNil))) (D.less i) (σ.set i (some (.ref a))) H := by
  have hz := sizeLine_eq
  have e1 : (σ.set i (some (.ref a)))[i]? = some (some (.ref a)) := by rw [List.getElem?_set_self hi]
  refine ⟨e1, e1, by show 2 ≤ sizeLine; omega, fun l hl => ?_⟩
  have e2 : ((σ.set i (some (.ref a))).set j (some (.ref l)))[j]? = some (some (.ref l)) := by rw [List.getElem?_set_self (by rw [List.length_set]; exact hj)]
  have e3 : ((σ.set i (some (.ref a))).set j (some (.ref l)))[i]? = some (some (.ref a)) := by rw [List.getElem?_set_ne (Ne.symm hij)]; exact e1
  refine ⟨.ref l, e2, tyV_list upd_same, e3, fun p hp => ?_⟩
  have nlp : l ≠ p := fun z => by subst z; rw [upd_same] at hp; cases hp
  have hpH : H p = none := by rw [upd_ne (Ne.symm nlp)] at hp; exact hp
  refine ⟨l, [.bl b1, .bl b2], .bl b3, rfl, rfl, by rw [upd_ne nlp]; exact upd_same, by show 2 < sizeLine; omega, ?_⟩
  have hlF : F l = none := r.st.fh.free hl
  have ff : Same F (upd F l (.lst [.bl b1, .bl b2, .bl b3])) := Same.upd hlF
  have st : Step F H (upd F l (.lst [.bl b1, .bl b2, .bl b3])) (upd (upd (upd H l (.lst [.bl b1, .bl b2])) p (.tup (ys.map V.ref))) l (.lst ([.bl b1, .bl b2] ++ [.bl b3]))) := by
    have hh : Same H (upd (upd (upd H l (.lst [.bl b1, .bl b2])) p (.tup (ys.map V.ref))) l (.lst ([.bl b1, .bl b2] ++ [.bl b3]))) := fun c o e => by
      rw [upd_ne (ne_of_none e hl), upd_ne (ne_of_none e hpH), upd_ne (ne_of_none e hl)]; exact e
    refine ⟨ff, hh, fun c o e => ?_, fun c o e => ?_⟩
    · by_cases hc : c = l
      · subst hc
        rw [upd_same] at e ⊢
        exact e
      · rw [upd_ne hc] at e
        exact hh c o (r.st.fh c o e)
    · by_cases hc : c = l
      · subst hc; exact .inr hl
      · rw [upd_ne hc] at e; exact .inl e
  refine q _ _ _ ⟨r.st.trans st, r.fb.trans ff, by simp only [List.length_set]; exact r.len, fun m d e _ => ?_, (fun m d e h => nomatch h), (fun m n d1 d2 c h => nomatch h)⟩
  have hmi : i ≠ m := fun z => by
    subst z
    rw [List.getElem?_set_self (by rw [List.length_set, r.len]; exact hi)] at e
    cases e
  rw [List.getElem?_set_ne hmi] at e
  rw [List.getElem?_set_ne hmi]
  by_cases hmj : j = m
  · subst hmj
    rw [List.getElem?_set_self (by rw [r.len]; exact hj)] at e
    cases e
    exact ⟨.ref l, e2, l, _, rfl, SqL.of upd_same, ⟨_, _, rfl, rfl, _, _, rfl, rfl, _, _, rfl, rfl, rfl⟩⟩
  · rw [List.getElem?_set_ne hmj] at e
    obtain ⟨v, h1, h2⟩ := r.repE.sl m d e
    refine ⟨v, ?_, h2.mono ff⟩
    rw [List.getElem?_set_ne hmj, List.getElem?_set_ne hmi]
    exact h1
end
end L2
namespace L2
open PySem PySem.Spec PyProof.Rows
noncomputable def sTry (C : Addr) (fb : Env' → M Flo) (fx : Env' → Env') : Env' → M Flo := fun ρ => match fb ρ with
  | .ok fl => .ok fl
  | .error (.exc C' []) => if C' = C then .ok (.nx (fx ρ)) else .error .stuck
  | .error _ => .error .stuck
theorem Rep.back {K : PySem.W.Frag} {F0 H0 F1 H1 FB F H : Hp} {O : List Nat} {σ : St} {ρ : Env'} (r : Rep K F1 H1 FB O F H σ ρ) (s : Step F0 H0 F1 H1) : Rep K F0 H0 FB O F H σ ρ :=
  ⟨s.trans r.st, r.fb, r.len, r.fz, fun i d e h => let ⟨v, z, q⟩ := r.ow i d e h; ⟨v, z, q.back s.hh⟩, r.ap⟩
section
variable {K : PySem.W.Frag} {ro : Bool} {F0 H0 : Hp} {OL : List Nat} {D : Ends} {σ : St} {H : Hp} {C : Addr} {i : Nat} {fb : Env' → M Flo} {fx : Env' → Env'} {ts : Addr → Option Addr → TS}
theorem rs_try (hS : ∀ (a : Addr) (FB F H : Hp) (ρ : Env'), Rep K F0 H0 FB [] F H σ ρ → PostS K Wno ro F0 H0 FB OL [] D (.ok (.nx (fx ρ))) → ts a none (D.less i) (σ.set i (some (.ref a))) H)
    (t : tS K Wno ro F0 H0 OL [] [] (sTry C fb fx) D σ H) : tTry (fun E D σ H => ∃ F1 H1, tS K (WE K E) ro F1 H1 OL [] [] fb D σ H) i C ts D σ H := by
  obtain ⟨FB, F, ρ, r, p⟩ := t
  refine ⟨F, H, FB, F, ρ, ⟨Step.refl r.st.fh, r.fb, r.len, r.fz, (fun m d e h => nomatch h), (fun m n d1 d2 c h => nomatch h)⟩, ?_⟩
  cases e : fb ρ with
  | ok fl =>
    have z : sTry C fb fx ρ = .ok fl := by unfold sTry; rw [e]
    rw [z] at p
    cases fl with
    | nx ρ' => exact fun σ' F' H' r' => p σ' F' H' (r'.back r.st)
    | rt d => exact fun v F' H' s' q => p v F' H' (r.st.trans s') (q.back r.st.hh)
    | bk ρ' => exact fun σ' F' H' r' => p σ' F' H' (r'.back r.st)
    | ct ρ' => exact fun σ' F' H' r' => p σ' F' H' (r'.back r.st)
  | error x =>
    cases x with
    | stuck =>
      have z : sTry C fb fx ρ = .error .stuck := by unfold sTry; rw [e]
      exact p.stuck z
    | exc C' fs =>
      cases fs with
      | nil =>
        by_cases hc : C' = C
        · have z : sTry C fb fx ρ = .ok (.nx (fx ρ)) := by unfold sTry; rw [e]; exact if_pos hc
          rw [z] at p
          exact fun F' H' s' => ⟨by rw [hc], fun a _ => hS a FB F' H' ρ (r.step s') p⟩
        · have z : sTry C fb fx ρ = .error .stuck := by unfold sTry; rw [e]; exact if_neg hc
          exact p.stuck z
      | cons f fs =>
        have z : sTry C fb fx ρ = .error .stuck := by unfold sTry; rw [e]
        exact p.stuck z
end
section
variable {X : Cx} {K : PySem.W.Frag} {ro : Bool} {OL : List Nat} {C : Addr} {c n : Str} {i : Nat} {np hpos pos : Pos} {b₀ : Stmt} {body suite : List Stmt} {ts : Addr → Option Addr → TS} {bmB : List Value} {fb : Env' → M Flo} {fx : Env' → Env'}
theorem ds_try (hb : ∀ (pins : List (Addr × Obj)) (σ : St) (E : XK) (xe : Value → Shared → Prop), PassesAt (CXd X.prog X.w) (X.wish xe) pins σ E → DSat K E ro (X.wish xe) OL [] [] pins σ body fb)
    (hs : ∀ (a : Addr) (oe : Obj), oe.cls = .ref C → (∃ vs, oe.data = .fields vs) → PSs (X.hand a oe) (b₀ :: suite) (ts a oe.dict))
    (hS : ∀ (F0 H0 : Hp) (D : Ends) (σ : St) (a : Addr) (FB F H : Hp) (ρ : Env'), σ.length = X.N.length → Rep K F0 H0 FB [] F H σ ρ → PostS K Wno ro F0 H0 FB OL [] D (.ok (.nx (fx ρ))) → ts a none (D.less i) (σ.set i (some (.ref a))) H)
    (hC : XNamed X.K C bmB) (hB : bmB.contains (.type "BaseException") = true) (hm : X.mg c = some (.ref C)) (hN : X.N.Nodup) (hi : X.N[i]? = some n := by rfl) (hk : X.env.scope.names.lookup n = some .local := by rfl)
    (hg : Gl X c := by rfl) (hex : X.ex = [] := by rfl) (hstk : X.stack = X.env :: X.outer := by rfl) (hfr : X.env.frame = some X.env.locals := by rfl) (hdb : (c == ("__debug__" : Str)) = false := by decide) :
    DS K Wno ro X OL [] [] (.Try body [.ExceptHandler (some (.Name c np)) (some n) (b₀ :: suite) hpos] [] [] pos) (sTry C fb fx) := fun F0 H0 pins s σ H D I z =>
  ps_try (tb := fun E D σ H => ∃ F1 H1, tS K (WE K E) ro F1 H1 OL [] [] fb D σ H) (fun pins σ E xe hp s H D I ⟨F1, H1, q⟩ => hb pins σ E xe hp F1 H1 s H D I q) hs hC hB hm hN hi hk hg hex hstk hfr hdb pins s σ H D I (rs_try (fun a FB F H ρ r p => hS F0 H0 D σ a FB F H ρ I.len r p) z)
end
end L2
namespace L2
open PySem PySem.Spec PyProof.Rows
noncomputable def excIn2 (K : PySem.W.Frag) (C : Addr) (bmB : List Value) (newId : String) (f : Addr) : Bool := match K.lookup C with
  | some ⟨.type "type", _, .cls cd, sl⟩ =>
      (match cd.mro, sl.toList with
    | .ref C' :: tl, [_, _, _, _, some (.builtin n), _] => (n == newId && C' == C && !cd.hasDel) && (PySem.W.nsOkIn K cd.ns && PySem.W.tailIn K bmB tl) && (PySem.W.nsIn K cd.ns "__init__" == some (some (.ref f)))
    | _, _ => false)
  | _ => false
end L2
namespace L2
open PySem PySem.Spec PyProof.Rows
noncomputable def veTail : List Value → Bool
  | .ref _ :: r => veTail r
  | [.type a, .type b, .type c, .type d] => a == "ValueError" && b == "Exception" && c == "BaseException" && d == "object"
  | _ => false
structure XFld (K : PySem.W.Frag) (C : Addr) (f : Str) : Prop where
  sa : PySem.W.findIn K (.ref C) "__setattr__"
      = some (some (.builtin "object.__setattr__"))
  no : PySem.W.findIn K (.ref C) f = some none
  cd : ((PySem.W.clsIn K C).any fun cd => veTail cd.mro && cd.hasDict) = true
section
open PySem.W
variable {prog : Program} {w : World} {A : Around} {E : Value → Shared → Prop} {s : Shared} {a C : Addr} {oe : Obj} {od : Option Obj} {K : Frag} {f : Str} {v : Value}
end
end L2
namespace L2
open PySem PySem.Spec PyProof.Rows
section
open PySem.W
variable {prog : Program} {w : World} {A : Around} {E : Value → Shared → Prop} {s : Shared} {a C : Addr} {oe od : Obj} {K : Frag} {f : Str} {v : Value} {B : String} {bmB : List Value}
end
end L2
namespace L2
open PySem PySem.Spec PyProof.Rows
end L2
namespace L2
open PySem PySem.Spec PyProof.Rows
section
variable {X : Cx} {K : PySem.W.Frag} {ro : Bool} {x : Str} {e : Expr} {es : List Expr} {fr : Env' → M (List Dat)} {p pos : Pos} {W : Wish}
theorem passN : Passes (CXd X.prog X.w) X (fun _ _ _ => False) := by
  rintro pins σ H1 s1 e s' I ⟨a, T, C, dx, H', rfl, z⟩
  exact z.want.elim
end
end L2
namespace L2
open PySem PySem.Spec PyProof.Rows
section
variable {K : PySem.W.Frag} {W : Wish} {X : Cx} {ro : Bool} {OL O O' : List Nat}
theorem ps_nox {st : Stmt} {t : TS} (h : PS X.nox st t) : PS X st t := fun pins s σ H D I z => wpAny_mono (h pins s σ H D (I.wish _) z) (fun _ _ q => q.unwish) fun _ _ y => (show False from y).elim
theorem ds_lift1 {st : Stmt} {g : Env' → M Flo} (h : DS K Wno ro X.nox OL O O' st g) : DS K W ro X OL O O' st (fNoX g) := fun F0 H0 => PS.imp (ps_nox (h F0 H0)) fun D σ H ⟨FB, F, ρ, r, p⟩ => by
  refine ⟨FB, F, ρ, r, ?_⟩
  have p : PostS K W ro F0 H0 FB OL O' D (noX (g ρ)) := p
  unfold PostS at p ⊢
  cases e : g ρ with
  | ok fl =>
    rw [e] at p
    cases fl <;> exact p
  | error x => rw [e] at p; exact (W.ns p).elim
end
structure XMk (K : PySem.W.Frag) (mg : Str → Option Value) (x : Str) (C f : Addr) : Prop where
  mg : mg x = some (.ref C)
  ex : excIn2 K C [.type "ValueError", .type "Exception", .type "BaseException", .type "object"] "ValueError.__new__" f = true
  fn : PySem.W.typeIn K (.ref f) = some (.type "function")
  kp : PySem.W.keepIn K (.ref C)
      = true
structure XTry (K : PySem.W.Frag) (mg : Str → Option Value) (x : Str) (C : Addr) : Prop where
  mg : mg x = some (.ref C)
  nm : XNamed K C [.type "ValueError", .type "Exception", .type "BaseException", .type "object"]
  isi : XIsi K C
end L2
namespace L2
open PySem PySem.Spec PyProof.Rows
end L2
namespace L2
open PySem PySem.Spec PyProof.Rows
noncomputable def isi_strD : Dat → M Dat
  | .str _ => .ok (.bl true)
  | .ins _ _ => stk
  | .dic _ => stk
  | _ => .ok (.bl false)
section
variable {X : Cx} {K : PySem.W.Frag} {W : Wish} {own : Bool} {a : Expr} {fa : Env' → M Dat} {pos p p2 : Pos}
theorem c_isi_str (kit : Kit K) (hK : X.K = K := by rfl) : CallR X (.builtin "isinstance") (fun xs H Q => ∃ v, xs = [v, .ty "str"] ∧ rD1 K W own isi_strD v H Q) := by
  subst hK
  intro pins s σ H xs us Q I r h; obtain ⟨v, rfl, F, d, s1, q, p⟩ := h
  obtain ⟨u, w, rfl, ru, rw'⟩ := r.two
  cases (show w = Value.type "str" from rw')
  by_cases hi : (∃ C fs, d = .ins C fs) ∨ ∃ ks, d = .dic ks
  · rcases hi with ⟨C, fs, rfl⟩ | ⟨ks, rfl⟩ <;> exact Post.stuck p
  · refine isi_D I s1 q ru kit.q_int_str kit.q_bool_str kit.q_list_str kit.q_tuple_str kit.q_str_str kit.q_NoneType_str (fun k tk hk => ⟨.bl k, H, I.tok tk, rfl, ?_⟩) (fun C fs e => hi (.inl ⟨C, fs, e⟩)) (fun ks e => hi (.inr ⟨ks, e⟩))
    cases d <;> first | (have hk' : k = _ := hk; subst hk'; exact Post.bl (own := own) p s1) | exact absurd (.inl ⟨_, _, rfl⟩) hi | exact absurd (.inr ⟨_, rfl⟩) hi
theorem de_isi_str (kit : Kit K) (hm : X.mg "isinstance" = none) (hmT : X.mg "str" = none) (ha : DE K W false X a fa) (hK : X.K = K := by rfl)
    (hg : Gl X "isinstance" := by rfl) (hgT : Gl X "str" := by rfl)
    (hst : starEach [a, .Name "str" p2] X.env = [(false, eval a X.env), (false, eval (.Name "str" p2) X.env)] := by rfl) (hst2 : starEach [.Name "str" p2] X.env = [(false, eval (.Name "str" p2) X.env)] := by rfl) (hpl : (backTo pos (starEach [.Name "str" p2] X.env)).any (·.1) = false := by rfl) :
    DE K W own X (.Call (.Name "isinstance" p) [a, .Name "str" p2] [] pos) (f1 isi_strD fa) := de_isi (c_isi_str kit hK) hm hmT (by decide +kernel) ha hg hgT (by decide) (by decide) hst hst2 hpl
end
end L2
namespace L2
open PySem PySem.Spec PyProof.Rows
noncomputable def rIsi (K : PySem.W.Frag) (C a : Addr) (R : Hp → Prop) : List V → Hp → VK → Prop := fun xs H Q => R H ∧ ∃ v b, xs = [.ref a, v] ∧
    ((∃ c, RelV v c ∧ (∀ u, RelV v u → u = c) ∧ PySem.W.kitOne K (.ref C) c = some b) ∨ ∃ (tp : Addr) (ys : List Addr), v = .ref tp ∧ H tp = some (.tup (ys.map V.ref)) ∧ PySem.W.kitAny K (.ref C) (ys.map Value.ref) = some b) ∧ Q (.bl b) H
noncomputable def XDk (d : Addr) : Hp → Prop := fun H => ∃ gs, H d = some (.xd gs)
noncomputable def tIsiR (i : Nat) (a : Addr) (R : Hp → Prop) (b : Bool) : TE := fun σ H Q => σ[i]? = some (some (.ref a)) ∧ R H ∧ Q (.bl b) H
noncomputable def tIsiTR (i : Nat) (a : Addr) (R : Hp → Prop) (ys : List Addr) (b : Bool) : TE := fun σ H Q => σ[i]? = some (some (.ref a)) ∧ ∀ p, H p = none → R (upd H p (.tup (ys.map V.ref))) ∧ Q (.bl b) (upd H p (.tup (ys.map V.ref)))
section
variable {X : Cx} {C a d D : Addr} {oe : Obj} {B : String} {bmB : List Value} {R : Hp → Prop}
theorem c_isiD (FB : ExcAttrBase B bmB) (Z : XIsi X.K C) (hc : oe.cls = .ref C) (hd : ∃ vs, oe.data = .fields vs) (hx : oe.dict = some d) : CallR (X.hand a oe) (.builtin "isinstance") (rIsi X.K C a (XDk d)) := by
  intro pins s σ H xs us Q I r h; obtain ⟨⟨gs, hg⟩, v, b, rfl, h1, q⟩ := h
  obtain ⟨u, w, rfl, ru, rw'⟩ := r.two
  cases (show u = Value.ref a from ru)
  have pa := (I.pin (a, oe) (List.mem_cons_self ..)).1
  obtain ⟨vs, hdt⟩ := hd
  obtain ⟨mA, ⟨od, es, ep, ho, hrest⟩, _⟩ := (show ObjOk X.prog X.w H s.heap d (.xd gs) from I.hok d _ hg)
  have J : PySem.W.InstAt s.heap a oe C (some od) := ⟨pa, hc, by unfold PySem.W.notCls; rw [hdt], by rw [hx]; exact ho⟩
  rcases h1 with ⟨c, rc, uniq, e⟩ | ⟨tp, ys, rfl, ht, e⟩
  · cases uniq w rw'
    exact PySem.W.kia_one (kitx_exc FB Z) I.kIn J e (fun z => nomatch z) fun tk => ⟨.bl b, H, I.tok tk, rfl, q⟩
  · cases (show w = Value.ref tp from rw')
    obtain ⟨_, its, rv, ob, z1, z2⟩ := (show ObjOk X.prog X.w H s.heap tp (.tup (ys.map V.ref)) from I.hok tp _ ht)
    obtain ⟨z3, n, z4⟩ := z2
    have ei : its = ys.map Value.ref := refs_are rv
    subst ei
    obtain ⟨oc, odd, odt, osl⟩ := ob
    have z5 : oc = Value.type "tuple" := z3
    have z6 : odt = .seq (ys.map Value.ref).toArray n := z4
    subst z5 z6
    exact PySem.W.kia_tup (kitx_exc FB Z) I.kIn J z1 e (fun z => nomatch z) fun tk => ⟨.bl b, H, I.tok tk, rfl, q⟩
end
section
variable {X : Cx} {C a D : Addr} {oe : Obj} {R : Hp → Prop} {i : Nat} {n y : Str} {T : String} {p p1 p2 pos : Pos} {b : Bool} {ys : List Addr} {es : List Expr}
theorem pe_isO (hcr : CallR (X.hand a oe) (.builtin "isinstance") (rIsi X.K C a R)) (hm : X.mg "isinstance" = none) (hD : X.mg y = some (.ref D)) (hb : PySem.W.kitOne X.K (.ref C) (.ref D) = some b)
    (hN : X.N[i]? = some n := by rfl) (hv : Vis X.env.scope n := by first | exact Or.inl rfl | exact Or.inr (Or.inl rfl) | exact Or.inr (Or.inr rfl)) (hd1 : (n == ("__debug__" : Str)) = false := by decide) (hd2 : (n == ("__classdict__" : Str)) = false := by decide)
    (hg : Gl (X.hand a oe) "isinstance" := by rfl) (hgD : Gl (X.hand a oe) y := by rfl) (hd3 : (y == ("__debug__" : Str)) = false := by decide)
    (hst : starEach [.Name n p1, .Name y p2] X.env = [(false, eval (.Name n p1) X.env), (false, eval (.Name y p2) X.env)] := by rfl) (hst2 : starEach [.Name y p2] X.env = [(false, eval (.Name y p2) X.env)] := by rfl) (hpl : (backTo pos (starEach [.Name y p2] X.env)).any (·.1) = false := by rfl) :
    PE (X.hand a oe) (.Call (.Name "isinstance" p) [.Name n p1, .Name y p2] [] pos) (tIsiR i a R b) := by
  have vD : PE (X.hand a oe) (.Name y p2) (tC (.ref D)) := fun pins s σ H Q I h => ld_glob I hgD hD ⟨.ref D, H, I, rfl, h⟩ hd3
  refine PE.imp (pe_callB (X := X.hand a oe) hcr hg hm boot_isinstance (pa_cons (pv i hN hv hd1 hd2) (pa_cons vD pa_nil hst2) (by rw [hst, hst2])) (by decide) (by decide) (by rw [hst, hst2]) hpl) fun σ H Q h => ?_
  obtain ⟨e1, hR, q⟩ := h
  exact ⟨.ref a, e1, hR, .ref D, b, rfl, .inl ⟨.ref D, rfl, fun u hu => hu, hb⟩, q⟩
theorem pe_isB (hcr : CallR (X.hand a oe) (.builtin "isinstance") (rIsi X.K C a R)) (hm : X.mg "isinstance" = none) (hmT : X.mg y = none) (hvT : bootBuiltins y = some (.type T)) (hb : PySem.W.kitOne X.K (.ref C) (.type T) = some b)
    (hN : X.N[i]? = some n := by rfl) (hv : Vis X.env.scope n := by first | exact Or.inl rfl | exact Or.inr (Or.inl rfl) | exact Or.inr (Or.inr rfl)) (hd1 : (n == ("__debug__" : Str)) = false := by decide) (hd2 : (n == ("__classdict__" : Str)) = false := by decide)
    (hg : Gl (X.hand a oe) "isinstance" := by rfl) (hgT : Gl (X.hand a oe) y := by rfl) (hy : y ≠ "__name__" := by decide) (hd3 : (y == ("__debug__" : Str)) = false := by decide)
    (hst : starEach [.Name n p1, .Name y p2] X.env = [(false, eval (.Name n p1) X.env), (false, eval (.Name y p2) X.env)] := by rfl) (hst2 : starEach [.Name y p2] X.env = [(false, eval (.Name y p2) X.env)] := by rfl) (hpl : (backTo pos (starEach [.Name y p2] X.env)).any (·.1) = false := by rfl) :
    PE (X.hand a oe) (.Call (.Name "isinstance" p) [.Name n p1, .Name y p2] [] pos) (tIsiR i a R b) := by
  refine PE.imp (pe_callB (X := X.hand a oe) hcr hg hm boot_isinstance (pa_cons (pv i hN hv hd1 hd2) (pa_cons (pe_tyN (X := X.hand a oe) (pos := p2) hgT hmT hvT hy hd3) pa_nil hst2) (by rw [hst, hst2])) (by decide) (by decide) (by rw [hst, hst2]) hpl) fun σ H Q h => ?_
  obtain ⟨e1, hR, q⟩ := h
  exact ⟨.ref a, e1, hR, .ty T, b, rfl, .inl ⟨.type T, rfl, fun u hu => hu, hb⟩, q⟩
theorem pe_isT {j} (hcr : CallR (X.hand a oe) (.builtin "isinstance") (rIsi X.K C a R)) (hm : X.mg "isinstance" = none) (hT : PA (X.hand a oe) es (tRefs ys)) (hl : ys.length ≤ sizeLine) (hb : PySem.W.kitAny X.K (.ref C) (ys.map Value.ref) = some b)
    (hN : X.N[i]? = some n := by rfl) (hv : Vis X.env.scope n := by first | exact Or.inl rfl | exact Or.inr (Or.inl rfl) | exact Or.inr (Or.inr rfl)) (hd1 : (n == ("__debug__" : Str)) = false := by decide) (hd2 : (n == ("__classdict__" : Str)) = false := by decide)
    (hg : Gl (X.hand a oe) "isinstance" := by rfl)
    (hst : starEach [.Name n p1, .Tuple es j p2] X.env = [(false, eval (.Name n p1) X.env), (false, eval (.Tuple es j p2) X.env)] := by rfl) (hst2 : starEach [.Tuple es j p2] X.env = [(false, eval (.Tuple es j p2) X.env)] := by rfl) (hpl : (backTo pos (starEach [.Tuple es j p2] X.env)).any (·.1) = false := by rfl) :
    PE (X.hand a oe) (.Call (.Name "isinstance" p) [.Name n p1, .Tuple es j p2] [] pos) (tIsiTR i a R ys b) := by
  refine PE.imp (pe_callB (X := X.hand a oe) hcr hg hm boot_isinstance (pa_cons (pv i hN hv hd1 hd2) (pa_cons (pe_tup hT) pa_nil hst2) (by rw [hst, hst2])) (by decide) (by decide) (by rw [hst, hst2]) hpl) fun σ H Q h => ?_
  obtain ⟨e1, q⟩ := h
  exact ⟨.ref a, e1, by rw [List.length_map]; exact hl, fun tp htp => ⟨(q tp htp).1, .ref tp, b, rfl, .inr ⟨tp, ys, rfl, upd_same, hb⟩, (q tp htp).2⟩⟩
end
end L2
namespace L2
open PySem PySem.Spec PyProof.Rows
end L2
namespace L2
open PySem PySem.Spec PyProof.Rows
structure Yd (P : Program) (w : World) (K : PySem.W.Frag) (mg : Str → Option Value) (base : Heap) (CX : CXT) (k : Nat) (x : Str) (st : Stmt) (ps : List Str) (sp : Sp) (f : Addr) (fd : FuncData) : Prop where
  d : Def K mg x st ps f fd
  o : FnOk P w K mg base CX k f fd ps sp
end L2
namespace L2
open PySem PySem.Spec PyProof.Rows
section
open PySem.W
variable {M : Model} {A : Around} {E : Value → Shared → Prop} {h : Heap} {g : Array GenState} {d : Drawn} {t : Nat} {os : OsState} {a C Cb : Addr} {oe : Obj} {K : Frag}
end
structure XUnder (K : PySem.W.Frag) (C Cb : Addr) : Prop where
  sub : PySem.W.mroIn K C (.ref Cb) = some true
  isi : XIsi K C
structure XBase (K : PySem.W.Frag) (mg : Str → Option Value) (x : Str) (Cb : Addr) : Prop where
  mg : mg x = some (.ref Cb)
  ty : PySem.W.typeIn K (.ref Cb) = some (.type "type")
  bs : PySem.W.mroIn K Cb (.type "BaseException") = some true
noncomputable def XR : Option Addr → Hp → Prop
  | none => fun _ => True
  | some d => XDk d
section
variable {X : Cx} {C a : Addr} {oe : Obj} {B : String} {bmB : List Value}
theorem c_isiA (FB : ExcAttrBase B bmB) (Z : XIsi X.K C) (hc : oe.cls = .ref C) (hd : ∃ vs, oe.data = .fields vs) : CallR (X.hand a oe) (.builtin "isinstance") (rIsi X.K C a (XR oe.dict)) := by
  cases hx : oe.dict with
  | none => exact fun pins s σ H xs us Q I r h => c_isiX FB Z hc hd hx pins s σ H xs us Q I r h.2
  | some d => exact c_isiD FB Z hc hd hx
end
structure XTell (K : PySem.W.Frag) (C : Addr) (A1 A2 A3 : Addr) (T : String) (ys : List Addr) (bs : List Bool) : Prop where
  ex : ∃ b1 b2 b3 b4 b5, bs = [b1, b2, b3, b4, b5] ∧ PySem.W.kitOne K (.ref C) (.ref A1) = some b1 ∧ PySem.W.kitOne K (.ref C) (.ref A2) = some b2 ∧ PySem.W.kitOne K (.ref C) (.ref A3) = some b3 ∧ PySem.W.kitOne K (.ref C) (.type T) = some b4 ∧ PySem.W.kitAny K (.ref C) (ys.map Value.ref) = some b5
structure XTxt (K : PySem.W.Frag) (mg : Str → Option Value) (x : Str) (C : Addr) : Prop where
  mg : mg x = some (.ref C)
  ex : PySem.W.excIn K C [.type "ValueError", .type "Exception", .type "BaseException", .type "object"] "ValueError.__new__" = true
end L2
namespace L2
open PySem PySem.Spec PyProof.Rows
section
open PySem.W
variable {M : Model} {A : Around} {E : Value → Shared → Prop} {h : Heap} {g : Array GenState} {d : Drawn} {t : Nat} {os : OsState} {a C Cb : Addr} {oe : Obj} {K : Frag}
end
structure XTwo (K : PySem.W.Frag) (mg : Str → Option Value) (c1 c2 : Str) (C1 C2 : Addr) : Prop where
  b1 : XBase K mg c1 C1
  b2 : XBase K mg c2 C2
  isi : XIsi K C1
  s1 : PySem.W.mroIn K C1 (.ref C1) = some true
  s2 : PySem.W.mroIn K C2 (.ref C2) = some true
  no : PySem.W.mroIn K C2 (.ref C1) = some false
end L2
namespace L2
open PySem PySem.Spec PyProof.Rows
end L2
namespace L2
open PySem PySem.Spec PyProof.Rows
section
open PySem.SetTable
end
section
open PySem
variable {prog : Program} {w : World} {A : Around} {E : Value → Shared → Prop} {s : Shared}
end
section
open PySem
variable {prog : Program} {w : World} {A : Around} {R : Result → Shared → Prop} {I : Addr} {fp wr : List Addr} {G : Array GenState → Array GenState → Prop} {n : Nat} {P : Nat → Value → Prop} {St : Nat → Shared → Prop} {b : Bool}
end
section
open PySem
variable {prog : Program} {w : World} {A : Around} {E : Value → Shared → Prop} {s : Shared}
end
section
open PySem
end
section
open PySem
variable {prog : Program} {w : World} {A : Around} {E : Value → Shared → Prop} {s : Shared} {I a T : Addr} {es : Array (Int × Value)} {ep n i : Nat} {t : SetTable}
end
section
open PySem
variable {prog : Program} {w : World} {A : Around} {E : Value → Shared → Prop} {s : Shared} {I a T : Addr} {es : Array (Int × Value)} {ep n i : Nat} {t : SetTable}
end
section
open PySem
variable {prog : Program} {w : World} {A : Around} {E : Value → Shared → Prop} {s : Shared} {a : Addr}
end
end L2
namespace L2
open PySem PySem.Spec PyProof.Rows
section
open PySem.W
variable {prog : Program} {w : World} {A : Around} {E : Value → Shared → Prop} {s : Shared}
end
end L2
namespace L2
open PySem PySem.Spec PyProof.Rows
end L2
namespace L2
open PySem PySem.Spec PyProof.Rows
end L2
namespace L2
open PySem PySem.Spec PyProof.Rows
end L2
namespace L2
open PySem PySem.Spec PyProof.Rows
section
variable {K : PySem.W.Frag} {mg : Str → Option Value} {P : Program} {w : World} {base : Heap} {CX : CXT}
theorem Fun.okE {x qual : Str} {st : Stmt} {f : Addr} {fd : FuncData} {N ps : List Str} {k : Nat} {sp : Sp} (F : Fun K x qual st f fd) (S : FnScope N ps (defScope st)) (len : ∀ vs H Q E, sp vs H Q E → vs.length = ps.length)
    (hbody : ∀ (cdv : Value) (A : Around) (outer : List Env) (s : Shared) (H : Hp) (vs : List V) (Q : VK) (E : XK), Room k (A.deeper (envOfC qual (defScope st) s.heap.objs.size f cdv)) → sp vs H Q E →
      ∃ t, PSs (cxOf CX P w K mg base N qual (defScope st) f cdv A outer s H E) (defBody st) t ∧ t { nx := fun _ H' => Q .non H', rt := Q } (start N vs) H) : FnOk P w K mg base CX (k + 1) f fd ps sp := by
  obtain ⟨oc, od, kV, doc, pm, an, cdv, ct, osl, rfl, lk, hcd⟩ := F.ex
  exact fn_of lk hcd S len (hbody cdv)
end
structure Abt (p : Addr) (F H F' H' : Hp) : Prop where
  ff : Same F F'
  fh : Same F' H'
  fp : F' p = none
  nw : ∀ b o, F' b = some o → F b = some o ∨ H b = none
  hh : ∀ c o, H c = some o → c ≠ p → H' c = some o
noncomputable def spI1X (K : PySem.W.Frag) (C : Addr) (g : List Dat → M Dat) : Sp := fun vs H Q E => ∃ p dx v F d, vs = [.ref p, v] ∧ H p = some (.ins C dx []) ∧ F p = none ∧ Same F H ∧ Deep K F d v ∧ (match g [d] with
  | .ok r => ∀ w F' H', Abt p F H F' H' → H' p = some (.ins C dx [("gaps", w)]) → Deep K F' r w → Q .non H'
  | .error e => ∀ F' H', Abt p F H F' H' → (WE K E).p e F' H')
theorem Abt.born {C : Addr} {F H F' H' : Hp} {x dx : Addr} {fs : List (Str × V)} (s : Same F H) (hx : H x = none) (hdx : H dx = none) (hne : dx ≠ x) (z : Abt x F (upd (upd H dx (.own x)) x (.ins C dx [])) F' H') (h6 : H' x = some (.ins C dx fs)) : Step F H (upd F' x (.ins C dx fs)) H' :=
  Step.born s hx hdx hne z.ff z.fh z.fp z.nw z.hh h6
theorem Abt.step {C : Addr} {F H F' H' : Hp} {x dx : Addr} (hx : H x = none) (hdx : H dx = none) (z : Abt x F (upd (upd H dx (.own x)) x (.ins C dx [])) F' H') : Step F H F' H' where
  ff := z.ff
  hh := fun c o e => by
    have hc : c ≠ x := fun h => by rw [h, hx] at e; cases e
    have hd : c ≠ dx := fun h => by rw [h, hdx] at e; cases e
    exact z.hh c o (by rw [upd_ne hc, upd_ne hd]; exact e) hc
  fh := z.fh
  nw := fun c o e => by
    rcases z.nw c o e with q | q
    · exact .inl q
    · refine .inr ?_
      by_cases hc : c = x
      · subst hc; exact hx
      · by_cases hd : c = dx
        · subst hd; exact hdx
        · rw [upd_ne hc, upd_ne hd] at q; exact q
section
variable {X : Cx} {K : PySem.W.Frag} {own ro : Bool} {e o a : Expr} {es : List Expr} {x m : Str} {pos p apos : Pos} {f fo : Env' → M Dat} {fr : Env' → M (List Dat)} {C C2 : Addr} {E : XK} {CX : CXT}
theorem rd_newRX {W : Wish} {g : List Dat → M Dat} {σ : St} {H : Hp} {Q : VK} (hw : ∀ e F H, W.p e F H → (WE K E).p e F H) (h : tD K W false (fL (newR C g) fr) σ H Q) : tMake C (spI1X K C g) [] E (tDA K W fr) σ H Q := by
  obtain ⟨F, ρ, r, s, p⟩ := rd_L h
  refine ⟨F, ρ, r, s, ?_⟩
  cases e1 : fr ρ with
  | error z => rw [e1] at p; exact p
  | ok ds =>
    rw [e1] at p
    intro vs F1 H1 st q
    obtain ⟨F2, es1, s1, q1, z⟩ := p vs F1 H1 st q
    rcases es1 with _ | ⟨d, _ | ⟨_, _⟩⟩
    · exact (W.ns z).elim
    rotate_left
    · exact (W.ns z).elim
    · obtain ⟨v, vs', rfl, qd, hn⟩ := q1
      cases (show vs' = [] from hn)
      intro x dx hx hdx hne
      refine ⟨x, dx, v, F2, d, rfl, upd_same, s1.free hx, fun c o e => ?_, qd, ?_⟩
      · have hc : c ≠ x := fun h => by rw [h, s1.free hx] at e; cases e
        have hd : c ≠ dx := fun h => by rw [h, s1.free hdx] at e; cases e
        rw [upd_ne hc, upd_ne hd]; exact s1 _ _ e
      · have z : Post K W false F2 H1 ((g [d]).bind fun r => .ok (.ins C [("gaps", r)])) Q := z
        cases hgd : g [d] with
        | error e =>
          rw [hgd] at z
          exact fun F' H' ab => hw _ _ _ (W.mono z (ab.step hx hdx))
        | ok r =>
          rw [hgd] at z
          intro w F' H' ab h6 h7
          refine ⟨rfl, z (.ref x) (upd F' x (.ins C dx [("gaps", w)])) H' (ab.born s1 hx hdx hne h6) ?_⟩
          exact ⟨x, dx, _, rfl, upd_same, w, [], rfl, Deep.mono (Same.upd ab.fp) h7, rfl⟩
theorem de_newRN {k : Nat} {fI : Addr} {fdI : FuncData} {g : List Dat → M Dat} {ps : List Str} (Mk' : Mk X.K C fI) (FI : FnOk X.prog X.w X.K X.mg X.base (CXd X.prog X.w) k fI fdI ps (spI1X K C g)) (hr : Room (k + 1) X.A) (hm : X.mg x = some (.ref C)) (hb : Binds X.K fdI ps [])
    (ha : DA K Wno X [e] fr) (hg : Gl X x := by rfl) (hdb : (x == ("__debug__" : Str)) = false := by decide) (hst : starEach [e] X.env = (false, eval e X.env) :: starEach [] X.env := by rfl) (hpl : (backTo pos (starEach [] X.env)).any (·.1) = false := by rfl) :
    DE K Wno false X (.Call (.Name x p) [e] [] pos) (fL (newR C g) fr) := PE.imp (pe_make Mk' FI hr hg hm hb .nil passN ha hdb hst hpl) fun _ _ _ h => rd_newRX (fun _ _ _ z => z.elim) h
end
end L2
namespace L2
open PySem PySem.Spec PyProof.Rows
noncomputable def isiC (tb : List (Addr × Bool)) : Dat → M Dat
  | .ins C _ => match tb.lookup C with
    | some b => .ok (.bl b)
    | none => stk
  | _ => stk
section
variable {X : Cx} {K : PySem.W.Frag} {W : Wish} {own : Bool} {a : Expr} {fa : Env' → M Dat} {pos p p2 : Pos} {y : Str} {D : Addr} {tb : List (Addr × Bool)}
theorem c_isiC (hT : ∀ C b, tb.lookup C = some b → (∃ x, Kls K X.mg x C) ∧ PySem.W.kitOne K (.ref C) (.ref D) = some b) (hK : X.K = K := by rfl) : CallR X (.builtin "isinstance") (fun xs H Q => ∃ v, xs = [v, .ref D] ∧ rD1 K W own (isiC tb) v H Q) := by
  subst hK
  intro pins s σ H xs us Q I r h
  obtain ⟨v, rfl, F, d, s1, q, p⟩ := h
  obtain ⟨u, w, rfl, ru, rw'⟩ := r.two
  cases (show w = Value.ref D from rw')
  cases d with
  | ins C fs =>
    cases hl : tb.lookup C with
    | none =>
      have p : Post X.K W own F H (match tb.lookup C with
        | some b => .ok (.bl b)
        | none => stk) Q := p
      rw [hl] at p
      exact Post.stuck p
    | some b =>
      have p : Post X.K W own F H (match tb.lookup C with
        | some b => .ok (.bl b)
        | none => stk) Q := p
      rw [hl] at p
      obtain ⟨⟨x, hk⟩, hb⟩ := hT C b hl
      obtain ⟨l, dx, gs, e1, ea, df⟩ := q
      subst e1
      exact isinst_ok I ru (hk.ty (s1 _ _ ea)) hb fun tk => ⟨.bl b, H, I.tok tk, rfl, Post.bl (own := own) p s1⟩
  | _ => exact Post.stuck p
theorem de_isiC (hT : ∀ C b, tb.lookup C = some b → (∃ x, Kls K X.mg x C) ∧ PySem.W.kitOne K (.ref C) (.ref D) = some b) (hm : X.mg "isinstance" = none) (hD : X.mg y = some (.ref D)) (ha : DE K W false X a fa) (hK : X.K = K := by rfl)
    (hg : Gl X "isinstance" := by rfl) (hgT : Gl X y := by rfl) (hd : (y == ("__debug__" : Str)) = false := by decide)
    (hst : starEach [a, .Name y p2] X.env = [(false, eval a X.env), (false, eval (.Name y p2) X.env)] := by rfl) (hst2 : starEach [.Name y p2] X.env = [(false, eval (.Name y p2) X.env)] := by rfl) (hpl : (backTo pos (starEach [.Name y p2] X.env)).any (·.1) = false := by rfl) :
    DE K W own X (.Call (.Name "isinstance" p) [a, .Name y p2] [] pos) (f1 (isiC tb) fa) :=
  (pe_callB (c_isiC hT hK) hg hm boot_isinstance (pa_cons ha (pa_cons (pe_glob (v := .ref D) (pos := p2) hgT hD rfl hd) pa_nil hst2) (by rw [hst, hst2])) (by decide) (by decide) (by rw [hst, hst2]) hpl).imp fun σ H Q h => by
    obtain ⟨F, ρ, r, s, q⟩ := rd_1 h
    refine ⟨F, ρ, r, s, ?_⟩
    cases e1 : fa ρ with
    | error z => rw [e1] at q; exact q
    | ok d => rw [e1] at q; exact fun v F' H' st z => ⟨v, rfl, q v F' H' st z⟩
end
end L2
namespace L2
open PySem PySem.Spec PyProof.Rows
noncomputable def tsTold3 (K : PySem.W.Frag) (i j : Nat) (b1 b2 b3 : Bool) (ys : List Addr) (a : Addr) : Option Addr → TS
  | none => tSeq (tAsg (tLst (tCons (tIsiX i a b1) (tCons (tIsiX i a b2) tNil))) (gName j)) (tDrop (tBM K "list" rAppend (tVar j) (tCons (tIsiT i a ys b3) tNil)))
  | some _ => tNever
noncomputable def xTold3 (i j : Nat) (b1 b2 b3 : Bool) : Env' → Env' := fun ρ => (ρ.set j (some (.lst [.bl b1, .bl b2, .bl b3]))).set i none
@[simp] theorem e_told3 (i j : Nat) (b1 b2 b3 : Bool) (ρ : Env') : xTold3 i j b1 b2 b3 ρ = (ρ.set j (some (.lst [.bl b1, .bl b2, .bl b3]))).set i none := id rfl
theorem e_try_ok {C : Addr} {fb : Env' → M Flo} {fx : Env' → Env'} {ρ : Env'} {fl : Flo} (h : fb ρ = .ok fl) : sTry C fb fx ρ = .ok fl := by unfold sTry; rw [h]
theorem e_try_exc {C : Addr} {fb : Env' → M Flo} {fx : Env' → Env'} {ρ : Env'} (h : fb ρ = .error (.exc C [])) : sTry C fb fx ρ = .ok (.nx (fx ρ)) := by unfold sTry; rw [h]; exact if_pos rfl
section
variable {X : Cx} {K : PySem.W.Frag} {ro : Bool} {OL : List Nat} {C : Addr} {c n to : Str} {i j : Nat} {np hpos pos : Pos} {body suite : List Stmt} {fb : Env' → M Flo} {b₀ : Stmt} {b1 b2 b3 : Bool} {ys : List Addr}
theorem ds_told3 (hb : ∀ (pins : List (Addr × Obj)) (σ : St) (E : XK) (xe : Value → Shared → Prop), PassesAt (CXd X.prog X.w) (X.wish xe) pins σ E → DSat K E ro (X.wish xe) OL [] [] pins σ body fb)
    (Z : XTxt X.K X.mg c C) (hN : X.N.Nodup)
    (hs : ∀ (a : Addr) (oe : Obj), oe.cls = .ref C → (∃ vs, oe.data = .fields vs) → oe.dict = none → PSs (X.hand a oe) (b₀ :: suite) (tSeq (tAsg (tLst (tCons (tIsiX i a b1) (tCons (tIsiX i a b2) tNil))) (gName j)) (tDrop (tBM K "list" rAppend (tVar j) (tCons (tIsiT i a ys b3) tNil)))))
    (hij : i ≠ j := by decide) (hi : X.N[i]? = some n := by rfl) (hj : X.N[j]? = some to := by rfl) (hk : X.env.scope.names.lookup n = some .local := by rfl)
    (hg : Gl X c := by rfl) (hex : X.ex = [] := by rfl) (hstk : X.stack = X.env :: X.outer := by rfl) (hfr : X.env.frame = some X.env.locals := by rfl) (hdb : (c == ("__debug__" : Str)) = false := by decide) :
    DS K Wno ro X OL [] [] (.Try body [.ExceptHandler (some (.Name c np)) (some n) (b₀ :: suite) hpos] [] [] pos) (sTry C fb (xTold3 i j b1 b2 b3)) := by
  refine ds_try (ts := fun a dx => tsTold3 K i j b1 b2 b3 ys a dx) hb (fun a oe hc hd => ?_) (fun F0 H0 D σ a FB F H ρ hl r p => rs_suite3 r hij ?_ ?_ p) (xnamed1 Z.ex) (by decide +kernel) Z.mg hN hi hk hg hex hstk hfr hdb
  · cases hx : oe.dict with
    | none => exact hs a oe hc hd hx
    | some d => exact pss_never
  · rw [hl]; exact (List.getElem?_eq_some_iff.mp hi).1
  · rw [hl]; exact (List.getElem?_eq_some_iff.mp hj).1
end
end L2
namespace L2
open PySem PySem.Spec PyProof.Rows
end L2
namespace L2
open PySem PySem.Spec PyProof.Rows
theorem DicOk.at {h h' : Heap} {a : Addr} {xs : List DRow} {ep : Nat} (z : DicOk h a xs ep) (e : ∀ o, h.get? a = some o → h'.get? a = some o) : DicOk h' a xs ep :=
  let ⟨vs, r, hd, hl, hn, o, es, h1, h2⟩ := z; ⟨vs, r, hd, hl, hn, o, es, e o h1, h2⟩
theorem dic_obj {P : Program} {w : World} {H : Hp} {h : Heap} {a : Addr} {xs : List DRow} {ep : Nat} (z : DicOk h a xs ep) : ObjOk P w H h a (DicO a xs ep) :=
  ⟨z, let ⟨_, _, _, _, _, o, _, e, _⟩ := z; ⟨o, e⟩, fun _ _ z e => z.at e⟩
theorem DeepK.length {K : PySem.W.Frag} {F : Hp} : ∀ {ks : List (List Int × Dat)} {xs : List DRow}, DeepK K F ks xs → xs.length = ks.length
  | [], _, h => by rw [show _ = [] from h]; rfl
  | (k, d) :: ks, _, ⟨b, v, r, e, t, q, z⟩ => by rw [e, List.length_cons, List.length_cons, DeepK.length z]
noncomputable def getK (ks : List (List Int × Dat)) (k : List Int) : Option Dat := (ks.find? fun p => decide (p.1 = k)).map (·.2)
noncomputable def getR (xs : List DRow) (k : List Int) : Option V := (xs.find? fun p => decide (p.1 = k)).map (·.2.2)
theorem DeepK.at {K : PySem.W.Frag} {F : Hp} {k : List Int} : ∀ {ks : List (List Int × Dat)} {xs : List DRow}, DeepK K F ks xs → (getK ks k = none ∧ getR xs k = none) ∨ ∃ d v, getK ks k = some d ∧ getR xs k = some v ∧ Deep K F d v
  | [], _, h => by rw [show _ = [] from h]; exact .inl ⟨rfl, rfl⟩
  | (k', d) :: ks, _, ⟨b, v, r, e, t, q, z⟩ => by
    subst e
    by_cases e : k' = k
    · exact .inr ⟨d, v, by simp [getK, e], by simp [getR, e], q⟩
    · have := DeepK.at (k := k) z
      simpa only [getK, getR, List.find?_cons, e, decide_false] using this
theorem DeepK.isSome {K : PySem.W.Frag} {F : Hp} {k : List Int} {ks : List (List Int × Dat)} {xs : List DRow} (z : DeepK K F ks xs) : (getR xs k).isSome = (getK ks k).isSome := by
  rcases z.at (k := k) with ⟨e1, e2⟩ | ⟨d, v, e1, e2, _⟩ <;> rw [e1, e2] <;> rfl
section
variable {X : Cx} {pins : List (Addr × Obj)} {σ : St} {H : Hp} {s : Shared} {a b : Addr} {xs : List DRow} {ep : Nat} {k : List Int}
theorem dic_ok (I : Inv X pins σ H s) (e : H a = some (DicO a xs ep)) : DicOk s.heap a xs ep := (show DicOk s.heap a xs ep ∧ _ from I.hok a _ e).1
end
noncomputable def tNewK : TE := fun _ H Q => ∀ p, H p = none → Q (.ref p) (upd H p (DicO p [] 0))
section
variable {X : Cx} {o i e f value : Expr} {pos pos' apos cpos : Pos} {td ty tv tx : TE}
theorem dic_empty (h : Heap) (hb : sysModules < h.objs.size) : DicOk (h.push { cls := .type "dict", data := .dict #[] }) h.objs.size [] 0 :=
  ⟨[], .nil, beq_eq_false_iff_ne.mpr (Ne.symm (Nat.ne_of_lt hb)), Nat.zero_le _, List.nodup_nil, _, #[], Heap.get?_push_size _ rfl, ⟨rfl, rfl, rfl⟩, rfl, rfl⟩
theorem pe_newK : PE X (.Dict [] [] pos) tNewK := fun pins s σ H Q I h =>
  wpAny_Dict_empty ⟨.ref s.heap.objs.size, _, I.laid (a := s.heap.objs.size) (o := DicO s.heap.objs.size [] 0) (t' := s.toks) (fun _ _ q => Heap.get?_push_of_some _ q) (Nat.le_refl _) (dic_obj (dic_empty s.heap I.big)), rfl, h _ (I.hok.fresh (Nat.le_refl _))⟩
end
section
variable {X : Cx} {K : PySem.W.Frag} {W : Wish} {ro : Bool} {OL O : List Nat} {o ek ex ev : Expr} {x : Str} {fd fk fx fv : Env' → M Dat} {pos pos' apos cpos p : Pos} {i : Nat}
theorem de_newK : DE K W true X (.Dict [] [] pos) (fC (.dic [])) := pe_newK.imp fun σ H Q h => by
  obtain ⟨F, ρ, r, s, q⟩ := h
  exact fun a ha => q (.ref a) F _ (Step.grow s ha) ⟨a, [], rfl, ⟨0, upd_same⟩, s.free ha, ha, rfl⟩
end
end L2
namespace L2
open PySem PySem.Spec PyProof.Rows
end L2
namespace L2
open PySem PySem.Spec PyProof.Rows
end L2
namespace L2
open PySem PySem.Spec PyProof.Rows
end L2
namespace L2
open PySem PySem.Spec PyProof.Rows
end L2
namespace L2
open PySem PySem.Spec PyProof.Rows
section
open PySem
variable {prog : Program} {w : World} {A : Around} {E : Value → Shared → Prop}
end
section
open PySem
variable {prog : Program} {w : World} {A : Around} {E : Value → Shared → Prop} {R : Result → Shared → Prop}
end
end L2
namespace L2
open PySem PySem.Spec PyProof.Rows
section
open PySem
variable {prog : Program} {w : World} {A : Around} {E : Value → Shared → Prop} {s : Shared}
end
end L2
namespace L2
open PySem PySem.Spec PyProof.Rows
end L2
namespace L2
open PySem PySem.Spec PyProof.Rows
end L2
namespace L2
open PySem PySem.Spec PyProof.Rows
structure KitD (K : PySem.W.Frag) : Prop where
  i : PySem.W.kitOne K (.type "dict") (.type "int") = some false
  b : PySem.W.kitOne K (.type "dict") (.type "bool") = some false
noncomputable def isi_intE : Dat → M Dat
  | .int _ => .ok (.bl true)
  | .bl _ => .ok (.bl true)
  | .ins _ _ => stk
  | _ => .ok (.bl false)
noncomputable def isi_boolE : Dat → M Dat
  | .bl _ => .ok (.bl true)
  | .ins _ _ => stk
  | _ => .ok (.bl false)
noncomputable def dicE : Dat → Dat → Bool
  | .dic [], .dic [] => true
  | _, _ => false
noncomputable def okR : List Dat → List Dat → Bool
  | [], [] => true
  | a :: as, b :: bs => (okE a 30 && okE b 30 && eqD a b || dicE a b) && okR as bs
  | _, _ => false
noncomputable def okQ : List Dat → List Dat → Bool
  | [], [] => true
  | .lst a :: as, .lst b :: bs => okR a b && okQ as bs
  | _, _ => false
noncomputable def neQ : Dat → Dat → M Dat
  | .lst xs, .lst ys => if okQ xs ys = true then .ok (.bl false) else stk
  | _, _ => stk
theorem dicE_inv {a b : Dat} (h : dicE a b = true) : a = .dic [] ∧ b = .dic [] := by
  unfold dicE at h
  split at h
  · exact ⟨rfl, rfl⟩
  · cases h
theorem okR_len : ∀ {as bs : List Dat}, okR as bs = true → as.length = bs.length
  | [], [], _ => rfl
  | [], _ :: _, h => by simp [okR] at h
  | _ :: _, [], h => by simp [okR] at h
  | a :: as, b :: bs, h => by
    simp only [okR, Bool.and_eq_true] at h
    rw [List.length_cons, List.length_cons, okR_len h.2]
theorem okR_at : ∀ {as bs : List Dat} {j : Nat} {a b : Dat}, okR as bs = true → as[j]? = some a → bs[j]? = some b → (okE a 30 && okE b 30 && eqD a b || dicE a b) = true
  | a :: as, b :: bs, 0, _, _, h, e1, e2 => by
    simp only [okR, Bool.and_eq_true] at h
    cases e1; cases e2
    exact h.1
  | a :: as, b :: bs, j + 1, _, _, h, e1, e2 => by
    simp only [okR, Bool.and_eq_true] at h
    exact okR_at h.2 (by simpa using e1) (by simpa using e2)
  | [], _, j, _, _, _, e1, _ => by simp at e1
  | _ :: _, [], j, _, _, _, _, e2 => by simp at e2
theorem okQ_len : ∀ {as bs : List Dat}, okQ as bs = true → as.length = bs.length
  | [], [], _ => rfl
  | [], _ :: _, h => by simp [okQ] at h
  | _ :: _, [], h => by simp [okQ] at h
  | a :: as, b :: bs, h => by
    cases a <;> first | (simp [okQ] at h; done) | skip
    cases b <;> first | (simp [okQ] at h; done) | skip
    simp only [okQ, Bool.and_eq_true] at h
    rw [List.length_cons, List.length_cons, okQ_len h.2]
theorem okQ_at : ∀ {as bs : List Dat} {j : Nat} {a b : Dat}, okQ as bs = true → as[j]? = some a → bs[j]? = some b → ∃ xs ys, a = .lst xs ∧ b = .lst ys ∧ okR xs ys = true
  | a :: as, b :: bs, j, _, _, h, e1, e2 => by
    cases a <;> first | (simp [okQ] at h; done) | skip
    cases b <;> first | (simp [okQ] at h; done) | skip
    simp only [okQ, Bool.and_eq_true] at h
    cases j with
    | zero => cases e1; cases e2; exact ⟨_, _, rfl, rfl, h.1⟩
    | succ j => exact okQ_at h.2 (by simpa using e1) (by simpa using e2)
  | [], _, j, _, _, _, e1, _ => by simp at e1
  | _ :: _, [], j, _, _, _, _, e2 => by simp at e2
section
variable {X : Cx} {K : PySem.W.Frag} {W : Wish} {own : Bool} {a : Expr} {p p2 pos : Pos} {fa : Env' → M Dat} {pins : List (Addr × Obj)} {σ : St} {F H : Hp} {s : Shared}
theorem isi_dic {T : String} {ks : List (List Int × Dat)} {x : V} {u : Value} {Q : Value → Shared → Prop} (I : Inv X pins σ H s) (hF : Same F H) (q : Deep X.K F (.dic ks) x) (r : RelV x u)
    (hd : PySem.W.kitOne X.K (.type "dict") (.type T) = some false) (h : ∀ tk, Q (.bool false) { s with toks := tk }) : wpAny (model X.prog X.w) X.A (call (.builtin "isinstance") [u, .type T]) Q X.xe s := by
  obtain ⟨l, xs, e, ⟨ep, t⟩, _⟩ := q
  subst e
  cases r
  obtain ⟨_, _, _, _, _, o, _, h1, h2, _⟩ := dic_ok I (hF _ _ t)
  exact PySem.W.kia_one PySem.W.kitx_dict I.kIn ⟨o, h1, h2.1⟩ hd (fun z => nomatch z) fun tk => h tk
theorem c_isi_intE (kit : Kit K) (kd : KitD K) (hK : X.K = K := by rfl) : CallR X (.builtin "isinstance") (fun xs H Q => ∃ v, xs = [v, .ty "int"] ∧ rD1 K W own isi_intE v H Q) := by
  intro pins s σ H xs us Q I r h
  obtain ⟨v, rfl, F, d, s1, q, p⟩ := h
  cases d with
  | dic ks =>
    subst hK
    obtain ⟨u, w, rfl, ru, rw'⟩ := r.two
    cases (show w = Value.type "int" from rw')
    exact isi_dic I s1 q ru kd.i fun tk => ⟨.bl false, H, I.tok tk, rfl, Post.bl (own := own) p s1⟩
  | _ => exact c_isi_int (W := W) (own := own) kit hK pins s σ H _ _ Q I r ⟨v, rfl, F, _, s1, q, p⟩
theorem c_isi_boolE (kit : Kit K) (kd : KitD K) (hK : X.K = K := by rfl) : CallR X (.builtin "isinstance") (fun xs H Q => ∃ v, xs = [v, .ty "bool"] ∧ rD1 K W own isi_boolE v H Q) := by
  intro pins s σ H xs us Q I r h
  obtain ⟨v, rfl, F, d, s1, q, p⟩ := h
  cases d with
  | dic ks =>
    subst hK
    obtain ⟨u, w, rfl, ru, rw'⟩ := r.two
    cases (show w = Value.type "bool" from rw')
    exact isi_dic I s1 q ru kd.b fun tk => ⟨.bl false, H, I.tok tk, rfl, Post.bl (own := own) p s1⟩
  | _ => exact c_isi_bool (W := W) (own := own) kit hK pins s σ H _ _ Q I r ⟨v, rfl, F, _, s1, q, p⟩
theorem de_isi_intE (kit : Kit K) (kd : KitD K) (hm : X.mg "isinstance" = none) (hmT : X.mg "int" = none) (ha : DE K W false X a fa) (hK : X.K = K := by rfl)
    (hg : Gl X "isinstance" := by rfl) (hgT : Gl X "int" := by rfl)
    (hst : starEach [a, .Name "int" p2] X.env = [(false, eval a X.env), (false, eval (.Name "int" p2) X.env)] := by rfl) (hst2 : starEach [.Name "int" p2] X.env = [(false, eval (.Name "int" p2) X.env)] := by rfl) (hpl : (backTo pos (starEach [.Name "int" p2] X.env)).any (·.1) = false := by rfl) :
    DE K W own X (.Call (.Name "isinstance" p) [a, .Name "int" p2] [] pos) (f1 isi_intE fa) := de_isi (c_isi_intE kit kd hK) hm hmT (by decide +kernel) ha hg hgT (by decide) (by decide) hst hst2 hpl
theorem de_isi_boolE (kit : Kit K) (kd : KitD K) (hm : X.mg "isinstance" = none) (hmT : X.mg "bool" = none) (ha : DE K W false X a fa) (hK : X.K = K := by rfl)
    (hg : Gl X "isinstance" := by rfl) (hgT : Gl X "bool" := by rfl)
    (hst : starEach [a, .Name "bool" p2] X.env = [(false, eval a X.env), (false, eval (.Name "bool" p2) X.env)] := by rfl) (hst2 : starEach [.Name "bool" p2] X.env = [(false, eval (.Name "bool" p2) X.env)] := by rfl) (hpl : (backTo pos (starEach [.Name "bool" p2] X.env)).any (·.1) = false := by rfl) :
    DE K W own X (.Call (.Name "isinstance" p) [a, .Name "bool" p2] [] pos) (f1 isi_boolE fa) := de_isi (c_isi_boolE kit kd hK) hm hmT (by decide +kernel) ha hg hgT (by decide) (by decide) hst hst2 hpl
theorem dic_nil {P : Program} {w : World} {h : Heap} {l : Addr} {ep : Nat} (z : DicOk h l [] ep) : (l == sysModules) = false ∧ h.DictOf (intKind P w) l [] := by
  obtain ⟨vs, r, hd, hl, hn, o, es, h1, h2, h3, h4⟩ := z
  cases r
  obtain ⟨es⟩ := es
  cases (show es = [] from h4)
  exact ⟨hd, o, _, ep, h1, h2, h3, fun i hi => absurd hi (by simp), .nil, .nil⟩
theorem eqAt_dic {x y : V} {u v : Value} {A : Around} (I : Inv X pins σ H s) (hF : Same F H) (qa : Deep X.K F (.dic []) x) (qb : Deep X.K F (.dic []) y) (ra : RelV x u) (rb : RelV y v) (hu : A.units < cLine) : SeqAt.EqAt A s u v true := by
  obtain ⟨l1, xs, e1, ⟨ep1, h1⟩, r1⟩ := qa
  subst e1
  cases ra
  obtain ⟨l2, ys, e2, ⟨ep2, h2⟩, r2⟩ := qb
  subst e2
  cases rb
  cases (show xs = [] from r1)
  cases (show ys = [] from r2)
  by_cases hab : l1 = l2
  · subst hab; exact SeqAt.EqAt.same _
  · refine SeqAt.EqAt.of_refs hab fun prog w E Q h => ?_
    obtain ⟨n1, d1⟩ := dic_nil (P := prog) (w := w) (dic_ok I (hF _ _ h1))
    obtain ⟨n2, d2⟩ := dic_nil (P := prog) (w := w) (dic_ok I (hF _ _ h2))
    exact PySem.W.keq_eq n1 n2 d1 d2 hu (fun _ => .nil) h
theorem eqAt_row {as bs : List Dat} {x y : V} {u v : Value} {A : Around} (I : Inv X pins σ H s) (hF : Same F H) (h : okR as bs = true) (qa : Deep X.K F (.lst as) x) (qb : Deep X.K F (.lst bs) y) (ra : RelV x u) (rb : RelV y v) (hu : A.units + 40 < cLine) : SeqAt.EqAt A s u v true := by
  obtain ⟨l1, xs, e1, h1, r1⟩ := qa
  subst e1
  cases ra
  obtain ⟨is, w1, p1, _⟩ := I.list (hF.lst h1)
  obtain ⟨l2, ys, e2, h2, r2⟩ := qb
  subst e2
  cases rb
  obtain ⟨js, w2, p2, _⟩ := I.list (hF.lst h2)
  have z1 := w1.length
  have z2 := w2.length
  have y1 := r1.length
  have y2 := r2.length
  have hl := okR_len h
  by_cases hab : l1 = l2
  · subst hab; exact SeqAt.EqAt.same _
  · have q := SeqAt.RcAt.lists (A := A) (e := fun _ => true) p1.isList p2.isList (by simp; omega) (by omega) (fun j h1 h2 => by
      obtain ⟨x', f1, g1⟩ := w1.atA h1
      obtain ⟨y', f2, g2⟩ := w2.atA h2
      obtain ⟨d1, k1, m1⟩ := r1.at f1
      obtain ⟨d2, k2, m2⟩ := r2.at f2
      have k := okR_at h k1 k2
      simp only [Bool.or_eq_true, Bool.and_eq_true] at k
      rcases k with ⟨⟨o1, o2⟩, o3⟩ | k
      · have q := eqAt_D I hF d1 d2 (n := 30) (A := A.in1) o1 o2 m1 m2 g1 g2 (by show A.units + 1 + 30 < cLine; omega)
        rw [o3] at q
        exact q
      · obtain ⟨rfl, rfl⟩ := dicE_inv k
        exact eqAt_dic I hF m1 m2 g1 g2 (by show A.units + 1 < cLine; omega))
    rw [show (List.range is.toArray.size).all (fun _ => true) = true by simp] at q
    exact SeqAt.EqAt.of_refs hab q
theorem o_neQ (hu : X.A.units + 64 < cLine) (hK : X.K = K := by rfl) : Op2 K W own X (compareOp .NotEq) neQ := by
  subst hK
  intro pins s σ H x y v u Q I rx ry h
  obtain ⟨F, a, b, s1, qa, qb, p⟩ := h
  cases a <;> first | exact p.stuck | skip
  cases b <;> first | exact p.stuck | skip
  rename_i as bs
  have p : Post X.K W own F H (if okQ as bs = true then .ok (.bl false) else stk) Q := p
  by_cases hc : okQ as bs = true
  · rw [if_pos hc] at p
    obtain ⟨l1, xs, e1, h1, r1⟩ := qa
    subst e1
    cases rx
    obtain ⟨is, w1, p1, _⟩ := I.list (s1.lst h1)
    obtain ⟨l2, ys, e2, h2, r2⟩ := qb
    subst e2
    cases ry
    obtain ⟨js, w2, p2, _⟩ := I.list (s1.lst h2)
    have z1 := w1.length
    have z2 := w2.length
    have y1 := r1.length
    have y2 := r2.length
    have hl := okQ_len hc
    have q := SeqAt.RcNeAt.lists (A := X.A) (e := fun _ => true) p1.isList p2.isList (by simp; omega) (by omega) (fun j h1 h2 => by
      obtain ⟨x', f1, g1⟩ := w1.atA h1
      obtain ⟨y', f2, g2⟩ := w2.atA h2
      obtain ⟨d1, k1, m1⟩ := r1.at f1
      obtain ⟨d2, k2, m2⟩ := r2.at f2
      obtain ⟨xs', ys', rfl, rfl, k⟩ := okQ_at hc k1 k2
      exact eqAt_row I s1 k m1 m2 g1 g2 (by show X.A.units + 1 + 40 < cLine; omega))
    rw [show (!(List.range is.toArray.size).all (fun _ => true)) = false by simp] at q
    exact q _ _ _ _ (p.blS s1 I)
  · rw [if_neg hc] at p; exact p.stuck
end
end L2
namespace L2
open PySem PySem.Spec PyProof.Rows
noncomputable def twoZ (CN : Addr) (r r2 : Dat) : M (Dat × Dat) := if twoL r r2 = true then .ok (r, r2) else match r, r2 with
  | .lst _, .lst _ => .error (.exc CN [])
  | _, _ => stk
noncomputable def newPZ (CN C : Addr) (g : List Dat → M Dat) : List Dat → M Dat
  | [d, e] => ((g [d]).bind fun r => (g [e]).bind fun r2 => twoZ CN r r2).bind fun q => .ok (.ins C [("gaps", q.1), ("beside", q.2)])
  | _ => stk
noncomputable def spI2Z (K : PySem.W.Frag) (CN C : Addr) (g : List Dat → M Dat) : Sp := fun vs H Q E => ∃ p dx v v2 F d d2, vs = [.ref p, v, v2] ∧ H p = some (.ins C dx []) ∧ F p = none ∧ Same F H ∧ Deep K F d v ∧ Deep K F d2 v2 ∧ (match (g [d]).bind fun r => (g [d2]).bind fun r2 => twoZ CN r r2 with
  | .ok (r, r2) => ∀ w w2 F' H', Abt p F H F' H' → H' p = some (.ins C dx [("gaps", w), ("beside", w2)]) → Deep K F' r w → Deep K F' r2 w2 → Q .non H'
  | .error e => ∀ F' H', Abt p F H F' H' → (WE K E).p e F' H')
theorem iteYS {c A B : Prop} [Decidable c] (hc : ¬ c) (h : A) : if (!decide c) = true then A else B := by
  rw [if_pos (by simp [hc])]
  exact h
section
variable {X : Cx} {K : PySem.W.Frag} {own ro : Bool} {e o a : Expr} {es : List Expr} {x m : Str} {pos p apos : Pos} {f fo : Env' → M Dat} {fr : Env' → M (List Dat)} {C CN : Addr} {E : XK} {CX : CXT} {pins : List (Addr × Obj)} {σ : St}
theorem rd_newPZ {W : Wish} {g : List Dat → M Dat} {σ : St} {H : Hp} {Q : VK} (hw : ∀ e F H, W.p e F H → (WE K E).p e F H) (h : tD K W false (fL (newPZ CN C g) fr) σ H Q) : tMake C (spI2Z K CN C g) [] E (tDA K W fr) σ H Q := by
  obtain ⟨F, ρ, r, s, p⟩ := rd_L h
  refine ⟨F, ρ, r, s, ?_⟩
  cases e1 : fr ρ with
  | error z => rw [e1] at p; exact p
  | ok ds =>
    rw [e1] at p
    intro vs F1 H1 st q
    obtain ⟨F2, es1, s1, q1, z⟩ := p vs F1 H1 st q
    rcases es1 with _ | ⟨d, _ | ⟨d2, _ | ⟨_, _⟩⟩⟩
    · exact (W.ns z).elim
    · exact (W.ns z).elim
    rotate_left
    · exact (W.ns z).elim
    · obtain ⟨v, vs', rfl, qd, v2, vs2, rfl, qd2, hn⟩ := q1
      cases (show vs2 = [] from hn)
      intro x dx hx hdx hne
      refine ⟨x, dx, v, v2, F2, d, d2, rfl, upd_same, s1.free hx, fun c o e => ?_, qd, qd2, ?_⟩
      · have hc : c ≠ x := fun h => by rw [h, s1.free hx] at e; cases e
        have hd : c ≠ dx := fun h => by rw [h, s1.free hdx] at e; cases e
        rw [upd_ne hc, upd_ne hd]; exact s1 _ _ e
      · have z : Post K W false F2 H1 (((g [d]).bind fun r => (g [d2]).bind fun r2 => twoZ CN r r2).bind fun q => .ok (.ins C [("gaps", q.1), ("beside", q.2)])) Q := z
        cases hb : ((g [d]).bind fun r => (g [d2]).bind fun r2 => twoZ CN r r2) with
        | error e =>
          rw [hb] at z
          exact fun F' H' ab => hw _ _ _ (W.mono z (ab.step hx hdx))
        | ok q =>
          obtain ⟨r, r2⟩ := q
          rw [hb, bind_ok] at z
          intro w w2 F' H' ab h6 h7 h8
          refine ⟨rfl, z (.ref x) (upd F' x (.ins C dx [("gaps", w), ("beside", w2)])) H' (ab.born s1 hx hdx hne h6) ?_⟩
          exact ⟨x, dx, _, rfl, upd_same, w, _, rfl, Deep.mono (Same.upd ab.fp) h7, w2, [], rfl, Deep.mono (Same.upd ab.fp) h8, rfl⟩
theorem de_newPZ {k : Nat} {fI : Addr} {fdI : FuncData} {g : List Dat → M Dat} {ps : List Str} (Mk' : Mk X.K C fI) (FI : FnOk X.prog X.w X.K X.mg X.base (CXd X.prog X.w) k fI fdI ps (spI2Z K CN C g)) (hr : Room (k + 1) X.A) (hm : X.mg x = some (.ref C)) (hb : Binds X.K fdI ps [])
    (ha : DA K Wno X [e, a] fr) (hg : Gl X x := by rfl) (hdb : (x == ("__debug__" : Str)) = false := by decide) (hst : starEach [e, a] X.env = (false, eval e X.env) :: starEach [a] X.env := by rfl) (hpl : (backTo pos (starEach [a] X.env)).any (·.1) = false := by rfl) :
    DE K Wno false X (.Call (.Name x p) [e, a] [] pos) (fL (newPZ CN C g) fr) := PE.imp (pe_make Mk' FI hr hg hm hb .nil passN ha hdb hst hpl) fun _ _ _ h => rd_newPZ (fun _ _ _ z => z.elim) h
theorem dea_newR {k : Nat} {fI : Addr} {fdI : FuncData} {g : List Dat → M Dat} {ps : List Str} (Mk' : Mk X.K C fI) (FI : FnOk X.prog X.w X.K X.mg X.base CX k fI fdI ps (spI1X K C g)) (hx : PassesAt CX X pins σ E) (hr : Room (k + 1) X.A) (hm : X.mg x = some (.ref C)) (hb : Binds X.K fdI ps [])
    (ha : DA K (WE K E) X [e] fr) (hg : Gl X x := by rfl) (hdb : (x == ("__debug__" : Str)) = false := by decide) (hst : starEach [e] X.env = (false, eval e X.env) :: starEach [] X.env := by rfl) (hpl : (backTo pos (starEach [] X.env)).any (·.1) = false := by rfl) :
    DEat K E false X pins σ (.Call (.Name x p) [e] [] pos) (fL (newR C g) fr) := PEat.imp (at_make Mk' FI hx hr hm hb .nil ha hg hdb hst hpl) fun _ _ h => rd_newRX (fun _ _ _ z => z) h
theorem dea_newP {k : Nat} {fI : Addr} {fdI : FuncData} {g : List Dat → M Dat} {ps : List Str} (Mk' : Mk X.K C fI) (FI : FnOk X.prog X.w X.K X.mg X.base CX k fI fdI ps (spI2Z K CN C g)) (hx : PassesAt CX X pins σ E) (hr : Room (k + 1) X.A) (hm : X.mg x = some (.ref C)) (hb : Binds X.K fdI ps [])
    (ha : DA K (WE K E) X [e, a] fr) (hg : Gl X x := by rfl) (hdb : (x == ("__debug__" : Str)) = false := by decide) (hst : starEach [e, a] X.env = (false, eval e X.env) :: starEach [a] X.env := by rfl) (hpl : (backTo pos (starEach [a] X.env)).any (·.1) = false := by rfl) :
    DEat K E false X pins σ (.Call (.Name x p) [e, a] [] pos) (fL (newPZ CN C g) fr) := PEat.imp (at_make Mk' FI hx hr hm hb .nil ha hg hdb hst hpl) fun _ _ h => rd_newPZ (fun _ _ _ z => z) h
end
end L2
namespace Ru
open PySem L2 PyProof.Rows
noncomputable def c__law_cell_at_1 (CR CP CB : Addr) (n : Nat) : Env' → M Flo :=
  sIf (fB (f2 ltD (fVar 1) (fL lenD (fCons (fVar 0) fNil))))
      (sRet (f2 ixD (fVar 0) (fVar 1)))
      sNext
noncomputable def g__law_cell_at (CR CP CB : Addr) (n : Nat) : Env' → M Flo :=
  (sSeq (c__law_cell_at_1 CR CP CB n)
    (sRet (fC (.int 0))))
noncomputable def m__law_cell_at (CR CP CB : Addr) (n : Nat) : List Dat → M Dat := runB 2 2 (g__law_cell_at CR CP CB n)
noncomputable def b__law_gaps_1 (CR CP CB : Addr) (n : Nat) : Env' → M Flo :=
  (sAppB [2] 2 (fComp (fRng rng1 (fCons (fVar 1) fNil)) [none, some 0, some 1, some 3] (.nm 0) fYes (f2 modD (f2 addD (fL (m__law_cell_at CR CP CB n) (fCons (fVar 1) (fCons (f2 addD (f2 addD (fC (.int 3)) (f2 mulD (fVar 2) (fVar 3))) (fVar 0)) fNil))) (f2 mulD (fVar 3) (fVar 0))) (f2 addD (f2 powD (fC (.int 10)) (fC (.int 6))) (fC (.int 1))))))
noncomputable def g__law_gaps (CR CP CB : Addr) (n : Nat) : Env' → M Flo :=
  (sSeq (sSetB [] 1 (f2 addD (fC (.int 1)) (f2 modD (fL (m__law_cell_at CR CP CB n) (fCons (fVar 0) (fCons (fC (.int 0)) fNil))) (fC (.int 6)))))
    (sSeq (sSetB [] 2 (fL mkLst fNil))
    (sSeq (sFor [2] (fRng rng1 (fCons (fVar 1) fNil)) (.nm 3) (b__law_gaps_1 CR CP CB n))
    (sRet (fVar 2)))))
noncomputable def m__law_gaps (CR CP CB : Addr) (n : Nat) : List Dat → M Dat := runB 4 1 (g__law_gaps CR CP CB n)
noncomputable def g_Rules_many_kinds (CR CP CB : Addr) (n : Nat) : Env' → M Flo :=
  (sRet (fL lenD (fCons (f1 (attrD [CR, CP] "gaps") (fVar 0)) fNil)))
noncomputable def m_Rules_many_kinds (CR CP CB : Addr) (n : Nat) : List Dat → M Dat := runB 1 1 (g_Rules_many_kinds CR CP CB n)
noncomputable def g_copied_rows (CR CP CB : Addr) (n : Nat) : Env' → M Flo :=
  (sRet (fComp (fIt (fVar 0)) [none] (.nm 0) fYes (fL listD (fCons (fVar 0) fNil))))
noncomputable def m_copied_rows (CR CP CB : Addr) (n : Nat) : List Dat → M Dat := runB 1 1 (g_copied_rows CR CP CB n)
noncomputable def c_is_gap_1 (CR CP CB : Addr) (n : Nat) : Env' → M Flo :=
  sIf (fOr (fNot (fTru (f1 isi_intE (fVar 0)))) (fTru (f1 isi_boolE (fVar 0))))
      (sRet (fC (.bl false)))
      sNext
noncomputable def g_is_gap (CR CP CB : Addr) (n : Nat) : Env' → M Flo :=
  (sSeq (c_is_gap_1 CR CP CB n)
    (sRet (fChain leD leD (fC (.int 0)) (fVar 0) (fC (.int 1000000)))))
noncomputable def m_is_gap (CR CP CB : Addr) (n : Nat) : List Dat → M Dat := runB 1 1 (g_is_gap CR CP CB n)
noncomputable def g_is_gap_row (CR CP CB : Addr) (n : Nat) : Env' → M Flo :=
  (sRet (fAndV (f1 isi_listD (fVar 0)) (fAndV (f2 eqM (fL lenD (fCons (fVar 0) fNil)) (fVar 1)) (fL allD (fCons (fComp (fIt (fVar 0)) [none] (.nm 0) fYes (fL (m_is_gap CR CP CB n) (fCons (fVar 0) fNil))) fNil)))))
noncomputable def m_is_gap_row (CR CP CB : Addr) (n : Nat) : List Dat → M Dat := runB 2 2 (g_is_gap_row CR CP CB n)
noncomputable def c_checked_rows_1 (CR CP CB : Addr) (n : Nat) : Env' → M Flo :=
  sIf (fNot (fB (fChain leD leD (fC (.int 1)) (fVar 1) (fC (.int 6)))))
      (sExc CB)
      sNext
noncomputable def c_checked_rows_2 (CR CP CB : Addr) (n : Nat) : Env' → M Flo :=
  sIf (fNoX (fNot (fTru (fL allD (fCons (fComp (fIt (fVar 0)) [none, some 1] (.nm 0) fYes (fL (m_is_gap_row CR CP CB n) (fCons (fVar 0) (fCons (fVar 1) fNil)))) fNil)))))
      (sExc CB)
      sNext
noncomputable def g_checked_rows (CR CP CB : Addr) (n : Nat) : Env' → M Flo :=
  (sSeq (fNoX (sSetB [] 1 (fL lenD (fCons (fVar 0) fNil))))
    (sSeq (c_checked_rows_1 CR CP CB n)
    (sSeq (c_checked_rows_2 CR CP CB n)
    (fNoX (sRet (fL (m_copied_rows CR CP CB n) (fCons (fVar 0) fNil)))))))
noncomputable def m_checked_rows (CR CP CB : Addr) (n : Nat) : List Dat → M Dat := runB 2 1 (g_checked_rows CR CP CB n)
noncomputable def c__law_refused_1 (CR CP CB : Addr) (n : Nat) : Env' → M Flo :=
  sTry CB (sIf (fB (f2 eqM (fVar 0) (fC (.int 0)))) (sDropB [] (fL (newR CR (m_checked_rows CR CP CB n)) (fCons (fVar 1) fNil))) (sIf (fB (f2 eqM (fVar 0) (fC (.int 1)))) (sDropB [] (fL (newPZ CB CP (m_checked_rows CR CP CB n)) (fCons (fVar 1) (fCons (fVar 2) fNil)))) (sDropB [] (fL (newPZ CB CP (m_checked_rows CR CP CB n)) (fCons (fVar 2) (fCons (fVar 1) fNil)))))) (xTold3 4 3 true true false)
noncomputable def g__law_refused (CR CP CB : Addr) (n : Nat) : Env' → M Flo :=
  (sSeq (sSetB [] 3 (fL mkLst fNil))
    (sSeq (c__law_refused_1 CR CP CB n)
    (sRet (f2 eqM (fVar 3) (fL mkLst (fCons (fC (.bl true)) (fCons (fC (.bl true)) (fCons (fC (.bl false)) fNil))))))))
noncomputable def m__law_refused (CR CP CB : Addr) (n : Nat) : List Dat → M Dat := runB 5 3 (g__law_refused CR CP CB n)
noncomputable def g_Rules_gap_rows (CR CP CB : Addr) (n : Nat) : Env' → M Flo :=
  (sRet (fL (m_copied_rows CR CP CB n) (fCons (f1 (attrD [CR, CP] "gaps") (fVar 0)) fNil)))
noncomputable def m_Rules_gap_rows (CR CP CB : Addr) (n : Nat) : List Dat → M Dat := runB 1 1 (g_Rules_gap_rows CR CP CB n)
noncomputable def c__law_taken_1 (CR CP CB : Addr) (n : Nat) : Env' → M Flo :=
  sIf (fB (f2 neM (fMeth2 CR CP "many_kinds" (m_Rules_many_kinds CR CP CB n) (m_Rules_many_kinds CR CP CB n) (fL (newR CR (m_checked_rows CR CP CB n)) (fCons (fVar 0) fNil)) fNil) (fL lenD (fCons (fVar 0) fNil))))
      (sRet (fC (.bl false)))
      sNext
noncomputable def c__law_taken_2 (CR CP CB : Addr) (n : Nat) : Env' → M Flo :=
  sIf (fNot (fTru (fVar 2)))
      (sRet (fAndV (fL (m__law_refused CR CP CB n) (fCons (fC (.int 1)) (fCons (fVar 0) (fCons (fVar 1) fNil)))) (fL (m__law_refused CR CP CB n) (fCons (fC (.int 2)) (fCons (fVar 0) (fCons (fVar 1) fNil))))))
      sNext
noncomputable def g__law_taken (CR CP CB : Addr) (n : Nat) : Env' → M Flo :=
  (sSeq (sSetB [] 2 (f2 eqM (fL lenD (fCons (fVar 0) fNil)) (fL lenD (fCons (fVar 1) fNil))))
    (sSeq (c__law_taken_1 CR CP CB n)
    (sSeq (c__law_taken_2 CR CP CB n)
    (sRet (fAndV (f2 eqM (fMeth2 CR CP "many_kinds" (m_Rules_many_kinds CR CP CB n) (m_Rules_many_kinds CR CP CB n) (fL (newPZ CB CP (m_checked_rows CR CP CB n)) (fCons (fVar 0) (fCons (fVar 1) fNil))) fNil) (fL lenD (fCons (fVar 0) fNil))) (f2 eqM (fMeth2 CR CP "gap_rows" (m_Rules_gap_rows CR CP CB n) (m_Rules_gap_rows CR CP CB n) (fL (newPZ CB CP (m_checked_rows CR CP CB n)) (fCons (fVar 1) (fCons (fVar 0) fNil))) fNil) (fVar 1)))))))
noncomputable def m__law_taken (CR CP CB : Addr) (n : Nat) : List Dat → M Dat := runB 3 2 (g__law_taken CR CP CB n)
noncomputable def g__law_odd (CR CP CB : Addr) (n : Nat) : Env' → M Flo :=
  (sSeq (sSetB [] 1 (f2 modD (fVar 0) (f2 powD (fC (.int 10)) (fC (.int 60)))))
    (sSeq (sSetB [] 2 (fL mkLst (fCons (f1 negD (fC (.int 1))) (fCons (f2 addD (f2 powD (fC (.int 10)) (fC (.int 6))) (fC (.int 1))) (fCons (f2 subD (f1 negD (fC (.int 1))) (fVar 1)) (fCons (f2 addD (f2 addD (f2 powD (fC (.int 10)) (fC (.int 6))) (fC (.int 1))) (fVar 1)) (fCons (fC (.bl true)) (fCons (fC (.bl false)) (fCons (fC .non) (fCons (fC (.str "3")) (fCons (fC (.str "")) (fCons (fL mkLst (fCons (fC (.int 1)) fNil)) (fCons (fL mkTup (fCons (fC (.int 1)) fNil)) (fCons (fC (.dic [])) fNil))))))))))))))
    (sRet (f2 ixD (fVar 2) (f2 modD (f2 fdivD (fVar 1) (fC (.int 6))) (fC (.int 12)))))))
noncomputable def m__law_odd (CR CP CB : Addr) (n : Nat) : List Dat → M Dat := runB 3 1 (g__law_odd CR CP CB n)
noncomputable def c__law_spoilt_1 (CR CP CB : Addr) (n : Nat) : Env' → M Flo :=
  sIf (fB (f2 eqM (f2 modD (fVar 2) (fC (.int 8))) (fC (.int 0))))
      (sRet (fL mkLst fNil))
      sNext
noncomputable def c__law_spoilt_2 (CR CP CB : Addr) (n : Nat) : Env' → M Flo :=
  sIf (fB (f2 eqM (f2 modD (fVar 2) (fC (.int 8))) (fC (.int 1))))
      (sSeq (sSetB [] 6 (f2 addD (fC (.int 7)) (f2 modD (f2 fdivD (fVar 2) (fC (.int 8))) (fC (.int 3)))))
    (sRet (fComp (fRng rng1 (fCons (fVar 6) fNil)) [none, some 6] (.nm 0) fYes (f2 repD (fL mkLst (fCons (fC (.int 0)) fNil)) (fVar 1)))))
      sNext
noncomputable def c__law_spoilt_3 (CR CP CB : Addr) (n : Nat) : Env' → M Flo :=
  sIf (fB (f2 eqM (f2 modD (fVar 2) (fC (.int 8))) (fC (.int 2))))
      (sRet (f2 addD (fSl sliceD (fVar 0) pNone (pSome (fVar 3))) (fSl sliceD (fVar 0) (pSome (f2 addD (fVar 3) (fC (.int 1)))) pNone)))
      sNext
noncomputable def c__law_spoilt_4 (CR CP CB : Addr) (n : Nat) : Env' → M Flo :=
  sIf (fB (f2 eqM (f2 modD (fVar 2) (fC (.int 8))) (fC (.int 3))))
      (sRet (f2 addD (f2 addD (fSl sliceD (fVar 0) pNone (pSome (fVar 3))) (fSl sliceD (fVar 0) (pSome (fVar 3)) (pSome (f2 addD (fVar 3) (fC (.int 1)))))) (fSl sliceD (fVar 0) (pSome (fVar 3)) pNone)))
      sNext
noncomputable def c__law_spoilt_5 (CR CP CB : Addr) (n : Nat) : Env' → M Flo :=
  sIf (fB (f2 eqM (f2 modD (fVar 2) (fC (.int 8))) (fC (.int 4))))
      (sSetB [] 5 (f2 addD (fSl sliceD (fVar 5) pNone (pSome (fVar 4))) (fSl sliceD (fVar 5) (pSome (f2 addD (fVar 4) (fC (.int 1)))) pNone)))
      sNext
noncomputable def c__law_spoilt_6 (CR CP CB : Addr) (n : Nat) : Env' → M Flo :=
  sIf (fB (f2 eqM (f2 modD (fVar 2) (fC (.int 8))) (fC (.int 5))))
      (sSetB [] 5 (f2 addD (f2 addD (fSl sliceD (fVar 5) pNone (pSome (fVar 4))) (fL mkLst (fCons (f2 modD (f2 fdivD (fVar 2) (fC (.int 8))) (fC (.int 10))) fNil))) (fSl sliceD (fVar 5) (pSome (fVar 4)) pNone)))
      sNext
noncomputable def c__law_spoilt_7 (CR CP CB : Addr) (n : Nat) : Env' → M Flo :=
  sIf (fB (f2 gtD (f2 modD (fVar 2) (fC (.int 8))) (fC (.int 5))))
      (sSetB [] 5 (f2 addD (f2 addD (fSl sliceD (fVar 5) pNone (pSome (fVar 4))) (fL mkLst (fCons (fL (m__law_odd CR CP CB n) (fCons (f2 fdivD (fVar 2) (fC (.int 8))) fNil)) fNil))) (fSl sliceD (fVar 5) (pSome (f2 addD (fVar 4) (fC (.int 1)))) pNone)))
      sNext
noncomputable def g__law_spoilt (CR CP CB : Addr) (n : Nat) : Env' → M Flo :=
  (sSeq (sSetB [] 2 (f2 modD (fVar 1) (f2 powD (fC (.int 10)) (fC (.int 60)))))
    (sSeq (sSetB [] 3 (f2 modD (f2 fdivD (fVar 2) (fC (.int 64))) (fL lenD (fCons (fVar 0) fNil))))
    (sSeq (sSetB [] 4 (f2 modD (f2 fdivD (fVar 2) (fC (.int 512))) (f2 addD (fL lenD (fCons (f2 ixD (fVar 0) (fVar 3)) fNil)) (fC (.int 1)))))
    (sSeq (sSetB [] 5 (fL listD (fCons (f2 ixD (fVar 0) (fVar 3)) fNil)))
    (sSeq (c__law_spoilt_1 CR CP CB n)
    (sSeq (c__law_spoilt_2 CR CP CB n)
    (sSeq (c__law_spoilt_3 CR CP CB n)
    (sSeq (c__law_spoilt_4 CR CP CB n)
    (sSeq (c__law_spoilt_5 CR CP CB n)
    (sSeq (c__law_spoilt_6 CR CP CB n)
    (sSeq (c__law_spoilt_7 CR CP CB n)
    (sRet (f2 addD (f2 addD (fSl sliceD (fVar 0) pNone (pSome (fVar 3))) (fL mkLst (fCons (fVar 5) fNil))) (fSl sliceD (fVar 0) (pSome (f2 addD (fVar 3) (fC (.int 1)))) pNone))))))))))))))
noncomputable def m__law_spoilt (CR CP CB : Addr) (n : Nat) : List Dat → M Dat := runB 7 2 (g__law_spoilt CR CP CB n)
noncomputable def c__law_good_1 (CR CP CB : Addr) (n : Nat) : Env' → M Flo :=
  sIf (fNot (fB (fChain leD leD (fC (.int 1)) (fL lenD (fCons (fVar 0) fNil)) (fC (.int 6)))))
      (sRet (fC (.bl false)))
      sNext
noncomputable def c__law_good_2 (CR CP CB : Addr) (n : Nat) : Env' → M Flo :=
  sIf (fB (f2 neM (fL lenD (fCons (fVar 1) fNil)) (fL lenD (fCons (fVar 0) fNil))))
      (sRet (fC (.bl false)))
      sNext
noncomputable def c__law_good_3 (CR CP CB : Addr) (n : Nat) : Env' → M Flo :=
  sIf (fOr (fNot (fTru (f1 isi_intE (fVar 2)))) (fOr (fTru (f1 isi_boolE (fVar 2))) (fOr (fB (f2 ltD (fVar 2) (fC (.int 0)))) (fB (f2 gtD (fVar 2) (f2 powD (fC (.int 10)) (fC (.int 6))))))))
      (sRet (fC (.bl false)))
      sNext
noncomputable def b__law_good_4 (CR CP CB : Addr) (n : Nat) : Env' → M Flo :=
  (c__law_good_3 CR CP CB n)
noncomputable def b__law_good_5 (CR CP CB : Addr) (n : Nat) : Env' → M Flo :=
  (sSeq (c__law_good_2 CR CP CB n)
    (sFor [] (fIt (fVar 1)) (.nm 2) (b__law_good_4 CR CP CB n)))
noncomputable def g__law_good (CR CP CB : Addr) (n : Nat) : Env' → M Flo :=
  (sSeq (c__law_good_1 CR CP CB n)
    (sSeq (sFor [] (fIt (fVar 0)) (.nm 1) (b__law_good_5 CR CP CB n))
    (sRet (fC (.bl true)))))
noncomputable def m__law_good (CR CP CB : Addr) (n : Nat) : List Dat → M Dat := runB 3 1 (g__law_good CR CP CB n)
noncomputable def c_law_1 (CR CP CB : Addr) (n : Nat) : Env' → M Flo :=
  sIf (fNot (fTru (fL (m__law_taken CR CP CB n) (fCons (fVar 4) (fCons (fVar 1) fNil)))))
      (sRet (fC (.bl false)))
      sNext
noncomputable def c_law_2 (CR CP CB : Addr) (n : Nat) : Env' → M Flo :=
  sIf (fB (f2 neM (fComp (fRng rng1 (fCons (fC (.int 3)) fNil)) [none, some 1, some 4] (.nm 0) (fNot (fTru (fL (m__law_refused CR CP CB n) (fCons (fVar 0) (fCons (fVar 2) (fCons (fVar 1) fNil)))))) (fVar 0)) (fL mkLst fNil)))
      (sRet (fC (.bl false)))
      sNext
noncomputable def c_law_3 (CR CP CB : Addr) (n : Nat) : Env' → M Flo :=
  sIf (fTru (fL (m__law_good CR CP CB n) (fCons (fVar 3) fNil)))
      (c_law_1 CR CP CB n)
      (c_law_2 CR CP CB n)
noncomputable def c_law_4 (CR CP CB : Addr) (n : Nat) : Env' → M Flo :=
  sIf (fB (f2 neQ (fVar 4) (fVar 3)))
      (sRet (fC (.bl false)))
      sNext
noncomputable def b_law_5 (CR CP CB : Addr) (n : Nat) : Env' → M Flo :=
  (sSeq (sSetB [] 3 (fL (m__law_spoilt CR CP CB n) (fCons (fVar 1) (fCons (fL (m__law_cell_at CR CP CB n) (fCons (fVar 0) (fCons (fVar 2) fNil))) fNil))))
    (sSeq (sSetB [] 4 (fComp (fIt (fVar 3)) [none] (.nm 0) fYes (fL listD (fCons (fVar 0) fNil))))
    (sSeq (c_law_3 CR CP CB n)
    (c_law_4 CR CP CB n))))
noncomputable def c_law_6 (CR CP CB : Addr) (n : Nat) : Env' → M Flo :=
  sIf (fOr (fNot (fTru (fL (m__law_refused CR CP CB n) (fCons (fC (.int 1)) (fCons (fVar 5) (fCons (fVar 1) fNil)))))) (fNot (fTru (fL (m__law_refused CR CP CB n) (fCons (fC (.int 2)) (fCons (fVar 5) (fCons (fVar 1) fNil)))))))
      (sRet (fC (.bl false)))
      sNext
noncomputable def g_law (CR CP CB : Addr) (n : Nat) : Env' → M Flo :=
  (sSeq (sSetB [] 1 (fL (m__law_gaps CR CP CB n) (fCons (fVar 0) fNil)))
    (sSeq (sFor [] (fIt (fL mkLst (fCons (fC (.int 1)) (fCons (fC (.int 2)) fNil)))) (.nm 2) (b_law_5 CR CP CB n))
    (sSeq (sSetB [] 5 (f2 addD (fComp (fIt (fVar 1)) [none] (.nm 0) fYes (f2 addD (fVar 0) (fL mkLst (fCons (fC (.int 0)) fNil)))) (fL mkLst (fCons (f2 repD (fL mkLst (fCons (fC (.int 0)) fNil)) (f2 addD (fL lenD (fCons (fVar 1) fNil)) (fC (.int 1)))) fNil))))
    (sSeq (c_law_6 CR CP CB n)
    (sRet (fL (m__law_taken CR CP CB n) (fCons (fVar 1) (fCons (fComp (fIt (fVar 1)) [none] (.nm 0) fYes (fL listD (fCons (fVar 0) fNil))) fNil))))))))
noncomputable def m_law (CR CP CB : Addr) (n : Nat) : List Dat → M Dat := runB 6 1 (g_law CR CP CB n)
noncomputable def top (i : Nat) : Stmt := PySem.Challenge.pw_wakeorder_k03_no_gaps.main.body.getD i (.Pass ⟨0, 0, 0, 0⟩)
noncomputable abbrev s__law_cell_at : Stmt := top 21
noncomputable abbrev s__law_gaps : Stmt := top 22
noncomputable abbrev s_Rules_many_kinds : Stmt := inClass (top 18) 1
noncomputable abbrev s_copied_rows : Stmt := top 16
noncomputable abbrev s_is_gap : Stmt := top 14
noncomputable abbrev s_is_gap_row : Stmt := top 15
noncomputable abbrev s_checked_rows : Stmt := top 17
noncomputable abbrev s__law_refused : Stmt := top 26
noncomputable abbrev s_Rules_gap_rows : Stmt := inClass (top 18) 4
noncomputable abbrev s__law_taken : Stmt := top 27
noncomputable abbrev s__law_odd : Stmt := top 23
noncomputable abbrev s__law_spoilt : Stmt := top 24
noncomputable abbrev s__law_good : Stmt := top 25
noncomputable abbrev s_law : Stmt := top 28
noncomputable abbrev s_nR : Stmt := inClass (top 18) 0
noncomputable abbrev s_nP : Stmt := inClass (top 19) 0
structure Zs (K : PySem.W.Frag) (mg : Str → Option Value) (CR CP CB AStripError ANoPlace ANoPlan ANoRow ANoSheet ANoTime ANotFree ATooMany : Addr) : Prop where
  mI_StripError : mg "StripError" = some (.ref AStripError)
  mI_NoPlace : mg "NoPlace" = some (.ref ANoPlace)
  mI_NoPlan : mg "NoPlan" = some (.ref ANoPlan)
  mI_NoRow : mg "NoRow" = some (.ref ANoRow)
  mI_NoSheet : mg "NoSheet" = some (.ref ANoSheet)
  mI_NoTime : mg "NoTime" = some (.ref ANoTime)
  mI_NotFree : mg "NotFree" = some (.ref ANotFree)
  mI_TooMany : mg "TooMany" = some (.ref ATooMany)
  kO_CB_StripError : PySem.W.kitOne K (.ref CB) (.ref AStripError) = some true
  kB_CB_ValueError : PySem.W.kitOne K (.ref CB) (.type "ValueError") = some true
  kT_CB : PySem.W.kitAny K (.ref CB) ([ANoPlace, ANoPlan, ANoRow, ANoSheet, ANoTime, ANotFree, ATooMany].map Value.ref) = some false
  i_CB : XIsi K CB
  tCB : XTxt K mg "NoRules" CB
  kR : Kls K mg "Rules" CR
  kP : Kls K mg "Pair" CP
  fld_gaps : ∀ C ∈ [CR, CP], Cls K C ∧ NoAttr K C "gaps"
  fld_beside : ∀ C ∈ [CP], Cls K C ∧ NoAttr K C "beside"
  z_ValueError : mg "ValueError" = none
  z_all : mg "all" = none
  z_bool : mg "bool" = none
  z_int : mg "int" = none
  z_isinstance : mg "isinstance" = none
  z_len : mg "len" = none
  z_list : mg "list" = none
  z_range : mg "range" = none
  g_GREATEST_GAP : ∃ t, mg "GREATEST_GAP" = some (.int 1000000 t)
  g_MOST_KINDS : ∃ t, mg "MOST_KINDS" = some (.int 6 t)
  kit : Kit K
  kitd : KitD K
theorem sc__law_cell_at : FnScope ["_law_script", "_law_k"] ["_law_script", "_law_k"] (defScope s__law_cell_at) := ⟨rfl, rfl, rfl, by decide +kernel, rfl, by decide +kernel, by decide +kernel⟩
theorem ok__law_cell_at {n : Nat} {P : Program} {w : World} {K : PySem.W.Frag} {mg : Str → Option Value} {base : Heap} {CR CP CB AStripError ANoPlace ANoPlan ANoRow ANoSheet ANoTime ANotFree ATooMany : Addr} (Z : Zs K mg CR CP CB AStripError ANoPlace ANoPlan ANoRow ANoSheet ANoTime ANotFree ATooMany) {f__law_cell_at : Addr} {fd__law_cell_at : FuncData} (D__law_cell_at : Def K mg "_law_cell_at" s__law_cell_at ["_law_script", "_law_k"] f__law_cell_at fd__law_cell_at) : FnOk P w K mg base CX0 1 f__law_cell_at fd__law_cell_at ["_law_script", "_law_k"] (spF K false (m__law_cell_at CR CP CB n) 2) :=
  fn_D (O' := []) D__law_cell_at.fn sc__law_cell_at false (g__law_cell_at CR CP CB n) fun cdv A outer s H E hr =>
    (ds_cons (ds_if (dt_cmp o_lt (de_v 1) (de_callB c_len Z.z_len PySem.boot_len (da_cons (de_v 0) da_nil)))
      (ds_one (ds_ret (de_ix x_ix (de_v 0) (de_v 1))))
      ds_nil)
    (ds_one (ds_ret de_int)))
theorem sc__law_gaps : FnScope ["_law_script", "_law_many", "_law_rows", "_law_a"] ["_law_script"] (defScope s__law_gaps) := ⟨rfl, rfl, rfl, by decide +kernel, rfl, by decide +kernel, by decide +kernel⟩
theorem ok__law_gaps {n : Nat} {P : Program} {w : World} {K : PySem.W.Frag} {mg : Str → Option Value} {base : Heap} {CR CP CB AStripError ANoPlace ANoPlan ANoRow ANoSheet ANoTime ANotFree ATooMany : Addr} (Z : Zs K mg CR CP CB AStripError ANoPlace ANoPlan ANoRow ANoSheet ANoTime ANotFree ATooMany) {f__law_cell_at : Addr} {fd__law_cell_at : FuncData} (Y__law_cell_at : Yd P w K mg base CX0 1 "_law_cell_at" s__law_cell_at ["_law_script", "_law_k"] (spF K false (m__law_cell_at CR CP CB n) 2) f__law_cell_at fd__law_cell_at) {f__law_gaps : Addr} {fd__law_gaps : FuncData} (D__law_gaps : Def K mg "_law_gaps" s__law_gaps ["_law_script"] f__law_gaps fd__law_gaps) : FnOk P w K mg base CX0 2 f__law_gaps fd__law_gaps ["_law_script"] (spF K false (m__law_gaps CR CP CB n) 1) :=
  fn_D (O' := []) D__law_gaps.fn sc__law_gaps false (g__law_gaps CR CP CB n) fun cdv A outer s H E hr =>
    (ds_cons (ds_setB (i := 1) (own := false) sc__law_gaps.nd (de_frz (de_op o_add de_int (de_op o_mod (de_call Y__law_cell_at.o hr Y__law_cell_at.d.mg Y__law_cell_at.d.fn.kp Y__law_cell_at.d.bd (da_cons (de_v 0) (da_cons de_int da_nil))) de_int))))
    (ds_cons (ds_setB (i := 2) (own := true) sc__law_gaps.nd (de_lst da_nil))
    (ds_cons (ds_for (pt := .nm 3) (di_rng1 Z.z_range (da_cons (de_v 1) da_nil)) (dg_nm sc__law_gaps.nd)
      (ds_one (ds_appB (i := 2) (de_frz (de_comp ["_law_b", "_law_script", "_law_many", "_law_a"] [none, some 0, some 1, some 3] (di_rng1 Z.z_range (da_cons (de_v 1) da_nil)) (fun _ _ _ _ _ => dgc_nm (by decide +kernel)) (leaves_name rfl) (fun _ _ _ _ _ => dts_nil) (fun _ _ _ _ _ => (de_op o_mod (de_frz (de_op o_add (de_call Y__law_cell_at.o hr Y__law_cell_at.d.mg Y__law_cell_at.d.fn.kp Y__law_cell_at.d.bd (da_cons (de_v 1) (da_cons (de_frz (de_op o_add (de_frz (de_op o_add de_int (de_op o_mul (de_v 2) (de_v 3)))) (de_v 0))) da_nil))) (de_op o_mul (de_v 3) (de_v 0)))) (de_frz (de_op o_add (de_op o_pow de_int de_int) de_int)))))))))
    (ds_enter (O2 := []) (ds_one (ds_ret (de_v 2)))))))
theorem sc_Rules_many_kinds : FnScope ["self"] ["self"] (defScope s_Rules_many_kinds) := ⟨rfl, rfl, rfl, by decide +kernel, rfl, by decide +kernel, by decide +kernel⟩
theorem ok_Rules_many_kinds {n : Nat} {P : Program} {w : World} {K : PySem.W.Frag} {mg : Str → Option Value} {base : Heap} {CR CP CB AStripError ANoPlace ANoPlan ANoRow ANoSheet ANoTime ANotFree ATooMany : Addr} (Z : Zs K mg CR CP CB AStripError ANoPlace ANoPlan ANoRow ANoSheet ANoTime ANotFree ATooMany) {f_Rules_many_kinds : Addr} {fd_Rules_many_kinds : FuncData} (D_Rules_many_kinds : Mth K CR "many_kinds" "Rules.many_kinds" s_Rules_many_kinds ["self"] f_Rules_many_kinds fd_Rules_many_kinds) : FnOk P w K mg base CX0 1 f_Rules_many_kinds fd_Rules_many_kinds ["self"] (spF K false (m_Rules_many_kinds CR CP CB n) 1) :=
  fn_D (O' := []) D_Rules_many_kinds.fn sc_Rules_many_kinds false (g_Rules_many_kinds CR CP CB n) fun cdv A outer s H E hr =>
    (ds_one (ds_ret (de_callB c_len Z.z_len PySem.boot_len (da_cons (de_fld (Cs := [CR, CP]) Z.fld_gaps (de_v 0)) da_nil))))
theorem sc_copied_rows : FnScope ["rows"] ["rows"] (defScope s_copied_rows) := ⟨rfl, rfl, rfl, by decide +kernel, rfl, by decide +kernel, by decide +kernel⟩
theorem ok_copied_rows {n : Nat} {P : Program} {w : World} {K : PySem.W.Frag} {mg : Str → Option Value} {base : Heap} {CR CP CB AStripError ANoPlace ANoPlan ANoRow ANoSheet ANoTime ANotFree ATooMany : Addr} (Z : Zs K mg CR CP CB AStripError ANoPlace ANoPlan ANoRow ANoSheet ANoTime ANotFree ATooMany) {f_copied_rows : Addr} {fd_copied_rows : FuncData} (D_copied_rows : Def K mg "copied_rows" s_copied_rows ["rows"] f_copied_rows fd_copied_rows) : FnOk P w K mg base CX0 1 f_copied_rows fd_copied_rows ["rows"] (spF K false (m_copied_rows CR CP CB n) 1) :=
  fn_D (O' := []) D_copied_rows.fn sc_copied_rows false (g_copied_rows CR CP CB n) fun cdv A outer s H E hr =>
    (ds_one (ds_ret (de_frz (de_comp ["row"] [none] (di_seq (de_v 0)) (fun _ _ _ _ _ => dgc_nm (by decide +kernel)) (leaves_name rfl) (fun _ _ _ _ _ => dts_nil) (fun _ _ _ _ _ => (de_frz (de_callTy c_list Z.z_list PyProof.Rows.boot_list (da_cons (de_v 0) da_nil))))))))
theorem sc_is_gap : FnScope ["number"] ["number"] (defScope s_is_gap) := ⟨rfl, rfl, rfl, by decide +kernel, rfl, by decide +kernel, by decide +kernel⟩
theorem ok_is_gap {n : Nat} {P : Program} {w : World} {K : PySem.W.Frag} {mg : Str → Option Value} {base : Heap} {CR CP CB AStripError ANoPlace ANoPlan ANoRow ANoSheet ANoTime ANotFree ATooMany : Addr} (Z : Zs K mg CR CP CB AStripError ANoPlace ANoPlan ANoRow ANoSheet ANoTime ANotFree ATooMany) {f_is_gap : Addr} {fd_is_gap : FuncData} (D_is_gap : Def K mg "is_gap" s_is_gap ["number"] f_is_gap fd_is_gap) : FnOk P w K mg base CX0 1 f_is_gap fd_is_gap ["number"] (spF K false (m_is_gap CR CP CB n) 1) :=
  fn_D (O' := []) D_is_gap.fn sc_is_gap false (g_is_gap CR CP CB n) fun cdv A outer s H E hr =>
    (ds_cons (ds_if (PW.pt (dw_or (dt_not (dt_tru (de_isi_intE Z.kit Z.kitd Z.z_isinstance Z.z_int (de_v 0)))) (dw_or1 (dt_tru (de_isi_boolE Z.kit Z.kitd Z.z_isinstance Z.z_bool (de_v 0))))))
      (ds_one (ds_ret de_bl))
      ds_nil)
    (ds_one (ds_ret (de_chain o_le o_le de_int (de_v 0) (de_gint Z.g_GREATEST_GAP)))))
theorem sc_is_gap_row : FnScope ["row", "kinds"] ["row", "kinds"] (defScope s_is_gap_row) := ⟨rfl, rfl, rfl, by decide +kernel, rfl, by decide +kernel, by decide +kernel⟩
theorem ok_is_gap_row {n : Nat} {P : Program} {w : World} {K : PySem.W.Frag} {mg : Str → Option Value} {base : Heap} {CR CP CB AStripError ANoPlace ANoPlan ANoRow ANoSheet ANoTime ANotFree ATooMany : Addr} (Z : Zs K mg CR CP CB AStripError ANoPlace ANoPlan ANoRow ANoSheet ANoTime ANotFree ATooMany) {f_is_gap : Addr} {fd_is_gap : FuncData} (Y_is_gap : Yd P w K mg base CX0 1 "is_gap" s_is_gap ["number"] (spF K false (m_is_gap CR CP CB n) 1) f_is_gap fd_is_gap) {f_is_gap_row : Addr} {fd_is_gap_row : FuncData} (D_is_gap_row : Def K mg "is_gap_row" s_is_gap_row ["row", "kinds"] f_is_gap_row fd_is_gap_row) : FnOk P w K mg base CX0 2 f_is_gap_row fd_is_gap_row ["row", "kinds"] (spF K false (m_is_gap_row CR CP CB n) 2) :=
  fn_D (O' := []) D_is_gap_row.fn sc_is_gap_row false (g_is_gap_row CR CP CB n) fun cdv A outer s H E hr =>
    (ds_one (ds_ret (de_and (de_isi_list Z.kit Z.z_isinstance Z.z_list (de_v 0)) (de_and (de_cmp (o_eq hr.units) (de_callB c_len Z.z_len PySem.boot_len (da_cons (de_v 0) da_nil)) (de_v 1)) (de_one (de_callB (c_all rfl) Z.z_all boot_all (da_cons (de_frz (de_comp ["number"] [none] (di_seq (de_v 0)) (fun _ _ _ _ _ => dgc_nm (by decide +kernel)) (leaves_name rfl) (fun _ _ _ _ _ => dts_nil) (fun _ _ _ _ _ => (de_call Y_is_gap.o hr Y_is_gap.d.mg Y_is_gap.d.fn.kp Y_is_gap.d.bd (da_cons (de_v 0) da_nil))))) da_nil)))))))
theorem sc_checked_rows : FnScope ["rows", "kinds"] ["rows"] (defScope s_checked_rows) := ⟨rfl, rfl, rfl, by decide +kernel, rfl, by decide +kernel, by decide +kernel⟩
theorem ok_checked_rows {n : Nat} {P : Program} {w : World} {K : PySem.W.Frag} {mg : Str → Option Value} {base : Heap} {CR CP CB AStripError ANoPlace ANoPlan ANoRow ANoSheet ANoTime ANotFree ATooMany : Addr} (Z : Zs K mg CR CP CB AStripError ANoPlace ANoPlan ANoRow ANoSheet ANoTime ANotFree ATooMany) {f_copied_rows : Addr} {fd_copied_rows : FuncData} (Y_copied_rows : Yd P w K mg base CX0 1 "copied_rows" s_copied_rows ["rows"] (spF K false (m_copied_rows CR CP CB n) 1) f_copied_rows fd_copied_rows) {f_is_gap_row : Addr} {fd_is_gap_row : FuncData} (Y_is_gap_row : Yd P w K mg base CX0 2 "is_gap_row" s_is_gap_row ["row", "kinds"] (spF K false (m_is_gap_row CR CP CB n) 2) f_is_gap_row fd_is_gap_row) {f_checked_rows : Addr} {fd_checked_rows : FuncData} (D_checked_rows : Def K mg "checked_rows" s_checked_rows ["rows"] f_checked_rows fd_checked_rows) : FnOk P w K mg base (CXd P w) 3 f_checked_rows fd_checked_rows ["rows"] (spX K false (m_checked_rows CR CP CB n) 1) :=
  fn_X (O' := []) D_checked_rows.fn sc_checked_rows false (g_checked_rows CR CP CB n) fun cdv A outer s H E hr =>
    (ds_cons (ds_lift1 (ds_setB (i := 1) (own := false) sc_checked_rows.nd (de_callB c_len Z.z_len PySem.boot_len (da_cons (de_v 0) da_nil))))
    (ds_cons (ds_if (dt_not (dt_chain o_le o_le de_int (de_v 1) (de_gint Z.g_MOST_KINDS)))
      (ds_one (ds_raise PySem.F.excBase_ValueError xeqD Z.tCB.mg Z.tCB.ex hr.hd))
      ds_nil)
    (ds_cons (ds_if (dt_lift (dt_not (dt_tru (de_callB (c_all rfl) Z.z_all boot_all (da_cons (de_frz (de_comp ["row", "kinds"] [none, some 1] (di_seq (de_v 0)) (fun _ _ _ _ _ => dgc_nm (by decide +kernel)) (leaves_name rfl) (fun _ _ _ _ _ => dts_nil) (fun _ _ _ _ _ => (de_call Y_is_gap_row.o hr Y_is_gap_row.d.mg Y_is_gap_row.d.fn.kp Y_is_gap_row.d.bd (da_cons (de_v 0) (da_cons (de_v 1) da_nil)))))) da_nil)))))
      (ds_one (ds_raise PySem.F.excBase_ValueError xeqD Z.tCB.mg Z.tCB.ex hr.hd))
      ds_nil)
    (dss_lift (ds_one (ds_ret (de_call Y_copied_rows.o (hr.mono (by decide)) Y_copied_rows.d.mg Y_copied_rows.d.fn.kp Y_copied_rows.d.bd (da_cons (de_v 0) da_nil))))))))
theorem sc_nR : FnScope ["self", "gaps"] ["self", "gaps"] (defScope s_nR) := ⟨rfl, rfl, rfl, by decide +kernel, rfl, by decide +kernel, by decide +kernel⟩
theorem okn_R {n : Nat} {P : Program} {w : World} {K : PySem.W.Frag} {mg : Str → Option Value} {base : Heap} {CR CP CB : Addr} {C f_checked_rows f : Addr} {fd_checked_rows fd : FuncData} (D_checked_rows : Def K mg "checked_rows" s_checked_rows ["rows"] f_checked_rows fd_checked_rows) (OK : FnOk P w K mg base (CXd P w) 3 f_checked_rows fd_checked_rows ["rows"] (spX K false (m_checked_rows CR CP CB n) 1))
    (N : Fun K "__init__" "Rules.__init__" s_nR f fd) (cl : Cls K C) (na : NoAttr K C "gaps") : FnOk P w K mg base (CXd P w) 4 f fd ["self", "gaps"] (spI1X K C (m_checked_rows CR CP CB n)) := by
  refine N.okE sc_nR (fun vs H Q E h => ?_) (fun cdv A outer s H vs Q E hr h => ?_)
  · obtain ⟨p, dx, v, F, d, rfl, _⟩ := h
    rfl
  · obtain ⟨p, dx, v, F, d, rfl, hp, hF, s1, qd, q⟩ := h
    refine ⟨_, pss_one (ps_fld (pv 0) (pe_call OK hr (by rfl) D_checked_rows.mg D_checked_rows.fn.kp D_checked_rows.bd .nil passD (pa_cons (pv 1) pa_nil)) rfl), ?_⟩
    refine ⟨v, rfl, F, [d], s1, ⟨v, [], rfl, qd, rfl⟩, rfl, ?_⟩
    skip
    cases hg : m_checked_rows CR CP CB n [d] with
    | error e => rw [hg] at q; exact q F H ⟨Same.refl _, s1, hF, fun _ _ z => .inl z, fun _ _ z _ => z⟩
    | ok r =>
      rw [hg] at q
      intro u F' H' st qw
      have hF1 : F' p = none := by
        cases hz : F' p with
        | none => rfl
        | some o =>
          rcases st.nw p o hz with z | z
          · rw [hF] at z; cases z
          · rw [hp] at z; cases z
      refine ⟨_, rfl, p, C, dx, [], rfl, st.hh _ _ hp, cl, na, (by show 0 < 1000; decide), ?_⟩
      refine q u F' _ ⟨st.ff, fun c o e => ?_, hF1, st.nw, fun c o e hc => by rw [upd_ne hc]; exact st.hh _ _ e⟩ upd_same qw
      have hc : c ≠ p := fun z => by rw [z, hF1] at e; cases e
      rw [upd_ne hc]
      exact st.fh _ _ e
theorem putGB (a b : V) : putF ("beside" : Str) b [(("gaps" : Str), a)] = [(("gaps" : Str), a), (("beside" : Str), b)] := by
  show (if ("gaps" : Str) = "beside" then _ else (("gaps" : Str), a) :: putF "beside" b []) = _
  rw [if_neg (by decide +kernel)]
  rfl
theorem sc_nP : FnScope ["self", "gaps", "beside"] ["self", "gaps", "beside"] (defScope s_nP) := ⟨rfl, rfl, rfl, by decide +kernel, rfl, by decide +kernel, by decide +kernel⟩
theorem okn_P {n : Nat} {P : Program} {w : World} {K : PySem.W.Frag} {mg : Str → Option Value} {base : Heap} {CR CP CB : Addr} {f_checked_rows f fR : Addr} {fd_checked_rows fd fdR : FuncData} {mc : Value} (D_checked_rows : Def K mg "checked_rows" s_checked_rows ["rows"] f_checked_rows fd_checked_rows) (OK : FnOk P w K mg base (CXd P w) 3 f_checked_rows fd_checked_rows ["rows"] (spX K false (m_checked_rows CR CP CB n) 1))
    (S : Stat K CR mc "__init__" fR) (bI : Binds K fdR ["self", "gaps"] []) (FI : FnOk P w K mg base (CXd P w) 4 fR fdR ["self", "gaps"] (spI1X K CP (m_checked_rows CR CP CB n))) (mR : mg "Rules" = some (.ref CR)) (zl : mg "len" = none)
    (N : Fun K "__init__" "Pair.__init__" s_nP f fd) (cl : Cls K CP) (na : NoAttr K CP "gaps") (nb : NoAttr K CP "beside") (TX : XTxt K mg "NoRules" CB) : FnOk P w K mg base (CXd P w) 5 f fd ["self", "gaps", "beside"] (spI2Z K CB CP (m_checked_rows CR CP CB n)) := by
  refine N.okE sc_nP (fun vs H Q E h => ?_) (fun cdv A outer s H vs Q E hr h => ?_)
  · obtain ⟨p, dx, v, v2, F, d, d2, rfl, _⟩ := h
    rfl
  · obtain ⟨p, dx, v, v2, F, d, d2, rfl, hp, hF, s1, qd, qd2, q⟩ := h
    refine ⟨_, pss_cons (ps_expr (pe_cmeth S (by rfl) mR FI hr bI .nil passD (pa_cons (pv 0) (pa_cons (pv 1) pa_nil))))
      (pss_cons (ps_fld (pv 0) (pe_call OK (hr.mono (by decide)) (by rfl) D_checked_rows.mg D_checked_rows.fn.kp D_checked_rows.bd .nil passD (pa_cons (pv 2) pa_nil)) rfl)
      (pss_one (ps_if (pt_cmpR op_ne (pe_callB call_len_seq (by rfl) zl PySem.boot_len (pa_cons (pe_fld (pv 0) rfl) pa_nil)) (pe_callB call_len_seq (by rfl) zl PySem.boot_len (pa_cons (pe_fld (pv 0) rfl) pa_nil)) (nomark _)) (pss_one (ps_raise PySem.F.excBase_ValueError xeqD pe_str (by rfl) TX.mg TX.ex hr.hd)) pss_nil))), ?_⟩
    refine ⟨_, rfl, _, rfl, p, dx, v, F, d, rfl, hp, hF, s1, qd, ?_⟩
    cases hg : m_checked_rows CR CP CB n [d] with
    | error e => rw [hg] at q; exact q
    | ok r =>
      rw [hg, bind_ok] at q
      intro u F1 H1 ab a6 a7
      obtain ⟨a1, a2, a3, a4, a5⟩ := id ab
      refine ⟨v2, rfl, F1, [d2], a2, ⟨v2, [], rfl, Deep.mono a1 qd2, rfl⟩, rfl, ?_⟩
      skip
      cases hg2 : m_checked_rows CR CP CB n [d2] with
      | error e => rw [hg2] at q; exact q F1 H1 ab
      | ok r2 =>
        rw [hg2, bind_ok] at q
        intro u2 F2 H2 st qw
        have hF2 : F2 p = none := by
          cases hz : F2 p with
          | none => rfl
          | some o =>
            rcases st.nw p o hz with z | z
            · rw [a3] at z; cases z
            · rw [a6] at z; cases z
        have s3 : Same F2 (upd H2 p (.ins CP dx [("gaps", u), ("beside", u2)])) := fun c o e => by
          have hc : c ≠ p := fun z => by rw [z, hF2] at e; cases e
          rw [upd_ne hc]
          exact st.fh _ _ e
        have ab2 : Abt p F H F2 (upd H2 p (.ins CP dx [("gaps", u), ("beside", u2)])) := by
          refine ⟨a1.trans st.ff, s3, hF2, fun b o e => ?_, fun c o e hc => by rw [upd_ne hc]; exact st.hh _ _ (a5 c o e hc)⟩
          rcases st.nw b o e with z | z
          · exact a4 b o z
          · refine .inr ?_
            cases hz : H b with
            | none => rfl
            | some o' =>
              by_cases hb : b = p
              · subst hb; rw [hF2] at e; cases e
              · rw [a5 b o' hz hb] at z; cases z
        have stuckE : twoZ CB r r2 = stk → False := fun z => by
          rw [z] at q
          exact (WE K E).ns (q F1 H1 ab)
        cases r with
        | lst xs =>
          cases r2 with
          | lst ys =>
            obtain ⟨g1, xs1, e1, t1, z1⟩ := Deep.mono st.ff a7
            obtain ⟨g2, xs2, e2, t2, z2⟩ := id qw
            refine ⟨_, rfl, p, CP, dx, _, rfl, st.hh _ _ a6, cl, nb, (by show 1 < 1000; decide), ?_⟩
            rw [putGB]
            refine ⟨_, rfl, p, CP, dx, _, _, rfl, upd_same, cl, nb, rfl, g2, _, by rw [e2], .inl (s3.lst t2), _, rfl, p, CP, dx, _, _, rfl, upd_same, cl, na, rfl, g1, _, by rw [e1], .inl (s3.lst t1), rfl, _, rfl, ?_⟩
            by_cases hl : xs.length = ys.length
            · rw [show twoZ CB (.lst xs) (.lst ys) = .ok (.lst xs, .lst ys) from if_pos (decide_eq_true hl)] at q
              refine iteNS (by rw [z1.length, z2.length, hl]) ?_
              exact q u u2 F2 _ ab2 upd_same (Deep.mono st.ff a7) qw
            · rw [show twoZ CB (.lst xs) (.lst ys) = .error (.exc CB []) from if_neg (by simp [twoL, hl])] at q
              refine iteYS (by rw [z1.length, z2.length]; exact fun z => hl (by injection z with z; omega)) ?_
              exact q F2 _ ab2 F2 _ (Step.refl s3)
          | _ => exact (stuckE rfl).elim
        | _ => exact (stuckE rfl).elim
theorem sc__law_refused : FnScope ["_law_way", "_law_gaps_here", "_law_good_here", "_law_told", "e"] ["_law_way", "_law_gaps_here", "_law_good_here"] (defScope s__law_refused) := ⟨rfl, rfl, rfl, by decide +kernel, rfl, by decide +kernel, by decide +kernel⟩
theorem ok__law_refused {n : Nat} {P : Program} {w : World} {K : PySem.W.Frag} {mg : Str → Option Value} {base : Heap} {CR CP CB AStripError ANoPlace ANoPlan ANoRow ANoSheet ANoTime ANotFree ATooMany : Addr} (Z : Zs K mg CR CP CB AStripError ANoPlace ANoPlan ANoRow ANoSheet ANoTime ANotFree ATooMany) {f_nR : Addr} {fd_nR : FuncData} (N_R : Mth K CR "__init__" "Rules.__init__" s_nR ["self", "gaps"] f_nR fd_nR) (OKN_R : FnOk P w K mg base (CXd P w) 4 f_nR fd_nR ["self", "gaps"] (spI1X K CR (m_checked_rows CR CP CB n))) {f_nP : Addr} {fd_nP : FuncData} (N_P : Mth K CP "__init__" "Pair.__init__" s_nP ["self", "gaps", "beside"] f_nP fd_nP) (OKN_P : FnOk P w K mg base (CXd P w) 5 f_nP fd_nP ["self", "gaps", "beside"] (spI2Z K CB CP (m_checked_rows CR CP CB n))) {f__law_refused : Addr} {fd__law_refused : FuncData} (D__law_refused : Def K mg "_law_refused" s__law_refused ["_law_way", "_law_gaps_here", "_law_good_here"] f__law_refused fd__law_refused) : FnOk P w K mg base CX0 7 f__law_refused fd__law_refused ["_law_way", "_law_gaps_here", "_law_good_here"] (spF K false (m__law_refused CR CP CB n) 3) :=
  fn_D (O' := []) D__law_refused.fn sc__law_refused false (g__law_refused CR CP CB n) fun cdv A outer s H E hr =>
    (ds_cons (ds_setB (i := 3) (own := false) sc__law_refused.nd (de_frz (de_lst da_nil)))
    (ds_cons (ds_told3 (i := 4) (j := 3) (ys := [ANoPlace, ANoPlan, ANoRow, ANoSheet, ANoTime, ANotFree, ATooMany]) (fun pins σ E xe hp => (dsa_if (dt_cmp (o_eq hr.units) (de_v 0) de_int)
      (dsa_expr (own := false) (dea_newR ⟨Z.kR.mks, N_R.mt.at_, N_R.mt.fn, Z.kR.kp⟩ OKN_R hp (hr.mono (by decide)) Z.kR.mg N_R.bd (da_cons (de_v 1) da_nil)))
      (dsa_if (dt_cmp (o_eq hr.units) (de_v 0) de_int)
      (dsa_expr (own := false) (dea_newP ⟨Z.kP.mks, N_P.mt.at_, N_P.mt.fn, Z.kP.kp⟩ OKN_P hp hr Z.kP.mg N_P.bd (da_cons (de_v 1) (da_cons (de_v 2) da_nil))))
      (dsa_expr (own := false) (dea_newP ⟨Z.kP.mks, N_P.mt.at_, N_P.mt.fn, Z.kP.kp⟩ OKN_P hp hr Z.kP.mg N_P.bd (da_cons (de_v 2) (da_cons (de_v 1) da_nil))))))) Z.tCB sc__law_refused.nd (fun a oe hc hd hx => pss_cons (ps_set sc__law_refused.nd rfl (.inl rfl) (pe_lst (pa_cons (pe_isiO PySem.F.attrBase_ValueError Z.i_CB hc hd hx Z.z_isinstance Z.mI_StripError Z.kO_CB_StripError) (pa_cons (pe_isiB PySem.F.attrBase_ValueError Z.i_CB hc hd hx Z.z_isinstance Z.z_ValueError (by decide +kernel) Z.kB_CB_ValueError) pa_nil)))) (pss_one (ps_expr (pe_bm PySem.F.plainAttrs_list PySem.F.slot_list_append PySem.F.type_list_append mt_append (pv 3) (pa_cons (pe_isiT PySem.F.attrBase_ValueError Z.i_CB hc hd hx Z.z_isinstance (pa_refs (pa_refs (pa_refs (pa_refs (pa_refs (pa_refs (pa_refs pa_refs0 Z.mI_TooMany) Z.mI_NotFree) Z.mI_NoTime) Z.mI_NoSheet) Z.mI_NoRow) Z.mI_NoPlan) Z.mI_NoPlace) (by show 7 ≤ sizeLine; rw [sizeLine_eq]; decide) Z.kT_CB) pa_nil))))))
    (ds_one (ds_ret (de_cmp (o_eq hr.units) (de_v 3) (de_frz (de_lst (da_cons de_bl (da_cons de_bl (da_cons de_bl da_nil))))))))))
theorem sc_Rules_gap_rows : FnScope ["self"] ["self"] (defScope s_Rules_gap_rows) := ⟨rfl, rfl, rfl, by decide +kernel, rfl, by decide +kernel, by decide +kernel⟩
theorem ok_Rules_gap_rows {n : Nat} {P : Program} {w : World} {K : PySem.W.Frag} {mg : Str → Option Value} {base : Heap} {CR CP CB AStripError ANoPlace ANoPlan ANoRow ANoSheet ANoTime ANotFree ATooMany : Addr} (Z : Zs K mg CR CP CB AStripError ANoPlace ANoPlan ANoRow ANoSheet ANoTime ANotFree ATooMany) {f_copied_rows : Addr} {fd_copied_rows : FuncData} (Y_copied_rows : Yd P w K mg base CX0 1 "copied_rows" s_copied_rows ["rows"] (spF K false (m_copied_rows CR CP CB n) 1) f_copied_rows fd_copied_rows) {f_Rules_gap_rows : Addr} {fd_Rules_gap_rows : FuncData} (D_Rules_gap_rows : Mth K CR "gap_rows" "Rules.gap_rows" s_Rules_gap_rows ["self"] f_Rules_gap_rows fd_Rules_gap_rows) : FnOk P w K mg base CX0 2 f_Rules_gap_rows fd_Rules_gap_rows ["self"] (spF K false (m_Rules_gap_rows CR CP CB n) 1) :=
  fn_D (O' := []) D_Rules_gap_rows.fn sc_Rules_gap_rows false (g_Rules_gap_rows CR CP CB n) fun cdv A outer s H E hr =>
    (ds_one (ds_ret (de_call Y_copied_rows.o hr Y_copied_rows.d.mg Y_copied_rows.d.fn.kp Y_copied_rows.d.bd (da_cons (de_fld (Cs := [CR, CP]) Z.fld_gaps (de_v 0)) da_nil))))
theorem sc__law_taken : FnScope ["_law_gaps_here", "_law_good_here", "_law_same"] ["_law_gaps_here", "_law_good_here"] (defScope s__law_taken) := ⟨rfl, rfl, rfl, by decide +kernel, rfl, by decide +kernel, by decide +kernel⟩
theorem ok__law_taken {n : Nat} {P : Program} {w : World} {K : PySem.W.Frag} {mg : Str → Option Value} {base : Heap} {CR CP CB AStripError ANoPlace ANoPlan ANoRow ANoSheet ANoTime ANotFree ATooMany : Addr} (Z : Zs K mg CR CP CB AStripError ANoPlace ANoPlan ANoRow ANoSheet ANoTime ANotFree ATooMany) {f__law_refused : Addr} {fd__law_refused : FuncData} (Y__law_refused : Yd P w K mg base CX0 7 "_law_refused" s__law_refused ["_law_way", "_law_gaps_here", "_law_good_here"] (spF K false (m__law_refused CR CP CB n) 3) f__law_refused fd__law_refused) {f_Rules_many_kinds : Addr} {fd_Rules_many_kinds : FuncData} (M_R_many_kinds : Mth K CR "many_kinds" "Rules.many_kinds" s_Rules_many_kinds ["self"] f_Rules_many_kinds fd_Rules_many_kinds) (OK_Rules_many_kinds : FnOk P w K mg base CX0 1 f_Rules_many_kinds fd_Rules_many_kinds ["self"] (spF K false (m_Rules_many_kinds CR CP CB n) 1)) (M_P_many_kinds : Mth K CP "many_kinds" "Rules.many_kinds" s_Rules_many_kinds ["self"] f_Rules_many_kinds fd_Rules_many_kinds) {f_Rules_gap_rows : Addr} {fd_Rules_gap_rows : FuncData} (M_R_gap_rows : Mth K CR "gap_rows" "Rules.gap_rows" s_Rules_gap_rows ["self"] f_Rules_gap_rows fd_Rules_gap_rows) (OK_Rules_gap_rows : FnOk P w K mg base CX0 2 f_Rules_gap_rows fd_Rules_gap_rows ["self"] (spF K false (m_Rules_gap_rows CR CP CB n) 1)) (M_P_gap_rows : Mth K CP "gap_rows" "Rules.gap_rows" s_Rules_gap_rows ["self"] f_Rules_gap_rows fd_Rules_gap_rows) {f_nR : Addr} {fd_nR : FuncData} (N_R : Mth K CR "__init__" "Rules.__init__" s_nR ["self", "gaps"] f_nR fd_nR) (OKN_R : FnOk P w K mg base (CXd P w) 4 f_nR fd_nR ["self", "gaps"] (spI1X K CR (m_checked_rows CR CP CB n))) {f_nP : Addr} {fd_nP : FuncData} (N_P : Mth K CP "__init__" "Pair.__init__" s_nP ["self", "gaps", "beside"] f_nP fd_nP) (OKN_P : FnOk P w K mg base (CXd P w) 5 f_nP fd_nP ["self", "gaps", "beside"] (spI2Z K CB CP (m_checked_rows CR CP CB n))) {f__law_taken : Addr} {fd__law_taken : FuncData} (D__law_taken : Def K mg "_law_taken" s__law_taken ["_law_gaps_here", "_law_good_here"] f__law_taken fd__law_taken) : FnOk P w K mg base CX0 8 f__law_taken fd__law_taken ["_law_gaps_here", "_law_good_here"] (spF K false (m__law_taken CR CP CB n) 2) :=
  fn_D (O' := []) D__law_taken.fn sc__law_taken false (g__law_taken CR CP CB n) fun cdv A outer s H E hr =>
    (ds_cons (ds_setB (i := 2) (own := false) sc__law_taken.nd (de_cmp (o_eq hr.units) (de_callB c_len Z.z_len PySem.boot_len (da_cons (de_v 0) da_nil)) (de_callB c_len Z.z_len PySem.boot_len (da_cons (de_v 1) da_nil))))
    (ds_cons (ds_if (dt_cmp (o_ne hr.units) (de_meth2z Z.kR.cl M_R_many_kinds.mt OK_Rules_many_kinds (hr.mono (by decide)) M_R_many_kinds.bd Z.kP.cl M_P_many_kinds.mt OK_Rules_many_kinds (hr.mono (by decide)) M_P_many_kinds.bd (de_newRN ⟨Z.kR.mks, N_R.mt.at_, N_R.mt.fn, Z.kR.kp⟩ OKN_R (hr.mono (by decide)) Z.kR.mg N_R.bd (da_cons (de_v 0) da_nil))) (de_callB c_len Z.z_len PySem.boot_len (da_cons (de_v 0) da_nil)))
      (ds_one (ds_ret de_bl))
      ds_nil)
    (ds_cons (ds_if (dt_not (dt_tru (de_v 2)))
      (ds_one (ds_ret (de_and (de_call Y__law_refused.o hr Y__law_refused.d.mg Y__law_refused.d.fn.kp Y__law_refused.d.bd (da_cons de_int (da_cons (de_v 0) (da_cons (de_v 1) da_nil)))) (de_one (de_call Y__law_refused.o hr Y__law_refused.d.mg Y__law_refused.d.fn.kp Y__law_refused.d.bd (da_cons de_int (da_cons (de_v 0) (da_cons (de_v 1) da_nil))))))))
      ds_nil)
    (ds_one (ds_ret (de_and (de_cmp (o_eq hr.units) (de_meth2z Z.kR.cl M_R_many_kinds.mt OK_Rules_many_kinds (hr.mono (by decide)) M_R_many_kinds.bd Z.kP.cl M_P_many_kinds.mt OK_Rules_many_kinds (hr.mono (by decide)) M_P_many_kinds.bd (de_newPZ ⟨Z.kP.mks, N_P.mt.at_, N_P.mt.fn, Z.kP.kp⟩ OKN_P (hr.mono (by decide)) Z.kP.mg N_P.bd (da_cons (de_v 0) (da_cons (de_v 1) da_nil)))) (de_callB c_len Z.z_len PySem.boot_len (da_cons (de_v 0) da_nil))) (de_one (de_cmp (o_eq hr.units) (de_meth2z Z.kR.cl M_R_gap_rows.mt OK_Rules_gap_rows (hr.mono (by decide)) M_R_gap_rows.bd Z.kP.cl M_P_gap_rows.mt OK_Rules_gap_rows (hr.mono (by decide)) M_P_gap_rows.bd (de_newPZ ⟨Z.kP.mks, N_P.mt.at_, N_P.mt.fn, Z.kP.kp⟩ OKN_P (hr.mono (by decide)) Z.kP.mg N_P.bd (da_cons (de_v 1) (da_cons (de_v 0) da_nil)))) (de_v 1)))))))))
theorem sc__law_odd : FnScope ["_law_cell", "_law_number", "_law_some"] ["_law_cell"] (defScope s__law_odd) := ⟨rfl, rfl, rfl, by decide +kernel, rfl, by decide +kernel, by decide +kernel⟩
theorem ok__law_odd {n : Nat} {P : Program} {w : World} {K : PySem.W.Frag} {mg : Str → Option Value} {base : Heap} {CR CP CB AStripError ANoPlace ANoPlan ANoRow ANoSheet ANoTime ANotFree ATooMany : Addr} (Z : Zs K mg CR CP CB AStripError ANoPlace ANoPlan ANoRow ANoSheet ANoTime ANotFree ATooMany) {f__law_odd : Addr} {fd__law_odd : FuncData} (D__law_odd : Def K mg "_law_odd" s__law_odd ["_law_cell"] f__law_odd fd__law_odd) : FnOk P w K mg base CX0 1 f__law_odd fd__law_odd ["_law_cell"] (spF K false (m__law_odd CR CP CB n) 1) :=
  fn_D (O' := []) D__law_odd.fn sc__law_odd false (g__law_odd CR CP CB n) fun cdv A outer s H E hr =>
    (ds_cons (ds_setB (i := 1) (own := false) sc__law_odd.nd (de_op o_mod (de_v 0) (de_op o_pow de_int de_int)))
    (ds_cons (ds_setB (i := 2) (own := false) sc__law_odd.nd (de_frz (de_lst (da_cons (de_un o_neg de_int) (da_cons (de_frz (de_op o_add (de_op o_pow de_int de_int) de_int)) (da_cons (de_op o_sub (de_un o_neg de_int) (de_v 1)) (da_cons (de_frz (de_op o_add (de_frz (de_op o_add (de_op o_pow de_int de_int) de_int)) (de_v 1))) (da_cons de_bl (da_cons de_bl (da_cons de_non (da_cons de_str (da_cons de_str (da_cons (de_frz (de_lst (da_cons de_int da_nil))) (da_cons (de_tup (da_cons de_int da_nil)) (da_cons (de_frz de_newK) da_nil)))))))))))))))
    (ds_one (ds_ret (de_ix x_ix (de_v 2) (de_op o_mod (de_op o_fdiv (de_v 1) de_int) de_int))))))
theorem sc__law_spoilt : FnScope ["_law_gaps_here", "_law_cell", "_law_number", "_law_at", "_law_spot", "_law_row", "_law_many"] ["_law_gaps_here", "_law_cell"] (defScope s__law_spoilt) := ⟨rfl, rfl, rfl, by decide +kernel, rfl, by decide +kernel, by decide +kernel⟩
theorem ok__law_spoilt {n : Nat} {P : Program} {w : World} {K : PySem.W.Frag} {mg : Str → Option Value} {base : Heap} {CR CP CB AStripError ANoPlace ANoPlan ANoRow ANoSheet ANoTime ANotFree ATooMany : Addr} (Z : Zs K mg CR CP CB AStripError ANoPlace ANoPlan ANoRow ANoSheet ANoTime ANotFree ATooMany) {f__law_odd : Addr} {fd__law_odd : FuncData} (Y__law_odd : Yd P w K mg base CX0 1 "_law_odd" s__law_odd ["_law_cell"] (spF K false (m__law_odd CR CP CB n) 1) f__law_odd fd__law_odd) {f__law_spoilt : Addr} {fd__law_spoilt : FuncData} (D__law_spoilt : Def K mg "_law_spoilt" s__law_spoilt ["_law_gaps_here", "_law_cell"] f__law_spoilt fd__law_spoilt) : FnOk P w K mg base CX0 2 f__law_spoilt fd__law_spoilt ["_law_gaps_here", "_law_cell"] (spF K false (m__law_spoilt CR CP CB n) 2) :=
  fn_D (O' := []) D__law_spoilt.fn sc__law_spoilt false (g__law_spoilt CR CP CB n) fun cdv A outer s H E hr =>
    (ds_cons (ds_setB (i := 2) (own := false) sc__law_spoilt.nd (de_op o_mod (de_v 1) (de_op o_pow de_int de_int)))
    (ds_cons (ds_setB (i := 3) (own := false) sc__law_spoilt.nd (de_op o_mod (de_op o_fdiv (de_v 2) de_int) (de_callB c_len Z.z_len PySem.boot_len (da_cons (de_v 0) da_nil))))
    (ds_cons (ds_setB (i := 4) (own := false) sc__law_spoilt.nd (de_op o_mod (de_op o_fdiv (de_v 2) de_int) (de_frz (de_op o_add (de_callB c_len Z.z_len PySem.boot_len (da_cons (de_ix x_ix (de_v 0) (de_v 3)) da_nil)) de_int))))
    (ds_cons (ds_setB (i := 5) (own := false) sc__law_spoilt.nd (de_frz (de_callTy c_list Z.z_list PyProof.Rows.boot_list (da_cons (de_ix x_ix (de_v 0) (de_v 3)) da_nil))))
    (ds_cons (ds_if (dt_cmp (o_eq hr.units) (de_op o_mod (de_v 2) de_int) de_int)
      (ds_one (ds_ret (de_frz (de_lst da_nil))))
      ds_nil)
    (ds_cons (ds_if (dt_cmp (o_eq hr.units) (de_op o_mod (de_v 2) de_int) de_int)
      (ds_cons (ds_setB (i := 6) (own := false) sc__law_spoilt.nd (de_frz (de_op o_add de_int (de_op o_mod (de_op o_fdiv (de_v 2) de_int) de_int))))
    (ds_one (ds_ret (de_frz (de_comp ["_law_k", "_law_many"] [none, some 6] (di_rng1 Z.z_range (da_cons (de_v 6) da_nil)) (fun _ _ _ _ _ => dgc_nm (by decide +kernel)) (leaves_name rfl) (fun _ _ _ _ _ => dts_nil) (fun _ _ _ _ _ => (de_frz (de_rep (de_lst (da_cons de_int da_nil)) (de_v 1)))))))))
      ds_nil)
    (ds_cons (ds_if (dt_cmp (o_eq hr.units) (de_op o_mod (de_v 2) de_int) de_int)
      (ds_one (ds_ret (de_frz (de_op o_add (de_frz (de_sl x_sl (de_v 0) dp_none (dp_some (de_v 3)))) (de_frz (de_sl x_sl (de_v 0) (dp_some (de_frz (de_op o_add (de_v 3) de_int))) dp_none))))))
      ds_nil)
    (ds_cons (ds_if (dt_cmp (o_eq hr.units) (de_op o_mod (de_v 2) de_int) de_int)
      (ds_one (ds_ret (de_frz (de_op o_add (de_frz (de_op o_add (de_frz (de_sl x_sl (de_v 0) dp_none (dp_some (de_v 3)))) (de_frz (de_sl x_sl (de_v 0) (dp_some (de_v 3)) (dp_some (de_frz (de_op o_add (de_v 3) de_int))))))) (de_frz (de_sl x_sl (de_v 0) (dp_some (de_v 3)) dp_none))))))
      ds_nil)
    (ds_cons (ds_if (dt_cmp (o_eq hr.units) (de_op o_mod (de_v 2) de_int) de_int)
      (ds_one (ds_setB (i := 5) (own := false) sc__law_spoilt.nd (de_frz (de_op o_add (de_frz (de_sl x_sl (de_v 5) dp_none (dp_some (de_v 4)))) (de_frz (de_sl x_sl (de_v 5) (dp_some (de_frz (de_op o_add (de_v 4) de_int))) dp_none))))))
      ds_nil)
    (ds_cons (ds_if (dt_cmp (o_eq hr.units) (de_op o_mod (de_v 2) de_int) de_int)
      (ds_one (ds_setB (i := 5) (own := false) sc__law_spoilt.nd (de_frz (de_op o_add (de_frz (de_op o_add (de_frz (de_sl x_sl (de_v 5) dp_none (dp_some (de_v 4)))) (de_frz (de_lst (da_cons (de_op o_mod (de_op o_fdiv (de_v 2) de_int) de_int) da_nil))))) (de_frz (de_sl x_sl (de_v 5) (dp_some (de_v 4)) dp_none))))))
      ds_nil)
    (ds_cons (ds_if (dt_cmp o_gt (de_op o_mod (de_v 2) de_int) de_int)
      (ds_one (ds_setB (i := 5) (own := false) sc__law_spoilt.nd (de_frz (de_op o_add (de_frz (de_op o_add (de_frz (de_sl x_sl (de_v 5) dp_none (dp_some (de_v 4)))) (de_frz (de_lst (da_cons (de_call Y__law_odd.o hr Y__law_odd.d.mg Y__law_odd.d.fn.kp Y__law_odd.d.bd (da_cons (de_op o_fdiv (de_v 2) de_int) da_nil)) da_nil))))) (de_frz (de_sl x_sl (de_v 5) (dp_some (de_frz (de_op o_add (de_v 4) de_int))) dp_none))))))
      ds_nil)
    (ds_one (ds_ret (de_frz (de_op o_add (de_frz (de_op o_add (de_frz (de_sl x_sl (de_v 0) dp_none (dp_some (de_v 3)))) (de_frz (de_lst (da_cons (de_v 5) da_nil))))) (de_frz (de_sl x_sl (de_v 0) (dp_some (de_frz (de_op o_add (de_v 3) de_int))) dp_none)))))))))))))))))
theorem sc__law_good : FnScope ["_law_gaps_here", "_law_row", "_law_gap"] ["_law_gaps_here"] (defScope s__law_good) := ⟨rfl, rfl, rfl, by decide +kernel, rfl, by decide +kernel, by decide +kernel⟩
theorem ok__law_good {n : Nat} {P : Program} {w : World} {K : PySem.W.Frag} {mg : Str → Option Value} {base : Heap} {CR CP CB AStripError ANoPlace ANoPlan ANoRow ANoSheet ANoTime ANotFree ATooMany : Addr} (Z : Zs K mg CR CP CB AStripError ANoPlace ANoPlan ANoRow ANoSheet ANoTime ANotFree ATooMany) {f__law_good : Addr} {fd__law_good : FuncData} (D__law_good : Def K mg "_law_good" s__law_good ["_law_gaps_here"] f__law_good fd__law_good) : FnOk P w K mg base CX0 1 f__law_good fd__law_good ["_law_gaps_here"] (spF K false (m__law_good CR CP CB n) 1) :=
  fn_D (O' := []) D__law_good.fn sc__law_good false (g__law_good CR CP CB n) fun cdv A outer s H E hr =>
    (ds_cons (ds_if (dt_not (dt_chain o_le o_le de_int (de_callB c_len Z.z_len PySem.boot_len (da_cons (de_v 0) da_nil)) de_int))
      (ds_one (ds_ret de_bl))
      ds_nil)
    (ds_cons (ds_for (pt := .nm 1) (di_seq (de_v 0)) (dg_nm sc__law_good.nd)
      (ds_cons (ds_if (dt_cmp (o_ne hr.units) (de_callB c_len Z.z_len PySem.boot_len (da_cons (de_v 1) da_nil)) (de_callB c_len Z.z_len PySem.boot_len (da_cons (de_v 0) da_nil)))
      (ds_one (ds_ret de_bl))
      ds_nil)
    (ds_one (ds_for (pt := .nm 2) (di_seq (de_v 1)) (dg_nm sc__law_good.nd)
      (ds_one (ds_if (PW.pt (dw_or (dt_not (dt_tru (de_isi_intE Z.kit Z.kitd Z.z_isinstance Z.z_int (de_v 2)))) (dw_or (dt_tru (de_isi_boolE Z.kit Z.kitd Z.z_isinstance Z.z_bool (de_v 2))) (dw_or (dt_cmp o_lt (de_v 2) de_int) (dw_or1 (dt_cmp o_gt (de_v 2) (de_op o_pow de_int de_int)))))))
      (ds_one (ds_ret de_bl))
      ds_nil))))))
    (ds_one (ds_ret de_bl))))
theorem sc_law : FnScope ["_law_script", "_law_good_here", "_law_k", "_law_some", "_law_handed", "_law_more"] ["_law_script"] (defScope s_law) := ⟨rfl, rfl, rfl, by decide +kernel, rfl, by decide +kernel, by decide +kernel⟩
theorem ok_law {n : Nat} {P : Program} {w : World} {K : PySem.W.Frag} {mg : Str → Option Value} {base : Heap} {CR CP CB AStripError ANoPlace ANoPlan ANoRow ANoSheet ANoTime ANotFree ATooMany : Addr} (Z : Zs K mg CR CP CB AStripError ANoPlace ANoPlan ANoRow ANoSheet ANoTime ANotFree ATooMany) {f__law_gaps : Addr} {fd__law_gaps : FuncData} (Y__law_gaps : Yd P w K mg base CX0 2 "_law_gaps" s__law_gaps ["_law_script"] (spF K false (m__law_gaps CR CP CB n) 1) f__law_gaps fd__law_gaps) {f__law_taken : Addr} {fd__law_taken : FuncData} (Y__law_taken : Yd P w K mg base CX0 8 "_law_taken" s__law_taken ["_law_gaps_here", "_law_good_here"] (spF K false (m__law_taken CR CP CB n) 2) f__law_taken fd__law_taken) {f__law_spoilt : Addr} {fd__law_spoilt : FuncData} (Y__law_spoilt : Yd P w K mg base CX0 2 "_law_spoilt" s__law_spoilt ["_law_gaps_here", "_law_cell"] (spF K false (m__law_spoilt CR CP CB n) 2) f__law_spoilt fd__law_spoilt) {f__law_good : Addr} {fd__law_good : FuncData} (Y__law_good : Yd P w K mg base CX0 1 "_law_good" s__law_good ["_law_gaps_here"] (spF K false (m__law_good CR CP CB n) 1) f__law_good fd__law_good) {f__law_cell_at : Addr} {fd__law_cell_at : FuncData} (Y__law_cell_at : Yd P w K mg base CX0 1 "_law_cell_at" s__law_cell_at ["_law_script", "_law_k"] (spF K false (m__law_cell_at CR CP CB n) 2) f__law_cell_at fd__law_cell_at) {f__law_refused : Addr} {fd__law_refused : FuncData} (Y__law_refused : Yd P w K mg base CX0 7 "_law_refused" s__law_refused ["_law_way", "_law_gaps_here", "_law_good_here"] (spF K false (m__law_refused CR CP CB n) 3) f__law_refused fd__law_refused) {f_law : Addr} {fd_law : FuncData} (D_law : Def K mg "law" s_law ["_law_script"] f_law fd_law) : FnOk P w K mg base CX0 9 f_law fd_law ["_law_script"] (spF K false (m_law CR CP CB n) 1) :=
  fn_D (O' := []) D_law.fn sc_law false (g_law CR CP CB n) fun cdv A outer s H E hr =>
    (ds_cons (ds_setB (i := 1) (own := false) sc_law.nd (de_call Y__law_gaps.o (hr.mono (by decide)) Y__law_gaps.d.mg Y__law_gaps.d.fn.kp Y__law_gaps.d.bd (da_cons (de_v 0) da_nil)))
    (ds_cons (ds_for (pt := .nm 2) (di_seq (de_frz (de_lst (da_cons de_int (da_cons de_int da_nil))))) (dg_nm sc_law.nd)
      (ds_cons (ds_setB (i := 3) (own := false) sc_law.nd (de_call Y__law_spoilt.o (hr.mono (by decide)) Y__law_spoilt.d.mg Y__law_spoilt.d.fn.kp Y__law_spoilt.d.bd (da_cons (de_v 1) (da_cons (de_call Y__law_cell_at.o (hr.mono (by decide)) Y__law_cell_at.d.mg Y__law_cell_at.d.fn.kp Y__law_cell_at.d.bd (da_cons (de_v 0) (da_cons (de_v 2) da_nil))) da_nil))))
    (ds_cons (ds_setB (i := 4) (own := false) sc_law.nd (de_frz (de_comp ["_law_row"] [none] (di_seq (de_v 3)) (fun _ _ _ _ _ => dgc_nm (by decide +kernel)) (leaves_name rfl) (fun _ _ _ _ _ => dts_nil) (fun _ _ _ _ _ => (de_frz (de_callTy c_list Z.z_list PyProof.Rows.boot_list (da_cons (de_v 0) da_nil)))))))
    (ds_cons (ds_if (dt_tru (de_call Y__law_good.o (hr.mono (by decide)) Y__law_good.d.mg Y__law_good.d.fn.kp Y__law_good.d.bd (da_cons (de_v 3) da_nil)))
      (ds_one (ds_if (dt_not (dt_tru (de_call Y__law_taken.o hr Y__law_taken.d.mg Y__law_taken.d.fn.kp Y__law_taken.d.bd (da_cons (de_v 4) (da_cons (de_v 1) da_nil)))))
      (ds_one (ds_ret de_bl))
      ds_nil))
      (ds_one (ds_if (dt_cmp (o_ne hr.units) (de_frz (de_comp ["_law_way", "_law_good_here", "_law_handed"] [none, some 1, some 4] (di_rng1 Z.z_range (da_cons de_int da_nil)) (fun _ _ _ _ _ => dgc_nm (by decide +kernel)) (leaves_name rfl) (fun _ _ _ _ _ => pts_one (dt_not (dt_tru (de_call Y__law_refused.o (hr.mono (by decide)) Y__law_refused.d.mg Y__law_refused.d.fn.kp Y__law_refused.d.bd (da_cons (de_v 0) (da_cons (de_v 2) (da_cons (de_v 1) da_nil))))))) (fun _ _ _ _ _ => (de_v 0)))) (de_frz (de_lst da_nil)))
      (ds_one (ds_ret de_bl))
      ds_nil)))
    (ds_one (ds_if (dt_cmp (o_neQ hr.units) (de_v 4) (de_v 3))
      (ds_one (ds_ret de_bl))
      ds_nil))))))
    (ds_cons (ds_setB (i := 5) (own := false) sc_law.nd (de_frz (de_op o_add (de_frz (de_comp ["_law_row"] [none] (di_seq (de_v 1)) (fun _ _ _ _ _ => dgc_nm (by decide +kernel)) (leaves_name rfl) (fun _ _ _ _ _ => dts_nil) (fun _ _ _ _ _ => (de_frz (de_op o_add (de_v 0) (de_frz (de_lst (da_cons de_int da_nil)))))))) (de_frz (de_lst (da_cons (de_frz (de_rep (de_lst (da_cons de_int da_nil)) (de_frz (de_op o_add (de_callB c_len Z.z_len PySem.boot_len (da_cons (de_v 1) da_nil)) de_int)))) da_nil))))))
    (ds_cons (ds_if (PW.pt (dw_or (dt_not (dt_tru (de_call Y__law_refused.o (hr.mono (by decide)) Y__law_refused.d.mg Y__law_refused.d.fn.kp Y__law_refused.d.bd (da_cons de_int (da_cons (de_v 5) (da_cons (de_v 1) da_nil)))))) (dw_or1 (dt_not (dt_tru (de_call Y__law_refused.o (hr.mono (by decide)) Y__law_refused.d.mg Y__law_refused.d.fn.kp Y__law_refused.d.bd (da_cons de_int (da_cons (de_v 5) (da_cons (de_v 1) da_nil)))))))))
      (ds_one (ds_ret de_bl))
      ds_nil)
    (ds_one (ds_ret (de_call Y__law_taken.o hr Y__law_taken.d.mg Y__law_taken.d.fn.kp Y__law_taken.d.bd (da_cons (de_v 1) (da_cons (de_frz (de_comp ["_law_row"] [none] (di_seq (de_v 1)) (fun _ _ _ _ _ => dgc_nm (by decide +kernel)) (leaves_name rfl) (fun _ _ _ _ _ => dts_nil) (fun _ _ _ _ _ => (de_frz (de_callTy c_list Z.z_list PyProof.Rows.boot_list (da_cons (de_v 0) da_nil)))))) da_nil)))))))))
section
variable (CR CP CB : Addr)
noncomputable def goodI : Dat → Bool
  | .int x => decide (0 ≤ x) && decide (x ≤ 1000000)
  | _ => false
noncomputable def It (d : Dat) : Prop := (∀ C fs, d ≠ .ins C fs) ∧ (okE d 30 && okE d 30 && eqD d d || dicE d d) = true
theorem it_int (x : Int) : It (.int x) := ⟨fun _ _ h => by (cases h), by simp [okE, eqD]⟩
noncomputable def RR (rs : List (List Dat)) : Dat := .lst (rs.map .lst)
noncomputable def Its (rs : List (List Dat)) : Prop := rs.length ≤ 100 ∧ ∀ r ∈ rs, r.length ≤ 100 ∧ ∀ d ∈ r, It d
noncomputable def goodR (k : Nat) (r : List Dat) : Bool := decide (r.length = k) && r.all goodI
noncomputable def good (rs : List (List Dat)) : Bool := decide (1 ≤ rs.length) && decide (rs.length ≤ 6) && rs.all (goodR rs.length)
theorem is_gap_D (n : Nat) {d : Dat} (h : It d) : m_is_gap CR CP CB n [d] = .ok (.bl (goodI d)) := by
  cases d with
  | int x => by_cases h0 : 0 ≤ x <;> by_cases h1 : x ≤ 1000000 <;> simp [m_is_gap, g_is_gap, c_is_gap_1, isi_intE, isi_boolE, goodI, h0, h1]
  | ins C fs => exact absurd rfl (h.1 C fs)
  | _ => simp [m_is_gap, g_is_gap, c_is_gap_1, isi_intE, isi_boolE, goodI]
theorem is_gap_row_D (n : Nat) {k : Nat} (hk : k ≤ 100) {r : List Dat} (hr : r.length ≤ 100) (hi : ∀ d ∈ r, It d) : m_is_gap_row CR CP CB n [.lst r, .int k] = .ok (.bl (goodR k r)) := by
  have hl : r.length ≤ 16777216 := by omega
  have hk' : k ≤ 16777216 := by omega
  have e : compD (.nm 0) fYes (fL (m_is_gap CR CP CB n) (fCons (fVar 0) fNil)) [none] r = .ok ((r.map goodI).map Dat.bl) := by
    have := compD_map (p := .nm 0) (fe := fL (m_is_gap CR CP CB n) (fCons (fVar 0) fNil)) (ρ0 := [none]) (fun d => .bl (goodI d)) r (fun d hd => ⟨[some d], by simp, by simp [is_gap_D CR CP CB n (hi d hd)]⟩)
    rw [this, List.map_map]
    rfl
  unfold goodR
  by_cases h : r.length = k
  · have h' : (r.length : Int) = (k : Int) := by omega
    simp [m_is_gap_row, g_is_gap_row, e, hl, hk', h, -List.map_map]
  · have h' : ¬ (r.length : Int) = (k : Int) := by omega
    simp [m_is_gap_row, g_is_gap_row, e, hl, hk', h, h', -List.map_map]
theorem copied_D (n : Nat) {rs : List (List Dat)} (hl : rs.length ≤ 100) : m_copied_rows CR CP CB n [RR rs] = .ok (RR rs) := by
  have hl2 : rs.length ≤ 16777216 := by omega
  have e : compD (.nm 0) fYes (fL listD (fCons (fVar 0) fNil)) [none] (rs.map Dat.lst) = .ok (rs.map Dat.lst) := by
    have := compD_map (p := .nm 0) (fe := fL listD (fCons (fVar 0) fNil)) (ρ0 := [none]) id (rs.map Dat.lst) (fun d hd => by
      obtain ⟨x, hx, rfl⟩ := List.mem_map.mp hd
      exact ⟨[some (.lst x)], by simp, by simp⟩)
    rw [this, List.map_id]
  simp [m_copied_rows, g_copied_rows, RR, e, hl2]
theorem checked_D (n : Nat) {rs : List (List Dat)} (h : Its rs) : m_checked_rows CR CP CB n [RR rs] = if good rs = true then .ok (RR rs) else .error (.exc CB []) := by
  have hl0 := h.1
  have hl2 : rs.length ≤ 16777216 := by omega
  have e : compD (.nm 0) fYes (fL (m_is_gap_row CR CP CB n) (fCons (fVar 0) (fCons (fVar 1) fNil))) [none, some (.int rs.length)] (rs.map Dat.lst) = .ok ((rs.map (goodR rs.length)).map Dat.bl) := by
    have := compD_map (p := .nm 0) (fe := fL (m_is_gap_row CR CP CB n) (fCons (fVar 0) (fCons (fVar 1) fNil))) (ρ0 := [none, some (.int rs.length)]) (fun d => match d with | .lst r => .bl (goodR rs.length r) | _ => .non) (rs.map Dat.lst) (fun d hd => by
      obtain ⟨x, hx, rfl⟩ := List.mem_map.mp hd
      exact ⟨[some (.lst x), some (.int rs.length)], by simp, by simp [is_gap_row_D CR CP CB n hl0 (h.2 x hx).1 (h.2 x hx).2]⟩)
    rw [this, List.map_map, List.map_map]
    rfl
  have e3 := copied_D CR CP CB n hl0
  simp only [RR] at e3
  have eb : ((rs.map (goodR rs.length)).all id) = (rs.all (goodR rs.length)) := by rw [List.all_map]; rfl
  unfold good
  by_cases a1 : 1 ≤ rs.length
  · have b1 : (1 : Int) ≤ rs.length := by omega
    by_cases a2 : rs.length ≤ 6
    · have b2 : (rs.length : Int) ≤ 6 := by omega
      cases hb : rs.all (goodR rs.length) with
      | true =>
        rw [hb] at eb
        simp [m_checked_rows, g_checked_rows, c_checked_rows_1, c_checked_rows_2, RR, e, e3, hl2, a1, a2, b1, b2, eb, -List.map_map, -List.all_map]
      | false =>
        rw [hb] at eb
        simp [m_checked_rows, g_checked_rows, c_checked_rows_1, c_checked_rows_2, RR, e, hl2, a1, a2, b1, b2, eb, -List.map_map, -List.all_map]
    · have b2 : ¬ (rs.length : Int) ≤ 6 := by omega
      simp [m_checked_rows, g_checked_rows, c_checked_rows_1, c_checked_rows_2, RR, hl2, a1, a2, b1, b2, -List.map_map, -List.all_map]
  · have b1 : ¬ (1 : Int) ≤ rs.length := by omega
    simp [m_checked_rows, g_checked_rows, c_checked_rows_1, c_checked_rows_2, RR, hl2, a1, b1, -List.map_map, -List.all_map]
theorem good_in (n : Nat) (g x : Dat) : ∀ (r : List Dat), (∀ d ∈ r, It d) → ∀ z : Option Dat, ∃ z', forD (.nm 2) (b__law_good_4 CR CP CB n) r [some g, some x, z] = if r.all goodI = true then .ok (.nx [some g, some x, z']) else .ok (.rt (.bl false))
  | [], _, z => ⟨z, rfl⟩
  | d :: r, h, z => by
    obtain ⟨z', e⟩ := good_in n g x r (fun y hy => h y (by simp [hy])) (some d)
    refine ⟨z', ?_⟩
    rw [forD]
    have hd := h d (by simp)
    cases d with
    | int y =>
      by_cases h0 : y < 0
      · have h0' : ¬ 0 ≤ y := by omega
        simp [b__law_good_4, c__law_good_3, isi_intE, isi_boolE, goodI, h0, h0']
      · have h0' : 0 ≤ y := by omega
        by_cases h1 : 1000000 < y
        · have h1' : ¬ y ≤ 1000000 := by omega
          simp [b__law_good_4, c__law_good_3, isi_intE, isi_boolE, goodI, h0, h0', h1, h1']
        · have h1' : y ≤ 1000000 := by omega
          simp [b__law_good_4, c__law_good_3, isi_intE, isi_boolE, goodI, h0, h0', h1, h1'] at e ⊢
          exact e
    | ins C fs => exact absurd rfl (hd.1 C fs)
    | _ => simp [b__law_good_4, c__law_good_3, isi_intE, isi_boolE, goodI]
theorem good_out (n : Nat) (rs : List (List Dat)) (hl : rs.length ≤ 100) : ∀ (l : List (List Dat)), (∀ r ∈ l, r.length ≤ 100 ∧ ∀ d ∈ r, It d) → ∀ z1 z2 : Option Dat, ∃ z1' z2', forD (.nm 1) (b__law_good_5 CR CP CB n) (l.map Dat.lst) [some (RR rs), z1, z2] = if l.all (goodR rs.length) = true then .ok (.nx [some (RR rs), z1', z2']) else .ok (.rt (.bl false))
  | [], _, z1, z2 => ⟨z1, z2, rfl⟩
  | r :: l, h, z1, z2 => by
    obtain ⟨hr, hi⟩ := h r (by simp)
    obtain ⟨z', e1⟩ := good_in CR CP CB n (RR rs) (.lst r) r hi z2
    obtain ⟨y1, y2, e2⟩ := good_out n rs hl l (fun y hy => h y (by simp [hy])) (some (.lst r)) z'
    refine ⟨y1, y2, ?_⟩
    have hl2 : rs.length ≤ 16777216 := by omega
    have hr2 : r.length ≤ 16777216 := by omega
    rw [List.map_cons, forD]
    simp only [RR] at e1 e2
    by_cases hk : r.length = rs.length
    · cases hb : r.all goodI with
      | true =>
        rw [hb] at e1
        rw [List.all_cons, show goodR rs.length r = true by simp [goodR, hk, hb], Bool.true_and]
        simp [b__law_good_5, c__law_good_2, hk, e1, RR, hl2] at e2 ⊢
        exact e2
      | false =>
        rw [hb] at e1
        rw [List.all_cons, show goodR rs.length r = false by simp [goodR, hk, hb], Bool.false_and]
        simp [b__law_good_5, c__law_good_2, hk, e1, RR, hl2]
    · have hk' : ¬ (r.length : Int) = (rs.length : Int) := by omega
      rw [List.all_cons, show goodR rs.length r = false by simp [goodR, hk], Bool.false_and]
      simp [b__law_good_5, c__law_good_2, hk, hk', RR, hl2, hr2]
theorem good_D (n : Nat) {rs : List (List Dat)} (h : Its rs) : m__law_good CR CP CB n [RR rs] = .ok (.bl (good rs)) := by
  have hl0 := h.1
  have hl2 : rs.length ≤ 16777216 := by omega
  obtain ⟨z1, z2, e⟩ := good_out CR CP CB n rs hl0 rs h.2 none none
  simp only [RR] at e
  unfold good
  by_cases a1 : 1 ≤ rs.length
  · have b1 : (1 : Int) ≤ rs.length := by omega
    by_cases a2 : rs.length ≤ 6
    · have b2 : (rs.length : Int) ≤ 6 := by omega
      cases hb : rs.all (goodR rs.length) with
      | true =>
        rw [hb] at e
        simp [m__law_good, g__law_good, c__law_good_1, RR, e, hl2, a1, a2, b1, b2, -List.all_map]
      | false =>
        rw [hb] at e
        simp [m__law_good, g__law_good, c__law_good_1, RR, e, hl2, a1, a2, b1, b2, -List.all_map]
    · have b2 : ¬ (rs.length : Int) ≤ 6 := by omega
      simp [m__law_good, g__law_good, c__law_good_1, RR, hl2, a1, a2, b1, b2, -List.all_map]
  · have b1 : ¬ (1 : Int) ≤ rs.length := by omega
    simp [m__law_good, g__law_good, c__law_good_1, RR, hl2, a1, b1, -List.all_map]
end
section
variable (CR CP CB : Addr)
theorem newR_D (n : Nat) {a : List (List Dat)} (ha : Its a) : newR CR (m_checked_rows CR CP CB n) [RR a] = if good a = true then .ok (.ins CR [("gaps", RR a)]) else .error (.exc CB []) := by
  show (m_checked_rows CR CP CB n [RR a]).bind (fun r => .ok (Dat.ins CR [("gaps", r)])) = _
  rw [checked_D CR CP CB n ha]
  cases good a <;> rfl
theorem newPZ_D (n : Nat) {a b : List (List Dat)} (ha : Its a) (hb : Its b) : newPZ CB CP (m_checked_rows CR CP CB n) [RR a, RR b] = if (good a && good b && decide (a.length = b.length)) = true then .ok (.ins CP [("gaps", RR a), ("beside", RR b)]) else .error (.exc CB []) := by
  show ((m_checked_rows CR CP CB n [RR a]).bind fun r => (m_checked_rows CR CP CB n [RR b]).bind fun r2 => twoZ CB r r2).bind (fun q => .ok (Dat.ins CP [("gaps", q.1), ("beside", q.2)])) = _
  rw [checked_D CR CP CB n ha, checked_D CR CP CB n hb]
  cases ga : good a
  · rfl
  cases gb : good b
  · rfl
  by_cases hl : a.length = b.length
  · have e : twoZ CB (RR a) (RR b) = .ok (RR a, RR b) := if_pos (by simp [twoL, RR, hl])
    simp [e, hl]
  · have e : twoZ CB (RR a) (RR b) = .error (.exc CB []) := if_neg (by simp [twoL, RR, hl])
    simp [e, hl]
noncomputable def refB (w : Nat) (a b : List (List Dat)) : Bool := if w = 0 then !good a else !(good a && good b && decide (a.length = b.length))
theorem refused_D (n : Nat) {a b : List (List Dat)} (ha : Its a) (hb : Its b) (w : Nat) (hw : w < 3) : m__law_refused CR CP CB n [.int w, RR a, RR b] = .ok (.bl (refB w a b)) := by
  have q1 : eqM (.lst [.bl true, .bl true, .bl false]) (.lst [.bl true, .bl true, .bl false]) = .ok (.bl true) := by simp [eqM, okE, okEs, eqD, eqDs]
  have q0 : eqM (.lst []) (.lst [.bl true, .bl true, .bl false]) = .ok (.bl false) := by simp [eqM, okE, okEs, eqD, eqDs]
  have et : c__law_refused_1 CR CP CB n [some (.int w), some (RR a), some (RR b), some (.lst []), none] = .ok (.nx [some (.int w), some (RR a), some (RR b), some (.lst (if refB w a b = true then [.bl true, .bl true, .bl false] else [])), none]) := by
    unfold c__law_refused_1
    have e1 := newR_D CR CP CB n ha
    have e2 := newPZ_D CR CP CB n ha hb
    have e3 := newPZ_D CR CP CB n hb ha
    obtain rfl | rfl | rfl : w = 0 ∨ w = 1 ∨ w = 2 := by omega
    · cases ga : good a with
      | true =>
        rw [ga, if_pos rfl] at e1
        rw [e_try_ok (by simp [e1]; rfl)]
        simp [refB, ga]
      | false =>
        rw [ga] at e1
        rw [e_try_exc (by simp [e1])]
        simp [refB, ga]
    · cases g : (good a && good b && decide (a.length = b.length)) with
      | true =>
        rw [g, if_pos rfl] at e2
        rw [e_try_ok (by simp [e2]; rfl)]
        simp only [refB, g]
        rfl
      | false =>
        rw [g] at e2
        rw [e_try_exc (by simp [e2])]
        simp only [refB, g]
        rfl
    · have hg : (good b && good a && decide (b.length = a.length)) = (good a && good b && decide (a.length = b.length)) := by
        rw [Bool.and_comm (good b), show decide (b.length = a.length) = decide (a.length = b.length) from decide_eq_decide.mpr ⟨Eq.symm, Eq.symm⟩]
      rw [hg] at e3
      cases g : (good a && good b && decide (a.length = b.length)) with
      | true =>
        rw [g, if_pos rfl] at e3
        rw [e_try_ok (by simp [e3]; rfl)]
        simp only [refB, g]
        rfl
      | false =>
        rw [g] at e3
        rw [e_try_exc (by simp [e3])]
        simp only [refB, g]
        rfl
  cases hr : refB w a b with
  | true =>
    rw [hr, if_pos rfl] at et
    simp [m__law_refused, g__law_refused, et, q1]
  | false =>
    rw [hr] at et
    simp [m__law_refused, g__law_refused, et, q0]
theorem attr_R (x : Dat) : attrD [CR, CP] "gaps" (.ins CR [("gaps", x)]) = .ok x := by
  show (if ([CR, CP].contains CR) = true then _ else _) = _
  rw [if_pos (by simp)]
  rw [List.lookup_cons, show ((("gaps" : Str) == ("gaps" : Str))) = true by simp]
theorem attr_P (x y : Dat) : attrD [CR, CP] "gaps" (.ins CP [("gaps", x), ("beside", y)]) = .ok x := by
  show (if ([CR, CP].contains CP) = true then _ else _) = _
  rw [if_pos (by simp)]
  rw [List.lookup_cons, show ((("gaps" : Str) == ("gaps" : Str))) = true by simp]
theorem meth_R (m : Str) (h1 : (m == ("gaps" : Str)) = false) (g1 g2 : List Dat → M Dat) (x : Dat) (fo : Env' → M Dat) (ρ : Env') (e0 : fo ρ = .ok (.ins CR [("gaps", x)])) : fMeth2 CR CP m g1 g2 fo fNil ρ = g1 [.ins CR [("gaps", x)]] := by
  unfold fMeth2
  rw [e0, bind_ok]
  have hc : isC CR m (.ins CR [("gaps", x)]) = true := by
    show ((CR == CR) && (List.lookup m [(("gaps" : Str), x)]).isNone) = true
    rw [List.lookup_cons, h1]
    simp
  rw [if_pos hc]
  rfl
theorem meth_P (hne : CR ≠ CP) (m : Str) (h1 : (m == ("gaps" : Str)) = false) (h2 : (m == ("beside" : Str)) = false) (g1 g2 : List Dat → M Dat) (x y : Dat) (fo : Env' → M Dat) (ρ : Env') (e0 : fo ρ = .ok (.ins CP [("gaps", x), ("beside", y)])) : fMeth2 CR CP m g1 g2 fo fNil ρ = g2 [.ins CP [("gaps", x), ("beside", y)]] := by
  unfold fMeth2
  rw [e0, bind_ok]
  have hc : isC CR m (.ins CP [("gaps", x), ("beside", y)]) = false := by
    show ((CP == CR) && (List.lookup m [(("gaps" : Str), x), (("beside" : Str), y)]).isNone) = false
    have : (CP == CR) = false := by simp; exact fun z => hne z.symm
    rw [this]; rfl
  have hc2 : isC CP m (.ins CP [("gaps", x), ("beside", y)]) = true := by
    show ((CP == CP) && (List.lookup m [(("gaps" : Str), x), (("beside" : Str), y)]).isNone) = true
    rw [List.lookup_cons, h1]
    show ((CP == CP) && (List.lookup m [(("beside" : Str), y)]).isNone) = true
    rw [List.lookup_cons, h2]
    simp
  rw [if_neg (by rw [hc]; simp), if_pos hc2]
  rfl
theorem goodI_ok {d : Dat} {n : Nat} (h : goodI d = true) : okE d n = true := by
  cases d <;> first | rfl | simp [goodI] at h | simp [okE]
theorem okEs_all {n : Nat} : ∀ {ds : List Dat}, (∀ d ∈ ds, okE d n = true) → okEs ds n = true
  | [], _ => by simp [okEs]
  | d :: ds, h => by
    simp only [okEs, Bool.and_eq_true]
    exact ⟨h d (by simp), okEs_all fun x hx => h x (by simp [hx])⟩
theorem okE_RR {b : List (List Dat)} (g : good b = true) : okE (RR b) 40 = true := by
  simp only [good, Bool.and_eq_true, List.all_eq_true] at g
  show okEs (b.map Dat.lst) 39 = true
  refine okEs_all fun d hd => ?_
  obtain ⟨r, hr, rfl⟩ := List.mem_map.mp hd
  show okEs r 38 = true
  have := g.2 r hr
  simp only [goodR, Bool.and_eq_true, List.all_eq_true] at this
  exact okEs_all fun x hx => goodI_ok (this.2 x hx)
theorem eq_RR {b : List (List Dat)} (g : good b = true) : eqM (RR b) (RR b) = .ok (.bl true) := by
  have h := okE_RR g
  unfold eqM
  rw [if_pos (by rw [h]; rfl), eqD_refl h]
theorem lenR {a : List (List Dat)} (la : a.length ≤ 16777216) : lenD [RR a] = .ok (.int a.length) := by simp [RR, la]
theorem taken_D (n : Nat) (hne : CR ≠ CP) {a b : List (List Dat)} (ha : Its a) (hb : Its b) (ga : good a = true) (gb : good b = true) : m__law_taken CR CP CB n [RR a, RR b] = .ok (.bl true) := by
  have la : a.length ≤ 16777216 := by have := ha.1; omega
  have lb : b.length ≤ 16777216 := by have := hb.1; omega
  have e1 := newR_D CR CP CB n ha
  rw [ga, if_pos rfl] at e1
  have kR : m_Rules_many_kinds CR CP CB n [.ins CR [("gaps", RR a)]] = .ok (.int a.length) := by
    have := attr_R CR CP (RR a)
    simp [m_Rules_many_kinds, g_Rules_many_kinds, this, lenR la]
  have kP : m_Rules_many_kinds CR CP CB n [.ins CP [("gaps", RR a), ("beside", RR b)]] = .ok (.int a.length) := by
    have := attr_P CR CP (RR a) (RR b)
    simp [m_Rules_many_kinds, g_Rules_many_kinds, this, lenR la]
  have kG : m_Rules_gap_rows CR CP CB n [.ins CP [("gaps", RR b), ("beside", RR a)]] = .ok (RR b) := by
    have h1 := attr_P CR CP (RR b) (RR a)
    have h2 := copied_D CR CP CB n hb.1
    simp [m_Rules_gap_rows, g_Rules_gap_rows, h1, h2]
  have r1 := refused_D CR CP CB n ha hb 1 (by omega)
  have r2 := refused_D CR CP CB n ha hb 2 (by omega)
  have c1 : c__law_taken_1 CR CP CB n [some (RR a), some (RR b), some (.bl (decide (a.length = b.length)))] = .ok (.nx [some (RR a), some (RR b), some (.bl (decide (a.length = b.length)))]) := by
    have em := meth_R CR CP "many_kinds" (by decide +kernel) (m_Rules_many_kinds CR CP CB n) (m_Rules_many_kinds CR CP CB n) (RR a) (fL (newR CR (m_checked_rows CR CP CB n)) (fCons (fVar 0) fNil)) [some (RR a), some (RR b), some (.bl (decide (a.length = b.length)))] (by simp [e1])
    rw [kR] at em
    unfold c__law_taken_1
    simp [em, lenR la]
  by_cases hl : a.length = b.length
  · have e2 := newPZ_D CR CP CB n ha hb
    have e3 := newPZ_D CR CP CB n hb ha
    rw [if_pos (by simp [ga, gb, hl])] at e2 e3
    have c2 : c__law_taken_2 CR CP CB n [some (RR a), some (RR b), some (.bl (decide (a.length = b.length)))] = .ok (.nx [some (RR a), some (RR b), some (.bl (decide (a.length = b.length)))]) := by
      unfold c__law_taken_2
      simp [hl]
    have m1 := meth_P CR CP hne "many_kinds" (by decide +kernel) (by decide +kernel) (m_Rules_many_kinds CR CP CB n) (m_Rules_many_kinds CR CP CB n) (RR a) (RR b) (fL (newPZ CB CP (m_checked_rows CR CP CB n)) (fCons (fVar 0) (fCons (fVar 1) fNil))) [some (RR a), some (RR b), some (.bl (decide (a.length = b.length)))] (by simp [e2])
    have m2 := meth_P CR CP hne "gap_rows" (by decide +kernel) (by decide +kernel) (m_Rules_gap_rows CR CP CB n) (m_Rules_gap_rows CR CP CB n) (RR b) (RR a) (fL (newPZ CB CP (m_checked_rows CR CP CB n)) (fCons (fVar 1) (fCons (fVar 0) fNil))) [some (RR a), some (RR b), some (.bl (decide (a.length = b.length)))] (by simp [e3])
    rw [kP] at m1
    rw [kG] at m2
    have eq := eq_RR gb
    simp [m__law_taken, g__law_taken, lenR la, lenR lb, hl] at c1 c2 m1 m2 ⊢
    simp [c1, c2, m1, m2, lenR la, hl, eq]
  · have c2 : c__law_taken_2 CR CP CB n [some (RR a), some (RR b), some (.bl (decide (a.length = b.length)))] = .ok (.rt (.bl true)) := by
      have rb1 : refB 1 a b = true := by simp [refB, hl]
      have rb2 : refB 2 a b = true := by simp [refB, hl]
      rw [rb1] at r1
      rw [rb2] at r2
      simp only [Int.cast_ofNat_Int] at r1 r2
      unfold c__law_taken_2
      simp [hl, r1, r2]
    have hl' : ¬ (a.length : Int) = (b.length : Int) := by omega
    simp [hl] at c1 c2
    simp [m__law_taken, g__law_taken, lenR la, lenR lb, hl, hl', c1, c2]
end
section
theorem rangeL_get {lo : Int} {m i : Nat} {d : Dat} (h : (rangeL lo m)[i]? = some d) : i < m ∧ d = .int (lo + i) := by
  unfold rangeL at h
  rw [List.getElem?_map] at h
  obtain ⟨a, h1, h2⟩ := Option.map_eq_some_iff.mp h
  have hi := (List.getElem?_eq_some_iff.mp h1).1
  rw [List.length_range] at hi
  rw [List.getElem?_range hi] at h1
  cases h1
  exact ⟨hi, h2.symm⟩
theorem range0_get {m i : Nat} {d : Dat} (h : (rangeL 0 m)[i]? = some d) : i < m ∧ d = .int i := by
  obtain ⟨h1, h2⟩ := rangeL_get h
  exact ⟨h1, by rw [h2, Int.zero_add]⟩
theorem rangeL_len (lo : Int) (m : Nat) : (rangeL lo m).length = m := by unfold rangeL; simp
end
section
variable (CR CP CB : Addr)
theorem it_of_good {d : Dat} (h : goodI d = true) : It d := by
  cases d with
  | int x => exact it_int x
  | _ => cases h
theorem cell_D (n : Nat) (ns : List Int) (j : Nat) : m__law_cell_at CR CP CB n [.lst (ns.map .int), .int j] = .ok (.int (ns.getD j 0)) := by
  by_cases h : j < ns.length
  · have e := getI_nat (ds := ns.map Dat.int) (k := j) (by simpa using h)
    simp [m__law_cell_at, g__law_cell_at, c__law_cell_at_1, h, e]
  · simp [m__law_cell_at, g__law_cell_at, c__law_cell_at_1, h]
noncomputable def GG (k : Nat) (rs : List (List Dat)) : Prop := rs.length = k ∧ ∀ r ∈ rs, goodR k r = true
theorem GG.its {k : Nat} {rs : List (List Dat)} (h : GG k rs) (hk : k ≤ 8) : Its rs := by
  refine ⟨by have := h.1; omega, fun r hr => ?_⟩
  have := h.2 r hr
  simp only [goodR, Bool.and_eq_true, decide_eq_true_eq, List.all_eq_true] at this
  exact ⟨by omega, fun d hd => it_of_good (this.2 d hd)⟩
theorem GG.good {k : Nat} {rs : List (List Dat)} (h : GG k rs) (h1 : 1 ≤ k) (h6 : k ≤ 6) : good rs = true := by
  obtain ⟨rfl, h2⟩ := h
  simp only [Ru.good, Bool.and_eq_true, decide_eq_true_eq, List.all_eq_true]
  exact ⟨⟨h1, h6⟩, h2⟩
noncomputable def cellF (ns : List Int) (k a : Nat) : Dat → Dat
  | .int b => .int ((ns.getD (3 + k * a + b.toNat) 0 + (a : Int) * b) % 1000001)
  | _ => .non
theorem gap_row (n : Nat) (ns : List Int) (k a : Nat) (hk : k ≤ 6) (ha : a < k) : ∃ r : List Dat, goodR k r = true ∧ compD (.nm 0) fYes (f2 modD (f2 addD (fL (m__law_cell_at CR CP CB n) (fCons (fVar 1) (fCons (f2 addD (f2 addD (fC (.int 3)) (f2 mulD (fVar 2) (fVar 3))) (fVar 0)) fNil))) (f2 mulD (fVar 3) (fVar 0))) (f2 addD (f2 powD (fC (.int 10)) (fC (.int 6))) (fC (.int 1)))) [none, some (.lst (ns.map .int)), some (.int k), some (.int a)] (rangeL 0 k) = .ok r := by
  refine ⟨(rangeL 0 k).map (cellF ns k a), ?_, ?_⟩
  · simp only [goodR, Bool.and_eq_true, decide_eq_true_eq, List.all_eq_true]
    refine ⟨by rw [List.length_map, rangeL_len], fun d hd => ?_⟩
    obtain ⟨x, hx, rfl⟩ := List.mem_map.mp hd
    obtain ⟨i, hi⟩ := List.mem_iff_getElem?.mp hx
    obtain ⟨_, rfl⟩ := range0_get hi
    show (decide (0 ≤ _ % (1000001 : Int)) && decide (_ % (1000001 : Int) ≤ 1000000)) = true
    simp only [Bool.and_eq_true, decide_eq_true_eq]
    omega
  · refine compD_map (p := .nm 0) (ρ0 := [none, some (.lst (ns.map .int)), some (.int k), some (.int a)]) (cellF ns k a) (rangeL 0 k) fun d hd => ?_
    obtain ⟨i, hi⟩ := List.mem_iff_getElem?.mp hd
    obtain ⟨hi, rfl⟩ := range0_get hi
    have e := cell_D CR CP CB n ns (3 + k * a + i)
    have ej : ((3 + k * a + i : Nat) : Int) = 3 + (k : Int) * (a : Int) + (i : Int) := by simp
    rw [ej] at e
    have k1 : -18446744073709551616 < (k : Int) := by omega
    have k2 : (k : Int) < 18446744073709551616 := by omega
    have o1 : -18446744073709551616 < (a : Int) := by omega
    have o2 : (a : Int) < 18446744073709551616 := by omega
    refine ⟨[some (.int i), some (.lst (ns.map .int)), some (.int k), some (.int a)], by simp, ?_⟩
    simp [e, k1, k2, o1, o2, cellF]
theorem gaps_D (n : Nat) (ns : List Int) : ∃ k rs, 1 ≤ k ∧ k ≤ 6 ∧ GG k rs ∧ m__law_gaps CR CP CB n [.lst (ns.map .int)] = .ok (RR rs) := by
  have e0 := cell_D CR CP CB n ns 0
  simp only [Int.natCast_zero, Int.cast_ofNat_Int] at e0
  generalize ns.getD 0 0 = x0 at e0
  obtain ⟨k, hk1, hk6, ek⟩ : ∃ k : Nat, 1 ≤ k ∧ k ≤ 6 ∧ (1 + x0 % 6 : Int) = k := ⟨(1 + x0 % 6).toNat, by omega, by omega, by omega⟩
  have k1 : -4611686018427387904 ≤ (k : Int) := by omega
  have k2 : (k : Int) < 4611686018427387904 := by omega
  have k3 : k ≤ 16777216 := by omega
  have k4 : (rangeL 0 k).length ≤ 16777216 := by rw [rangeL_len]; omega
  obtain ⟨ρ', e, rows, y3, rfl, h1, h2⟩ := forD_inv (p := .nm 3) (g := b__law_gaps_1 CR CP CB n)
    (fun i ρ => ∃ (rows : List (List Dat)) (z3 : Option Dat), ρ = [some (.lst (ns.map .int)), some (.int k), some (RR rows), z3] ∧ rows.length = i ∧ ∀ r ∈ rows, goodR k r = true) (rangeL 0 k) 0 [some (.lst (ns.map .int)), some (.int k), some (.lst []), none] ⟨[], none, rfl, rfl, by simp⟩ (by
    rintro i d ρ hd ⟨rows, z3, rfl, hr1, hr2⟩
    obtain ⟨hi, rfl⟩ := range0_get hd
    obtain ⟨r, hg, e⟩ := gap_row CR CP CB n ns k i hk6 hi
    have hl : rows.length < 16777216 := by omega
    refine ⟨_, by simp; rfl, ?_⟩
    refine ⟨_, .inl (by simp [b__law_gaps_1, RR, k1, k2, k4, e, hl]; rfl), rows ++ [r], some (.int i), by simp [RR], by simp; omega, fun y hy => ?_⟩
    rcases List.mem_append.mp hy with z | z
    · exact hr2 y z
    · simp at z; subst z; exact hg)
  rw [Nat.zero_add, rangeL_len] at h1
  exact ⟨k, rows, hk1, hk6, ⟨h1, h2⟩, by simp [m__law_gaps, g__law_gaps, e0, ek, k1, k2, e]⟩
theorem odd_D (n : Nat) (y : Int) : ∃ d, It d ∧ m__law_odd CR CP CB n [.int y] = .ok d := by
  obtain ⟨i, hi, ei⟩ : ∃ i : Nat, i < 12 ∧ (y % 1000000000000000000000000000000000000000000000000000000000000 / 6 % 12 : Int) = i := ⟨(y % 1000000000000000000000000000000000000000000000000000000000000 / 6 % 12).toNat, by omega, by omega⟩
  have e := getI_nat (ds := [.int (-1), .int 1000001, .int (-1 - y % 1000000000000000000000000000000000000000000000000000000000000), .int (1000001 + y % 1000000000000000000000000000000000000000000000000000000000000), .bl true, .bl false, .non, .str "3", .str "", .lst [.int 1], .tup [.int 1], .dic []]) (k := i) (by simpa using hi)
  obtain ⟨d, hd, ed⟩ : ∃ d, d ∈ ([.int (-1), .int 1000001, .int (-1 - y % 1000000000000000000000000000000000000000000000000000000000000), .int (1000001 + y % 1000000000000000000000000000000000000000000000000000000000000), .bl true, .bl false, .non, .str "3", .str "", .lst [.int 1], .tup [.int 1], .dic []] : List Dat) ∧ getI [.int (-1), .int 1000001, .int (-1 - y % 1000000000000000000000000000000000000000000000000000000000000), .int (1000001 + y % 1000000000000000000000000000000000000000000000000000000000000), .bl true, .bl false, .non, .str "3", .str "", .lst [.int 1], .tup [.int 1], .dic []] (i : Int) = .ok d := ⟨_, List.getElem_mem _, e⟩
  have all : ∀ d ∈ ([.int (-1), .int 1000001, .int (-1 - y % 1000000000000000000000000000000000000000000000000000000000000), .int (1000001 + y % 1000000000000000000000000000000000000000000000000000000000000), .bl true, .bl false, .non, .str "3", .str "", .lst [.int 1], .tup [.int 1], .dic []] : List Dat), It d := by
    simp only [List.forall_mem_cons]
    refine ⟨it_int _, it_int _, it_int _, it_int _, ?_, ?_, ?_, ?_, ?_, ?_, ?_, ?_, fun _ h => nomatch h⟩ <;> exact ⟨fun _ _ h => by (cases h), by simp [okE, okEs, eqD, eqDs, dicE]⟩
  exact ⟨d, all d hd, by simp [m__law_odd, g__law_odd, ei, ed]⟩
end
section
variable (CR CP CB : Addr)
theorem Its.app {a b : List (List Dat)} (ha : Its a) (hb : Its b) (h : a.length + b.length ≤ 100) : Its (a ++ b) :=
  ⟨by rw [List.length_append]; exact h, fun r hr => (List.mem_append.mp hr).elim (ha.2 r) (hb.2 r)⟩
theorem Its.sub {a b : List (List Dat)} (ha : Its a) (hl : b.length ≤ a.length) (h : ∀ r ∈ b, r ∈ a) : Its b := ⟨Nat.le_trans hl ha.1, fun r hr => ha.2 r (h r hr)⟩
theorem Its.take {a : List (List Dat)} (ha : Its a) (j : Nat) : Its (a.take j) := ha.sub (by rw [List.length_take]; omega) fun r hr => List.mem_of_mem_take hr
theorem Its.drop {a : List (List Dat)} (ha : Its a) (j : Nat) : Its (a.drop j) := ha.sub (by rw [List.length_drop]; omega) fun r hr => List.mem_of_mem_drop hr
theorem its_one {r : List Dat} (h : r.length ≤ 100) (hi : ∀ d ∈ r, It d) : Its [r] := ⟨by simp, fun x hx => by cases List.mem_singleton.mp hx; exact ⟨h, hi⟩⟩
theorem add_ll {xs ys : List Dat} (h : xs.length ≤ 1000) (h2 : ys.length ≤ 1000) : addD (.lst xs) (.lst ys) = .ok (.lst (xs ++ ys)) := by
  show (if xs.length + ys.length ≤ sizeLine then _ else _) = _
  rw [if_pos (by rw [sizeLine_eq]; omega)]
theorem rep_flat (d : Dat) : ∀ j : Nat, (List.replicate j [d]).flatten = List.replicate j d
  | 0 => rfl
  | j + 1 => by rw [List.replicate_succ, List.flatten_cons, rep_flat d j]; rfl
noncomputable def tailS (n : Nat) : Env' → M Flo := sSeq (c__law_spoilt_1 CR CP CB n) (sSeq (c__law_spoilt_2 CR CP CB n) (sSeq (c__law_spoilt_3 CR CP CB n) (sSeq (c__law_spoilt_4 CR CP CB n) (sSeq (c__law_spoilt_5 CR CP CB n) (sSeq (c__law_spoilt_6 CR CP CB n) (sSeq (c__law_spoilt_7 CR CP CB n) (sRet (f2 addD (f2 addD (fSl sliceD (fVar 0) pNone (pSome (fVar 3))) (fL mkLst (fCons (fVar 5) fNil))) (fSl sliceD (fVar 0) (pSome (f2 addD (fVar 3) (fC (.int 1)))) pNone)))))))))
theorem spoilt_D (n : Nat) {k : Nat} (h1 : 1 ≤ k) (h6 : k ≤ 6) {rs : List (List Dat)} (h : GG k rs) (c : Int) : ∃ out, Its out ∧ m__law_spoilt CR CP CB n [RR rs, .int c] = .ok (RR out) := by
  have hI := h.its (by omega)
  have hl := h.1
  have k16 : k ≤ 16777216 := by omega
  have lr : lenD [RR rs] = .ok (.int k) := by simp [RR, hl, k16]
  obtain ⟨N, hN, eN⟩ : ∃ N : Int, 0 ≤ N ∧ c % 1000000000000000000000000000000000000000000000000000000000000 = N := ⟨_, Int.emod_nonneg _ (by omega), rfl⟩
  have k0 : (0 : Int) < k := by omega
  obtain ⟨A, hA, eA⟩ : ∃ A : Nat, A < k ∧ N / 64 % (k : Int) = A := by
    have z1 := Int.emod_nonneg (N / 64) (show (k : Int) ≠ 0 by omega)
    have z2 := Int.emod_lt_of_pos (N / 64) k0
    exact ⟨(N / 64 % (k : Int)).toNat, by omega, by omega⟩
  have hA' : A < rs.length := by omega
  obtain ⟨r, er⟩ : ∃ r, rs[A]? = some r := ⟨rs[A], List.getElem?_eq_getElem hA'⟩
  have hr := List.mem_of_getElem? er
  obtain ⟨r100, rI⟩ := hI.2 r hr
  have rk : r.length = k := by
    have := h.2 r hr
    simp only [goodR, Bool.and_eq_true, decide_eq_true_eq] at this
    exact this.1
  have ix : ixD (RR rs) (.int A) = .ok (.lst r) := by
    have e := getI_nat (ds := rs.map Dat.lst) (k := A) (by simpa using hA')
    show getI (rs.map Dat.lst) (A : Int) = _
    rw [e]
    obtain ⟨_, z⟩ := List.getElem?_eq_some_iff.mp er
    simp [z]
  obtain ⟨S, hS, eS⟩ : ∃ S : Nat, S ≤ k ∧ N / 512 % ((k : Int) + 1) = S := by
    have z1 := Int.emod_nonneg (N / 512) (show (k : Int) + 1 ≠ 0 by omega)
    have z2 := Int.emod_lt_of_pos (N / 512) (show (0 : Int) < (k : Int) + 1 by omega)
    exact ⟨(N / 512 % ((k : Int) + 1)).toNat, by omega, by omega⟩
  have k01 : (0 : Int) < (k : Int) + 1 := by omega
  have S0 : (0 : Int) ≤ S := by omega
  have A0 : (0 : Int) ≤ A := by omega
  have A1 : (0 : Int) ≤ (A : Int) + 1 := by omega
  have S1 : (0 : Int) ≤ (S : Int) + 1 := by omega
  have tA1 : ((A : Int) + 1).toNat = A + 1 := by omega
  have tS1 : ((S : Int) + 1).toNat = S + 1 := by omega
  have last : ∀ row : List Dat, row.length ≤ 100 → (∀ d ∈ row, It d) → ∃ out, Its out ∧ (f2 addD (f2 addD (fSl sliceD (fVar 0) pNone (pSome (fVar 3))) (fL mkLst (fCons (fVar 5) fNil))) (fSl sliceD (fVar 0) (pSome (f2 addD (fVar 3) (fC (.int 1)))) pNone)) [some (RR rs), some (.int c), some (.int N), some (.int A), some (.int S), some (.lst row), none] = .ok (RR out) := fun row hrow hi => by
    refine ⟨rs.take A ++ [row] ++ rs.drop (A + 1), ((hI.take A).app (its_one hrow hi) (by simp; omega)).app (hI.drop _) (by simp; omega), ?_⟩
    have a1 := add_ll (xs := (rs.map Dat.lst).take A) (ys := [.lst row]) (by simp; omega) (by simp)
    have a2 := add_ll (xs := (rs.map Dat.lst).take A ++ [.lst row]) (ys := (rs.map Dat.lst).drop (A + 1)) (by simp; omega) (by simp; omega)
    simp [RR, A0, A1, tA1, -List.append_assoc] at a1 a2 ⊢
    simp [a1, a2, -List.append_assoc]
  have pre : ∀ d : Dat, tailS CR CP CB n [some (RR rs), some (.int c), some (.int N), some (.int A), some (.int S), some (.lst r), none] = .ok (.rt d) → m__law_spoilt CR CP CB n [RR rs, .int c] = .ok d := fun d hx => by
    have rl : r.length ≤ 16777216 := by omega
    have md1 : modD (.int (N / 64)) (.int k) = .ok (.int A) := by rw [e_mod k0, eA]
    have md2 : modD (.int (N / 512)) (.int ((k : Int) + 1)) = .ok (.int S) := by rw [e_mod k01, eS]
    have hs : g__law_spoilt CR CP CB n [some (RR rs), some (.int c), none, none, none, none, none] = tailS CR CP CB n [some (RR rs), some (.int c), some (.int N), some (.int A), some (.int S), some (.lst r), none] := by
      unfold g__law_spoilt tailS
      simp [lr, eN, md1, ix, rk, md2, k16, rl]
    rw [hx] at hs
    simp [m__law_spoilt, hs]
  have fin : ∀ row : List Dat, row.length ≤ 100 → (∀ d ∈ row, It d) → tailS CR CP CB n [some (RR rs), some (.int c), some (.int N), some (.int A), some (.int S), some (.lst r), none] = (sRet (f2 addD (f2 addD (fSl sliceD (fVar 0) pNone (pSome (fVar 3))) (fL mkLst (fCons (fVar 5) fNil))) (fSl sliceD (fVar 0) (pSome (f2 addD (fVar 3) (fC (.int 1)))) pNone))) [some (RR rs), some (.int c), some (.int N), some (.int A), some (.int S), some (.lst row), none] → ∃ out, Its out ∧ m__law_spoilt CR CP CB n [RR rs, .int c] = .ok (RR out) := fun row hrow hi e => by
    obtain ⟨out, ho, eo⟩ := last row hrow hi
    refine ⟨out, ho, pre _ ?_⟩
    rw [e]
    show Except.bind _ (fun d => Except.ok (Flo.rt d)) = _
    rw [eo]
    rfl
  have take_it : ∀ j : Nat, ∀ d ∈ r.take j, It d := fun j d hd => rI d (List.mem_of_mem_take hd)
  have drop_it : ∀ j : Nat, ∀ d ∈ r.drop j, It d := fun j d hd => rI d (List.mem_of_mem_drop hd)
  have hm : N % 8 = 0 ∨ N % 8 = 1 ∨ N % 8 = 2 ∨ N % 8 = 3 ∨ N % 8 = 4 ∨ N % 8 = 5 ∨ 5 < N % 8 := by omega
  rcases hm with hm | hm | hm | hm | hm | hm | hm
  · refine ⟨[], ⟨by simp, by simp⟩, pre _ ?_⟩
    simp [tailS, c__law_spoilt_1, hm, RR]
  · obtain ⟨j, hj, ej⟩ : ∃ j : Nat, j ≤ 9 ∧ 7 + N / 8 % 3 = (j : Int) := ⟨(7 + N / 8 % 3).toNat, by omega, by omega⟩
    have j1 : -4611686018427387904 ≤ (j : Int) := by omega
    have j2 : (j : Int) < 4611686018427387904 := by omega
    have j3 : (rangeL 0 j).length ≤ 16777216 := by rw [rangeL_len]; omega
    have e : compD (.nm 0) fYes (f2 repD (fL mkLst (fCons (fC (.int 0)) fNil)) (fVar 1)) [none, some (.int j)] (rangeL 0 j) = .ok ((List.replicate j (List.replicate j (Dat.int 0))).map Dat.lst) := by
      have := compD_map (p := .nm 0) (fe := f2 repD (fL mkLst (fCons (fC (.int 0)) fNil)) (fVar 1)) (ρ0 := [none, some (.int j)]) (fun _ => .lst (List.replicate j (Dat.int 0))) (rangeL 0 j) (fun d hd => by
        refine ⟨[some d, some (.int j)], by simp, ?_⟩
        have r1 := e_rep (ds := [.int 0]) (k := (j : Int)) (by omega) (by omega) (by simp; omega)
        simp [r1, rep_flat])
      rw [this, List.map_const', rangeL_len, List.map_replicate]
    refine ⟨List.replicate j (List.replicate j (Dat.int 0)), ⟨by simp; omega, fun x hx => ?_⟩, pre _ ?_⟩
    · rw [List.eq_of_mem_replicate hx]
      exact ⟨by simp; omega, fun d hd => by rw [List.eq_of_mem_replicate hd]; exact it_int 0⟩
    · simp [tailS, c__law_spoilt_1, c__law_spoilt_2, hm, ej, j1, j2, j3, e, RR]
  · refine ⟨rs.take A ++ rs.drop (A + 1), (hI.take A).app (hI.drop _) (by simp; omega), pre _ ?_⟩
    have a1 := add_ll (xs := (rs.map Dat.lst).take A) (ys := (rs.map Dat.lst).drop (A + 1)) (by simp; omega) (by simp; omega)
    simp [tailS, c__law_spoilt_1, c__law_spoilt_2, c__law_spoilt_3, hm, RR, A0, A1, tA1] at a1 ⊢
    simp [a1]
  · refine ⟨rs.take A ++ cutL rs (some A) (some ((A : Int) + 1)) ++ rs.drop A, ?_, pre _ ?_⟩
    · have cl : (cutL rs (some (A : Int)) (some ((A : Int) + 1))).length ≤ rs.length := by unfold cutL; simp; omega
      have cm : ∀ x ∈ cutL rs (some (A : Int)) (some ((A : Int) + 1)), x ∈ rs := fun x hx => by unfold cutL at hx; exact List.mem_of_mem_drop (List.mem_of_mem_take hx)
      exact ((hI.take A).app (hI.sub cl cm) (by simp; omega)).app (hI.drop _) (by simp; omega)
    · have cl : (cutL rs (some (A : Int)) (some ((A : Int) + 1))).length ≤ rs.length := by unfold cutL; simp; omega
      have cmap : cutL (rs.map Dat.lst) (some (A : Int)) (some ((A : Int) + 1)) = (cutL rs (some (A : Int)) (some ((A : Int) + 1))).map Dat.lst := by unfold cutL; simp
      have a1 := add_ll (xs := (rs.map Dat.lst).take A) (ys := (cutL rs (some (A : Int)) (some ((A : Int) + 1))).map Dat.lst) (by simp; omega) (by simp; omega)
      have a2 := add_ll (xs := (rs.map Dat.lst).take A ++ (cutL rs (some (A : Int)) (some ((A : Int) + 1))).map Dat.lst) (ys := (rs.map Dat.lst).drop A) (by simp; omega) (by simp; omega)
      simp [tailS, c__law_spoilt_1, c__law_spoilt_2, c__law_spoilt_3, c__law_spoilt_4, hm, RR, A0, A1, tA1, cmap, -List.append_assoc] at a1 a2 ⊢
      simp [a1, a2, -List.append_assoc]
  · refine fin (r.take S ++ r.drop (S + 1)) (by simp; omega) (fun d hd => (List.mem_append.mp hd).elim (take_it S d) (drop_it _ d)) ?_
    have a1 := add_ll (xs := r.take S) (ys := r.drop (S + 1)) (by simp; omega) (by simp; omega)
    unfold tailS
    simp [c__law_spoilt_1, c__law_spoilt_2, c__law_spoilt_3, c__law_spoilt_4, c__law_spoilt_5, c__law_spoilt_6, c__law_spoilt_7, hm, S0, S1, tS1, a1]
  · refine fin (r.take S ++ [.int (N / 8 % 10)] ++ r.drop S) (by simp; omega) (fun d hd => ?_) ?_
    · rcases List.mem_append.mp hd with hd | hd
      · rcases List.mem_append.mp hd with hd | hd
        · exact take_it S d hd
        · rw [List.mem_singleton.mp hd]; exact it_int _
      · exact drop_it S d hd
    have a1 := add_ll (xs := r.take S) (ys := [.int (N / 8 % 10)]) (by simp; omega) (by simp)
    have a2 := add_ll (xs := r.take S ++ [.int (N / 8 % 10)]) (ys := r.drop S) (by simp; omega) (by simp; omega)
    unfold tailS
    simp [c__law_spoilt_1, c__law_spoilt_2, c__law_spoilt_3, c__law_spoilt_4, c__law_spoilt_5, c__law_spoilt_6, c__law_spoilt_7, hm, S0, S1, tS1, a1, a2, -List.append_assoc]
  · obtain ⟨o, oI, eo⟩ := odd_D CR CP CB n (N / 8)
    refine fin (r.take S ++ [o] ++ r.drop (S + 1)) (by simp; omega) (fun d hd => ?_) ?_
    · rcases List.mem_append.mp hd with hd | hd
      · rcases List.mem_append.mp hd with hd | hd
        · exact take_it S d hd
        · rw [List.mem_singleton.mp hd]; exact oI
      · exact drop_it _ d hd
    have a1 := add_ll (xs := r.take S) (ys := [o]) (by simp; omega) (by simp)
    have a2 := add_ll (xs := r.take S ++ [o]) (ys := r.drop (S + 1)) (by simp; omega) (by simp; omega)
    have m0 : ¬ N % 8 = 0 := by omega
    have m1 : ¬ N % 8 = 1 := by omega
    have m2 : ¬ N % 8 = 2 := by omega
    have m3 : ¬ N % 8 = 3 := by omega
    have m4 : ¬ N % 8 = 4 := by omega
    have m5 : ¬ N % 8 = 5 := by omega
    unfold tailS
    simp [c__law_spoilt_1, c__law_spoilt_2, c__law_spoilt_3, c__law_spoilt_4, c__law_spoilt_5, c__law_spoilt_6, c__law_spoilt_7, hm, m0, m1, m2, m3, m4, m5, S0, S1, tS1, a1, a2, eo, -List.append_assoc]
end
section
variable (CR CP CB : Addr)
theorem seq_ok {f g : Env' → M Flo} {ρ ρ' : Env'} (h : f ρ = .ok (.nx ρ')) : sSeq f g ρ = g ρ' := by
  show Except.bind _ _ = _
  rw [h]
  rfl
theorem okR_self : ∀ {r : List Dat}, (∀ d ∈ r, It d) → okR r r = true
  | [], _ => rfl
  | d :: r, h => by
    simp only [okR]
    rw [(h d (by simp)).2, okR_self fun x hx => h x (by simp [hx])]
    rfl
theorem okQ_self : ∀ {rs : List (List Dat)}, (∀ r ∈ rs, ∀ d ∈ r, It d) → okQ (rs.map Dat.lst) (rs.map Dat.lst) = true
  | [], _ => rfl
  | r :: rs, h => by
    simp only [List.map_cons, okQ]
    rw [okR_self (h r (by simp)), okQ_self fun x hx => h x (by simp [hx])]
    rfl
theorem neQ_self {rs : List (List Dat)} (h : Its rs) : neQ (RR rs) (RR rs) = .ok (.bl false) := by
  show (if okQ (rs.map Dat.lst) (rs.map Dat.lst) = true then _ else _) = _
  rw [if_pos (okQ_self fun r hr => (h.2 r hr).2)]
theorem copy_D (i : Nat) (ρ : Env') {rs : List (List Dat)} (hl : rs.length ≤ 100) (hv : fVar i ρ = .ok (RR rs)) : fComp (fIt (fVar i)) [none] (.nm 0) fYes (fL listD (fCons (fVar 0) fNil)) ρ = .ok (RR rs) := by
  have hl2 : rs.length ≤ 16777216 := by omega
  have e : compD (.nm 0) fYes (fL listD (fCons (fVar 0) fNil)) [none] (rs.map Dat.lst) = .ok (rs.map Dat.lst) := by
    have := compD_map (p := .nm 0) (fe := fL listD (fCons (fVar 0) fNil)) (ρ0 := [none]) id (rs.map Dat.lst) (fun d hd => by
      obtain ⟨x, hx, rfl⟩ := List.mem_map.mp hd
      exact ⟨[some (.lst x)], by simp, by simp⟩)
    rw [this, List.map_id]
  simp [hv, RR, e, hl2]
theorem none_left (n : Nat) {a b : List (List Dat)} (ha : Its a) (hb : Its b) (g : good a = false) : compD (.nm 0) (fNot (fTru (fL (m__law_refused CR CP CB n) (fCons (fVar 0) (fCons (fVar 2) (fCons (fVar 1) fNil)))))) (fVar 0) [none, some (RR b), some (RR a)] [.int 0, .int 1, .int 2] = .ok [] := by
  have r : ∀ w : Nat, w < 3 → m__law_refused CR CP CB n [.int w, RR a, RR b] = .ok (.bl true) := fun w hw => by
    rw [refused_D CR CP CB n ha hb w hw]
    unfold refB
    rw [g]
    split <;> rfl
  have r0 := r 0 (by omega)
  have r1 := r 1 (by omega)
  have r2 := r 2 (by omega)
  simp only [Int.natCast_zero, Int.cast_ofNat_Int] at r0 r1 r2
  rw [compD, compD, compD, compD]
  simp [r0, r1, r2]
theorem turn_D (n : Nat) (hne : CR ≠ CP) (ns : List Int) {k : Nat} (h1 : 1 ≤ k) (h6 : k ≤ 6) {rs : List (List Dat)} (h : GG k rs) (j : Nat) (z3 z4 : Option Dat) : ∃ y3 y4, b_law_5 CR CP CB n [some (.lst (ns.map .int)), some (RR rs), some (.int j), z3, z4, none] = .ok (.nx [some (.lst (ns.map .int)), some (RR rs), some (.int j), y3, y4, none]) := by
  have hI := h.its (by omega)
  have ce := cell_D CR CP CB n ns j
  generalize ns.getD j 0 = c at ce
  obtain ⟨out, ho, eo⟩ := spoilt_D CR CP CB n h1 h6 h c
  have cp := copy_D 3 [some (.lst (ns.map .int)), some (RR rs), some (.int j), some (RR out), z4, none] ho.1 (by simp)
  have gd := good_D CR CP CB n ho
  have nq := neQ_self ho
  refine ⟨some (RR out), some (RR out), ?_⟩
  have c3 : c_law_3 CR CP CB n [some (.lst (ns.map .int)), some (RR rs), some (.int j), some (RR out), some (RR out), none] = .ok (.nx [some (.lst (ns.map .int)), some (RR rs), some (.int j), some (RR out), some (RR out), none]) := by
    cases g : good out with
    | true =>
      have tk := taken_D CR CP CB n hne ho hI g (h.good h1 h6)
      rw [g] at gd
      simp [c_law_3, gd, c_law_1, tk]
    | false =>
      have nl := none_left CR CP CB n ho hI g
      have ne0 : neM (.lst []) (.lst []) = .ok (.bl false) := by simp [neM, okE, okEs, eqD, eqDs]
      have rg : rangeL 0 3 = [.int 0, .int 1, .int 2] := rfl
      rw [g] at gd
      simp [c_law_3, gd, c_law_2, rg, nl, ne0]
  unfold b_law_5
  simp [ce, eo, c3, c_law_4, nq] at cp ⊢
  simp [cp, c3, c_law_4, nq]
theorem law_true (hne : CR ≠ CP) : ∀ ns : List Int, ns.length ≤ 63 → ∃ n, m_law CR CP CB n [.lst (ns.map .int)] = .ok (.bl true) := by
  intro ns _
  refine ⟨64, ?_⟩
  obtain ⟨k, rs, h1, h6, h, eg⟩ := gaps_D CR CP CB 64 ns
  have hI := h.its (by omega)
  have hg := h.good h1 h6
  have hl := h.1
  obtain ⟨y3, y4, t1⟩ := turn_D CR CP CB 64 hne ns h1 h6 h 1 none none
  obtain ⟨x3, x4, t2⟩ := turn_D CR CP CB 64 hne ns h1 h6 h 2 y3 y4
  simp only [Int.cast_ofNat_Int] at t1 t2
  have lp : forD (.nm 2) (b_law_5 CR CP CB 64) [.int 1, .int 2] [some (.lst (ns.map .int)), some (RR rs), none, none, none, none] = .ok (.nx [some (.lst (ns.map .int)), some (RR rs), some (.int 2), x3, x4, none]) := by
    simp [forD, t1, t2]
  have hM : Its (rs.map (· ++ [Dat.int 0]) ++ [List.replicate (k + 1) (Dat.int 0)]) := by
    refine ⟨by simp; omega, fun r hr => ?_⟩
    rcases List.mem_append.mp hr with hr | hr
    · obtain ⟨x, hx, rfl⟩ := List.mem_map.mp hr
      have := h.2 x hx
      simp only [goodR, Bool.and_eq_true, decide_eq_true_eq] at this
      refine ⟨by simp; omega, fun d hd => ?_⟩
      rcases List.mem_append.mp hd with hd | hd
      · exact (hI.2 x hx).2 d hd
      · rw [List.mem_singleton.mp hd]; exact it_int 0
    · rw [List.mem_singleton.mp hr]
      exact ⟨by simp; omega, fun d hd => by rw [List.eq_of_mem_replicate hd]; exact it_int 0⟩
  have cm : compD (.nm 0) fYes (f2 addD (fVar 0) (fL mkLst (fCons (fC (.int 0)) fNil))) [none] (rs.map Dat.lst) = .ok ((rs.map (· ++ [Dat.int 0])).map Dat.lst) := by
    have := compD_map (p := .nm 0) (fe := f2 addD (fVar 0) (fL mkLst (fCons (fC (.int 0)) fNil))) (ρ0 := [none]) (fun d => match d with | .lst r => .lst (r ++ [.int 0]) | _ => .non) (rs.map Dat.lst) (fun d hd => by
      obtain ⟨x, hx, rfl⟩ := List.mem_map.mp hd
      have := (hI.2 x hx).1
      have a1 := add_ll (xs := x) (ys := [.int 0]) (by omega) (by simp)
      exact ⟨[some (.lst x)], by simp, by simp [a1]⟩)
    rw [this, List.map_map, List.map_map]
    rfl
  have l1 : rs.length ≤ 16777216 := by omega
  have k16 : k ≤ 16777216 := by omega
  have rp := e_rep (ds := [.int 0]) (k := (k : Int) + 1) (by omega) (by omega) (by simp; omega)
  have tk : ((k : Int) + 1).toNat = k + 1 := by omega
  rw [tk, rep_flat] at rp
  have am := add_ll (xs := (rs.map (· ++ [Dat.int 0])).map Dat.lst) (ys := [.lst (List.replicate (k + 1) (Dat.int 0))]) (by simp; omega) (by simp)
  have lr : lenD [RR rs] = .ok (.int k) := by rw [lenR l1, hl]
  have em : (f2 addD (fComp (fIt (fVar 1)) [none] (.nm 0) fYes (f2 addD (fVar 0) (fL mkLst (fCons (fC (.int 0)) fNil)))) (fL mkLst (fCons (f2 repD (fL mkLst (fCons (fC (.int 0)) fNil)) (f2 addD (fL lenD (fCons (fVar 1) fNil)) (fC (.int 1)))) fNil))) [some (.lst (ns.map .int)), some (RR rs), some (.int 2), x3, x4, none] = .ok (RR (rs.map (· ++ [Dat.int 0]) ++ [List.replicate (k + 1) (Dat.int 0)])) := by
    have ea : fComp (fIt (fVar 1)) [none] (.nm 0) fYes (f2 addD (fVar 0) (fL mkLst (fCons (fC (.int 0)) fNil))) [some (.lst (ns.map .int)), some (RR rs), some (.int 2), x3, x4, none] = .ok (.lst ((rs.map (· ++ [Dat.int 0])).map Dat.lst)) := by
      simp [RR, cm, l1, -List.map_map]
    have eb : fL mkLst (fCons (f2 repD (fL mkLst (fCons (fC (.int 0)) fNil)) (f2 addD (fL lenD (fCons (fVar 1) fNil)) (fC (.int 1)))) fNil) [some (.lst (ns.map .int)), some (RR rs), some (.int 2), x3, x4, none] = .ok (.lst [.lst (List.replicate (k + 1) (Dat.int 0))]) := by
      simp [lr, rp]
    show Except.bind _ _ = _
    rw [ea, bind_ok]
    show Except.bind _ _ = _
    rw [eb, bind_ok, am]
    simp [RR]
  have mr : ∀ w : Nat, 1 ≤ w → w < 3 → m__law_refused CR CP CB 64 [.int w, RR (rs.map (· ++ [Dat.int 0]) ++ [List.replicate (k + 1) (Dat.int 0)]), RR rs] = .ok (.bl true) := fun w hw1 hw => by
    rw [refused_D CR CP CB 64 hM hI w hw]
    unfold refB
    rw [if_neg (by omega), show decide ((rs.map (· ++ [Dat.int 0]) ++ [List.replicate (k + 1) (Dat.int 0)]).length = rs.length) = false by simp]
    simp
  have m1 := mr 1 (by omega) (by omega)
  have m2 := mr 2 (by omega) (by omega)
  simp only [Int.cast_ofNat_Int] at m1 m2
  generalize RR (rs.map (· ++ [Dat.int 0]) ++ [List.replicate (k + 1) (Dat.int 0)]) = mo at em m1 m2
  have tkn := taken_D CR CP CB 64 hne hI hI hg hg
  have cp := copy_D 1 [some (.lst (ns.map .int)), some (RR rs), some (.int 2), x3, x4, some mo] hI.1 (by simp)
  have e1 : g_law CR CP CB 64 [some (.lst (ns.map .int)), none, none, none, none, none] = .ok (.rt (.bl true)) := by
    unfold g_law
    have s1 : (sSetB [] 1 (fL (m__law_gaps CR CP CB 64) (fCons (fVar 0) fNil))) [some (.lst (ns.map .int)), none, none, none, none, none] = .ok (.nx [some (.lst (ns.map .int)), some (RR rs), none, none, none, none]) := by simp [eg]
    have s2 : (sFor [] (fIt (fL mkLst (fCons (fC (.int 1)) (fCons (fC (.int 2)) fNil)))) (.nm 2) (b_law_5 CR CP CB 64)) [some (.lst (ns.map .int)), some (RR rs), none, none, none, none] = .ok (.nx [some (.lst (ns.map .int)), some (RR rs), some (.int 2), x3, x4, none]) := by simp [lp]
    have s3 : (sSetB [] 5 (f2 addD (fComp (fIt (fVar 1)) [none] (.nm 0) fYes (f2 addD (fVar 0) (fL mkLst (fCons (fC (.int 0)) fNil)))) (fL mkLst (fCons (f2 repD (fL mkLst (fCons (fC (.int 0)) fNil)) (f2 addD (fL lenD (fCons (fVar 1) fNil)) (fC (.int 1)))) fNil)))) [some (.lst (ns.map .int)), some (RR rs), some (.int 2), x3, x4, none] = .ok (.nx [some (.lst (ns.map .int)), some (RR rs), some (.int 2), x3, x4, some mo]) := by
      show Except.bind _ _ = _
      rw [show erase [] [some (.lst (ns.map .int)), some (RR rs), some (.int 2), x3, x4, none] = [some (.lst (ns.map .int)), some (RR rs), some (.int 2), x3, x4, none] from rfl, em]
      rfl
    have s4 : c_law_6 CR CP CB 64 [some (.lst (ns.map .int)), some (RR rs), some (.int 2), x3, x4, some mo] = .ok (.nx [some (.lst (ns.map .int)), some (RR rs), some (.int 2), x3, x4, some mo]) := by simp [c_law_6, m1, m2]
    have s5 : (sRet (fL (m__law_taken CR CP CB 64) (fCons (fVar 1) (fCons (fComp (fIt (fVar 1)) [none] (.nm 0) fYes (fL listD (fCons (fVar 0) fNil))) fNil)))) [some (.lst (ns.map .int)), some (RR rs), some (.int 2), x3, x4, some mo] = .ok (.rt (.bl true)) := by
      simp at cp ⊢
      simp [cp, tkn]
    rw [seq_ok s1, seq_ok s2, seq_ok s3, seq_ok s4]
    exact s5
  simp [m_law, e1]
end
theorem fin_mk {P : Program} {w : World} {K : PySem.W.Frag} {mg : Str → Option Value} {st : Stmt} {ps : List Str} {f : Addr} {fd : FuncData} {k : Nat} (_ : Def K mg "law" st ps f fd) (hb : ∀ (s : Shared) (v : Value), BindsTo s fd ⟨[v], []⟩ [("_law_script", v)]) (h : ∀ base : Heap, FnOk P w K mg base CX0 k f fd ["_law_script"] (spLaw K)) : ∃ fd : FuncData, (∀ (s : Shared) (v : Value), BindsTo s fd ⟨[v], []⟩ [("_law_script", v)]) ∧ ∀ base : Heap, K.In base → base.Ns mainGlobals mg → FnOk P w K mg base CX0 k f fd ["_law_script"] (spLaw K) := ⟨fd, hb, fun base _ _ => h base⟩
theorem all_mk {l : PySem.W.OpenLaw} {w : World} {K : PySem.W.Frag} {h : Heap} {mg : Str → Option Value} {fa CR CP f_Rules_many_kinds f_Rules_gap_rows f_law f_nR f_nP CB AStripError ANoPlace ANoPlan ANoRow ANoSheet ANoTime ANotFree ATooMany : Addr} {od_Rules_many_kinds an_Rules_many_kinds od_Rules_gap_rows an_Rules_gap_rows od_law an_law od_nR an_nR od_nP an_nP : Option Addr} {sl_Rules_many_kinds sl_Rules_gap_rows sl_law sl_nR sl_nP : Array (Option Value)} {oc_Rules_many_kinds kV_Rules_many_kinds dc_Rules_many_kinds pm_Rules_many_kinds cd_Rules_many_kinds ct_Rules_many_kinds oc_Rules_gap_rows kV_Rules_gap_rows dc_Rules_gap_rows pm_Rules_gap_rows cd_Rules_gap_rows ct_Rules_gap_rows oc_law kV_law dc_law pm_law cd_law ct_law oc_nR kV_nR dc_nR pm_nR cd_nR ct_nR oc_nP kV_nP dc_nP pm_nP cd_nP ct_nP : Value} {t_GREATEST_GAP t_MOST_KINDS : Tok} (KX : K.In h) (G : h.Ns mainGlobals mg) (hfa : mg "law" = some (.ref fa))
    (c_CR_a : PySem.W.nsIn K mainGlobals "Rules" = some (some (.ref CR)))
    (c_CR_pg : PySem.W.plainGet K CR Str.empty = true)
    (c_CR_hd : PySem.W.hasDictIn K CR = true)
    (c_CR_po : PySem.W.plainOver K CR = true)
    (c_CR_sa : PySem.W.findIn K (.ref CR) "__setattr__" = some (some (.builtin "object.__setattr__")))
    (c_CR_mk : PySem.W.makesIn K CR = true)
    (c_CR_kp : PySem.W.keepIn K (.ref CR) = true)
    (c_CR_c1 : PySem.W.findIn K (.ref CR) "__class__" = some (some (.builtin "object.__class__")))
    (c_CR_c4 : PySem.W.mroIn K CR (.type "object") = some true)
    (n_CR_gaps : PySem.W.findIn K (.ref CR) "gaps" = some none)
    (n_CR_beside : PySem.W.findIn K (.ref CR) "beside" = some none)
    (c_CP_a : PySem.W.nsIn K mainGlobals "Pair" = some (some (.ref CP)))
    (c_CP_pg : PySem.W.plainGet K CP Str.empty = true)
    (c_CP_hd : PySem.W.hasDictIn K CP = true)
    (c_CP_po : PySem.W.plainOver K CP = true)
    (c_CP_sa : PySem.W.findIn K (.ref CP) "__setattr__" = some (some (.builtin "object.__setattr__")))
    (c_CP_mk : PySem.W.makesIn K CP = true)
    (c_CP_kp : PySem.W.keepIn K (.ref CP) = true)
    (c_CP_c1 : PySem.W.findIn K (.ref CP) "__class__" = some (some (.builtin "object.__class__")))
    (c_CP_c4 : PySem.W.mroIn K CP (.type "object") = some true)
    (n_CP_gaps : PySem.W.findIn K (.ref CP) "gaps" = some none)
    (n_CP_beside : PySem.W.findIn K (.ref CP) "beside" = some none)
    (o2 : PySem.W.specialIn K (.builtin "object.__class__") "__get__" = some (some (.builtin "getset_descriptor.__get__")))
    (o3 : PySem.W.takesIn K (.builtin "object.__class__") = some true)
    (x_ne : CR ≠ CP)
    (h__law_cell_at : ∃ f fd, Def K mg "_law_cell_at" s__law_cell_at ["_law_script", "_law_k"] f fd)
    (h__law_gaps : ∃ f fd, Def K mg "_law_gaps" s__law_gaps ["_law_script"] f fd)
    (a_Rules_many_kinds : PySem.W.findIn K (.ref CR) "many_kinds" = some (some (.ref f_Rules_many_kinds)))
    (i_Rules_many_kinds : PySem.W.isFn K (.ref f_Rules_many_kinds) = true)
    (l_Rules_many_kinds : K.lookup f_Rules_many_kinds = some ⟨oc_Rules_many_kinds, od_Rules_many_kinds, .func (PySem.W.fnOf "many_kinds" "Rules.many_kinds" (defArgs s_Rules_many_kinds) (defBody s_Rules_many_kinds) (defScope s_Rules_many_kinds) .none kV_Rules_many_kinds dc_Rules_many_kinds pm_Rules_many_kinds an_Rules_many_kinds cd_Rules_many_kinds ct_Rules_many_kinds), sl_Rules_many_kinds⟩)
    (d_Rules_many_kinds : PySem.W.codeIn K cd_Rules_many_kinds "Rules.many_kinds" = true)
    (k_Rules_many_kinds : PySem.W.keepIn K (.ref f_Rules_many_kinds) = true)
    (h_copied_rows : ∃ f fd, Def K mg "copied_rows" s_copied_rows ["rows"] f fd)
    (h_is_gap : ∃ f fd, Def K mg "is_gap" s_is_gap ["number"] f fd)
    (h_is_gap_row : ∃ f fd, Def K mg "is_gap_row" s_is_gap_row ["row", "kinds"] f fd)
    (h_checked_rows : ∃ f fd, Def K mg "checked_rows" s_checked_rows ["rows"] f fd)
    (h__law_refused : ∃ f fd, Def K mg "_law_refused" s__law_refused ["_law_way", "_law_gaps_here", "_law_good_here"] f fd)
    (a_Rules_gap_rows : PySem.W.findIn K (.ref CR) "gap_rows" = some (some (.ref f_Rules_gap_rows)))
    (i_Rules_gap_rows : PySem.W.isFn K (.ref f_Rules_gap_rows) = true)
    (l_Rules_gap_rows : K.lookup f_Rules_gap_rows = some ⟨oc_Rules_gap_rows, od_Rules_gap_rows, .func (PySem.W.fnOf "gap_rows" "Rules.gap_rows" (defArgs s_Rules_gap_rows) (defBody s_Rules_gap_rows) (defScope s_Rules_gap_rows) .none kV_Rules_gap_rows dc_Rules_gap_rows pm_Rules_gap_rows an_Rules_gap_rows cd_Rules_gap_rows ct_Rules_gap_rows), sl_Rules_gap_rows⟩)
    (d_Rules_gap_rows : PySem.W.codeIn K cd_Rules_gap_rows "Rules.gap_rows" = true)
    (k_Rules_gap_rows : PySem.W.keepIn K (.ref f_Rules_gap_rows) = true)
    (h__law_taken : ∃ f fd, Def K mg "_law_taken" s__law_taken ["_law_gaps_here", "_law_good_here"] f fd)
    (h__law_odd : ∃ f fd, Def K mg "_law_odd" s__law_odd ["_law_cell"] f fd)
    (h__law_spoilt : ∃ f fd, Def K mg "_law_spoilt" s__law_spoilt ["_law_gaps_here", "_law_cell"] f fd)
    (h__law_good : ∃ f fd, Def K mg "_law_good" s__law_good ["_law_gaps_here"] f fd)
    (a_law : PySem.W.nsIn K mainGlobals "law" = some (some (.ref f_law)))
    (l_law : K.lookup f_law = some ⟨oc_law, od_law, .func (PySem.W.fnOf "law" "law" (defArgs s_law) (defBody s_law) (defScope s_law) .none kV_law dc_law pm_law an_law cd_law ct_law), sl_law⟩)
    (d_law : PySem.W.codeIn K cd_law "law" = true)
    (k_law : PySem.W.keepIn K (.ref f_law) = true)
    (a2_P_gap_rows : PySem.W.findIn K (.ref CP) "gap_rows" = some (some (.ref f_Rules_gap_rows)))
    (a2_P_many_kinds : PySem.W.findIn K (.ref CP) "many_kinds" = some (some (.ref f_Rules_many_kinds)))
    (a_nR : PySem.W.findIn K (.ref CR) "__init__" = some (some (.ref f_nR)))
    (i_nR : PySem.W.isFn K (.ref f_nR) = true)
    (l_nR : K.lookup f_nR = some ⟨oc_nR, od_nR, .func (PySem.W.fnOf "__init__" "Rules.__init__" (defArgs s_nR) (defBody s_nR) (defScope s_nR) .none kV_nR dc_nR pm_nR an_nR cd_nR ct_nR), sl_nR⟩)
    (d_nR : PySem.W.codeIn K cd_nR "Rules.__init__" = true)
    (k_nR : PySem.W.keepIn K (.ref f_nR) = true)
    (a_nP : PySem.W.findIn K (.ref CP) "__init__" = some (some (.ref f_nP)))
    (i_nP : PySem.W.isFn K (.ref f_nP) = true)
    (l_nP : K.lookup f_nP = some ⟨oc_nP, od_nP, .func (PySem.W.fnOf "__init__" "Pair.__init__" (defArgs s_nP) (defBody s_nP) (defScope s_nP) .none kV_nP dc_nP pm_nP an_nP cd_nP ct_nP), sl_nP⟩)
    (d_nP : PySem.W.codeIn K cd_nP "Pair.__init__" = true)
    (k_nP : PySem.W.keepIn K (.ref f_nP) = true)
    (x_s1 : PySem.W.specialIn K (.ref CR) "__getattribute__" = some (some (.builtin "type.__getattribute__")))
    (x_s2 : PySem.W.readsIn K CR (.type "type") = true)
    (x_s3 : PySem.W.findCls K (.ref CR) (.type "type") "__init__" = some (.val (.ref f_nR)))
    (x_CB_a : PySem.W.nsIn K mainGlobals "NoRules" = some (some (.ref CB)))
    (x_AStripError : PySem.W.nsIn K mainGlobals "StripError" = some (some (.ref AStripError)))
    (x_ANoPlace : PySem.W.nsIn K mainGlobals "NoPlace" = some (some (.ref ANoPlace)))
    (x_ANoPlan : PySem.W.nsIn K mainGlobals "NoPlan" = some (some (.ref ANoPlan)))
    (x_ANoRow : PySem.W.nsIn K mainGlobals "NoRow" = some (some (.ref ANoRow)))
    (x_ANoSheet : PySem.W.nsIn K mainGlobals "NoSheet" = some (some (.ref ANoSheet)))
    (x_ANoTime : PySem.W.nsIn K mainGlobals "NoTime" = some (some (.ref ANoTime)))
    (x_ANotFree : PySem.W.nsIn K mainGlobals "NotFree" = some (some (.ref ANotFree)))
    (x_ATooMany : PySem.W.nsIn K mainGlobals "TooMany" = some (some (.ref ATooMany)))
    (x_kO_CB_StripError : PySem.W.kitOne K (.ref CB) (.ref AStripError) = some true)
    (x_kB_CB_ValueError : PySem.W.kitOne K (.ref CB) (.type "ValueError") = some true)
    (x_kT_CB : PySem.W.kitAny K (.ref CB) ([ANoPlace, ANoPlan, ANoRow, ANoSheet, ANoTime, ANotFree, ATooMany].map Value.ref) = some false)
    (x_CB_ga : PySem.W.findIn K (.ref CB) "__getattribute__" = some (some (.builtin "BaseException.__getattribute__")))
    (x_CB_cl : PySem.W.findIn K (.ref CB) "__class__" = some (some (.builtin "object.__class__")))
    (x_CB_gt : PySem.W.findIn K (.ref CB) "__getattr__" = some none)
    (x_CB_bs : PySem.W.mroIn K CB (.type "BaseException") = some true)
    (x_CB_ob : PySem.W.mroIn K CB (.type "object") = some true)
    (x_CB_is : (PySem.W.clsIn K CB).isSome = true)
    (x_CB_e : PySem.W.excIn K CB [.type "ValueError", .type "Exception", .type "BaseException", .type "object"] "ValueError.__new__" = true)
    (z_ValueError : PySem.W.nsIn K mainGlobals "ValueError" = some none)
    (z_all : PySem.W.nsIn K mainGlobals "all" = some none)
    (z_bool : PySem.W.nsIn K mainGlobals "bool" = some none)
    (z_int : PySem.W.nsIn K mainGlobals "int" = some none)
    (z_isinstance : PySem.W.nsIn K mainGlobals "isinstance" = some none)
    (z_len : PySem.W.nsIn K mainGlobals "len" = some none)
    (z_list : PySem.W.nsIn K mainGlobals "list" = some none)
    (z_range : PySem.W.nsIn K mainGlobals "range" = some none)
    (g_GREATEST_GAP : PySem.W.nsIn K mainGlobals "GREATEST_GAP" = some (some (.int 1000000 t_GREATEST_GAP)))
    (g_MOST_KINDS : PySem.W.nsIn K mainGlobals "MOST_KINDS" = some (some (.int 6 t_MOST_KINDS)))
    (q_int_int : PySem.W.kitOne K (.type "int") (.type "int") = some true)
    (q_bool_int : PySem.W.kitOne K (.type "bool") (.type "int") = some true)
    (q_list_int : PySem.W.kitOne K (.type "list") (.type "int") = some false)
    (q_tuple_int : PySem.W.kitOne K (.type "tuple") (.type "int") = some false)
    (q_str_int : PySem.W.kitOne K (.type "str") (.type "int") = some false)
    (q_NoneType_int : PySem.W.kitOne K (.type "NoneType") (.type "int") = some false)
    (q_int_bool : PySem.W.kitOne K (.type "int") (.type "bool") = some false)
    (q_bool_bool : PySem.W.kitOne K (.type "bool") (.type "bool") = some true)
    (q_list_bool : PySem.W.kitOne K (.type "list") (.type "bool") = some false)
    (q_tuple_bool : PySem.W.kitOne K (.type "tuple") (.type "bool") = some false)
    (q_str_bool : PySem.W.kitOne K (.type "str") (.type "bool") = some false)
    (q_NoneType_bool : PySem.W.kitOne K (.type "NoneType") (.type "bool") = some false)
    (q_int_list : PySem.W.kitOne K (.type "int") (.type "list") = some false)
    (q_bool_list : PySem.W.kitOne K (.type "bool") (.type "list") = some false)
    (q_list_list : PySem.W.kitOne K (.type "list") (.type "list") = some true)
    (q_tuple_list : PySem.W.kitOne K (.type "tuple") (.type "list") = some false)
    (q_str_list : PySem.W.kitOne K (.type "str") (.type "list") = some false)
    (q_NoneType_list : PySem.W.kitOne K (.type "NoneType") (.type "list") = some false)
    (q_int_tuple : PySem.W.kitOne K (.type "int") (.type "tuple") = some false)
    (q_bool_tuple : PySem.W.kitOne K (.type "bool") (.type "tuple") = some false)
    (q_list_tuple : PySem.W.kitOne K (.type "list") (.type "tuple") = some false)
    (q_tuple_tuple : PySem.W.kitOne K (.type "tuple") (.type "tuple") = some true)
    (q_str_tuple : PySem.W.kitOne K (.type "str") (.type "tuple") = some false)
    (q_NoneType_tuple : PySem.W.kitOne K (.type "NoneType") (.type "tuple") = some false)
    (q_int_str : PySem.W.kitOne K (.type "int") (.type "str") = some false)
    (q_bool_str : PySem.W.kitOne K (.type "bool") (.type "str") = some false)
    (q_list_str : PySem.W.kitOne K (.type "list") (.type "str") = some false)
    (q_tuple_str : PySem.W.kitOne K (.type "tuple") (.type "str") = some false)
    (q_str_str : PySem.W.kitOne K (.type "str") (.type "str") = some true)
    (q_NoneType_str : PySem.W.kitOne K (.type "NoneType") (.type "str") = some false)
    (q_dict_int : PySem.W.kitOne K (.type "dict") (.type "int") = some false)
    (q_dict_bool : PySem.W.kitOne K (.type "dict") (.type "bool") = some false) :
    ∃ fd : FuncData, (∀ (s : Shared) (v : Value), BindsTo s fd ⟨[v], []⟩ [("_law_script", v)]) ∧ ∀ base : Heap, K.In base → base.Ns mainGlobals mg → FnOk l.prog w K mg base CX0 9 fa fd ["_law_script"] (spLaw K) := by
  have e := hfa.symm.trans (PySem.W.mg_of KX G a_law)
  cases e
  have K_CR := kls_of (mg := mg) KX G c_CR_a c_CR_pg c_CR_hd c_CR_po c_CR_sa c_CR_mk c_CR_kp c_CR_c1 o2 o3 c_CR_c4
  have K_CP := kls_of (mg := mg) KX G c_CP_a c_CP_pg c_CP_hd c_CP_po c_CP_sa c_CP_mk c_CP_kp c_CP_c1 o2 o3 c_CP_c4
  obtain ⟨f__law_cell_at, fd__law_cell_at, D__law_cell_at⟩ := h__law_cell_at
  obtain ⟨f__law_gaps, fd__law_gaps, D__law_gaps⟩ := h__law_gaps
  have D_Rules_many_kinds := mth_of (C := CR) (st := s_Rules_many_kinds) (ps := ["self"]) a_Rules_many_kinds i_Rules_many_kinds l_Rules_many_kinds d_Rules_many_kinds k_Rules_many_kinds fun _ _ _ _ _ _ us hl => match us, hl with | [_], _ => rfl
  obtain ⟨f_copied_rows, fd_copied_rows, D_copied_rows⟩ := h_copied_rows
  obtain ⟨f_is_gap, fd_is_gap, D_is_gap⟩ := h_is_gap
  obtain ⟨f_is_gap_row, fd_is_gap_row, D_is_gap_row⟩ := h_is_gap_row
  obtain ⟨f_checked_rows, fd_checked_rows, D_checked_rows⟩ := h_checked_rows
  obtain ⟨f__law_refused, fd__law_refused, D__law_refused⟩ := h__law_refused
  have D_Rules_gap_rows := mth_of (C := CR) (st := s_Rules_gap_rows) (ps := ["self"]) a_Rules_gap_rows i_Rules_gap_rows l_Rules_gap_rows d_Rules_gap_rows k_Rules_gap_rows fun _ _ _ _ _ _ us hl => match us, hl with | [_], _ => rfl
  obtain ⟨f__law_taken, fd__law_taken, D__law_taken⟩ := h__law_taken
  obtain ⟨f__law_odd, fd__law_odd, D__law_odd⟩ := h__law_odd
  obtain ⟨f__law_spoilt, fd__law_spoilt, D__law_spoilt⟩ := h__law_spoilt
  obtain ⟨f__law_good, fd__law_good, D__law_good⟩ := h__law_good
  have D_law := def_of (mg := mg) (st := s_law) (ps := ["_law_script"]) KX G a_law l_law d_law k_law fun _ _ _ _ _ _ us hl => match us, hl with | [_], _ => rfl
  have M_R_gap_rows := D_Rules_gap_rows
  have M_P_gap_rows := mth_of (C := CP) (st := s_Rules_gap_rows) (ps := ["self"]) a2_P_gap_rows i_Rules_gap_rows l_Rules_gap_rows d_Rules_gap_rows k_Rules_gap_rows fun _ _ _ _ _ _ us hl => match us, hl with | [_], _ => rfl
  have M_R_many_kinds := D_Rules_many_kinds
  have M_P_many_kinds := mth_of (C := CP) (st := s_Rules_many_kinds) (ps := ["self"]) a2_P_many_kinds i_Rules_many_kinds l_Rules_many_kinds d_Rules_many_kinds k_Rules_many_kinds fun _ _ _ _ _ _ us hl => match us, hl with | [_], _ => rfl
  have N_R := mth_of (C := CR) (st := s_nR) (ps := ["self", "gaps"]) a_nR i_nR l_nR d_nR k_nR fun _ _ _ _ _ _ us hl => match us, hl with | [_, _], _ => rfl
  have N_P := mth_of (C := CP) (st := s_nP) (ps := ["self", "gaps", "beside"]) a_nP i_nP l_nP d_nP k_nP fun _ _ _ _ _ _ us hl => match us, hl with | [_, _, _], _ => rfl
  have Z : Zs K mg CR CP CB AStripError ANoPlace ANoPlan ANoRow ANoSheet ANoTime ANotFree ATooMany := ⟨PySem.W.mg_of KX G x_AStripError, PySem.W.mg_of KX G x_ANoPlace, PySem.W.mg_of KX G x_ANoPlan, PySem.W.mg_of KX G x_ANoRow, PySem.W.mg_of KX G x_ANoSheet, PySem.W.mg_of KX G x_ANoTime, PySem.W.mg_of KX G x_ANotFree, PySem.W.mg_of KX G x_ATooMany, x_kO_CB_StripError, x_kB_CB_ValueError, x_kT_CB, ⟨x_CB_ga, x_CB_cl, x_CB_gt, x_CB_bs, x_CB_ob, Option.isSome_iff_exists.mp x_CB_is⟩, ⟨PySem.W.mg_of KX G x_CB_a, x_CB_e⟩, K_CR, K_CP, (by intro C h; simp only [List.mem_cons, List.not_mem_nil, or_false] at h; exact h.elim (fun e => by subst e; exact ⟨K_CR.cl, n_CR_gaps⟩) (fun e => by subst e; exact ⟨K_CP.cl, n_CP_gaps⟩)), (by intro C h; simp only [List.mem_cons, List.not_mem_nil, or_false] at h; subst h; exact ⟨K_CP.cl, n_CP_beside⟩), PySem.W.mg_none_of KX G z_ValueError, PySem.W.mg_none_of KX G z_all, PySem.W.mg_none_of KX G z_bool, PySem.W.mg_none_of KX G z_int, PySem.W.mg_none_of KX G z_isinstance, PySem.W.mg_none_of KX G z_len, PySem.W.mg_none_of KX G z_list, PySem.W.mg_none_of KX G z_range, ⟨_, PySem.W.mg_of KX G g_GREATEST_GAP⟩, ⟨_, PySem.W.mg_of KX G g_MOST_KINDS⟩, ⟨q_int_int, q_bool_int, q_list_int, q_tuple_int, q_str_int, q_NoneType_int, q_int_bool, q_bool_bool, q_list_bool, q_tuple_bool, q_str_bool, q_NoneType_bool, q_int_list, q_bool_list, q_list_list, q_tuple_list, q_str_list, q_NoneType_list, q_int_tuple, q_bool_tuple, q_list_tuple, q_tuple_tuple, q_str_tuple, q_NoneType_tuple, q_int_str, q_bool_str, q_list_str, q_tuple_str, q_str_str, q_NoneType_str⟩, ⟨q_dict_int, q_dict_bool⟩⟩
  refine fin_mk D_law (fun s v => .of_eq rfl) fun base => law_ok (ro := false) (mlaw := m_law CR CP CB) (fun n => ?_) (law_true CR CP CB x_ne)
  have OK__law_cell_at := ok__law_cell_at (n := n) (P := l.prog) (w := w) (base := base) Z  D__law_cell_at
  have OK__law_gaps := ok__law_gaps (n := n) (P := l.prog) (w := w) (base := base) Z ⟨D__law_cell_at, OK__law_cell_at⟩ D__law_gaps
  have OK_Rules_many_kinds := ok_Rules_many_kinds (n := n) (P := l.prog) (w := w) (base := base) Z  D_Rules_many_kinds
  have OK_copied_rows := ok_copied_rows (n := n) (P := l.prog) (w := w) (base := base) Z  D_copied_rows
  have OK_is_gap := ok_is_gap (n := n) (P := l.prog) (w := w) (base := base) Z  D_is_gap
  have OK_is_gap_row := ok_is_gap_row (n := n) (P := l.prog) (w := w) (base := base) Z ⟨D_is_gap, OK_is_gap⟩ D_is_gap_row
  have OK_checked_rows := ok_checked_rows (n := n) (P := l.prog) (w := w) (base := base) Z ⟨D_copied_rows, OK_copied_rows⟩ ⟨D_is_gap_row, OK_is_gap_row⟩ D_checked_rows
  have OKN_R := okn_R (n := n) (P := l.prog) (w := w) (base := base) (CR := CR) (CP := CP) (CB := CB) (C := CR) D_checked_rows OK_checked_rows N_R.fn K_CR.cl n_CR_gaps
  have OKN_RP := okn_R (n := n) (P := l.prog) (w := w) (base := base) (CR := CR) (CP := CP) (CB := CB) (C := CP) D_checked_rows OK_checked_rows N_R.fn K_CP.cl n_CP_gaps
  have OKN_P := okn_P (n := n) (P := l.prog) (w := w) (base := base) (CR := CR) (CP := CP) (CB := CB) D_checked_rows OK_checked_rows ⟨x_s1, x_s2, x_s3, k_nR⟩ N_R.bd OKN_RP K_CR.mg (PySem.W.mg_none_of KX G z_len) N_P.fn K_CP.cl n_CP_gaps n_CP_beside Z.tCB
  have OK__law_refused := ok__law_refused (n := n) (P := l.prog) (w := w) (base := base) Z N_R OKN_R N_P OKN_P D__law_refused
  have OK_Rules_gap_rows := ok_Rules_gap_rows (n := n) (P := l.prog) (w := w) (base := base) Z ⟨D_copied_rows, OK_copied_rows⟩ D_Rules_gap_rows
  have OK__law_taken := ok__law_taken (n := n) (P := l.prog) (w := w) (base := base) Z ⟨D__law_refused, OK__law_refused⟩ M_R_many_kinds OK_Rules_many_kinds M_P_many_kinds M_R_gap_rows OK_Rules_gap_rows M_P_gap_rows N_R OKN_R N_P OKN_P D__law_taken
  have OK__law_odd := ok__law_odd (n := n) (P := l.prog) (w := w) (base := base) Z  D__law_odd
  have OK__law_spoilt := ok__law_spoilt (n := n) (P := l.prog) (w := w) (base := base) Z ⟨D__law_odd, OK__law_odd⟩ D__law_spoilt
  have OK__law_good := ok__law_good (n := n) (P := l.prog) (w := w) (base := base) Z  D__law_good
  have OK_law := ok_law (n := n) (P := l.prog) (w := w) (base := base) Z ⟨D__law_gaps, OK__law_gaps⟩ ⟨D__law_taken, OK__law_taken⟩ ⟨D__law_spoilt, OK__law_spoilt⟩ ⟨D__law_good, OK__law_good⟩ ⟨D__law_cell_at, OK__law_cell_at⟩ ⟨D__law_refused, OK__law_refused⟩ D_law
  exact OK_law
theorem walk {l : PySem.W.OpenLaw} {q : Program} {loose : List Str} {XP : (Str → Option Value) → Heap → Prop} {YP : World → Heap → Prop} {d : DefRec} {K : Params → PySem.W.Frag} (hn : l.most = some 63) (hdf : d.params.defaults = [])
    (hY : ∀ (w : World) (h : Heap), YP w h → (K w.params).In h)
    (F : ∀ (w : World) (mg : Str → Option Value) (fa : Addr) (h : Heap), (K w.params).In h → h.Ns mainGlobals mg → mg d.name = some (.ref fa) →
      ∃ fd : FuncData, (∀ (s : Shared) (u : Value), BindsTo s fd ⟨[u], []⟩ [("_law_script", u)]) ∧ ∀ base : Heap, (K w.params).In base → base.Ns mainGlobals mg → FnOk l.prog w (K w.params) mg base CX0 9 fa fd ["_law_script"] (spLaw (K w.params))) :
    PySem.W.WalkO q loose XP YP l.row.toRowW d [] (fun f vs => PySem.call f vs) :=
  L2.walk_of (n := 63) (k := 9) (x := "_law_script") (CX := fun _ => CX0) (sp := fun w => spLaw (K w.params)) hn (by decide) hdf ⟨rfl, by decide, by decide⟩ hY F (fun _ _ a ns hl _ hS => ⟨a, ns, rfl, hS, hl, fun _ => rfl⟩) fun _ _ _ _ _ z => z
end Ru
open PySem PySem.W PyProof.Rows
noncomputable def _root_.PySem.W.Fast.tw13912449980934623380 : Nat := 0
noncomputable def _root_.PySem.W.Fast.tw16995536361123561687 : Nat := 0
noncomputable def _root_.PySem.W.Fast.tw4243209889435795772 : Nat := 0
noncomputable def _root_.PySem.W.Fast.tw4451164774582219914 : Nat := 0
noncomputable def _root_.PySem.W.Fast.tw9332148613201795133 : Nat := 0
noncomputable def _root_.PySem.W.Fast.tw6735338563253833561 : Nat := 0
noncomputable def _root_.PySem.W.Fast.tw4568729273663995749 : Nat := 0
noncomputable def _root_.PySem.W.Fast.tw1243684179292929011 : Nat := 0
noncomputable def _root_.PySem.W.Fast.tw9274457634640288218 : Nat := 0
noncomputable def _root_.PySem.W.Fast.tw14934639937938725440 : Nat := 0
noncomputable def _root_.PySem.W.Fast.tw17056360275051413877 : Nat := 0
noncomputable def _root_.PySem.W.Fast.tw7171025493523857347 : Nat := 0
noncomputable def _root_.PySem.W.Fast.tw9056186147732479371 : Nat := 0
noncomputable def _root_.PySem.W.Fast.tw15381197311729861537 : Nat := 0
noncomputable def _root_.PySem.W.Fast.tw11580679177650961378 : Nat := 0
noncomputable def _root_.PySem.W.Fast.tw58934861572969380 : Nat := 0
noncomputable def _root_.PySem.W.Fast.tw2060546755221340173 : Nat := 0
noncomputable def _root_.PySem.W.Fast.tw106686451080873686 : Nat := 0
noncomputable def _root_.PySem.W.Fast.tw13984332312826982167 : Nat := 0
noncomputable def _root_.PySem.W.Fast.tw7952670017909870658 : Nat := 0
noncomputable def _root_.PySem.W.Fast.tw547592434498056285 : Nat := 0
noncomputable def _root_.PySem.W.Fast.tw804396677824685803 : Nat := 0
noncomputable def _root_.PySem.W.Fast.tw253031621207004332 : Nat := 0
noncomputable def _root_.PySem.W.Fast.tw17132214443010637495 : Nat := 0
noncomputable def _root_.PySem.W.Fast.tw6864304203499526552 : Nat := 0
noncomputable def _root_.PySem.W.Fast.tw17216681371920261681 : Nat := 0
noncomputable def _root_.PySem.W.Fast.tw18238209077612274330 : Nat := 0
noncomputable def _root_.PySem.W.Fast.tw13667495443844673617 : Nat := 0
noncomputable def _root_.PySem.W.Fast.tw6740654108020338437 : Nat := 0
noncomputable def _root_.PySem.W.Fast.tw13242593180285395400 : Nat := 0
noncomputable def _root_.PySem.W.Fast.tw11322829740143591950 : Nat := 0
noncomputable def _root_.PySem.W.Fast.tw7460583011728345135 : Nat := 0
noncomputable def _root_.PySem.W.Fast.tw18124833648396689051 : Nat := 0
noncomputable def _root_.PySem.W.Fast.tw7953711614891422266 : Nat := 0
noncomputable def _root_.PySem.W.Fast.tw2586267274942070713 : Nat := 0
noncomputable def _root_.PySem.W.Fast.tw12999434855068275813 : Nat := 0
noncomputable def _root_.PySem.W.Fast.tw9149129991694358720 : Nat := 0
noncomputable def _root_.PySem.W.Fast.tw17937428848331446184 : Nat := 0
noncomputable def _root_.PySem.W.Fast.tw2140256952388475288 : Nat := 0
noncomputable def _root_.PySem.W.Fast.tw6445832863548494610 : Nat := 0
noncomputable def _root_.PySem.W.Fast.tw76883725824739168 : Nat := 0
noncomputable def _root_.PySem.W.Fast.tw1867489383926949664 : Nat := 0
noncomputable def _root_.PySem.W.Fast.tw14820190105431060224 : Nat := 0
noncomputable def _root_.PySem.W.Fast.tw9777233383370321169 : Nat := 0
noncomputable def _root_.PySem.W.Fast.tw19727918896451406 : Nat := 0
noncomputable def _root_.PySem.W.Fast.tw5456755944565901062 : Nat := 0
noncomputable def _root_.PySem.W.Fast.tw3661290331089721330 : Nat := 0
noncomputable def _root_.PySem.W.Fast.tw16334238663205748152 : Nat := 0
noncomputable def _root_.PySem.W.Fast.tw7791220361209948725 : Nat := 0
noncomputable def _root_.PySem.W.Fast.tw1476529623539303718 : Nat := 0
set_option maxRecDepth 100000 in
set_option maxHeartbeats 0 in
theorem PySem.Challenge.cw_wakeorder_k03_no_gaps_holds : PySem.Challenge.rw_wakeorder_k03_no_gaps.Holds := by
  w_on; o_law; k_head; (case hw => w_witness2)
  k_fill
  refine Ru.walk (l := PySem.Challenge.rw_wakeorder_k03_no_gaps) rfl rfl (fun w h Y => PySem.W.kIn_of Y) ?F
  case F =>
    intro w mg fa h KX G hmg
    refine' Ru.all_mk KX G hmg ?c_CR_a ?c_CR_pg ?c_CR_hd ?c_CR_po ?c_CR_sa ?c_CR_mk ?c_CR_kp ?c_CR_c1 ?c_CR_c4 ?n_CR_gaps ?n_CR_beside ?c_CP_a ?c_CP_pg ?c_CP_hd ?c_CP_po ?c_CP_sa ?c_CP_mk ?c_CP_kp ?c_CP_c1 ?c_CP_c4 ?n_CP_gaps ?n_CP_beside ?o2 ?o3 ?x_ne ?h__law_cell_at ?h__law_gaps ?a_Rules_many_kinds ?i_Rules_many_kinds ?l_Rules_many_kinds ?d_Rules_many_kinds ?k_Rules_many_kinds ?h_copied_rows ?h_is_gap ?h_is_gap_row ?h_checked_rows ?h__law_refused ?a_Rules_gap_rows ?i_Rules_gap_rows ?l_Rules_gap_rows ?d_Rules_gap_rows ?k_Rules_gap_rows ?h__law_taken ?h__law_odd ?h__law_spoilt ?h__law_good ?a_law ?l_law ?d_law ?k_law ?a2_P_gap_rows ?a2_P_many_kinds ?a_nR ?i_nR ?l_nR ?d_nR ?k_nR ?a_nP ?i_nP ?l_nP ?d_nP ?k_nP ?x_s1 ?x_s2 ?x_s3 ?x_CB_a ?x_AStripError ?x_ANoPlace ?x_ANoPlan ?x_ANoRow ?x_ANoSheet ?x_ANoTime ?x_ANotFree ?x_ATooMany ?x_kO_CB_StripError ?x_kB_CB_ValueError ?x_kT_CB ?x_CB_ga ?x_CB_cl ?x_CB_gt ?x_CB_bs ?x_CB_ob ?x_CB_is ?x_CB_e ?z_ValueError ?z_all ?z_bool ?z_int ?z_isinstance ?z_len ?z_list ?z_range ?g_GREATEST_GAP ?g_MOST_KINDS ?q_int_int ?q_bool_int ?q_list_int ?q_tuple_int ?q_str_int ?q_NoneType_int ?q_int_bool ?q_bool_bool ?q_list_bool ?q_tuple_bool ?q_str_bool ?q_NoneType_bool ?q_int_list ?q_bool_list ?q_list_list ?q_tuple_list ?q_str_list ?q_NoneType_list ?q_int_tuple ?q_bool_tuple ?q_list_tuple ?q_tuple_tuple ?q_str_tuple ?q_NoneType_tuple ?q_int_str ?q_bool_str ?q_list_str ?q_tuple_str ?q_str_str ?q_NoneType_str ?q_dict_int ?q_dict_bool
    (case c_CR_a => k_is)
    (case c_CR_pg => k_is)
    (case c_CR_hd => k_is)
    (case c_CR_po => k_is)
    (case c_CR_sa => k_is)
    (case c_CR_mk => k_is)
    (case c_CR_kp => k_is)
    (case c_CR_c1 => k_is)
    (case c_CR_c4 => k_is)
    (case n_CR_gaps => k_is)
    (case n_CR_beside => k_is)
    (case c_CP_a => k_is)
    (case c_CP_pg => k_is)
    (case c_CP_hd => k_is)
    (case c_CP_po => k_is)
    (case c_CP_sa => k_is)
    (case c_CP_mk => k_is)
    (case c_CP_kp => k_is)
    (case c_CP_c1 => k_is)
    (case c_CP_c4 => k_is)
    (case n_CP_gaps => k_is)
    (case n_CP_beside => k_is)
    (case o2 => k_is)
    (case o3 => k_is)
    (case x_ne => first | k_is | kernel_rfl | rfl | decide +kernel)
    (case h__law_cell_at => exact ⟨_, _, L2.def_of KX G (by k_is) (by k_is) (by k_is) (by k_is) fun _ _ _ _ _ _ us hl => match us, hl with | [_, _], _ => rfl⟩)
    (case h__law_gaps => exact ⟨_, _, L2.def_of KX G (by k_is) (by k_is) (by k_is) (by k_is) fun _ _ _ _ _ _ us hl => match us, hl with | [_], _ => rfl⟩)
    (case a_Rules_many_kinds => k_is)
    (case i_Rules_many_kinds => k_is)
    (case l_Rules_many_kinds => k_is)
    (case d_Rules_many_kinds => k_is)
    (case k_Rules_many_kinds => k_is)
    (case h_copied_rows => exact ⟨_, _, L2.def_of KX G (by k_is) (by k_is) (by k_is) (by k_is) fun _ _ _ _ _ _ us hl => match us, hl with | [_], _ => rfl⟩)
    (case h_is_gap => exact ⟨_, _, L2.def_of KX G (by k_is) (by k_is) (by k_is) (by k_is) fun _ _ _ _ _ _ us hl => match us, hl with | [_], _ => rfl⟩)
    (case h_is_gap_row => exact ⟨_, _, L2.def_of KX G (by k_is) (by k_is) (by k_is) (by k_is) fun _ _ _ _ _ _ us hl => match us, hl with | [_, _], _ => rfl⟩)
    (case h_checked_rows => exact ⟨_, _, L2.def_of KX G (by k_is) (by k_is) (by k_is) (by k_is) fun _ _ _ _ _ _ us hl => match us, hl with | [_], _ => rfl⟩)
    (case h__law_refused => exact ⟨_, _, L2.def_of KX G (by k_is) (by k_is) (by k_is) (by k_is) fun _ _ _ _ _ _ us hl => match us, hl with | [_, _, _], _ => rfl⟩)
    (case a_Rules_gap_rows => k_is)
    (case i_Rules_gap_rows => k_is)
    (case l_Rules_gap_rows => k_is)
    (case d_Rules_gap_rows => k_is)
    (case k_Rules_gap_rows => k_is)
    (case h__law_taken => exact ⟨_, _, L2.def_of KX G (by k_is) (by k_is) (by k_is) (by k_is) fun _ _ _ _ _ _ us hl => match us, hl with | [_, _], _ => rfl⟩)
    (case h__law_odd => exact ⟨_, _, L2.def_of KX G (by k_is) (by k_is) (by k_is) (by k_is) fun _ _ _ _ _ _ us hl => match us, hl with | [_], _ => rfl⟩)
    (case h__law_spoilt => exact ⟨_, _, L2.def_of KX G (by k_is) (by k_is) (by k_is) (by k_is) fun _ _ _ _ _ _ us hl => match us, hl with | [_, _], _ => rfl⟩)
    (case h__law_good => exact ⟨_, _, L2.def_of KX G (by k_is) (by k_is) (by k_is) (by k_is) fun _ _ _ _ _ _ us hl => match us, hl with | [_], _ => rfl⟩)
    (case a_law => k_is)
    (case l_law => k_is)
    (case d_law => k_is)
    (case k_law => k_is)
    (case a2_P_gap_rows => k_is)
    (case a2_P_many_kinds => k_is)
    (case a_nR => k_is)
    (case i_nR => k_is)
    (case l_nR => k_is)
    (case d_nR => k_is)
    (case k_nR => k_is)
    (case a_nP => k_is)
    (case i_nP => k_is)
    (case l_nP => k_is)
    (case d_nP => k_is)
    (case k_nP => k_is)
    (case x_s1 => first | k_is | kernel_rfl | rfl | decide +kernel)
    (case x_s2 => first | k_is | kernel_rfl | rfl | decide +kernel)
    (case x_s3 => first | k_is | kernel_rfl | rfl | decide +kernel)
    (case x_CB_a => first | k_is | kernel_rfl | rfl | decide +kernel)
    (case x_AStripError => first | k_is | kernel_rfl | rfl | decide +kernel)
    (case x_ANoPlace => first | k_is | kernel_rfl | rfl | decide +kernel)
    (case x_ANoPlan => first | k_is | kernel_rfl | rfl | decide +kernel)
    (case x_ANoRow => first | k_is | kernel_rfl | rfl | decide +kernel)
    (case x_ANoSheet => first | k_is | kernel_rfl | rfl | decide +kernel)
    (case x_ANoTime => first | k_is | kernel_rfl | rfl | decide +kernel)
    (case x_ANotFree => first | k_is | kernel_rfl | rfl | decide +kernel)
    (case x_ATooMany => first | k_is | kernel_rfl | rfl | decide +kernel)
    (case x_kO_CB_StripError => first | k_is | kernel_rfl | rfl | decide +kernel)
    (case x_kB_CB_ValueError => first | k_is | kernel_rfl | rfl | decide +kernel)
    (case x_kT_CB => first | k_is | kernel_rfl | rfl | decide +kernel)
    (case x_CB_ga => first | k_is | kernel_rfl | rfl | decide +kernel)
    (case x_CB_cl => first | k_is | kernel_rfl | rfl | decide +kernel)
    (case x_CB_gt => first | k_is | kernel_rfl | rfl | decide +kernel)
    (case x_CB_bs => first | k_is | kernel_rfl | rfl | decide +kernel)
    (case x_CB_ob => first | k_is | kernel_rfl | rfl | decide +kernel)
    (case x_CB_is => first | k_is | kernel_rfl | rfl | decide +kernel)
    (case x_CB_e => first | k_is | kernel_rfl | rfl | decide +kernel)
    (case z_ValueError => k_is)
    (case z_all => k_is)
    (case z_bool => k_is)
    (case z_int => k_is)
    (case z_isinstance => k_is)
    (case z_len => k_is)
    (case z_list => k_is)
    (case z_range => k_is)
    (case g_GREATEST_GAP => k_is)
    (case g_MOST_KINDS => k_is)
    (case q_int_int => first | k_is | kernel_rfl | rfl | decide +kernel)
    (case q_bool_int => first | k_is | kernel_rfl | rfl | decide +kernel)
    (case q_list_int => first | k_is | kernel_rfl | rfl | decide +kernel)
    (case q_tuple_int => first | k_is | kernel_rfl | rfl | decide +kernel)
    (case q_str_int => first | k_is | kernel_rfl | rfl | decide +kernel)
    (case q_NoneType_int => first | k_is | kernel_rfl | rfl | decide +kernel)
    (case q_int_bool => first | k_is | kernel_rfl | rfl | decide +kernel)
    (case q_bool_bool => first | k_is | kernel_rfl | rfl | decide +kernel)
    (case q_list_bool => first | k_is | kernel_rfl | rfl | decide +kernel)
    (case q_tuple_bool => first | k_is | kernel_rfl | rfl | decide +kernel)
    (case q_str_bool => first | k_is | kernel_rfl | rfl | decide +kernel)
    (case q_NoneType_bool => first | k_is | kernel_rfl | rfl | decide +kernel)
    (case q_int_list => first | k_is | kernel_rfl | rfl | decide +kernel)
    (case q_bool_list => first | k_is | kernel_rfl | rfl | decide +kernel)
    (case q_list_list => first | k_is | kernel_rfl | rfl | decide +kernel)
    (case q_tuple_list => first | k_is | kernel_rfl | rfl | decide +kernel)
    (case q_str_list => first | k_is | kernel_rfl | rfl | decide +kernel)
    (case q_NoneType_list => first | k_is | kernel_rfl | rfl | decide +kernel)
    (case q_int_tuple => first | k_is | kernel_rfl | rfl | decide +kernel)
    (case q_bool_tuple => first | k_is | kernel_rfl | rfl | decide +kernel)
    (case q_list_tuple => first | k_is | kernel_rfl | rfl | decide +kernel)
    (case q_tuple_tuple => first | k_is | kernel_rfl | rfl | decide +kernel)
    (case q_str_tuple => first | k_is | kernel_rfl | rfl | decide +kernel)
    (case q_NoneType_tuple => first | k_is | kernel_rfl | rfl | decide +kernel)
    (case q_int_str => first | k_is | kernel_rfl | rfl | decide +kernel)
    (case q_bool_str => first | k_is | kernel_rfl | rfl | decide +kernel)
    (case q_list_str => first | k_is | kernel_rfl | rfl | decide +kernel)
    (case q_tuple_str => first | k_is | kernel_rfl | rfl | decide +kernel)
    (case q_str_str => first | k_is | kernel_rfl | rfl | decide +kernel)
    (case q_NoneType_str => first | k_is | kernel_rfl | rfl | decide +kernel)
    (case q_dict_int => first | k_is | kernel_rfl | rfl | decide +kernel)
    (case q_dict_bool => first | k_is | kernel_rfl | rfl | decide +kernel)
