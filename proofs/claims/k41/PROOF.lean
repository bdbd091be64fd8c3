import PyProof.Rows.All
import PyProof.Rows.RuleC_int
import PyProof.FactsAll.tuple_1
import KE.KEqDict
import PyProof.Rows.TupTab
import PyProof.AttrMissSeq
import KE.KDictOf
import KE.KPairComp
import PyProof.DictWalks
import PyProof.DictValues
import PyProof.DictItems
import PyProof.Rows.SetFrom
import KE.KRevIter
import PyProof.InstStoreFacts
import PyProof.ExcInit
import PyProof.IsiBase
import PyProof.ExcAttrAll.ValueError
import OpenK.KDescr
import KE.KIsAll
import PyProof.Rows.CatchOwn
import PyProof.RulesTry
import PyProof.RulesAs
import PyProof.RulesDel
import OpenK.KOwn
import PyProof.ExcBaseAll.ValueError
import PyProof.StationsW
import Wide.All
import OpenK.AllK
import Wide.FinOn
import Lean
import PyProof.EqAt
import PyProof.EqKinds
import PyProof.NeKinds
import PyProof.TupleCall
import PySem.Challenge.RW_wakeorder_k41_beginnings
set_option Elab.async false
set_option linter.all false
set_option maxRecDepth 100000
namespace L2
open PySem PySem.Spec PyProof.Rows
noncomputable abbrev Key := Sum Int Str
noncomputable def keyIs : Key → Value → Bool
  | .inl k, v => Value.isInt k v
  | .inr x, v => Value.isStrOf x v
noncomputable def keyH (w : World) : Key → Int
  | .inl k => hashInt k
  | .inr x => hashStr w x
theorem keyIs_shape : ∀ {k : Key} {v : Value}, keyIs k v = true → (∃ i t, k = Sum.inl i ∧ v = Value.int i t) ∨ (∃ x t, k = Sum.inr x ∧ v = Value.str x t)
  | .inl i, v, h => by
    obtain ⟨t, e⟩ := Value.isInt_shape (k := i) (v := v) h
    exact .inl ⟨i, t, rfl, e⟩
  | .inr x, v, h => by
    obtain ⟨t, e⟩ := Value.isStrOf_shape (x := x) (v := v) h
    exact .inr ⟨x, t, rfl, e⟩
theorem key_ll (a b : Int) : decide ((Sum.inl a : Key) = Sum.inl b) = (a == b) := by
  by_cases e : a = b
  · subst e; simp
  · have h : ¬ (Sum.inl a : Key) = Sum.inl b := fun q => e (Sum.inl.inj q)
    rw [decide_eq_false h]
    exact (beq_eq_false_iff_ne.mpr e).symm
theorem key_rr (a b : Str) : decide ((Sum.inr a : Key) = Sum.inr b) = decide (a = b) := by
  by_cases e : a = b
  · subst e; simp
  · have h : ¬ (Sum.inr a : Key) = Sum.inr b := fun q => e (Sum.inr.inj q)
    rw [decide_eq_false h, decide_eq_false e]
theorem key_lr (a : Int) (b : Str) : decide ((Sum.inl a : Key) = Sum.inr b) = false := decide_eq_false (fun q => nomatch q)
theorem key_rl (a : Str) (b : Int) : decide ((Sum.inr a : Key) = Sum.inl b) = false := decide_eq_false (fun q => nomatch q)
noncomputable def mixKind (prog : Program) (w : World) : PySem.KeyKind prog w Key where
  is := keyIs
  hash := keyH w
  inj := fun v a b ha hb => by
    rcases keyIs_shape ha with ⟨i, t, rfl, rfl⟩ | ⟨x, t, rfl, rfl⟩
    · rcases keyIs_shape hb with ⟨j, u, rfl, e⟩ | ⟨y, u, rfl, e⟩
      · injection e with e1 _; rw [e1]
      · exact nomatch e
    · rcases keyIs_shape hb with ⟨j, u, rfl, e⟩ | ⟨y, u, rfl, e⟩
      · exact nomatch e
      · injection e with e1 _; rw [e1]
  byValue := fun k v h => by
    rcases keyIs_shape h with ⟨i, t, rfl, rfl⟩ | ⟨x, t, rfl, rfl⟩ <;> rfl
  pyHash := fun hv h => by
    rcases keyIs_shape hv with ⟨i, t, rfl, rfl⟩ | ⟨x, t, rfl, rfl⟩
    · exact wpAny_pyHash_int h
    · exact wpAny_pyHash_str h
  eqBool := fun hu hv h => by
    rcases keyIs_shape hu with ⟨i, t, rfl, rfl⟩ | ⟨x, t, rfl, rfl⟩
    · rcases keyIs_shape hv with ⟨j, u, rfl, rfl⟩ | ⟨y, u, rfl, rfl⟩
      · rw [key_ll] at h; exact wpAny_eqBool_int h
      · rw [key_lr] at h; exact SeqAt.EqAt.int_str i t y u _ _ _ _ h
    · rcases keyIs_shape hv with ⟨j, u, rfl, rfl⟩ | ⟨y, u, rfl, rfl⟩
      · rw [key_rl] at h; exact SeqAt.EqAt.str_int x t j u _ _ _ _ h
      · rw [key_rr] at h; exact wpAny_eqBool_str h
  «strs» := fun k x t v h => by
    rcases keyIs_shape h with ⟨i, u, rfl, e⟩ | ⟨y, u, rfl, e⟩
    · exact nomatch e
    · injection e with e1 _
      subst e1
      cases v <;> rfl
end L2
namespace L2
open PySem PySem.Spec PyProof.Rows
inductive V where
  | non | bl (b : Bool) | int (i : Int) | str (x : Str) | byt (b : Array UInt8) | flt (b : UInt64) | ref (a : Addr) | ty (n : String)
  deriving DecidableEq
noncomputable def RelV : V → Value → Prop
  | .non, u => u = Value.none
  | .bl b, u => u = Value.bool b
  | .int i, u => ∃ t, u = Value.int i t
  | .str x, u => ∃ t, u = Value.str x t
  | .byt b, u => ∃ t, u = Value.bytes b t
  | .flt b, u => ∃ t, u = Value.float b t
  | .ref a, u => u = Value.ref a
  | .ty n, u => u = Value.type n
noncomputable abbrev Vals : List V → List Value → Prop := Paired RelV
theorem Vals.length {xs : List V} {us : List Value} (r : Vals xs us) : xs.length = us.length := Paired.length r
theorem Vals.get : ∀ {xs : List V} {us : List Value} {i : Nat} {x : V}, Vals xs us → xs[i]? = some x → ∃ u, us[i]? = some u ∧ RelV x u
  | _, _, _, _, .nil, e => by simp at e
  | _, _, 0, _, .cons r _, e => by simp at e; subst e; exact ⟨_, rfl, r⟩
  | _, _, i + 1, x, .cons _ t, e => by
    obtain ⟨u, h1, h2⟩ := Vals.get (i := i) (x := x) t (by simpa using e)
    exact ⟨u, by simpa using h1, h2⟩
theorem Vals.append : ∀ {xs ys : List V} {us ws : List Value}, Vals xs us → Vals ys ws → Vals (xs ++ ys) (us ++ ws)
  | _, _, _, _, .nil, s => s
  | _, _, _, _, .cons r t, s => .cons r (Vals.append t s)
theorem Vals.take : ∀ {xs : List V} {us : List Value} (n : Nat), Vals xs us → Vals (xs.take n) (us.take n)
  | _, _, 0, _ => .nil
  | _, _, _ + 1, .nil => .nil
  | _, _, n + 1, .cons r t => .cons r (Vals.take n t)
theorem Vals.drop : ∀ {xs : List V} {us : List Value} (n : Nat), Vals xs us → Vals (xs.drop n) (us.drop n)
  | _, _, 0, r => r
  | _, _, _ + 1, .nil => .nil
  | _, _, n + 1, .cons _ t => Vals.drop n t
noncomputable def RelO : Option V → Option Value → Prop
  | some v, some u => RelV v u
  | none, none => True
  | _, _ => False
noncomputable def KV {κ : Type} : List (κ × V) → List (κ × Value) → Prop := Paired fun (p : κ × V) (q : κ × Value) => p.1 = q.1 ∧ RelV p.2 q.2
noncomputable def kV : Key → V
  | .inl i => .int i
  | .inr x => .str x
inductive HO where
    | lst (xs : List V)
    | tup (xs : List V)
    | dK (kvs : List (Key × V)) | dT (kvs : List (List Key × V))
    | set (S : Int → Bool) (n : Nat)
    | ins (C dx : Addr) (fs : List (Str × V))
    | own (x : Addr)
    | xd (fs : List (Str × V))
    | met (f x : Addr)
    | rng (lo hi : Int)
    | frz (o : Obj) (u : HO)
    | tbl (ps : Array Value)
    | ext (φ : Heap → Prop)
noncomputable abbrev Hp := Addr → Option HO
noncomputable def upd (H : Hp) (a : Addr) (o : HO) : Hp := fun b => if b = a then some o else H b
theorem upd_same {H : Hp} {a : Addr} {o : HO} : upd H a o a = some o := by unfold upd; rw [if_pos rfl]
theorem upd_ne {H : Hp} {a b : Addr} {o : HO} (h : b ≠ a) : upd H a o b = H b := by unfold upd; rw [if_neg h]
theorem ne_of_none {H : Hp} {a b : Addr} {o : HO} (h : H a = some o) (h' : H b = none) : a ≠ b := by
  intro e; subst e; rw [h] at h'; cases h'
section
variable (P : Program) (w : World)
noncomputable def ObjOk (H : Hp) (h : Heap) (a : Addr) : HO → Prop
  | .lst xs => xs.length ≤ sizeLine ∧ ∃ (its : List Value) (n : Nat), Vals xs its ∧ h.get? a = some { cls := .type "list", data := .seq its.toArray n }
  | .tup xs => xs.length ≤ sizeLine ∧ ∃ its : List Value, Vals xs its ∧ IsTup h a its.toArray
  | .dK kvs => kvs.length ≤ sizeLine ∧ (a == sysModules) = false ∧ ∃ vs, KV kvs vs ∧ h.DictOf (mixKind P w) a vs
  | .dT kvs => kvs.length ≤ sizeLine ∧ (a == sysModules) = false ∧ ∃ xs : List (List Key × Addr × Value),
      Paired (fun (p : List Key × V) (q : List Key × Addr × Value) => p.1 = q.1 ∧ H q.2.1 = some (.tup (p.1.map kV)) ∧ RelV p.2 q.2.2) kvs xs ∧
      ∃ o es ep, h.get? a = some o ∧ o.ExactDict ∧ o.data = .dict es ep ∧ es.toList = xs.map (entryOfKey (tupleKind (mixKind P w))) ∧ (xs.map (·.1)).Nodup
  | .set S n => h.SetOf (intKind P w) a S n
  | .ins C dx fs => H dx = some (.own a) ∧ fs.length ≤ 1000 ∧ dx ≠ a ∧ h.get? a = some (PySem.W.instObj C dx) ∧
      ∃ mA, h.Ns1 dx mA ∧ (∀ f, RelO (fs.lookup f) (mA f)) ∧ PySem.Within mA (fs.map (·.1))
  | .own _ => ∃ o, h.get? a = some o
  | .xd fs => ∃ mA, h.Ns1 a mA ∧ ∀ f, RelO (fs.lookup f) (mA f)
  | .rng lo hi => ∃ t u v, h.get? a = some { cls := .type "range", data := .fields #[.int lo t, .int hi u, .int 1 v] }
  | .frz o u => h.get? a = some o ∧ ObjOk H h a u
  | .tbl ps => h.get? a = some { cls := .none, data := .fields ps }
  | .met f x => h.get? a = some (PySem.W.methodObj (.ref f) (.ref x))
  | .ext φ => φ h ∧ (∃ o, h.get? a = some o) ∧ ∀ h1 h2 : Heap, φ h1 → (∀ o, h1.get? a = some o → h2.get? a = some o) → φ h2
noncomputable def HOk (H : Hp) (h : Heap) : Prop := ∀ a o, H a = some o → ObjOk P w H h a o
end
section
variable {P : Program} {w : World} {H H' : Hp} {h h' : Heap} {a : Addr} {o : HO}
theorem ObjOk.lt (x : ObjOk P w H h a o) : a < h.objs.size := by
  cases o with
  | lst xs => obtain ⟨_, _, _, _, e⟩ := x; exact Heap.lt_size e
  | tup xs => obtain ⟨_, _, _, p⟩ := x; exact p.lt
  | dK kvs => obtain ⟨_, _, _, _, o, _, _, e, _⟩ := x; exact Heap.lt_size e
  | dT kvs => obtain ⟨_, _, _, _, o, _, _, e, _⟩ := x; exact Heap.lt_size e
  | set S n => obtain ⟨o, _, _, _, e, _⟩ := x; exact Heap.lt_size e
  | ins C dx fs => obtain ⟨_, _, _, e, _⟩ := x; exact Heap.lt_size e
  | own y => obtain ⟨_, e⟩ := x; exact Heap.lt_size e
  | xd fs => obtain ⟨_, ⟨_, _, _, e, _⟩, _⟩ := x; exact Heap.lt_size e
  | rng lo hi => obtain ⟨_, _, _, e⟩ := x; exact Heap.lt_size e
  | frz ob u => obtain ⟨e, _⟩ := x; exact Heap.lt_size e
  | tbl ps => exact Heap.lt_size (show h.get? a = some _ from x)
  | met f y => exact Heap.lt_size (show h.get? a = some _ from x)
  | ext φ => obtain ⟨_, ⟨_, e⟩, _⟩ := x; exact Heap.lt_size e
theorem Paired.mapP {α β : Type} {F G : α → β → Prop} : ∀ {l₁ : List α} {l₂ : List β}, Paired F l₁ l₂ → (∀ a b, F a b → G a b) → Paired G l₁ l₂
  | _, _, .nil, _ => .nil
  | _, _, .cons r t, f => .cons (f _ _ r) (Paired.mapP t f)
theorem ObjOk.stay (x : ObjOk P w H h a o) (k : ∀ b u, (b = a ∨ H b = some (.own a)) → h.get? b = some u → h'.get? b = some u)
    (ho : ∀ b, H b = some (.own a) → H' b = some (.own a)) (ht : ∀ b xs, H b = some (.tup xs) → H' b = some (.tup xs)) : ObjOk P w H' h' a o := by
  induction o with
  | lst xs => obtain ⟨z, its, n, r, e⟩ := x; exact ⟨z, its, n, r, k _ _ (.inl rfl) e⟩
  | tup xs => obtain ⟨z, its, r, ob, e, c⟩ := x; exact ⟨z, its, r, ob, k _ _ (.inl rfl) e, c⟩
  | dK kvs => obtain ⟨z, y, vs, r, ob, es, ep, e, c⟩ := x; exact ⟨z, y, vs, r, ob, es, ep, k _ _ (.inl rfl) e, c⟩
  | dT kvs =>
    obtain ⟨z, y, xs, r, ob, es, ep, e, c⟩ := x
    exact ⟨z, y, xs, Paired.mapP r fun p q z => ⟨z.1, ht _ _ z.2.1, z.2.2⟩, ob, es, ep, k _ _ (.inl rfl) e, c⟩
  | set S n => obtain ⟨ob, es, ep, t, e, c⟩ := x; exact ⟨ob, es, ep, t, k _ _ (.inl rfl) e, c⟩
  | ins C dx fs =>
    obtain ⟨d, z, ne, e, mA, ⟨od, es, ep, e2, c⟩, r⟩ := x
    exact ⟨ho _ d, z, ne, k _ _ (.inl rfl) e, mA, ⟨od, es, ep, k _ _ (.inr d) e2, c⟩, r⟩
  | own y => obtain ⟨ob, e⟩ := x; exact ⟨ob, k _ _ (.inl rfl) e⟩
  | xd fs => obtain ⟨mA, ⟨od, es, ep, e, c⟩, r⟩ := x; exact ⟨mA, ⟨od, es, ep, k _ _ (.inl rfl) e, c⟩, r⟩
  | rng lo hi => obtain ⟨t, u, v, e⟩ := x; exact ⟨t, u, v, k _ _ (.inl rfl) e⟩
  | frz ob u ih => obtain ⟨e, q⟩ := x; exact ⟨k _ _ (.inl rfl) e, ih q⟩
  | tbl ps =>
    have e : h.get? a = some { cls := .none, data := .fields ps } := x
    show h'.get? a = some { cls := .none, data := .fields ps }
    exact k a _ (.inl rfl) e
  | met f y =>
    have e : h.get? a = some (PySem.W.methodObj (.ref f) (.ref y)) := x
    show h'.get? a = some (PySem.W.methodObj (.ref f) (.ref y))
    exact k a _ (.inl rfl) e
  | ext φ => obtain ⟨p, ⟨o, e⟩, st⟩ := x; exact ⟨st _ _ p fun o q => k _ _ (.inl rfl) q, ⟨o, k _ _ (.inl rfl) e⟩, st⟩
theorem HOk.lt (x : HOk P w H h) (e : H a = some o) : a < h.objs.size := (x a o e).lt
theorem HOk.fresh (x : HOk P w H h) (e : h.objs.size ≤ a) : H a = none := by
  cases q : H a with
  | none => rfl
  | some u => exact absurd (Nat.lt_of_lt_of_le (x.lt q) e) (Nat.lt_irrefl _)
theorem HOk.kept (x : HOk P w H h) (k : ∀ b u, h.get? b = some u → h'.get? b = some u) : HOk P w H h' := fun a o e =>
  (x a o e).stay (fun b u _ q => k b u q) (fun _ q => q) fun _ _ q => q
theorem HOk.laid (x : HOk P w H h) (k : ∀ b u, h.get? b = some u → h'.get? b = some u) (hp : h.objs.size ≤ a) (new : ObjOk P w (upd H a o) h' a o) : HOk P w (upd H a o) h' := fun b u e => by
  have hn := x.fresh hp
  by_cases hb : b = a
  · subst hb; rw [upd_same] at e; cases e; exact new
  · rw [upd_ne hb] at e
    exact (x b u e).stay (fun c v _ q => k c v q) (fun c q => by rw [upd_ne (ne_of_none q hn)]; exact q) fun c xs q => by rw [upd_ne (ne_of_none q hn)]; exact q
end
noncomputable def Rd (H : Hp) (a : Addr) (u : HO) : Prop := H a = some u ∨ ∃ o, H a = some (.frz o u)
theorem Rd.ok {P : Program} {w : World} {H : Hp} {h : Heap} {a : Addr} {u : HO} (r : Rd H a u) (x : HOk P w H h) : ObjOk P w H h a u := by
  rcases r with r | ⟨o, r⟩
  · exact x a u r
  · obtain ⟨_, q⟩ := x a _ r
    exact q
noncomputable def Mut : Option HO → Prop
  | some (.lst _) => True
  | some (.dK _) => True
  | some (.dT _) => True
  | some (.set _ _) => True
  | some (.ins _ _ _) => True
  | some (.ext _) => True
  | _ => False
section
variable {P : Program} {w : World} {H : Hp} {h h' : Heap} {x e : Addr} {o' : HO}
theorem HOk.write (ok : HOk P w H h) (mu : Mut (H x)) (he : e = x ∨ H e = some (.own x)) (k : ∀ b u, b ≠ e → h.get? b = some u → h'.get? b = some u) (heo : ∃ u, h'.get? e = some u)
    (new : ObjOk P w (upd H x o') h' x o') : HOk P w (upd H x o') h' := fun b u q => by
  have nown : ∀ c y, H c = some (.own y) → c ≠ x := fun c y r z => by subst z; rw [r] at mu; exact mu
  have ntup : ∀ c xs, H c = some (.tup xs) → c ≠ x := fun c xs r z => by subst z; rw [r] at mu; exact mu
  by_cases hb : b = x
  · subst hb; rw [upd_same] at q; cases q; exact new
  · rw [upd_ne hb] at q
    by_cases hbe : b = e
    · have q' : H b = some (.own x) := by
        rcases he with z | z
        · exact absurd (hbe.trans z) hb
        · rw [hbe]; exact z
      rw [q] at q'; cases q'
      obtain ⟨v, hv⟩ := heo
      exact ⟨v, by rw [hbe]; exact hv⟩
    · refine (ok b u q).stay (fun c v hc r => k c v ?_ r) (fun c r => by rw [upd_ne (nown c b r)]; exact r) fun c xs r => by rw [upd_ne (ntup c xs r)]; exact r
      rcases hc with rfl | hc
      · exact hbe
      · rintro rfl
        rcases he with z | z
        · exact nown c b hc z
        · rw [hc] at z; cases z; exact hb rfl
end
structure Un (fs ex : List Addr) (H H' : Hp) (h h' : Heap) : Prop where
  keep : ∀ b o, h.get? b = some o → H b = none → b ∉ fs → b ∉ ex → h'.get? b = some o
  slot : ∀ b o, h.get? b = some o → H b = none → b ∈ fs → b ∉ ex → ∃ sl, h'.get? b = some { o with slots := sl }
  free : ∀ b o, h.get? b = some o → H b = none → b ∉ ex → H' b = none
  there : ∀ b o, h.get? b = some o → b ∉ ex → ∃ o', h'.get? b = some o'
  tups : ∀ b xs, H b = some (.tup xs) → H' b = some (.tup xs)
  frzs : ∀ b o u, H b = some (.frz o u) → H' b = some (.frz o u)
  tbls : ∀ b ps, H b = some (.tbl ps) → ∃ more, H' b = some (.tbl (ps ++ more))
section
variable {fs fs' ex ex' : List Addr} {H H1 H2 : Hp} {h h1 h2 h' : Heap} {a x e : Addr} {o : HO}
theorem Un.any (u : Un fs ex H H1 h h1) {b : Addr} {ob : Obj} (q : h.get? b = some ob) (n : H b = none) (hx : b ∉ ex) : ∃ sl, h1.get? b = some { ob with slots := sl } := by
  by_cases hb : b ∈ fs
  · exact u.slot b ob q n hb hx
  · exact ⟨ob.slots, u.keep b ob q n hb hx⟩
theorem Un.trans (a : Un fs ex H H1 h h1) (b : Un fs ex H1 H2 h1 h2) : Un fs ex H H2 h h2 where
  keep := fun c ob q n hc hx => b.keep c ob (a.keep c ob q n hc hx) (a.free c ob q n hx) hc hx
  slot := fun c ob q n hc hx => by
    obtain ⟨sl, e1⟩ := a.slot c ob q n hc hx
    obtain ⟨sl', e2⟩ := b.slot c _ e1 (a.free c ob q n hx) hc hx
    exact ⟨sl', e2⟩
  free := fun c ob q n hx => by
    obtain ⟨o', e1⟩ := a.there c ob q hx
    exact b.free c o' e1 (a.free c ob q n hx) hx
  there := fun c ob q hx => by
    obtain ⟨o', e1⟩ := a.there c ob q hx
    exact b.there c o' e1 hx
  tups := fun c xs q => b.tups c xs (a.tups c xs q)
  frzs := fun c ob xs q => b.frzs c ob xs (a.frzs c ob xs q)
  tbls := fun c ps q => by
    obtain ⟨m1, e1⟩ := a.tbls c ps q
    obtain ⟨m2, e2⟩ := b.tbls c _ e1
    exact ⟨m1 ++ m2, by rw [e2, Array.append_assoc]⟩
theorem Un.kept (k : ∀ b u, h.get? b = some u → h'.get? b = some u) : Un fs ex H H h h' :=
  ⟨fun b ob q _ _ _ => k b ob q, fun b ob q _ _ _ => ⟨ob.slots, k b ob q⟩, fun _ _ _ n _ => n, fun b ob q _ => ⟨ob, k b ob q⟩, fun _ _ q => q, fun _ _ _ q => q, fun _ ps q => ⟨#[], by rw [q]; simp⟩⟩
theorem Un.refl : Un fs ex H H h h := Un.kept fun _ _ q => q
theorem Un.laid (k : ∀ b u, h.get? b = some u → h'.get? b = some u) (hp : h.objs.size ≤ a) (hn : H a = none) : Un fs ex H (upd H a o) h h' where
  keep := fun b u q _ _ _ => k b u q
  slot := fun b u q _ _ _ => ⟨u.slots, k b u q⟩
  free := fun b u q n _ => by rw [upd_ne (Nat.ne_of_lt (Nat.lt_of_lt_of_le (Heap.lt_size q) hp))]; exact n
  there := fun b u q _ => ⟨u, k b u q⟩
  tups := fun b xs q => by rw [upd_ne (ne_of_none q hn)]; exact q
  frzs := fun b u xs q => by rw [upd_ne (ne_of_none q hn)]; exact q
  tbls := fun b ps q => ⟨#[], by rw [upd_ne (ne_of_none q hn), q]; simp⟩
theorem Un.write (mu : Mut (H x)) (he : e = x ∨ H e = some (.own x)) (k : ∀ b u, b ≠ e → h.get? b = some u → h'.get? b = some u) (heo : ∃ u, h'.get? e = some u) : Un fs ex H (upd H x o) h h' := by
  have hx : ∀ b, H b = none → b ≠ x := fun b n z => by subst z; rw [n] at mu; exact mu
  have hb : ∀ b, H b = none → b ≠ e := fun b n z => by
    subst z
    rcases he with r | r
    · exact hx b n r
    · rw [n] at r; cases r
  have hm : ∀ b u, H b = some u → ¬ Mut (some u) → b ≠ x := fun b u q nm z => by subst z; rw [q] at mu; exact nm mu
  refine ⟨fun b u q n _ _ => k b u (hb b n) q, fun b u q n _ _ => ⟨u.slots, k b u (hb b n) q⟩, fun b u q n _ => by rw [upd_ne (hx b n)]; exact n, fun b u q _ => ?_,
    fun b xs q => by rw [upd_ne (hm b _ q fun z => z)]; exact q, fun b u xs q => by rw [upd_ne (hm b _ q fun z => z)]; exact q, fun b ps q => ⟨#[], by rw [upd_ne (hm b _ q fun z => z), q]; simp⟩⟩
  by_cases hbe : b = e
  · subst hbe; exact heo
  · exact ⟨u, k b u hbe q⟩
end
noncomputable def trk (h : Heap) (H : Hp) : List Addr := (List.range h.objs.size).filter fun a => (H a).isSome
noncomputable def hidT (h : Heap) (H : Hp) : Heap := PySem.W.hideAll h (trk h H)
theorem hidT_size (h : Heap) (H : Hp) : (hidT h H).objs.size = h.objs.size := PySem.W.hideAll_size _ _
theorem hidT_get {h : Heap} {H : Hp} {b : Addr} {o : Obj} (e : h.get? b = some o) (n : H b = none) : (hidT h H).get? b = some o :=
  PySem.W.hideAll_get _ e fun hm => by
    have q : (H b).isSome = true := (List.mem_filter.mp hm).2
    rw [n] at q; simp at q
theorem of_hidT {h : Heap} {H : Hp} {b : Addr} {o : Obj} (e : (hidT h H).get? b = some o) : h.get? b = some o ∧ H b = none := by
  have e' : h.get? b = some o := PySem.W.of_hideAll (trk h H) e
  refine ⟨e', ?_⟩
  cases q : H b with
  | none => rfl
  | some x =>
    have hm : b ∈ trk h H := List.mem_filter.mpr ⟨List.mem_range.mpr (Heap.lt_size e'), by simp [q]⟩
    have z : (hidT h H).get? b = none := PySem.W.hideAll_none (trk h H) hm
    rw [z] at e; cases e
noncomputable def allNews (g h : Heap) (L : Addr) : List (Addr × Obj) := (List.range h.objs.size).filterMap fun a => if a = L ∨ (g.get? a).isSome = true then none else (h.get? a).map fun o => (a, o)
noncomputable def rest (g h : Heap) (L d : Addr) : List (Addr × Obj) := (allNews g h L).filter fun p => decide (p.1 ≠ d)
end L2
namespace L2
open PySem PySem.Spec PyProof.Rows
structure Mod (K : PySem.W.Frag) (mg : Str → Option Value) (base : Heap) : Prop where
  kin : K.In base
  glob : base.Ns mainGlobals mg
  blt : ∃ mb, base.Ns builtinsNs mb ∧ ∀ x : Str, x ≠ "__name__" → mb x = bootBuiltins x
  nolimit : base.NoLimit
structure Cx where
  prog : Program
  w : World
  K : PySem.W.Frag
  mg : Str → Option Value
  base : Heap
  A : Around
  N : List Str
  s₀ : Shared
  H₀ : Hp
  env : Env
  outer : List Env
  stack : List Env
  ex : List Addr
  fn : Str → Bool
  calm : Bool
  pn : List (Addr × Obj)
  xe : Value → Shared → Prop
noncomputable def frs (l : List Env) : List Addr := l.filterMap (·.frame)
noncomputable abbrev Cx.fs (X : Cx) : List Addr := frs X.outer
noncomputable def Vis (sc : Scope) (x : Str) : Prop := sc.names.lookup x = some .local ∨ sc.names.lookup x = some .cell ∨ sc.names.lookup x = some .free
noncomputable def Loc (sc : Scope) (x : Str) : Prop := sc.names.lookup x = some .local ∨ sc.names.lookup x = some .cell
noncomputable def Look (env : Env) (h : Heap) (m : Str → Option Value) (x : Str) (u : Value) : Prop :=
  (env.kindOf x = some .local ∧ m x = some u) ∨ ((env.kindOf x = some .cell ∨ env.kindOf x = some .free) ∧ ∃ c, env.cells.lookup x = some c ∧ h.IsCell c (some u))
structure Cx.Ok (X : Cx) : Prop where
  mod : Mod X.K X.mg X.base
  kind : X.env.scope.kind = .function
  glob : X.env.globals = mainGlobals
  blt : X.env.builtins = builtinsNs
  above : X.s₀.heap.objs.size ≤ X.env.locals
  inj : ∀ x y c, X.env.cells.lookup x = some c → X.env.cells.lookup y = some c → x = y
  has : ∀ x, (X.env.kindOf x = some .cell ∨ X.env.kindOf x = some .free) → ∃ c, X.env.cells.lookup x = some c
  cab : ∀ x c, X.fn x = true → X.env.cells.lookup x = some c → X.s₀.heap.objs.size ≤ c
  hd : X.calm = true → X.A.handled = none
  frames : X.A.frames = some X.stack
  stk : X.stack = X.outer ∨ (X.stack = X.env :: X.outer ∧ X.env.frame = some X.env.locals)
  exf : ∀ b ∈ X.ex, b ≠ X.env.locals ∧ ∀ x c, X.env.cells.lookup x = some c → c ≠ b
  bs : ∀ b o, X.base.get? b = some o → X.s₀.heap.get? b = some o ∧ X.H₀ b = none
  bsz : X.base.objs.size ≤ X.s₀.heap.objs.size
  noex : ∀ b o, X.base.get? b = some o → b ∉ X.ex
  exfs : ∀ b ∈ X.ex, b ∉ X.fs
  funs : X.s₀.heap.FunFrames X.base X.outer
  frf : ∀ b ∈ X.fs, X.H₀ b = none
structure Inv (X : Cx) (pins : List (Addr × Obj)) (σ : List (Option V)) (H : Hp) (s : Shared) : Prop where
  ok : X.Ok
  os : s.os = X.s₀.os
  bare : AllBare s.gens
  base : Un X.fs X.ex X.H₀ H X.s₀.heap s.heap
  loc : ∃ m, s.heap.Ns X.env.locals m ∧ ∀ (i : Nat) (x : Str) (v : V), X.N[i]? = some x → σ[i]? = some (some v) → Vis X.env.scope x → ∃ u, RelV v u ∧ Look X.env s.heap m x u
  cell : ∀ x c, X.env.cells.lookup x = some c → ∃ v, s.heap.IsCell c v
  free : H X.env.locals = none
  freeC : ∀ x c, X.env.cells.lookup x = some c → H c = none
  pin : ∀ p ∈ X.pn ++ pins, s.heap.get? p.1 = some p.2 ∧ H p.1 = none ∧ p.1 ≠ X.env.locals ∧ p.1 ∉ X.fs ∧ ∀ v, p.2.data ≠ .cell v
  hok : HOk X.prog X.w H s.heap
  len : σ.length = X.N.length
section
variable {X : Cx} {pins : List (Addr × Obj)} {σ : List (Option V)} {H H' : Hp} {s : Shared} {h' : Heap}
theorem Cx.Ok.nofr (ok : X.Ok) {b : Addr} {o : Obj} (e : X.base.get? b = some o) : b ∉ X.fs := fun hb => by
  have := (ok.funs.mem hb).1
  rw [e] at this; cases this
theorem Inv.bs (I : Inv X pins σ H s) : ∀ b o, X.base.get? b = some o → s.heap.get? b = some o ∧ H b = none := fun b o e =>
  ⟨I.base.keep b o (I.ok.bs b o e).1 (I.ok.bs b o e).2 (I.ok.nofr e) (I.ok.noex b o e), I.base.free b o (I.ok.bs b o e).1 (I.ok.bs b o e).2 (I.ok.noex b o e)⟩
theorem Inv.bk (I : Inv X pins σ H s) : ∀ b o, X.base.get? b = some o → s.heap.get? b = some o := fun b o e => (I.bs b o e).1
theorem Inv.mod (I : Inv X pins σ H s) : Mod X.K X.mg X.base := I.ok.mod
theorem Inv.kIn (I : Inv X pins σ H s) : X.K.In s.heap := I.ok.mod.kin.keeps I.bk
theorem Inv.lt (I : Inv X pins σ H s) : X.env.locals < s.heap.objs.size := let ⟨_, hn, _⟩ := I.loc; hn.lt
theorem Inv.sz (I : Inv X pins σ H s) : X.s₀.heap.objs.size ≤ s.heap.objs.size := Nat.le_trans I.ok.above (Nat.le_of_lt I.lt)
theorem Inv.nofs (I : Inv X pins σ H s) {a : Addr} (h : s.heap.objs.size ≤ a) : a ∉ X.fs := fun hb => by
  obtain ⟨_, o, ho, _⟩ := I.ok.funs.mem hb
  exact absurd (Nat.lt_of_lt_of_le (Heap.lt_size ho) (Nat.le_trans I.sz h)) (Nat.lt_irrefl _)
theorem Inv.cne (I : Inv X pins σ H s) : ∀ x c, X.env.cells.lookup x = some c → c ≠ X.env.locals := fun x c e z => by
  obtain ⟨v, o, ho, hd⟩ := I.cell x c e
  obtain ⟨m, ⟨o', es, ep, ho', hd', _⟩, _⟩ := I.loc
  rw [z, ho'] at ho; cases ho; rw [hd'] at hd; cases hd
theorem Inv.funs (I : Inv X pins σ H s) : s.heap.FunFrames X.base X.outer := by
  have all : ∀ (l : List Env), (∀ b ∈ frs l, b ∈ X.fs) → X.s₀.heap.FunFrames X.base l → s.heap.FunFrames X.base l := by
    intro l
    induction l with
    | nil => intro _ _; trivial
    | cons env r ih =>
      intro hs hl
      obtain ⟨hk, ⟨L, o, hf, hn, ho, hd⟩, hr⟩ := hl
      have hL : L ∈ X.fs := hs L (by unfold frs; rw [List.filterMap_cons, hf]; exact List.mem_cons_self)
      obtain ⟨sl, e⟩ := I.base.slot L o ho (I.ok.frf L hL) hL fun z => I.ok.exfs L z hL
      exact ⟨hk, ⟨L, _, hf, hn, e, hd⟩, ih (fun b hb => hs b (by unfold frs; rw [List.filterMap_cons, hf]; exact List.mem_cons_of_mem _ hb)) hr⟩
  exact all X.outer (fun _ hb => hb) I.ok.funs
theorem Inv.stack (I : Inv X pins σ H s) : s.heap.FunFrames X.base X.stack := by
  rcases I.ok.stk with e | ⟨e, hf⟩
  · rw [e]; exact I.funs
  · rw [e]
    obtain ⟨m, hn, _⟩ := I.loc
    refine .cons (by rw [I.ok.kind]; decide) hf hn ?_ I.funs
    exact Heap.get?_none_of_le (Nat.le_trans I.ok.bsz I.ok.above)
theorem Inv.stkSub (I : Inv X pins σ H s) : ∀ b ∈ frs X.stack, b ∈ X.env.locals :: X.fs := fun b hb => by
  rcases I.ok.stk with e | ⟨e, hf⟩
  · rw [e] at hb; exact List.mem_cons_of_mem _ hb
  · rw [e] at hb
    unfold frs at hb
    rw [List.filterMap_cons, hf] at hb
    exact hb
theorem Inv.stkFree (I : Inv X pins σ H s) : ∀ b ∈ frs X.stack, H b = none := fun b hb => by
  rcases List.mem_cons.mp (I.stkSub b hb) with e | hb
  · rw [e]; exact I.free
  · obtain ⟨_, o, ho, _⟩ := I.ok.funs.mem hb
    exact I.base.free b o ho (I.ok.frf b hb) fun z => I.ok.exfs b z hb
theorem Inv.step {g' : Array GenState} {t' : Nat} {d' : Drawn} {ch : List Addr} (I : Inv X pins σ H s)
    (hch : ∀ b ∈ ch, (b ∈ X.ex ∨ X.s₀.heap.objs.size ≤ b) ∧ b ≠ X.env.locals ∧ (∀ x c, X.env.cells.lookup x = some c → c ≠ b) ∧ ∀ p ∈ X.pn ++ pins, p.1 ≠ b)
    (keep : ∀ b o, b ≠ X.env.locals → b ∉ X.fs → b ∉ ch → s.heap.get? b = some o → H b = none → h'.get? b = some o)
    (slot : ∀ b o, b ≠ X.env.locals → b ∈ X.fs → b ∉ ch → s.heap.get? b = some o → H b = none → ∃ sl, h'.get? b = some { o with slots := sl }) (free : ∀ b o, b ∉ ch → s.heap.get? b = some o → H b = none → H' b = none)
    (there : ∀ b o, b ∉ ch → s.heap.get? b = some o → ∃ o', h'.get? b = some o')
    (tups : ∀ b xs, H b = some (.tup xs) → H' b = some (.tup xs)) (frzs : ∀ b o u, H b = some (.frz o u) → H' b = some (.frz o u)) (tbls : ∀ b ps, H b = some (.tbl ps) → ∃ more, H' b = some (.tbl (ps ++ more)))
    (ns : ∀ m, s.heap.Ns X.env.locals m → h'.Ns X.env.locals m) (hok : HOk X.prog X.w H' h') (hg : AllBare g') :
    Inv X pins σ H' { s with heap := h', gens := g', drawn := d', toks := t' } := by
  have neL : ∀ b o, X.s₀.heap.get? b = some o → b ≠ X.env.locals := fun b o e => Nat.ne_of_lt (Nat.lt_of_lt_of_le (Heap.lt_size e) I.ok.above)
  have neC : ∀ b o, X.s₀.heap.get? b = some o → b ∉ X.ex → b ∉ ch := fun b o e hx hb => by
    rcases (hch b hb).1 with z | z
    · exact hx z
    · exact absurd (Nat.lt_of_lt_of_le (Heap.lt_size e) z) (Nat.lt_irrefl _)
  have cellK : ∀ x c, X.env.cells.lookup x = some c → ∀ v, s.heap.IsCell c v → h'.IsCell c v := fun x c e v ⟨o, ho, hd⟩ => by
    have nch : c ∉ ch := fun z => (hch c z).2.2.1 x c e rfl
    by_cases hc : c ∈ X.fs
    · obtain ⟨sl, q⟩ := slot c o (I.cne x c e) hc nch ho (I.freeC x c e)
      exact ⟨_, q, hd⟩
    · exact ⟨o, keep c o (I.cne x c e) hc nch ho (I.freeC x c e), hd⟩
  refine ⟨I.ok, I.os, hg, ⟨fun b o e n hb hx => ?_, fun b o e n hb hx => ?_, fun b o e n hx => ?_, fun b o e hx => ?_, fun b xs e => tups b xs (I.base.tups b xs e), fun b o xs e => frzs b o xs (I.base.frzs b o xs e), fun b ps e => ?_⟩, ?_, fun x c e => ?_, ?_, fun x c e => ?_, fun p hp => ?_, hok, I.len⟩
  · exact keep b o (neL b o e) hb (neC b o e hx) (I.base.keep b o e n hb hx) (I.base.free b o e n hx)
  · obtain ⟨sl, e1⟩ := I.base.slot b o e n hb hx
    obtain ⟨sl', e2⟩ := slot b _ (neL b o e) hb (neC b o e hx) e1 (I.base.free b o e n hx)
    exact ⟨sl', e2⟩
  · obtain ⟨o', e1⟩ := I.base.there b o e hx
    exact free b o' (neC b o e hx) e1 (I.base.free b o e n hx)
  · obtain ⟨o', e1⟩ := I.base.there b o e hx
    exact there b o' (neC b o e hx) e1
  · obtain ⟨m1, e1⟩ := I.base.tbls b ps e
    obtain ⟨m2, e2⟩ := tbls b _ e1
    exact ⟨m1 ++ m2, by rw [e2, Array.append_assoc]⟩
  · obtain ⟨m, hn, hl⟩ := I.loc
    refine ⟨m, ns m hn, fun i x v e1 e2 e3 => ?_⟩
    obtain ⟨u, r, l⟩ := hl i x v e1 e2 e3
    refine ⟨u, r, ?_⟩
    rcases l with l | ⟨k, c, e, z⟩
    · exact .inl l
    · exact .inr ⟨k, c, e, cellK x c e _ z⟩
  · obtain ⟨v, z⟩ := I.cell x c e
    exact ⟨v, cellK x c e v z⟩
  · obtain ⟨m, ⟨o, _, _, ho, _⟩, _⟩ := I.loc
    exact free _ o (fun z => (hch _ z).2.1 rfl) ho I.free
  · obtain ⟨v, o, ho, hd⟩ := I.cell x c e
    exact free c o (fun z => (hch c z).2.2.1 x c e rfl) ho (I.freeC x c e)
  · obtain ⟨e, n, ne, nf, d⟩ := I.pin p hp
    have nch : p.1 ∉ ch := fun z => (hch p.1 z).2.2.2 p hp rfl
    exact ⟨keep p.1 p.2 ne nf nch e n, free p.1 p.2 nch e n, ne, nf, d⟩
theorem Inv.un {t' : Nat} (I : Inv X pins σ H s) (u : Un X.fs [] H H' s.heap h') (hok : HOk X.prog X.w H' h') : Inv X pins σ H' { s with heap := h', toks := t' } := by
  obtain ⟨m, ⟨o, es, ep, ho, r⟩, _⟩ := id I.loc
  obtain ⟨sl, hL⟩ := u.any ho I.free (by simp)
  exact I.step (g' := s.gens) (d' := s.drawn) (ch := []) (fun _ z => nomatch z) (fun b o _ hb _ e n => u.keep b o e n hb (by simp)) (fun b o _ hb _ e n => u.slot b o e n hb (by simp)) (fun b o _ e n => u.free b o e n (by simp)) (fun b o _ e => u.there b o e (by simp)) u.tups u.frzs u.tbls (fun m' hm => by
    obtain ⟨o', es', ep', ho', r'⟩ := hm
    rw [ho] at ho'; cases ho'
    exact ⟨_, es', ep', hL, r'⟩) hok I.bare
theorem Inv.call {g' : Array GenState} {t' : Nat} {d' : Drawn} {ch : List Addr} (I : Inv X pins σ H s) (u : Un (frs X.stack) ch H H' s.heap h') (hok : HOk X.prog X.w H' h') (hg : AllBare g')
    (hch : ∀ b ∈ ch, (b ∈ X.ex ∨ X.s₀.heap.objs.size ≤ b) ∧ b ≠ X.env.locals ∧ (∀ x c, X.env.cells.lookup x = some c → c ≠ b) ∧ ∀ p ∈ X.pn ++ pins, p.1 ≠ b) :
    Inv X pins σ H' { s with heap := h', gens := g', drawn := d', toks := t' } := by
  obtain ⟨m, ⟨o, es, ep, ho, r⟩, _⟩ := id I.loc
  obtain ⟨sl, hL⟩ := u.any ho I.free fun z => (hch _ z).2.1 rfl
  exact I.step (ch := ch) hch (fun b o hL hb hc e n => u.keep b o e n (fun z => (List.mem_cons.mp (I.stkSub b z)).elim hL hb) hc) (fun b o _ _ hc e n => u.any e n hc) (fun b o hc e n => u.free b o e n hc) (fun b o hc e => u.there b o e hc) u.tups u.frzs u.tbls (fun m' hm => by
    obtain ⟨o', es', ep', ho', r'⟩ := hm
    rw [ho] at ho'; cases ho'
    exact ⟨_, es', ep', hL, r'⟩) hok hg
theorem Inv.turned {t' : Nat} {it : Addr} (I : Inv X pins σ H s) (k : ∀ b o, b ≠ it → s.heap.get? b = some o → h'.get? b = some o) (hn : H it = none) (hL : it ≠ X.env.locals)
    (h1 : it ∈ X.ex ∨ X.s₀.heap.objs.size ≤ it) (h2 : ∀ x c, X.env.cells.lookup x = some c → c ≠ it) (h3 : ∀ p ∈ X.pn ++ pins, p.1 ≠ it) : Inv X pins σ H { s with heap := h', toks := t' } := by
  have nit : ∀ b u, H b = some u → b ≠ it := fun b u e z => by rw [z, hn] at e; cases e
  refine I.step (g' := s.gens) (d' := s.drawn) (ch := [it]) (fun b hb => ?_) (fun b o _ _ hc e _ => k b o (fun z => hc (by simp [z])) e) (fun b o _ _ hc e _ => ⟨o.slots, k b o (fun z => hc (by simp [z])) e⟩) (fun _ _ _ _ n => n)
    (fun b o hc e => ⟨o, k b o (fun z => hc (by simp [z])) e⟩) (fun _ _ e => e) (fun _ _ _ e => e) (fun b ps e => ⟨#[], by rw [e]; simp⟩) (fun m hm => ?_) (fun b u e => ?_) I.bare
  · have e : b = it := by simpa using hb
    subst e
    exact ⟨h1, hL, h2, h3⟩
  · obtain ⟨o, es, ep, ho, r⟩ := hm
    exact ⟨o, es, ep, k _ o (Ne.symm hL) ho, r⟩
  · refine (I.hok b u e).stay (fun c v hc q => k c v ?_ q) (fun _ q => q) fun _ _ q => q
    rcases hc with z | z
    · rw [z]; exact nit b u e
    · exact nit c _ z
theorem Inv.tok (I : Inv X pins σ H s) (t : Nat) : Inv X pins σ H { s with toks := t } := I.un (h' := s.heap) (t' := t) Un.refl I.hok
theorem Inv.kept {t' : Nat} (I : Inv X pins σ H s) (k : ∀ b u, s.heap.get? b = some u → h'.get? b = some u) : Inv X pins σ H { s with heap := h', toks := t' } := I.un (Un.kept k) (I.hok.kept k)
theorem Inv.laid {a : Addr} {o : HO} {t' : Nat} (I : Inv X pins σ H s) (k : ∀ b u, s.heap.get? b = some u → h'.get? b = some u) (hp : s.heap.objs.size ≤ a) (new : ObjOk X.prog X.w (upd H a o) h' a o) :
    Inv X pins σ (upd H a o) { s with heap := h', toks := t' } := I.un (Un.laid k hp (I.hok.fresh hp)) (I.hok.laid k hp new)
theorem Inv.write {x e : Addr} {o : HO} {t' : Nat} (I : Inv X pins σ H s) (mu : Mut (H x)) (he : e = x ∨ H e = some (.own x)) (k : ∀ b u, b ≠ e → s.heap.get? b = some u → h'.get? b = some u) (heo : ∃ u, h'.get? e = some u)
    (new : ObjOk X.prog X.w (upd H x o) h' x o) : Inv X pins σ (upd H x o) { s with heap := h', toks := t' } := I.un (Un.write mu he k heo) (I.hok.write mu he k heo new)
theorem Inv.weak {σ' : List (Option V)} (I : Inv X pins σ H s) (hl : σ'.length = σ.length) (w : ∀ (i : Nat) v, σ'[i]? = some (some v) → σ[i]? = some (some v)) : Inv X pins σ' H s :=
  ⟨I.ok, I.os, I.bare, I.base, let ⟨m, hn, hl'⟩ := I.loc; ⟨m, hn, fun i x v e1 e2 e3 => hl' i x v e1 (w i v e2) e3⟩, I.cell, I.free, I.freeC, I.pin, I.hok, hl.trans I.len⟩
theorem Inv.pins_of {pins' : List (Addr × Obj)} (I : Inv X pins σ H s) (h : ∀ p ∈ pins', s.heap.get? p.1 = some p.2 ∧ H p.1 = none ∧ p.1 ≠ X.env.locals ∧ p.1 ∉ X.fs ∧ ∀ v, p.2.data ≠ .cell v) : Inv X pins' σ H s :=
  ⟨I.ok, I.os, I.bare, I.base, I.loc, I.cell, I.free, I.freeC, fun p hp => (List.mem_append.mp hp).elim (fun z => I.pin p (List.mem_append_left _ z)) (h p), I.hok, I.len⟩
theorem nodup_ix {N : List Str} (hN : N.Nodup) {i j : Nat} {x : Str} (a : N[i]? = some x) (b : N[j]? = some x) : i = j := by
  obtain ⟨h1, e1⟩ := List.getElem?_eq_some_iff.mp a
  obtain ⟨h2, e2⟩ := List.getElem?_eq_some_iff.mp b
  exact (List.getElem_inj hN).mp (e1.trans e2.symm)
theorem store_ok2 {M : Model} {A : Around} {E : Value → Shared → Prop} {i : Nat} {x : Str} {v : V} {u : Value} {Q : Unit → Shared → Prop} (I : Inv X pins σ H s) (hN : X.N.Nodup) (hi : X.N[i]? = some x) (hx : Loc X.env.scope x) (r : RelV v u)
    (h : ∀ s', Inv X pins (σ.set i (some v)) H s' → (∃ a, Heap.SameBut a s.heap s'.heap ∧ (a = X.env.locals ∨ X.env.cells.lookup x = some a)) → Q () s') (hf : X.fn x = true ∨ X.env.scope.names.lookup x = some .local := by first | exact .inl rfl | exact .inr rfl | assumption) : wpAny M A (storeName X.env x u) Q E s := by
  obtain ⟨m, hn, hl⟩ := id I.loc
  have hcls : (X.env.scope.kind == .class || (X.env.scope.kind == .module && X.env.locals != X.env.globals)) = false := by rw [I.ok.kind]; rfl
  have hiσ : i < σ.length := by rw [I.len]; exact (List.getElem?_eq_some_iff.mp hi).1
  have cne := I.cne
  have tracked : ∀ {a : Addr} {h' : Heap}, (∃ o, s.heap.get? a = some o ∧ H a = none) → Heap.SameBut a s.heap h' → HOk X.prog X.w H h' := fun {a h'} ha hs b ob e => by
    obtain ⟨_, _, hfree⟩ := ha
    refine (I.hok b ob e).stay (fun c w' hc q => (hs.2 c ?_).trans q) (fun _ q => q) fun _ _ q => q
    rintro rfl
    rcases hc with rfl | hc
    · rw [hfree] at e; cases e
    · rw [hfree] at hc; cases hc
  rcases hx with hk | hk
  · refine wpAny_storeName_local hk hn (fun h' hn' hs => ?_) hcls
    obtain ⟨oL, _, _, hoL, _⟩ := id hn
    refine h _ ⟨I.ok, I.os, I.bare, ⟨fun b o e n hb hx => ?_, fun b o e n hb hx => ?_, I.base.free, fun b o e hx => ?_, I.base.tups, I.base.frzs, I.base.tbls⟩, ⟨_, hn', fun j y v' e1 e2 e3 => ?_⟩, fun y c e => ?_, I.free, I.freeC, fun p hp => ?_, tracked ⟨oL, hoL, I.free⟩ hs, by simpa using I.len⟩ ⟨_, hs, .inl rfl⟩
    · exact (hs.2 b (Nat.ne_of_lt (Nat.lt_of_lt_of_le (Heap.lt_size e) I.ok.above))).trans (I.base.keep b o e n hb hx)
    · obtain ⟨sl, e1⟩ := I.base.slot b o e n hb hx
      exact ⟨sl, (hs.2 b (Nat.ne_of_lt (Nat.lt_of_lt_of_le (Heap.lt_size e) I.ok.above))).trans e1⟩
    · obtain ⟨o', e1⟩ := I.base.there b o e hx
      exact ⟨o', (hs.2 b (Nat.ne_of_lt (Nat.lt_of_lt_of_le (Heap.lt_size e) I.ok.above))).trans e1⟩
    · by_cases hj : j = i
      · subst hj
        rw [hi] at e1; cases e1
        rw [List.getElem?_set_self hiσ] at e2
        cases e2
        exact ⟨u, r, .inl ⟨hk, by simp⟩⟩
      · rw [List.getElem?_set_ne (Ne.symm hj)] at e2
        obtain ⟨u', r', q⟩ := hl j y v' e1 e2 e3
        refine ⟨u', r', ?_⟩
        rcases q with ⟨k, e⟩ | ⟨k, c, e, z⟩
        · refine .inl ⟨k, ?_⟩
          have : y ≠ x := fun e => hj (nodup_ix hN e1 (e ▸ hi))
          simp [this, e]
        · exact .inr ⟨k, c, e, z.sameBut hs (cne y c e)⟩
    · obtain ⟨w', z⟩ := I.cell y c e
      exact ⟨w', z.sameBut hs (cne y c e)⟩
    · obtain ⟨e, n, ne, nf, d⟩ := I.pin p hp
      exact ⟨(hs.2 p.1 ne).trans e, n, ne, nf, d⟩
  · have hfn : X.fn x = true := by
      rcases hf with z | z
      · exact z
      · rw [z] at hk; cases hk
    obtain ⟨c, hc⟩ := I.ok.has x (.inl hk)
    obtain ⟨w', z⟩ := I.cell x c hc
    refine wpAny_storeName_cell I.ok.kind hk hc z (fun h' hc' hs => ?_)
    obtain ⟨oc, hoc, hocd⟩ := id z
    refine h { s with heap := h' } ⟨I.ok, I.os, I.bare, ⟨fun b o e n hb hx => ?_, fun b o e n hb hx => ?_, I.base.free, fun b o e hx => ?_, I.base.tups, I.base.frzs, I.base.tbls⟩, ⟨m, hn.sameBut hs (Ne.symm (cne x c hc)), fun j y v' e1 e2 e3 => ?_⟩, fun y c' e => ?_, I.free, I.freeC, fun p hp => ?_, tracked ⟨oc, hoc, I.freeC x c hc⟩ hs, by simpa using I.len⟩ ⟨c, hs, .inr hc⟩
    · exact (hs.2 b (Nat.ne_of_lt (Nat.lt_of_lt_of_le (Heap.lt_size e) (I.ok.cab x c hfn hc)))).trans (I.base.keep b o e n hb hx)
    · obtain ⟨sl, e1⟩ := I.base.slot b o e n hb hx
      exact ⟨sl, (hs.2 b (Nat.ne_of_lt (Nat.lt_of_lt_of_le (Heap.lt_size e) (I.ok.cab x c hfn hc)))).trans e1⟩
    · obtain ⟨o', e1⟩ := I.base.there b o e hx
      exact ⟨o', (hs.2 b (Nat.ne_of_lt (Nat.lt_of_lt_of_le (Heap.lt_size e) (I.ok.cab x c hfn hc)))).trans e1⟩
    · by_cases hj : j = i
      · subst hj
        rw [hi] at e1; cases e1
        rw [List.getElem?_set_self hiσ] at e2
        cases e2
        exact ⟨u, r, .inr ⟨.inl hk, c, hc, hc'⟩⟩
      · rw [List.getElem?_set_ne (Ne.symm hj)] at e2
        obtain ⟨u', r', q⟩ := hl j y v' e1 e2 e3
        refine ⟨u', r', ?_⟩
        rcases q with q | ⟨k, c', e, z'⟩
        · exact .inl q
        · refine .inr ⟨k, c', e, z'.sameBut hs ?_⟩
          rintro rfl
          exact hj (nodup_ix hN e1 (I.ok.inj _ _ _ e hc ▸ hi))
    · by_cases hcc : c' = c
      · subst hcc; exact ⟨_, hc'⟩
      · obtain ⟨w2, z2⟩ := I.cell y c' e
        exact ⟨w2, z2.sameBut hs hcc⟩
    · obtain ⟨e, n, ne, nf, d⟩ := I.pin p hp
      refine ⟨(hs.2 p.1 ?_).trans e, n, ne, nf, d⟩
      intro q
      rw [q, hoc] at e
      have q' : oc = p.2 := Option.some.inj e
      exact d w' (by rw [← q']; exact hocd)
theorem store_ok {M : Model} {A : Around} {E : Value → Shared → Prop} {i : Nat} {x : Str} {v : V} {u : Value} {Q : Unit → Shared → Prop} (I : Inv X pins σ H s) (hN : X.N.Nodup) (hi : X.N[i]? = some x) (hx : Loc X.env.scope x) (r : RelV v u)
    (h : ∀ s', Inv X pins (σ.set i (some v)) H s' → Q () s') (hf : X.fn x = true ∨ X.env.scope.names.lookup x = some .local := by first | exact .inl rfl | exact .inr rfl | assumption) : wpAny M A (storeName X.env x u) Q E s :=
  store_ok2 I hN hi hx r (fun s' I' _ => h s' I') hf
theorem Inv.call' {s' : Shared} {ch : List Addr} (I : Inv X pins σ H s) (ho : s'.os = s.os) (u : Un (frs X.stack) ch H H' s.heap s'.heap) (hok : HOk X.prog X.w H' s'.heap) (hg : AllBare s'.gens)
    (hch : ∀ b ∈ ch, (b ∈ X.ex ∨ X.s₀.heap.objs.size ≤ b) ∧ b ≠ X.env.locals ∧ (∀ x c, X.env.cells.lookup x = some c → c ≠ b) ∧ ∀ p ∈ X.pn ++ pins, p.1 ≠ b) : Inv X pins σ H' s' := by
  obtain ⟨h', g', d', t', o'⟩ := s'
  have e : o' = s.os := ho
  subst e
  exact I.call (g' := g') (t' := t') (d' := d') u hok hg hch
end
noncomputable abbrev XK := Value → Option Addr → Hp → Prop
noncomputable abbrev St := List (Option V)
noncomputable abbrev VK := V → Hp → Prop
noncomputable abbrev TE := St → Hp → VK → Prop
noncomputable abbrev TT := St → Hp → (Bool → Hp → Prop) → Prop
noncomputable abbrev TA := St → Hp → (List V → Hp → Prop) → Prop
structure Ends where
  nx : St → Hp → Prop
  rt : VK
  bk : St → Hp → Prop := fun _ _ => False
  ct : St → Hp → Prop := fun _ _ => False
noncomputable abbrev TS := Ends → St → Hp → Prop
noncomputable def EP (X : Cx) (pins : List (Addr × Obj)) (σ : St) (Q : VK) (u : Value) (s' : Shared) : Prop := ∃ v H', Inv X pins σ H' s' ∧ RelV v u ∧ Q v H'
noncomputable def TP (X : Cx) (pins : List (Addr × Obj)) (σ : St) (Q : Bool → Hp → Prop) (b : Bool) (s' : Shared) : Prop := ∃ H', Inv X pins σ H' s' ∧ Q b H'
noncomputable def AP (X : Cx) (pins : List (Addr × Obj)) (σ : St) (Q : List V → Hp → Prop) (us : List Value) (s' : Shared) : Prop := ∃ vs H', Inv X pins σ H' s' ∧ Vals vs us ∧ Q vs H'
noncomputable def SP (X : Cx) (pins : List (Addr × Obj)) (D : Ends) (f : Flow) (s' : Shared) : Prop :=
  match f with
  | .next => ∃ σ' H', Inv X pins σ' H' s' ∧ D.nx σ' H'
  | .brk => ∃ σ' H', Inv X pins σ' H' s' ∧ D.bk σ' H'
  | .cont => ∃ σ' H', Inv X pins σ' H' s' ∧ D.ct σ' H'
  | .ret u => ∃ v σ' H', Inv X pins σ' H' s' ∧ RelV v u ∧ D.rt v H'
noncomputable def PE (X : Cx) (e : Expr) (t : TE) : Prop :=
  ∀ (pins : List (Addr × Obj)) (s : Shared) (σ : St) (H : Hp) (Q : VK), Inv X pins σ H s → t σ H Q → wpAny (model X.prog X.w) X.A (eval e X.env) (EP X pins σ Q) X.xe s
noncomputable def PT (X : Cx) (e : Expr) (t : TT) : Prop :=
  ∀ (pins : List (Addr × Obj)) (s : Shared) (σ : St) (H : Hp) (Q : Bool → Hp → Prop), Inv X pins σ H s → t σ H Q → wpAny (model X.prog X.w) X.A (isTrue e X.env (eval e X.env)) (TP X pins σ Q) X.xe s
noncomputable def PW (X : Cx) (e : Expr) (t : TT) : Prop :=
  ∀ (whole : Sem Value) (pins : List (Addr × Obj)) (s : Shared) (σ : St) (H : Hp) (Q : Bool → Hp → Prop), Inv X pins σ H s → t σ H Q → wpAny (model X.prog X.w) X.A (isTrue e X.env whole) (TP X pins σ Q) X.xe s
theorem PW.pt {X : Cx} {e : Expr} {t : TT} (h : PW X e t) : PT X e t := h _
noncomputable def PA (X : Cx) (es : List Expr) (t : TA) : Prop :=
  ∀ (pos : Pos) (pins : List (Addr × Obj)) (s : Shared) (σ : St) (H : Hp) (Q : List V → Hp → Prop), Inv X pins σ H s → t σ H Q → wpAny (model X.prog X.w) X.A (spliced (backTo pos (starEach es X.env))) (AP X pins σ Q) X.xe s
noncomputable def PS (X : Cx) (st : Stmt) (t : TS) : Prop :=
  ∀ (pins : List (Addr × Obj)) (s : Shared) (σ : St) (H : Hp) (D : Ends), Inv X pins σ H s → t D σ H → wpAny (model X.prog X.w) X.A (exec st X.env) (SP X pins D) X.xe s
noncomputable def PSs (X : Cx) (st : List Stmt) (t : TS) : Prop :=
  ∀ (pins : List (Addr × Obj)) (s : Shared) (σ : St) (H : Hp) (D : Ends), Inv X pins σ H s → t D σ H → wpAny (model X.prog X.w) X.A (execs st X.env) (SP X pins D) X.xe s
theorem thn {α : Type} {t : Sem α} {Q Q' : α → Shared → Prop} {M : Model} {A : Around} {E : Value → Shared → Prop} {s : Shared} (h : wpAny M A t Q E s) (hQ : ∀ a s, Q a s → Q' a s) : wpAny M A t Q' E s := wpAny_mono h hQ fun _ _ x => x
end L2
namespace L2
open PySem PySem.Spec PyProof.Rows
section
variable {X : Cx}
noncomputable def tVar (i : Nat) : TE := fun σ H Q => ∃ v, σ[i]? = some (some v) ∧ Q v H
noncomputable def tC (v : V) : TE := fun _ H Q => Q v H
theorem pe_var {i : Nat} {x : Str} {pos : Pos} (hN : X.N[i]? = some x) (hv : Vis X.env.scope x) (hd : (x == ("__debug__" : Str)) = false := by decide) (hcd : (x == ("__classdict__" : Str)) = false := by decide) : PE X (.Name x pos) (tVar i) := by
  intro pins s σ H Q I h
  obtain ⟨v, e, h⟩ := h
  obtain ⟨m, hn, hl⟩ := I.loc
  obtain ⟨u, r, l⟩ := hl i x v hN e hv
  have fin : EP X pins σ Q u s := ⟨v, H, I, r, h⟩
  rcases l with ⟨hk, hm⟩ | ⟨hk, c, hc, hcell⟩
  · exact wpAny_Name (wpAny_loadName_local I.ok.kind hk hn hm fin) hd
  · rcases hk with hk | hk
    · exact wpAny_Name (wpAny_loadName_cell I.ok.kind hk hc hcell fin) hd
    · exact wpAny_Name (wpAny_loadName_free I.ok.kind hk hc hcell fin hcd) hd
theorem pe_int {i j pos} : PE X (.Constant (.int i) j pos) (tC (.int i)) := fun _ _ _ H _ I h => wpAny_Constant_int ⟨.int i, H, I.tok _, ⟨_, rfl⟩, h⟩
theorem pe_bl {b j pos} : PE X (.Constant (.bool b) j pos) (tC (.bl b)) := fun _ _ _ H _ I h => Constant_bool ⟨.bl b, H, I, rfl, h⟩
noncomputable def Gl (X : Cx) (x : Str) : Prop := X.env.kindOf x = some .globalImplicit
theorem ld_glob {E : Value → Shared → Prop} {pins : List (Addr × Obj)} {s : Shared} {σ : St} {H : Hp} {x : Str} {u : Value} {pos : Pos} {Q : Value → Shared → Prop} (I : Inv X pins σ H s) (hg : Gl X x) (hm : X.mg x = some u) (h : Q u s)
    (hd : (x == ("__debug__" : Str)) = false := by decide) : wpAny (model X.prog X.w) X.A (eval (.Name x pos) X.env) Q E s :=
  Calls.Name_function_global I.ok.kind hg (Calls.loadGlobal_global (by rw [I.ok.glob]; exact I.mod.glob.keeps I.bk) hm h) hd
theorem ld_blt {E : Value → Shared → Prop} {pins : List (Addr × Obj)} {s : Shared} {σ : St} {H : Hp} {x : Str} {u : Value} {pos : Pos} {Q : Value → Shared → Prop} (I : Inv X pins σ H s) (hg : Gl X x) (hm : X.mg x = none) (hv : bootBuiltins x = some u) (h : Q u s)
    (hn : x ≠ "__name__" := by decide) (hd : (x == ("__debug__" : Str)) = false := by decide) : wpAny (model X.prog X.w) X.A (eval (.Name x pos) X.env) Q E s := by
  obtain ⟨mb, h1, h2⟩ := I.mod.blt
  exact Calls.Name_function_global I.ok.kind hg (Calls.loadGlobal_builtin (by rw [I.ok.glob]; exact I.mod.glob.keeps I.bk) hm (by rw [I.ok.blt]; exact h1.keeps I.bk) ((h2 x hn).trans hv) h) hd
theorem pe_glob {x : Str} {v : V} {u : Value} {pos : Pos} (hg : Gl X x) (hm : X.mg x = some u) (r : RelV v u) (hd : (x == ("__debug__" : Str)) = false := by decide) : PE X (.Name x pos) (tC v) :=
  fun _ _ _ H _ I h => ld_glob I hg hm ⟨v, H, I, r, h⟩ hd
theorem pe_bltn {x : Str} {v : V} {u : Value} {pos : Pos} (hg : Gl X x) (hm : X.mg x = none) (hv : bootBuiltins x = some u) (r : RelV v u) (hn : x ≠ "__name__" := by decide) (hd : (x == ("__debug__" : Str)) = false := by decide) : PE X (.Name x pos) (tC v) :=
  fun _ _ _ H _ I h => ld_blt I hg hm hv ⟨v, H, I, r, h⟩ hn hd
variable {a b : Expr} {ta tb : TE} {pos : Pos}
variable {tA tB' : TT} {rest : List Expr}
noncomputable def tAnd (t u : TT) : TT := fun σ H Q => t σ H fun c H1 => if c = true then u σ H1 Q else Q false H1
noncomputable def tOr (t u : TT) : TT := fun σ H Q => t σ H fun c H1 => if c = true then Q true H1 else u σ H1 Q
noncomputable def tNot (t : TT) : TT := fun σ H Q => t σ H fun c H1 => Q (!c) H1
theorem pw_and1 (ha : PT X a tA) : PW X (.BoolOp .And [a] pos) tA := by
  intro wh pins s σ H Q I h
  refine isTrue_and (thn (ha pins s σ H Q I h) fun c s1 e => ?_)
  cases c with
  | true => exact isTrue_and_nil e
  | false => exact e
theorem pw_or1 (ha : PT X a tA) : PW X (.BoolOp .Or [a] pos) tA := by
  intro wh pins s σ H Q I h
  refine isTrue_or (thn (ha pins s σ H Q I h) fun c s1 e => ?_)
  cases c with
  | false => exact isTrue_or_nil e
  | true => exact e
theorem pw_and (ha : PT X a tA) (hb : PW X (.BoolOp .And (b :: rest) pos) tB') : PW X (.BoolOp .And (a :: b :: rest) pos) (tAnd tA tB') := by
  intro wh pins s σ H Q I h
  refine isTrue_and (thn (ha pins s σ H _ I h) fun c s1 ⟨H1, I1, q1⟩ => ?_)
  cases c with
  | true => exact hb wh pins s1 σ H1 Q I1 q1
  | false => exact ⟨H1, I1, q1⟩
theorem pw_or (ha : PT X a tA) (hb : PW X (.BoolOp .Or (b :: rest) pos) tB') : PW X (.BoolOp .Or (a :: b :: rest) pos) (tOr tA tB') := by
  intro wh pins s σ H Q I h
  refine isTrue_or (thn (ha pins s σ H _ I h) fun c s1 ⟨H1, I1, q1⟩ => ?_)
  cases c with
  | true => exact ⟨H1, I1, q1⟩
  | false => exact hb wh pins s1 σ H1 Q I1 q1
theorem pt_not (ha : PT X a tA) : PT X (.UnaryOp .Not a pos) (tNot tA) := by
  intro pins s σ H Q I h
  exact isTrue_not (ha pins s σ H (fun c H1 => Q (!c) H1) I h)
end
end L2
namespace L2
open PySem PySem.Spec PyProof.Rows
noncomputable def SqL (K : PySem.W.Frag) (H : Hp) (a : Addr) (xs : List V) : Prop :=
  Rd H a (.lst xs) ∨
    ∃ (o : Obj) (its : Array Value) (n : Nat), K.lookup a = some o ∧ o.cls = .type "list" ∧ o.dict = none ∧ o.data = .seq its n ∧ its.size ≤ sizeLine ∧ Vals xs its.toList
noncomputable def SqT (K : PySem.W.Frag) (H : Hp) (a : Addr) (xs : List V) : Prop :=
  Rd H a (.tup xs) ∨
    ∃ (o : Obj) (its : Array Value) (n : Nat), K.lookup a = some o ∧ o.cls = .type "tuple" ∧ o.data = .seq its n ∧ its.size ≤ sizeLine ∧ Vals xs its.toList
noncomputable def absV : Value → Option V
  | .none => some .non
  | .bool b => some (.bl b)
  | .int i _ => some (.int i)
  | .str x _ => some (.str x)
  | .bytes b _ => some (.byt b)
  | .float b _ => some (.flt b)
  | .ref a => some (.ref a)
  | .type n => some (.ty n)
  | _ => none
theorem RelV.abs {x : V} {u : Value} (r : RelV x u) : absV u = some x := by
  cases x with
  | non => cases r; rfl
  | bl _ => cases r; rfl
  | int _ => obtain ⟨t, rfl⟩ := r; rfl
  | str _ => obtain ⟨t, rfl⟩ := r; rfl
  | byt _ => obtain ⟨t, rfl⟩ := r; rfl
  | flt _ => obtain ⟨t, rfl⟩ := r; rfl
  | ref _ => cases r; rfl
  | ty _ => cases r; rfl
theorem RelV.inj {x y : V} {u : Value} (r : RelV x u) (q : RelV y u) : x = y := Option.some.inj (r.abs.symm.trans q.abs)
theorem Vals.inj : ∀ {xs ys : List V} {us : List Value}, Vals xs us → Vals ys us → xs = ys
  | _, _, _, .nil, .nil => rfl
  | _, _, _, .cons r t, .cons r' t' => by rw [r.inj r', Vals.inj t t']
section
variable {X : Cx} {pins : List (Addr × Obj)} {σ : St} {H : Hp} {s : Shared} {a : Addr} {xs ys : List V}
theorem SqL.of {K : PySem.W.Frag} (h : H a = some (.lst xs)) : SqL K H a xs := .inl (.inl h)
theorem SqT.of {K : PySem.W.Frag} (h : H a = some (.tup xs)) : SqT K H a xs := .inl (.inl h)
theorem Inv.list (I : Inv X pins σ H s) (h : SqL X.K H a xs) : ∃ its : List Value, Vals xs its ∧ PlainL s.heap a its.toArray ∧ xs.length ≤ sizeLine := by
  rcases h with h | ⟨o, its, n, hk, hc, hd, hs, hz, r⟩
  · obtain ⟨z, its, n, r, e⟩ := h.ok I.hok
    exact ⟨its, r, ⟨_, n, e, rfl, rfl, rfl⟩, z⟩
  · refine ⟨its.toList, r, ⟨o, n, I.kIn a o hk, hc, hd, by simpa using hs⟩, ?_⟩
    have e := r.length
    simp only [Array.length_toList] at e
    omega
theorem Inv.tuple (I : Inv X pins σ H s) (h : SqT X.K H a xs) : ∃ its : List Value, Vals xs its ∧ IsTup s.heap a its.toArray ∧ xs.length ≤ sizeLine := by
  rcases h with h | ⟨o, its, n, hk, hc, hs, hz, r⟩
  · obtain ⟨z, its, r, p⟩ := h.ok I.hok
    exact ⟨its, r, p, z⟩
  · refine ⟨its.toList, r, ⟨o, I.kIn a o hk, hc, n, by simpa using hs⟩, ?_⟩
    have e := r.length
    simp only [Array.length_toList] at e
    omega
theorem Inv.list_inj (I : Inv X pins σ H s) (h : SqL X.K H a xs) (h' : SqL X.K H a ys) : xs = ys := by
  obtain ⟨its, r, ⟨o, n, e, _, _, d⟩, _⟩ := I.list h
  obtain ⟨its', r', ⟨o', n', e', _, _, d'⟩, _⟩ := I.list h'
  rw [e] at e'; cases e'
  rw [d] at d'
  injection d' with d1 _
  have : its = its' := by simpa using congrArg Array.toList d1
  subst this
  exact r.inj r'
theorem Inv.tuple_inj (I : Inv X pins σ H s) (h : SqT X.K H a xs) (h' : SqT X.K H a ys) : xs = ys := by
  obtain ⟨its, r, ⟨o, e, _, n, d⟩, _⟩ := I.tuple h
  obtain ⟨its', r', ⟨o', e', _, n', d'⟩, _⟩ := I.tuple h'
  rw [e] at e'; cases e'
  rw [d] at d'
  injection d' with d1 _
  have : its = its' := by simpa using congrArg Array.toList d1
  subst this
  exact r.inj r'
end
noncomputable abbrev Cx.wish (X : Cx) (E : Value → Shared → Prop) : Cx := { X with xe := E }
noncomputable abbrev Cx.nox (X : Cx) : Cx := X.wish fun _ _ => False
theorem Cx.Ok.wish {X : Cx} (ok : X.Ok) (E : Value → Shared → Prop) : (X.wish E).Ok :=
  ⟨ok.mod, ok.kind, ok.glob, ok.blt, ok.above, ok.inj, ok.has, ok.cab, ok.hd, ok.frames, ok.stk, ok.exf, ok.bs, ok.bsz, ok.noex, ok.exfs, ok.funs, ok.frf⟩
theorem Cx.Ok.unwish {X : Cx} {E : Value → Shared → Prop} (ok : (X.wish E).Ok) : X.Ok :=
  ⟨ok.mod, ok.kind, ok.glob, ok.blt, ok.above, ok.inj, ok.has, ok.cab, ok.hd, ok.frames, ok.stk, ok.exf, ok.bs, ok.bsz, ok.noex, ok.exfs, ok.funs, ok.frf⟩
section
variable {X : Cx} {pins : List (Addr × Obj)} {σ : St} {H : Hp} {s : Shared} {E : Value → Shared → Prop}
theorem Inv.wish (I : Inv X pins σ H s) (E : Value → Shared → Prop) : Inv (X.wish E) pins σ H s := ⟨I.ok.wish E, I.os, I.bare, I.base, I.loc, I.cell, I.free, I.freeC, I.pin, I.hok, I.len⟩
theorem Inv.unwish (I : Inv (X.wish E) pins σ H s) : Inv X pins σ H s := ⟨I.ok.unwish, I.os, I.bare, I.base, I.loc, I.cell, I.free, I.freeC, I.pin, I.hok, I.len⟩
theorem SP.unwish {D : Ends} {f : Flow} {s' : Shared} (h : SP (X.wish E) pins D f s') : SP X pins D f s' := by
  cases f with
  | next => obtain ⟨σ', H', I, q⟩ := h; exact ⟨σ', H', I.unwish, q⟩
  | brk => obtain ⟨σ', H', I, q⟩ := h; exact ⟨σ', H', I.unwish, q⟩
  | cont => obtain ⟨σ', H', I, q⟩ := h; exact ⟨σ', H', I.unwish, q⟩
  | ret u => obtain ⟨v, σ', H', I, r, q⟩ := h; exact ⟨v, σ', H', I.unwish, r, q⟩
theorem PSs.nox {st : List Stmt} {t : TS} (h : PSs X.nox st t) : PSs X st t := fun pins s σ H D I hw =>
  wpAny_mono (h pins s σ H D (I.wish _) hw) (fun _ _ q => q.unwish) fun _ _ z => False.elim z
end
section
variable {X : Cx} {st : Stmt} {rest : List Stmt} {t u : TS} {e : Expr} {te : TE} {pos : Pos}
noncomputable def tNext : TS := fun D σ H => D.nx σ H
noncomputable def tSeq (t u : TS) : TS := fun D σ H => t { D with nx := u D } σ H
theorem pss_nil : PSs X [] tNext := fun _ _ σ H _ I h => wpAny_execs_nil ⟨σ, H, I, h⟩
theorem pss_cons (h1 : PS X st t) (h2 : PSs X rest u) : PSs X (st :: rest) (tSeq t u) := by
  intro pins s σ H D I h
  refine wpAny_execs_cons (thn (h1 pins s σ H { D with nx := u D } I h) fun f s1 q => ?_)
  cases f with
  | next =>
    obtain ⟨σ', H', I', q⟩ := q
    exact h2 pins s1 σ' H' D I' q
  | ret v => exact q
  | brk => exact q
  | cont => exact q
theorem pss_one (h1 : PS X st t) : PSs X [st] t := by
  intro pins s σ H D I h
  refine wpAny_execs_cons (thn (h1 pins s σ H D I h) fun f s1 q => ?_)
  cases f with
  | next => exact wpAny_execs_nil q
  | ret v => exact q
  | brk => exact q
  | cont => exact q
theorem Inv.quiet {pins : List (Addr × Obj)} {σ : St} {H : Hp} {s : Shared} (I : Inv X pins σ H s) : interactive X.env = false := by simp [interactive, I.ok.kind]
noncomputable def tDrop (te : TE) : TS := fun D σ H => te σ H fun _ H1 => D.nx σ H1
theorem ps_expr (he : PE X e te) (hs : swapsWith e none pos.line X.env = pure false := by rfl) : PS X (.Expr e pos) (tDrop te) := by
  intro pins s σ H D I h
  exact wpAny_Expr_any (thn (he pins s σ H _ I h) fun v s1 ⟨x, H1, I1, r1, q1⟩ => ⟨σ, H1, I1, q1⟩) I.quiet hs
noncomputable def tRet (te : TE) : TS := fun D σ H => te σ H D.rt
theorem ps_ret (he : PE X e te) : PS X (.Return (some e) pos) (tRet te) := by
  intro pins s σ H D I h
  exact wpAny_Return_some (thn (he pins s σ H _ I h) fun v s1 ⟨x, H1, I1, r1, q1⟩ => ⟨x, σ, H1, I1, r1, q1⟩)
noncomputable def tIfS (c : TT) (t u : TS) : TS := fun D σ H => c σ H fun b H1 => if b = true then t D σ H1 else u D σ H1
theorem ps_if {c : Expr} {a b : List Stmt} {tc : TT} (hc : PT X c tc) (ha : PSs X a t) (hb : PSs X b u) : PS X (.If c a b pos) (tIfS tc t u) := by
  intro pins s σ H D I h
  refine wpAny_If (thn (hc pins s σ H _ I h) fun d s1 ⟨H1, I1, q1⟩ => ?_)
  cases d with
  | true => exact ha pins s1 σ H1 D I1 q1
  | false => exact hb pins s1 σ H1 D I1 q1
end
noncomputable abbrev TG := V → St → Hp → (St → Hp → Prop) → Prop
noncomputable abbrev TGs := List V → St → Hp → (St → Hp → Prop) → Prop
noncomputable def PG (X : Cx) (target : Expr) (t : TG) : Prop :=
  ∀ (pins : List (Addr × Obj)) (s : Shared) (σ : St) (H : Hp) (v : V) (u : Value) (Q : St → Hp → Prop), Inv X pins σ H s → RelV v u → t v σ H Q →
    wpAny (model X.prog X.w) X.A (assign target X.env u) (fun _ s' => ∃ σ' H', Inv X pins σ' H' s' ∧ Q σ' H') X.xe s
noncomputable def PGs (X : Cx) (ts : List Expr) (t : TGs) : Prop :=
  ∀ (pins : List (Addr × Obj)) (s : Shared) (σ : St) (H : Hp) (vs : List V) (us : List Value) (Q : St → Hp → Prop), Inv X pins σ H s → Vals vs us → t vs σ H Q →
    wpAny (model X.prog X.w) X.A (assignInOrder ((assignEach ts X.env).map (·.2)) us) (fun _ s' => ∃ σ' H', Inv X pins σ' H' s' ∧ Q σ' H') X.xe s
section
variable {X : Cx} {pos : Pos}
noncomputable def gName (i : Nat) : TG := fun v σ H Q => Q (σ.set i (some v)) H
theorem pg_name {i : Nat} {x : Str} (hN : X.N.Nodup) (hi : X.N[i]? = some x) (hx : Loc X.env.scope x) (hf : X.fn x = true ∨ X.env.scope.names.lookup x = some .local := by first | exact .inl rfl | exact .inr rfl | assumption) : PG X (.Name x pos) (gName i) := by
  intro pins s σ H v u Q I r h
  exact wpAny_assign_Name (store_ok I hN hi hx r (fun s' I' => ⟨_, H, I', h⟩) hf)
noncomputable def gNil : TGs := fun vs σ H Q => vs = [] ∧ Q σ H
noncomputable def gCons (t : TG) (u : TGs) : TGs := fun vs σ H Q => ∃ v r, vs = v :: r ∧ t v σ H fun σ' H' => u r σ' H' Q
theorem pgs_nil : PGs X [] gNil := by
  intro pins s σ H vs us Q I r h
  obtain ⟨e, h⟩ := h
  subst e
  cases r
  exact assignInOrder_nil ⟨σ, H, I, h⟩
theorem pgs_cons {e : Expr} {es : List Expr} {t : TG} {u : TGs} (h1 : PG X e t) (h2 : PGs X es u)
    (hs : (assignEach (e :: es) X.env).map (·.2) = assign e X.env :: (assignEach es X.env).map (·.2) := by rfl) : PGs X (e :: es) (gCons t u) := by
  intro pins s σ H vs us Q I r h
  obtain ⟨v, vr, e1, h⟩ := h
  subst e1
  cases r with
  | cons r rr =>
    rw [hs]
    refine assignInOrder_cons (thn (h1 pins s σ H _ _ _ I r h) fun _ s1 ⟨σ1, H1, I1, q1⟩ => ?_)
    exact h2 pins s1 σ1 H1 _ _ Q I1 rr q1
noncomputable def gTup (K : PySem.W.Frag) (n : Nat) (t : TGs) : TG := fun v σ H Q => ∃ a xs, v = .ref a ∧ SqT K H a xs ∧ xs.length = n ∧ t xs σ H Q
theorem pg_tup {es : List Expr} {k : Nat} {t : TGs} {n : Nat} (hc : X.calm = true) (h : PGs X es t)
    (hn : (assignEach es X.env).length = n := by rfl) (hst : (assignEach es X.env).findIdx? (·.1) = none := by rfl) : PG X (.Tuple es k pos) (gTup X.K n t) := by
  intro pins s σ H v u Q I r hw
  obtain ⟨a, xs, e1, hq, hl, hw⟩ := hw
  subst e1
  cases r
  obtain ⟨its, rv, ht, hz⟩ := I.tuple hq
  refine assign_Tuple_tuple (I.ok.hd hc) ht (by simp [hn, ← hl, rv.length]) hst fun h' hx => ?_
  have I1 : Inv X pins σ H { s with heap := h' } := I.kept (t' := s.toks) fun b o e => hx b o (Nat.ne_of_lt (Heap.lt_size e)) e
  exact h pins _ σ H xs _ Q I1 (by simpa using rv) hw
noncomputable def tAsg (te : TE) (g : TG) : TS := fun D σ H => te σ H fun x H1 => g x σ H1 D.nx
theorem ps_set {i : Nat} {x : Str} {e : Expr} {te : TE} {pos' : Pos} (hN : X.N.Nodup) (hi : X.N[i]? = some x) (hx : Loc X.env.scope x) (he : PE X e te) (hs : swapsWith e (some (.Name x pos')) pos.line X.env = pure false := by rfl) (hf : X.fn x = true ∨ X.env.scope.names.lookup x = some .local := by first | exact .inl rfl | exact .inr rfl | assumption) :
    PS X (.Assign [.Name x pos'] e pos) (tAsg te (gName i)) := by
  intro pins s σ H D I h
  refine wpAny_Assign_Name (thn (he pins s σ H _ I h) fun v s1 ⟨y, H1, I1, r1, q1⟩ => ?_) hs
  exact store_ok I1 hN hi hx r1 (fun s2 I2 => ⟨_, H1, I2, q1⟩) hf
end
structure It where
  go : Nat → Hp → Prop
  yld : Nat → Hp → V → Hp → Prop
  stop : Nat → Hp → Prop
noncomputable def FpOk (X : Cx) (pins : List (Addr × Obj)) (H : Hp) (b : Addr) : Prop :=
  H b = none ∧ b ≠ X.env.locals ∧ b ∉ X.fs ∧ (b ∈ X.ex ∨ X.s₀.heap.objs.size ≤ b) ∧ (∀ x c, X.env.cells.lookup x = some c → c ≠ b) ∧ ∀ p ∈ X.pn ++ pins, p.1 ≠ b
theorem Inv.fpOk {X : Cx} {pins : List (Addr × Obj)} {σ : St} {H H' : Hp} {s : Shared} {b : Addr} (I : Inv X pins σ H s) (hb : s.heap.objs.size ≤ b) (hn : H' b = none) : FpOk X pins H' b := by
  refine ⟨hn, Nat.ne_of_gt (Nat.lt_of_lt_of_le I.lt hb), I.nofs hb, .inr (Nat.le_trans I.sz hb), fun x c e z => ?_, fun p hp z => ?_⟩
  · obtain ⟨v, q⟩ := I.cell x c e
    exact absurd (Nat.lt_of_lt_of_le q.lt (by rw [z]; exact hb)) (Nat.lt_irrefl _)
  · exact absurd (Nat.lt_of_lt_of_le (Heap.lt_size (I.pin p hp).1) (by rw [z]; exact hb)) (Nat.lt_irrefl _)
structure Turn (P : Program) (w : World) (K : PySem.W.Frag) (tg : Expr) (J : It) (fp : List Addr) (it : Addr) (tn : Nat → Heap → Prop) : Prop where
  mem : it ∈ fp
  obj : ∀ i h, tn i h → ∀ b ∈ fp, ∃ o, h.get? b = some o ∧ ∀ v, o.data ≠ .cell v
  keep : ∀ i h h', tn i h → (∀ b ∈ fp, ∀ o, h.get? b = some o → h'.get? b = some o) → tn i h'
  item : ∀ (X : Cx), X.prog = P → X.w = w → X.K = K → X.calm = true → ∀ (i : Nat) (pins : List (Addr × Obj)) (s : Shared) (σ : St) (H : Hp) (E : Value → Shared → Prop), Inv X pins σ H s → (∀ b ∈ fp, FpOk X pins H b) → tn i s.heap → J.go i H →
    wpAny (model P w) X.A (pyNext (.ref it)) (fun r s1 => ∃ u, r = some u ∧
      wpAny (model P w) X.A (letOwnedTupleGo tg (.ref it) u) (fun _ s2 => ∃ x H', Inv X pins σ H' s2 ∧ RelV x u ∧ J.yld i H x H' ∧ tn (i + 1) s2.heap ∧ ∀ b ∈ fp, H' b = none) E s1) E s
  done : ∀ (X : Cx), X.prog = P → X.w = w → X.K = K → X.calm = true → ∀ (i : Nat) (pins : List (Addr × Obj)) (s : Shared) (σ : St) (H : Hp) (E : Value → Shared → Prop), Inv X pins σ H s → (∀ b ∈ fp, FpOk X pins H b) → tn i s.heap → J.stop i H →
    wpAny (model P w) X.A (pyNext (.ref it)) (fun r s1 => r = none ∧ Inv X pins σ H s1) E s
  self : ∀ (A : Around) (i : Nat) (s : Shared) (Q : Value → Shared → Prop) (E : Value → Shared → Prop), tn i s.heap → Q (.ref it) s → wpAny (model P w) A (pyIter (.ref it)) Q E s
noncomputable abbrev TI := St → Hp → (It → Hp → Prop) → Prop
noncomputable def PIE (X : Cx) (pins : List (Addr × Obj)) (σ : St) (tg : Expr) (R : It → Hp → Prop) (itv : Value) (s2 : Shared) : Prop :=
  ∃ (it : Addr) (fp : List Addr) (tn : Nat → Heap → Prop) (J : It) (H' : Hp), itv = .ref it ∧ Inv X pins σ H' s2 ∧ Turn X.prog X.w X.K tg J fp it tn ∧ tn 0 s2.heap ∧ (∀ b ∈ fp, FpOk X pins H' b) ∧ R J H'
noncomputable def PI (X : Cx) (tg iter : Expr) (wi : TI) : Prop :=
  ∀ (pins : List (Addr × Obj)) (s : Shared) (σ : St) (H : Hp) (R : It → Hp → Prop), Inv X pins σ H s → wi σ H R →
    wpAny (model X.prog X.w) X.A (eval iter X.env) (fun v s1 => wpAny (model X.prog X.w) X.A (pyIter v) (PIE X pins σ tg R) X.xe s1) X.xe s
theorem go_of {M : Model} {A : Around} {E : Value → Shared → Prop} {s : Shared} {tg : Expr} {it : Addr} {u : Value} {o : Obj} {n : String} {vs : Array Value} {Q : Unit → Shared → Prop} (ho : s.heap.get? it = some o) (hc : o.cls = .type n) (hd : o.data = .fields vs)
    (hn : ["enumerate", "zip", "dict_itemiterator", "dict_reverseitemiterator", "odict_iterator", "itertools.zip_longest", "itertools.pairwise"].contains n = false) (hQ : Q () s) : wpAny M A (letOwnedTupleGo tg (.ref it) u) Q E s := by
  unfold letOwnedTupleGo
  cases tg <;> first
    | exact wpAny_pure hQ
    | (cases u <;> first
        | exact wpAny_pure hQ
        | (refine wpAny_bind (wpAny_load ho ?_)
           rw [hc, hd]
           show wpAny M A (if (["enumerate", "zip", "dict_itemiterator", "dict_reverseitemiterator", "odict_iterator", "itertools.zip_longest", "itertools.pairwise"].contains n && vs[0]? == some (rawInt _)) = true then _ else _) Q E s
           rw [if_neg (by intro h; rw [hn, Bool.false_and] at h; cases h)]
           exact wpAny_pure hQ))
noncomputable def Itl (K : PySem.W.Frag) (a : Addr) : It :=
  ⟨fun i H => ∃ xs x, SqL K H a xs ∧ xs[i]? = some x, fun i H x H' => H' = H ∧ ∀ xs, SqL K H a xs → xs[i]? = some x, fun i H => ∃ xs, SqL K H a xs ∧ xs.length ≤ i⟩
noncomputable def Itt (K : PySem.W.Frag) (a : Addr) : It :=
  ⟨fun i H => ∃ xs x, SqT K H a xs ∧ xs[i]? = some x, fun i H x H' => H' = H ∧ ∀ xs, SqT K H a xs → xs[i]? = some x, fun i H => ∃ xs, SqT K H a xs ∧ xs.length ≤ i⟩
noncomputable def Itr (lo : Int) (n : Nat) : It := ⟨fun i _ => i < n, fun i H x H' => H' = H ∧ x = .int (lo + i), fun i _ => n ≤ i⟩
theorem turn_list {P : Program} {w : World} {K : PySem.W.Frag} {tg : Expr} (a it : Addr) : Turn P w K tg (Itl K a) [it] it (fun i h => h.IsListIter it a i) where
  mem := by simp
  obj := fun i h st b hb => by
    have e : b = it := by simpa using hb
    subst e
    obtain ⟨o, e, c, d⟩ := st
    exact ⟨o, e, fun v z => by rw [d] at z; cases z⟩
  keep := fun i h h' st k => st.at fun o e => k it (by simp) o e
  item := by
    intro X hP hw hK hc i pins s σ H E I hf st hg
    subst hP hw hK
    obtain ⟨xs, x, hq, hx⟩ := hg
    obtain ⟨its, rv, p, hz⟩ := I.list hq
    obtain ⟨u, hu, ru⟩ := rv.get hx
    obtain ⟨f0, f1, f2, f3, f4, f5⟩ := hf it (by simp)
    refine wpAny_pyNext_list_item st p.isList (x := u) (by simpa using hu) fun h' st' sb => ?_
    have I1 : Inv X pins σ H { s with heap := h' } := I.turned (t' := s.toks) (fun b o hb e => (sb.2 b hb).trans e) f0 f1 f3 f4 f5
    obtain ⟨o, e, c, d⟩ := id st'
    exact ⟨u, rfl, go_of (s := { s with heap := h' }) e c d (by decide) ⟨x, H, I1, ru, ⟨rfl, fun ys hy => by rw [I.list_inj hy hq]; exact hx⟩, st', fun b hb => (hf b hb).1⟩⟩
  done := by
    intro X hP hw hK hc i pins s σ H E I hf st hg
    subst hP hw hK
    obtain ⟨xs, hq, hx⟩ := hg
    obtain ⟨its, rv, p, hz⟩ := I.list hq
    obtain ⟨f0, f1, f2, f3, f4, f5⟩ := hf it (by simp)
    have hl := rv.length
    exact wpAny_pyNext_list_end (I.ok.hd hc) st p.isList (by simp; omega) fun h' eb => ⟨rfl, I.turned (t' := s.toks) (fun b o hb e => eb b o hb e) f0 f1 f3 f4 f5⟩
  self := fun _ _ _ _ _ st h => wpAny_pyIter_listiter st h
theorem turn_tuple {P : Program} {w : World} {K : PySem.W.Frag} {tg : Expr} (a it : Addr) : Turn P w K tg (Itt K a) [it] it (fun i h => h.IsTupleIter it a i) where
  mem := by simp
  obj := fun i h st b hb => by
    have e : b = it := by simpa using hb
    subst e
    obtain ⟨o, e, c, d⟩ := st
    exact ⟨o, e, fun v z => by rw [d] at z; cases z⟩
  keep := fun i h h' st k => st.at fun o e => k it (by simp) o e
  item := by
    intro X hP hw hK hc i pins s σ H E I hf st hg
    subst hP hw hK
    obtain ⟨xs, x, hq, hx⟩ := hg
    obtain ⟨its, rv, p, hz⟩ := I.tuple hq
    obtain ⟨u, hu, ru⟩ := rv.get hx
    obtain ⟨f0, f1, f2, f3, f4, f5⟩ := hf it (by simp)
    refine wpAny_pyNext_tuple_item st (show s.heap.IsTuple a its.toArray from p) (x := u) (by simpa using hu) fun h' st' sb => ?_
    have I1 : Inv X pins σ H { s with heap := h' } := I.turned (t' := s.toks) (fun b o hb e => (sb.2 b hb).trans e) f0 f1 f3 f4 f5
    obtain ⟨o, e, c, d⟩ := id st'
    exact ⟨u, rfl, go_of (s := { s with heap := h' }) e c d (by decide) ⟨x, H, I1, ru, ⟨rfl, fun ys hy => by rw [I.tuple_inj hy hq]; exact hx⟩, st', fun b hb => (hf b hb).1⟩⟩
  done := by
    intro X hP hw hK hc i pins s σ H E I hf st hg
    subst hP hw hK
    obtain ⟨xs, hq, hx⟩ := hg
    obtain ⟨its, rv, p, hz⟩ := I.tuple hq
    obtain ⟨f0, f1, f2, f3, f4, f5⟩ := hf it (by simp)
    have hl := rv.length
    exact wpAny_pyNext_tuple_end (I.ok.hd hc) st (show s.heap.IsTuple a its.toArray from p) (by simp; omega) fun h' eb => ⟨rfl, I.turned (t' := s.toks) (fun b o hb e => eb b o hb e) f0 f1 f3 f4 f5⟩
  self := fun _ _ _ _ _ st h => wpAny_pyIter_tupleiter st h
theorem turn_range {P : Program} {w : World} {K : PySem.W.Frag} {tg : Expr} (it : Addr) (lo : Int) (n : Nat) : Turn P w K tg (Itr lo n) [it] it (fun i h => IsRangeIter h it (lo + (i : Nat) * 1) ((n : Int) - (i : Nat)) 1) where
  mem := by simp
  obj := fun i h st b hb => by
    have e : b = it := by simpa using hb
    subst e
    exact ⟨_, st, fun v z => by
      have z' : Data.fields _ = Data.cell v := z
      cases z'⟩
  keep := fun i h h' st k => k it (by simp) _ st
  item := by
    intro X hP hw hK hc i pins s σ H E I hf st hg
    subst hP hw hK
    obtain ⟨f0, f1, f2, f3, f4, f5⟩ := hf it (by simp)
    have W := Walks.range (prog := X.prog) (w := X.w) (I.ok.hd hc) it lo 1 n
    refine W.item i s _ _ hg st fun v h' tk hv st' kk => ?_
    obtain ⟨t, rfl⟩ := hv
    have I1 : Inv X pins σ H { s with heap := h', toks := tk } := I.turned (fun b o hb e => kk b o (by simpa using hb) e) f0 f1 f3 f4 f5
    refine ⟨_, rfl, go_of (s := { s with heap := h', toks := tk }) (n := "range_iterator") st' rfl rfl (by decide) ⟨.int (lo + i), H, I1, ⟨t, ?_⟩, ⟨rfl, rfl⟩, st', fun b hb => (hf b hb).1⟩⟩
    rw [Int.mul_one]
  done := by
    intro X hP hw hK hc i pins s σ H E I hf st hg
    subst hP hw hK
    obtain ⟨f0, f1, f2, f3, f4, f5⟩ := hf it (by simp)
    exact wpAny_pyNext_range_end (I.ok.hd hc) st (by have : n ≤ i := hg; omega) fun h' eb => ⟨rfl, I.turned (t' := s.toks) (fun b o hb e => eb b o hb e) f0 f1 f3 f4 f5⟩
  self := fun _ _ _ _ _ st h => wpAny_pyIter_rangeiter st h
end L2
namespace L2
open PySem PySem.Spec PyProof.Rows
section
variable {X : Cx} {tg : Expr}
theorem range_it {pins : List (Addr × Obj)} {σ : St} {H : Hp} {s : Shared} {R : It → Hp → Prop} {E : Value → Shared → Prop} {lo hi : Int} {t u v : Tok} {tk : Nat} (I : Inv X pins σ H s) (h1 : -(2 ^ 62) ≤ lo) (h2 : lo < 2 ^ 62) (h3 : -(2 ^ 62) ≤ hi) (h4 : hi < 2 ^ 62)
    (q : R (Itr lo (hi - lo).toNat) H) : wpAny (model X.prog X.w) X.A (pyIter (.ref s.heap.objs.size)) (PIE X pins σ tg R) E { s with heap := s.heap.push { cls := .type "range", data := .fields #[.int lo t, .int hi u, .int 1 v] }, toks := tk } := by
  refine wpAny_pyIter_range (IsRange.new ..) (small_one h1 h2 h3 h4) ?_
  have I1 : Inv X pins σ H { s with heap := s.heap.push { cls := .type "range", data := .fields #[.int lo t, .int hi u, .int 1 v] }, toks := tk } := I.kept fun b o e => Heap.get?_push_of_some _ e
  refine ⟨(s.heap.push { cls := .type "range", data := .fields #[.int lo t, .int hi u, .int 1 v] }).objs.size, [(s.heap.push { cls := .type "range", data := .fields #[.int lo t, .int hi u, .int 1 v] }).objs.size], _, _, H, rfl,
    I1.kept (t' := tk) fun b o e => Heap.get?_push_of_some _ e, turn_range _ lo (hi - lo).toNat, ?_, fun b hb => ?_, q⟩
  · have e1 : lo + ((0 : Nat) : Int) * 1 = lo := by simp
    have e2 : (((hi - lo).toNat : Nat) : Int) - ((0 : Nat) : Int) = Builtin.Range.rangeSize lo hi 1 := by rw [rangeSize_one]; split <;> omega
    show IsRangeIter _ _ (lo + ((0 : Nat) : Int) * 1) ((((hi - lo).toNat : Nat) : Int) - ((0 : Nat) : Int)) 1
    rw [e1, e2]
    exact Heap.get?_push_size _ rfl
  · have e : b = (s.heap.push { cls := .type "range", data := .fields #[.int lo t, .int hi u, .int 1 v] }).objs.size := by simpa using hb
    subst e
    exact I1.fpOk (Nat.le_refl _) (I1.hok.fresh (Nat.le_refl _))
noncomputable def iRng1 (ta : TA) : TI := fun σ H R => ta σ H fun vs H1 => ∃ j : Int, vs = [.int j] ∧ -(2 ^ 62) ≤ j ∧ j < 2 ^ 62 ∧ R (Itr 0 j.toNat) H1
theorem pi_range1 {a : Expr} {ta : TA} {p pos : Pos} (hg : Gl X "range") (hm : X.mg "range" = none) (ha : PA X [a] ta) (hs : starEach [a] X.env = [(false, eval a X.env)] := by rfl) : PI X tg (.Call (.Name "range" p) [a] [] pos) (iRng1 ta) := by
  intro pins s σ H R I h
  refine Call_ (ld_blt I hg hm boot_range (PyProof.Rows.callWith_type1 (thn (ha pos pins s σ H _ I h) fun us s1 ⟨vs, H1, I1, r1, q1⟩ => ?_) hs rfl))
  obtain ⟨j, e, q1, q2, q⟩ := q1
  subst e
  cases r1 with
  | cons r rr =>
    cases rr
    obtain ⟨t, rfl⟩ := r
    exact call_range_1 (range_it I1 (by omega) (by omega) q1 q2 (by simpa using q))
noncomputable def tFor (wi : TI) (g : TG) (tb : TS) : TS := fun D σ H => wi σ H fun J H1 => ∃ W : Nat → Nat → St → Hp → Prop, (∃ m, W 0 m σ H1) ∧ ∀ i m σ H, W i m σ H →
  (J.stop i H ∧ D.nx σ H) ∨ (J.go i H ∧ ∃ N : St → Hp → Prop, (∀ σ' H', N σ' H' → ∃ m', m' < m ∧ W (i + 1) m' σ' H') ∧ ∀ x H', J.yld i H x H' → g x σ H' fun σ2 H2 => tb { D with nx := N, ct := N, bk := D.nx } σ2 H2)
noncomputable def pinsAt (fp : List Addr) (h : Heap) : List (Addr × Obj) := fp.filterMap fun b => (h.get? b).map fun o => (b, o)
theorem mem_pinsAt {fp : List Addr} {h : Heap} {b : Addr} {o : Obj} (hb : b ∈ fp) (e : h.get? b = some o) : (b, o) ∈ pinsAt fp h := List.mem_filterMap.mpr ⟨b, hb, by rw [e]; rfl⟩
theorem of_pinsAt {fp : List Addr} {h : Heap} {p : Addr × Obj} (hp : p ∈ pinsAt fp h) : p.1 ∈ fp ∧ h.get? p.1 = some p.2 := by
  obtain ⟨b, hb, e⟩ := List.mem_filterMap.mp hp
  cases q : h.get? b with
  | none => rw [q] at e; cases e
  | some o =>
    rw [q] at e
    have e' : (b, o) = p := Option.some.inj e
    subst e'
    exact ⟨hb, q⟩
theorem Inv.pinned {pins : List (Addr × Obj)} {σ : St} {H : Hp} {s : Shared} {fp : List Addr} (I : Inv X pins σ H s) (hf : ∀ b ∈ fp, FpOk X pins H b) (ho : ∀ b ∈ fp, ∃ o, s.heap.get? b = some o ∧ ∀ v, o.data ≠ .cell v) : Inv X (pins ++ pinsAt fp s.heap) σ H s :=
  I.pins_of fun p hp => (List.mem_append.mp hp).elim (fun z => I.pin p (List.mem_append_right _ z)) fun z => by
    obtain ⟨hb, e⟩ := of_pinsAt z
    obtain ⟨f0, f1, f2, _⟩ := hf p.1 hb
    obtain ⟨o, e', d⟩ := ho p.1 hb
    rw [e] at e'; cases e'
    exact ⟨e, f0, f1, f2, d⟩
theorem Inv.unpinned {pins pl : List (Addr × Obj)} {σ : St} {H : Hp} {s : Shared} (I : Inv X (pins ++ pl) σ H s) : Inv X pins σ H s := I.pins_of fun p hp => I.pin p (List.mem_append_right _ (List.mem_append_left _ hp))
theorem ps_for {iter : Expr} {body : List Stmt} {wi : TI} {g : TG} {tb : TS} {pos : Pos} (hp : PassesOwn (model X.prog X.w) X.A X.env X.xe) (hc : X.calm = true) (hi : PI X tg iter wi) (hg : PG X tg g) (hb : PSs X body tb)
    (hs : ∀ x, foldedSetIterable iter X.env x = pure x := by intro _; rfl) : PS X (.For tg iter body [] pos) (tFor wi g tb) := by
  intro pins s σ H D I h
  refine wpAny_For (thn (hi pins s σ H _ I h) fun v s1 h1 => thn h1 fun itv s2 h2 => ?_) hs
  obtain ⟨it, fp, tn, J, H2, e, I2, T, st2, f2, W, ⟨m0, w0⟩, turn⟩ := h2
  subst e
  have stat : ∀ {H' : Hp}, (∀ b ∈ fp, H' b = none) → ∀ b ∈ fp, FpOk X pins H' b := fun hn b hb => ⟨hn b hb, (f2 b hb).2⟩
  refine codeAny_forLoop_any (fun n s' => ∃ i σ' H', Inv X pins σ' H' s' ∧ tn i s'.heap ∧ (∀ b ∈ fp, H' b = none) ∧ W i n σ' H') ?_ m0 ⟨0, σ, H2, I2, st2, fun b hb => (f2 b hb).1, w0⟩
  rintro n s3 ⟨i, σ3, H3, I3, st3, fr3, w3⟩
  rcases turn i n σ3 H3 w3 with ⟨stop, qn⟩ | ⟨go, N, hN, step⟩
  · refine wpAny_passesOwn hp (thn (T.done X rfl rfl rfl hc i pins s3 σ3 H3 X.xe I3 (stat fr3) st3 stop) fun r s4 ⟨hr, I4⟩ => ?_)
    subst hr
    exact wpAny_execs_nil ⟨σ3, H3, I4, qn⟩
  · refine wpAny_passesOwn hp (thn (T.item X rfl rfl rfl hc i pins s3 σ3 H3 X.xe I3 (stat fr3) st3 go) fun r s4 ⟨u, hr, h4⟩ => ?_)
    subst hr
    refine wpAny_passesOwn hp (thn h4 fun _ s5 ⟨x, H5, I5, r5, y5, st5, fr5⟩ => ?_)
    have I5' := I5.pinned (stat fr5) (T.obj _ _ st5)
    refine wpAny_passesOwn hp (thn (hg _ s5 σ3 H5 x u _ I5' r5 (step x H5 y5)) fun _ s6 ⟨σ6, H6, I6, q6⟩ => ?_)
    refine wpAny_passesOwn hp (thn (hb _ s6 σ6 H6 _ I6 q6) fun f s7 q7 => ?_)
    have again : ∀ {σ7 : St} {H7 : Hp}, Inv X (pins ++ pinsAt fp s5.heap) σ7 H7 s7 → N σ7 H7 → ∃ m, m < n ∧ ∃ i σ' H', Inv X pins σ' H' s7 ∧ tn i s7.heap ∧ (∀ b ∈ fp, H' b = none) ∧ W i m σ' H' := fun {σ7 H7} I7 n7 => by
      obtain ⟨m', hm, w7⟩ := hN σ7 H7 n7
      refine ⟨m', hm, i + 1, σ7, H7, I7.unpinned, T.keep _ _ _ st5 fun b hb o e => (I7.pin (b, o) (List.mem_append_right _ (List.mem_append_right _ (mem_pinsAt hb e)))).1, fun b hb => ?_, w7⟩
      obtain ⟨o, e, d⟩ := T.obj _ _ st5 b hb
      exact (I7.pin (b, o) (List.mem_append_right _ (List.mem_append_right _ (mem_pinsAt hb e)))).2.1
    cases f with
    | next => obtain ⟨σ7, H7, I7, n7⟩ := q7; exact again I7 n7
    | cont => obtain ⟨σ7, H7, I7, n7⟩ := q7; exact again I7 n7
    | brk => obtain ⟨σ7, H7, I7, q7⟩ := q7; exact ⟨σ7, H7, I7.unpinned, q7⟩
    | ret v => obtain ⟨x7, σ7, H7, I7, r7, q7⟩ := q7; exact ⟨x7, σ7, H7, I7.unpinned, r7, q7⟩
end
end L2
namespace L2
open PySem PySem.Spec PyProof.Rows
noncomputable abbrev R2 := V → V → Hp → VK → Prop
noncomputable def OpR (X : Cx) (f : Value → Value → Sem Value) (r : R2) : Prop :=
  ∀ (pins : List (Addr × Obj)) (s : Shared) (σ : St) (H : Hp) (x y : V) (v u : Value) (Q : VK), Inv X pins σ H s → RelV x v → RelV y u → r x y H Q →
    wpAny (model X.prog X.w) X.A (f v u) (EP X pins σ Q) X.xe s
noncomputable def UnR (X : Cx) (f : Value → Sem Value) (r : V → Hp → VK → Prop) : Prop :=
  ∀ (pins : List (Addr × Obj)) (s : Shared) (σ : St) (H : Hp) (x : V) (v : Value) (Q : VK), Inv X pins σ H s → RelV x v → r x H Q →
    wpAny (model X.prog X.w) X.A (f v) (EP X pins σ Q) X.xe s
noncomputable def CallR (X : Cx) (f : Value) (r : List V → Hp → VK → Prop) : Prop :=
  ∀ (pins : List (Addr × Obj)) (s : Shared) (σ : St) (H : Hp) (xs : List V) (us : List Value) (Q : VK), Inv X pins σ H s → Vals xs us → r xs H Q →
    wpAny (model X.prog X.w) X.A (call f us) (EP X pins σ Q) X.xe s
noncomputable def TruR (X : Cx) (r : V → Hp → (Bool → Hp → Prop) → Prop) : Prop :=
  ∀ (pins : List (Addr × Obj)) (s : Shared) (σ : St) (H : Hp) (x : V) (v : Value) (Q : Bool → Hp → Prop), Inv X pins σ H s → RelV x v → r x H Q →
    wpAny (model X.prog X.w) X.A (truthy v) (TP X pins σ Q) X.xe s
noncomputable def tOp (r : R2) (ta tb : TE) : TE := fun σ H Q => ta σ H fun x H1 => tb σ H1 fun y H2 => r x y H2 Q
noncomputable def tUn (r : V → Hp → VK → Prop) (ta : TE) : TE := fun σ H Q => ta σ H fun x H1 => r x H1 Q
noncomputable def rI (C : Int → Int → Prop) (g : Int → Int → V) : R2 := fun x y H Q => ∃ i j, x = .int i ∧ y = .int j ∧ C i j ∧ Q (g i j) H
noncomputable def rI0 (g : Int → Int → V) : R2 := fun x y H Q => ∃ i j, x = .int i ∧ y = .int j ∧ Q (g i j) H
noncomputable def rU (g : Int → V) : V → Hp → VK → Prop := fun x H Q => ∃ i, x = .int i ∧ Q (g i) H
section
variable {X : Cx} {a b c : Expr} {ta tb tc : TE} {pos : Pos}
theorem binT (ha : PE X a ta) (hb : PE X b tb) {pins : List (Addr × Obj)} {s : Shared} {σ : St} {H : Hp} {R : V → V → Hp → Prop} (I : Inv X pins σ H s)
    (h : ta σ H fun x H1 => tb σ H1 fun y H2 => R x y H2) {Q : Value → Shared → Prop} {f : Value → Value → Sem Value}
    (hf : ∀ v u s2 x y H2, Inv X pins σ H2 s2 → RelV x v → RelV y u → R x y H2 → wpAny (model X.prog X.w) X.A (f v u) Q X.xe s2) :
    wpAny (model X.prog X.w) X.A (eval a X.env) (fun v s₁ => wpAny (model X.prog X.w) X.A (eval b X.env) (fun u s₂ => wpAny (model X.prog X.w) X.A (f v u) Q X.xe s₂) X.xe s₁) X.xe s := by
  refine thn (ha pins s σ H _ I h) fun v s1 ⟨x, H1, I1, r1, q1⟩ => ?_
  refine thn (hb pins s1 σ H1 _ I1 q1) fun u s2 ⟨y, H2, I2, r2, q2⟩ => ?_
  exact hf v u s2 x y H2 I2 r1 r2 q2
theorem pe_op {op : Operator} {r : R2} (ho : OpR X (binaryOp op) r) (ha : PE X a ta) (hb : PE X b tb) : PE X (.BinOp a op b pos) (tOp r ta tb) := by
  intro pins s σ H Q I h
  exact wpAny_BinOp (binT ha hb I h fun v u s2 x y H2 I2 rx ry q => ho pins s2 σ H2 x y v u Q I2 rx ry q)
theorem pe_un {op : UnaryOp} {r : V → Hp → VK → Prop} (ho : UnR X (unaryOp op) r) (ha : PE X a ta) : PE X (.UnaryOp op a pos) (tUn r ta) := by
  intro pins s σ H Q I h
  exact UnaryOp_ (thn (ha pins s σ H _ I h) fun v s1 ⟨x, H1, I1, r1, q1⟩ => ho pins s1 σ H1 x v Q I1 r1 q1)
theorem opI {f : Value → Value → Sem Value} {C : Int → Int → Prop} {g : Int → Int → Int}
    (rule : ∀ (i j : Int) (t u : Tok) (s : Shared) (Q : Value → Shared → Prop) (E : Value → Shared → Prop), C i j → Q (.int (g i j) s.toks) { s with toks := s.toks + 1 } → wpAny (model X.prog X.w) X.A (f (.int i t) (.int j u)) Q E s) :
    OpR X f (rI C fun i j => .int (g i j)) := by
  intro pins s σ H x y v u Q I rx ry h
  obtain ⟨i, j, rfl, rfl, hc, q⟩ := h
  obtain ⟨t, rfl⟩ := rx
  obtain ⟨t', rfl⟩ := ry
  exact rule i j t t' s _ _ hc ⟨.int (g i j), H, I.tok _, ⟨_, rfl⟩, q⟩
theorem opI0 {f : Value → Value → Sem Value} {g : Int → Int → Int}
    (rule : ∀ (i j : Int) (t u : Tok) (s : Shared) (Q : Value → Shared → Prop) (E : Value → Shared → Prop), Q (.int (g i j) s.toks) { s with toks := s.toks + 1 } → wpAny (model X.prog X.w) X.A (f (.int i t) (.int j u)) Q E s) :
    OpR X f (rI0 fun i j => .int (g i j)) := by
  intro pins s σ H x y v u Q I rx ry h
  obtain ⟨i, j, rfl, rfl, q⟩ := h
  obtain ⟨t, rfl⟩ := rx
  obtain ⟨t', rfl⟩ := ry
  exact rule i j t t' s _ _ ⟨.int (g i j), H, I.tok _, ⟨_, rfl⟩, q⟩
theorem opB0 {f : Value → Value → Sem Value} {g : Int → Int → Bool}
    (rule : ∀ (i j : Int) (t u : Tok) (s : Shared) (Q : Value → Shared → Prop) (E : Value → Shared → Prop), Q (.bool (g i j)) s → wpAny (model X.prog X.w) X.A (f (.int i t) (.int j u)) Q E s) :
    OpR X f (rI0 fun i j => .bl (g i j)) := by
  intro pins s σ H x y v u Q I rx ry h
  obtain ⟨i, j, rfl, rfl, q⟩ := h
  obtain ⟨t, rfl⟩ := rx
  obtain ⟨t', rfl⟩ := ry
  exact rule i j t t' s _ _ ⟨.bl (g i j), H, I, rfl, q⟩
noncomputable def CMul (i j : Int) : Prop := (-(2 ^ 64) < i ∧ i < 2 ^ 64) ∨ (-(2 ^ 64) < j ∧ j < 2 ^ 64)
theorem CMul.ok {i j : Int} (h : CMul i j) : IntMulOk i j := by
  rcases h with ⟨h1, h2⟩ | ⟨h1, h2⟩
  · exact .of_left (intBits_le_64 h1 h2)
  · exact .of_right (intBits_le_64 h1 h2)
theorem op_add : OpR X (binaryOp .Add) (rI0 fun i j => .int (i + j)) := opI0 fun _ _ _ _ _ _ _ q => add_int q
theorem op_sub : OpR X (binaryOp .Sub) (rI0 fun i j => .int (i - j)) := opI0 fun _ _ _ _ _ _ _ q => sub_int q
theorem op_mul : OpR X (binaryOp .Mult) (rI CMul fun i j => .int (i * j)) := opI fun _ _ _ _ _ _ _ hc q => mul_int q hc.ok
theorem op_mod : OpR X (binaryOp .Mod) (rI (fun _ j => 0 < j) fun i j => .int (i % j)) := opI fun i j _ _ _ _ _ hc q => by
  have h1 : (0 : Int) < j := hc
  exact mod_int' (by omega) (by rw [Int.fmod_eq_emod_of_nonneg i (by omega)]; exact q)
theorem unI {f : Value → Sem Value} {g : Int → Int}
    (rule : ∀ (i : Int) (t : Tok) (s : Shared) (Q : Value → Shared → Prop) (E : Value → Shared → Prop), Q (.int (g i) s.toks) { s with toks := s.toks + 1 } → wpAny (model X.prog X.w) X.A (f (.int i t)) Q E s) :
    UnR X f (rU fun i => .int (g i)) := by
  intro pins s σ H x v Q I rx h
  obtain ⟨i, rfl, q⟩ := h
  obtain ⟨t, rfl⟩ := rx
  exact rule i t s _ _ ⟨.int (g i), H, I.tok _, ⟨_, rfl⟩, q⟩
theorem un_neg : UnR X (unaryOp .USub) (rU fun i => .int (-i)) := unI fun _ _ _ _ _ q => neg_int q
end
section
variable {X : Cx} {a b c : Expr} {ta tb tc : TE} {pos : Pos}
theorem op_lt : OpR X (compareOp .Lt) (rI0 fun i j => .bl (decide (i < j))) := opB0 fun _ _ _ _ _ _ _ q => lt_int q
theorem op_le : OpR X (compareOp .LtE) (rI0 fun i j => .bl (decide (i ≤ j))) := opB0 fun _ _ _ _ _ _ _ q => le_int q
theorem op_gt : OpR X (compareOp .Gt) (rI0 fun i j => .bl (decide (j < i))) := opB0 fun _ _ _ _ _ _ _ q => gt_int q
theorem op_ge : OpR X (compareOp .GtE) (rI0 fun i j => .bl (decide (j ≤ i))) := opB0 fun _ _ _ _ _ _ _ q => ge_int q
noncomputable def isObj : HO → Bool
  | .lst _ => true
  | .ins _ _ _ => true
  | _ => false
theorem OpR.or {f : Value → Value → Sem Value} {r r' : R2} (h : OpR X f r) (h' : OpR X f r') : OpR X f (fun x y H Q => r x y H Q ∨ r' x y H Q) := by
  intro pins s σ H x y v u Q I rx ry q
  rcases q with q | q
  · exact h pins s σ H x y v u Q I rx ry q
  · exact h' pins s σ H x y v u Q I rx ry q
theorem nomark (b : Expr) {op : CmpOp} (h : op ≠ .In := by decide) (h2 : op ≠ .NotIn := by decide) : behindInMarks op b = false := by
  have e1 : (op == CmpOp.In) = false := by cases op <;> first | rfl | exact absurd rfl h
  have e2 : (op == CmpOp.NotIn) = false := by cases op <;> first | rfl | exact absurd rfl h2
  cases b <;> simp [behindInMarks, e1, e2]
theorem pe_cmpR {op : CmpOp} {r : R2} (ho : OpR X (compareOp op) r) (ha : PE X a ta) (hb : PE X b tb) (hm : behindInMarks op b = false) : PE X (.Compare a [op] [b] pos) (tOp r ta tb) := by
  intro pins s σ H Q I h
  exact wpAny_Compare1 (binT ha hb I h fun v u s2 x y H2 I2 rx ry q => ho pins s2 σ H2 x y v u Q I2 rx ry q) hm
noncomputable def tTest (t : TE) : TT := fun σ H Q => t σ H fun x H' => ∃ k, x = .bl k ∧ Q k H'
theorem pt_cmpR {op : CmpOp} {r : R2} (ho : OpR X (compareOp op) r) (ha : PE X a ta) (hb : PE X b tb) (hm : behindInMarks op b = false) : PT X (.Compare a [op] [b] pos) (tTest (tOp r ta tb)) := by
  intro pins s σ H Q I h
  refine wpAny_isTrue_Compare1 (thn (ha pins s σ H _ I h) fun v s1 ⟨x, H1, I1, r1, q1⟩ => thn (hb pins s1 σ H1 _ I1 q1) fun u s2 ⟨y, H2, I2, r2, q2⟩ =>
    thn (ho pins s2 σ H2 x y v u _ I2 r1 r2 q2) fun c s3 ⟨z, H3, I3, r3, k, e, q3⟩ => ?_) hm
  subst e
  cases r3
  exact wpAny_truthy_bool ⟨H3, I3, q3⟩
noncomputable def tChain (r r' : R2) (ta tb tc : TE) : TE := fun σ H Q => ta σ H fun x H1 => tb σ H1 fun y H2 => r x y H2 fun z H3 => ∃ k, z = .bl k ∧
  (if k = true then tc σ H3 fun w' H4 => r' y w' H4 Q else Q (.bl false) H3)
theorem pt_chain {op op' : CmpOp} {r r' : R2} (ho : OpR X (compareOp op) r) (ho' : OpR X (compareOp op') r') (ha : PE X a ta) (hb : PE X b tb) (hc : PE X c tc)
    (hm : lastMarks [op, op'] [b, c] = false := by with_unfolding_all rfl) : PT X (.Compare a [op, op'] [b, c] pos) (tTest (tChain r r' ta tb tc)) := by
  intro pins s σ H Q I h
  refine isTrue_chain (thn (ha pins s σ H _ I h) fun v s1 ⟨x, H1, I1, r1, q1⟩ => test_link (thn (hb pins s1 σ H1 _ I1 q1) fun u s2 ⟨y, H2, I2, r2, q2⟩ =>
    thn (ho pins s2 σ H2 x y v u _ I2 r1 r2 q2) fun d s3 ⟨z, H3, I3, r3, k, e, q3⟩ => ?_)) hm
  subst e
  cases r3
  refine wpAny_truthy_bool ?_
  cases k with
  | false =>
    obtain ⟨k', e', q'⟩ := q3
    cases e'
    exact ite_ff ⟨H3, I3, q'⟩
  | true =>
    refine ite_tt (test_last (thn (hc pins s3 σ H3 _ I3 q3) fun w' s4 ⟨z', H4, I4, r4, q4⟩ => thn (ho' pins s4 σ H4 y z' u w' _ I4 r2 r4 q4) fun d' s5 ⟨z2, H5, I5, r5, k2, e2, q5⟩ => ?_))
    subst e2
    cases r5
    exact wpAny_truthy_bool ⟨H5, I5, q5⟩
noncomputable def TruV (K : PySem.W.Frag) (x : V) (H : Hp) (k : Bool) : Prop :=
  match x with
  | .non => k = false
  | .bl b => k = b
  | .int i => k = (i != 0)
  | .str y => y.length ≤ sizeLine ∧ k = ((y.length : Int) != 0)
  | .byt y => y.size ≤ sizeLine ∧ k = ((y.size : Int) != 0)
  | .ref p => (∃ xs, SqL K H p xs ∧ k = !xs.isEmpty) ∨ (∃ xs, SqT K H p xs ∧ k = !xs.isEmpty) ∨ ∃ kvs, H p = some (.dK kvs) ∧ k = !kvs.isEmpty
  | _ => False
theorem isEmpty_kv {κ : Type} {kvs : List (κ × V)} {vs : List (κ × Value)} (r : KV kvs vs) : (!vs.isEmpty) = !kvs.isEmpty := by
  cases r <;> rfl
theorem isEmpty_of {xs : List V} {its : List Value} (r : Vals xs its) : (!its.toArray.isEmpty) = !xs.isEmpty := by
  cases r <;> simp
theorem line63 : (sizeLine : Nat) < 2 ^ 63 := by rw [sizeLine_eq]; decide
theorem tru_ok : TruR X (fun x H Q => ∃ k, TruV X.K x H k ∧ Q k H) := by
  intro pins s σ H x v Q I rx h
  obtain ⟨k, e, q⟩ := h
  have hl := line63
  have hs : sizeLine = 16777216 := sizeLine_eq
  cases x with
  | non =>
    cases rx
    have e' : k = false := e
    subst e'
    exact truthy_none ⟨H, I, q⟩
  | bl b =>
    cases rx
    have e' : k = b := e
    subst e'
    exact wpAny_truthy_bool ⟨H, I, q⟩
  | int i =>
    obtain ⟨t, rfl⟩ := rx
    have e' : k = (i != 0) := e
    subst e'
    exact PySem.P.truthy_int ⟨H, I, q⟩
  | str y =>
    obtain ⟨t, rfl⟩ := rx
    obtain ⟨hy, e'⟩ : y.length ≤ sizeLine ∧ k = ((y.length : Int) != 0) := e
    subst e'
    exact PySem.P.truthy_str (by omega) ⟨H, I.tok _, q⟩
  | byt y =>
    obtain ⟨t, rfl⟩ := rx
    obtain ⟨hy, e'⟩ : y.size ≤ sizeLine ∧ k = ((y.size : Int) != 0) := e
    subst e'
    exact PySem.W.truthy_bytes (by omega) ⟨H, I.tok _, q⟩
  | ref p =>
    cases rx
    have e' : (∃ xs, SqL X.K H p xs ∧ k = !xs.isEmpty) ∨ (∃ xs, SqT X.K H p xs ∧ k = !xs.isEmpty) ∨ ∃ kvs, H p = some (.dK kvs) ∧ k = !kvs.isEmpty := e
    rcases e' with ⟨xs, hx, e'⟩ | ⟨xs, hx, e'⟩ | ⟨kvs, hx, e'⟩
    · subst e'
      obtain ⟨its, r, pl, hz⟩ := I.list hx
      have hlen := r.length
      exact wpAny_truthy_list pl.isList (by simp only [List.size_toArray]; omega) ⟨H, I.tok _, by rw [isEmpty_of r]; exact q⟩
    · subst e'
      obtain ⟨its, r, pl, hz⟩ := I.tuple hx
      have hlen := r.length
      exact truthy_tuple pl (by simp only [List.size_toArray]; omega) ⟨H, I.tok _, by rw [isEmpty_of r]; exact q⟩
    · subst e'
      obtain ⟨hz, hS, vs, r, m⟩ : kvs.length ≤ sizeLine ∧ (p == sysModules) = false ∧ ∃ vs, KV kvs vs ∧ s.heap.DictOf (mixKind X.prog X.w) p vs := I.hok p _ hx
      have hlen : kvs.length = vs.length := Paired.length r
      exact wpAny_truthy_dict hS m (by omega) ⟨H, I.tok _, by rw [isEmpty_kv r]; exact q⟩
  | _ => exact (show False from e).elim
theorem pt_truth (ha : PE X a ta) (he : ∀ whole, isTrue a X.env whole = (do let v ← whole; standAt a.pos; holding [v] (truthy v))) :
    PT X a (fun σ H Q => ta σ H fun x H' => ∃ k, TruV X.K x H' k ∧ Q k H') := by
  intro pins s σ H Q I h
  exact isTrue_plain (thn (ha pins s σ H _ I h) fun v s1 ⟨x, H1, I1, r1, q1⟩ => tru_ok pins s1 σ H1 x v Q I1 r1 q1) (he _)
theorem op_add_str : OpR X (binaryOp .Add) (fun x y H Q => ∃ i j, x = .str i ∧ y = .str j ∧ i.length + j.length ≤ sizeLine ∧ Q (.str (i ++ j)) H) := by
  intro pins s σ H x y v u Q I rx ry h
  obtain ⟨i, j, rfl, rfl, hz, q⟩ := h
  obtain ⟨t, rfl⟩ := rx
  obtain ⟨t', rfl⟩ := ry
  exact add_str (fun t' tk => ⟨.str (i ++ j), H, I.tok _, ⟨_, rfl⟩, q⟩) hz
theorem vals1 {x : V} {us : List Value} (r : Vals [x] us) : ∃ u, us = [u] ∧ RelV x u := by
  cases r with
  | cons r1 r2 => cases r2; exact ⟨_, rfl, r1⟩
theorem vals2 {x y : V} {us : List Value} (r : Vals [x, y] us) : ∃ u w', us = [u, w'] ∧ RelV x u ∧ RelV y w' := by
  cases r with
  | cons r1 r2 =>
    cases r2 with
    | cons r3 r4 => cases r4; exact ⟨_, _, rfl, r1, r3⟩
theorem call_abs : CallR X (.builtin "abs") (fun xs H Q => ∃ i, xs = [.int i] ∧ Q (.int (if i < 0 then -i else i)) H) := by
  intro pins s σ H xs us Q I r h
  obtain ⟨i, rfl, q⟩ := h
  obtain ⟨u, rfl, t, rfl⟩ := vals1 r
  exact call_abs_int fun u tk => ⟨.int (if i < 0 then -i else i), H, I.tok _, ⟨_, rfl⟩, q⟩
theorem call_max2 (hc : X.calm = true) : CallR X (.builtin "max") (fun xs H Q => ∃ i j, xs = [.int i, .int j] ∧ Q (.int (if j > i then j else i)) H) := by
  intro pins s σ H xs us Q I r h
  obtain ⟨i, j, rfl, q⟩ := h
  obtain ⟨u, w', rfl, ⟨t, rfl⟩, ⟨t', rfl⟩⟩ := vals2 r
  refine max_two_ints (I.ok.hd hc) fun h' tk k => ⟨_, H, I.kept k, ?_, q⟩
  by_cases hj : j > i
  · rw [if_pos hj, if_pos hj]; exact ⟨_, rfl⟩
  · rw [if_neg hj, if_neg hj]; exact ⟨_, rfl⟩
theorem call_min2 (hc : X.calm = true) : CallR X (.builtin "min") (fun xs H Q => ∃ i j, xs = [.int i, .int j] ∧ Q (.int (if j < i then j else i)) H) := by
  intro pins s σ H xs us Q I r h
  obtain ⟨i, j, rfl, q⟩ := h
  obtain ⟨u, w', rfl, ⟨t, rfl⟩, ⟨t', rfl⟩⟩ := vals2 r
  refine min_two_ints (I.ok.hd hc) fun h' tk k => ⟨_, H, I.kept k, ?_, q⟩
  by_cases hj : j < i
  · rw [if_pos hj, if_pos hj]; exact ⟨_, rfl⟩
  · rw [if_neg hj, if_neg hj]; exact ⟨_, rfl⟩
end
end L2
namespace L2
open PySem PySem.Spec PyProof.Rows
structure ObjM (h : Heap) (x dx C : Addr) (mA : Str → Option Value) : Prop where
  obj : h.get? x = some (PySem.W.instObj C dx)
  ns : h.Ns1 dx mA
  ne : dx ≠ x
theorem lookIn_ns {h : Heap} {dx : Addr} {mA : Str → Option Value} (n : h.Ns1 dx mA) : ∃ od, h.get? dx = some od ∧ ∀ name, PySem.W.lookIn name od = some (mA name) := by
  obtain ⟨o, es, ep, ho, hd, hk, _, hm⟩ := n
  refine ⟨o, ho, fun name => ?_⟩
  have e := hm name
  unfold nsFind findBy at e
  rw [← Array.find?_toList] at e
  unfold PySem.W.lookIn
  rw [hd]
  dsimp only
  split
  · rename_i y q
    rw [q] at e
    exact congrArg some e
  · rename_i q
    rw [q] at e
    have a : es.toList.any (·.refKey) = false := by
      rw [List.any_eq_false]
      intro y hy
      obtain ⟨z, t, hkey⟩ := hk y (Array.mem_toList_iff.mp hy)
      simp [DictEntry.refKey, hkey]
    have a' : ¬ es.toList.any (·.refKey) = true := by rw [a]; exact Bool.false_ne_true
    rw [if_neg a']
    exact congrArg some e
theorem ObjM.look {h : Heap} {x dx C : Addr} {mA : Str → Option Value} (I : ObjM h x dx C mA) : ∃ od, PySem.W.InstAt h x (PySem.W.instObj C dx) C (some od) ∧ ∀ name, PySem.W.lookIn name od = some (mA name) :=
  let ⟨od, ho, hl⟩ := lookIn_ns I.ns
  ⟨od, ⟨I.obj, rfl, rfl, ho⟩, hl⟩
section
variable {prog : Program} {w : World} {A : Around} {E : Value → Shared → Prop} {s : Shared} {K : PySem.W.Frag} {x dx C f : Addr} {mA : Str → Option Value} {name : Str} {v : Value}
theorem get_meth {pl : Sem Bool} {Q : Value × List Value → Shared → Prop} (X : K.In s.heap) (I : ObjM s.heap x dx C mA) (hg : PySem.W.plainGet K C name = true)
    (hf : PySem.W.findIn K (.ref C) name = some (some (.ref f))) (ht : PySem.W.isFn K (.ref f) = true) (hv : mA name = none) (h : Q (.ref f, [.ref x]) s) :
    wpAny (model prog w) A (getMethod (.ref x) name pl) Q E s := by
  obtain ⟨od, J, hl⟩ := I.look
  exact PySem.W.method_fn X J (PySem.W.plainGet_of hg).1 (PySem.W.plainGet_of hg).2 hf (beq_iff_eq.mp ht) (by show (PySem.W.lookIn name od).map (·.isSome) = some false; rw [hl, hv]; rfl) h
theorem make_map {R : Result → Shared → Prop} {vs : List Value} {kw : List (Str × Value)} (X : K.In s.heap) (hm : PySem.W.makesIn K C = true)
    (hi : PySem.W.findIn K (.ref C) "__init__" = some (some (.ref f))) (hf : PySem.W.typeIn K (.ref f) = some (.type "function"))
    (h : codeAny (model prog w) (A.under (.builtin "type.__call__" ⟨.ref C :: vs, kw⟩)) (.call (.ref f) ⟨.ref (s.heap.objs.size + 1) :: vs, kw⟩) (PySem.W.InitBack (s.heap.objs.size + 1) R)
      { s with heap := (s.heap.push PySem.W.emptyDict).push (PySem.W.instObj C s.heap.objs.size) }) :
    codeAny (model prog w) A (.call (.ref C) ⟨vs, kw⟩) R s := by
  obtain ⟨hh, g, d, t, os⟩ := s
  exact PySem.W.make_core (PySem.W.makes_of X hm) (PySem.W.looks_findIn X hi) (fun self => PySem.W.bind_fn X self hf) (.inl rfl) h
end
theorem RelO.none_of {o : Option Value} (r : RelO none o) : o = none := by
  cases o with
  | none => rfl
  | some u => exact (show False from r).elim
section
variable {P : Program} {w : World} {H H' : Hp} {h h' : Heap} {a C dx : Addr} {fs fs' : List (Str × V)}
theorem ins_get (hok : HOk P w H h) (e : H a = some (.ins C dx fs)) : ∃ mA, ObjM h a dx C mA ∧ (∀ f, RelO (fs.lookup f) (mA f)) ∧ PySem.Within mA (fs.map (·.1)) ∧ fs.length ≤ 1000 ∧ H dx = some (.own a) := by
  obtain ⟨d, z, ne, ob, mA, n, r, q⟩ := (show ObjOk P w H h a (.ins C dx fs) from hok a _ e)
  exact ⟨mA, ⟨ob, n, ne⟩, r, q, z, d⟩
end
structure Cls (K : PySem.W.Frag) (C : Addr) : Prop where
  pg : PySem.W.plainGet K C Str.empty = true
  hd : PySem.W.hasDictIn K C = true
  po : PySem.W.plainOver K C = true
  sa : PySem.W.findIn K (.ref C) "__setattr__" = some (some (.builtin "object.__setattr__"))
theorem Cls.get {K : PySem.W.Frag} {C : Addr} (c : Cls K C) (f : Str) : PySem.W.plainGet K C f = true := c.pg
noncomputable def NoAttr (K : PySem.W.Frag) (C : Addr) (f : Str) : Prop := PySem.W.findIn K (.ref C) f = some none
structure Con (K : PySem.W.Frag) (C : Addr) (f : Str) (v : V) (u : Value) : Prop where
  at_ : PySem.W.findIn K (.ref C) f = some (some u)
  rel : RelV v u
  get : PySem.W.specialIn K u "__get__" = some none
  cp : PySem.W.copiedNames.contains f = false
structure Meth (K : PySem.W.Frag) (C : Addr) (m : Str) (f : Addr) : Prop where
  at_ : PySem.W.findIn K (.ref C) m = some (some (.ref f))
  fn : PySem.W.isFn K (.ref f) = true
  kp : PySem.W.keepIn K (.ref f) = true
section
variable {X : Cx} {pins : List (Addr × Obj)} {σ : St} {H : Hp} {s : Shared} {a C dx : Addr} {fs : List (Str × V)} {f : Str} {v : V} {A : Around} {E : Value → Shared → Prop}
theorem getmeth_ok {m : Str} {g : Addr} {pl : Sem Bool} {Q : Value × List Value → Shared → Prop} (I : Inv X pins σ H s) (e : H a = some (.ins C dx fs)) (c : Cls X.K C) (k : Meth X.K C m g) (l : fs.lookup m = none)
    (h : Q (.ref g, [.ref a]) s) : wpAny (model X.prog X.w) A (getMethod (.ref a) m pl) Q E s := by
  obtain ⟨mA, O, r, _, _, _⟩ := ins_get I.hok e
  have hn : mA m = none := RelO.none_of (by rw [← l]; exact r m)
  exact get_meth I.kIn O (c.get m) k.at_ k.fn hn h
theorem Inv.made (I : Inv X pins σ H s) : Inv X pins σ (upd (upd H s.heap.objs.size (.own (s.heap.objs.size + 1))) (s.heap.objs.size + 1) (.ins C s.heap.objs.size []))
    { s with heap := (s.heap.push PySem.W.emptyDict).push (PySem.W.instObj C s.heap.objs.size) } := by
  have e1 : (s.heap.push PySem.W.emptyDict).get? s.heap.objs.size = some PySem.W.emptyDict := Heap.get?_push_size s.heap rfl
  have e2 : ((s.heap.push PySem.W.emptyDict).push (PySem.W.instObj C s.heap.objs.size)).get? (s.heap.objs.size + 1) = some (PySem.W.instObj C s.heap.objs.size) := by
    have := Heap.get?_push_size (s.heap.push PySem.W.emptyDict) (o := PySem.W.instObj C s.heap.objs.size) rfl
    rwa [Heap.size_push] at this
  have e3 : (s.heap.push PySem.W.emptyDict).Ns s.heap.objs.size (fun _ => none) := ⟨PySem.W.emptyDict, #[], _, e1, rfl, (fun e he => absurd he (by simp)), fun _ => rfl⟩
  have I1 := I.laid (a := s.heap.objs.size) (o := .own (s.heap.objs.size + 1)) (h' := s.heap.push PySem.W.emptyDict) (t' := s.toks) (fun b u q => Heap.get?_push_of_some _ q) (Nat.le_refl _) ⟨_, e1⟩
  refine I1.laid (a := s.heap.objs.size + 1) (o := .ins C s.heap.objs.size []) (t' := s.toks) (fun b u q => Heap.get?_push_of_some _ q) (Nat.le_of_eq (Heap.size_push _ _)) ?_
  have ne : s.heap.objs.size ≠ s.heap.objs.size + 1 := Nat.ne_of_lt (Nat.lt_succ_self _)
  refine ⟨by rw [upd_ne ne, upd_same], Nat.zero_le _, ne, e2, fun _ => none, (Heap.Ns1.of_empty e3).at fun o q => Heap.get?_push_of_some _ q, fun _ => True.intro, fun y hy => absurd rfl hy⟩
end
noncomputable def tFld (K : PySem.W.Frag) (ta : TE) (f : Str) : TE := fun σ H Q => ta σ H fun x H1 => ∃ a C dx fs v, x = .ref a ∧ H1 a = some (.ins C dx fs) ∧ Cls K C ∧ NoAttr K C f ∧ fs.lookup f = some v ∧ Q v H1
section
variable {X : Cx} {o e value : Expr} {f : Str} {pos pos' tpos : Pos} {ta tv : TE}
theorem methcall_of {pl : Sem Bool} {m : Str} {apos : Pos} {args : List Expr} {pins : List (Addr × Obj)} {s : Shared} {σ : St} {H : Hp} {Q : Value → Shared → Prop} {te : TE} (he : PE X e te) (I : Inv X pins σ H s)
    (h : te σ H fun x H1 => ∃ a C dx fs g, x = .ref a ∧ H1 a = some (.ins C dx fs) ∧ Cls X.K C ∧ Meth X.K C m g ∧ fs.lookup m = none ∧
      ∀ s1, Inv X pins σ H1 s1 → wpAny (model X.prog X.w) X.A (callWith pos (.ref g) [.ref a] (backTo pos (starEach args X.env)) (backToKw pos (keywordEach [] X.env))) Q X.xe s1)
    (ht : eval (.Call (.Attribute e m apos) args [] pos) X.env = (do
      let ov ← eval e X.env
      standAt apos.atName
      let (f, first) ← holding [ov] (getMethod ov m pl)
      callWith pos f first (backTo pos (starEach args X.env)) (backToKw pos (keywordEach [] X.env)))) :
    wpAny (model X.prog X.w) X.A (eval (.Call (.Attribute e m apos) args [] pos) X.env) Q X.xe s := by
  refine PySem.W.methodCall_KW (pl := pl) (thn (he pins s σ H _ I h) fun u s1 ⟨x, H1, I1, rx, a, C, dx, fs, g, ex, ea, c, k, l, q⟩ => ?_) ht
  subst ex
  obtain rfl : u = Value.ref a := rx
  exact getmeth_ok I1 ea c k l (q s1 I1)
end
section
variable {X : Cx} {pins : List (Addr × Obj)} {σ : St} {H : Hp} {s : Shared} {A : Around} {E : Value → Shared → Prop} {Q : Value → Shared → Prop} {c : Value} {b : Bool}
inductive TyOf (K : PySem.W.Frag) (H : Hp) : V → Value → Prop where
  | non : TyOf K H .non (.type "NoneType")
  | bl (x : Bool) : TyOf K H (.bl x) (.type "bool")
  | int (i : Int) : TyOf K H (.int i) (.type "int")
  | str (x : Str) : TyOf K H (.str x) (.type "str")
  | flt (x : UInt64) : TyOf K H (.flt x) (.type "float")
  | lst {a : Addr} {xs : List V} (e : H a = some (.lst xs)) : TyOf K H (.ref a) (.type "list")
  | frz {a : Addr} {o : Obj} {xs : List V} (e : H a = some (.frz o (.lst xs))) : TyOf K H (.ref a) (.type "list")
  | tup {a : Addr} {xs : List V} (e : H a = some (.tup xs)) : TyOf K H (.ref a) (.type "tuple")
  | dK {a : Addr} {kvs : List (Key × V)} (e : H a = some (.dK kvs)) : TyOf K H (.ref a) (.type "dict")
  | dT {a : Addr} {kvs : List (List Key × V)} (e : H a = some (.dT kvs)) : TyOf K H (.ref a) (.type "dict")
  | ins {a C dx : Addr} {fs : List (Str × V)} (e : H a = some (.ins C dx fs)) (cl : Cls K C) (ha : PySem.W.findIn K (.ref C) "__class__" = some (some (.builtin "object.__class__")))
      (hn : PySem.W.specialIn K (.builtin "object.__class__") "__get__" = some (some (.builtin "getset_descriptor.__get__"))) (htk : PySem.W.takesIn K (.builtin "object.__class__") = some true)
      (hm : PySem.W.mroIn K C (.type "object") = some true) : TyOf K H (.ref a) (.ref C)
theorem isinst_ok {x : V} {u t : Value} (I : Inv X pins σ H s) (rx : RelV x u) (ty : TyOf X.K H x t) (e : PySem.W.kitOne X.K t c = some b) (h : ∀ tk, Q (.bool b) { s with toks := tk }) :
    wpAny (model X.prog X.w) A (call (.builtin "isinstance") [u, c]) Q E s := by
  cases ty with
  | non => cases (show u = Value.none from rx); exact PySem.W.kia_one PySem.W.kitx_none I.kIn True.intro e (fun z => nomatch z) h
  | bl y => cases (show u = Value.bool y from rx); exact PySem.W.kia_one PySem.W.kitx_bool I.kIn True.intro e (fun z => nomatch z) h
  | int i => obtain ⟨t, q⟩ := (show ∃ t, u = Value.int i t from rx); cases q; exact PySem.W.kia_one PySem.W.kitx_int I.kIn True.intro e (fun z => nomatch z) h
  | str y => obtain ⟨t, q⟩ := (show ∃ t, u = Value.str y t from rx); cases q; exact PySem.W.kia_one PySem.W.kitx_str I.kIn True.intro e (fun z => nomatch z) h
  | flt y => obtain ⟨t, q⟩ := (show ∃ t, u = Value.float y t from rx); cases q; exact PySem.W.kia_one PySem.W.kitx_float I.kIn True.intro e (fun z => nomatch z) h
  | @lst a xs ea =>
    cases (show u = Value.ref a from rx)
    obtain ⟨_, _, n, _, h1⟩ := (show ObjOk X.prog X.w H s.heap a (.lst xs) from I.hok a _ ea)
    exact PySem.W.kia_one PySem.W.kitx_list I.kIn ⟨_, h1, rfl⟩ e (fun z => nomatch z) h
  | @frz a ob xs ea =>
    cases (show u = Value.ref a from rx)
    obtain ⟨_, _, _, n, _, h1⟩ := (show ObjOk X.prog X.w H s.heap a (.frz ob (.lst xs)) from I.hok a _ ea)
    exact PySem.W.kia_one PySem.W.kitx_list I.kIn ⟨_, h1, rfl⟩ e (fun z => nomatch z) h
  | @tup a xs ea =>
    cases (show u = Value.ref a from rx)
    obtain ⟨_, _, _, p⟩ := (show ObjOk X.prog X.w H s.heap a (.tup xs) from I.hok a _ ea)
    obtain ⟨o, h1, h2, _⟩ := p
    exact PySem.W.kia_one PySem.W.kitx_tuple I.kIn ⟨o, h1, h2⟩ e (fun z => nomatch z) h
  | @dK a kvs ea =>
    cases (show u = Value.ref a from rx)
    obtain ⟨_, _, vs, _, p⟩ := (show ObjOk X.prog X.w H s.heap a (.dK kvs) from I.hok a _ ea)
    obtain ⟨o, es, ep, h1, h2, _⟩ := p
    exact PySem.W.kia_one PySem.W.kitx_dict I.kIn ⟨o, h1, h2.1⟩ e (fun z => nomatch z) h
  | @dT a kvs ea =>
    cases (show u = Value.ref a from rx)
    obtain ⟨_, _, xs, _, o, es, ep, h1, h2, _⟩ := (show ObjOk X.prog X.w H s.heap a (.dT kvs) from I.hok a _ ea)
    exact PySem.W.kia_one PySem.W.kitx_dict I.kIn ⟨o, h1, h2.1⟩ e (fun z => nomatch z) h
  | @ins a C dx fs ea cl ha hn htk hm =>
    cases (show u = Value.ref a from rx)
    obtain ⟨mA, O, _⟩ := ins_get I.hok ea
    obtain ⟨od, J, _⟩ := O.look
    exact PySem.W.kia_one (PySem.W.kitx_own (cl.get _) cl.hd ha hn htk hm) I.kIn J e (fun z => nomatch z) h
end
end L2
namespace L2
open PySem PySem.Spec PyProof.Rows
structure Room (k : Nat) (A : Around) : Prop where
  hd : A.handled = none
  dp : A.depth + 3 * k + 5 < recursionLimit
  un : A.units + 16 * k + 200 < cLine
theorem Room.mono {j k : Nat} {A : Around} (r : Room k A) (h : j ≤ k) : Room j A := ⟨r.hd, by have := r.dp; omega, by have := r.un; omega⟩
theorem Room.deeper {k : Nat} {A : Around} (r : Room (k + 1) A) (env : Env) : Room k (A.deeper env) :=
  ⟨r.hd, by have := r.dp; show A.depth + 1 + 3 * k + 5 < _; omega, by have := r.un; show A.units + 3 + 16 * k + 200 < _; omega⟩
theorem Room.depth {k : Nat} {A : Around} (r : Room k A) : A.depth < recursionLimit := by have := r.dp; omega
theorem Room.units {k : Nat} {A : Around} (r : Room k A) : A.units + 64 < cLine := by have := r.un; omega
noncomputable def tNil : TA := fun _ H Q => Q [] H
noncomputable def tCons (ta : TE) (tr : TA) : TA := fun σ H Q => ta σ H fun x H1 => tr σ H1 fun xs H2 => Q (x :: xs) H2
section
variable {X : Cx} {e : Expr} {es : List Expr} {te : TE} {t : TA} {pos : Pos}
theorem pa_nil : PA X [] tNil := fun _ _ _ _ H Q I h => Calls.spliced_nil ⟨[], H, I, .nil, h⟩
theorem pa_cons (ha : PE X e te) (hr : PA X es t) (hs : starEach (e :: es) X.env = (false, eval e X.env) :: starEach es X.env := by rfl) : PA X (e :: es) (tCons te t) := by
  intro pos pins s σ H Q I h
  rw [hs]
  show wpAny _ _ (spliced ((false, eval e X.env) :: backTo pos (starEach es X.env))) _ _ s
  refine Calls.spliced_cons (thn (ha pins s σ H _ I h) fun u s1 ⟨x, H1, I1, r1, q1⟩ => ?_)
  exact thn (hr pos pins s1 σ H1 _ I1 q1) fun us s2 ⟨xs, H2, I2, r2, q2⟩ => ⟨x :: xs, H2, I2, .cons r1 r2, q2⟩
noncomputable def tTup (t : TA) : TE := fun σ H Q => t σ H fun xs H1 => xs.length ≤ sizeLine ∧ ∀ p, H1 p = none → Q (.ref p) (upd H1 p (.tup xs))
noncomputable def tLst (t : TA) : TE := fun σ H Q => t σ H fun xs H1 => xs.length ≤ sizeLine ∧ ∀ p, H1 p = none → Q (.ref p) (upd H1 p (.lst xs))
theorem pe_tup {x1} (h : PA X es t) : PE X (.Tuple es x1 pos) (tTup t) := by
  intro pins s σ H Q I hq
  refine wpAny_Tuple_spliced (thn (h pos pins s σ H _ I hq) fun us s1 ⟨xs, H1, I1, r, z, q⟩ => ⟨by rw [← r.length]; exact z, ?_⟩)
  have hf : H1 s1.heap.objs.size = none := I1.hok.fresh (Nat.le_refl _)
  refine ⟨.ref s1.heap.objs.size, upd H1 s1.heap.objs.size (.tup xs), I1.laid (t' := s1.toks) (fun b u e => Heap.get?_push_of_some _ e) (Nat.le_refl _) ?_, rfl, q _ hf⟩
  exact ⟨z, us, r, ⟨_, Heap.get?_push_size _ rfl, rfl, _, rfl⟩⟩
theorem pe_lst (h : PA X es t) : PE X (.List es pos) (tLst t) := by
  intro pins s σ H Q I hq
  refine wpAny_List_spliced (thn (h pos pins s σ H _ I hq) fun us s1 ⟨xs, H1, I1, r, z, q⟩ => ⟨by rw [← r.length]; exact z, ?_⟩)
  have hf : H1 s1.heap.objs.size = none := I1.hok.fresh (Nat.le_refl _)
  refine ⟨.ref s1.heap.objs.size, upd H1 s1.heap.objs.size (.lst xs), I1.laid (t' := s1.toks) (fun b u e => Heap.get?_push_of_some _ e) (Nat.le_refl _) ?_, rfl, q _ hf⟩
  exact ⟨z, us, 0, r, Heap.get?_push_size _ rfl⟩
end
noncomputable abbrev Sp := List V → Hp → VK → XK → Prop
noncomputable abbrev CXT := List Env → Hp → Shared → XK → Value → Shared → Prop
structure Env0 (P : Program) (w : World) (K : PySem.W.Frag) (mg : Str → Option Value) (base : Heap) (A : Around) (outer : List Env) (s : Shared) (H : Hp) : Prop where
  frames : A.frames = some outer
  mod : Mod K mg base
  bs : ∀ b o, base.get? b = some o → s.heap.get? b = some o ∧ H b = none
  bsz : base.objs.size ≤ s.heap.objs.size
  funs : s.heap.FunFrames base outer
  frf : ∀ b ∈ frs outer, H b = none
  hok : HOk P w H s.heap
  bare : AllBare s.gens
noncomputable def CE (outer : List Env) (P : Program) (w : World) (H : Hp) (s : Shared) (Q : VK) (u : Value) (s' : Shared) : Prop :=
  ∃ v H', s'.os = s.os ∧ AllBare s'.gens ∧ Un (frs outer) [] H H' s.heap s'.heap ∧ HOk P w H' s'.heap ∧ RelV v u ∧ Q v H'
noncomputable def CR (CX : CXT) (outer : List Env) (P : Program) (w : World) (H : Hp) (s : Shared) (Q : VK) (E : XK) (r : Result) (s' : Shared) : Prop :=
  match r with
  | .ok (.ret u) => CE outer P w H s Q u s'
  | .ok _ => False
  | .error e => CX outer H s E e s'
structure FnOk (P : Program) (w : World) (K : PySem.W.Frag) (mg : Str → Option Value) (base : Heap) (CX : CXT) (k : Nat) (f : Addr) (fd : FuncData) (ps : List Str) (sp : Sp) : Prop where
  len : ∀ vs H Q E, sp vs H Q E → vs.length = ps.length
  run : ∀ (A : Around) (outer : List Env) (s : Shared) (H : Hp) (args : Args) (us : List Value) (vs : List V) (Q : VK) (E : XK), Room k A → Env0 P w K mg base A outer s H → BindsTo s fd args (ps.zip us) → Vals vs us → sp vs H Q E →
    codeAny (model P w) A (.call (.ref f) args) (CR CX outer P w H s Q E) s
section
variable {X : Cx} {pins : List (Addr × Obj)} {σ : St} {H : Hp} {s s' : Shared}
theorem Inv.env0 (I : Inv X pins σ H s) : Env0 X.prog X.w X.K X.mg X.base X.A X.stack s H :=
  ⟨I.ok.frames, I.ok.mod, I.bs, Nat.le_trans I.ok.bsz I.sz, I.stack, I.stkFree, I.hok, I.bare⟩
theorem Inv.after {Q : VK} {u : Value} (I : Inv X pins σ H s) (h : CE X.stack X.prog X.w H s Q u s') : EP X pins σ Q u s' := by
  obtain ⟨v, H', os, bare, un, hok, r, q⟩ := h
  obtain ⟨hh, g, d, t, os'⟩ := s'
  obtain rfl : os' = s.os := os
  exact ⟨v, H', I.call (h' := hh) (g' := g) (d' := d) (t' := t) (ch := []) un hok bare (fun b z => absurd z (by simp)), r, q⟩
end
noncomputable def tCall (sp : Sp) (dvs : List V) (E : XK) (t : TA) : TE := fun σ H Q => t σ H fun vs H1 => sp (vs ++ dvs) H1 Q E
noncomputable def tMeth (C : Addr) (m : Str) (sp : Sp) (dvs : List V) (E : XK) (ta : TE) (t : TA) : TE := fun σ H Q => ta σ H fun x H1 => ∃ a dx fs, x = .ref a ∧ H1 a = some (.ins C dx fs) ∧ fs.lookup m = none ∧
  t σ H1 fun vs H2 => sp (x :: (vs ++ dvs)) H2 Q E
noncomputable def tMake (C : Addr) (sp : Sp) (dvs : List V) (E : XK) (t : TA) : TE := fun σ H Q => t σ H fun vs H1 => ∀ x dx, H1 x = none → H1 dx = none → dx ≠ x →
  sp (.ref x :: (vs ++ dvs)) (upd (upd H1 dx (.own x)) x (.ins C dx [])) (fun v H2 => v = .non ∧ Q (.ref x) H2) E
noncomputable def Binds (K : PySem.W.Frag) (fd : FuncData) (ps : List Str) (ds : List Value) : Prop :=
  ∀ (s : Shared) (us : List Value), K.In s.heap → (us ++ ds).length = ps.length → BindsTo s fd ⟨us, []⟩ (ps.zip (us ++ ds))
theorem Binds.all {K : PySem.W.Frag} {fd : FuncData} {ps : List Str} (h : ∀ us : List Value, us.length = ps.length → bindArgs fd ⟨us, []⟩ = pure (ps.zip us)) : Binds K fd ps [] := fun s us _ hl => by
  rw [List.append_nil] at hl ⊢
  exact .of_eq (h us hl)
noncomputable def Passes (CX : CXT) (X : Cx) (E : XK) : Prop := ∀ (pins : List (Addr × Obj)) (σ : St) (H : Hp) (s : Shared) (e : Value) (s' : Shared), Inv X pins σ H s → CX X.stack H s E e s' → X.xe e s'
section
variable {X : Cx} {CX : CXT} {k : Nat} {f C : Addr} {fd : FuncData} {ps : List Str} {sp : Sp} {dvs : List V} {ds : List Value} {E : XK} {x m : Str} {p pos apos : Pos} {e o : Expr} {es : List Expr} {ta : TE} {t : TA}
theorem run_fn {pins : List (Addr × Obj)} {σ : St} {H : Hp} {s : Shared} {Q : VK} {us : List Value} {vs : List V} (F : FnOk X.prog X.w X.K X.mg X.base CX k f fd ps sp) (hr : Room k X.A) (hb : Binds X.K fd ps ds) (hd : Vals dvs ds) (hx : Passes CX X E)
    (I : Inv X pins σ H s) (r : Vals vs us) (h : sp (vs ++ dvs) H Q E) : wpAny (model X.prog X.w) X.A (call (.ref f) us) (EP X pins σ Q) X.xe s := by
  have r2 : Vals (vs ++ dvs) (us ++ ds) := r.append hd
  have hl : (us ++ ds).length = ps.length := by rw [← r2.length]; exact F.len _ _ _ _ h
  refine wpAny_call (codeAny_mono (F.run X.A X.stack s H ⟨us, []⟩ (us ++ ds) (vs ++ dvs) Q E hr I.env0 (hb s us I.kIn hl) r2 h) fun r s' hq => ?_)
  cases r with
  | error e => exact hx pins σ H s e s' I hq
  | ok fl =>
    cases fl with
    | ret u => exact I.after hq
    | next => exact False.elim hq
    | brk => exact False.elim hq
    | cont => exact False.elim hq
theorem pe_call (F : FnOk X.prog X.w X.K X.mg X.base CX k f fd ps sp) (hr : Room k X.A) (hg : Gl X x) (hm : X.mg x = some (.ref f)) (hk : PySem.W.keepIn X.K (.ref f) = true) (hb : Binds X.K fd ps ds) (hd : Vals dvs ds) (hx : Passes CX X E)
    (ha : PA X (e :: es) t) (hdb : (x == ("__debug__" : Str)) = false := by decide) (he : starEach (e :: es) X.env = (false, eval e X.env) :: starEach es X.env := by rfl) (hpl : (backTo pos (starEach es X.env)).any (·.1) = false := by rfl) :
    PE X (.Call (.Name x p) (e :: es) [] pos) (tCall sp dvs E t) := by
  intro pins s σ H Q I h
  refine wpAny_Call_Name_kw (ld_glob I hg hm ?_ hdb)
  refine PySem.W.callWith_K (h₀ := X.base) I.ok.mod.kin hk (thn (ha pos pins s σ H _ I h) fun us s1 ⟨vs, H1, I1, r, q⟩ => ⟨I1.kIn, ?_⟩) he hpl
  exact run_fn F hr hb hd hx I1 r q
structure Mk (K : PySem.W.Frag) (C f : Addr) : Prop where
  makes : PySem.W.makesIn K C = true
  init : PySem.W.findIn K (.ref C) "__init__" = some (some (.ref f))
  fn : PySem.W.isFn K (.ref f) = true
  kp : PySem.W.keepIn K (.ref C) = true
end
section
variable {X : Cx} {CX : CXT} {k : Nat} {f C : Addr} {fd : FuncData} {ps ks : List Str} {sp : Sp} {E : XK} {x m : Str} {p pos apos kpos : Pos} {e o : Expr} {es : List Expr} {kws : List Keyword} {te ta : TE} {t tk : TA} {nm : Option Str}
structure KBinds (K : PySem.W.Frag) (fd : FuncData) (ps ks : List Str) (g : List Value → List Value → List Value) (gV : List V → List V → List V) : Prop where
  to : ∀ (s : Shared) (us ws : List Value), K.In s.heap → (g us ws).length = ps.length → BindsTo s fd ⟨us, ks.zip ws⟩ (ps.zip (g us ws))
  rel : ∀ {vs : List V} {us : List Value} {zs : List V} {ws : List Value}, Vals vs us → Vals zs ws → Vals (gV vs zs) (g us ws)
variable {g : List Value → List Value → List Value} {gV : List V → List V → List V}
end
structure FnScope (N P : List Str) (sc : Scope) : Prop where
  kind : sc.kind = .function
  co : sc.isCoroutine = false
  gen : sc.isGenerator = false
  nd : N.Nodup
  pre : N.take P.length = P
  par : ∀ x ∈ P, sc.names.lookup x = some .local ∨ sc.names.lookup x = some .cell
  nofree : ∀ y ∈ sc.names, y.2 ≠ .free
theorem bindL_out {kindOf : Str → Option NameKind} {x : Str} : ∀ {binds : List (Str × Value)} {m : Str → Option Value}, (∀ v, (x, v) ∉ binds) → bindL kindOf binds m x = m x
  | [], _, _ => rfl
  | (n, v) :: r, m, h => by
    unfold bindL
    rw [bindL_out fun w hw => h w (List.mem_cons_of_mem _ hw)]
    split
    · have : x ≠ n := by rintro rfl; exact h v List.mem_cons_self
      simp [this]
    · rfl
theorem bindC_out {kindOf : Str → Option NameKind} {x : Str} : ∀ {binds : List (Str × Value)} {m : Str → Option Value}, (∀ v, (x, v) ∉ binds) → bindC kindOf binds m x = m x
  | [], _, _ => rfl
  | (n, v) :: r, m, h => by
    unfold bindC
    rw [bindC_out fun w hw => h w (List.mem_cons_of_mem _ hw)]
    split
    · rfl
    · have : x ≠ n := by rintro rfl; exact h v List.mem_cons_self
      simp [this]
theorem bindL_get {kindOf : Str → Option NameKind} {x : Str} {v : Value} : ∀ {P : List Str} {vs : List Value} {i : Nat} {m : Str → Option Value}, P.Nodup → P[i]? = some x → vs[i]? = some v → kindOf x = some .local →
    bindL kindOf (P.zip vs) m x = some v
  | [], _, _, _, _, h, _, _ => by simp at h
  | _ :: _, [], _, _, _, _, h, _ => by simp at h
  | p :: P, w :: vs, 0, m, nd, h1, h2, hk => by
    simp at h1 h2; subst h1; subst h2
    show bindL kindOf ((p, w) :: P.zip vs) m p = _
    unfold bindL
    rw [bindL_out fun v hv => (List.nodup_cons.mp nd).1 (List.of_mem_zip hv).1, if_pos hk]
    simp
  | p :: P, w :: vs, i + 1, m, nd, h1, h2, hk => by
    show bindL kindOf ((p, w) :: P.zip vs) m x = _
    unfold bindL
    exact bindL_get (i := i) (List.nodup_cons.mp nd).2 (by simpa using h1) (by simpa using h2) hk
theorem bindC_get {kindOf : Str → Option NameKind} {x : Str} {v : Value} : ∀ {P : List Str} {vs : List Value} {i : Nat} {m : Str → Option Value}, P.Nodup → P[i]? = some x → vs[i]? = some v → kindOf x ≠ some .local →
    bindC kindOf (P.zip vs) m x = some v
  | [], _, _, _, _, h, _, _ => by simp at h
  | _ :: _, [], _, _, _, _, h, _ => by simp at h
  | p :: P, w :: vs, 0, m, nd, h1, h2, hk => by
    simp at h1 h2; subst h1; subst h2
    show bindC kindOf ((p, w) :: P.zip vs) m p = _
    unfold bindC
    rw [bindC_out fun v hv => (List.nodup_cons.mp nd).1 (List.of_mem_zip hv).1, if_neg hk]
    simp
  | p :: P, w :: vs, i + 1, m, nd, h1, h2, hk => by
    show bindC kindOf ((p, w) :: P.zip vs) m x = _
    unfold bindC
    exact bindC_get (i := i) (List.nodup_cons.mp nd).2 (by simpa using h1) (by simpa using h2) hk
noncomputable def start (N : List Str) (vs : List V) : St := vs.map some ++ List.replicate (N.length - vs.length) none
noncomputable def cxOf (CX : CXT) (P : Program) (w : World) (K : PySem.W.Frag) (mg : Str → Option Value) (base : Heap) (N : List Str) (qual : Str) (scope : Scope) (f : Addr) (cd : Value) (A : Around) (outer : List Env) (s : Shared) (H : Hp) (E : XK) : Cx where
  prog := P
  w := w
  K := K
  mg := mg
  base := base
  A := A.deeper (envOfC qual scope s.heap.objs.size f cd)
  N := N
  s₀ := s
  H₀ := H
  env := envOfC qual scope s.heap.objs.size f cd
  outer := outer
  stack := envOfC qual scope s.heap.objs.size f cd :: outer
  ex := []
  calm := true
  fn := fun _ => true
  pn := []
  xe := fun e s' => wpAny (model P w) (A.deeper (envOfC qual scope s.heap.objs.size f cd)) (leaving (envOfC qual scope s.heap.objs.size f cd) e) (fun _ s'' => CX outer H s E e s'') (fun e' s'' => CX outer H s E e' s'') s'
theorem cell_has {sc : Scope} {n : Nat} {x : Str} (h : sc.names.lookup x = some .cell) : ∃ c, (cellsFrom n sc.names []).lookup x = some c := by
  have q := PySem.W.cellsFrom_some sc.names n [] (.inl h)
  exact Option.isSome_iff_exists.mp q
theorem inv_start {CX : CXT} {P : Program} {w : World} {K : PySem.W.Frag} {mg : Str → Option Value} {base : Heap} {N ps : List Str} {qual : Str} {scope : Scope} {f : Addr} {cd : Value} {A : Around} {outer : List Env} {s s1 : Shared} {H : Hp} {E : XK} {us : List Value} {vs : List V}
    (S : FnScope N ps scope) (hd : A.handled = none) (e0 : Env0 P w K mg base A outer s H) (hl : vs.length = ps.length) (r : Vals vs us)
    (x : InCallC s s.heap.objs.size (bindL (envOfC qual scope s.heap.objs.size f cd).kindOf (ps.zip us) fun _ => none) (cellsFrom (s.heap.objs.size + 1) scope.names []) (bindC (envOfC qual scope s.heap.objs.size f cd).kindOf (ps.zip us) fun _ => none) s1) :
    Inv (cxOf CX P w K mg base N qual scope f cd A outer s H E) [] (start N vs) H s1 := by
  have hpl : ps.length ≤ N.length := by have := congrArg List.length S.pre; rw [List.length_take] at this; omega
  obtain ⟨h1, tk, rfl, hk⟩ := x.done
  have noA : ∀ b : Addr, b ∉ (cxOf CX P w K mg base N qual scope f cd A outer s H E).ex := fun b z => absurd (show b ∈ ([] : List Addr) from z) (by simp)
  refine ⟨⟨e0.mod, S.kind, rfl, rfl, Nat.le_refl _, fun y z c h1 h2 => ?_, fun y hy => ?_, fun y c _ h => ?_, fun _ => hd, Around.frames_deeper e0.frames, .inr ⟨rfl, rfl⟩, fun b z => absurd z (noA b), e0.bs, e0.bsz, fun b _ _ => noA b, fun b z => absurd z (noA b), e0.funs, e0.frf⟩,
    rfl, e0.bare, Un.kept hk, ⟨_, x.toInCall.ns, fun i y v h1 h2 h3 => ?_⟩, fun y c h => ⟨_, x.cell y c h⟩, e0.hok.fresh (Nat.le_refl _), fun y c h => ?_, fun p hp => absurd (show p ∈ ([] : List (Addr × Obj)) from hp) (by simp), e0.hok.kept hk, ?_⟩
  · exact name_of_addr x.apart (PySem.mem_of_lookup h1) (PySem.mem_of_lookup h2)
  · have hy : scope.names.lookup y = some .cell ∨ scope.names.lookup y = some .free := hy
    rcases hy with hy | hy
    · exact cell_has hy
    · exact absurd rfl (S.nofree _ (PySem.mem_of_lookup hy))
  · exact Nat.le_of_lt (x.above y c (PySem.mem_of_lookup h))
  · have hi : i < vs.length := by
      unfold start at h2
      by_cases hi : i < vs.length
      · exact hi
      · rw [List.getElem?_append_right (by simpa using hi)] at h2
        rw [List.getElem?_replicate] at h2
        split at h2 <;> cases h2
    have ha : vs[i]? = some v := by
      unfold start at h2
      rw [List.getElem?_append_left (by simpa using hi), List.getElem?_map] at h2
      cases e : vs[i]? with
      | none => rw [e] at h2; cases h2
      | some a => rw [e] at h2; cases h2; rfl
    obtain ⟨u, hu, rv⟩ := r.get ha
    have hp : ps[i]? = some y := by
      rw [← S.pre, List.getElem?_take_of_lt (by omega)]; exact h1
    have ndP : ps.Nodup := by rw [← S.pre]; exact S.nd.sublist (List.take_sublist _ _)
    refine ⟨u, rv, ?_⟩
    rcases S.par y (List.mem_of_getElem? hp) with k | k
    · exact .inl ⟨k, bindL_get ndP hp hu k⟩
    · obtain ⟨c, e⟩ := cell_has (n := s.heap.objs.size + 1) k
      refine .inr ⟨.inl k, c, e, ?_⟩
      have q := x.cell y c e
      rw [bindC_get ndP hp hu (by show scope.names.lookup y ≠ _; rw [k]; decide)] at q
      exact q
  · exact e0.hok.fresh (Nat.le_of_lt (x.above y c (PySem.mem_of_lookup h)))
  · unfold start
    show _ = N.length
    rw [List.length_append, List.length_map, List.length_replicate]
    omega
theorem fn_of {CX : CXT} {P : Program} {w : World} {K : PySem.W.Frag} {mg : Str → Option Value} {base : Heap} {k : Nat} {f : Addr} {name qual : Str} {params : Arguments} {body : List Stmt} {scope : Scope} {dV kV doc pm cdv ct oc : Value} {an od : Option Addr}
    {osl : Array (Option Value)} {N ps : List Str} {sp : Sp} (lk : K.lookup f = some ⟨oc, od, .func (PySem.W.fnOf name qual params body scope dV kV doc pm an cdv ct), osl⟩) (hcd : PySem.W.codeIn K cdv qual = true) (S : FnScope N ps scope)
    (len : ∀ vs H Q E, sp vs H Q E → vs.length = ps.length)
    (hbody : ∀ (A : Around) (outer : List Env) (s : Shared) (H : Hp) (vs : List V) (Q : VK) (E : XK), Room k (A.deeper (envOfC qual scope s.heap.objs.size f cdv)) → sp vs H Q E →
      ∃ t, PSs (cxOf CX P w K mg base N qual scope f cdv A outer s H E) body t ∧ t { nx := fun _ H' => Q .non H', rt := Q } (start N vs) H) :
    FnOk P w K mg base CX (k + 1) f (PySem.W.fnOf name qual params body scope dV kV doc pm an cdv ct) ps sp := by
  refine ⟨len, fun A outer s H args us vs Q E hr e0 hb r hsp => ?_⟩
  have hl := len _ _ _ _ hsp
  have KX : K.In s.heap := e0.mod.kin.keeps fun b o e => (e0.bs b o e).1
  have lim : s.heap.NoLimit := e0.mod.nolimit.keeps fun b o e => (e0.bs b o e).1
  have hkind : ∀ y ∈ ps.zip us, scope.names.lookup y.1 = some .local ∨ (scope.names.lookup y.1 = some .cell ∧ ((cellsFrom (s.heap.objs.size + 1) scope.names []).lookup y.1).isSome = true) := fun ⟨n, v⟩ hy => by
    rcases S.par n (List.of_mem_zip hy).1 with q | q
    · exact .inl q
    · exact .inr ⟨q, PySem.W.cellsFrom_some _ _ _ (.inl q)⟩
  refine codeAny_call_function hr.depth (KX _ _ lk) rfl S.co S.gen rfl (PySem.W.codeRec_of KX hcd) (hb _ _ _ _ ?_)
  refine wpAny_newFunctionEnv_cells S.kind hkind fun env he s1 x => ?_
  subst he
  refine ⟨lim.keeps x.toInCall.keep, codeAny_func ?_⟩
  obtain ⟨t, ht, hq⟩ := hbody A outer s H vs Q E (hr.deeper _) hsp
  have I : Inv (cxOf CX P w K mg base N qual scope f cdv A outer s H E) [] (start N vs) H s1 := inv_start S hr.hd e0 hl r x
  refine wpAny_mono (ht [] s1 (start N vs) H _ I hq) (fun fl s' hs => ?_) fun e s' hs => hs
  have fin : ∀ {σ' : St} {H' : Hp} {v : V} {u : Value}, Inv (cxOf CX P w K mg base N qual scope f cdv A outer s H E) [] σ' H' s' → RelV v u → Q v H' → CE outer P w H s Q u s' :=
    fun {σ' H' v u} J rv q => ⟨v, H', J.os, J.bare, J.base, J.hok, rv, q⟩
  cases fl with
  | ret u =>
    obtain ⟨v, σ', H', J, rv, q⟩ := hs
    exact fin J rv q
  | next =>
    obtain ⟨σ', H', J, q⟩ := hs
    exact fin (v := V.non) (u := Value.none) J rfl q
  | brk =>
    obtain ⟨_, _, _, q⟩ := hs
    exact False.elim q
  | cont =>
    obtain ⟨_, _, _, q⟩ := hs
    exact False.elim q
end L2
namespace L2
open PySem PySem.Spec PyProof.Rows
section
variable {X : Cx} {x : Str} {p pos : Pos} {e : Expr} {es : List Expr} {t : TA} {id T : String} {r : List V → Hp → VK → Prop}
noncomputable def tCB (r : List V → Hp → VK → Prop) (t : TA) : TE := fun σ H Q => t σ H fun vs H1 => r vs H1 Q
theorem pe_callB (hc : CallR X (.builtin id) r) (hg : Gl X x) (hm : X.mg x = none) (hv : bootBuiltins x = some (.builtin id)) (ha : PA X (e :: es) t) (hn : x ≠ "__name__" := by decide) (hdb : (x == ("__debug__" : Str)) = false := by decide)
    (he : starEach (e :: es) X.env = (false, eval e X.env) :: starEach es X.env := by rfl) (hpl : (backTo pos (starEach es X.env)).any (·.1) = false := by rfl) : PE X (.Call (.Name x p) (e :: es) [] pos) (tCB r t) := by
  intro pins s σ H Q I h
  refine wpAny_Call_Name_kw (ld_blt I hg hm hv ?_ hn hdb)
  exact PyProof.Rows.callWith_builtin1 (thn (ha pos pins s σ H _ I h) fun us s1 ⟨vs, H1, I1, r1, q1⟩ => hc pins s1 σ H1 vs us Q I1 r1 q1) he hpl
theorem pe_callTy (hc : CallR X (.type T) r) (hg : Gl X x) (hm : X.mg x = none) (hv : bootBuiltins x = some (.type T)) (ha : PA X (e :: es) t) (hn : x ≠ "__name__" := by decide) (hdb : (x == ("__debug__" : Str)) = false := by decide)
    (he : starEach (e :: es) X.env = (false, eval e X.env) :: starEach es X.env := by rfl) (hpl : (backTo pos (starEach es X.env)).any (·.1) = false := by rfl) : PE X (.Call (.Name x p) (e :: es) [] pos) (tCB r t) := by
  intro pins s σ H Q I h
  refine wpAny_Call_Name_kw (ld_blt I hg hm hv ?_ hn hdb)
  exact PyProof.Rows.callWith_type1 (thn (ha pos pins s σ H _ I h) fun us s1 ⟨vs, H1, I1, r1, q1⟩ => hc pins s1 σ H1 vs us Q I1 r1 q1) he hpl
end
end L2
namespace HT
open PySem PyProof.Rows
section
open PySem.SeqAt
open PySem.AutoSeq1 (wpAny_loadPart')
open PySem.MeetsSeq PySem.MeetsSeq2 PySem.MeetsSeq3
end
section
variable {prog : Program} {w : World} {A : Around} {E : Value → Shared → Prop} {s : Shared}
theorem cat_tup {t b : Addr} {vs ws : List Value} {Q : Value → Shared → Prop} (ht : IsTup s.heap t vs.toArray) (hb : IsTup s.heap b ws.toArray) (hv : vs ≠ [])
    (h1 : ws = [] → Q (.ref t) s) (h2 : ws ≠ [] → Q (.ref s.heap.objs.size) { s with heap := s.heap.push { cls := .type "tuple", data := .seq (vs ++ ws).toArray } })
    (hsz : vs.length + ws.length ≤ sizeLine) : wpAny (model prog w) A (binaryOp .Add (.ref t) (.ref b)) Q E s := by
  obtain ⟨⟨cls, dd, data, sl⟩, ho, hc, n, hd⟩ := id ht
  obtain ⟨⟨cls2, dd2, data2, sl2⟩, ho2, hc2, n2, hd2⟩ := id hb
  simp only at hc hd hc2 hd2
  subst hc hd hc2 hd2
  have e : vs.toArray ++ ws.toArray = (vs ++ ws).toArray := by simp
  by_cases hw : ws = []
  · exact concat_meets ⟨_, ho, rfl⟩ ⟨_, ho2, rfl⟩ noFill_tuple_add seq_tuple_add PySem.F.slot_tuple_add PySem.F.entry_tuple_add (PySem.F.args_tuple_add_2 _ _)
      (tuple_addW1 t b vs.toArray ws.toArray n n2 dd dd2 sl sl2 (by simpa using hv) (by simp [hw])) ⟨ho, ho2, h1 hw⟩
  · refine concat_meets ⟨_, ho, rfl⟩ ⟨_, ho2, rfl⟩ noFill_tuple_add seq_tuple_add PySem.F.slot_tuple_add PySem.F.entry_tuple_add (PySem.F.args_tuple_add_2 _ _)
      (tuple_addW2 t b vs.toArray ws.toArray n n2 dd dd2 sl sl2 (by simpa using hv) (by simpa using hw) (by rw [List.size_toArray, List.size_toArray]; exact hsz)) ⟨ho, ho2, ?_⟩
    rw [e]
    exact h2 hw
noncomputable def sIx (n d : Nat) : Option Int → Nat
  | none => d
  | some v => if v < 0 then (v + (n : Int)).toNat else min v.toNat n
theorem sIx_le (n d : Nat) (hd : d ≤ n) (o : Option Int) : sIx n d o ≤ n := by
  cases o with
  | none => exact hd
  | some v =>
    show (if v < 0 then (v + (n : Int)).toNat else min v.toNat n) ≤ n
    by_cases hv : v < 0
    · rw [if_pos hv]; omega
    · rw [if_neg hv]; exact Nat.min_le_right _ _
theorem clip_eq (v : Int) (n d : Nat) : (if v < 0 then max (v + (n : Int)) 0 else min v (n : Int)) = ((sIx n d (some v) : Nat) : Int) := by
  show (if v < 0 then max (v + (n : Int)) 0 else min v (n : Int)) = (((if v < 0 then (v + (n : Int)).toNat else min v.toNat n) : Nat) : Int)
  by_cases hv : v < 0
  · simp only [if_pos hv]; omega
  · simp only [if_neg hv]; omega
theorem adjust_gen (lo hi : Option Int) (n : Nat) : Builtin.Slice.sliceAdjust lo hi 1 (n : Int) = (((sIx n 0 lo : Nat) : Int), ((sIx n n hi : Nat) : Int)) := by
  have h1 : ¬ ((1 : Int) < 0) := by omega
  unfold Builtin.Slice.sliceAdjust
  simp only [h1, if_false]
  refine Prod.ext ?_ ?_
  · cases lo with
    | none => rfl
    | some v => exact clip_eq v n 0
  · cases hi with
    | none => rfl
    | some v => exact clip_eq v n n
theorem places_gen (i j : Nat) : Builtin.Slice.slicePlaces (i : Int) (j : Int) 1 = j - i := by
  unfold Builtin.Slice.slicePlaces
  have h1 : (1 : Int) > 0 := by omega
  simp only [h1, if_true, Int.ediv_one]
  split <;> omega
theorem slicePart_ {v : Value} {o : Option Int} {Q : Option Int → Shared → Prop} (p : IsPart v o) (h : Q o s) : wpAny (model prog w) A (Builtin.Slice.slicePartIndex v) Q E s := by
  cases p with
  | none => exact slicePart_none h
  | int i t => exact slicePart_int h
theorem sliceApplied_gen {sl : Addr} {vl vu : Value} {lo hi : Option Int} {n : Nat} {Q : Int × Int × Nat → Shared → Prop} (hs : s.heap.IsSliceOf sl vl vu .none) (pl : IsPart vl lo) (pu : IsPart vu hi)
    (h : Q (((sIx n 0 lo : Nat) : Int), 1, sIx n n hi - sIx n 0 lo) s) : wpAny (model prog w) A (Builtin.Slice.sliceApplied (.ref sl) (pure (n : Int))) Q E s := by
  obtain ⟨os, hos, hcs, hds⟩ := id hs
  unfold Builtin.Slice.sliceApplied Builtin.Slice.sliceFields
  refine wpAny_bind (wpAny_bind (wpAny_field hos hds (x := vl) rfl (wpAny_bind (wpAny_field hos hds (x := vu) rfl (wpAny_bind (wpAny_field hos hds (x := .none) rfl (wpAny_pure ?_)))))))
  refine wpAny_bind (slicePart_none ?_)
  show wpAny _ _ (if ((1 : Int) == 0) = true then _ else _) _ _ s
  rw [if_neg (by decide)]
  refine wpAny_bind (slicePart_ pl (wpAny_bind (slicePart_ pu (wpAny_bind (wpAny_pure ?_)))))
  show wpAny _ _ (match Builtin.Slice.sliceAdjust lo hi 1 (n : Int) with | (lo, hi) => pure (lo, (1 : Int), Builtin.Slice.slicePlaces lo hi 1)) _ _ s
  rw [adjust_gen lo hi n]
  show wpAny _ _ (pure (((sIx n 0 lo : Nat) : Int), (1 : Int), Builtin.Slice.slicePlaces ((sIx n 0 lo : Nat) : Int) ((sIx n n hi : Nat) : Int) 1)) _ _ s
  rw [places_gen]
  exact wpAny_pure h
theorem pick_gen (xs : Array Value) (i k : Nat) : ((List.range k).filterMap fun (m : Nat) => xs[((i : Int) + (m : Int) * 1).toNat]?).toArray = ((xs.toList.drop i).take k).toArray := by
  have e : (fun (m : Nat) => xs[((i : Int) + (m : Int) * 1).toNat]?) = fun m => xs[i + m]? := by
    funext m
    have : ((i : Int) + (m : Int) * 1).toNat = i + m := by omega
    rw [this]
  rw [e]
  have := pick_run xs i k
  rw [List.filterMap_map] at this
  have e2 : ((fun x => xs[x]?) ∘ fun x => i + x) = fun m => xs[i + m]? := rfl
  rw [e2] at this
  rw [this]
theorem getItem_tuple_cut {t sl : Addr} {items : Array Value} {vl vu : Value} {lo hi : Option Int} {Q : Value → Shared → Prop} (ht : IsTup s.heap t items) (hs : s.heap.IsSliceOf sl vl vu .none) (pl : IsPart vl lo) (pu : IsPart vu hi)
    (hw : ¬ (sIx items.size 0 lo = 0 ∧ sIx items.size items.size hi = items.size))
    (h : Q (.ref s.heap.objs.size) { s with heap := s.heap.push { cls := .type "tuple", data := .seq ((items.toList.drop (sIx items.size 0 lo)).take (sIx items.size items.size hi - sIx items.size 0 lo)).toArray } })
    (hsz : items.size ≤ sizeLine) : wpAny (model prog w) A (getItem (.ref t) (.ref sl)) Q E s := by
  have htake : sizeOk (.seq ((items.toList.drop (sIx items.size 0 lo)).take (sIx items.size items.size hi - sIx items.size 0 lo)).toArray) := by
    show ((items.toList.drop (sIx items.size 0 lo)).take (sIx items.size items.size hi - sIx items.size 0 lo)).toArray.size ≤ sizeLine
    rw [List.size_toArray, List.length_take, List.length_drop, Array.length_toList]
    omega
  have hj : sIx items.size items.size hi ≤ items.size := sIx_le _ _ (Nat.le_refl _) hi
  obtain ⟨os, hos, hcs, hds⟩ := id hs
  have hTs : s.TypeIs (.ref sl) "slice" := ⟨os, hos, hcs⟩
  unfold getItem
  try with_reducible refine wpAny_holding ?_
  first | refine wpAny_bind (wpAny_pure ?_) | skip
  refine wpAny_bind (wpAny_sequenceKey ht.typeIs (by decide) ?_)
  refine wpAny_bind (wpAny_callSpecial?_slot (name := Str.ofString "__getitem__") ht.typeIs PyProof.Rows.slot_tuple_getitem
    (wpAny_call_entry PyProof.Rows.slot_tuple_getitem ht.typeIs entry_tuple_getitem ?_ (args_tuple_getitem _ _)))
  show wpAny _ _ (Builtin.Tuple.tupleItemsOf (.ref t) >>= _) _ _ s
  refine wpAny_bind (tupleItemsOf_ ht ?_)
  refine wpAny_bind (wpAny_typeOf hTs ?_)
  rw [if_pos (by decide)]
  refine wpAny_bind (sliceApplied_gen hs pl pu ?_)
  have hno : ¬ ((((sIx items.size 0 lo : Nat) : Int) == 0 && (1 : Int) == 1 && (sIx items.size items.size hi - sIx items.size 0 lo) == items.size) = true) := by
    intro q
    rw [Bool.and_eq_true, Bool.and_eq_true] at q
    have q1 : ((sIx items.size 0 lo : Nat) : Int) = 0 := eq_of_beq q.1.1
    have q2 : sIx items.size items.size hi - sIx items.size 0 lo = items.size := eq_of_beq q.2
    exact hw ⟨by omega, by omega⟩
  show wpAny _ _ (if (((sIx items.size 0 lo : Nat) : Int) == 0 && (1 : Int) == 1 && (sIx items.size items.size hi - sIx items.size 0 lo) == items.size) = true then _ else _) _ _ s
  rw [if_neg hno, pick_gen]
  first
    | exact wpAny_bind (m := Builtin.Tuple.tupleExact _) (wpAny_newObj_type (wpAny_pure ⟨_, rfl, wpAny_pure h⟩) htake)
    | exact wpAny_bind (m := Builtin.Tuple.tupleExact _) (wpAny_newObj_type (wpAny_bind (wpAny_pure (wpAny_pure ⟨_, rfl, wpAny_pure h⟩))) htake)
    | exact wpAny_bind (wpAny_bind (m := Builtin.Tuple.tupleExact _) (wpAny_newObj_type (wpAny_pure (wpAny_pure ⟨_, rfl, wpAny_pure h⟩)) htake))
    | exact wpAny_bind (wpAny_bind (m := Builtin.Tuple.tupleExact _) (wpAny_newObj_type (wpAny_pure ⟨_, rfl, wpAny_pure h⟩) htake))
end
end HT
namespace L2
open PySem PySem.Spec PyProof.Rows
noncomputable abbrev TO := St → Hp → (Option Int → Hp → Prop) → Prop
noncomputable def PO (X : Cx) (e : Option Expr) (t : TO) : Prop :=
  ∀ (pins : List (Addr × Obj)) (s : Shared) (σ : St) (H : Hp) (Q : Option Int → Hp → Prop), Inv X pins σ H s → t σ H Q →
    wpAny (model X.prog X.w) X.A (evalPart e X.env) (fun u s' => ∃ o H', Inv X pins σ H' s' ∧ IsPart u o ∧ Q o H') X.xe s
noncomputable def tNoPart : TO := fun _ H Q => Q none H
noncomputable def tPart (t : TE) : TO := fun σ H Q => t σ H fun x H1 => ∃ i, x = .int i ∧ Q (some i) H1
theorem intsAre_of {ns : List Int} : ∀ {us : List Value}, Vals (ns.map V.int) us → IntsAre us ns := by
  induction ns with
  | nil => intro us r; rw [List.map_nil] at r; cases r; exact .nil
  | cons n ns ih =>
    intro us r
    rw [List.map_cons] at r
    cases r with
    | cons r1 r2 =>
      obtain ⟨t, e⟩ := r1
      subst e
      exact .cons n t (ih r2)
section
variable {X : Cx} {e : Expr} {te : TE} {lo hi : Option Expr} {tl th : TO} {pos p2 : Pos}
theorem po_none : PO X none tNoPart := by
  intro pins s σ H Q I h
  rw [evalPart_none]
  exact wpAny_pure ⟨none, H, I, .none, h⟩
theorem po_some (h : PE X e te) : PO X (some e) (tPart te) := by
  intro pins s σ H Q I hw
  rw [evalPart_some]
  refine thn (h pins s σ H _ I hw) fun u s1 ⟨x, H1, I1, r1, q1⟩ => ?_
  obtain ⟨i, rfl, q⟩ := q1
  obtain ⟨t, rfl⟩ := r1
  exact ⟨some i, H1, I1, .int i t, q⟩
noncomputable def SlR (X : Cx) (r : V → Option Int → Option Int → Hp → VK → Prop) : Prop :=
  ∀ (pins : List (Addr × Obj)) (s : Shared) (σ : St) (H : Hp) (x : V) (v vl vu : Value) (lo hi : Option Int) (sl : Addr) (Q : VK), Inv X pins σ H s → RelV x v → s.heap.IsSliceOf sl vl vu .none → IsPart vl lo → IsPart vu hi → r x lo hi H Q →
    ∃ T id, typeLookup (.type T) "__getitem__" = pure (some (.builtin id)) ∧ s.TypeIs v T ∧ wpAny (model X.prog X.w) X.A (getItem v (.ref sl)) (EP X pins σ Q) X.xe s
theorem SlR.or {r r' : V → Option Int → Option Int → Hp → VK → Prop} (h : SlR X r) (h' : SlR X r') : SlR X (fun x lo hi H Q => r x lo hi H Q ∨ r' x lo hi H Q) := by
  intro pins s σ H x v vl vu lo hi sl Q I rx hs pl pu q
  rcases q with q | q
  · exact h pins s σ H x v vl vu lo hi sl Q I rx hs pl pu q
  · exact h' pins s σ H x v vl vu lo hi sl Q I rx hs pl pu q
noncomputable def tSl (r : V → Option Int → Option Int → Hp → VK → Prop) (te : TE) (tl th : TO) : TE := fun σ H Q => te σ H fun x H1 => tl σ H1 fun l H2 => th σ H2 fun u H3 => r x l u H3 Q
theorem pe_slice {r : V → Option Int → Option Int → Hp → VK → Prop} (hr : SlR X r) (he : PE X e te) (hl : PO X lo tl) (hu : PO X hi th) : PE X (.Subscript e (.Slice lo hi none p2) pos) (tSl r te tl th) := by
  intro pins s σ H Q I h
  refine Subscript_ (thn (he pins s σ H _ I h) fun v s1 ⟨x, H1, I1, r1, q1⟩ => ?_)
  refine wpAny_Slice (thn (hl pins s1 σ H1 _ I1 q1) fun vl s2 ⟨l, H2, I2, pl, q2⟩ => thn (hu pins s2 σ H2 _ I2 q2) fun vu s3 ⟨u, H3, I3, pu, q3⟩ => ?_)
  rw [evalPart_none]
  refine wpAny_pure ?_
  have I4 : Inv X pins σ H3 { s3 with heap := s3.heap.push { cls := .type "slice", data := .fields #[vl, vu, .none] } } := I3.kept (t' := s3.toks) fun b ob q => Heap.get?_push_of_some _ q
  obtain ⟨T, id, hT, ht, hg⟩ := hr pins { s3 with heap := s3.heap.push { cls := .type "slice", data := .fields #[vl, vu, .none] } } σ H3 x v vl vu l u s3.heap.objs.size Q I4 r1 (Heap.IsSliceOf.new ..) pl pu q3
  show wpAny (model X.prog X.w) X.A (subscriptTail e (.Slice lo hi none p2) v (.ref s3.heap.objs.size)) (EP X pins σ Q) X.xe { s3 with heap := s3.heap.push { cls := .type "slice", data := .fields #[vl, vu, .none] } }
  exact tail_any (ops := [.ref s3.heap.objs.size, v]) ht hT hg (by with_unfolding_all rfl)
noncomputable def cutV (xs : List V) (lo hi : Option Int) : List V := (xs.drop (HT.sIx xs.length 0 lo)).take (HT.sIx xs.length xs.length hi - HT.sIx xs.length 0 lo)
theorem cutV_length (xs : List V) (lo hi : Option Int) : (cutV xs lo hi).length ≤ xs.length := by
  unfold cutV
  rw [List.length_take, List.length_drop]
  omega
noncomputable def rSlT (K : PySem.W.Frag) : V → Option Int → Option Int → Hp → VK → Prop := fun x lo hi H Q => ∃ a xs, x = .ref a ∧ SqT K H a xs ∧
  ¬ (HT.sIx xs.length 0 lo = 0 ∧ HT.sIx xs.length xs.length hi = xs.length) ∧ ∀ p, H p = none → Q (.ref p) (upd H p (.tup (cutV xs lo hi)))
theorem sl_tup : SlR X (rSlT X.K) := by
  intro pins s σ H x v vl vu lo hi sl Q I rx hs pl pu h
  obtain ⟨a, xs, rfl, hx, hw, q⟩ := h
  cases rx
  obtain ⟨its, r, ht, hz⟩ := I.tuple hx
  have hlen : its.toArray.size = xs.length := by rw [List.size_toArray]; exact r.length.symm
  refine ⟨"tuple", _, PyProof.Rows.slot_tuple_getitem.lookup, ht.typeIs, ?_⟩
  refine HT.getItem_tuple_cut ht hs pl pu (by rw [hlen]; exact hw) ?_ (by rw [hlen]; exact hz)
  rw [hlen]
  refine ⟨.ref s.heap.objs.size, _, I.laid (t' := s.toks) (o := .tup (cutV xs lo hi)) (fun b ob q => Heap.get?_push_of_some _ q) (Nat.le_refl _) ?_, rfl, q _ (I.hok.fresh (Nat.le_refl _))⟩
  exact ⟨Nat.le_trans (cutV_length xs lo hi) hz, _, (r.drop (HT.sIx xs.length 0 lo)).take (HT.sIx xs.length xs.length hi - HT.sIx xs.length 0 lo), IsTup.new _ _⟩
noncomputable def rCatT (K : PySem.W.Frag) : R2 := fun x y H Q => ∃ a b xs ys, x = .ref a ∧ y = .ref b ∧ SqT K H a xs ∧ SqT K H b ys ∧ xs ≠ [] ∧ xs.length + ys.length ≤ sizeLine ∧
  (ys = [] → Q (.ref a) H) ∧ (ys ≠ [] → ∀ p, H p = none → Q (.ref p) (upd H p (.tup (xs ++ ys))))
theorem Vals.nil_iff {xs : List V} {us : List Value} (r : Vals xs us) : us = [] ↔ xs = [] := by
  cases r with
  | nil => simp
  | cons _ _ => simp
theorem op_catT : OpR X (binaryOp .Add) (rCatT X.K) := by
  intro pins s σ H x y v u Q I rx ry h
  obtain ⟨a, b, xs, ys, rfl, rfl, ha, hb, hx, hz, q1, q2⟩ := h
  cases rx
  cases ry
  obtain ⟨its, r1, p1, _⟩ := I.tuple ha
  obtain ⟨its2, r2, p2, _⟩ := I.tuple hb
  refine HT.cat_tup p1 p2 (fun z => hx (r1.nil_iff.mp z)) (fun z => ⟨.ref a, H, I, rfl, q1 (r2.nil_iff.mp z)⟩) (fun z => ?_) (by rw [← r1.length, ← r2.length]; exact hz)
  refine ⟨.ref s.heap.objs.size, _, I.laid (t' := s.toks) (o := .tup (xs ++ ys)) (fun b ob q => Heap.get?_push_of_some _ q) (Nat.le_refl _) ?_, rfl, q2 (fun w => z (r2.nil_iff.mpr w)) _ (I.hok.fresh (Nat.le_refl _))⟩
  exact ⟨by rw [List.length_append]; exact hz, _, r1.append r2, IsTup.new _ _⟩
end
end L2
namespace L2
open PySem PySem.Spec PyProof.Rows
noncomputable def ixN (n : Nat) (i : Int) : Option Nat := if 0 ≤ i then (if i < n then some i.toNat else none) else if -(n : Int) ≤ i then some (i + n).toNat else none
noncomputable def atI {α : Type} (xs : List α) (i : Int) : Option α := (ixN xs.length i).bind fun j => xs[j]?
theorem ixN_seq {n : Nat} {i : Int} {j : Nat} (h : ixN n i = some j) : seqIndex? i n = some j ∧ j < n ∧ -(n : Int) ≤ i ∧ i < n := by
  unfold ixN at h
  by_cases h0 : 0 ≤ i
  · rw [if_pos h0] at h
    by_cases h1 : i < n
    · rw [if_pos h1] at h
      have e : i.toNat = j := Option.some.inj h
      exact ⟨by rw [seqIndex_of h0 h1, e], by omega, by omega, h1⟩
    · rw [if_neg h1] at h; cases h
  · rw [if_neg h0] at h
    by_cases h1 : -(n : Int) ≤ i
    · rw [if_pos h1] at h
      have e : (i + n).toNat = j := Option.some.inj h
      exact ⟨by rw [seqIndex_neg (by omega) h1, e], by omega, h1, by omega⟩
    · rw [if_neg h1] at h; cases h
theorem atI_get {α : Type} {xs : List α} {i : Int} {v : α} (h : atI xs i = some v) : ∃ j, seqIndex? i xs.length = some j ∧ xs[j]? = some v ∧ j < xs.length ∧ -(xs.length : Int) ≤ i ∧ i < xs.length := by
  unfold atI at h
  cases e : ixN xs.length i with
  | none => rw [e] at h; cases h
  | some j =>
    rw [e] at h
    obtain ⟨h1, h2, h3, h4⟩ := ixN_seq e
    exact ⟨j, h1, h, h2, h3, h4⟩
noncomputable def PlainIx (b : Expr) : Prop := ∀ o i, subscripted b false o i = operate [o, i] (getItem o i)
noncomputable def IxR (X : Cx) (r : R2) : Prop :=
  ∀ (value slice : Expr) (pins : List (Addr × Obj)) (s : Shared) (σ : St) (H : Hp) (x y : V) (v u : Value) (Q : VK), Inv X pins σ H s → RelV x v → RelV y u → r x y H Q →
    subscripted slice false v u = operate [v, u] (getItem v u) → wpAny (model X.prog X.w) X.A (subscriptTail value slice v u) (EP X pins σ Q) X.xe s
noncomputable def MtR (X : Cx) (id : String) (r : V → List V → Hp → VK → Prop) : Prop :=
  ∀ (pins : List (Addr × Obj)) (s : Shared) (σ : St) (H : Hp) (x : V) (xs : List V) (v : Value) (us : List Value) (Q : VK), Inv X pins σ H s → RelV x v → Vals xs us → r x xs H Q →
    wpAny (model X.prog X.w) X.A (call (.builtin id) (v :: us)) (EP X pins σ Q) X.xe s
section
variable {X : Cx} {a b : Expr} {ta tb : TE} {pos : Pos}
theorem IxR.or {r r' : R2} (h : IxR X r) (h' : IxR X r') : IxR X (fun x y H Q => r x y H Q ∨ r' x y H Q) := by
  intro value slice pins s σ H x y v u Q I rx ry q hs
  rcases q with q | q
  · exact h value slice pins s σ H x y v u Q I rx ry q hs
  · exact h' value slice pins s σ H x y v u Q I rx ry q hs
theorem pe_ix {r : R2} (hr : IxR X r) (ha : PE X a ta) (hb : PE X b tb) (hs : PlainIx b) : PE X (.Subscript a b pos) (tOp r ta tb) := by
  intro pins s σ H Q I h
  exact Subscript_ (binT ha hb I h fun v u s2 x y H2 I2 rx ry q => hr a b pins s2 σ H2 x y v u Q I2 rx ry q (hs _ _))
noncomputable def rIxL (K : PySem.W.Frag) : R2 := fun x y H Q => ∃ p xs i v, x = .ref p ∧ y = .int i ∧ SqL K H p xs ∧ atI xs i = some v ∧ Q v H
noncomputable def rIxT (K : PySem.W.Frag) : R2 := fun x y H Q => ∃ p xs i v, x = .ref p ∧ y = .int i ∧ SqT K H p xs ∧ atI xs i = some v ∧ Q v H
noncomputable def rIxS : R2 := fun x y H Q => ∃ z i c, x = .str z ∧ y = .int i ∧ z.length ≤ sizeLine ∧ atI z.cps.toList i = some c ∧ Q (.str ⟨#[c]⟩) H
theorem ix_list : IxR X (rIxL X.K) := by
  intro value slice pins s σ H x y v u Q I rx ry h hs
  obtain ⟨p, xs, i, z, rfl, rfl, hq, he, q⟩ := h
  cases rx
  obtain ⟨t, rfl⟩ := ry
  obtain ⟨its, r, pl, hz⟩ := I.list hq
  obtain ⟨j, h1, h2, h3, h4, h5⟩ := atI_get he
  obtain ⟨w, ew, rw'⟩ := r.get h2
  have hl := r.length
  have hn := line63
  have fin : EP X pins σ Q w s := ⟨z, H, I, rw', q⟩
  by_cases h0 : 0 ≤ i
  · have hj : i.toNat = j := by
      rw [seqIndex_of h0 h5] at h1
      exact Option.some.inj h1
    exact item_listR pl.isList h0 (by omega) (by rw [hj]; simpa using ew) fin hs
  · have hj : (i + (its.toArray.size : Int)).toNat = j := by
      rw [seqIndex_neg (by omega) h4] at h1
      rw [List.size_toArray, ← hl]
      exact Option.some.inj h1
    exact subscriptTail_builtinR (x := w) pl.isList.typeIs slot_list_getitem.lookup
      (wpAny_getItem_list_neg (Q := fun r s' => r = w ∧ EP X pins σ Q r s') pl.isList (by omega) (by rw [List.size_toArray] <;> omega) (by omega) (by rw [hj]; simpa using ew) ⟨rfl, fin⟩) hs
theorem ix_tup : IxR X (rIxT X.K) := by
  intro value slice pins s σ H x y v u Q I rx ry h hs
  obtain ⟨p, xs, i, z, rfl, rfl, hq, he, q⟩ := h
  cases rx
  obtain ⟨t, rfl⟩ := ry
  obtain ⟨its, r, pl, hz⟩ := I.tuple hq
  obtain ⟨j, h1, h2, h3, h4, h5⟩ := atI_get he
  obtain ⟨w, ew, rw'⟩ := r.get h2
  have hl := r.length
  have hn := line63
  have fin : EP X pins σ Q w s := ⟨z, H, I, rw', q⟩
  exact subscriptTail_builtinR (x := w) pl.typeIs slot_tuple_getitem.lookup
    (getItem_tuple (j := j) (Q := fun r s' => r = w ∧ EP X pins σ Q r s') pl (by omega) (by omega) (by rw [List.size_toArray, ← hl]; exact h1) (by simpa using ew) ⟨rfl, fin⟩) hs
theorem ix_str : IxR X rIxS := by
  intro value slice pins s σ H x y v u Q I rx ry h hs
  obtain ⟨z, i, c, rfl, rfl, hz, he, q⟩ := h
  obtain ⟨t, rfl⟩ := rx
  obtain ⟨t', rfl⟩ := ry
  obtain ⟨j, h1, h2, h3, h4, h5⟩ := atI_get he
  have hl : z.cps.toList.length = z.length := by simp [Str.length]
  rw [hl] at h1 h4 h5
  have hn := line63
  exact tail_any (typeIs_str s z t) slot_str_getitem.lookup (getItem_str (c := c) (by
    have e1 : decide (i < -(2 ^ 63 : Int)) = false := decide_eq_false (by omega)
    have e2 : decide (i ≥ 2 ^ 63) = false := decide_eq_false (by omega)
    rw [e1, e2, Bool.or_false]) (by rw [h1]; simpa using h2) ⟨.str ⟨#[c]⟩, H, I.tok _, ⟨_, rfl⟩, q⟩) hs
noncomputable def rIx (K : PySem.W.Frag) : R2 := fun x y H Q => rIxL K x y H Q ∨ rIxT K x y H Q ∨ rIxS x y H Q
theorem ix_seq : IxR X (rIx X.K) := ix_list.or (ix_tup.or ix_str)
theorem slice_bounds (lo hi : Option Int) (n : Nat) : (sliceBounds lo hi none n).1 = ((HT.sIx n 0 lo : Nat) : Int) ∧ (sliceBounds lo hi none n).2.1 = ((HT.sIx n n hi : Nat) : Int) ∧ (sliceBounds lo hi none n).2.2 = 1 := by
  refine ⟨?_, ?_, rfl⟩
  · cases lo with
    | none => simp [sliceBounds, HT.sIx]
    | some i =>
      simp only [sliceBounds, HT.sIx, Option.getD_none, show (1 : Int) > 0 by decide, if_true]
      by_cases h : i < 0
      · simp only [h, if_true] <;> omega
      · simp only [h, if_false] <;> omega
  · cases hi with
    | none => simp [sliceBounds, HT.sIx]
    | some i =>
      simp only [sliceBounds, HT.sIx, Option.getD_none, show (1 : Int) > 0 by decide, if_true]
      by_cases h : i < 0
      · simp only [h, if_true] <;> omega
      · simp only [h, if_false] <;> omega
theorem slicePick_cut (its : List Value) (lo hi : Option Int) : slicePick its.toArray lo hi none = ((its.drop (HT.sIx its.length 0 lo)).take (HT.sIx its.length its.length hi - HT.sIx its.length 0 lo)).toArray := by
  obtain ⟨h1, h2, h3⟩ := slice_bounds lo hi its.toArray.size
  unfold slicePick
  rw [h1, h2, h3]
  simp only [sliceRange_one, pick_run, List.size_toArray] <;> rfl
noncomputable def rSlL (K : PySem.W.Frag) : V → Option Int → Option Int → Hp → VK → Prop := fun x lo hi H Q => ∃ a xs, x = .ref a ∧ SqL K H a xs ∧ ∀ p, H p = none → Q (.ref p) (upd H p (.lst (cutV xs lo hi)))
theorem sl_list : SlR X (rSlL X.K) := by
  intro pins s σ H x v vl vu lo hi sl Q I rx hs pl pu h
  obtain ⟨a, xs, rfl, hx, q⟩ := h
  cases rx
  obtain ⟨its, r, ht, hz⟩ := I.list hx
  have hlen := r.length
  refine ⟨"list", _, slot_list_getitem.lookup, ht.isList.typeIs, ?_⟩
  refine wpAny_getItem_list_slice ht.isList hs pl pu .none (by simp) ?_ (by rw [List.size_toArray] <;> omega)
  rw [slicePick_cut, ← hlen]
  refine ⟨.ref s.heap.objs.size, _, I.laid (t' := s.toks) (o := .lst (cutV xs lo hi)) (fun b ob q => Heap.get?_push_of_some _ q) (Nat.le_refl _) ?_, rfl, q _ (I.hok.fresh (Nat.le_refl _))⟩
  exact ⟨Nat.le_trans (cutV_length xs lo hi) hz, _, 0, (r.drop (HT.sIx xs.length 0 lo)).take (HT.sIx xs.length xs.length hi - HT.sIx xs.length 0 lo), Heap.get?_push_size _ rfl⟩
noncomputable def flatV : V → Bool
  | .non => true
  | .bl _ => true
  | .int _ => true
  | .str _ => true
  | _ => false
noncomputable def eqV : V → V → Bool
  | .non, .non => true
  | .bl a, .bl b => a == b
  | .bl a, .int b => (if a then 1 else 0) == b
  | .int a, .bl b => a == (if b then 1 else 0)
  | .int a, .int b => a == b
  | .str a, .str b => a == b
  | _, _ => false
theorem call_len_seq : CallR X (.builtin "len") (fun xs H Q => ∃ p ys, xs = [.ref p] ∧ (SqL X.K H p ys ∨ SqT X.K H p ys) ∧ Q (.int ys.length) H) := by
  intro pins s σ H xs us Q I r h
  obtain ⟨p, ys, rfl, hq, q⟩ := h
  obtain ⟨u, rfl, rx⟩ := vals1 r
  cases rx
  have hn := line63
  rcases hq with hq | hq
  · obtain ⟨its, r', pl, hz⟩ := I.list hq
    have hlen := r'.length
    exact Calls.call_len_list pl.isList (by simp only [List.size_toArray] <;> omega) ⟨.int ys.length, H, I.tok _, ⟨s.toks + 1, by rw [List.size_toArray, hlen]⟩, q⟩
  · obtain ⟨its, r', pl, hz⟩ := I.tuple hq
    have hlen := r'.length
    exact len_tuple pl (by simp only [List.size_toArray] <;> omega) ⟨.int ys.length, H, I.tok _, ⟨s.toks + 1, by rw [List.size_toArray, hlen]⟩, q⟩
theorem CallR.or {f : Value} {r r' : List V → Hp → VK → Prop} (h : CallR X f r) (h' : CallR X f r') : CallR X f (fun xs H Q => r xs H Q ∨ r' xs H Q) := by
  intro pins s σ H xs us Q I rs q
  rcases q with q | q
  · exact h pins s σ H xs us Q I rs q
  · exact h' pins s σ H xs us Q I rs q
theorem call_list_of : CallR X (.type "list") (fun xs H Q => ∃ p ys, xs = [.ref p] ∧ (SqL X.K H p ys ∨ SqT X.K H p ys) ∧ ∀ l, H l = none → Q (.ref l) (upd H l (.lst ys))) := by
  intro pins s σ H xs us Q I r h
  obtain ⟨p, ys, rfl, hq, q⟩ := h
  obtain ⟨u, rfl, rx⟩ := vals1 r
  cases rx
  have fin : ∀ (its : List Value), Vals ys its → ys.length ≤ sizeLine → ∀ (h' : Heap) (c' : Nat), (∀ b o', s.heap.get? b = some o' → h'.get? b = some o') →
      h'.get? s.heap.objs.size = some { cls := .type "list", dict := none, data := .seq its.toArray c', slots := #[] } → EP X pins σ Q (.ref s.heap.objs.size) { s with heap := h' } := fun its r' hz h' c' kp e =>
    ⟨.ref s.heap.objs.size, _, I.laid (t' := s.toks) kp (Nat.le_refl _) (show ObjOk X.prog X.w _ h' _ (.lst ys) from ⟨hz, its, c', r', e⟩), rfl, q _ (I.hok.fresh (Nat.le_refl _))⟩
  rcases hq with hq | hq
  · obtain ⟨its, r', pl, hz⟩ := I.list hq
    have hlen := r'.length
    obtain ⟨o, ho, hc, n, hd⟩ := pl.isList
    exact call_list_seq p (.inl rfl) ho hc hd (fun h' c' kp e => fin its r' hz h' c' kp e) (by simp only [List.size_toArray] <;> omega)
  · obtain ⟨its, r', pl, hz⟩ := I.tuple hq
    have hlen := r'.length
    obtain ⟨o, ho, hc, n, hd⟩ := pl
    exact call_list_seq p (.inr rfl) ho hc hd (fun h' c' kp e => fin its r' hz h' c' kp e) (by simp only [List.size_toArray] <;> omega)
theorem call_tuple_of : CallR X (.type "tuple") (fun xs H Q => ∃ p ys, xs = [.ref p] ∧ ((SqL X.K H p ys ∧ ∀ l, H l = none → Q (.ref l) (upd H l (.tup ys))) ∨ (SqT X.K H p ys ∧ Q (.ref p) H))) := by
  intro pins s σ H xs us Q I r h
  obtain ⟨p, ys, rfl, h⟩ := h
  obtain ⟨u, rfl, rx⟩ := vals1 r
  cases rx
  rcases h with ⟨hq, q⟩ | ⟨hq, q⟩
  · obtain ⟨its, r', pl, hz⟩ := I.list hq
    have hlen := r'.length
    refine call_tuple_list pl.isList (fun h' kp => ?_) (by simp only [List.size_toArray] <;> omega)
    have I1 : Inv X pins σ H { s with heap := h' } := I.kept (t' := s.toks) kp
    have I2 : Inv X pins σ (upd H h'.objs.size (.tup ys)) { s with heap := h'.push { cls := .type "tuple", data := .seq its.toArray } } :=
      I1.laid (t' := s.toks) (fun b o e => Heap.get?_push_of_some _ e) (Nat.le_refl _) (show ObjOk X.prog X.w _ _ _ (.tup ys) from ⟨hz, its, r', IsTup.new _ _⟩)
    exact ⟨.ref h'.objs.size, _, I2, rfl, q _ (I1.hok.fresh (Nat.le_refl _))⟩
  · obtain ⟨its, r', pl, hz⟩ := I.tuple hq
    exact call_tuple_same pl ⟨.ref p, H, I, rfl, q⟩
noncomputable def tyV (K : PySem.W.Frag) (T : String) (x : V) (H : Hp) : Prop := match x with
  | .str _ => T = "str"
  | .int _ => T = "int"
  | .ref p => (T = "list" ∧ ∃ xs, SqL K H p xs) ∨ (T = "tuple" ∧ ∃ o, K.lookup p = some o ∧ o.cls = .type "tuple" ∧ o.dict = none) ∨
      (T = "dict" ∧ ((∃ kvs, H p = some (.dK kvs)) ∨ ∃ kvs, H p = some (.dT kvs))) ∨ (T = "set" ∧ ∃ S n, H p = some (.set S n))
  | _ => False
theorem tyV_is {pins : List (Addr × Obj)} {σ : St} {H : Hp} {s : Shared} {T : String} {x : V} {v : Value} (I : Inv X pins σ H s) (r : RelV x v) (ty : tyV X.K T x H) :
    s.TypeIs v T ∧ ∀ a, v = .ref a → ∃ ob, s.heap.get? a = some ob ∧ ob.dict = none := by
  cases x with
  | str z =>
    obtain ⟨t, rfl⟩ := r
    cases (show T = "str" from ty)
    exact ⟨typeIs_str s z t, fun _ e => nomatch e⟩
  | int i =>
    obtain ⟨t, rfl⟩ := r
    cases (show T = "int" from ty)
    exact ⟨typeIs_int s i t, fun _ e => nomatch e⟩
  | ref p =>
    cases r
    rcases ty with ⟨rfl, xs, hq⟩ | ⟨rfl, o, hk, hc, hd⟩ | ⟨rfl, hk⟩ | ⟨rfl, S, n, hk⟩
    · obtain ⟨its, _, pl, _⟩ := I.list hq
      refine ⟨pl.isList.typeIs, fun a e => ?_⟩
      cases e
      obtain ⟨o, n, e, c, hd, _⟩ := pl
      exact ⟨o, e, hd⟩
    · refine ⟨⟨o, I.kIn p o hk, hc⟩, fun a e => ?_⟩
      cases e
      exact ⟨o, I.kIn _ o hk, hd⟩
    · have z : ∃ o, s.heap.get? p = some o ∧ o.ExactDict := by
        rcases hk with ⟨kvs, hk⟩ | ⟨kvs, hk⟩
        · obtain ⟨_, _, _, _, o, _, _, e, ex, _⟩ := I.hok p _ hk
          exact ⟨o, e, ex⟩
        · obtain ⟨_, _, _, _, o, _, _, e, ex, _⟩ := I.hok p _ hk
          exact ⟨o, e, ex⟩
      obtain ⟨o, e, ex⟩ := z
      refine ⟨⟨o, e, ex.1⟩, fun a e2 => ?_⟩
      cases e2
      exact ⟨o, e, ex.2.1⟩
    · obtain ⟨o, _, _, _, e, ex, _⟩ := I.hok p _ hk
      refine ⟨⟨o, e, ex.1⟩, fun a e2 => ?_⟩
      cases e2
      exact ⟨o, e, ex.2.1⟩
  | _ => exact False.elim ty
noncomputable def tBM (K : PySem.W.Frag) (T : String) (r : V → List V → Hp → VK → Prop) (to : TE) (t : TA) : TE := fun σ H Q => to σ H fun x H1 => tyV K T x H1 ∧ t σ H1 fun xs H2 => r x xs H2 Q
variable {o e : Expr} {es : List Expr} {to : TE} {t : TA} {name : Str} {apos cpos : Pos} {T id : String} {r : V → List V → Hp → VK → Prop}
theorem pe_bm (pa : PlainAttrs T) (slot : Slot T name id) (hty : typeOf (.builtin id) = pure (.type "method_descriptor")) (hm : MtR X id r) (ho : PE X o to) (ha : PA X (e :: es) t)
    (hbase : attributeBase o name X.env (eval o X.env) = eval o X.env := by rfl)
    (hfew : ((backTo cpos (starEach (e :: es) X.env)).all (fun x => !x.1) && (backToKw cpos (keywordEach [] X.env)).all (fun x => x.1.isSome)
      && decide ((e :: es).length + ([] : List Keyword).length + (if ([] : List Keyword).isEmpty then 0 else 1) < 30)) = true := by rfl)
    (hline : (apos.endLine == cpos.line) = true := by rfl) (hs : starEach (e :: es) X.env = (false, eval e X.env) :: starEach es X.env := by rfl) (hplain : (backTo cpos (starEach es X.env)).any (·.1) = false := by rfl) :
    PE X (.Call (.Attribute o name apos) (e :: es) [] cpos) (tBM X.K T r to t) := by
  intro pins s σ H Q I h
  refine wpAny_Call_method_late hbase hfew hline rfl (thn (ho pins s σ H _ I h) fun v s1 ⟨x, H1, I1, r1, ty, q1⟩ => ?_)
  obtain ⟨h1, h2⟩ := tyV_is I1 r1 ty
  refine ⟨T, id, pa, slot, hty, h1, h2, ?_⟩
  have hA := ha cpos pins s1 σ H1 _ I1 q1
  rw [hs] at hA ⊢
  refine Calls.callWith_builtin (by show (false || (backTo cpos (starEach es X.env)).any (·.1)) = false; rw [hplain] <;> rfl) (Calls.evalArgs_plain ?_)
  exact thn hA fun us s2 ⟨vs, H2, I2, r2, q2⟩ => hm pins s2 σ H2 x vs v us Q I2 r1 r2 q2
/- xs.append(e), list.index on a module's tuple .. are MtR facts of 06m -/
end
end L2
namespace L2
open PySem PySem.Spec PyProof.Rows
noncomputable def MtM (X : Cx) (id : String) (r : V → List V → Hp → VK → Prop) : Prop :=
  ∀ (pins : List (Addr × Obj)) (s : Shared) (σ : St) (H : Hp) (x : V) (xs : List V) (v : Value) (us : List Value) (Q : VK), Inv X pins σ H s → RelV x v → Vals xs us → r x xs H Q →
    wpAny (model X.prog X.w) X.A (call (.builtin id) (v :: us)) (EP X pins σ Q) X.xe s
theorem Vals.one : ∀ {x : V} {us : List Value}, Vals [x] us → ∃ u, us = [u] ∧ RelV x u
  | _, _, .cons r .nil => ⟨_, rfl, r⟩
theorem Vals.two : ∀ {x y : V} {us : List Value}, Vals [x, y] us → ∃ u v, us = [u, v] ∧ RelV x u ∧ RelV y v
  | _, _, _, .cons r (.cons q .nil) => ⟨_, _, rfl, r, q⟩
theorem Vals.zero : ∀ {us : List Value}, Vals [] us → us = []
  | _, .nil => rfl
theorem Vals.eraseIdx : ∀ {xs : List V} {us : List Value} (i : Nat), Vals xs us → Vals (xs.eraseIdx i) (us.eraseIdx i)
  | _, _, _, .nil => .nil
  | _, _, 0, .cons _ t => t
  | _, _, i + 1, .cons r t => .cons r (Vals.eraseIdx i t)
theorem len_erase {α : Type} : ∀ (l : List α) (i : Nat), (l.eraseIdx i).length ≤ l.length
  | [], _ => Nat.le_refl _
  | _ :: _, 0 => Nat.le_succ _
  | _ :: r, i + 1 => Nat.succ_le_succ (len_erase r i)
section
variable {X : Cx} {pins : List (Addr × Obj)} {σ : St} {H : Hp} {s : Shared} {l b : Addr} {xs ys zs : List V}
theorem Inv.lset {its its' : List Value} {n : Nat} {f : Array Value → Array Value} {t' : Nat} (I : Inv X pins σ H s) (hH : H l = some (.lst xs))
    (e : s.heap.get? l = some { cls := .type "list", data := .seq its.toArray n }) (hf : f its.toArray = its'.toArray) (hv : Vals ys its') (hz : ys.length ≤ sizeLine) :
    Inv X pins σ (upd H l (.lst ys)) { s with heap := s.heap.update l (Obj.mapSeq f), toks := t' } := by
  have q := PySem.IsL.update e f
  rw [hf] at q
  refine I.write (x := l) (e := l) (by rw [hH]; exact trivial) (.inl rfl) (fun b' u hb hu => (Heap.get?_update_other s.heap (Obj.mapSeq f) (Ne.symm hb)).trans hu) ⟨_, q⟩ ?_
  exact ⟨hz, its', _, hv, q⟩
theorem Inv.lnew {its : List Value} {t' : Nat} (I : Inv X pins σ H s) (hv : Vals ys its) (hz : ys.length ≤ sizeLine) :
    Inv X pins σ (upd H s.heap.objs.size (.lst ys)) { s with heap := s.heap.push { cls := .type "list", data := .seq its.toArray }, toks := t' } :=
  I.laid (fun _ _ q => Heap.get?_push_of_some _ q) (Nat.le_refl _) ⟨hz, its, 0, hv, Heap.get?_push_size _ rfl⟩
theorem Inv.fresh (I : Inv X pins σ H s) : H s.heap.objs.size = none := I.hok.fresh (Nat.le_refl _)
theorem Inv.lstM (I : Inv X pins σ H s) (hH : H l = some (.lst xs)) : xs.length ≤ sizeLine ∧ ∃ (its : List Value) (n : Nat), Vals xs its ∧ xs.length = its.length ∧ s.heap.get? l = some { cls := .type "list", data := .seq its.toArray n } := by
  obtain ⟨z, its, n, r, e⟩ := I.hok l _ hH
  exact ⟨z, its, n, r, r.length, e⟩
theorem notLongL {n : Nat} (h : n ≤ sizeLine) : Builtin.List.listTooLong n = false := by
  unfold Builtin.List.listTooLong
  exact decide_eq_false (by omega)
end
section
variable {X : Cx}
noncomputable def rAppend : V → List V → Hp → VK → Prop := fun x vs H Q => ∃ l xs y, x = .ref l ∧ vs = [y] ∧ H l = some (.lst xs) ∧ xs.length < sizeLine ∧ Q .non (upd H l (.lst (xs ++ [y])))
theorem mt_append : MtM X "list.append" rAppend := by
  intro pins s σ H x vs v us Q I rx rv h
  obtain ⟨l, xs, y, rfl, rfl, hH, hz, q⟩ := h
  cases rx
  obtain ⟨u, rfl, ru⟩ := rv.one
  obtain ⟨z, its, n, r, hl, e⟩ := I.lstM hH
  refine call_meets F.slot_list_append ⟨_, e, rfl⟩ F.entry_list_append (F.args_list_append_2 _ _) (PySem.list_append l its.toArray n u (by rw [List.size_toArray]; omega)) ⟨e, ?_⟩
  refine ⟨.non, _, I.lset (its' := its ++ [u]) hH e (by simp) (r.append (.cons ru .nil)) ?_, rfl, q⟩
  rw [List.length_append, List.length_singleton]
  omega
noncomputable def rExtend : V → List V → Hp → VK → Prop := fun x vs H Q => ∃ l b xs zs, x = .ref l ∧ vs = [.ref b] ∧ H l = some (.lst xs) ∧ H b = some (.lst zs) ∧ xs.length + zs.length ≤ sizeLine ∧ Q .non (upd H l (.lst (xs ++ zs)))
theorem mt_extend : MtM X "list.extend" rExtend := by
  intro pins s σ H x vs v us Q I rx rv h
  obtain ⟨l, b, xs, zs, rfl, rfl, hH, hB, hz, q⟩ := h
  cases rx
  obtain ⟨u, rfl, ru⟩ := rv.one
  cases ru
  obtain ⟨z, its, n, r, hl, e⟩ := I.lstM hH
  obtain ⟨z2, its2, n2, r2, hl2, e2⟩ := I.lstM hB
  have hsz : its.toArray.size + its2.toArray.size ≤ sizeLine := by rw [List.size_toArray, List.size_toArray]; omega
  have hlong : ¬ (!its.toArray.isEmpty && Builtin.List.listTooLong (its.toArray.size + its2.toArray.size)) = true := by
    rw [notLongL hsz, Bool.and_false]
    exact Bool.false_ne_true
  refine call_meets F.slot_list_extend ⟨_, e, rfl⟩ F.entry_list_extend (F.args_list_extend_2 _ _)
    (AutoSeq1.list_extend_list_list_0 l its.toArray n b its2.toArray n2 hlong (by rw [List.size_toArray]; omega) (by omega)) ⟨e, e2, ?_⟩
  refine ⟨.non, _, I.lset (its' := its ++ its2) hH e (by simp) (r.append r2) ?_, rfl, q⟩
  rw [List.length_append]
  omega
noncomputable def rPopAt : V → List V → Hp → VK → Prop := fun x vs H Q => ∃ l xs i k y, x = .ref l ∧ vs = [.int i] ∧ H l = some (.lst xs) ∧ -(2 ^ 63) ≤ i ∧ i < 2 ^ 63 ∧ seqIndex? i xs.length = some k ∧ xs[k]? = some y ∧ Q y (upd H l (.lst (xs.eraseIdx k)))
theorem mt_popAt : MtM X "list.pop" rPopAt := by
  intro pins s σ H x vs v us Q I rx rv h
  obtain ⟨l, xs, i, k, y, rfl, rfl, hH, h1, h2, hk, hy, q⟩ := h
  cases rx
  obtain ⟨u, rfl, ru⟩ := rv.one
  obtain ⟨t, rfl⟩ := ru
  obtain ⟨z, its, n, r, hl, e⟩ := I.lstM hH
  obtain ⟨w, hw, rw'⟩ := r.get hy
  refine call_meets F.slot_list_pop ⟨_, e, rfl⟩ F.entry_list_pop (F.args_list_pop_2 _ _)
    (MeetsSeq.list_pop_at l its.toArray n i t k w (fitsIndex_both h1 h2) (by rw [List.size_toArray, ← hl]; exact hk) (by rw [← Array.getElem?_toList]; exact hw) (by rw [List.size_toArray]; omega)) ⟨e, ?_⟩
  refine ⟨y, _, I.lset (its' := its.eraseIdx k) hH e ?_ (r.eraseIdx k) ?_, rw', q⟩
  · show its.toArray.eraseIdxIfInBounds k = (its.eraseIdx k).toArray
    rw [List.eraseIdxIfInBounds_toArray]
  · have := len_erase xs k
    omega
end
end L2
namespace Att
open PySem PySem.W PySem.Calls PyProof.Rows
theorem ints_of_wellAll {P : Params} {h : Heap} : ∀ (ns : List Int) (vs : List Value), WellAll P h vs (ns.map WData.int) → IntsAre vs ns := by
  intro ns
  induction ns with
  | nil =>
    intro vs w
    rw [List.map_nil] at w
    cases w
    exact .nil
  | cons n ns ih =>
    intro vs w
    rw [List.map_cons] at w
    cases w with
    | cons a b =>
      cases a
      exact .cons _ _ (ih _ b)
theorem script_of {l : OpenLaw} {n : Nat} (hn : l.most = some n) {P : Params} {h : Heap} {args : List WData} {vals : List Value}
    (hpre : l.row.toRowW.claim.pre args = true) (hwl : WellAll P h vals args) :
    ∃ a vs ns, vals = [Value.ref a] ∧ args = [WData.list (ns.map WData.int)] ∧ h.get? a = some { cls := .type "list", data := .seq vs.toArray } ∧ IntsAre vs ns ∧ ns.length ≤ n := by
  have hsh : WShape.hasAll [] args [.list .int] = true := (pre_splitW hpre).1
  have hc : l.pre.holds [] { args := args } = true := (pre_splitW hpre).2
  obtain ⟨d, r, rfl, h1, h2⟩ := hasAllW_cons hsh
  obtain rfl := hasAllW_nil h2
  obtain ⟨xs, rfl, h3⟩ := hasW_list h1
  obtain ⟨ns, rfl⟩ := items_int h3
  have hlen : ns.length ≤ n := by
    unfold OpenLaw.pre at hc
    have h4 : (WTm.not (.lt (.lit (.int (n : Int))) (.len (.arg 0)))).holds [] { args := [.list (ns.map .int)] } = true := by
      have h4 := (holds_andW hc).1
      rw [hn] at h4
      exact h4
    have h5 := condW_of h4 (w_not (w_lt w_lit (w_len_list (w_arg rfl))))
    rw [List.length_map] at h5
    refine Nat.le_of_not_lt fun q => ?_
    have q' : (n : Int) < ((ns.length : Nat) : Int) := by omega
    first
      | (rw [decide_eq_true q'] at h5; exact absurd h5 (by decide))
      | (simp at h5; omega)
  cases hwl with
  | cons w1 w2 =>
    cases w2
    cases w1 with
    | list ho hall => exact ⟨_, _, ns, rfl, rfl, ho, ints_of_wellAll ns _ hall, hlen⟩
theorem post_true (l : OpenLaw) (args : List WData) : l.row.toRowW.claim.post args (.bool true) args = true :=
  postW_of (r := l.row.toRowW) (X := (true == true))
    (show WShape.has [] (.bool true) .bool = true by first | rfl | decide | simp [WShape.has, WShape.arms, WShape.armsAll])
    (show (WTm.eq .res (.lit (.bool true))).value [] { args := args, res := some (.bool true), after := args } = some (.bool (true == true)) from w_eq_bool (w_res rfl) w_lit) rfl
theorem attach_call {l : OpenLaw} {n : Nat} {q : Program} {loose : List Str} {XP : (Str → Option Value) → Heap → Prop} {YP : World → Heap → Prop} {d : DefRec}
    (hn : l.most = some n) (hdf : d.params.defaults = [])
    (call : ∀ (w : World) (s₀ s₁ : Shared) (mg mb : Str → Option Value) (fa : Addr) (o : Obj) (pm cd doc : Value) (a : Addr) (vs : List Value) (ns : List Int),
      Ground q loose [] XP w s₀ mg mb s₁.heap → YP w s₁.heap →
      s₁.heap.get? fa = some o → o.data = .func (docDef d.name d.params d.body d.scope pm cd doc) → s₁.heap.CodeRec cd d.name → mg d.name = some (.ref fa) →
      s₁.heap.get? a = some { cls := .type "list", data := .seq vs.toArray } → IntsAre vs ns → ns.length ≤ n → s₁.gens = #[] →
      codeAny (model l.prog w) callerA (.call (.ref fa) ⟨[.ref a], []⟩) (fun r s' => r = .ok (.ret (.bool true)) ∧ OldK s₁.heap s'.heap ∧ s'.os = s₁.os ∧ AllBare s'.gens) s₁) :
    WalkO q loose XP YP l.row.toRowW d [] (fun f vs => PySem.call f vs) := by
  intro w s₀ s₁ mg mb G Y fa o pm cd doc dV kV ho hd hcd hD hmg hg args vals as hpre hlay hrd hwl hlo
  obtain rfl : dV = .none := Dflts.none hD hdf
  obtain rfl : kV = .none := Dflts.noKw hD
  obtain ⟨a, vs, ns, rfl, rfl, hobj, hints, hlen⟩ := script_of hn hpre hwl
  refine enter_call (codeAny_mono (call w s₀ s₁ mg mb fa o pm cd doc a vs ns G Y ho (fd_plain hd) hcd hmg hobj hints hlen hg) fun r s' hq => ?_)
  obtain ⟨rfl, h2, h3, h4⟩ := hq
  exact ⟨.inl ⟨.bool true, .bool true, [], rfl, fun _ => rfl, .bool true, post_true l _, fun _ => ⟨List.Pairwise.nil, fun _ hm => (nomatch hm)⟩⟩, h2, h3, h4⟩
section
variable {prog : Program} {w : World} {A : Around} {E : Value → Shared → Prop} {s : Shared} {K : Frag}
theorem make_obj {R : Result → Shared → Prop} {C fI : Addr} {rest : List Value} {kw : List (Str × Value)}
    (X : K.In s.heap) (hm : makesIn K C = true) (hi : findIn K (.ref C) "__init__" = some (some (.ref fI))) (hf : isFn K (.ref fI) = true)
    (h : codeAny (model prog w) (A.under (.builtin "type.__call__" ⟨.ref C :: rest, kw⟩)) (.call (.ref fI) ⟨.ref (s.heap.objs.size + 1) :: rest, kw⟩) (InitBack (s.heap.objs.size + 1) R)
      { s with heap := (s.heap.push emptyDict).push (instObj C s.heap.objs.size) }) : codeAny (model prog w) A (.call (.ref C) ⟨rest, kw⟩) R s := by
  obtain ⟨hh, g, d, t, os⟩ := s
  exact make_core (makes_of X hm) (looks_findIn X hi) (fun self => bind_fn X self (beq_iff_eq.mp hf)) (.inl rfl) h
theorem get_field {x C : Addr} {ox : Obj} {es : List DictEntry} {n : Nat} {name : Str} {expr : Bool} {v : Value} {Q : Value → Shared → Prop}
    (X : K.In s.heap) (I : PySem.W.InstAt s.heap x ox C (some (dictOf es n))) (hg : plainGet K C name = true) (hh : hasDictIn K C = true) (ha : findIn K (.ref C) name = some none)
    (hl : getL name es = some (some v)) (hv : handedIn v = true) (h : Q v { s with toks := s.toks + 1 }) : wpAny (model prog w) A (getAttr (.ref x) name expr) Q E s :=
  get_value X I (plainGet_of hg).1 (findObj_own hh ha rfl hl) hv h
end
end Att
namespace L2
open PySem PySem.Spec PyProof.Rows
theorem vals_ints : ∀ {vs : List Value} {ns : List Int}, IntsAre vs ns → Vals (ns.map V.int) vs
  | _, _, .nil => .nil
  | _, _, .cons n t h => .cons ⟨t, rfl⟩ (vals_ints h)
noncomputable def Only (H : Hp) : Prop := ∀ b, H b = none ∨ ∃ o xs, H b = some (.frz o (.lst xs))
theorem law_call {P : Program} {w : World} {K : PySem.W.Frag} {mg mb : Str → Option Value} {CX : CXT} {k : Nat} {fa a : Addr} {fd : FuncData} {x : Str} {sp : Sp} {s₁ : Shared} {vs : List Value} {ns : List Int}
    (KX : K.In s₁.heap) (hns : s₁.heap.Ns mainGlobals mg) (hb : s₁.heap.Ns builtinsNs mb) (hbb : ∀ x : Str, x ≠ "__name__" → mb x = bootBuiltins x) (hlim : s₁.heap.NoLimit) (hg : s₁.gens = #[])
    (ha : s₁.heap.get? a = some { cls := .type "list", data := .seq vs.toArray }) (hi : IntsAre vs ns) (hl : ns.length ≤ sizeLine) (hr : Room k callerA)
    (F : ∀ base : Heap, K.In base → base.Ns mainGlobals mg → FnOk P w K mg base CX k fa fd [x] sp) (hbind : ∀ (s : Shared) (u : Value), BindsTo s fd ⟨[u], []⟩ [(x, u)])
    (hsp : ∀ H : Hp, Only H → SqL K H a (ns.map V.int) → sp [.ref a] H (fun v _ => v = .bl true) fun _ _ _ => False)
    (hCX : ∀ H e s', CX [] H s₁ (fun _ _ _ => False) e s' → False) :
    codeAny (model P w) callerA (.call (.ref fa) ⟨[.ref a], []⟩) (fun r s' => r = .ok (.ret (.bool true)) ∧ OldK s₁.heap s'.heap ∧ s'.os = s₁.os ∧ AllBare s'.gens) s₁ := by
  have rv := vals_ints hi
  have lenV := hi.length
  have core : ∀ H : Hp, Only H → SqL K H a (ns.map V.int) → HOk P w H s₁.heap → (∀ b, H b ≠ none → b = a) → (H a ≠ none → K.lookup a = none) →
      codeAny (model P w) callerA (.call (.ref fa) ⟨[.ref a], []⟩) (fun r s' => r = .ok (.ret (.bool true)) ∧ OldK s₁.heap s'.heap ∧ s'.os = s₁.os ∧ AllBare s'.gens) s₁ := by
    intro H hO hS hok hA hK
    have base_of : ∀ {b : Addr} {o : Obj}, s₁.heap.get? b = some o → H b = none → (hidT s₁.heap H).get? b = some o := fun e n => hidT_get e n
    have noA : ∀ {b : Addr} {o : Obj} {es : Array DictEntry} {ep : Nat}, s₁.heap.get? b = some o → o.data = .dict es ep → H b = none := fun {b o es ep} e d => by
      cases q : H b with
      | none => rfl
      | some u =>
        have e' : b = a := hA b (by rw [q]; simp)
        subst e'
        rw [ha] at e; cases e
        have d' : Data.seq vs.toArray _ = Data.dict es ep := d
        cases d'
    have nsK : ∀ {b : Addr} {m : Str → Option Value}, s₁.heap.Ns b m → (hidT s₁.heap H).Ns b m := fun {b m} ⟨o, es, ep, e, d, r⟩ => ⟨o, es, ep, base_of e (noA e d), d, r⟩
    have hKb : K.In (hidT s₁.heap H) := fun b o e => base_of (KX b o e) (by
      cases q : H b with
      | none => rfl
      | some u =>
        have e' : b = a := hA b (by rw [q]; simp)
        subst e'
        rw [hK (by rw [q]; simp)] at e; cases e)
    have hM : Mod K mg (hidT s₁.heap H) := ⟨hKb, nsK hns, ⟨mb, nsK hb, hbb⟩, let ⟨mc, h1, h2⟩ := hlim; ⟨mc, nsK h1, h2⟩⟩
    have e0 : Env0 P w K mg (hidT s₁.heap H) callerA [] s₁ H := ⟨rfl, hM, fun b o e => of_hidT e, Nat.le_of_eq (hidT_size _ _), trivial, fun b hb => absurd (show b ∈ ([] : List Addr) from hb) (by simp), hok, .of_eq hg⟩
    refine codeAny_mono ((F _ hKb (nsK hns)).run callerA [] s₁ H ⟨[.ref a], []⟩ [.ref a] [.ref a] _ _ hr e0 (hbind s₁ (.ref a)) (.cons rfl .nil) (hsp H hO hS)) fun r s' h => ?_
    cases r with
    | error e => exact (hCX H e s' h).elim
    | ok fl =>
      cases fl with
      | next => exact False.elim h
      | brk => exact False.elim h
      | cont => exact False.elim h
      | ret u =>
        obtain ⟨v, H', os, bare, un, hok', r', q⟩ := h
        have q' : v = .bl true := q
        subst q'
        obtain rfl : u = Value.bool true := r'
        refine ⟨rfl, OldK.of_keep fun b o e => ?_, os, bare⟩
        cases q : H b with
        | none => exact un.keep b o e q (by intro z; exact absurd (show b ∈ ([] : List Addr) from z) (by simp)) (by simp)
        | some u =>
          rcases hO b with z | ⟨ob, xs, z⟩
          · rw [q] at z; cases z
          · have z2 := un.frzs b ob _ z
            obtain ⟨e1, _⟩ := hok b _ z
            obtain ⟨e2, _⟩ := hok' b _ z2
            rw [e] at e1; cases e1
            exact e2
  cases hk : K.lookup a with
  | some o =>
    have e := KX a o hk
    rw [ha] at e
    cases e
    refine core (fun _ => none) (fun _ => .inl rfl) (.inr ⟨_, vs.toArray, _, hk, rfl, rfl, rfl, by rw [List.size_toArray, lenV]; exact hl, by simpa using rv⟩) (fun b u z => by have z' : (none : Option HO) = some u := z; cases z') (fun b z => absurd rfl z) fun z => absurd rfl z
  | none =>
    refine core (fun b => if b = a then some (.frz { cls := .type "list", data := .seq vs.toArray } (.lst (ns.map V.int))) else none) (fun b => ?_) (.inl (.inr ⟨{ cls := .type "list", data := .seq vs.toArray }, if_pos rfl⟩)) (fun b u z => ?_) (fun b z => ?_) fun _ => hk
    · by_cases hb : b = a
      · exact .inr ⟨_, _, if_pos hb⟩
      · exact .inl (if_neg hb)
    · by_cases hb : b = a
      · have z' := (if_pos hb).symm.trans z
        cases z'
        subst hb
        exact ⟨ha, by rw [List.length_map]; exact hl, vs, _, rv, ha⟩
      · have z' := (if_neg hb).symm.trans z
        cases z'
    · by_cases hb : b = a
      · exact hb
      · exact absurd (if_neg hb) z
end L2
namespace L2
open PySem PySem.Spec PyProof.Rows
theorem walk_of {l : PySem.W.OpenLaw} {n k : Nat} {q : Program} {loose : List Str} {XP : (Str → Option Value) → Heap → Prop} {YP : World → Heap → Prop} {d : DefRec} {K : Params → PySem.W.Frag} {CX : World → CXT} {sp : World → Sp} {x : Str}
    (hn : l.most = some n) (hn2 : n ≤ sizeLine) (hdf : d.params.defaults = []) (hr : Room k callerA)
    (hY : ∀ (w : World) (h : Heap), YP w h → (K w.params).In h)
    (F : ∀ (w : World) (mg : Str → Option Value) (fa : Addr) (h : Heap), (K w.params).In h → h.Ns mainGlobals mg → mg d.name = some (.ref fa) →
      ∃ fd : FuncData, (∀ (s : Shared) (u : Value), BindsTo s fd ⟨[u], []⟩ [(x, u)]) ∧
        ∀ base : Heap, (K w.params).In base → base.Ns mainGlobals mg → FnOk l.prog w (K w.params) mg base (CX w) k fa fd [x] (sp w))
    (hsp : ∀ (w : World) (H : Hp) (a : Addr) (ns : List Int), ns.length ≤ n → Only H → SqL (K w.params) H a (ns.map V.int) → sp w [.ref a] H (fun v _ => v = .bl true) fun _ _ _ => False)
    (hCX : ∀ (w : World) (H : Hp) (s : Shared) (e : Value) (s' : Shared), CX w [] H s (fun _ _ _ => False) e s' → False) :
    PySem.W.WalkO q loose XP YP l.row.toRowW d [] (fun f vs => PySem.call f vs) := by
  refine Att.attach_call hn hdf fun w s₀ s₁ mg mb fa o pm cd doc a vs ns G Y ho hd hcd hmg hobj hints hlen hg => ?_
  have KX := hY w _ Y
  obtain ⟨fd, hb, hF⟩ := F w mg fa _ KX G.T.g hmg
  exact law_call KX G.T.g G.T.b G.T.builtins G.T.nolimit hg hobj hints (Nat.le_trans hlen hn2) hr hF hb (fun H hO hS => hsp w H a ns hlen hO hS) fun H e s' => hCX w H s₁ e s'
end L2
namespace L2
open PySem PySem.Spec PyProof.Rows
noncomputable def defArgs (s : Stmt) : Arguments := match s with
  | .FunctionDef _ a _ _ _ _ _ _ _ _ => a
  | _ => { posonlyargs := [], args := [], vararg := none, kwonlyargs := [], kw_defaults := [], kwarg := none, defaults := [] }
noncomputable def defBody (s : Stmt) : List Stmt := match s with
  | .FunctionDef _ _ b _ _ _ _ _ _ _ => b
  | _ => []
noncomputable def defScope (s : Stmt) : Scope := match s with
  | .FunctionDef _ _ _ _ _ _ sc _ _ _ => sc
  | _ => { kind := .function, names := [], isGenerator := false, isCoroutine := false }
noncomputable abbrev CX0 : CXT := fun _ _ _ _ _ _ => False
noncomputable abbrev E0 : XK := fun _ _ _ => False
theorem pass0 {X : Cx} : Passes CX0 X E0 := fun _ _ _ _ _ _ _ h => h.elim
structure Fun (K : PySem.W.Frag) (x qual : Str) (st : Stmt) (f : Addr) (fd : FuncData) : Prop where
  ex : ∃ (oc : Value) (od : Option Addr) (kV doc pm : Value) (an : Option Addr) (cdv ct : Value) (osl : Array (Option Value)),
    fd = PySem.W.fnOf x qual (defArgs st) (defBody st) (defScope st) .none kV doc pm an cdv ct ∧ K.lookup f = some ⟨oc, od, .func fd, osl⟩ ∧ PySem.W.codeIn K cdv qual = true
  kp : PySem.W.keepIn K (.ref f) = true
section
variable {P : Program} {w : World} {K : PySem.W.Frag} {mg : Str → Option Value} {base : Heap}
theorem Fun.binds {x qual : Str} {st : Stmt} {f : Addr} {fd : FuncData} {ps : List Str} (F : Fun K x qual st f fd)
    (h : ∀ (kV doc pm : Value) (an : Option Addr) (cdv ct : Value) (us : List Value), us.length = ps.length → bindArgs (PySem.W.fnOf x qual (defArgs st) (defBody st) (defScope st) .none kV doc pm an cdv ct) ⟨us, []⟩ = pure (ps.zip us)) : Binds K fd ps [] := by
  obtain ⟨oc, od, kV, doc, pm, an, cdv, ct, osl, rfl, lk, hcd⟩ := F.ex
  exact .all (h kV doc pm an cdv ct)
theorem fun_mk {x qual : Str} {st : Stmt} {f : Addr} {oc : Value} {od an : Option Addr} {osl : Array (Option Value)} {kV doc pm cdv ct : Value} (l : K.lookup f = some ⟨oc, od, .func (PySem.W.fnOf x qual (defArgs st) (defBody st) (defScope st) .none kV doc pm an cdv ct), osl⟩)
    (c : PySem.W.codeIn K cdv qual = true) (k : PySem.W.keepIn K (.ref f) = true) : Fun K x qual st f (PySem.W.fnOf x qual (defArgs st) (defBody st) (defScope st) .none kV doc pm an cdv ct) := ⟨⟨oc, od, kV, doc, pm, an, cdv, ct, osl, rfl, l, c⟩, k⟩
end
section
variable {X : Cx}
theorem pv (i : Nat) {x : Str} {pos : Pos} (hN : X.N[i]? = some x := by rfl) (hv : Vis X.env.scope x := by first | exact Or.inl rfl | exact Or.inr (Or.inl rfl) | exact Or.inr (Or.inr rfl)) (hd : (x == ("__debug__" : Str)) = false := by decide)
    (hcd : (x == ("__classdict__" : Str)) = false := by decide) : PE X (.Name x pos) (tVar i) := pe_var hN hv hd hcd
end
noncomputable def Same (H H' : Hp) : Prop := ∀ b o, H b = some o → H' b = some o
theorem Same.refl (H : Hp) : Same H H := fun _ _ h => h
theorem Same.trans {H H1 H2 : Hp} (a : Same H H1) (b : Same H1 H2) : Same H H2 := fun c o h => b c o (a c o h)
theorem Same.free {H H' : Hp} (e : Same H H') {l : Addr} (h : H' l = Option.none) : H l = Option.none := by
  cases q : H l with
  | none => rfl
  | some o =>
    rw [e l o q] at h
    cases h
end L2
set_option maxHeartbeats 4000000
namespace L2
open PySem PySem.Spec PyProof.Rows
noncomputable def clOf (cells : List (Str × Addr)) : List (Str × NameKind) → List (Str × Addr) → List (Str × Addr)
  | [], acc => acc
  | (x, k) :: r, acc => clOf cells r (if (k == NameKind.free) = true then (x, (cells.lookup x).getD 0) :: acc else acc)
theorem gt_ne {a b c : Addr} (h1 : b < a) (h2 : a < c) : c ≠ b := by
  rintro rfl
  exact absurd (Nat.lt_trans h1 h2) (Nat.lt_irrefl _)
theorem lt_ne {a b : Addr} {n : Nat} (h1 : a < n) (h2 : n ≤ b) : a ≠ b := by
  rintro rfl
  exact absurd (Nat.lt_of_lt_of_le h1 h2) (Nat.lt_irrefl _)
theorem clOf_cases {cells : List (Str × Addr)} {x : Str} {c : Addr} : ∀ (ns : List (Str × NameKind)) (acc : List (Str × Addr)), (clOf cells ns acc).lookup x = some c →
    ((x, NameKind.free) ∈ ns ∧ c = (cells.lookup x).getD 0) ∨ acc.lookup x = some c
  | [], _, h => .inr h
  | (y, k) :: r, acc, h => by
    unfold clOf at h
    rcases clOf_cases r _ h with ⟨m, e⟩ | q
    · exact .inl ⟨List.mem_cons_of_mem _ m, e⟩
    · by_cases hk : (k == NameKind.free) = true
      · rw [if_pos hk, List.lookup_cons] at q
        cases hy : x == y with
        | true =>
          rw [hy] at q
          have e1 := eq_of_beq hy
          have e2 := eq_of_beq hk
          subst e1 e2
          exact .inl ⟨List.mem_cons_self, (Option.some.inj q).symm⟩
        | false => rw [hy] at q; exact .inr q
      · rw [if_neg hk] at q; exact .inr q
theorem clOf_some {cells : List (Str × Addr)} {x : Str} : ∀ (ns : List (Str × NameKind)) (acc : List (Str × Addr)), ((x, NameKind.free) ∈ ns ∨ (acc.lookup x).isSome = true) → ((clOf cells ns acc).lookup x).isSome = true
  | [], _, h => h.elim (fun z => nomatch z) id
  | (y, k) :: r, acc, h => by
    unfold clOf
    refine clOf_some r _ ?_
    rcases h with h | h
    · rcases List.mem_cons.mp h with e | h
      · cases e
        refine .inr ?_
        rw [if_pos (by decide), List.lookup_cons]
        simp
      · exact .inl h
    · refine .inr ?_
      by_cases hk : (k == NameKind.free) = true
      · rw [if_pos hk, List.lookup_cons]
        cases hy : x == y with
        | true => rfl
        | false => exact h
      · rw [if_neg hk]; exact h
theorem cells_cases {x : Str} {c : Addr} : ∀ (ns : List (Str × NameKind)) (n : Nat) (acc : List (Str × Addr)), (cellsFrom n ns acc).lookup x = some c → (n ≤ c ∧ (x, NameKind.cell) ∈ ns) ∨ acc.lookup x = some c
  | [], _, _, h => .inr h
  | (y, k) :: r, n, acc, h => by
    unfold cellsFrom at h
    by_cases hk : (k == NameKind.cell) = true
    · rw [if_pos hk] at h
      rcases cells_cases r (n + 1) _ h with ⟨a, m⟩ | q
      · exact .inl ⟨by omega, List.mem_cons_of_mem _ m⟩
      · rw [List.lookup_cons] at q
        cases hy : x == y with
        | true =>
          rw [hy] at q
          have e1 := eq_of_beq hy
          have e2 := eq_of_beq hk
          have e3 := Option.some.inj q
          subst e1 e2 e3
          exact .inl ⟨Nat.le_refl _, List.mem_cons_self⟩
        | false => rw [hy] at q; exact .inr q
    · rw [if_neg hk] at h
      rcases cells_cases r n acc h with ⟨a, m⟩ | q
      · exact .inl ⟨a, List.mem_cons_of_mem _ m⟩
      · exact .inr q
theorem cells_inj : ∀ (ns : List (Str × NameKind)) (n : Nat) (acc : List (Str × Addr)), (∀ x y c, acc.lookup x = some c → acc.lookup y = some c → x = y) → (∀ x c, acc.lookup x = some c → c < n) →
    ∀ x y c, (cellsFrom n ns acc).lookup x = some c → (cellsFrom n ns acc).lookup y = some c → x = y
  | [], _, _, hi, _ => hi
  | (z, k) :: r, n, acc, hi, hl => by
    unfold cellsFrom
    by_cases hk : (k == NameKind.cell) = true
    · rw [if_pos hk]
      refine cells_inj r (n + 1) _ (fun x y c h1 h2 => ?_) (fun x c h1 => ?_)
      · rw [List.lookup_cons] at h1 h2
        cases hx : x == z with
        | true =>
          rw [hx] at h1
          have e1 := Option.some.inj h1
          cases hy : y == z with
          | true => rw [eq_of_beq hx, eq_of_beq hy]
          | false =>
            rw [hy] at h2
            have h3 := hl y c h2
            rw [← e1] at h3
            exact absurd h3 (Nat.lt_irrefl _)
        | false =>
          rw [hx] at h1
          cases hy : y == z with
          | true =>
            rw [hy] at h2
            have e2 := Option.some.inj h2
            have h3 := hl x c h1
            rw [← e2] at h3
            exact absurd h3 (Nat.lt_irrefl _)
          | false =>
            rw [hy] at h2
            exact hi x y c h1 h2
      · rw [List.lookup_cons] at h1
        cases hx : x == z with
        | true =>
          rw [hx] at h1
          have e1 := Option.some.inj h1
          rw [← e1]
          exact Nat.lt_succ_self _
        | false =>
          rw [hx] at h1
          exact Nat.lt_succ_of_lt (hl x c h1)
    · rw [if_neg hk]
      exact cells_inj r n acc hi hl
theorem push_cells {x : Str} {c : Addr} : ∀ (ns : List (Str × NameKind)) (h : Heap) (acc : List (Str × Addr)), (cellsFrom h.objs.size ns acc).lookup x = some c →
    acc.lookup x = some c ∨ (h.objs.size ≤ c ∧ (pushCells h ns).IsCell c none)
  | [], _, _, e => .inl e
  | (y, k) :: r, h, acc, e => by
    unfold cellsFrom at e
    unfold pushCells
    by_cases hk : (k == NameKind.cell) = true
    · rw [if_pos hk] at e ⊢
      have q := push_cells (x := x) (c := c) r (h.push { cls := .type "cell", data := .cell none }) ((y, h.objs.size) :: acc) (by rw [Heap.size_push]; exact e)
      rcases q with q | ⟨q1, q2⟩
      · rw [List.lookup_cons] at q
        cases hy : x == y with
        | true =>
          rw [hy] at q
          have e1 := Option.some.inj q
          subst e1
          exact .inr ⟨Nat.le_refl _, Heap.IsCell.keeps ⟨_, Heap.get?_push_size _ rfl, rfl⟩ (pushCells_keeps r _)⟩
        | false => rw [hy] at q; exact .inl q
      · rw [Heap.size_push] at q1
        exact .inr ⟨by omega, q2⟩
    · rw [if_neg hk] at e ⊢
      exact push_cells r h acc e
theorem forIn_clos {env : Env} (f : Str × NameKind → List (Str × Addr) → Sem (ForInStep (List (Str × Addr))))
    (hf : ∀ n k cs, f (n, k) cs = if (k == NameKind.free) = true then (do let a ← cellOf env n; pure (.yield ((n, a) :: cs))) else pure (.yield cs)) :
    ∀ (ns : List (Str × NameKind)) (acc : List (Str × Addr)), (∀ x ∈ ns, x.2 = NameKind.free → ∃ c, env.cells.lookup x.1 = some c) → forIn ns acc f = (pure (clOf env.cells ns acc) : Sem _)
  | [], acc, _ => by rw [List.forIn_nil]; rfl
  | (y, k) :: r, acc, hc => by
    have hr : ∀ x ∈ r, x.2 = NameKind.free → ∃ c, env.cells.lookup x.1 = some c := fun x hx => hc x (List.mem_cons_of_mem _ hx)
    rw [List.forIn_cons, hf]
    unfold clOf
    by_cases hk : (k == NameKind.free) = true
    · rw [if_pos hk, if_pos hk]
      obtain ⟨c, e⟩ := hc (y, k) List.mem_cons_self (eq_of_beq hk)
      have e' : env.cells.lookup y = some c := e
      have e2 : cellOf env y = pure c := by unfold cellOf; rw [e']
      rw [e2, e']
      exact forIn_clos f hf r _ hr
    · rw [if_neg hk, if_neg hk]
      exact forIn_clos f hf r _ hr
theorem closure_eq {scope : Scope} {env : Env} (hc : ∀ x ∈ scope.names, x.2 = NameKind.free → ∃ c, env.cells.lookup x.1 = some c) : closureFor scope env = pure (clOf env.cells scope.names []) := by
  simp only [closureFor]
  rw [forIn_clos (env := env) _ (fun n k cs => by cases h : (k == NameKind.free) <;> simp [h]) scope.names [] hc]
  rfl
theorem new_block {M : Model} {A : Around} {E : Value → Shared → Prop} {s : Shared} {scope : Scope} {gl : Addr} {cl : List (Str × Addr)} {qual : Str} {around : Env} {Q : Env → Shared → Prop}
    (hQ : ∀ h1 : Heap, (∀ b o, s.heap.get? b = some o → h1.get? b = some o) → h1.Ns s.heap.objs.size (fun _ => none) →
      (∀ x c, (cellsFrom (s.heap.objs.size + 1) scope.names cl).lookup x = some c → cl.lookup x = some c ∨ (s.heap.objs.size < c ∧ h1.IsCell c none)) →
      Q { scope := scope, locals := s.heap.objs.size, globals := gl, cells := cellsFrom (s.heap.objs.size + 1) scope.names cl, qual := qual, func := none, code := around.code, frame := around.frame, builtins := around.builtins } { s with heap := h1 }) :
    wpAny M A (newFunctionEnv scope gl cl [] qual none .none (some around)) Q E s := by
  simp only [newFunctionEnv, Option.isSome_some, if_true]
  refine wpAny_bind (wpAny_alloc ?_)
  refine wpAny_bind (wpAny_layCells _ (fun name kind cells => by cases hkc : kind == NameKind.cell <;> simp [hkc]) _ _ _ _ ?_)
  rw [show ({ s with heap := s.heap.push { cls := .type "dict", data := .dict #[] } } : Shared).heap.objs.size = s.heap.objs.size + 1 from Heap.size_push ..]
  rw [List.forIn_nil]
  refine wpAny_bind (wpAny_pure (wpAny_pure ?_))
  refine hQ _ (fun b o e => pushCells_keeps _ _ b o (Heap.get?_push_of_some _ e)) ((Heap.Ns.new s.heap (.type "dict")).keeps (pushCells_keeps _ _)) fun x c e => ?_
  have q := push_cells (x := x) (c := c) scope.names (s.heap.push { cls := .type "dict", data := .dict #[] }) cl (by rw [Heap.size_push]; exact e)
  rw [Heap.size_push] at q
  exact q.imp id fun ⟨a, b⟩ => ⟨by omega, b⟩
theorem relab_free {env : Env} {x : Str} : ∀ {ns : List (Str × NameKind)}, ns.lookup x = some .free →
    (ns.map fun (n, k) => if (k == NameKind.free && env.scope.kind == .function && env.kindOf n == some .cell) then (n, NameKind.cell) else (n, k)).lookup x = some .cell ∨
    (ns.map fun (n, k) => if (k == NameKind.free && env.scope.kind == .function && env.kindOf n == some .cell) then (n, NameKind.cell) else (n, k)).lookup x = some .free
  | [], h => by simp at h
  | (n, k) :: r, h => by
    have ih := @relab_free env x r
    rw [List.map_cons]
    dsimp only
    by_cases hc : (k == NameKind.free && env.scope.kind == .function && env.kindOf n == some .cell) = true
    · rw [if_pos hc, List.lookup_cons]
      cases hx : x == n with
      | true => exact .inl rfl
      | false => rw [List.lookup_cons, hx] at h; exact ih h
    · rw [if_neg hc, List.lookup_cons]
      cases hx : x == n with
      | true =>
        rw [List.lookup_cons, hx] at h
        have e := Option.some.inj h
        subst e
        exact .inr rfl
      | false => rw [List.lookup_cons, hx] at h; exact ih h
theorem relab_back {env : Env} {x : Str} : ∀ {ns : List (Str × NameKind)},
    ((ns.map fun (n, k) => if (k == NameKind.free && env.scope.kind == .function && env.kindOf n == some .cell) then (n, NameKind.cell) else (n, k)).lookup x = some .cell ∨
    (ns.map fun (n, k) => if (k == NameKind.free && env.scope.kind == .function && env.kindOf n == some .cell) then (n, NameKind.cell) else (n, k)).lookup x = some .free) →
    ns.lookup x = some .cell ∨ ns.lookup x = some .free
  | [], h => by simp at h
  | (n, k) :: r, h => by
    have ih := @relab_back env x r
    rw [List.map_cons] at h
    dsimp only at h
    by_cases hc : (k == NameKind.free && env.scope.kind == .function && env.kindOf n == some .cell) = true
    · rw [if_pos hc, List.lookup_cons] at h
      rw [List.lookup_cons]
      cases hx : x == n with
      | true =>
        have : k = NameKind.free := by
          rw [Bool.and_eq_true, Bool.and_eq_true] at hc
          exact eq_of_beq hc.1.1
        subst this
        exact .inr rfl
      | false => rw [hx] at h; exact ih h
    · rw [if_neg hc, List.lookup_cons] at h
      rw [List.lookup_cons]
      cases hx : x == n with
      | true => rw [hx] at h; exact h
      | false => rw [hx] at h; exact ih h
noncomputable def cxComp (X : Cx) (N' : List Str) (sc : Scope) (L : Addr) (cs : List (Str × Addr)) (s : Shared) (H : Hp) (fp : List Addr) : Cx :=
  { X with
    N := N', s₀ := s, H₀ := H, outer := X.stack, ex := fp, pn := [], xe := fun _ _ => False
    fn := fun x => !(sc.names.any fun p => p.1 == x && p.2 == NameKind.free)
    env := { scope := relabel sc X.env, locals := L, globals := X.env.globals, cells := cs, qual := X.env.qual, func := none, code := X.env.code, frame := X.env.frame, builtins := X.env.builtins } }
noncomputable def inS (ix : List (Option Nat)) (σ : St) : St := ix.map fun o => match o with
  | none => none
  | some j => (σ[j]?).join
noncomputable def compOk (N : List Str) (osc : Scope) (N' : List Str) (sc : Scope) (ix : List (Option Nat)) : Bool :=
  decide (ix.length = N'.length) &&
  ((List.range ix.length).all fun i => match ix[i]? with
    | some (some j) => (match N'[i]?, N[j]? with
      | some x, some y => x == y && sc.names.lookup x == some NameKind.free
      | _, _ => false)
    | _ => true) &&
  (sc.names.all fun p => (p.2 != NameKind.free || (osc.names.lookup p.1 == some NameKind.cell || osc.names.lookup p.1 == some NameKind.free)) && (p.2 != NameKind.local || sc.names.lookup p.1 == some NameKind.local)) &&
  (sc.names.all fun p => sc.names.all fun q => !(p.1 == q.1) || p.2 == q.2)
section
variable {X : Cx} {pins : List (Addr × Obj)} {σ : St} {H : Hp} {s : Shared} {N' : List Str} {sc : Scope} {ix : List (Option Nat)}
theorem compOk.len (ok : compOk X.N X.env.scope N' sc ix = true) : ix.length = N'.length := by
  unfold compOk at ok
  rw [Bool.and_eq_true, Bool.and_eq_true, Bool.and_eq_true] at ok
  exact of_decide_eq_true ok.1.1.1
theorem compOk.at (ok : compOk X.N X.env.scope N' sc ix = true) {i j : Nat} {x : Str} (h : ix[i]? = some (some j)) (hx : N'[i]? = some x) : X.N[j]? = some x ∧ sc.names.lookup x = some .free := by
  unfold compOk at ok
  rw [Bool.and_eq_true, Bool.and_eq_true, Bool.and_eq_true] at ok
  have q := List.all_eq_true.mp ok.1.1.2 i (List.mem_range.mpr (List.getElem?_eq_some_iff.mp h).1)
  rw [h, hx] at q
  dsimp only at q
  cases e : X.N[j]? with
  | none => rw [e] at q; cases q
  | some y =>
    rw [e] at q
    dsimp only at q
    rw [Bool.and_eq_true] at q
    exact ⟨by rw [eq_of_beq q.1], eq_of_beq q.2⟩
theorem compOk.fr (ok : compOk X.N X.env.scope N' sc ix = true) {x : Str} (h : (x, NameKind.free) ∈ sc.names) : X.env.kindOf x = some .cell ∨ X.env.kindOf x = some .free := by
  unfold compOk at ok
  rw [Bool.and_eq_true, Bool.and_eq_true] at ok
  have q := List.all_eq_true.mp ok.1.2 _ h
  rw [Bool.and_eq_true] at q
  have q1 := q.1
  rw [Bool.or_eq_true] at q1
  rcases q1 with z | z
  · exact absurd z (by simp)
  · rw [Bool.or_eq_true] at z
    exact z.imp (fun e => eq_of_beq e) fun e => eq_of_beq e
theorem compOk.loc (ok : compOk X.N X.env.scope N' sc ix = true) : ∀ x ∈ sc.names, x.2 = NameKind.local → sc.names.lookup x.1 = some .local := fun x hx e => by
  unfold compOk at ok
  rw [Bool.and_eq_true, Bool.and_eq_true] at ok
  have q := List.all_eq_true.mp ok.1.2 _ hx
  rw [Bool.and_eq_true] at q
  have q1 := q.2
  rw [Bool.or_eq_true] at q1
  rcases q1 with z | z
  · rw [e] at z; exact absurd z (by decide)
  · exact eq_of_beq z
theorem compOk.apart (ok : compOk X.N X.env.scope N' sc ix = true) {x : Str} (h1 : (x, NameKind.cell) ∈ sc.names) (h2 : (x, NameKind.free) ∈ sc.names) : False := by
  unfold compOk at ok
  rw [Bool.and_eq_true] at ok
  have q := List.all_eq_true.mp (List.all_eq_true.mp ok.2 _ h1) _ h2
  simp at q
theorem comp_free (I : Inv X pins σ H s) (ok : compOk X.N X.env.scope N' sc ix = true) : ∀ x ∈ sc.names, x.2 = NameKind.free → ∃ c, X.env.cells.lookup x.1 = some c := fun x hx e => by
  obtain ⟨n, k⟩ := x
  have e' : k = NameKind.free := e
  subst e'
  exact I.ok.has n (compOk.fr ok hx)
theorem comp_cl (I : Inv X pins σ H s) (ok : compOk X.N X.env.scope N' sc ix = true) {x : Str} {c : Addr} (h : (clOf X.env.cells sc.names []).lookup x = some c) : (x, NameKind.free) ∈ sc.names ∧ X.env.cells.lookup x = some c := by
  rcases clOf_cases _ _ h with ⟨m, e⟩ | z
  · obtain ⟨d, hd⟩ := comp_free I ok _ m rfl
    have hd' : X.env.cells.lookup x = some d := hd
    rw [hd'] at e
    have e2 : c = d := e
    subst e2
    exact ⟨m, hd'⟩
  · simp at z
theorem comp_inv {fp : List Addr} {L : Addr} {h1 : Heap} (I : Inv X pins σ H s) (hf : ∀ b ∈ fp, FpOk X pins H b) (hb : ∀ b ∈ fp, ∃ o, s.heap.get? b = some o) (ok : compOk X.N X.env.scope N' sc ix = true) (hk : sc.kind = .function) (hL : s.heap.objs.size ≤ L)
    (kp : ∀ b o, s.heap.get? b = some o → h1.get? b = some o) (ns : h1.Ns L fun _ => none)
    (hc : ∀ x c, (cellsFrom (L + 1) sc.names (clOf X.env.cells sc.names [])).lookup x = some c → (clOf X.env.cells sc.names []).lookup x = some c ∨ (L < c ∧ h1.IsCell c none)) :
    Inv (cxComp X N' sc L (cellsFrom (L + 1) sc.names (clOf X.env.cells sc.names [])) s H fp) [] (inS ix σ) H { s with heap := h1 } := by
  have cc : ∀ x c, (clOf X.env.cells sc.names []).lookup x = some c → (x, NameKind.free) ∈ sc.names ∧ X.env.cells.lookup x = some c ∧ (∃ v, s.heap.IsCell c v) ∧ c < s.heap.objs.size := fun x c e => by
    obtain ⟨m, e'⟩ := comp_cl I ok e
    obtain ⟨v, z⟩ := I.cell x c e'
    exact ⟨m, e', ⟨v, z⟩, z.lt⟩
  have fpl : ∀ b ∈ fp, b < s.heap.objs.size := fun b z => let ⟨o, e⟩ := hb b z; Heap.lt_size e
  have cne : ∀ b ∈ fp, ∀ x c, (cellsFrom (L + 1) sc.names (clOf X.env.cells sc.names [])).lookup x = some c → c ≠ b := fun b z x c e => by
    have hlt := fpl b z
    rcases hc x c e with q | ⟨q, _⟩
    · exact (hf b z).2.2.2.2.1 x c (cc x c q).2.1
    · exact gt_ne (Nat.lt_of_lt_of_le hlt hL) q
  have okk : (cxComp X N' sc L (cellsFrom (L + 1) sc.names (clOf X.env.cells sc.names [])) s H fp).Ok := by
    refine ⟨I.ok.mod, hk, I.ok.glob, I.ok.blt, hL, ?_, ?_, ?_, I.ok.hd, I.ok.frames, .inl rfl, ?_, I.bs, Nat.le_trans I.ok.bsz I.sz, ?_, ?_, I.stack, I.stkFree⟩
    · refine cells_inj sc.names (L + 1) _ (fun x y c e1 e2 => I.ok.inj x y c (cc x c e1).2.1 (cc y c e2).2.1) fun x c e => ?_
      exact Nat.lt_succ_of_lt (Nat.lt_of_lt_of_le (cc x c e).2.2.2 hL)
    · intro x hx
      have hx' := relab_back (env := X.env) (x := x) (ns := sc.names) hx
      have q : ((cellsFrom (L + 1) sc.names (clOf X.env.cells sc.names [])).lookup x).isSome = true := by
        rcases hx' with z | z
        · exact PySem.W.cellsFrom_some _ _ _ (.inl z)
        · exact PySem.W.cellsFrom_some _ _ _ (.inr (clOf_some _ _ (.inl (PySem.mem_of_lookup z))))
      exact Option.isSome_iff_exists.mp q
    · intro x c hfn e
      show s.heap.objs.size ≤ c
      rcases hc x c e with q | ⟨q, _⟩
      · have m := (cc x c q).1
        have hfn' : (!(sc.names.any fun p => p.1 == x && p.2 == NameKind.free)) = true := hfn
        have z : (sc.names.any fun p => p.1 == x && p.2 == NameKind.free) = true := List.any_eq_true.mpr ⟨_, m, by simp⟩
        rw [z] at hfn'
        cases hfn'
      · exact Nat.le_trans hL (Nat.le_of_lt q)
    · intro b z
      have hlt := fpl b z
      exact ⟨Nat.ne_of_lt (Nat.lt_of_lt_of_le hlt hL), cne b z⟩
    · intro b o e z
      rcases (hf b z).2.2.2.1 with q | q
      · exact I.ok.noex b o e q
      · exact absurd (Nat.lt_of_lt_of_le (Heap.lt_size e) (Nat.le_trans I.ok.bsz q)) (Nat.lt_irrefl _)
    · intro b z hs
      rcases List.mem_cons.mp (I.stkSub b hs) with q | q
      · exact (hf b z).2.1 q
      · exact (hf b z).2.2.1 q
  refine ⟨okk, rfl, I.bare, Un.kept kp, ⟨_, ns, fun i x v h1' h2 h3 => ?_⟩, fun x c e => ?_, I.hok.fresh hL, fun x c e => ?_, fun p hp => absurd hp (by simp [cxComp]), I.hok.kept kp, ?_⟩
  · have hix : ∃ j, ix[i]? = some (some j) ∧ σ[j]? = some (some v) := by
      unfold inS at h2
      rw [List.getElem?_map] at h2
      cases e : ix[i]? with
      | none => rw [e] at h2; cases h2
      | some o =>
        rw [e] at h2
        cases o with
        | none => cases h2
        | some j =>
          have h2' : (σ[j]?).join = some v := Option.some.inj h2
          refine ⟨j, rfl, ?_⟩
          cases e2 : σ[j]? with
          | none => rw [e2] at h2'; cases h2'
          | some w =>
            rw [e2] at h2'
            have h2'' : w = some v := h2'
            rw [h2'']
    obtain ⟨j, e1, e2⟩ := hix
    obtain ⟨e3, e4⟩ := compOk.at ok e1 h1'
    have hfr := compOk.fr ok (PySem.mem_of_lookup e4)
    obtain ⟨m, hn, hl⟩ := I.loc
    obtain ⟨u, r, l⟩ := hl j x v e3 e2 (hfr.elim (fun z => .inr (.inl z)) fun z => .inr (.inr z))
    refine ⟨u, r, .inr ⟨relab_free (env := X.env) (x := x) (ns := sc.names) e4, ?_⟩⟩
    rcases l with ⟨k, _⟩ | ⟨k, c, e, z⟩
    · rcases hfr with q | q <;> rw [q] at k <;> cases k
    · have q1 := clOf_some (cells := X.env.cells) sc.names [] (.inl (PySem.mem_of_lookup e4))
      obtain ⟨c2, q2⟩ := Option.isSome_iff_exists.mp q1
      have q3 := (cc x c2 q2).2.1
      rw [e] at q3
      cases q3
      have q4 := PySem.W.cellsFrom_some (x := x) sc.names (L + 1) (clOf X.env.cells sc.names []) (.inr q1)
      obtain ⟨c3, q5⟩ := Option.isSome_iff_exists.mp q4
      rcases hc x c3 q5 with q6 | ⟨q6, q7⟩
      · rw [q2] at q6
        cases q6
        exact ⟨c, q5, z.keeps kp⟩
      · exfalso
        rcases cells_cases _ _ _ q5 with ⟨_, m'⟩ | q8
        · exact compOk.apart ok m' (PySem.mem_of_lookup e4)
        · rw [q2] at q8
          cases q8
          exact absurd (Nat.lt_trans (Nat.lt_of_lt_of_le (cc x c q2).2.2.2 hL) q6) (Nat.lt_irrefl _)
  · rcases hc x c e with q | ⟨_, q⟩
    · obtain ⟨v, z⟩ := (cc x c q).2.2.1
      exact ⟨v, z.keeps kp⟩
    · exact ⟨_, q⟩
  · rcases hc x c e with q | ⟨q, _⟩
    · exact I.freeC x c (cc x c q).2.1
    · exact I.hok.fresh (Nat.le_trans hL (Nat.le_of_lt q))
  · show (inS ix σ).length = N'.length
    unfold inS
    rw [List.length_map]
    exact compOk.len ok
end
noncomputable def PTs (X : Cx) (ifs : List Expr) (t : TT) : Prop :=
  ∀ (pins : List (Addr × Obj)) (s : Shared) (σ : St) (H : Hp) (Q : Bool → Hp → Prop), Inv X pins σ H s → t σ H Q →
    wpAny (model X.prog X.w) X.A (forIn ifs true fun c r => if r = true then do let ok ← isTrue c X.env (eval c X.env); pure (ForInStep.yield ok) else pure (ForInStep.yield r)) (TP X pins σ Q) X.xe s
noncomputable def tYes : TT := fun _ H Q => Q true H
theorem pts_nil {X : Cx} : PTs X [] tYes := fun _ _ _ H _ I h => wpAny_tests_nil ⟨H, I, h⟩
theorem pts_one {X : Cx} {c : Expr} {t : TT} (h : PT X c t) : PTs X [c] t := fun pins s σ H Q I q => wpAny_tests_one (h pins s σ H Q I q)
theorem compLoop_any {prog : Program} {w : World} {A : Around} {R : Result → Shared → Prop} {s : Shared} {elt tg iter : Expr} {ifs : List Expr} {scope : Scope} {pos : Pos} {it acc : Value} {env : Env} (J : Nat → Shared → Prop)
    (turn : ∀ n s, J n s → wpAny (model prog w) A (pyNext it) (fun r s1 => match r with
      | none => R (.ok .next) s1
      | some v => wpAny (model prog w) A (letOwnedTupleGo tg it v) (fun _ s1' => wpAny (model prog w) A (assign tg env v) (fun _ s2 =>
          wpAny (model prog w) A (forIn ifs true fun c r => if r = true then do let ok ← isTrue c env (eval c env); pure (ForInStep.yield ok) else pure (ForInStep.yield r)) (fun ok s3 =>
            if ok = true then wpAny (model prog w) A (eval elt env) (fun x s4 => wpAny (model prog w) A (call (.builtin "list.append") [acc, x]) (fun _ s5 => ∃ m, m < n ∧ J m s5) (fun _ _ => False) s4) (fun _ _ => False) s3
            else ∃ m, m < n ∧ J m s3) (fun _ _ => False) s2) (fun _ _ => False) s1') (fun _ _ => False) s1) (fun _ _ => False) s)
    (n : Nat) (h : J n s) : codeAny (model prog w) A (.compLoop (.ListComp elt [⟨tg, iter, ifs, 0⟩] scope pos) 0 it acc env) R s := by
  refine codeAny_loop rfl J (fun n s hJ => ?_) n h
  show wpAny _ A ((compTurn (.ListComp elt [⟨tg, iter, ifs, 0⟩] scope pos) 0 it acc env).onRaise (fun x => do noteFrame x env; theTreesLotGoes x)) _ _ s
  refine wpAny_noted ?_
  rw [compTurn_list]
  refine wpAny_bind (wpAny_standAt (wpAny_bind (wpAny_mono (turn n s hJ) (fun r s1 h1 => ?_) fun _ _ z => z.elim)))
  cases r with
  | none => exact wpAny_pure h1
  | some v =>
    refine wpAny_bind (wpAny_mono h1 (fun _ s1' h1' => ?_) fun _ _ z => z.elim)
    refine wpAny_bind (wpAny_mono h1' (fun _ s2 h2 => wpAny_bind (wpAny_mono h2 (fun ok s3 h3 => ?_) fun _ _ z => z.elim)) fun _ _ z => z.elim)
    cases ok with
    | false => exact wpAny_pure ⟨rfl, h3⟩
    | true =>
      exact wpAny_bind (wpAny_bind (wpAny_mono h3 (fun x s4 h4 => wpAny_bind (wpAny_mono h4 (fun _ s5 h5 => wpAny_pure (wpAny_pure ⟨rfl, h5⟩)) fun _ _ z => z.elim)) fun _ _ z => z.elim))
noncomputable def compTurns (J : It) (ix : List (Option Nat)) (g : TG) (tt : TT) (te : TE) (σ : St) (F : List V → Hp → Prop) (H : Hp) : Prop :=
  ∃ W : Nat → Nat → List V → Hp → Prop, (∃ m, W 0 m [] H) ∧ ∀ i m ys H, W i m ys H →
    (J.stop i H ∧ ys.length ≤ sizeLine ∧ F ys H) ∨ (J.go i H ∧ ys.length ≤ sizeLine ∧ ∃ N : List V → Hp → Prop, (∀ ys' H', N ys' H' → ∃ m', m' < m ∧ W (i + 1) m' ys' H') ∧
      ∀ x H', J.yld i H x H' → g x (inS ix σ) H' fun σ2 H2 => tt σ2 H2 fun b H3 => if b = true then te σ2 H3 fun y H4 => N (ys ++ [y]) H4 else N ys H3)
section
variable {X : Cx} {pins : List (Addr × Obj)} {σ : St} {H : Hp} {s : Shared} {N' : List Str} {sc : Scope} {ix : List (Option Nat)}
theorem Inv.slots0 {X : Cx} {σ' : St} (I : Inv X pins σ' H s) (h : ∀ (i : Nat) v, (inS ix σ)[i]? = some (some v) → σ'[i]? = some (some v)) (hl : (inS ix σ).length = X.N.length) : Inv X pins (inS ix σ) H s :=
  I.weak (by rw [hl, I.len]) h
theorem comp_core {tg elt iter : Expr} {ifs : List Expr} {pos : Pos} {g : TG} {tt : TT} {te : TE} {J : It} {fp : List Addr} {it : Addr} {tn : Nat → Heap → Prop} {F : List V → Hp → Prop} {E : Value → Shared → Prop}
    (hc : X.calm = true) (I : Inv X pins σ H s) (T : Turn X.prog X.w X.K tg J fp it tn) (st : tn 0 s.heap) (hf : ∀ b ∈ fp, FpOk X pins H b) (ok : compOk X.N X.env.scope N' sc ix = true) (hk : sc.kind = .function)
    (hg : ∀ L cs s H fp, PG (cxComp X N' sc L cs s H fp) tg g) (hkeep : ∀ x σ' H' (Q : St → Hp → Prop), g x σ' H' Q → g x σ' H' fun σ2 H2 => Q σ2 H2 ∧ ∀ (i : Nat) v, σ'[i]? = some (some v) → (∃ j, ix[i]? = some (some j)) → σ2[i]? = some (some v))
    (ht : ∀ L cs s H fp, PTs (cxComp X N' sc L cs s H fp) ifs tt) (he : ∀ L cs s H fp, PE (cxComp X N' sc L cs s H fp) elt te)
    (tr : compTurns J ix g tt te σ F H) :
    wpAny (model X.prog X.w) X.A (newList []) (fun acc s3 => wpAny (model X.prog X.w) X.A (newFunctionEnv sc X.env.globals (clOf X.env.cells sc.names []) [] X.env.qual none .none (some X.env)) (fun cenv s4 =>
      codeAny (model X.prog X.w) X.A (.compStart (.ListComp elt [⟨tg, iter, ifs, 0⟩] sc pos) 0 (.ref it) acc { cenv with scope := relabel sc X.env }) (fun r s' => (∃ fl, r = .ok fl) ∧
        ∃ (p : Addr) (ys : List V) (H2 : Hp), acc = .ref p ∧ Inv X pins σ (upd H2 p (.lst ys)) s' ∧ H2 p = none ∧ F ys H2 ∧ (∃ m, s'.heap.Ns cenv.locals m) ∧ (upd H2 p (.lst ys)) cenv.locals = none ∧ cenv.locals ≠ X.env.locals ∧
          X.s₀.heap.objs.size ≤ cenv.locals ∧ (∀ x c, X.env.cells.lookup x = some c → c ≠ cenv.locals) ∧ ∀ q ∈ X.pn ++ pins, q.1 ≠ cenv.locals) s4) E s3) E s := by
  obtain ⟨W, ⟨m0, w0⟩, turn⟩ := tr
  refine wpAny_newObj_type (new_block fun h1 kp ns hcl => ?_)
  dsimp only at kp ns hcl ⊢
  generalize hH2 : s.heap.push { cls := .type "list", dict := none, data := .seq ([] : List Value).toArray } = HH at kp ns hcl ⊢
  have eL : HH.objs.size = s.heap.objs.size + 1 := by rw [← hH2, Heap.size_push]
  have kp0 : ∀ b o, s.heap.get? b = some o → h1.get? b = some o := fun b o e => kp b o (hH2 ▸ Heap.get?_push_of_some _ e)
  have hD0 : h1.PlainList s.heap.objs.size #[] := ⟨_, kp _ _ (hH2 ▸ Heap.get?_push_size _ rfl)⟩
  have fpo : ∀ b ∈ fp, ∃ o, s.heap.get? b = some o := fun b z => let ⟨o, e, _⟩ := T.obj 0 _ st b z; ⟨o, e⟩
  have fpl : ∀ b ∈ fp, b < s.heap.objs.size := fun b z => let ⟨o, e⟩ := fpo b z; Heap.lt_size e
  have sL : s.heap.objs.size ≤ HH.objs.size := by rw [eL]; exact Nat.le_succ _
  have sL' : s.heap.objs.size < HH.objs.size := by rw [eL]; exact Nat.lt_succ_self _
  have I0 := comp_inv (h1 := h1) I hf fpo ok hk sL kp0 ns hcl
  generalize hXX : cxComp X N' sc HH.objs.size (cellsFrom (HH.objs.size + 1) sc.names (clOf X.env.cells sc.names [])) s H fp = Y at I0
  have eY1 : Y.prog = X.prog := by subst hXX; rfl
  have eY2 : Y.w = X.w := by subst hXX; rfl
  have eY3 : Y.K = X.K := by subst hXX; rfl
  have eY4 : Y.calm = true := by subst hXX; exact hc
  have eY5 : Y.A = X.A := by subst hXX; rfl
  have eY6 : Y.env = { scope := relabel sc X.env, locals := HH.objs.size, globals := X.env.globals, cells := cellsFrom (HH.objs.size + 1) sc.names (clOf X.env.cells sc.names []), qual := X.env.qual, func := none, code := X.env.code, frame := X.env.frame, builtins := X.env.builtins } := by subst hXX; rfl
  have eY7 : Y.xe = fun _ _ => False := by subst hXX; rfl
  have eY8 : Y.pn = [] := by subst hXX; rfl
  have eY9 : Y.fs = frs X.stack := by subst hXX; rfl
  have eY10 : Y.s₀ = s := by subst hXX; rfl
  have eY11 : Y.H₀ = H := by subst hXX; rfl
  have eY12 : Y.ex = fp := by subst hXX; rfl
  have eY13 : Y.N = N' := by subst hXX; rfl
  have hgY : PG Y tg g := by subst hXX; exact hg _ _ _ _ _
  have htY : PTs Y ifs tt := by subst hXX; exact ht _ _ _ _ _
  have heY : PE Y elt te := by subst hXX; exact he _ _ _ _ _
  have lenI : (inS ix σ).length = Y.N.length := by rw [eY13]; unfold inS; rw [List.length_map]; exact compOk.len ok
  have cellN : ∀ (b : Addr), b ≤ HH.objs.size → (∀ x c, X.env.cells.lookup x = some c → c ≠ b) → ∀ x c, Y.env.cells.lookup x = some c → c ≠ b := fun b hb hx x c e => by
    rw [eY6] at e
    rcases hcl x c e with q | ⟨q, _⟩
    · exact hx x c (comp_cl I ok q).2
    · exact (lt_ne (Nat.lt_of_le_of_lt hb (Nat.lt_succ_self _)) q).symm
  have oldc : ∀ x c, X.env.cells.lookup x = some c → c < s.heap.objs.size := fun x c e => let ⟨v, z⟩ := I.cell x c e; z.lt
  have nfs : ∀ b, s.heap.objs.size ≤ b → b ∉ frs X.stack := fun b hb z => by
    rcases List.mem_cons.mp (I.stkSub b z) with q | q
    · exact lt_ne I.lt hb q.symm
    · exact I.nofs hb q
  have fpY : ∀ (pp : List (Addr × Obj)) (H' : Hp), (∀ b ∈ fp, H' b = none) → (∀ q ∈ pp, q.1 ∉ fp) → ∀ b ∈ fp, FpOk Y pp H' b := fun pp H' hn hq b z => by
    have hlt := fpl b z
    refine ⟨hn b z, ?_, ?_, .inl (by rw [eY12]; exact z), cellN b (Nat.le_of_lt (Nat.lt_trans hlt sL')) ((hf b z).2.2.2.2.1), fun q hq' e => ?_⟩
    · rw [eY6]; exact lt_ne hlt sL
    · rw [eY9]; intro hs
      rcases List.mem_cons.mp (I.stkSub b hs) with q | q
      · exact (hf b z).2.1 q
      · exact (hf b z).2.2.1 q
    · rw [eY8] at hq'
      exact hq q (by simpa using hq') (by rw [e]; exact z)
  have Dfp : s.heap.objs.size ∉ fp := fun z => absurd (fpl _ z) (Nat.lt_irrefl _)
  have Dok : ∀ (pp : List (Addr × Obj)) (H' : Hp), H' s.heap.objs.size = none → (∀ q ∈ pp, q.1 ≠ s.heap.objs.size) → FpOk Y pp H' s.heap.objs.size := fun pp H' hn hq => by
    refine ⟨hn, ?_, by rw [eY9]; exact nfs _ (Nat.le_refl _), .inr (by rw [eY10]; exact Nat.le_refl _), cellN _ sL (fun x c e => Nat.ne_of_lt (oldc x c e)), fun q hq' => ?_⟩
    · rw [eY6]; exact Nat.ne_of_lt sL'
    · rw [eY8] at hq'
      exact hq q (by simpa using hq')
  have loop : codeAny (model X.prog X.w) X.A (.compLoop (.ListComp elt [⟨tg, iter, ifs, 0⟩] sc pos) 0 (.ref it) (.ref s.heap.objs.size) Y.env) (fun r s' => (∃ fl, r = .ok fl) ∧
        ∃ (p : Addr) (ys : List V) (H2 : Hp), Value.ref s.heap.objs.size = .ref p ∧ Inv X pins σ (upd H2 p (.lst ys)) s' ∧ H2 p = none ∧ F ys H2 ∧ (∃ m, s'.heap.Ns HH.objs.size m) ∧ (upd H2 p (.lst ys)) HH.objs.size = none ∧ HH.objs.size ≠ X.env.locals ∧
          X.s₀.heap.objs.size ≤ HH.objs.size ∧ (∀ x c, X.env.cells.lookup x = some c → c ≠ HH.objs.size) ∧ ∀ q ∈ X.pn ++ pins, q.1 ≠ HH.objs.size) { s with heap := h1 } := by
    refine compLoop_any (fun n s' => ∃ i ys its H', Inv Y [] (inS ix σ) H' s' ∧ tn i s'.heap ∧ (∀ b ∈ fp, H' b = none) ∧ H' s.heap.objs.size = none ∧ s'.heap.PlainList s.heap.objs.size its ∧ Vals ys its.toList ∧ W i n ys H') ?_ m0
      ⟨0, [], #[], H, I0, T.keep _ _ _ st fun b _ o e => kp0 b o e, fun b z => (hf b z).1, I.hok.fresh (Nat.le_refl _), hD0, .nil, w0⟩
    rintro n s3 ⟨i, ys, its, H3, I3, st3, fr3, hD3, pl3, vs3, w3⟩
    obtain ⟨nD, oD⟩ := pl3
    have hpD : ∀ q ∈ [((s.heap.objs.size : Addr), ({ cls := .type "list", data := .seq its nD } : Obj))], q.1 ∉ fp := fun q hq => by
      have : q = _ := List.mem_singleton.mp hq
      rw [this]; exact Dfp
    have I3' : Inv Y [((s.heap.objs.size : Addr), ({ cls := .type "list", data := .seq its nD } : Obj))] (inS ix σ) H3 s3 := I3.pins_of fun q hq => by
      have e : q = _ := List.mem_singleton.mp hq
      obtain ⟨d0, d1, d2, _⟩ := Dok [] H3 hD3 (fun _ z => nomatch z)
      rw [e]
      exact ⟨oD, d0, d1, d2, fun v z => by cases z⟩
    rcases turn i n ys H3 w3 with ⟨stop, ln, qn⟩ | ⟨go, ln, NN, hNN, step⟩
    · have h1 := T.done Y eY1 eY2 eY3 eY4 i _ s3 _ H3 (fun _ _ => False) I3' (fpY _ H3 fr3 hpD) st3 stop
      rw [eY5] at h1
      refine wpAny_mono h1 (fun r s4 ⟨hr, I4⟩ => ?_) fun _ _ z => z
      subst hr
      obtain ⟨oD4, hD4, _⟩ := I4.pin ((s.heap.objs.size : Addr), ({ cls := .type "list", data := .seq its nD } : Obj)) (by rw [eY8]; simp)
      refine ⟨⟨_, rfl⟩, s.heap.objs.size, ys, H3, rfl, ?_, hD3, qn, ?_, ?_, ?_, ?_, ?_, ?_⟩
      · have ub : Un (frs X.stack) fp H H3 s.heap s4.heap := by
          have := I4.base
          rw [eY9, eY10, eY11, eY12] at this
          exact this
        have hok4 : HOk X.prog X.w H3 s4.heap := by
          have := I4.hok
          rw [eY1, eY2] at this
          exact this
        refine I.call' (ch := fp) (by have := I4.os; rw [eY10] at this; exact this) ⟨ub.keep, ub.slot, fun b o e nn hx => ?_, ub.there, fun b xs q => ?_, fun b o u q => ?_, fun b ps q => ?_⟩ (fun b u e => ?_) I4.bare (fun b hb => ?_)
        · rw [upd_ne (Nat.ne_of_lt (Heap.lt_size e))]; exact ub.free b o e nn hx
        · rw [upd_ne (ne_of_none (ub.tups b xs q) hD3)]; exact ub.tups b xs q
        · rw [upd_ne (ne_of_none (ub.frzs b o u q) hD3)]; exact ub.frzs b o u q
        · obtain ⟨more, z⟩ := ub.tbls b ps q
          exact ⟨more, by rw [upd_ne (ne_of_none z hD3)]; exact z⟩
        · by_cases hb : b = s.heap.objs.size
          · subst hb
            rw [upd_same] at e
            cases e
            exact ⟨ln, its.toList, nD, vs3, by simpa using oD4⟩
          · rw [upd_ne hb] at e
            exact (hok4 b u e).stay (fun _ _ _ q => q) (fun c q => by rw [upd_ne (ne_of_none q hD3)]; exact q) fun c xs q => by rw [upd_ne (ne_of_none q hD3)]; exact q
        · obtain ⟨f0, f1, f2, f3, f4, f5⟩ := hf b hb
          exact ⟨f3, f1, f4, f5⟩
      · obtain ⟨m, hn, _⟩ := I4.loc
        rw [eY6] at hn
        exact ⟨m, hn⟩
      · rw [upd_ne (Nat.ne_of_gt sL')]
        have := I4.free
        rw [eY6] at this
        exact this
      · exact Nat.ne_of_gt (Nat.lt_trans I.lt sL')
      · exact Nat.le_trans I.sz sL
      · exact fun x c e => lt_ne (oldc x c e) sL
      · exact fun q hq => lt_ne (Heap.lt_size (I.pin q hq).1) sL
    · have h1 := T.item Y eY1 eY2 eY3 eY4 i _ s3 _ H3 (fun _ _ => False) I3' (fpY _ H3 fr3 hpD) st3 go
      rw [eY5] at h1
      refine wpAny_mono h1 (fun r s4 ⟨u, hr, h4⟩ => ?_) fun _ _ z => z
      subst hr
      refine wpAny_mono h4 (fun _ s5 ⟨x, H5, I5, r5, y5, st5, fr5⟩ => ?_) fun _ _ z => z
      have I5' := I5.pinned (fpY _ H5 fr5 hpD) (T.obj _ _ st5)
      have h5 := hgY _ s5 _ H5 x u _ I5' r5 (hkeep x _ H5 _ (step x H5 y5))
      rw [eY1, eY2, eY5, eY7] at h5
      refine wpAny_mono h5 (fun _ s6 ⟨σ6, H6, I6, q6, k6⟩ => ?_) fun _ _ z => z
      have h6 := htY _ s6 σ6 H6 _ I6 q6
      rw [eY1, eY2, eY5, eY7] at h6
      refine wpAny_mono h6 (fun b s7 ⟨H7, I7, q7⟩ => ?_) fun _ _ z => z
      have back : ∀ {s8 : Shared} {H8 : Hp}, Inv Y ([((s.heap.objs.size : Addr), ({ cls := .type "list", data := .seq its nD } : Obj))] ++ pinsAt fp s5.heap) σ6 H8 s8 → Inv Y [] (inS ix σ) H8 s8 ∧ tn (i + 1) s8.heap ∧ (∀ b ∈ fp, H8 b = none) ∧ H8 s.heap.objs.size = none ∧ s8.heap.get? s.heap.objs.size = some { cls := .type "list", data := .seq its nD } := fun {s8 H8} I8 => by
        obtain ⟨a1, a2, _⟩ := I8.pin ((s.heap.objs.size : Addr), ({ cls := .type "list", data := .seq its nD } : Obj)) (by rw [eY8]; simp)
        refine ⟨(I8.pins_of (pins' := []) fun _ z => nomatch z).slots0 (fun k v e => ?_) lenI, T.keep _ _ _ st5 fun b hb o e => (I8.pin (b, o) (List.mem_append_right _ (List.mem_append_right _ (mem_pinsAt hb e)))).1, fun b hb => ?_, a2, a1⟩
        · refine k6 k v e ?_
          unfold inS at e
          rw [List.getElem?_map] at e
          cases e2 : ix[k]? with
          | none => rw [e2] at e; cases e
          | some o =>
            cases o with
            | none => rw [e2] at e; cases e
            | some j => exact ⟨j, rfl⟩
        · obtain ⟨o, e, d⟩ := T.obj _ _ st5 b hb
          exact (I8.pin (b, o) (List.mem_append_right _ (List.mem_append_right _ (mem_pinsAt hb e)))).2.1
      cases b with
      | false =>
        rw [if_neg Bool.false_ne_true] at q7 ⊢
        obtain ⟨m', hm, w7⟩ := hNN _ _ q7
        obtain ⟨b1, b2, b3, b4, b5⟩ := back I7
        exact ⟨m', hm, i + 1, ys, its, H7, b1, b2, b3, b4, ⟨nD, b5⟩, vs3, w7⟩
      | true =>
        rw [if_pos rfl] at q7 ⊢
        have h7 := heY _ s7 σ6 H7 _ I7 q7
        rw [eY1, eY2, eY5, eY7, eY6] at h7
        rw [eY6]
        refine wpAny_mono h7 (fun uu s8 ⟨y, H8, I8, r8, q8⟩ => ?_) fun _ _ z => z
        obtain ⟨m', hm, w8⟩ := hNN _ _ q8
        obtain ⟨b1, b2, b3, b4, b5⟩ := back I8
        have ez : its.size ≤ sizeLine := by
          have h1 := vs3.length
          have h2 : its.toList.length = its.size := by simp
          omega
        refine wpAny_list_append_plain (hsz := ez) ⟨nD, b5⟩ fun h9 pl9 sb9 => ?_
        obtain ⟨d0, d1, d2, d3, d4, d5⟩ := Dok [] H8 b4 (fun _ z => nomatch z)
        refine ⟨m', hm, i + 1, ys ++ [y], its.push uu, H8, b1.turned (t' := s8.toks) (fun b o hb e => (sb9.2 b hb).trans e) d0 d1 d3 d4 d5, T.keep _ _ _ b2 fun b hb o e => (sb9.2 b ?_).trans e, b3, b4, pl9, ?_, w8⟩
        · exact lt_ne (fpl b hb) (Nat.le_refl _)
        · rw [Array.toList_push]
          exact vs3.append (.cons r8 .nil)
  rw [eY6] at loop
  exact codeAny_compStart_list loop (T.self X.A 0 _ _ _ (T.keep _ _ _ st fun b _ o e => kp0 b o e) loop)
end
noncomputable def tComp (wi : TI) (ix : List (Option Nat)) (g : TG) (tt : TT) (te : TE) : TE := fun σ H Q => wi σ H fun J H1 => compTurns J ix g tt te σ (fun ys H2 => ∀ p, H2 p = none → Q (.ref p) (upd H2 p (.lst ys))) H1
noncomputable def Leaves (ix : List (Option Nat)) (g : TG) : Prop := ∀ x σ' H' (Q : St → Hp → Prop), g x σ' H' Q → g x σ' H' fun σ2 H2 => Q σ2 H2 ∧ ∀ (i : Nat) v, σ'[i]? = some (some v) → (∃ j, ix[i]? = some (some j)) → σ2[i]? = some (some v)
theorem leaves_name {ix : List (Option Nat)} {k : Nat} (h : ix[k]? = some none) : Leaves ix (gName k) := fun x σ' H' Q q => ⟨q, fun i v e ⟨j, hj⟩ => by
  have : k ≠ i := by rintro rfl; rw [h] at hj; cases hj
  rw [List.getElem?_set_ne this]; exact e⟩
section
variable {X : Cx} {N' : List Str} {sc : Scope} {ix : List (Option Nat)} {tg elt iter : Expr} {ifs : List Expr} {pos spos py : Pos} {wi : TI} {g : TG} {tt : TT} {te : TE}
theorem pe_comp (N' : List Str) (ix : List (Option Nat)) (hc : X.calm = true) (hi : PI X tg iter wi) (hg : ∀ L cs s H fp, PG (cxComp X N' sc L cs s H fp) tg g) (hl : Leaves ix g)
    (ht : ∀ L cs s H fp, PTs (cxComp X N' sc L cs s H fp) ifs tt) (he : ∀ L cs s H fp, PE (cxComp X N' sc L cs s H fp) elt te)
    (ok : compOk X.N X.env.scope N' sc ix = true := by rfl) (hk : sc.kind = .function := by rfl) (hs : ∀ x, foldedSetIterable iter X.env x = pure x := by intro _; rfl) :
    PE X (.ListComp elt [⟨tg, iter, ifs, 0⟩] sc pos) (tComp wi ix g tt te) := by
  intro pins s σ H Q I h
  rw [eval_ListComp]
  refine wpAny_comprehension_free (use := none) rfl hs (closure_eq (comp_free I ok)) hk (compOk.loc ok) (thn (hi pins s σ H _ I h) fun v s1 h1 => thn h1 fun itv s2 h2 => ?_)
  obtain ⟨it, fp, tn, J, H2, e, I2, T, st2, f2, tr⟩ := h2
  subst e
  refine thn (comp_core hc I2 T st2 f2 ok hk hg hl ht he tr) fun acc s3 h3 => thn h3 fun cenv s4 h4 => codeAny_mono h4 fun r s5 hr => ?_
  obtain ⟨⟨fl, e1⟩, p, ys, H5, e2, I5, hp, q, ⟨m, hn⟩, c0, c1, c2, c3, c4⟩ := hr
  subst e1
  subst e2
  exact ⟨m, hn, fun h' sb => ⟨.ref p, _, I5.turned (t' := s5.toks) (fun b o hb e => (sb.2 b hb).trans e) c0 c1 (.inr c2) c3 c4, rfl, q p hp⟩⟩
noncomputable def tSetComp (j : Nat) (wi : TI) (ix : List (Option Nat)) (g : TG) (tt : TT) (te : TE) : TS := fun D σ H => wi σ H fun J H1 => compTurns J ix g tt te σ (fun ys H2 => ∀ p, H2 p = none → D.nx (σ.set j (some (.ref p))) (upd H2 p (.lst ys))) H1
theorem ps_setComp (N' : List Str) (ix : List (Option Nat)) {j : Nat} {y : Str} (hN : X.N.Nodup) (hj : X.N[j]? = some y) (hy : X.env.scope.names.lookup y = some .local) (hc : X.calm = true) (hi : PI X tg iter wi) (hg : ∀ L cs s H fp, PG (cxComp X N' sc L cs s H fp) tg g) (hl : Leaves ix g)
    (ht : ∀ L cs s H fp, PTs (cxComp X N' sc L cs s H fp) ifs tt) (he : ∀ L cs s H fp, PE (cxComp X N' sc L cs s H fp) elt te)
    (hsw : swapsWith (.ListComp elt [⟨tg, iter, ifs, 0⟩] sc pos) (some (.Name y py)) spos.line X.env = pure true := by rfl)
    (ok : compOk X.N X.env.scope N' sc ix = true := by rfl) (hk : sc.kind = .function := by rfl) (hs : ∀ x, foldedSetIterable iter X.env x = pure x := by intro _; rfl) :
    PS X (.Assign [.Name y py] (.ListComp elt [⟨tg, iter, ifs, 0⟩] sc pos) spos) (tSetComp j wi ix g tt te) := by
  intro pins s σ H D I h
  rw [exec_Assign_Name_used _ _ _ _ hsw]
  refine wpAny_bind (wpAny_standAt (wpAny_bind ?_))
  show wpAny _ X.A (do let _ ← comprehension (.ListComp elt [⟨tg, iter, ifs, 0⟩] sc pos) sc X.env _ (newList []) false (eval iter X.env) (some (assign (.Name y py) X.env))) _ _ s
  refine wpAny_bind (wpAny_mono (wpAny_comprehension_free (use := some (assign (.Name y py) X.env)) (Q := fun _ s' => SP X pins D .next s') rfl hs (closure_eq (comp_free I ok)) hk (compOk.loc ok) (thn (hi pins s σ H _ I h) fun v s1 h1 => thn h1 fun itv s2 h2 => ?_)) (fun _ s' hq => wpAny_pure (wpAny_pure hq)) fun _ _ z => z)
  obtain ⟨it, fp, tn, J, H2, e, I2, T, st2, f2, tr⟩ := h2
  subst e
  refine thn (comp_core hc I2 T st2 f2 ok hk hg hl ht he tr) fun acc s3 h3 => thn h3 fun cenv s4 h4 => codeAny_mono h4 fun r s5 hr => ?_
  obtain ⟨⟨fl, e1⟩, p, ys, H5, e2, I5, hp, q, ⟨m, hn⟩, c0, c1, c2, c3, c4⟩ := hr
  subst e1
  subst e2
  show wpAny _ X.A (assign (.Name y py) X.env (.ref p)) _ _ s5
  refine wpAny_assign_Name (store_ok2 (v := .ref p) I5 hN hj (.inl hy) rfl (fun s6 I6 ⟨a, sb, ha⟩ => ?_) (.inr hy))
  have ea : cenv.locals ≠ a := by
    rcases ha with z | z
    · rw [z]; exact c1
    · exact fun e => c3 y a z e.symm
  refine ⟨m, hn.sameBut sb ea, fun h' sb' => ?_⟩
  exact ⟨_, _, I6.turned (t' := s6.toks) (fun b o hb e => (sb'.2 b hb).trans e) c0 c1 (.inr c2) c3 c4, q p hp⟩
end
end L2
namespace L2
open PySem PySem.Spec PyProof.Rows
section
variable {X : Cx}
noncomputable def clsV : V → Option Value
  | .ty n => some (.type n)
  | .ref a => some (.ref a)
  | _ => none
theorem clsV_is {y : V} {c u : Value} (h : clsV y = some c) (r : RelV y u) : u = c := by
  cases y with
  | ty n => cases r; exact Option.some.inj h
  | ref a => cases r; exact Option.some.inj h
  | _ => cases h
theorem call_isi : CallR X (.builtin "isinstance") (fun xs H Q => ∃ x y c t b, xs = [x, y] ∧ clsV y = some c ∧ TyOf X.K H x t ∧ PySem.W.kitOne X.K t c = some b ∧ Q (.bl b) H) := by
  intro pins s σ H xs us Q I r h
  obtain ⟨x, y, c, t, b, rfl, hc, ty, e, q⟩ := h
  obtain ⟨u, v, rfl, ru, rv⟩ := r.two
  have ev := clsV_is hc rv
  subst ev
  exact isinst_ok I ru ty e fun tk => ⟨.bl b, H, I.tok tk, rfl, q⟩
inductive EqV (K : PySem.W.Frag) (H : Hp) : Nat → V → V → Bool → Prop where
  | flat {n : Nat} {x y : V} (hx : flatV x = true) (hy : flatV y = true) : EqV K H n x y (eqV x y)
  | same {n : Nat} {a : Addr} : EqV K H n (.ref a) (.ref a) true
  | lists {n : Nat} {a b : Addr} {xs ys : List V} {e : Nat → Bool} (ha : SqL K H a xs) (hb : SqL K H b ys) (hl : xs.length = ys.length) (ne : a ≠ b)
      (he : ∀ j x y, xs[j]? = some x → ys[j]? = some y → EqV K H n x y (e j)) : EqV K H (n + 1) (.ref a) (.ref b) ((List.range xs.length).all e)
  | listsL {n : Nat} {a b : Addr} {xs ys : List V} (ha : SqL K H a xs) (hb : SqL K H b ys) (hl : xs.length ≠ ys.length) (ne : a ≠ b) : EqV K H (n + 1) (.ref a) (.ref b) false
  | tups {n : Nat} {a b : Addr} {xs ys : List V} {e : Nat → Bool} (ha : SqT K H a xs) (hb : SqT K H b ys) (ne : a ≠ b)
      (he : ∀ j x y, xs[j]? = some x → ys[j]? = some y → EqV K H n x y (e j)) : EqV K H (n + 1) (.ref a) (.ref b) ((List.range (min xs.length ys.length)).all e && xs.length == ys.length)
theorem Vals.atA {xs : List V} {us : List Value} (r : Vals xs us) {j : Nat} (h : j < us.toArray.size) : ∃ x, xs[j]? = some x ∧ RelV x us.toArray[j] := by
  have hl := r.length
  have hj : j < xs.length := by rw [hl]; simpa using h
  obtain ⟨u, e1, e2⟩ := r.get (i := j) (x := xs[j]) (by simp [hj])
  refine ⟨xs[j], by simp [hj], ?_⟩
  have : us.toArray[j] = u := by
    have h' : j < us.length := by simpa using h
    rw [List.getElem?_eq_getElem h'] at e1
    simpa using Option.some.inj e1
  rw [this]; exact e2
end
end L2
namespace L2
open PySem PySem.Spec PyProof.Rows
section
variable {X : Cx} {x : Str} {pos : Pos}
theorem pe_tyN {T : String} (hg : Gl X x) (hm : X.mg x = none) (hv : bootBuiltins x = some (.type T)) (hn : x ≠ "__name__" := by decide) (hd : (x == ("__debug__" : Str)) = false := by decide) : PE X (.Name x pos) (tC (.ty T)) := pe_bltn (v := .ty T) hg hm hv rfl hn hd
end
section
variable {P : Program} {w : World} {K : PySem.W.Frag} {mg : Str → Option Value} {base : Heap} {CX : CXT}
theorem Fun.okX {x qual : Str} {st : Stmt} {f : Addr} {fd : FuncData} {N ps : List Str} {k : Nat} {sp : Sp} (F : Fun K x qual st f fd) (S : FnScope N ps (defScope st)) (len : ∀ vs H Q E, sp vs H Q E → vs.length = ps.length)
    (hbody : ∀ (cdv : Value) (A : Around) (outer : List Env) (s : Shared) (H : Hp) (vs : List V) (Q : VK) (E : XK), Room k (A.deeper (envOfC qual (defScope st) s.heap.objs.size f cdv)) → sp vs H Q E →
      ∃ t, PSs (cxOf CX P w K mg base N qual (defScope st) f cdv A outer s H E).nox (defBody st) t ∧ t { nx := fun _ H' => Q .non H', rt := Q } (start N vs) H) : FnOk P w K mg base CX (k + 1) f fd ps sp := by
  obtain ⟨oc, od, kV, doc, pm, an, cdv, ct, osl, rfl, lk, hcd⟩ := F.ex
  refine fn_of lk hcd S len fun A outer s H vs Q E hr hsp => ?_
  obtain ⟨t, h, q⟩ := hbody cdv A outer s H vs Q E hr hsp
  exact ⟨t, h.nox, q⟩
structure Def (K : PySem.W.Frag) (mg : Str → Option Value) (x : Str) (st : Stmt) (ps : List Str) (f : Addr) (fd : FuncData) : Prop where
  fn : Fun K x x st f fd
  mg : mg x = some (.ref f)
  bd : Binds K fd ps []
theorem def_of {h : Heap} (KX : K.In h) (G : h.Ns mainGlobals mg) {x : Str} {st : Stmt} {ps : List Str} {f : Addr} {oc : Value} {od an : Option Addr} {osl : Array (Option Value)} {kV doc pm cdv ct : Value}
    (a : PySem.W.nsIn K mainGlobals x = some (some (.ref f))) (l : K.lookup f = some ⟨oc, od, .func (PySem.W.fnOf x x (defArgs st) (defBody st) (defScope st) .none kV doc pm an cdv ct), osl⟩) (c : PySem.W.codeIn K cdv x = true) (k : PySem.W.keepIn K (.ref f) = true)
    (hb : ∀ (kV doc pm : Value) (an : Option Addr) (cdv ct : Value) (us : List Value), us.length = ps.length → bindArgs (PySem.W.fnOf x x (defArgs st) (defBody st) (defScope st) .none kV doc pm an cdv ct) ⟨us, []⟩ = pure (ps.zip us)) :
    Def K mg x st ps f (PySem.W.fnOf x x (defArgs st) (defBody st) (defScope st) .none kV doc pm an cdv ct) :=
  ⟨fun_mk l c k, PySem.W.mg_of KX G a, (fun_mk l c k).binds hb⟩
structure Mth (K : PySem.W.Frag) (C : Addr) (x qual : Str) (st : Stmt) (ps : List Str) (f : Addr) (fd : FuncData) : Prop where
  fn : Fun K x qual st f fd
  mt : Meth K C x f
  bd : Binds K fd ps []
structure Kls (K : PySem.W.Frag) (mg : Str → Option Value) (x : Str) (C : Addr) : Prop where
  cl : Cls K C
  mg : mg x = some (.ref C)
  mks : PySem.W.makesIn K C = true
  kp : PySem.W.keepIn K (.ref C) = true
  c1 : PySem.W.findIn K (.ref C) "__class__" = some (some (.builtin "object.__class__"))
  c2 : PySem.W.specialIn K (.builtin "object.__class__") "__get__" = some (some (.builtin "getset_descriptor.__get__"))
  c3 : PySem.W.takesIn K (.builtin "object.__class__") = some true
  c4 : PySem.W.mroIn K C (.type "object") = some true
theorem Kls.ty {x : Str} {C a dx : Addr} {fs : List (Str × V)} {H : Hp} (k : Kls K mg x C) (e : H a = some (.ins C dx fs)) : TyOf K H (.ref a) (.ref C) := .ins e k.cl k.c1 k.c2 k.c3 k.c4
end
section
variable {X : Cx} {K : PySem.W.Frag}
theorem call_isiK (hK : X.K = K := by rfl) : CallR X (.builtin "isinstance") (fun xs H Q => ∃ x y c t b, xs = [x, y] ∧ clsV y = some c ∧ TyOf K H x t ∧ PySem.W.kitOne K t c = some b ∧ Q (.bl b) H) := by subst hK; exact call_isi
theorem pg_c {N' : List Str} {sc : Scope} {L : Addr} {cs : List (Str × Addr)} {s : Shared} {H : Hp} {fp : List Addr} {pos : Pos} {i : Nat} {x : Str} (hN : N'.Nodup) (hi : N'[i]? = some x) (hx : Loc (cxComp X N' sc L cs s H fp).env.scope x)
    (hf : (cxComp X N' sc L cs s H fp).fn x = true ∨ (cxComp X N' sc L cs s H fp).env.scope.names.lookup x = some .local := by first | exact .inl rfl | exact .inr rfl | assumption) : PG (cxComp X N' sc L cs s H fp) (.Name x pos) (gName i) := pg_name hN hi hx hf
end
structure Grid (H : Hp) (a : Addr) (as : List Addr) (rows : List (List Int)) : Prop where
  top : H a = some (.lst (as.map V.ref))
  len : as.length = rows.length
  row : ∀ (i : Nat) (b : Addr) (r : List Int), as[i]? = some b → rows[i]? = some r → H b = some (.lst (r.map V.int))
theorem Same.upd {H : Hp} {a : Addr} {o : HO} (h : H a = none) : Same H (upd H a o) := fun b u e => by rw [upd_ne (ne_of_none e h)]; exact e
end L2
namespace L2
open PySem PySem.Spec PyProof.Rows
section
variable {X : Cx} {CX : CXT} {k : Nat} {f C : Addr} {fd : FuncData} {ps : List Str} {sp : Sp} {dvs : List V} {ds : List Value} {E : XK} {x m : Str} {p pos apos : Pos} {e : Expr} {es : List Expr} {t : TA} {mc : Value}
structure Stat (K : PySem.W.Frag) (C : Addr) (mc : Value) (m : Str) (f : Addr) : Prop where
  s1 : PySem.W.specialIn K (.ref C) "__getattribute__" = some (some (.builtin "type.__getattribute__"))
  s2 : PySem.W.readsIn K C mc = true
  s3 : PySem.W.findCls K (.ref C) mc m = some (.val (.ref f))
  s4 : PySem.W.keepIn K (.ref f) = true
end
end L2
namespace L2
open PySem PySem.Spec PyProof.Rows
section
variable {X : Cx} {a b c d : Expr} {ta tb tc td : TE} {pos : Pos}
theorem Same.tup {K : PySem.W.Frag} {H H' : Hp} {a : Addr} {xs : List V} (e : Same H H') (h : SqT K H a xs) : SqT K H' a xs := by
  rcases h with (h | ⟨o, h⟩) | h
  · exact .inl (.inl (e _ _ h))
  · exact .inl (.inr ⟨o, e _ _ h⟩)
  · exact .inr h
end
end L2
namespace L2
open PySem PySem.Spec PyProof.Rows
theorem tyV_list {K : PySem.W.Frag} {a : Addr} {H : Hp} {xs : List V} (h : H a = some (.lst xs)) : tyV K "list" (.ref a) H := .inl ⟨rfl, _, SqL.of h⟩
inductive Dat where
  | non | bl (b : Bool) | int (i : Int) | str (x : Str) | tup (ds : List Dat) | lst (ds : List Dat) | ins (C : Addr) (fs : List (Str × Dat)) | dic (ks : List (List Int × Dat))
noncomputable abbrev DRow := List Int × Addr × V
noncomputable def tHash (ks : List Int) : Int := reduceHash (PySem.Builtin.Tuple.tupleHashOf (ks.map hashInt))
noncomputable def rowE (x : List Int × Addr × Value) : DictEntry := ⟨tHash x.1, .ref x.2.1, x.2.2⟩
noncomputable def RowRel (p : DRow) (q : List Int × Addr × Value) : Prop := p.1 = q.1 ∧ p.2.1 = q.2.1 ∧ RelV p.2.2 q.2.2
noncomputable def DicOk (h : Heap) (a : Addr) (xs : List DRow) (ep : Nat) : Prop := ∃ vs : List (List Int × Addr × Value), Paired RowRel xs vs ∧ (a == sysModules) = false ∧ xs.length ≤ sizeLine ∧ (vs.map (·.1)).Nodup ∧ ∃ o es, h.get? a = some o ∧ o.ExactDict ∧ o.data = .dict es ep ∧ es.toList = vs.map rowE
noncomputable def DicO (a : Addr) (xs : List DRow) (ep : Nat) : HO := .ext fun h => DicOk h a xs ep
mutual
noncomputable def Deep (K : PySem.W.Frag) (F : Hp) : Dat → V → Prop
  | .non, v => v = .non
  | .bl b, v => v = .bl b
  | .int i, v => v = .int i
  | .str x, v => v = .str x
  | .tup ds, v => ∃ a xs, v = .ref a ∧ SqT K F a xs ∧ Deeps K F ds xs
  | .lst ds, v => ∃ a xs, v = .ref a ∧ SqL K F a xs ∧ Deeps K F ds xs
  | .ins C gs, v => ∃ a dx fs, v = .ref a ∧ F a = some (.ins C dx fs) ∧ DeepF K F gs fs
  | .dic ks, v => ∃ a xs, v = .ref a ∧ (∃ ep, F a = some (DicO a xs ep)) ∧ DeepK K F ks xs
noncomputable def Deeps (K : PySem.W.Frag) (F : Hp) : List Dat → List V → Prop
  | [], xs => xs = []
  | d :: ds, xs => ∃ v vs, xs = v :: vs ∧ Deep K F d v ∧ Deeps K F ds vs
noncomputable def DeepF (K : PySem.W.Frag) (F : Hp) : List (Str × Dat) → List (Str × V) → Prop
  | [], fs => fs = []
  | (f, d) :: gs, fs => ∃ v r, fs = (f, v) :: r ∧ Deep K F d v ∧ DeepF K F gs r
noncomputable def DeepK (K : PySem.W.Frag) (F : Hp) : List (List Int × Dat) → List DRow → Prop
  | [], xs => xs = []
  | (k, d) :: ks, xs => ∃ b v r, xs = (k, b, v) :: r ∧ SqT K F b (k.map .int) ∧ Deep K F d v ∧ DeepK K F ks r
end
mutual
noncomputable def flatD : Dat → Bool
  | .tup ds => flatDs ds
  | .lst _ => false
  | .ins _ _ => false
  | .dic _ => false
  | _ => true
noncomputable def flatDs : List Dat → Bool
  | [] => true
  | d :: ds => flatD d && flatDs ds
end
theorem Same.lst {K : PySem.W.Frag} {H H' : Hp} {a : Addr} {xs : List V} (e : Same H H') (h : SqL K H a xs) : SqL K H' a xs := by
  rcases h with (h | ⟨o, h⟩) | h
  · exact .inl (.inl (e _ _ h))
  · exact .inl (.inr ⟨o, e _ _ h⟩)
  · exact .inr h
mutual
theorem Deep.mono {K : PySem.W.Frag} {F F' : Hp} (s : Same F F') : ∀ {d : Dat} {v : V}, Deep K F d v → Deep K F' d v
  | .non, _, h => h
  | .bl _, _, h => h
  | .int _, _, h => h
  | .str _, _, h => h
  | .tup _, _, ⟨a, xs, e, q, r⟩ => ⟨a, xs, e, s.tup q, Deeps.mono s r⟩
  | .lst _, _, ⟨a, xs, e, q, r⟩ => ⟨a, xs, e, s.lst q, Deeps.mono s r⟩
  | .ins _ _, _, ⟨a, dx, fs, e, q, r⟩ => ⟨a, dx, fs, e, s _ _ q, DeepF.mono s r⟩
  | .dic _, _, ⟨a, xs, e, ⟨ep, q⟩, r⟩ => ⟨a, xs, e, ⟨ep, s _ _ q⟩, DeepK.mono s r⟩
theorem Deeps.mono {K : PySem.W.Frag} {F F' : Hp} (s : Same F F') : ∀ {ds : List Dat} {xs : List V}, Deeps K F ds xs → Deeps K F' ds xs
  | [], _, h => h
  | _ :: _, _, ⟨v, vs, e, q, r⟩ => ⟨v, vs, e, Deep.mono s q, Deeps.mono s r⟩
theorem DeepF.mono {K : PySem.W.Frag} {F F' : Hp} (s : Same F F') : ∀ {gs : List (Str × Dat)} {fs : List (Str × V)}, DeepF K F gs fs → DeepF K F' gs fs
  | [], _, h => h
  | (_, _) :: _, _, ⟨v, r, e, q, t⟩ => ⟨v, r, e, Deep.mono s q, DeepF.mono s t⟩
theorem DeepK.mono {K : PySem.W.Frag} {F F' : Hp} (s : Same F F') : ∀ {ks : List (List Int × Dat)} {xs : List DRow}, DeepK K F ks xs → DeepK K F' ks xs
  | [], _, h => h
  | (_, _) :: _, _, ⟨b, v, r, e, t, q, z⟩ => ⟨b, v, r, e, s.tup t, Deep.mono s q, DeepK.mono s z⟩
end
mutual
theorem Deep.flat {K : PySem.W.Frag} {F F' : Hp} (s : ∀ a xs, SqT K F a xs → SqT K F' a xs) : ∀ {d : Dat} {v : V}, flatD d = true → Deep K F d v → Deep K F' d v
  | .non, _, _, h => h
  | .bl _, _, _, h => h
  | .int _, _, _, h => h
  | .str _, _, _, h => h
  | .tup ds, _, f, ⟨a, xs, e, q, r⟩ => ⟨a, xs, e, s _ _ q, Deeps.flat s (by simpa [flatD] using f) r⟩
  | .lst _, _, f, _ => by simp [flatD] at f
  | .ins _ _, _, f, _ => by simp [flatD] at f
  | .dic _, _, f, _ => by simp [flatD] at f
theorem Deeps.flat {K : PySem.W.Frag} {F F' : Hp} (s : ∀ a xs, SqT K F a xs → SqT K F' a xs) : ∀ {ds : List Dat} {xs : List V}, flatDs ds = true → Deeps K F ds xs → Deeps K F' ds xs
  | [], _, _, h => h
  | d :: ds, _, f, ⟨v, vs, e, q, r⟩ => by
    simp only [flatDs, Bool.and_eq_true] at f
    exact ⟨v, vs, e, Deep.flat s f.1 q, Deeps.flat s f.2 r⟩
end
theorem Deeps.length {K : PySem.W.Frag} {F : Hp} : ∀ {ds : List Dat} {xs : List V}, Deeps K F ds xs → xs.length = ds.length
  | [], _, h => by rw [show _ = [] from h]; rfl
  | _ :: _, _, ⟨_, _, e, _, r⟩ => by rw [e, List.length_cons, List.length_cons, Deeps.length r]
theorem Deeps.get {K : PySem.W.Frag} {F : Hp} : ∀ {ds : List Dat} {xs : List V} {i : Nat} {d : Dat}, Deeps K F ds xs → ds[i]? = some d → ∃ v, xs[i]? = some v ∧ Deep K F d v
  | [], _, _, _, _, e => by simp at e
  | _ :: _, _, 0, _, ⟨v, vs, e, q, _⟩, h => by
    simp only [List.getElem?_cons_zero, Option.some.injEq] at h
    subst h e
    exact ⟨v, rfl, q⟩
  | _ :: _, _, i + 1, _, ⟨v, vs, e, _, r⟩, h => by
    subst e
    simp only [List.getElem?_cons_succ] at h ⊢
    exact Deeps.get r h
theorem Deeps.at {K : PySem.W.Frag} {F : Hp} {ds : List Dat} {xs : List V} {i : Nat} {v : V} (r : Deeps K F ds xs) (h : xs[i]? = some v) : ∃ d, ds[i]? = some d ∧ Deep K F d v := by
  have hi : i < ds.length := by rw [← r.length]; exact (List.getElem?_eq_some_iff.mp h).1
  obtain ⟨w, e, q⟩ := r.get (i := i) (d := ds[i]) (by simp [hi])
  rw [h] at e
  have e' := Option.some.inj e
  subst e'
  exact ⟨ds[i], by simp [hi], q⟩
theorem Deeps.cons {K : PySem.W.Frag} {F : Hp} {d : Dat} {v : V} {ds : List Dat} {xs : List V} (q : Deep K F d v) (r : Deeps K F ds xs) : Deeps K F (d :: ds) (v :: xs) := ⟨v, xs, rfl, q, r⟩
theorem Deeps.append {K : PySem.W.Frag} {F : Hp} : ∀ {ds es : List Dat} {xs ys : List V}, Deeps K F ds xs → Deeps K F es ys → Deeps K F (ds ++ es) (xs ++ ys)
  | [], _, _, _, h, r => by rw [show _ = [] from h]; exact r
  | _ :: _, _, _, _, ⟨v, vs, e, q, t⟩, r => by subst e; exact ⟨v, _, rfl, q, Deeps.append t r⟩
theorem Deeps.take {K : PySem.W.Frag} {F : Hp} : ∀ {ds : List Dat} {xs : List V} (n : Nat), Deeps K F ds xs → Deeps K F (ds.take n) (xs.take n)
  | _, _, 0, _ => rfl
  | [], _, _ + 1, h => by rw [show _ = [] from h]; rfl
  | _ :: _, _, n + 1, ⟨v, vs, e, q, r⟩ => by subst e; exact ⟨v, _, rfl, q, Deeps.take n r⟩
theorem Deeps.drop {K : PySem.W.Frag} {F : Hp} : ∀ {ds : List Dat} {xs : List V} (n : Nat), Deeps K F ds xs → Deeps K F (ds.drop n) (xs.drop n)
  | _, _, 0, h => h
  | [], _, _ + 1, h => by rw [show _ = [] from h]; rfl
  | _ :: _, _, n + 1, ⟨v, vs, e, q, r⟩ => by subst e; exact Deeps.drop n r
theorem Deeps.eraseIdx {K : PySem.W.Frag} {F : Hp} : ∀ {ds : List Dat} {xs : List V} (n : Nat), Deeps K F ds xs → Deeps K F (ds.eraseIdx n) (xs.eraseIdx n)
  | [], _, _, h => by rw [show _ = [] from h]; rfl
  | _ :: _, _, 0, ⟨w, vs, e, _, r⟩ => by subst e; exact r
  | _ :: _, _, n + 1, ⟨w, vs, e, p, r⟩ => by subst e; exact ⟨w, _, rfl, p, Deeps.eraseIdx n r⟩
theorem Deeps.of_get {K : PySem.W.Frag} {F : Hp} : ∀ {ds : List Dat} {xs : List V}, xs.length = ds.length → (∀ (i : Nat) d v, ds[i]? = some d → xs[i]? = some v → Deep K F d v) → Deeps K F ds xs
  | [], [], _, _ => rfl
  | [], _ :: _, h, _ => by simp at h
  | _ :: _, [], h, _ => by simp at h
  | d :: ds, v :: vs, h, q => ⟨v, vs, rfl, q 0 d v rfl rfl, Deeps.of_get (by simpa using h) fun i e w h1 h2 => q (i + 1) e w (by simpa using h1) (by simpa using h2)⟩
structure Step (F H F' H' : Hp) : Prop where
  ff : Same F F'
  hh : Same H H'
  fh : Same F' H'
  nw : ∀ b o, F' b = some o → F b = some o ∨ H b = none
theorem Step.refl {F H : Hp} (s : Same F H) : Step F H F H := ⟨Same.refl _, Same.refl _, s, fun _ _ h => .inl h⟩
theorem Step.trans {F H F1 H1 F2 H2 : Hp} (a : Step F H F1 H1) (b : Step F1 H1 F2 H2) : Step F H F2 H2 :=
  ⟨a.ff.trans b.ff, a.hh.trans b.hh, b.fh, fun x o h => (b.nw x o h).elim (fun z => a.nw x o z) fun z => .inr (a.hh.free z)⟩
theorem Step.lay {F H : Hp} {p : Addr} {o : HO} (s : Same F H) (hp : H p = none) : Step F H (upd F p o) (upd H p o) :=
  ⟨Same.upd (s.free hp), Same.upd hp, fun b u h => by
    by_cases e : b = p
    · subst e; rw [upd_same] at h ⊢; exact h
    · rw [upd_ne e] at h ⊢; exact s b u h, fun b u h => by
    by_cases e : b = p
    · subst e; exact .inr hp
    · rw [upd_ne e] at h; exact .inl h⟩
theorem Step.grow {F H : Hp} {p : Addr} {o : HO} (s : Same F H) (hp : H p = none) : Step F H F (upd H p o) :=
  ⟨Same.refl _, Same.upd hp, s.trans (Same.upd hp), fun _ _ h => .inl h⟩
noncomputable def OwnD (K : PySem.W.Frag) (F H0 H : Hp) : Dat → V → Prop
  | .lst ds, v => ∃ a xs, v = .ref a ∧ H a = some (.lst xs) ∧ F a = none ∧ H0 a = none ∧ Deeps K F ds xs
  | .dic ks, v => ∃ a xs, v = .ref a ∧ (∃ ep, H a = some (DicO a xs ep)) ∧ F a = none ∧ H0 a = none ∧ DeepK K F ks xs
  | d, v => Deep K F d v
noncomputable def isO : Dat → Bool
  | .lst _ => true
  | .dic _ => true
  | _ => false
noncomputable def isMu : HO → Bool
  | .lst _ => true
  | .ext _ => true
  | _ => false
theorem OwnD.non {K : PySem.W.Frag} {F H0 H : Hp} {d : Dat} {v : V} (hd : isO d = false) : OwnD K F H0 H d v = Deep K F d v := by
  cases d <;> first | rfl | cases hd
theorem OwnD.top {K : PySem.W.Frag} {F H0 H : Hp} {d : Dat} {v : V} (hd : isO d = true) (q : OwnD K F H0 H d v) : ∃ a o, v = .ref a ∧ H a = some o ∧ isMu o = true ∧ F a = none ∧ H0 a = none := by
  cases d with
  | lst ds => obtain ⟨a, xs, e, p, f, z, _⟩ := q; exact ⟨a, _, e, p, rfl, f, z⟩
  | dic ks => obtain ⟨a, xs, e, ⟨ep, p⟩, f, z, _⟩ := q; exact ⟨a, _, e, p, rfl, f, z⟩
  | _ => cases hd
theorem OwnD.re {K : PySem.W.Frag} {F F' H0 H H' : Hp} {d : Dat} {a : Addr} (hd : isO d = true) (q : OwnD K F H0 H d (.ref a)) (ff : Same F F') (fa : F' a = none) (hh : ∀ o, H a = some o → H' a = some o) : OwnD K F' H0 H' d (.ref a) := by
  cases d with
  | lst ds => obtain ⟨b, xs, e, p, f, z, r⟩ := q; cases e; exact ⟨a, xs, rfl, hh _ p, fa, z, r.mono ff⟩
  | dic ks => obtain ⟨b, xs, e, ⟨ep, p⟩, f, z, r⟩ := q; cases e; exact ⟨a, xs, rfl, ⟨ep, hh _ p⟩, fa, z, r.mono ff⟩
  | _ => cases hd
theorem OwnD.give {K : PySem.W.Frag} {F F' H0 H : Hp} {d : Dat} {a : Addr} (hd : isO d = true) (q : OwnD K F H0 H d (.ref a)) (ff : Same F F') (fa : F' a = H a) : Deep K F' d (.ref a) := by
  cases d with
  | lst ds => obtain ⟨b, xs, e, p, f, z, r⟩ := q; cases e; exact ⟨a, xs, rfl, SqL.of (fa.trans p), r.mono ff⟩
  | dic ks => obtain ⟨b, xs, e, ⟨ep, p⟩, f, z, r⟩ := q; cases e; exact ⟨a, xs, rfl, ⟨ep, fa.trans p⟩, r.mono ff⟩
  | _ => cases hd
noncomputable def Val (K : PySem.W.Frag) (own : Bool) (F H0 H : Hp) (d : Dat) (v : V) : Prop := if own = true then OwnD K F H0 H d v else Deep K F d v
theorem OwnD.back {K : PySem.W.Frag} {F H0 H1 H : Hp} {d : Dat} {v : V} (s : Same H0 H1) (h : OwnD K F H1 H d v) : OwnD K F H0 H d v := by
  cases d with
  | lst ds => obtain ⟨a, xs, e, p, q, z, r⟩ := h; exact ⟨a, xs, e, p, q, s.free z, r⟩
  | dic ks => obtain ⟨a, xs, e, p, q, z, r⟩ := h; exact ⟨a, xs, e, p, q, s.free z, r⟩
  | _ => exact h
theorem Val.back {K : PySem.W.Frag} {own : Bool} {F H0 H1 H : Hp} {d : Dat} {v : V} (s : Same H0 H1) (h : Val K own F H1 H d v) : Val K own F H0 H d v := by
  cases own with
  | true => exact OwnD.back s h
  | false => exact h
theorem OwnD.freeze {K : PySem.W.Frag} {F H0 H : Hp} {d : Dat} {v : V} (s : Same F H) (h : OwnD K F H0 H d v) : ∃ F', Same F F' ∧ Same F' H ∧ (∀ b o, F' b = some o → F b = some o ∨ H0 b = none) ∧ Deep K F' d v := by
  cases hd : isO d with
  | true =>
    obtain ⟨a, u, e, p, _, q, z⟩ := h.top hd
    subst e
    refine ⟨upd F a u, Same.upd q, fun b o h => ?_, fun b o h => ?_, h.give hd (Same.upd q) (by rw [upd_same, p])⟩
    · by_cases e : b = a
      · subst e; rw [upd_same] at h; rw [p, ← h]
      · rw [upd_ne e] at h; exact s b o h
    · by_cases e : b = a
      · subst e; exact .inr z
      · rw [upd_ne e] at h; exact .inl h
  | false => rw [OwnD.non hd] at h; exact ⟨F, Same.refl _, s, fun _ _ z => .inl z, h⟩
inductive Err where
  | stuck | exc (C : Addr) (fs : List (Str × Dat))
noncomputable abbrev M := Except Err
noncomputable abbrev Env' := List (Option Dat)
structure Wish where
  p : Err → Hp → Hp → Prop
  mono : ∀ {e : Err} {F H F' H' : Hp}, p e F H → Step F H F' H' → p e F' H'
  ns : ∀ {F H : Hp}, p .stuck F H → False
noncomputable def Wno : Wish := ⟨fun _ _ _ => False, fun h _ => h, fun h => h⟩
noncomputable def Post (K : PySem.W.Frag) (W : Wish) (own : Bool) (F H : Hp) (r : M Dat) (Q : VK) : Prop := match r with
  | .ok d => ∀ v F' H', Step F H F' H' → Val K own F' H H' d v → Q v H'
  | .error e => W.p e F H
theorem Post.step {K : PySem.W.Frag} {W : Wish} {own : Bool} {F H F1 H1 : Hp} {r : M Dat} {Q : VK} (p : Post K W own F H r Q) (s : Step F H F1 H1) : Post K W own F1 H1 r Q := by
  cases r with
  | ok d => exact fun v F' H' t q => p v F' H' (s.trans t) (q.back s.hh)
  | error e => exact W.mono p s
theorem Post.frz {K : PySem.W.Frag} {W : Wish} {F H : Hp} {r : M Dat} {Q : VK} (p : Post K W false F H r Q) : Post K W true F H r Q := by
  cases r with
  | ok d =>
    intro v F' H' t q
    obtain ⟨F2, s1, s2, n, z⟩ := OwnD.freeze t.fh q
    exact p v F2 H' ⟨t.ff.trans s1, t.hh, s2, fun b o h => (n b o h).elim (fun z => t.nw b o z) .inr⟩ z
  | error e => exact p
structure RepE (K : PySem.W.Frag) (F : Hp) (σ : St) (ρ : Env') : Prop where
  len : ρ.length = σ.length
  sl : ∀ (i : Nat) (d : Dat), ρ[i]? = some (some d) → ∃ v, σ[i]? = some (some v) ∧ Deep K F d v
theorem RepE.mono {K : PySem.W.Frag} {F F' : Hp} {σ : St} {ρ : Env'} (r : RepE K F σ ρ) (s : Same F F') : RepE K F' σ ρ :=
  ⟨r.len, fun i d e => let ⟨v, h, q⟩ := r.sl i d e; ⟨v, h, q.mono s⟩⟩
theorem RepE.set {K : PySem.W.Frag} {F : Hp} {σ : St} {ρ : Env'} {d : Dat} {v : V} (r : RepE K F σ ρ) (q : Deep K F d v) (i : Nat) : RepE K F (σ.set i (some v)) (ρ.set i (some d)) :=
  ⟨by rw [List.length_set, List.length_set, r.len], fun j e h => by
    by_cases hij : i = j
    · subst hij
      have hi : i < ρ.length := by
        have := (List.getElem?_eq_some_iff.mp h).1
        simpa using this
      rw [List.getElem?_set_self hi] at h
      cases h
      exact ⟨v, by rw [List.getElem?_set_self (by rw [← r.len]; exact hi)], q⟩
    · rw [List.getElem?_set_ne hij] at h
      obtain ⟨w, h1, h2⟩ := r.sl j e h
      exact ⟨w, by rw [List.getElem?_set_ne hij]; exact h1, h2⟩⟩
noncomputable def tD (K : PySem.W.Frag) (W : Wish) (own : Bool) (f : Env' → M Dat) : TE := fun σ H Q => ∃ F ρ, RepE K F σ ρ ∧ Same F H ∧ Post K W own F H (f ρ) Q
theorem tD_run {K : PySem.W.Frag} {W : Wish} {own : Bool} {f : Env' → M Dat} {σ : St} {ρ : Env'} {F H : Hp} {R : VK} (r : RepE K F σ ρ) (s : Same F H) (hE : ∀ e, f ρ = .error e → W.p e F H)
    (hO : ∀ d, f ρ = .ok d → ∀ v F1 H1, Step F H F1 H1 → Val K own F1 H H1 d v → R v H1) : tD K W own f σ H R := by
  refine ⟨F, ρ, r, s, ?_⟩
  cases e : f ρ with
  | ok d => exact hO d e
  | error x => exact hE x e
noncomputable def tDT (K : PySem.W.Frag) (W : Wish) (f : Env' → M Bool) : TT := fun σ H Q => ∃ F ρ, RepE K F σ ρ ∧ Same F H ∧ (match f ρ with
  | .ok b => ∀ F' H', Step F H F' H' → Q b H'
  | .error e => W.p e F H)
theorem tDT_run {K : PySem.W.Frag} {W : Wish} {f : Env' → M Bool} {σ : St} {ρ : Env'} {F H : Hp} {R : Bool → Hp → Prop} (r : RepE K F σ ρ) (s : Same F H) (hE : ∀ e, f ρ = .error e → W.p e F H)
    (hO : ∀ b, f ρ = .ok b → ∀ F1 H1, Step F H F1 H1 → R b H1) : tDT K W f σ H R := by
  refine ⟨F, ρ, r, s, ?_⟩
  cases e : f ρ with
  | ok d => exact hO d e
  | error x => exact hE x e
noncomputable def tDA (K : PySem.W.Frag) (W : Wish) (f : Env' → M (List Dat)) : TA := fun σ H Q => ∃ F ρ, RepE K F σ ρ ∧ Same F H ∧ (match f ρ with
  | .ok ds => ∀ vs F' H', Step F H F' H' → Deeps K F' ds vs → Q vs H'
  | .error e => W.p e F H)
theorem tDA_run {K : PySem.W.Frag} {W : Wish} {f : Env' → M (List Dat)} {σ : St} {ρ : Env'} {F H : Hp} {R : List V → Hp → Prop} (r : RepE K F σ ρ) (s : Same F H) (hE : ∀ e, f ρ = .error e → W.p e F H)
    (hO : ∀ ds, f ρ = .ok ds → ∀ vs F1 H1, Step F H F1 H1 → Deeps K F1 ds vs → R vs H1) : tDA K W f σ H R := by
  refine ⟨F, ρ, r, s, ?_⟩
  cases e : f ρ with
  | ok d => exact hO d e
  | error x => exact hE x e
noncomputable def fVar (i : Nat) : Env' → M Dat := fun ρ => match ρ[i]? with
  | some (some d) => .ok d
  | _ => .error .stuck
noncomputable def fC (d : Dat) : Env' → M Dat := fun _ => .ok d
noncomputable def f1 (g : Dat → M Dat) (fa : Env' → M Dat) : Env' → M Dat := fun ρ => (fa ρ).bind g
noncomputable def f2 (g : Dat → Dat → M Dat) (fa fb : Env' → M Dat) : Env' → M Dat := fun ρ => (fa ρ).bind fun a => (fb ρ).bind fun b => g a b
noncomputable def fNil : Env' → M (List Dat) := fun _ => .ok []
noncomputable def fCons (fa : Env' → M Dat) (fr : Env' → M (List Dat)) : Env' → M (List Dat) := fun ρ => (fa ρ).bind fun a => (fr ρ).bind fun r => .ok (a :: r)
noncomputable def fL (g : List Dat → M Dat) (fr : Env' → M (List Dat)) : Env' → M Dat := fun ρ => (fr ρ).bind g
noncomputable def mkTup (ds : List Dat) : M Dat := if ds.length ≤ sizeLine then .ok (.tup ds) else .error .stuck
noncomputable def mkLst (ds : List Dat) : M Dat := if ds.length ≤ sizeLine then .ok (.lst ds) else .error .stuck
noncomputable def fAnd (ft fu : Env' → M Bool) : Env' → M Bool := fun ρ => (ft ρ).bind fun b => if b = true then fu ρ else .ok false
noncomputable def fOr (ft fu : Env' → M Bool) : Env' → M Bool := fun ρ => (ft ρ).bind fun b => if b = true then .ok true else fu ρ
noncomputable def fNot (ft : Env' → M Bool) : Env' → M Bool := fun ρ => (ft ρ).bind fun b => .ok (!b)
noncomputable def asB : Dat → M Bool
  | .bl b => .ok b
  | _ => .error .stuck
noncomputable def fB (fa : Env' → M Dat) : Env' → M Bool := fun ρ => (fa ρ).bind asB
noncomputable def truD : Dat → M Bool
  | .non => .ok false
  | .bl b => .ok b
  | .int i => .ok (i != 0)
  | .str x => if x.length ≤ sizeLine then .ok ((x.length : Int) != 0) else .error .stuck
  | .tup ds => .ok (!ds.isEmpty)
  | .lst ds => .ok (!ds.isEmpty)
  | _ => .error .stuck
noncomputable def fTru (fa : Env' → M Dat) : Env' → M Bool := fun ρ => (fa ρ).bind truD
noncomputable def fChain (g g' : Dat → Dat → M Dat) (fa fb fc : Env' → M Dat) : Env' → M Dat := fun ρ => (fa ρ).bind fun a => (fb ρ).bind fun b => (g a b).bind fun x => (asB x).bind fun k => if k = true then (fc ρ).bind fun c => g' b c else .ok (.bl false)
noncomputable def rD2 (K : PySem.W.Frag) (W : Wish) (own : Bool) (g : Dat → Dat → M Dat) : R2 := fun x y H Q => ∃ F a b, Same F H ∧ Deep K F a x ∧ Deep K F b y ∧ Post K W own F H (g a b) Q
noncomputable def rD1 (K : PySem.W.Frag) (W : Wish) (own : Bool) (g : Dat → M Dat) : V → Hp → VK → Prop := fun x H Q => ∃ F a, Same F H ∧ Deep K F a x ∧ Post K W own F H (g a) Q
noncomputable def rDL (K : PySem.W.Frag) (W : Wish) (own : Bool) (g : List Dat → M Dat) : List V → Hp → VK → Prop := fun xs H Q => ∃ F ds, Same F H ∧ Deeps K F ds xs ∧ Post K W own F H (g ds) Q
section
variable {K : PySem.W.Frag} {W : Wish} {own : Bool} {σ : St} {H : Hp} {Q : VK} {fa fb fc : Env' → M Dat}
theorem rd_var {i : Nat} (h : tD K W false (fVar i) σ H Q) : tVar i σ H Q := by
  obtain ⟨F, ρ, r, s, p⟩ := h
  unfold fVar at p
  match e : ρ[i]? with
  | some (some d) =>
    rw [e] at p
    obtain ⟨v, e1, q⟩ := r.sl i d e
    exact ⟨v, e1, p v F H (Step.refl s) q⟩
  | some none => rw [e] at p; exact (W.ns p).elim
  | none => rw [e] at p; exact (W.ns p).elim
theorem rd_c {d : Dat} {v : V} (hd : ∀ F, Deep K F d v) (h : tD K W false (fC d) σ H Q) : tC v σ H Q := by
  obtain ⟨F, ρ, r, s, p⟩ := h
  exact p v F H (Step.refl s) (hd F)
theorem Post.err {F : Hp} {x : M Dat} {e : Err} (p : Post K W own F H x Q) (h : x = .error e) : W.p e F H := by rw [h] at p; exact p
theorem rd_1 {g : Dat → M Dat} (h : tD K W own (f1 g fa) σ H Q) : tUn (rD1 K W own g) (tD K W false fa) σ H Q := by
  obtain ⟨F, ρ, r, s, p⟩ := h
  refine tD_run r s (fun e he => p.err (by unfold f1; rw [he]; rfl)) fun a ha x F1 H1 s1 q1 => ?_
  refine ⟨F1, a, s1.fh, q1, ?_⟩
  have e : f1 g fa ρ = g a := by unfold f1; rw [ha]; rfl
  rw [e] at p
  exact p.step s1
theorem rd_2 {g : Dat → Dat → M Dat} (h : tD K W own (f2 g fa fb) σ H Q) : tOp (rD2 K W own g) (tD K W false fa) (tD K W false fb) σ H Q := by
  obtain ⟨F, ρ, r, s, p⟩ := h
  refine tD_run r s (fun e he => p.err (by unfold f2; rw [he]; rfl)) fun a ha x F1 H1 s1 q1 => ?_
  refine tD_run (r.mono s1.ff) s1.fh (fun e he => (p.step s1).err (by unfold f2; rw [ha]; show (fb ρ).bind _ = _; rw [he]; rfl)) fun b hb y F2 H2 s2 q2 => ?_
  refine ⟨F2, a, b, s2.fh, Deep.mono s2.ff q1, q2, ?_⟩
  have e : f2 g fa fb ρ = g a b := by unfold f2; rw [ha]; show (fb ρ).bind _ = _; rw [hb]; rfl
  rw [e] at p
  exact p.step (s1.trans s2)
theorem rd_nil {R : List V → Hp → Prop} (h : tDA K W fNil σ H R) : tNil σ H R := by
  obtain ⟨F, ρ, r, s, p⟩ := h
  exact p [] F H (Step.refl s) rfl
theorem rd_cons {fr : Env' → M (List Dat)} {R : List V → Hp → Prop} (h : tDA K W (fCons fa fr) σ H R) : tCons (tD K W false fa) (tDA K W fr) σ H R := by
  obtain ⟨F, ρ, r, s, p⟩ := h
  refine tD_run r s (fun e he => ?_) fun a ha x F1 H1 s1 q1 => tDA_run (r.mono s1.ff) s1.fh (fun e he => ?_) fun ds hd xs F2 H2 s2 q2 => ?_
  · have z : fCons fa fr ρ = .error e := by unfold fCons; rw [he]; rfl
    rw [z] at p
    exact p
  · have z : fCons fa fr ρ = .error e := by unfold fCons; rw [ha]; show (fr ρ).bind _ = _; rw [he]; rfl
    rw [z] at p
    exact W.mono p s1
  · have z : fCons fa fr ρ = .ok (a :: ds) := by unfold fCons; rw [ha]; show (fr ρ).bind _ = _; rw [hd]; rfl
    rw [z] at p
    exact p (x :: xs) F2 H2 (s1.trans s2) ⟨x, xs, rfl, Deep.mono s2.ff q1, q2⟩
theorem rd_L {g : List Dat → M Dat} {fr : Env' → M (List Dat)} (h : tD K W own (fL g fr) σ H Q) : tDA K W fr σ H fun xs H1 => rDL K W own g xs H1 Q := by
  obtain ⟨F, ρ, r, s, p⟩ := h
  refine tDA_run r s (fun e he => p.err (by unfold fL; rw [he]; rfl)) fun ds hd xs F1 H1 s1 q1 => ⟨F1, ds, s1.fh, q1, ?_⟩
  have e : fL g fr ρ = g ds := by unfold fL; rw [hd]; rfl
  rw [e] at p
  exact p.step s1
theorem rd_tup {fr : Env' → M (List Dat)} (h : tD K W own (fL mkTup fr) σ H Q) : tTup (tDA K W fr) σ H Q := by
  obtain ⟨F, ρ, r, s, p⟩ := rd_L h
  refine ⟨F, ρ, r, s, ?_⟩
  cases e : fr ρ with
  | error x => rw [e] at p; exact p
  | ok ds =>
    rw [e] at p
    intro vs F' H' t q
    obtain ⟨F1, es, s1, q1, z⟩ := p vs F' H' t q
    unfold mkTup at z
    by_cases hl : es.length ≤ sizeLine
    · rw [if_pos hl] at z
      refine ⟨by rw [q1.length]; exact hl, fun a ha => z (.ref a) _ _ (Step.lay s1 ha) ?_⟩
      have : Deep K (upd F1 a (.tup vs)) (.tup es) (.ref a) := ⟨a, vs, rfl, SqT.of upd_same, q1.mono (Same.upd (s1.free ha))⟩
      cases own with
      | true => exact this
      | false => exact this
    · rw [if_neg hl] at z
      exact (W.ns z).elim
theorem rd_lst {fr : Env' → M (List Dat)} (h : tD K W true (fL mkLst fr) σ H Q) : tLst (tDA K W fr) σ H Q := by
  obtain ⟨F, ρ, r, s, p⟩ := rd_L h
  refine ⟨F, ρ, r, s, ?_⟩
  cases e : fr ρ with
  | error x => rw [e] at p; exact p
  | ok ds =>
    rw [e] at p
    intro vs F' H' t q
    obtain ⟨F1, es, s1, q1, z⟩ := p vs F' H' t q
    unfold mkLst at z
    by_cases hl : es.length ≤ sizeLine
    · rw [if_pos hl] at z
      exact ⟨by rw [q1.length]; exact hl, fun a ha => z (.ref a) F1 _ (Step.grow s1 ha) ⟨a, vs, rfl, upd_same, s1.free ha, ha, q1⟩⟩
    · rw [if_neg hl] at z
      exact (W.ns z).elim
theorem tDT_mono {f : Env' → M Bool} {F F1 H1 : Hp} {ρ : Env'} {R : Bool → Hp → Prop} (r : RepE K F σ ρ) (s1 : Step F H F1 H1) (p : match f ρ with
  | .ok b => ∀ F' H', Step F H F' H' → R b H'
  | .error e => W.p e F H) : tDT K W f σ H1 R := by
  refine ⟨F1, ρ, r.mono s1.ff, s1.fh, ?_⟩
  cases e : f ρ with
  | ok b => rw [e] at p; exact fun F' H' t => p F' H' (s1.trans t)
  | error x => rw [e] at p; exact W.mono p s1
theorem rd_and {ft fu : Env' → M Bool} {R : Bool → Hp → Prop} (h : tDT K W (fAnd ft fu) σ H R) : tAnd (tDT K W ft) (tDT K W fu) σ H R := by
  obtain ⟨F, ρ, r, s, p⟩ := h
  refine tDT_run r s (fun e he => ?_) fun b hb F1 H1 s1 => ?_
  · have z : fAnd ft fu ρ = .error e := by unfold fAnd; rw [he]; rfl
    rw [z] at p; exact p
  · have z : fAnd ft fu ρ = if b = true then fu ρ else .ok false := by unfold fAnd; rw [hb]; rfl
    rw [z] at p
    cases b with
    | true => exact tDT_mono r s1 p
    | false => exact p F1 H1 s1
theorem rd_or {ft fu : Env' → M Bool} {R : Bool → Hp → Prop} (h : tDT K W (fOr ft fu) σ H R) : tOr (tDT K W ft) (tDT K W fu) σ H R := by
  obtain ⟨F, ρ, r, s, p⟩ := h
  refine tDT_run r s (fun e he => ?_) fun b hb F1 H1 s1 => ?_
  · have z : fOr ft fu ρ = .error e := by unfold fOr; rw [he]; rfl
    rw [z] at p; exact p
  · have z : fOr ft fu ρ = if b = true then .ok true else fu ρ := by unfold fOr; rw [hb]; rfl
    rw [z] at p
    cases b with
    | false => exact tDT_mono r s1 p
    | true => exact p F1 H1 s1
theorem rd_not {ft : Env' → M Bool} {R : Bool → Hp → Prop} (h : tDT K W (fNot ft) σ H R) : tNot (tDT K W ft) σ H R := by
  obtain ⟨F, ρ, r, s, p⟩ := h
  refine tDT_run r s (fun e he => ?_) fun b hb F1 H1 s1 => ?_
  · have z : fNot ft ρ = .error e := by unfold fNot; rw [he]; rfl
    rw [z] at p; exact p
  · have z : fNot ft ρ = .ok (!b) := by unfold fNot; rw [hb]; rfl
    rw [z] at p; exact p F1 H1 s1
theorem rd_B {R : Bool → Hp → Prop} (h : tDT K W (fB fa) σ H R) : tTest (tD K W false fa) σ H R := by
  obtain ⟨F, ρ, r, s, p⟩ := h
  refine tD_run r s (fun e he => ?_) fun a ha x F1 H1 s1 q1 => ?_
  · have z : fB fa ρ = .error e := by unfold fB; rw [he]; rfl
    rw [z] at p; exact p
  · have z : fB fa ρ = asB a := by unfold fB; rw [ha]; rfl
    rw [z] at p
    cases a with
    | bl b => exact ⟨b, q1, p F1 H1 s1⟩
    | _ => exact (W.ns p).elim
theorem tru_of {F H1 : Hp} {a : Dat} {x : V} {b : Bool} (s : Same F H1) (q : Deep K F a x) (h : truD a = .ok b) : TruV K x H1 b := by
  cases a with
  | non => rw [show x = .non from q]; exact (Except.ok.inj h).symm
  | bl c => rw [show x = .bl c from q]; exact (Except.ok.inj h).symm
  | int i => rw [show x = .int i from q]; exact (Except.ok.inj h).symm
  | str y =>
    rw [show x = .str y from q]
    have h' : (if y.length ≤ sizeLine then Except.ok ((y.length : Int) != 0) else Except.error Err.stuck) = Except.ok b := h
    by_cases hy : y.length ≤ sizeLine
    · rw [if_pos hy] at h'
      exact ⟨hy, (Except.ok.inj h').symm⟩
    · rw [if_neg hy] at h'
      cases h'
  | tup ds =>
    obtain ⟨p, xs, e, t, r⟩ := q
    subst e
    refine .inr (.inl ⟨xs, s.tup t, ?_⟩)
    rw [← Except.ok.inj h]
    cases ds with
    | nil => rw [show xs = [] from r]; rfl
    | cons d ds => obtain ⟨v, vs, e, _⟩ := r; rw [e]; rfl
  | lst ds =>
    obtain ⟨p, xs, e, t, r⟩ := q
    subst e
    refine .inl ⟨xs, s.lst t, ?_⟩
    rw [← Except.ok.inj h]
    cases ds with
    | nil => rw [show xs = [] from r]; rfl
    | cons d ds => obtain ⟨v, vs, e, _⟩ := r; rw [e]; rfl
  | ins C fs => cases h
  | dic ks => cases h
theorem rd_tru {R : Bool → Hp → Prop} (h : tDT K W (fTru fa) σ H R) : tD K W false fa σ H fun x H1 => ∃ k, TruV K x H1 k ∧ R k H1 := by
  obtain ⟨F, ρ, r, s, p⟩ := h
  refine tD_run r s (fun e he => ?_) fun a ha x F1 H1 s1 q1 => ?_
  · have z : fTru fa ρ = .error e := by unfold fTru; rw [he]; rfl
    rw [z] at p; exact p
  · have z : fTru fa ρ = truD a := by unfold fTru; rw [ha]; rfl
    rw [z] at p
    cases e : truD a with
    | ok b => rw [e] at p; exact ⟨b, tru_of s1.fh q1 e, p F1 H1 s1⟩
    | error x =>
      rw [e] at p
      have : x = .stuck := by
        cases a with
        | str y =>
          have e' : (if y.length ≤ sizeLine then Except.ok ((y.length : Int) != 0) else Except.error Err.stuck) = Except.error x := e
          by_cases hy : y.length ≤ sizeLine
          · rw [if_pos hy] at e'
            cases e'
          · rw [if_neg hy] at e'
            cases e'
            rfl
        | ins C fs => cases e; rfl
        | dic ks => cases e; rfl
        | _ => cases e
      subst this
      exact (W.ns p).elim
theorem rd_chain {g g' : Dat → Dat → M Dat} (h : tD K W false (fChain g g' fa fb fc) σ H Q) : tChain (rD2 K W false g) (rD2 K W false g') (tD K W false fa) (tD K W false fb) (tD K W false fc) σ H Q := by
  obtain ⟨F, ρ, r, s, p⟩ := h
  refine tD_run r s (fun e he => p.err (by unfold fChain; rw [he]; rfl)) fun a ha x F1 H1 s1 q1 => ?_
  refine tD_run (r.mono s1.ff) s1.fh (fun e he => (p.step s1).err (by unfold fChain; rw [ha]; show (fb ρ).bind _ = _; rw [he]; rfl)) fun b hb y F2 H2 s2 q2 => ?_
  have z : fChain g g' fa fb fc ρ = (g a b).bind fun x => (asB x).bind fun k => if k = true then (fc ρ).bind fun c => g' b c else .ok (.bl false) := by unfold fChain; rw [ha]; show (fb ρ).bind _ = _; rw [hb]; rfl
  rw [z] at p
  refine ⟨F2, a, b, s2.fh, Deep.mono s2.ff q1, q2, ?_⟩
  have p2 := p.step (s1.trans s2)
  cases e : g a b with
  | error x => rw [e] at p2; exact p2
  | ok d =>
    rw [e] at p2
    intro v F3 H3 s3 q3
    have p3 : Post K W false F3 H3 ((asB d).bind fun k => if k = true then (fc ρ).bind fun c => g' b c else .ok (.bl false)) Q := Post.step p2 s3
    cases d with
    | bl k =>
      refine ⟨k, q3, ?_⟩
      cases k with
      | false => exact p3 (.bl false) F3 H3 (Step.refl s3.fh) rfl
      | true =>
        have p4 : Post K W false F3 H3 ((fc ρ).bind fun c => g' b c) Q := p3
        refine tD_run (r.mono (s1.trans (s2.trans s3)).ff) s3.fh (fun e he => p4.err (by rw [he]; rfl)) fun c hc w F4 H4 s4 q4 => ⟨F4, b, c, s4.fh, Deep.mono (s3.trans s4).ff q2, q4, ?_⟩
        rw [hc] at p4
        exact p4.step s4
    | _ => exact (W.ns p3).elim
end
inductive Pat where
  | nm (i : Nat) | tp (is : List Nat)
noncomputable def setAll : List Nat → List Dat → Env' → Env'
  | i :: is, d :: ds, ρ => setAll is ds (ρ.set i (some d))
  | _, _, ρ => ρ
noncomputable def bindP : Pat → Dat → Env' → M Env'
  | .nm i, d, ρ => .ok (ρ.set i (some d))
  | .tp is, .tup ds, ρ => if ds.length = is.length then .ok (setAll is ds ρ) else .error .stuck
  | .tp _, _, _ => .error .stuck
noncomputable def gNames : List Nat → TGs
  | [] => gNil
  | i :: is => gCons (gName i) (gNames is)
noncomputable def gP (K : PySem.W.Frag) : Pat → TG
  | .nm i => gName i
  | .tp is => gTup K is.length (gNames is)
theorem gNames_run {K : PySem.W.Frag} {F H : Hp} {R : St → Hp → Prop} : ∀ {is : List Nat} {ds : List Dat} {vs : List V} {σ : St} {ρ : Env'}, RepE K F σ ρ → Deeps K F ds vs → ds.length = is.length → (∀ σ', RepE K F σ' (setAll is ds ρ) → R σ' H) → gNames is vs σ H R
  | [], [], _, σ, ρ, r, q, _, h => ⟨q, h σ r⟩
  | [], _ :: _, _, _, _, _, _, e, _ => by simp at e
  | _ :: _, [], _, _, _, _, _, e, _ => by simp at e
  | i :: is, d :: ds, _, σ, ρ, r, ⟨v, vs, e, q, t⟩, l, h => ⟨v, vs, e, gNames_run (r.set q i) t (by simpa using l) h⟩
theorem gP_run {K : PySem.W.Frag} {F H : Hp} {R : St → Hp → Prop} {p : Pat} {d : Dat} {v : V} {σ : St} {ρ ρ' : Env'} (r : RepE K F σ ρ) (s : Same F H) (q : Deep K F d v) (e : bindP p d ρ = .ok ρ') (h : ∀ σ', RepE K F σ' ρ' → R σ' H) : gP K p v σ H R := by
  cases p with
  | nm i =>
    have := Except.ok.inj e
    subst this
    exact h _ (r.set q i)
  | tp is =>
    cases d with
    | tup ds =>
      have e' : (if ds.length = is.length then Except.ok (setAll is ds ρ) else Except.error Err.stuck) = Except.ok ρ' := e
      by_cases hl : ds.length = is.length
      · rw [if_pos hl] at e'
        have := Except.ok.inj e'
        subst this
        obtain ⟨a, xs, ev, t, z⟩ := q
        exact ⟨a, xs, ev, s.tup t, by rw [z.length, hl], gNames_run r z hl h⟩
      · rw [if_neg hl] at e'
        cases e'
    | _ => cases e
theorem bindP_err {p : Pat} {d : Dat} {ρ : Env'} {e : Err} (h : bindP p d ρ = .error e) : e = .stuck := by
  cases p with
  | nm i => cases h
  | tp is =>
    cases d with
    | tup ds =>
      have e' : (if ds.length = is.length then Except.ok (setAll is ds ρ) else Except.error Err.stuck) = Except.error e := h
      by_cases hl : ds.length = is.length
      · rw [if_pos hl] at e'; cases e'
      · rw [if_neg hl] at e'; cases e'; rfl
    | _ => cases h; rfl
structure IterD (K : PySem.W.Frag) (F1 : Hp) (J : It) (ds : List Dat) : Prop where
  go : ∀ (i : Nat) (F H : Hp), Same F1 F → Same F H → i < ds.length → J.go i H
  yl : ∀ (i : Nat) (F H : Hp) (x : V) (H' : Hp) (d : Dat), Same F1 F → Same F H → ds[i]? = some d → J.yld i H x H' → ∃ F', Step F H F' H' ∧ Deep K F' d x
  st : ∀ (F H : Hp), Same F1 F → Same F H → J.stop ds.length H
noncomputable def iD (K : PySem.W.Frag) (W : Wish) (f : Env' → M (List Dat)) : TI := fun σ H R => ∃ F ρ, RepE K F σ ρ ∧ Same F H ∧ (match f ρ with
  | .ok ds => ∀ J F1 H1, Step F H F1 H1 → IterD K F1 J ds → R J H1
  | .error e => W.p e F H)
noncomputable def itemsD : Dat → M (List Dat)
  | .lst ds => .ok ds
  | .tup ds => .ok ds
  | _ => .error .stuck
noncomputable def fIt (fa : Env' → M Dat) : Env' → M (List Dat) := fun ρ => (fa ρ).bind itemsD
noncomputable def iSeq (K : PySem.W.Frag) (tl : TE) : TI := fun σ H R => tl σ H fun x H1 => ∃ a, x = .ref a ∧ ((∃ xs, SqL K H1 a xs) ∧ R (Itl K a) H1 ∨ (∃ xs, SqT K H1 a xs) ∧ R (Itt K a) H1)
theorem iter_list {K : PySem.W.Frag} {F : Hp} {a : Addr} {xs : List V} {ds : List Dat} (t : SqL K F a xs) (z : Deeps K F ds xs) : IterD K F (Itl K a) ds where
  go := fun i F' H' s1 s2 hi => ⟨xs, xs[i]'(by rw [z.length]; exact hi), s2.lst (s1.lst t), by simp [z.length, hi]⟩
  yl := fun i F' H' x H2 d s1 s2 hd hy => by
    obtain ⟨e, hy⟩ := hy
    subst e
    obtain ⟨v, e1, q⟩ := z.get hd
    have e2 := hy xs (s2.lst (s1.lst t))
    rw [e1] at e2
    cases e2
    exact ⟨F', Step.refl s2, q.mono s1⟩
  st := fun F' H' s1 s2 => ⟨xs, s2.lst (s1.lst t), by rw [z.length]; exact Nat.le_refl _⟩
theorem iter_tup {K : PySem.W.Frag} {F : Hp} {a : Addr} {xs : List V} {ds : List Dat} (t : SqT K F a xs) (z : Deeps K F ds xs) : IterD K F (Itt K a) ds where
  go := fun i F' H' s1 s2 hi => ⟨xs, xs[i]'(by rw [z.length]; exact hi), s2.tup (s1.tup t), by simp [z.length, hi]⟩
  yl := fun i F' H' x H2 d s1 s2 hd hy => by
    obtain ⟨e, hy⟩ := hy
    subst e
    obtain ⟨v, e1, q⟩ := z.get hd
    have e2 := hy xs (s2.tup (s1.tup t))
    rw [e1] at e2
    cases e2
    exact ⟨F', Step.refl s2, q.mono s1⟩
  st := fun F' H' s1 s2 => ⟨xs, s2.tup (s1.tup t), by rw [z.length]; exact Nat.le_refl _⟩
noncomputable def rangeL (lo : Int) (n : Nat) : List Dat := (List.range n).map fun k : Nat => Dat.int (lo + k)
theorem iter_range {K : PySem.W.Frag} {F : Hp} {lo : Int} {n : Nat} : IterD K F (Itr lo n) (rangeL lo n) where
  go := fun i F' H' s1 s2 hi => by show i < n; simpa [rangeL] using hi
  yl := fun i F' H' x H2 d s1 s2 hd hy => by
    obtain ⟨e, hy⟩ := hy
    subst e hy
    unfold rangeL at hd
    rw [List.getElem?_map] at hd
    have hi : i < n := by
      have := (List.getElem?_eq_some_iff.mp (show ((List.range n).map fun k : Nat => Dat.int (lo + k))[i]? = some d by rw [List.getElem?_map]; exact hd)).1
      simpa using this
    rw [List.getElem?_range hi] at hd
    cases hd
    exact ⟨F', Step.refl s2, rfl⟩
  st := fun F' H' s1 s2 => by show n ≤ _; simp [rangeL]
noncomputable def small62 (i : Int) : Bool := decide (-(2 ^ 62) ≤ i) && decide (i < 2 ^ 62)
noncomputable def rng1 : List Dat → M (List Dat)
  | [.int j] => if small62 j = true then .ok (rangeL 0 j.toNat) else .error .stuck
  | _ => .error .stuck
noncomputable def rng2 : List Dat → M (List Dat)
  | [.int i, .int j] => if (small62 i && small62 j) = true then .ok (rangeL i (j - i).toNat) else .error .stuck
  | _ => .error .stuck
noncomputable def fRng (g : List Dat → M (List Dat)) (fr : Env' → M (List Dat)) : Env' → M (List Dat) := fun ρ => (fr ρ).bind g
section
variable {K : PySem.W.Frag} {W : Wish} {own : Bool} {σ : St} {H : Hp} {Q : VK} {fa fb fc : Env' → M Dat}
theorem ri_seq {R : It → Hp → Prop} (h : iD K W (fIt fa) σ H R) : iSeq K (tD K W false fa) σ H R := by
  obtain ⟨F, ρ, r, s, p⟩ := h
  refine tD_run r s (fun e he => ?_) fun a ha x F1 H1 s1 q1 => ?_
  · have z : fIt fa ρ = .error e := by unfold fIt; rw [he]; rfl
    rw [z] at p; exact p
  · have z : fIt fa ρ = itemsD a := by unfold fIt; rw [ha]; rfl
    rw [z] at p
    cases a with
    | lst ds =>
      obtain ⟨b, xs, e, t, z⟩ := q1
      exact ⟨b, e, .inl ⟨⟨xs, s1.fh.lst t⟩, p _ F1 H1 s1 (iter_list t z)⟩⟩
    | tup ds =>
      obtain ⟨b, xs, e, t, z⟩ := q1
      exact ⟨b, e, .inr ⟨⟨xs, s1.fh.tup t⟩, p _ F1 H1 s1 (iter_tup t z)⟩⟩
    | _ => exact (W.ns p).elim
theorem ri_rng1 {fr : Env' → M (List Dat)} {R : It → Hp → Prop} (h : iD K W (fRng rng1 fr) σ H R) : iRng1 (tDA K W fr) σ H R := by
  obtain ⟨F, ρ, r, s, p⟩ := h
  refine tDA_run r s (fun e he => ?_) fun ds hd xs F1 H1 s1 q1 => ?_
  · have z : fRng rng1 fr ρ = .error e := by unfold fRng; rw [he]; rfl
    rw [z] at p; exact p
  · have z : fRng rng1 fr ρ = rng1 ds := by unfold fRng; rw [hd]; rfl
    rw [z] at p
    match ds, q1, p with
    | [.int j], ⟨v, vs, e, q, t⟩, p =>
      have p' : match (if small62 j = true then Except.ok (rangeL 0 j.toNat) else Except.error Err.stuck : M (List Dat)) with
        | .ok ds => ∀ J F1 H1, Step F H F1 H1 → IterD K F1 J ds → R J H1
        | .error e => W.p e F H := p
      by_cases hj : small62 j = true
      · rw [if_pos hj] at p'
        unfold small62 at hj
        simp only [Bool.and_eq_true, decide_eq_true_eq] at hj
        exact ⟨j, by rw [e, show v = .int j from q, show vs = [] from t], hj.1, hj.2, p' _ F1 H1 s1 iter_range⟩
      · rw [if_neg hj] at p'
        exact (W.ns p').elim
    | [], _, p => exact (W.ns p).elim
    | .non :: _, _, p => exact (W.ns p).elim
    | .bl _ :: _, _, p => exact (W.ns p).elim
    | .str _ :: _, _, p => exact (W.ns p).elim
    | .tup _ :: _, _, p => exact (W.ns p).elim
    | .lst _ :: _, _, p => exact (W.ns p).elim
    | .ins _ _ :: _, _, p => exact (W.ns p).elim
    | .dic _ :: _, _, p => exact (W.ns p).elim
    | .int _ :: _ :: _, _, p => exact (W.ns p).elim
noncomputable def inSE (ix : List (Option Nat)) (ρ : Env') : Env' := ix.map fun o => match o with
  | none => none
  | some j => (ρ[j]?).join
noncomputable def compD (p : Pat) (ft : Env' → M Bool) (fe : Env' → M Dat) (ρ0 : Env') : List Dat → M (List Dat)
  | [] => .ok []
  | d :: ds => (bindP p d ρ0).bind fun ρ => (ft ρ).bind fun b => if b = true then (fe ρ).bind fun y => (compD p ft fe ρ0 ds).bind fun r => .ok (y :: r) else compD p ft fe ρ0 ds
noncomputable def fComp (fi : Env' → M (List Dat)) (ix : List (Option Nat)) (p : Pat) (ft : Env' → M Bool) (fe : Env' → M Dat) : Env' → M Dat := fun ρ => (fi ρ).bind fun ds => if ds.length ≤ sizeLine then (compD p ft fe (inSE ix ρ) ds).bind fun r => .ok (.lst r) else .error .stuck
noncomputable def fYes : Env' → M Bool := fun _ => .ok true
theorem RepE.inS {F : Hp} {ρ : Env'} (r : RepE K F σ ρ) (ix : List (Option Nat)) : RepE K F (L2.inS ix σ) (inSE ix ρ) :=
  ⟨by simp [L2.inS, inSE], fun i d e => by
    unfold inSE at e
    unfold L2.inS
    rw [List.getElem?_map] at e ⊢
    cases h : ix[i]? with
    | none => rw [h] at e; cases e
    | some o =>
      rw [h] at e
      cases o with
      | none => cases e
      | some j =>
        simp only [Option.map_some, Option.some.injEq] at e ⊢
        have e1 : ρ[j]? = some (some d) := by
          cases z : ρ[j]? with
          | none => rw [z] at e; cases e
          | some w => rw [z] at e; simp at e; rw [e]
        obtain ⟨v, h1, h2⟩ := r.sl j d e1
        exact ⟨v, by rw [h1]; rfl, h2⟩⟩
theorem rd_comp {fi : Env' → M (List Dat)} {ix : List (Option Nat)} {p : Pat} {ft : Env' → M Bool} {fe : Env' → M Dat} (h : tD K W true (fComp fi ix p ft fe) σ H Q) :
    tComp (iD K W fi) ix (gP K p) (tDT K W ft) (tD K W false fe) σ H Q := by
  obtain ⟨F, ρ, r, s, q⟩ := h
  refine ⟨F, ρ, r, s, ?_⟩
  cases hf : fi ρ with
  | error e => exact q.err (by unfold fComp; rw [hf]; rfl)
  | ok ds =>
    intro J F1 H1 s1 it
    have e0 : fComp fi ix p ft fe ρ = if ds.length ≤ sizeLine then (compD p ft fe (inSE ix ρ) ds).bind fun r => .ok (.lst r) else .error .stuck := by unfold fComp; rw [hf]; rfl
    rw [e0] at q
    by_cases hl : ds.length ≤ sizeLine
    · rw [if_pos hl] at q
      refine ⟨fun i m ys H2 => m = ds.length - i ∧ i ≤ ds.length ∧ ∃ F2 yd, Step F1 H1 F2 H2 ∧ Deeps K F2 yd ys ∧ yd.length ≤ i ∧
        (match compD p ft fe (inSE ix ρ) (ds.drop i) with
          | .ok rr => compD p ft fe (inSE ix ρ) ds = .ok (yd ++ rr)
          | .error e => W.p e F H), ⟨ds.length, by omega, Nat.zero_le _, F1, [], Step.refl s1.fh, rfl, Nat.zero_le _, ?_⟩, ?_⟩
      · rw [List.drop_zero]
        cases e : compD p ft fe (inSE ix ρ) ds with
        | ok rr => rfl
        | error x => exact q.err (by rw [e]; rfl)
      · rintro i m ys H2 ⟨rfl, hi, F2, yd, s2, dy, ly, hc⟩
        have lys : ys.length ≤ sizeLine := by rw [dy.length]; omega
        by_cases hlt : i < ds.length
        · have ed : ds.drop i = ds[i] :: ds.drop (i + 1) := List.drop_eq_getElem_cons hlt
          rw [ed] at hc
          refine .inr ⟨it.go i F2 H2 s2.ff s2.fh hlt, lys, fun ys' H' => (i + 1 ≤ ds.length ∧ ∃ F2 yd, Step F1 H1 F2 H' ∧ Deeps K F2 yd ys' ∧ yd.length ≤ i + 1 ∧
            (match compD p ft fe (inSE ix ρ) (ds.drop (i + 1)) with
              | .ok rr => compD p ft fe (inSE ix ρ) ds = .ok (yd ++ rr)
              | .error e => W.p e F H)), fun ys' H' n => ⟨ds.length - (i + 1), by omega, rfl, n⟩, fun x H' y => ?_⟩
          obtain ⟨F3, s3, q3⟩ := it.yl i F2 H2 x H' ds[i] s2.ff s2.fh (by simp [hlt]) y
          have r3 : RepE K F3 (L2.inS ix σ) (inSE ix ρ) := (r.mono (s1.trans (s2.trans s3)).ff).inS ix
          have st3 : Step F H F3 H' := s1.trans (s2.trans s3)
          have ec : compD p ft fe (inSE ix ρ) (ds[i] :: ds.drop (i + 1)) = (bindP p ds[i] (inSE ix ρ)).bind fun ρ1 => (ft ρ1).bind fun b => if b = true then (fe ρ1).bind fun y => (compD p ft fe (inSE ix ρ) (ds.drop (i + 1))).bind fun r => .ok (y :: r) else compD p ft fe (inSE ix ρ) (ds.drop (i + 1)) := by rw [compD]
          rw [ec] at hc
          cases hb : bindP p ds[i] (inSE ix ρ) with
          | error e =>
            rw [hb] at hc
            have := bindP_err hb
            subst this
            exact (W.ns hc).elim
          | ok ρ1 =>
            rw [hb] at hc
            refine gP_run r3 s3.fh q3 hb fun σ2 r4 => ?_
            have hc1 : match ((ft ρ1).bind fun b => if b = true then (fe ρ1).bind fun y => (compD p ft fe (inSE ix ρ) (ds.drop (i + 1))).bind fun r => .ok (y :: r) else compD p ft fe (inSE ix ρ) (ds.drop (i + 1))) with
              | .ok rr => compD p ft fe (inSE ix ρ) ds = .ok (yd ++ rr)
              | .error e => W.p e F H := hc
            refine tDT_run r4 s3.fh (fun e he => by rw [he] at hc1; exact W.mono hc1 st3) fun b hb2 F5 H5 s5 => ?_
            rw [hb2] at hc1
            cases b with
            | false =>
              have hc2 : match compD p ft fe (inSE ix ρ) (ds.drop (i + 1)) with
                | .ok rr => compD p ft fe (inSE ix ρ) ds = .ok (yd ++ rr)
                | .error e => W.p e F H := hc1
              exact ⟨hlt, F5, yd, s2.trans (s3.trans s5), dy.mono (s3.trans s5).ff, by omega, hc2⟩
            | true =>
              have hc2 : match ((fe ρ1).bind fun y => (compD p ft fe (inSE ix ρ) (ds.drop (i + 1))).bind fun r => .ok (y :: r)) with
                | .ok rr => compD p ft fe (inSE ix ρ) ds = .ok (yd ++ rr)
                | .error e => W.p e F H := hc1
              refine tD_run (r4.mono s5.ff) s5.fh (fun e he => by rw [he] at hc2; exact W.mono hc2 (st3.trans s5)) fun d hd v F6 H6 s6 q6 => ?_
              rw [hd] at hc2
              refine ⟨hlt, F6, yd ++ [d], s2.trans (s3.trans (s5.trans s6)), Deeps.append (dy.mono (s3.trans (s5.trans s6)).ff) ⟨v, [], rfl, q6, rfl⟩, by simp; omega, ?_⟩
              have hc3 : match ((compD p ft fe (inSE ix ρ) (ds.drop (i + 1))).bind fun r => .ok (d :: r) : M (List Dat)) with
                | .ok rr => compD p ft fe (inSE ix ρ) ds = .ok (yd ++ rr)
                | .error e => W.p e F H := hc2
              cases e7 : compD p ft fe (inSE ix ρ) (ds.drop (i + 1)) with
              | ok rr =>
                rw [e7] at hc3
                show _ = Except.ok ((yd ++ [d]) ++ rr)
                rw [List.append_assoc]
                exact hc3
              | error x => rw [e7] at hc3; exact hc3
        · have : i = ds.length := by omega
          subst this
          rw [List.drop_length] at hc
          have hc' : compD p ft fe (inSE ix ρ) ds = .ok (yd ++ []) := hc
          rw [List.append_nil] at hc'
          rw [hc'] at q
          refine .inl ⟨it.st F2 H2 s2.ff s2.fh, lys, fun a ha => ?_⟩
          have st : Step F H F2 H2 := s1.trans s2
          exact q (.ref a) F2 _ (st.trans (Step.grow s2.fh ha)) ⟨a, ys, rfl, upd_same, s2.fh.free ha, st.hh.free ha, dy⟩
    · rw [if_neg hl] at q
      exact (W.ns q).elim
end
inductive Flo where
  | nx (ρ : Env') | rt (d : Dat) | bk (ρ : Env') | ct (ρ : Env')
structure Rep (K : PySem.W.Frag) (F0 H0 FB : Hp) (O : List Nat) (F H : Hp) (σ : St) (ρ : Env') : Prop where
  st : Step F0 H0 F H
  fb : Same FB F
  len : ρ.length = σ.length
  fz : ∀ (i : Nat) (d : Dat), ρ[i]? = some (some d) → i ∉ O → ∃ v, σ[i]? = some (some v) ∧ Deep K F d v
  ow : ∀ (i : Nat) (d : Dat), ρ[i]? = some (some d) → i ∈ O → ∃ v, σ[i]? = some (some v) ∧ OwnD K F H0 H d v
  ap : ∀ (i j : Nat) (d e : Dat) (a : Addr), i ∈ O → j ∈ O → (ρ[i]? = some (some d) ∧ isO d = true) → (ρ[j]? = some (some e) ∧ isO e = true) → σ[i]? = some (some (.ref a)) → σ[j]? = some (some (.ref a)) → i = j
noncomputable def Own' (O O2 : List Nat) (σ : St) (ρ : Env') (b : Addr) : Prop := ∃ (i : Nat) (d : Dat), i ∈ O ∧ i ∉ O2 ∧ isO d = true ∧ ρ[i]? = some (some d) ∧ σ[i]? = some (some (.ref b))
open Classical in
noncomputable def plus (F H : Hp) (A : Addr → Prop) : Hp := fun b => if A b then H b else F b
open Classical in
noncomputable def minus (F : Hp) (A : Addr → Prop) : Hp := fun b => if A b then none else F b
theorem plus_in {F H : Hp} {A : Addr → Prop} {b : Addr} (h : A b) : plus F H A b = H b := by unfold plus; rw [if_pos h]
theorem plus_out {F H : Hp} {A : Addr → Prop} {b : Addr} (h : ¬ A b) : plus F H A b = F b := by unfold plus; rw [if_neg h]
theorem minus_in {F : Hp} {A : Addr → Prop} {b : Addr} (h : A b) : minus F A b = none := by unfold minus; rw [if_pos h]
theorem minus_out {F : Hp} {A : Addr → Prop} {b : Addr} (h : ¬ A b) : minus F A b = F b := by unfold minus; rw [if_neg h]
section
variable {K : PySem.W.Frag} {F0 H0 FB F H : Hp} {O O2 : List Nat} {σ : St} {ρ : Env'}
theorem Rep.own (r : Rep K F0 H0 FB O F H σ ρ) {b : Addr} (h : Own' O O2 σ ρ b) : F b = none ∧ H0 b = none ∧ ∃ o, H b = some o ∧ isMu o = true := by
  obtain ⟨i, d, hi, _, hd, e1, e2⟩ := h
  obtain ⟨v, e3, q⟩ := r.ow i _ e1 hi
  rw [e2] at e3
  cases e3
  obtain ⟨a, o, e, p, m, f, z⟩ := q.top hd
  cases e
  exact ⟨f, z, o, p, m⟩
theorem Rep.plus_ff (r : Rep K F0 H0 FB O F H σ ρ) : Same F (plus F H (Own' O O2 σ ρ)) := fun b o h => by
  by_cases hb : Own' O O2 σ ρ b
  · rw [(r.own hb).1] at h; cases h
  · rw [plus_out hb]; exact h
theorem Rep.plus_fh (r : Rep K F0 H0 FB O F H σ ρ) : Same (plus F H (Own' O O2 σ ρ)) H := fun b o h => by
  by_cases hb : Own' O O2 σ ρ b
  · rw [plus_in hb] at h; exact h
  · rw [plus_out hb] at h; exact r.st.fh b o h
theorem Rep.freeze (r : Rep K F0 H0 FB O F H σ ρ) (hs : ∀ i ∈ O2, i ∈ O) : Rep K F0 H0 FB O2 (plus F H (Own' O O2 σ ρ)) H σ ρ where
  st := ⟨r.st.ff.trans r.plus_ff, r.st.hh, r.plus_fh, fun b o h => by
    by_cases hb : Own' O O2 σ ρ b
    · exact .inr (r.own hb).2.1
    · rw [plus_out hb] at h; exact r.st.nw b o h⟩
  fb := r.fb.trans r.plus_ff
  len := r.len
  fz := fun i d e hi => by
    by_cases ho : i ∈ O
    · obtain ⟨v, e3, q⟩ := r.ow i d e ho
      refine ⟨v, e3, ?_⟩
      cases hd : isO d with
      | true =>
        obtain ⟨a, _, ev, _⟩ := q.top hd
        subst ev
        exact q.give hd r.plus_ff (plus_in ⟨i, d, ho, hi, hd, e, e3⟩)
      | false => rw [OwnD.non hd] at q; exact q.mono r.plus_ff
    · obtain ⟨v, e3, q⟩ := r.fz i d e ho
      exact ⟨v, e3, q.mono r.plus_ff⟩
  ow := fun i d e hi => by
    obtain ⟨v, e3, q⟩ := r.ow i d e (hs i hi)
    refine ⟨v, e3, ?_⟩
    cases hd : isO d with
    | true =>
      obtain ⟨a, o, ev, p, _, f, z⟩ := q.top hd
      subst ev
      refine q.re hd r.plus_ff ?_ fun _ h => h
      have : ¬ Own' O O2 σ ρ a := fun ⟨j, d', hj, hj2, hd', f1, f2⟩ => by
        have := r.ap i j d d' a (hs i hi) hj ⟨e, hd⟩ ⟨f1, hd'⟩ e3 f2
        subst this
        exact hj2 hi
      rw [plus_out this]
      exact f
    | false => rw [OwnD.non hd] at q ⊢; exact q.mono r.plus_ff
  ap := fun i j d e a hi hj => r.ap i j d e a (hs i hi) (hs j hj)
theorem Rep.repE (r : Rep K F0 H0 FB [] F H σ ρ) : RepE K F σ ρ := ⟨r.len, fun i d e => r.fz i d e (by simp)⟩
theorem Rep.repAll (r : Rep K F0 H0 FB O F H σ ρ) : RepE K (plus F H (Own' O [] σ ρ)) σ ρ := (r.freeze (O2 := []) (by simp)).repE
noncomputable def erase : List Nat → Env' → Env'
  | [], ρ => ρ
  | i :: is, ρ => erase is (ρ.set i none)
theorem erase_len : ∀ (O : List Nat) (ρ : Env'), (erase O ρ).length = ρ.length
  | [], _ => rfl
  | i :: is, ρ => by rw [erase, erase_len, List.length_set]
theorem erase_get : ∀ (O : List Nat) (ρ : Env') (i : Nat) (d : Dat), (erase O ρ)[i]? = some (some d) → ρ[i]? = some (some d) ∧ i ∉ O
  | [], _, _, _, h => ⟨h, by simp⟩
  | j :: is, ρ, i, d, h => by
    obtain ⟨h1, h2⟩ := erase_get is (ρ.set j none) i d h
    by_cases e : j = i
    · subst e
      have hj : j < ρ.length := by
        have := (List.getElem?_eq_some_iff.mp h1).1
        simpa using this
      rw [List.getElem?_set_self hj] at h1
      cases h1
    · rw [List.getElem?_set_ne e] at h1
      exact ⟨h1, by simp [h2]; omega⟩
theorem Rep.repErase (r : Rep K F0 H0 FB O F H σ ρ) : RepE K F σ (erase O ρ) :=
  ⟨by rw [erase_len, r.len], fun i d e => let ⟨h1, h2⟩ := erase_get O ρ i d e; r.fz i d h1 h2⟩
theorem Rep.step {F1 H1 : Hp} (r : Rep K F0 H0 FB O F H σ ρ) (s : Step F H F1 H1) : Rep K F0 H0 FB O F1 H1 σ ρ where
  st := r.st.trans s
  fb := r.fb.trans s.ff
  len := r.len
  fz := fun i d e hi => let ⟨v, e3, q⟩ := r.fz i d e hi; ⟨v, e3, q.mono s.ff⟩
  ow := fun i d e hi => by
    obtain ⟨v, e3, q⟩ := r.ow i d e hi
    refine ⟨v, e3, ?_⟩
    cases hd : isO d with
    | true =>
      obtain ⟨a, u, ev, p, _, f, z⟩ := q.top hd
      subst ev
      refine q.re hd s.ff ?_ (s.hh a)
      cases e1 : F1 a with
      | none => rfl
      | some o =>
        rcases s.nw a o e1 with h | h
        · rw [f] at h; cases h
        · rw [p] at h; cases h
    | false => rw [OwnD.non hd] at q ⊢; exact q.mono s.ff
  ap := r.ap
theorem Rep.stepAll {F1 H1 : Hp} (r : Rep K F0 H0 FB O F H σ ρ) (s : Step (plus F H (Own' O [] σ ρ)) H F1 H1) : Rep K F0 H0 FB O (minus F1 (Own' O [] σ ρ)) H1 σ ρ := by
  refine r.step ⟨fun b o h => ?_, s.hh, fun b o h => ?_, fun b o h => ?_⟩
  · by_cases hb : Own' O [] σ ρ b
    · rw [(r.own hb).1] at h; cases h
    · rw [minus_out hb]; exact s.ff b o (by rw [plus_out hb]; exact h)
  · by_cases hb : Own' O [] σ ρ b
    · rw [minus_in hb] at h; cases h
    · rw [minus_out hb] at h; exact s.fh b o h
  · by_cases hb : Own' O [] σ ρ b
    · rw [minus_in hb] at h; cases h
    · rw [minus_out hb] at h
      rcases s.nw b o h with z | z
      · rw [plus_out hb] at z; exact .inl z
      · exact .inr z
theorem Rep.minusT {F1 H1 : Hp} (r : Rep K F0 H0 FB O F H σ ρ) (s : Step (plus F H (Own' O [] σ ρ)) H F1 H1) (a : Addr) (xs : List V) (h : SqT K F1 a xs) : SqT K (minus F1 (Own' O [] σ ρ)) a xs := by
  have key : ∀ {b : Addr} {o : HO}, F1 b = some o → isMu o = false → minus F1 (Own' O [] σ ρ) b = some o := fun {b o} h n => by
    by_cases hb : Own' O [] σ ρ b
    · obtain ⟨_, _, u, e, m⟩ := r.own hb
      have := s.ff b u (by rw [plus_in hb]; exact e)
      rw [h] at this
      cases this
      rw [n] at m
      cases m
    · rw [minus_out hb]; exact h
  rcases h with (h | ⟨o, h⟩) | h
  · exact .inl (.inl (key h rfl))
  · exact .inl (.inr ⟨o, key h rfl⟩)
  · exact .inr h
theorem Rep.set {d : Dat} {v : V} (r : Rep K F0 H0 FB O F H σ ρ) (q : Deep K F d v) (i : Nat) : Rep K F0 H0 FB (O.filter (· != i)) F H (σ.set i (some v)) (ρ.set i (some d)) where
  st := r.st
  fb := r.fb
  len := by rw [List.length_set, List.length_set, r.len]
  fz := fun j e h hj => by
    by_cases hij : i = j
    · subst hij
      have hi : i < ρ.length := by
        have := (List.getElem?_eq_some_iff.mp h).1
        simpa using this
      rw [List.getElem?_set_self hi] at h
      cases h
      exact ⟨v, by rw [List.getElem?_set_self (by rw [← r.len]; exact hi)], q⟩
    · rw [List.getElem?_set_ne hij] at h
      rw [List.getElem?_set_ne hij]
      exact r.fz j e h fun z => hj (List.mem_filter.mpr ⟨z, by simpa using Ne.symm hij⟩)
  ow := fun j e h hj => by
    obtain ⟨h1, h2⟩ := List.mem_filter.mp hj
    have hij : i ≠ j := fun z => by simp [z] at h2
    rw [List.getElem?_set_ne hij] at h ⊢
    exact r.ow j e h h1
  ap := fun j k ds es a hj hk e1 e2 e3 e4 => by
    obtain ⟨j1, j2⟩ := List.mem_filter.mp hj
    obtain ⟨k1, k2⟩ := List.mem_filter.mp hk
    have hij : i ≠ j := fun z => by simp [z] at j2
    have hik : i ≠ k := fun z => by simp [z] at k2
    rw [List.getElem?_set_ne hij] at e1 e3
    rw [List.getElem?_set_ne hik] at e2 e4
    exact r.ap j k ds es a j1 k1 e1 e2 e3 e4
theorem Rep.setOwn {d : Dat} {v : V} (r : Rep K F0 H0 FB O F H σ ρ) (q : OwnD K F H0 H d v) (nw : ∀ a, v = .ref a → isO d = true → ¬ Own' O [i] σ ρ a) : Rep K F0 H0 FB (i :: O.filter (· != i)) F H (σ.set i (some v)) (ρ.set i (some d)) where
  st := r.st
  fb := r.fb
  len := by rw [List.length_set, List.length_set, r.len]
  fz := fun j e h hj => by
    simp only [List.mem_cons, not_or] at hj
    have hij : i ≠ j := fun z => hj.1 z.symm
    rw [List.getElem?_set_ne hij] at h ⊢
    exact r.fz j e h fun z => hj.2 (List.mem_filter.mpr ⟨z, by simpa using Ne.symm hij⟩)
  ow := fun j e h hj => by
    by_cases hij : i = j
    · subst hij
      have hi : i < ρ.length := by
        have := (List.getElem?_eq_some_iff.mp h).1
        simpa using this
      rw [List.getElem?_set_self hi] at h
      cases h
      exact ⟨v, by rw [List.getElem?_set_self (by rw [← r.len]; exact hi)], q⟩
    · rw [List.getElem?_set_ne hij] at h ⊢
      rcases List.mem_cons.mp hj with z | z
      · exact absurd z.symm hij
      · exact r.ow j e h (List.mem_filter.mp z).1
  ap := fun j k ds es a hj hk e1 e2 e3 e4 => by
    have key : ∀ {k' : Nat} {ds' es' : Dat}, k' ∈ O → k' ≠ i → ((ρ.set i (some d))[i]? = some (some ds') ∧ isO ds' = true) → ((ρ.set i (some d))[k']? = some (some es') ∧ isO es' = true) → (σ.set i (some v))[i]? = some (some (.ref a)) → (σ.set i (some v))[k']? = some (some (.ref a)) → False := by
      intro k' ds' es' hk' hne f1 f2 f3 f4
      have hi : i < ρ.length := by
        have := (List.getElem?_eq_some_iff.mp f1.1).1
        simpa using this
      rw [List.getElem?_set_self hi] at f1
      rw [List.getElem?_set_self (by rw [← r.len]; exact hi)] at f3
      rw [List.getElem?_set_ne (Ne.symm hne)] at f2 f4
      have z1 : v = .ref a := by simpa using f3
      have z2 : d = ds' := by simpa using f1.1
      exact nw a z1 (z2 ▸ f1.2) ⟨k', es', hk', by simpa using hne, f2.2, f2.1, f4⟩
    rcases List.mem_cons.mp hj with zj | zj
    · rcases List.mem_cons.mp hk with zk | zk
      · rw [zj, zk]
      · obtain ⟨k1, k2⟩ := List.mem_filter.mp zk
        subst zj
        exact (key k1 (by simpa using k2) e1 e2 e3 e4).elim
    · obtain ⟨j1, j2⟩ := List.mem_filter.mp zj
      have hij : i ≠ j := fun z => by simp [z] at j2
      rcases List.mem_cons.mp hk with zk | zk
      · subst zk
        exact (key j1 (Ne.symm hij) e2 e1 e4 e3).elim
      · obtain ⟨k1, k2⟩ := List.mem_filter.mp zk
        have hik : i ≠ k := fun z => by simp [z] at k2
        rw [List.getElem?_set_ne hij] at e1 e3
        rw [List.getElem?_set_ne hik] at e2 e4
        exact r.ap j k ds es a j1 k1 e1 e2 e3 e4
end
section
variable {K : PySem.W.Frag} {F0 H0 FB F H : Hp} {O O2 : List Nat} {σ : St} {ρ : Env'}
theorem Rep.stepAll_ff {F1 H1 : Hp} (r : Rep K F0 H0 FB O F H σ ρ) (s : Step (plus F H (Own' O [] σ ρ)) H F1 H1) : Same F (minus F1 (Own' O [] σ ρ)) := fun b o h => by
  by_cases hb : Own' O [] σ ρ b
  · rw [(r.own hb).1] at h; cases h
  · rw [minus_out hb]; exact s.ff b o (by rw [plus_out hb]; exact h)
theorem filter_out {i : Nat} {O : List Nat} (h : i ∉ O) : O.filter (· != i) = O := by
  rw [List.filter_eq_self]
  intro a ha
  simp
  intro e
  exact h (e ▸ ha)
theorem Rep.set' {d : Dat} {v : V} (r : Rep K F0 H0 FB O F H σ ρ) (q : Deep K F d v) {i : Nat} (hi : i ∉ O) : Rep K F0 H0 FB O F H (σ.set i (some v)) (ρ.set i (some d)) := by
  have := r.set q i
  rw [filter_out hi] at this
  exact this
theorem Rep.base {FB' : Hp} (r : Rep K F0 H0 FB O F H σ ρ) (s : Same FB' FB) : Rep K F0 H0 FB' O F H σ ρ := ⟨r.st, s.trans r.fb, r.len, r.fz, r.ow, r.ap⟩
theorem Rep.writeO {i : Nat} {a : Addr} {d d' : Dat} {u : HO} (r : Rep K F0 H0 FB O F H σ ρ) (hi : i ∈ O) (e1 : ρ[i]? = some (some d)) (hd : isO d = true) (e2 : σ[i]? = some (some (.ref a))) (q : F a = none → H0 a = none → OwnD K F H0 (upd H a u) d' (.ref a)) : Rep K F0 H0 FB O F (upd H a u) σ (ρ.set i (some d')) := by
  have ho : F a = none ∧ H0 a = none ∧ ∃ o, H a = some o ∧ isMu o = true := r.own (O2 := []) ⟨i, d, hi, by simp, hd, e1, e2⟩
  have hil : i < ρ.length := (List.getElem?_eq_some_iff.mp e1).1
  refine ⟨⟨r.st.ff, fun b o h => ?_, fun b o h => ?_, r.st.nw⟩, r.fb, by rw [List.length_set, r.len], fun j e h hj => ?_, fun j e h hj => ?_, fun j k es fs b hj hk f1 f2 f3 f4 => ?_⟩
  · rw [upd_ne (ne_of_none h ho.2.1)]; exact r.st.hh b o h
  · rw [upd_ne (ne_of_none h ho.1)]; exact r.st.fh b o h
  · have hij : i ≠ j := fun z => hj (z ▸ hi)
    rw [List.getElem?_set_ne hij] at h
    exact r.fz j e h hj
  · by_cases hij : i = j
    · subst hij
      rw [List.getElem?_set_self hil] at h
      cases h
      exact ⟨.ref a, e2, q ho.1 ho.2.1⟩
    · rw [List.getElem?_set_ne hij] at h
      obtain ⟨v, e3, z⟩ := r.ow j e h hj
      refine ⟨v, e3, ?_⟩
      cases he : isO e with
      | true =>
        obtain ⟨b, o, ev, p, _, f, _⟩ := z.top he
        subst ev
        have hab : b ≠ a := fun z => by
          subst z
          exact hij (r.ap i j d e b hi hj ⟨e1, hd⟩ ⟨h, he⟩ e2 e3)
        exact z.re he (Same.refl _) f fun o h => by rw [upd_ne hab]; exact h
      | false => rw [OwnD.non he] at z ⊢; exact z
  · have fix : ∀ {j : Nat} {e : Dat}, ((ρ.set i (some d'))[j]? = some (some e) ∧ isO e = true) → ∃ e', ρ[j]? = some (some e') ∧ isO e' = true := fun {j e} f => by
      by_cases hij : i = j
      · subst hij; exact ⟨d, e1, hd⟩
      · rw [List.getElem?_set_ne hij] at f; exact ⟨e, f⟩
    obtain ⟨es', g1⟩ := fix f1
    obtain ⟨fs', g2⟩ := fix f2
    exact r.ap j k es' fs' b hj hk g1 g2 f3 f4
theorem Rep.write {i : Nat} {a : Addr} {ds ds' : List Dat} {xs' : List V} (r : Rep K F0 H0 FB O F H σ ρ) (hi : i ∈ O) (e1 : ρ[i]? = some (some (.lst ds))) (e2 : σ[i]? = some (some (.ref a))) (q : Deeps K F ds' xs') : Rep K F0 H0 FB O F (upd H a (.lst xs')) σ (ρ.set i (some (.lst ds'))) :=
  r.writeO hi e1 rfl e2 fun f z => ⟨a, xs', rfl, upd_same, f, z, q⟩
noncomputable def Pat.names : Pat → List Nat
  | .nm i => [i]
  | .tp is => is
theorem gNames_rep {R : St → Hp → Prop} : ∀ {is : List Nat} {ds : List Dat} {vs : List V} {σ : St} {ρ : Env'}, Rep K F0 H0 FB O F H σ ρ → (∀ i ∈ is, i ∉ O) → Deeps K F ds vs → ds.length = is.length → (∀ σ', Rep K F0 H0 FB O F H σ' (setAll is ds ρ) → R σ' H) → gNames is vs σ H R
  | [], [], _, σ, ρ, r, _, q, _, h => ⟨q, h σ r⟩
  | [], _ :: _, _, _, _, _, _, _, e, _ => by simp at e
  | _ :: _, [], _, _, _, _, _, _, e, _ => by simp at e
  | i :: is, d :: ds, _, σ, ρ, r, n, ⟨v, vs, e, q, t⟩, l, h => ⟨v, vs, e, gNames_rep (r.set' q (n i (by simp))) (fun j hj => n j (by simp [hj])) t (by simpa using l) h⟩
theorem gP_rep {R : St → Hp → Prop} {p : Pat} {d : Dat} {v : V} {ρ' : Env'} (r : Rep K F0 H0 FB O F H σ ρ) (n : ∀ i ∈ p.names, i ∉ O) (q : Deep K F d v) (e : bindP p d ρ = .ok ρ') (h : ∀ σ', Rep K F0 H0 FB O F H σ' ρ' → R σ' H) : gP K p v σ H R := by
  cases p with
  | nm i =>
    have := Except.ok.inj e
    subst this
    exact h _ (r.set' q (n i (by simp [Pat.names])))
  | tp is =>
    cases d with
    | tup ds =>
      have e' : (if ds.length = is.length then Except.ok (setAll is ds ρ) else Except.error Err.stuck) = Except.ok ρ' := e
      by_cases hl : ds.length = is.length
      · rw [if_pos hl] at e'
        have := Except.ok.inj e'
        subst this
        obtain ⟨a, xs, ev, t, z⟩ := q
        exact ⟨a, xs, ev, r.st.fh.tup t, by rw [z.length, hl], gNames_rep r n z hl h⟩
      · rw [if_neg hl] at e'
        cases e'
    | _ => cases e
end
noncomputable def PostS (K : PySem.W.Frag) (W : Wish) (ro : Bool) (F0 H0 FB : Hp) (OL O' : List Nat) (D : Ends) (r : M Flo) : Prop := match r with
  | .ok (.nx ρ) => ∀ σ F H, Rep K F0 H0 FB O' F H σ ρ → D.nx σ H
  | .ok (.rt d) => ∀ v F H, Step F0 H0 F H → Val K ro F H0 H d v → D.rt v H
  | .ok (.bk ρ) => ∀ σ F H, Rep K F0 H0 FB OL F H σ ρ → D.bk σ H
  | .ok (.ct ρ) => ∀ σ F H, Rep K F0 H0 FB OL F H σ ρ → D.ct σ H
  | .error e => W.p e F0 H0
noncomputable def tS (K : PySem.W.Frag) (W : Wish) (ro : Bool) (F0 H0 : Hp) (OL O O' : List Nat) (g : Env' → M Flo) : TS := fun D σ H => ∃ FB F ρ, Rep K F0 H0 FB O F H σ ρ ∧ PostS K W ro F0 H0 FB OL O' D (g ρ)
noncomputable def sNext : Env' → M Flo := fun ρ => .ok (.nx ρ)
noncomputable def sSeq (g h : Env' → M Flo) : Env' → M Flo := fun ρ => (g ρ).bind fun fl => match fl with
  | .nx ρ' => h ρ'
  | fl => .ok fl
noncomputable def sIf (ft : Env' → M Bool) (g h : Env' → M Flo) : Env' → M Flo := fun ρ => (ft ρ).bind fun b => if b = true then g ρ else h ρ
noncomputable def flatTop : Bool → Dat → Bool
  | true, .lst ds => flatDs ds
  | _, d => flatD d
noncomputable def sSetA (own : Bool) (i : Nat) (f : Env' → M Dat) : Env' → M Flo := fun ρ => (f ρ).bind fun d => if flatTop own d = true then .ok (.nx (ρ.set i (some d))) else .error .stuck
noncomputable def sSetB (O : List Nat) (i : Nat) (f : Env' → M Dat) : Env' → M Flo := fun ρ => (f (erase O ρ)).bind fun d => .ok (.nx (ρ.set i (some d)))
noncomputable def lstAt (ρ : Env') (i : Nat) : M (List Dat) := match ρ[i]? with
  | some (some (.lst ds)) => .ok ds
  | _ => .error .stuck
noncomputable def put (ρ : Env') (i : Nat) (ds : List Dat) : M Flo := .ok (.nx (ρ.set i (some (.lst ds))))
noncomputable def sAppB (O : List Nat) (i : Nat) (f : Env' → M Dat) : Env' → M Flo := fun ρ => (lstAt ρ i).bind fun ds => (f (erase O ρ)).bind fun d => if ds.length < sizeLine then put ρ i (ds ++ [d]) else .error .stuck
noncomputable def asI : Dat → M Int
  | .int i => .ok i
  | _ => .error .stuck
noncomputable def sRet (f : Env' → M Dat) : Env' → M Flo := fun ρ => (f ρ).bind fun d => .ok (.rt d)
noncomputable def forD (p : Pat) (g : Env' → M Flo) : List Dat → Env' → M Flo
  | [], ρ => .ok (.nx ρ)
  | d :: ds, ρ => (bindP p d ρ).bind fun ρ1 => (g ρ1).bind fun fl => match fl with
    | .nx ρ2 => forD p g ds ρ2
    | .ct ρ2 => forD p g ds ρ2
    | .bk ρ2 => .ok (.nx ρ2)
    | .rt d => .ok (.rt d)
noncomputable def sFor (O : List Nat) (fi : Env' → M (List Dat)) (p : Pat) (g : Env' → M Flo) : Env' → M Flo := fun ρ => (fi (erase O ρ)).bind fun ds => forD p g ds ρ
section
variable {K : PySem.W.Frag} {W : Wish} {ro own : Bool} {F0 H0 FB F H : Hp} {OL O O' O2 : List Nat} {D : Ends} {σ : St} {ρ : Env'} {g h : Env' → M Flo} {f fi : Env' → M Dat} {ft : Env' → M Bool}
theorem PostS.err {x : M Flo} {e : Err} (p : PostS K W ro F0 H0 FB OL O' D x) (h : x = .error e) : W.p e F0 H0 := by rw [h] at p; exact p
theorem PostS.errAt {x : M Flo} {e : Err} (p : PostS K W ro F0 H0 FB OL O' D x) (s : Step F0 H0 F H) (h : x = .error e) : W.p e F H := W.mono (p.err h) s
theorem PostS.stuck {x : M Flo} {P : Prop} (p : PostS K W ro F0 H0 FB OL O' D x) (h : x = .error .stuck) : P := (W.ns (p.err h)).elim
theorem tS.enter (hs : ∀ i ∈ O2, i ∈ O) (t : tS K W ro F0 H0 OL O O' g D σ H) : tS K W ro F0 H0 OL O2 O' g D σ H := by
  obtain ⟨FB, F, ρ, r, p⟩ := t
  exact ⟨FB, _, ρ, r.freeze hs, p⟩
theorem rs_next (t : tS K W ro F0 H0 OL O O sNext D σ H) : tNext D σ H := by
  obtain ⟨FB, F, ρ, r, p⟩ := t
  exact p σ F H r
theorem rs_seq (t : tS K W ro F0 H0 OL O O2 (sSeq g h) D σ H) : tSeq (tS K W ro F0 H0 OL O O' g) (tS K W ro F0 H0 OL O' O2 h) D σ H := by
  obtain ⟨FB, F, ρ, r, p⟩ := t
  refine ⟨FB, F, ρ, r, ?_⟩
  unfold sSeq at p
  cases e : g ρ with
  | error x => exact p.err (by rw [e]; rfl)
  | ok fl =>
    rw [e] at p
    cases fl with
    | nx ρ' => exact fun σ' F' H' r' => ⟨FB, F', ρ', r', p⟩
    | rt d => exact p
    | bk ρ' => exact p
    | ct ρ' => exact p
theorem rs_if (t : tS K W ro F0 H0 OL O O' (sIf ft g h) D σ H) : tIfS (tDT K W ft) (tS K W ro F0 H0 OL O O' g) (tS K W ro F0 H0 OL O O' h) D σ H := by
  obtain ⟨FB, F, ρ, r, p⟩ := t
  refine tDT_run r.repAll r.plus_fh (fun e he => p.errAt (r.freeze (O2 := []) (by simp)).st (by unfold sIf; rw [he]; rfl)) fun b hb F1 H1 s1 => ?_
  have z : sIf ft g h ρ = if b = true then g ρ else h ρ := by unfold sIf; rw [hb]; rfl
  rw [z] at p
  cases b with
  | true => exact ⟨FB, _, ρ, r.stepAll s1, p⟩
  | false => exact ⟨FB, _, ρ, r.stepAll s1, p⟩
noncomputable def aft (own : Bool) (i : Nat) (O : List Nat) : List Nat := if own = true then i :: O.filter (· != i) else O.filter (· != i)
theorem Rep.bindV {i : Nat} {d : Dat} {v : V} {H2 : Hp} (r : Rep K F0 H0 FB O F H σ ρ) (q : Val K own F H2 H d v) (h2 : Same H0 H2) (nw : ∀ a, Own' O [] σ ρ a → ∃ o, H2 a = some o) : Rep K F0 H0 FB (aft own i O) F H (σ.set i (some v)) (ρ.set i (some d)) := by
  cases own with
  | false => exact r.set q i
  | true =>
    refine r.setOwn (OwnD.back h2 q) fun a ha hd z => ?_
    subst ha
    obtain ⟨b, _, e, _, _, _, n⟩ := OwnD.top hd q
    cases e
    obtain ⟨j, es, h1, h2, h3, h4, h5⟩ := z
    obtain ⟨o, ho⟩ := nw a ⟨j, es, h1, by simp, h3, h4, h5⟩
    rw [n] at ho
    cases ho
theorem rs_setB {i : Nat} (t : tS K W ro F0 H0 OL O (aft own i O) (sSetB O i f) D σ H) : tAsg (tD K W own f) (gName i) D σ H := by
  obtain ⟨FB, F, ρ, r, p⟩ := t
  refine tD_run r.repErase r.st.fh (fun e he => p.errAt r.st (by unfold sSetB; rw [he]; rfl)) fun d hd v F1 H1 s1 q => ?_
  have z : sSetB O i f ρ = .ok (.nx (ρ.set i (some d))) := by unfold sSetB; rw [hd]; rfl
  rw [z] at p
  exact p _ F1 H1 ((r.step s1).bindV q r.st.hh fun a ha => let ⟨_, _, _, e, _⟩ := r.own ha; ⟨_, e⟩)
theorem Rep.flatV {F1 H1 : Hp} {d : Dat} {v : V} (r : Rep K F0 H0 FB O F H σ ρ) (s : Step (plus F H (Own' O [] σ ρ)) H F1 H1) (q : Val K own F1 H H1 d v) (fl : flatTop own d = true) : Val K own (minus F1 (Own' O [] σ ρ)) H H1 d v := by
  have none_of : ∀ {a : Addr}, F1 a = none → minus F1 (Own' O [] σ ρ) a = none := fun {a} h => by
    by_cases hb : Own' O [] σ ρ a
    · exact minus_in hb
    · rw [minus_out hb]; exact h
  cases own with
  | false => exact Deep.flat (r.minusT s) (by cases d <;> exact fl) q
  | true =>
    cases d with
    | lst ds =>
      obtain ⟨a, xs, e, p, n, z, t⟩ := q
      exact ⟨a, xs, e, p, none_of n, z, t.flat (r.minusT s) fl⟩
    | non => exact q
    | bl b => exact q
    | int i => exact q
    | str x => exact q
    | tup ds => exact Deep.flat (d := .tup ds) (r.minusT s) fl q
    | ins C fs => exact Deep.flat (d := .ins C fs) (r.minusT s) fl q
    | dic ks => cases fl
theorem rs_setA {i : Nat} (t : tS K W ro F0 H0 OL O (aft own i O) (sSetA own i f) D σ H) : tAsg (tD K W own f) (gName i) D σ H := by
  obtain ⟨FB, F, ρ, r, p⟩ := t
  refine tD_run r.repAll r.plus_fh (fun e he => p.errAt (r.freeze (O2 := []) (by simp)).st (by unfold sSetA; rw [he]; rfl)) fun d hd v F1 H1 s1 q => ?_
  have z : sSetA own i f ρ = if flatTop own d = true then .ok (.nx (ρ.set i (some d))) else .error .stuck := by unfold sSetA; rw [hd]; rfl
  rw [z] at p
  by_cases hf : flatTop own d = true
  · rw [if_pos hf] at p
    exact p _ _ H1 ((r.stepAll s1).bindV (r.flatV s1 q hf) r.st.hh fun a ha => let ⟨_, _, _, e, _⟩ := r.own ha; ⟨_, e⟩)
  · rw [if_neg hf] at p
    exact p.stuck rfl
theorem lstAt_ok {i : Nat} {ds : List Dat} (h : lstAt ρ i = .ok ds) : ρ[i]? = some (some (.lst ds)) := by
  unfold lstAt at h
  split at h
  · cases h; assumption
  · cases h
theorem lstAt_err {i : Nat} {e : Err} (h : lstAt ρ i = .error e) : e = .stuck := by
  unfold lstAt at h
  split at h
  · cases h
  · cases h; rfl
theorem Rep.lstOwn {i : Nat} {ds : List Dat} (r : Rep K F0 H0 FB O F H σ ρ) (hi : i ∈ O) (e : ρ[i]? = some (some (.lst ds))) : ∃ a xs, σ[i]? = some (some (.ref a)) ∧ H a = some (.lst xs) ∧ Deeps K F ds xs := by
  obtain ⟨v, e3, a, xs, ev, p, _, _, t⟩ := r.ow i _ e hi
  subst ev
  exact ⟨a, xs, e3, p, t⟩
noncomputable def tApp (K : PySem.W.Frag) (i : Nat) (te : TE) : TS := tDrop (tBM K "list" rAppend (tVar i) (tCons te tNil))
theorem rs_appB {i : Nat} (hi : i ∈ O) (t : tS K W ro F0 H0 OL O O (sAppB O i f) D σ H) : tApp K i (tD K W false f) D σ H := by
  obtain ⟨FB, F, ρ, r, p⟩ := t
  cases hl : lstAt ρ i with
  | error e =>
    have := lstAt_err hl
    subst this
    exact p.stuck (by unfold sAppB; rw [hl]; rfl)
  | ok ds =>
    obtain ⟨a, xs, e2, ha, z⟩ := r.lstOwn hi (lstAt_ok hl)
    refine ⟨.ref a, e2, tyV_list ha, ?_⟩
    refine tD_run r.repErase r.st.fh (fun e he => p.errAt r.st (by unfold sAppB; rw [hl]; show (f (erase O ρ)).bind _ = _; rw [he]; rfl)) fun d hd v F1 H1 s1 q => ?_
    have ez : sAppB O i f ρ = if ds.length < sizeLine then put ρ i (ds ++ [d]) else .error .stuck := by unfold sAppB; rw [hl]; show (f (erase O ρ)).bind _ = _; rw [hd]; rfl
    rw [ez] at p
    by_cases hs : ds.length < sizeLine
    · rw [if_pos hs] at p
      exact ⟨a, xs, v, rfl, rfl, s1.hh _ _ ha, by rw [z.length]; exact hs, p σ F1 _ ((r.step s1).write hi (lstAt_ok hl) e2 (Deeps.append (z.mono s1.ff) ⟨v, [], rfl, q, rfl⟩))⟩
    · rw [if_neg hs] at p
      exact p.stuck rfl
theorem rs_ret (t : tS K W ro F0 H0 OL O O' (sRet f) D σ H) : tRet (tD K W ro f) D σ H := by
  obtain ⟨FB, F, ρ, r, p⟩ := t
  have rf := r.freeze (O2 := []) (by simp)
  refine tD_run r.repAll r.plus_fh (fun e he => p.errAt rf.st (by unfold sRet; rw [he]; rfl)) fun d hd v F1 H1 s1 q => ?_
  have z : sRet f ρ = .ok (.rt d) := by unfold sRet; rw [hd]; rfl
  rw [z] at p
  exact p v F1 H1 (rf.st.trans s1) (q.back r.st.hh)
theorem rs_for {fs : Env' → M (List Dat)} {pt : Pat} (n : ∀ i ∈ pt.names, i ∉ O) (t : tS K W ro F0 H0 OL O O (sFor O fs pt g) D σ H) : tFor (iD K W fs) (gP K pt) (tS K W ro F0 H0 O O O g) D σ H := by
  obtain ⟨FB, F, ρ, r, p⟩ := t
  refine ⟨F, erase O ρ, r.repErase, r.st.fh, ?_⟩
  cases e : fs (erase O ρ) with
  | error x => exact p.errAt r.st (by unfold sFor; rw [e]; rfl)
  | ok ds =>
    have z : sFor O fs pt g ρ = forD pt g ds ρ := by unfold sFor; rw [e]; rfl
    rw [z] at p
    intro J F1 H1 s1 it
    refine ⟨fun i m σ H => ∃ F ρ, Rep K F0 H0 F1 O F H σ ρ ∧ i ≤ ds.length ∧ m = ds.length - i ∧ PostS K W ro F0 H0 FB OL O D (forD pt g (ds.drop i) ρ), ⟨ds.length, F1, ρ, ?_, Nat.zero_le _, by omega, by rw [List.drop_zero]; exact p⟩, ?_⟩
    · have r1 := r.step s1
      exact ⟨r1.st, Same.refl _, r1.len, r1.fz, r1.ow, r1.ap⟩
    · rintro i m σ2 H2 ⟨F2, ρ2, r2, hi, rfl, p2⟩
      by_cases hlt : i < ds.length
      · have ed : ds.drop i = ds[i] :: ds.drop (i + 1) := List.drop_eq_getElem_cons hlt
        rw [ed] at p2
        refine .inr ⟨it.go i F2 H2 r2.fb r2.st.fh hlt, fun σ' H' => (∃ F ρ, Rep K F0 H0 F1 O F H' σ' ρ ∧ PostS K W ro F0 H0 FB OL O D (forD pt g (ds.drop (i + 1)) ρ)), fun σ' H' ⟨F, ρ, r, p⟩ => ⟨ds.length - (i + 1), by omega, F, ρ, r, hlt, rfl, p⟩, fun x H' y => ?_⟩
        obtain ⟨F3, s3, q3⟩ := it.yl i F2 H2 x H' ds[i] r2.fb r2.st.fh (by simp [hlt]) y
        have ef : forD pt g (ds[i] :: ds.drop (i + 1)) ρ2 = (bindP pt ds[i] ρ2).bind fun ρ1 => (g ρ1).bind fun fl => match fl with
          | .nx ρ2 => forD pt g (ds.drop (i + 1)) ρ2
          | .ct ρ2 => forD pt g (ds.drop (i + 1)) ρ2
          | .bk ρ2 => .ok (.nx ρ2)
          | .rt d => .ok (.rt d) := by rw [forD]
        rw [ef] at p2
        cases eb : bindP pt ds[i] ρ2 with
        | error x =>
          have := bindP_err eb
          subst this
          exact p2.stuck (by rw [eb]; rfl)
        | ok ρ3 =>
          rw [eb] at p2
          have p2 : PostS K W ro F0 H0 FB OL O D ((g ρ3).bind fun fl => match fl with
            | .nx ρ2 => forD pt g (ds.drop (i + 1)) ρ2
            | .ct ρ2 => forD pt g (ds.drop (i + 1)) ρ2
            | .bk ρ2 => .ok (.nx ρ2)
            | .rt d => .ok (.rt d)) := p2
          refine gP_rep (r2.step s3) n q3 eb fun σ4 r4 => ⟨F1, F3, ρ3, r4, ?_⟩
          have fb1 : Same FB F1 := (r.step s1).fb
          cases eg : g ρ3 with
          | error x => exact p2.err (by rw [eg]; rfl)
          | ok fl =>
            rw [eg] at p2
            cases fl with
            | nx ρ5 => exact fun σ' F' H' r' => ⟨F', ρ5, r', p2⟩
            | ct ρ5 => exact fun σ' F' H' r' => ⟨F', ρ5, r', p2⟩
            | bk ρ5 => exact fun σ' F' H' r' => p2 σ' F' H' (r'.base fb1)
            | rt d => exact p2
      · have : i = ds.length := by omega
        subst this
        rw [List.drop_length] at p2
        exact .inl ⟨it.st F2 H2 r2.fb r2.st.fh, p2 σ2 F2 H2 (r2.base (r.step s1).fb)⟩
end
noncomputable def stk {α : Type} : M α := .error .stuck
noncomputable def addD : Dat → Dat → M Dat
  | .int i, .int j => .ok (.int (i + j))
  | .str x, .str y => if x.length + y.length ≤ sizeLine then .ok (.str (x ++ y)) else stk
  | .lst xs, .lst ys => if xs.length + ys.length ≤ sizeLine then .ok (.lst (xs ++ ys)) else stk
  | .tup xs, .tup ys => if xs.length + ys.length ≤ sizeLine then .ok (.tup (xs ++ ys)) else stk
  | _, _ => stk
noncomputable def subD : Dat → Dat → M Dat
  | .int i, .int j => .ok (.int (i - j))
  | _, _ => stk
noncomputable def small64 (i : Int) : Bool := decide (-(2 ^ 64) < i) && decide (i < 2 ^ 64)
noncomputable def mulD : Dat → Dat → M Dat
  | .int i, .int j => if (small64 i || small64 j) = true then .ok (.int (i * j)) else stk
  | _, _ => stk
noncomputable def fdivD : Dat → Dat → M Dat
  | .int i, .int j => if (decide (0 < j) && decide (j < 18446744073709551616)) = true then .ok (.int (i / j)) else stk
  | _, _ => stk
noncomputable def modD : Dat → Dat → M Dat
  | .int i, .int j => if 0 < j then .ok (.int (i % j)) else stk
  | _, _ => stk
noncomputable def negD : Dat → M Dat
  | .int i => .ok (.int (-i))
  | _ => stk
noncomputable def ltD : Dat → Dat → M Dat
  | .int i, .int j => .ok (.bl (decide (i < j)))
  | _, _ => stk
noncomputable def leD : Dat → Dat → M Dat
  | .int i, .int j => .ok (.bl (decide (i ≤ j)))
  | _, _ => stk
noncomputable def gtD : Dat → Dat → M Dat
  | .int i, .int j => .ok (.bl (decide (j < i)))
  | _, _ => stk
noncomputable def geD : Dat → Dat → M Dat
  | .int i, .int j => .ok (.bl (decide (j ≤ i)))
  | _, _ => stk
noncomputable def b2z (b : Bool) : Int := if b then 1 else 0
mutual
noncomputable def eqD : Dat → Dat → Bool
  | .non, .non => true
  | .bl a, .bl b => a == b
  | .bl a, .int b => b2z a == b
  | .int a, .bl b => a == b2z b
  | .int a, .int b => a == b
  | .str a, .str b => a == b
  | .tup xs, .tup ys => eqDs xs ys
  | .lst xs, .lst ys => eqDs xs ys
  | _, _ => false
noncomputable def eqDs : List Dat → List Dat → Bool
  | [], [] => true
  | d :: ds, e :: es => eqD d e && eqDs ds es
  | _, _ => false
end
mutual
noncomputable def okE : Dat → Nat → Bool
  | .tup ds, n => (match n with
    | 0 => false
    | n + 1 => okEs ds n)
  | .lst ds, n => (match n with
    | 0 => false
    | n + 1 => okEs ds n)
  | .ins _ _, _ => false
  | .dic _, _ => false
  | .non, _ => true
  | .bl _, _ => true
  | .int _, _ => true
  | .str _, _ => true
noncomputable def okEs : List Dat → Nat → Bool
  | [], _ => true
  | d :: ds, n => okE d n && okEs ds n
end
noncomputable def eqM (a b : Dat) : M Dat := if (okE a 40 && okE b 40) = true then .ok (.bl (eqD a b)) else stk
noncomputable def neM (a b : Dat) : M Dat := if (okE a 40 && okE b 40) = true then .ok (.bl (!eqD a b)) else stk
noncomputable def inM (a b : Dat) : M Dat := (itemsD b).bind fun ds => if (okE a 40 && okEs ds 40) = true then .ok (.bl (ds.any fun d => eqD d a)) else stk
noncomputable def notInM (a b : Dat) : M Dat := (itemsD b).bind fun ds => if (okE a 40 && okEs ds 40) = true then .ok (.bl (!ds.any fun d => eqD d a)) else stk
noncomputable def getI (ds : List Dat) (i : Int) : M Dat := match atI ds i with
  | some d => .ok d
  | none => stk
noncomputable def ixD : Dat → Dat → M Dat
  | .lst ds, .int i => getI ds i
  | .tup ds, .int i => getI ds i
  | _, _ => stk
noncomputable def lenD : List Dat → M Dat
  | [.lst ds] => .ok (.int ds.length)
  | [.tup ds] => .ok (.int ds.length)
  | _ => stk
noncomputable def absD : List Dat → M Dat
  | [.int i] => .ok (.int (if i < 0 then -i else i))
  | _ => stk
noncomputable def intsD : List Dat → M (List Int)
  | [] => .ok []
  | d :: ds => (asI d).bind fun b => (intsD ds).bind fun r => .ok (b :: r)
noncomputable def listD : List Dat → M Dat
  | [.lst ds] => .ok (.lst ds)
  | [.tup ds] => .ok (.lst ds)
  | _ => stk
noncomputable def tupleD : List Dat → M Dat
  | [.lst ds] => .ok (.tup ds)
  | [.tup ds] => .ok (.tup ds)
  | _ => stk
noncomputable def maxZ (i j : Int) : Int := if j > i then j else i
noncomputable def minZ (i j : Int) : Int := if j < i then j else i
noncomputable def maxL : List Int → M Dat
  | [] => stk
  | i :: is => .ok (.int (is.foldl maxZ i))
noncomputable def minL : List Int → M Dat
  | [] => stk
  | i :: is => .ok (.int (is.foldl minZ i))
noncomputable def maxD : List Dat → M Dat
  | [.int i, .int j] => .ok (.int (maxZ i j))
  | [.lst ds] => (intsD ds).bind maxL
  | _ => stk
noncomputable def minD : List Dat → M Dat
  | [.int i, .int j] => .ok (.int (minZ i j))
  | [.lst ds] => (intsD ds).bind minL
  | _ => stk
noncomputable def isi_intD : Dat → M Dat
  | .int _ => .ok (.bl true)
  | .bl _ => .ok (.bl true)
  | .ins _ _ => stk
  | .dic _ => stk
  | _ => .ok (.bl false)
noncomputable def isi_boolD : Dat → M Dat
  | .bl _ => .ok (.bl true)
  | .ins _ _ => stk
  | .dic _ => stk
  | _ => .ok (.bl false)
noncomputable def isi_listD : Dat → M Dat
  | .lst _ => .ok (.bl true)
  | .ins _ _ => stk
  | .dic _ => stk
  | _ => .ok (.bl false)
noncomputable def isi_tupleD : Dat → M Dat
  | .tup _ => .ok (.bl true)
  | .ins _ _ => stk
  | .dic _ => stk
  | _ => .ok (.bl false)
noncomputable def fLR (fr : Env' → M (List Dat)) : Env' → M Dat := fun ρ => (fr ρ).bind mkLst
noncomputable def enumL : Nat → List Dat → List Dat
  | _, [] => []
  | k, d :: ds => .tup [.int k, d] :: enumL (k + 1) ds
noncomputable def itemsL : Dat → M (List Dat)
  | .lst ds => .ok ds
  | _ => .error .stuck
noncomputable def fEnum (fa : Env' → M Dat) : Env' → M (List Dat) := fun ρ => (fa ρ).bind fun d => (itemsL d).bind fun ds => .ok (enumL 0 ds)
noncomputable def runB (nN n : Nat) (g : Env' → M Flo) (ds : List Dat) : M Dat := if ds.length = n then (g (ds.map some ++ List.replicate (nN - ds.length) none)).bind fun fl => match fl with
  | .nx _ => .ok .non
  | .rt d => .ok d
  | _ => stk else stk
noncomputable def popD (ds : List Dat) (k : Dat) : M (Dat × List Dat) := (asI k).bind fun k => if sizeLine < ds.length then stk else match ixN ds.length k with
  | some j => match ds[j]? with
    | some d => .ok (d, ds.eraseIdx j)
    | none => stk
  | none => stk
noncomputable def sAppPop (i j : Nat) (fk : Env' → M Dat) : Env' → M Flo := fun ρ => (lstAt ρ i).bind fun es => (lstAt ρ j).bind fun ds => (fk ρ).bind fun k => (popD ds k).bind fun p => if es.length < sizeLine then put (ρ.set j (some (.lst p.2))) i (es ++ [p.1]) else stk
@[simp] theorem bind_ok {α β : Type} (a : α) (f : α → M β) : Except.bind (Except.ok a : M α) f = f a := id rfl
@[simp] theorem bind_er {α β : Type} (e : Err) (f : α → M β) : Except.bind (Except.error e : M α) f = .error e := id rfl
@[simp] theorem intsD_map : ∀ is : List Int, intsD (is.map Dat.int) = .ok is
  | [] => rfl
  | i :: is => by simp [intsD, asI, intsD_map is]
@[simp] theorem okEs_ints (n : Nat) : ∀ is : List Int, okEs (is.map Dat.int) n = true
  | [] => by simp [okEs]
  | i :: is => by simp [okEs, okE, okEs_ints n is]
@[simp] theorem eqDs_ints : ∀ is js : List Int, eqDs (is.map Dat.int) (js.map Dat.int) = decide (is = js)
  | [], [] => by simp [eqDs]
  | [], _ :: _ => by simp [eqDs]
  | _ :: _, [] => by simp [eqDs]
  | i :: is, j :: js => by
    simp only [List.map_cons, eqDs, eqD, eqDs_ints is js, List.cons.injEq]
    rw [Bool.eq_iff_iff]
    simp
theorem getI_nat {ds : List Dat} {k : Nat} (h : k < ds.length) : getI ds (k : Int) = .ok ds[k] := by
  unfold getI atI ixN
  rw [if_pos (by omega), if_pos (by omega)]
  simp [h]
theorem getI_int {is : List Int} {k : Int} (h0 : 0 ≤ k) (h : k < is.length) : getI (is.map Dat.int) k = .ok (.int (is[k.toNat]'(by omega))) := by
  have hj : k.toNat < (is.map Dat.int).length := by simp; omega
  have e : k = (k.toNat : Int) := by omega
  have := getI_nat hj
  rw [← e] at this
  rw [this]
  simp
theorem forD_inv {p : Pat} {g : Env' → M Flo} (P : Nat → Env' → Prop) : ∀ (ds : List Dat) (k : Nat) (ρ : Env'), P k ρ →
    (∀ (i : Nat) (d : Dat) (ρ : Env'), ds[i]? = some d → P (k + i) ρ → ∃ ρ1, bindP p d ρ = .ok ρ1 ∧ ∃ ρ2, (g ρ1 = .ok (.nx ρ2) ∨ g ρ1 = .ok (.ct ρ2)) ∧ P (k + i + 1) ρ2) → ∃ ρ', forD p g ds ρ = .ok (.nx ρ') ∧ P (k + ds.length) ρ'
  | [], k, ρ, h, _ => ⟨ρ, rfl, h⟩
  | d :: ds, k, ρ, h, st => by
    obtain ⟨ρ1, e1, ρ2, e2, h2⟩ := st 0 d ρ rfl h
    obtain ⟨ρ', e3, h3⟩ := forD_inv P ds (k + 1) ρ2 h2 fun i d' ρ he hp => by
      have := st (i + 1) d' ρ (by simpa using he) (by rw [show k + (i + 1) = k + 1 + i by omega]; exact hp)
      rw [show k + (i + 1) + 1 = k + 1 + i + 1 by omega] at this
      exact this
    refine ⟨ρ', ?_, by rw [show k + (d :: ds).length = k + 1 + ds.length by simp; omega]; exact h3⟩
    rw [forD, e1]
    rcases e2 with e2 | e2
    · simp only [bind_ok, e2]; exact e3
    · simp only [bind_ok, e2]; exact e3
@[simp] theorem small_def (i : Int) : small64 i = (decide (-(2 ^ 64) < i) && decide (i < 2 ^ 64)) := id rfl
@[simp] theorem small_def2 (i : Int) : small62 i = (decide (-(2 ^ 62) ≤ i) && decide (i < 2 ^ 62)) := id rfl
@[simp] theorem eqDs_nilR (ds : List Dat) : eqDs ds [] = ds.isEmpty := by cases ds <;> rfl
section
variable {ρ : Env'} {fa fb fc : Env' → M Dat} {fr : Env' → M (List Dat)} {ft fu : Env' → M Bool} {g h : Env' → M Flo}
@[simp] theorem e_var0 (d : Dat) (r : Env') : fVar 0 (some d :: r) = .ok d := id rfl
@[simp] theorem e_varS (i : Nat) (o : Option Dat) (r : Env') : fVar (i + 1) (o :: r) = fVar i r := by simp [fVar]
@[simp] theorem e_c (d : Dat) : fC d ρ = .ok d := id rfl
@[simp] theorem e_1 (k : Dat → M Dat) : f1 k fa ρ = (fa ρ).bind k := id rfl
@[simp] theorem e_2 (k : Dat → Dat → M Dat) : f2 k fa fb ρ = (fa ρ).bind fun a => (fb ρ).bind fun b => k a b := id rfl
@[simp] theorem e_nil : fNil ρ = .ok [] := id rfl
@[simp] theorem e_cons : fCons fa fr ρ = (fa ρ).bind fun a => (fr ρ).bind fun r => .ok (a :: r) := id rfl
@[simp] theorem e_L (k : List Dat → M Dat) : fL k fr ρ = (fr ρ).bind k := id rfl
@[simp] theorem e_and : fAnd ft fu ρ = (ft ρ).bind fun b => if b = true then fu ρ else .ok false := id rfl
@[simp] theorem e_or : fOr ft fu ρ = (ft ρ).bind fun b => if b = true then .ok true else fu ρ := id rfl
@[simp] theorem e_not : fNot ft ρ = (ft ρ).bind fun b => .ok (!b) := id rfl
@[simp] theorem e_B : fB fa ρ = (fa ρ).bind asB := id rfl
@[simp] theorem e_tru : fTru fa ρ = (fa ρ).bind truD := id rfl
@[simp] theorem e_chain (k k' : Dat → Dat → M Dat) : fChain k k' fa fb fc ρ = (fa ρ).bind fun a => (fb ρ).bind fun b => (k a b).bind fun x => (asB x).bind fun z => if z = true then (fc ρ).bind fun c => k' b c else .ok (.bl false) := id rfl
@[simp] theorem e_yes : fYes ρ = .ok true := id rfl
@[simp] theorem e_it : fIt fa ρ = (fa ρ).bind itemsD := id rfl
@[simp] theorem e_rng (k : List Dat → M (List Dat)) : fRng k fr ρ = (fr ρ).bind k := id rfl
@[simp] theorem e_LR : fLR fr ρ = (fr ρ).bind mkLst := id rfl
@[simp] theorem e_enum : fEnum fa ρ = (fa ρ).bind fun d => (itemsL d).bind fun ds => .ok (enumL 0 ds) := id rfl
@[simp] theorem e_comp (fi : Env' → M (List Dat)) (ix : List (Option Nat)) (p : Pat) : fComp fi ix p ft fa ρ = (fi ρ).bind fun ds => if ds.length ≤ sizeLine then (compD p ft fa (inSE ix ρ) ds).bind fun r => .ok (.lst r) else .error .stuck := id rfl
@[simp] theorem e_asB (b : Bool) : asB (.bl b) = .ok b := id rfl
@[simp] theorem e_asI (b : Int) : asI (.int b) = .ok b := id rfl
@[simp] theorem e_itemsL (ds : List Dat) : itemsD (.lst ds) = .ok ds := id rfl
@[simp] theorem e_itL (ds : List Dat) : itemsL (.lst ds) = .ok ds := id rfl
@[simp] theorem e_truB (b : Bool) : truD (.bl b) = .ok b := id rfl
@[simp] theorem e_addI (i j : Int) : addD (.int i) (.int j) = .ok (.int (i + j)) := id rfl
@[simp] theorem e_subI (i j : Int) : subD (.int i) (.int j) = .ok (.int (i - j)) := id rfl
@[simp] theorem e_ltI (i j : Int) : ltD (.int i) (.int j) = .ok (.bl (decide (i < j))) := id rfl
@[simp] theorem e_leI (i j : Int) : leD (.int i) (.int j) = .ok (.bl (decide (i ≤ j))) := id rfl
@[simp] theorem e_gtI (i j : Int) : gtD (.int i) (.int j) = .ok (.bl (decide (j < i))) := id rfl
@[simp] theorem e_geI (i j : Int) : geD (.int i) (.int j) = .ok (.bl (decide (j ≤ i))) := id rfl
@[simp] theorem e_ixL (ds : List Dat) (i : Int) : ixD (.lst ds) (.int i) = getI ds i := id rfl
@[simp] theorem e_ixT (ds : List Dat) (i : Int) : ixD (.tup ds) (.int i) = getI ds i := id rfl
@[simp] theorem e_lenL (ds : List Dat) : lenD [.lst ds] = .ok (.int ds.length) := id rfl
@[simp] theorem e_lenT (ds : List Dat) : lenD [.tup ds] = .ok (.int ds.length) := id rfl
@[simp] theorem e_abs (i : Int) : absD [.int i] = .ok (.int (if i < 0 then -i else i)) := id rfl
@[simp] theorem e_listL (ds : List Dat) : listD [.lst ds] = .ok (.lst ds) := id rfl
@[simp] theorem e_listT (ds : List Dat) : listD [.tup ds] = .ok (.lst ds) := id rfl
@[simp] theorem e_tupleL (ds : List Dat) : tupleD [.lst ds] = .ok (.tup ds) := id rfl
@[simp] theorem e_max2 (i j : Int) : maxD [.int i, .int j] = .ok (.int (maxZ i j)) := id rfl
@[simp] theorem e_min2 (i j : Int) : minD [.int i, .int j] = .ok (.int (minZ i j)) := id rfl
@[simp] theorem e_isiBI (i : Int) : isi_boolD (.int i) = .ok (.bl false) := id rfl
@[simp] theorem e_isiII (i : Int) : isi_intD (.int i) = .ok (.bl true) := id rfl
@[simp] theorem e_isiLL (ds : List Dat) : isi_listD (.lst ds) = .ok (.bl true) := id rfl
@[simp] theorem e_isiTT (ds : List Dat) : isi_tupleD (.tup ds) = .ok (.bl true) := id rfl
@[simp] theorem e_next : sNext ρ = .ok (.nx ρ) := id rfl
@[simp] theorem e_seq : sSeq g h ρ = (g ρ).bind fun fl => match fl with
  | .nx ρ' => h ρ'
  | fl => .ok fl := id rfl
@[simp] theorem e_if : sIf ft g h ρ = (ft ρ).bind fun b => if b = true then g ρ else h ρ := id rfl
@[simp] theorem e_setB (O : List Nat) (i : Nat) : sSetB O i fa ρ = (fa (erase O ρ)).bind fun d => .ok (.nx (ρ.set i (some d))) := id rfl
@[simp] theorem e_setA (own : Bool) (i : Nat) : sSetA own i fa ρ = (fa ρ).bind fun d => if flatTop own d = true then .ok (.nx (ρ.set i (some d))) else .error .stuck := id rfl
@[simp] theorem e_ret : sRet fa ρ = (fa ρ).bind fun d => .ok (.rt d) := id rfl
@[simp] theorem e_for (O : List Nat) (fi : Env' → M (List Dat)) (p : Pat) : sFor O fi p g ρ = (fi (erase O ρ)).bind fun ds => forD p g ds ρ := id rfl
@[simp] theorem e_appB (O : List Nat) (i : Nat) : sAppB O i fa ρ = (lstAt ρ i).bind fun ds => (fa (erase O ρ)).bind fun d => if ds.length < sizeLine then put ρ i (ds ++ [d]) else .error .stuck := id rfl
@[simp] theorem e_appPop (i j : Nat) : sAppPop i j fa ρ = (lstAt ρ i).bind fun es => (lstAt ρ j).bind fun ds => (fa ρ).bind fun k => (popD ds k).bind fun p => if es.length < sizeLine then put (ρ.set j (some (.lst p.2))) i (es ++ [p.1]) else stk := id rfl
@[simp] theorem e_put (i : Nat) (ds : List Dat) : put ρ i ds = .ok (.nx (ρ.set i (some (.lst ds)))) := id rfl
@[simp] theorem e_lst0 (ds : List Dat) (r : Env') : lstAt (some (.lst ds) :: r) 0 = .ok ds := id rfl
@[simp] theorem e_lstS (i : Nat) (o : Option Dat) (r : Env') : lstAt (o :: r) (i + 1) = lstAt r i := by simp [lstAt]
@[simp] theorem e_er0 : erase [] ρ = ρ := id rfl
@[simp] theorem e_erS (i : Nat) (O : List Nat) : erase (i :: O) ρ = erase O (ρ.set i none) := id rfl
@[simp] theorem e_bnm (i : Nat) (d : Dat) : bindP (.nm i) d ρ = .ok (ρ.set i (some d)) := id rfl
@[simp] theorem e_btp (is : List Nat) (ds : List Dat) : bindP (.tp is) (.tup ds) ρ = if ds.length = is.length then .ok (setAll is ds ρ) else .error .stuck := id rfl
@[simp] theorem e_sa0 (ds : List Dat) : setAll [] ds ρ = ρ := by cases ds <;> rfl
@[simp] theorem e_saS (i : Nat) (is : List Nat) (d : Dat) (ds : List Dat) : setAll (i :: is) (d :: ds) ρ = setAll is ds (ρ.set i (some d)) := id rfl
@[simp] theorem e_in0 : inSE [] ρ = [] := id rfl
@[simp] theorem e_inN (ix : List (Option Nat)) : inSE (none :: ix) ρ = none :: inSE ix ρ := id rfl
@[simp] theorem e_inS (j : Nat) (ix : List (Option Nat)) : inSE (some j :: ix) ρ = (ρ[j]?).join :: inSE ix ρ := id rfl
@[simp] theorem e_tup (ds : List Dat) : mkTup ds = if ds.length ≤ sizeLine then .ok (.tup ds) else .error .stuck := id rfl
@[simp] theorem e_lst (ds : List Dat) : mkLst ds = if ds.length ≤ sizeLine then .ok (.lst ds) else .error .stuck := id rfl
@[simp] theorem e_line : sizeLine = 16777216 := sizeLine_eq
@[simp] theorem e_run (a b : Nat) (ds : List Dat) : runB a b g ds = if ds.length = b then (g (ds.map some ++ List.replicate (a - ds.length) none)).bind fun fl => match fl with
  | .nx _ => .ok .non
  | .rt d => .ok d
  | _ => stk else stk := id rfl
@[simp] theorem e_rng1 {j : Int} (h : small62 j = true) : rng1 [.int j] = .ok (rangeL 0 j.toNat) := by show (if small62 j = true then _ else _) = _; rw [if_pos h]
@[simp] theorem e_rng2 {i j : Int} (h : small62 i = true) (h2 : small62 j = true) : rng2 [.int i, .int j] = .ok (rangeL i (j - i).toNat) := by show (if (small62 i && small62 j) = true then _ else _) = _; rw [h, h2, Bool.and_true, if_pos rfl]
@[simp] theorem e_mod {i j : Int} (h : 0 < j) : modD (.int i) (.int j) = .ok (.int (i % j)) := by simp [modD, h]
@[simp] theorem e_fdiv {i j : Int} (h : 0 < j) (h2 : j < 18446744073709551616) : fdivD (.int i) (.int j) = .ok (.int (i / j)) := by simp [fdivD, h, h2]
@[simp] theorem e_mulR {i j : Int} (h : small64 j = true) : mulD (.int i) (.int j) = .ok (.int (i * j)) := by show (if (small64 i || small64 j) = true then _ else _) = _; rw [h, Bool.or_true, if_pos rfl]
end
end L2
namespace L2
open PySem PySem.Spec PyProof.Rows
section
variable {X : Cx} {K : PySem.W.Frag} {W : Wish} {own ro : Bool} {e a b c : Expr} {es rest : List Expr} {x : Str} {pos p : Pos} {f fa fb fc : Env' → M Dat} {fr : Env' → M (List Dat)} {ft fu : Env' → M Bool}
theorem PE.imp {t t' : TE} (h : PE X e t) (q : ∀ σ H Q, t' σ H Q → t σ H Q) : PE X e t' := fun pins s σ H Q I z => h pins s σ H Q I (q σ H Q z)
theorem PT.imp {t t' : TT} (h : PT X e t) (q : ∀ σ H Q, t' σ H Q → t σ H Q) : PT X e t' := fun pins s σ H Q I z => h pins s σ H Q I (q σ H Q z)
theorem PW.imp {t t' : TT} (h : PW X e t) (q : ∀ σ H Q, t' σ H Q → t σ H Q) : PW X e t' := fun wh pins s σ H Q I z => h wh pins s σ H Q I (q σ H Q z)
theorem PA.imp {t t' : TA} (h : PA X es t) (q : ∀ σ H Q, t' σ H Q → t σ H Q) : PA X es t' := fun ps pins s σ H Q I z => h ps pins s σ H Q I (q σ H Q z)
theorem PI.imp {tg : Expr} {t t' : TI} (h : PI X tg e t) (q : ∀ σ H Q, t' σ H Q → t σ H Q) : PI X tg e t' := fun pins s σ H Q I z => h pins s σ H Q I (q σ H Q z)
theorem PS.imp {st : Stmt} {t t' : TS} (h : PS X st t) (q : ∀ D σ H, t' D σ H → t D σ H) : PS X st t' := fun pins s σ H D I z => h pins s σ H D I (q D σ H z)
theorem PSs.imp {st : List Stmt} {t t' : TS} (h : PSs X st t) (q : ∀ D σ H, t' D σ H → t D σ H) : PSs X st t' := fun pins s σ H D I z => h pins s σ H D I (q D σ H z)
noncomputable abbrev DE (K : PySem.W.Frag) (W : Wish) (own : Bool) (X : Cx) (e : Expr) (f : Env' → M Dat) : Prop := PE X e (tD K W own f)
noncomputable abbrev DT (K : PySem.W.Frag) (W : Wish) (X : Cx) (e : Expr) (f : Env' → M Bool) : Prop := PT X e (tDT K W f)
noncomputable abbrev DW (K : PySem.W.Frag) (W : Wish) (X : Cx) (e : Expr) (f : Env' → M Bool) : Prop := PW X e (tDT K W f)
noncomputable abbrev DA (K : PySem.W.Frag) (W : Wish) (X : Cx) (es : List Expr) (f : Env' → M (List Dat)) : Prop := PA X es (tDA K W f)
noncomputable abbrev DI (K : PySem.W.Frag) (W : Wish) (X : Cx) (tg e : Expr) (f : Env' → M (List Dat)) : Prop := PI X tg e (iD K W f)
noncomputable abbrev DG (K : PySem.W.Frag) (X : Cx) (tg : Expr) (p : Pat) : Prop := PG X tg (gP K p)
noncomputable abbrev DS (K : PySem.W.Frag) (W : Wish) (ro : Bool) (X : Cx) (OL O O' : List Nat) (st : Stmt) (g : Env' → M Flo) : Prop := ∀ F0 H0 : Hp, PS X st (tS K W ro F0 H0 OL O O' g)
noncomputable abbrev DSs (K : PySem.W.Frag) (W : Wish) (ro : Bool) (X : Cx) (OL O O' : List Nat) (st : List Stmt) (g : Env' → M Flo) : Prop := ∀ F0 H0 : Hp, PSs X st (tS K W ro F0 H0 OL O O' g)
noncomputable abbrev Op2 (K : PySem.W.Frag) (W : Wish) (own : Bool) (X : Cx) (o : Value → Value → Sem Value) (g : Dat → Dat → M Dat) : Prop := OpR X o (rD2 K W own g)
noncomputable abbrev CallD (K : PySem.W.Frag) (W : Wish) (own : Bool) (X : Cx) (v : Value) (g : List Dat → M Dat) : Prop := CallR X v (rDL K W own g)
theorem de_v (i : Nat) (hN : X.N[i]? = some x := by rfl) (hv : Vis X.env.scope x := by first | exact Or.inl rfl | exact Or.inr (Or.inl rfl) | exact Or.inr (Or.inr rfl)) (hd : (x == ("__debug__" : Str)) = false := by decide)
    (hcd : (x == ("__classdict__" : Str)) = false := by decide) : DE K W false X (.Name x pos) (fVar i) := (pv i hN hv hd hcd).imp fun _ _ _ => rd_var
theorem de_int {i : Int} {j} : DE K W false X (.Constant (.int i) j pos) (fC (.int i)) := pe_int.imp fun _ _ _ => rd_c fun _ => rfl
theorem de_bl {k : Bool} {j} : DE K W false X (.Constant (.bool k) j pos) (fC (.bl k)) := pe_bl.imp fun _ _ _ => rd_c fun _ => rfl
theorem de_frz (h : DE K W true X e f) : DE K W false X e f := PE.imp h fun _ _ _ ⟨F, ρ, r, s, p⟩ => ⟨F, ρ, r, s, p.frz⟩
theorem de_op {op : Operator} {g : Dat → Dat → M Dat} (ho : Op2 K W own X (binaryOp op) g) (ha : DE K W false X a fa) (hb : DE K W false X b fb) : DE K W own X (.BinOp a op b pos) (f2 g fa fb) := (pe_op ho ha hb).imp fun _ _ _ => rd_2
theorem de_un {op : UnaryOp} {g : Dat → M Dat} (ho : UnR X (unaryOp op) (rD1 K W own g)) (ha : DE K W false X a fa) : DE K W own X (.UnaryOp op a pos) (f1 g fa) := (pe_un ho ha).imp fun _ _ _ => rd_1
theorem de_cmp {op : CmpOp} {g : Dat → Dat → M Dat} (ho : Op2 K W false X (compareOp op) g) (ha : DE K W false X a fa) (hb : DE K W false X b fb) (hm : behindInMarks op b = false := by first | exact nomark _ | with_unfolding_all rfl) : DE K W false X (.Compare a [op] [b] pos) (f2 g fa fb) :=
  (pe_cmpR ho ha hb hm).imp fun _ _ _ => rd_2
theorem dt_cmp {op : CmpOp} {g : Dat → Dat → M Dat} (ho : Op2 K W false X (compareOp op) g) (ha : DE K W false X a fa) (hb : DE K W false X b fb) (hm : behindInMarks op b = false := by first | exact nomark _ | with_unfolding_all rfl) : DT K W X (.Compare a [op] [b] pos) (fB (f2 g fa fb)) :=
  (pt_cmpR ho ha hb hm).imp fun σ H Q h => by
    have q := rd_B h
    exact rd_2 (own := false) q
theorem dt_chain {op op' : CmpOp} {g g' : Dat → Dat → M Dat} (ho : Op2 K W false X (compareOp op) g) (ho' : Op2 K W false X (compareOp op') g') (ha : DE K W false X a fa) (hb : DE K W false X b fb) (hc : DE K W false X c fc)
    (hm : lastMarks [op, op'] [b, c] = false := by with_unfolding_all rfl) : DT K W X (.Compare a [op, op'] [b, c] pos) (fB (fChain g g' fa fb fc)) := (pt_chain ho ho' ha hb hc hm).imp fun σ H Q h => by
    have q := rd_B h
    exact rd_chain q
theorem dt_tru (ha : DE K W false X a fa) (hK : X.K = K := by rfl) (he : ∀ whole, isTrue a X.env whole = (do let v ← whole; standAt a.pos; holding [v] (truthy v)) := by intro _; rfl) : DT K W X a (fTru fa) := by
  subst hK
  exact (pt_truth ha he).imp fun _ _ _ => rd_tru
theorem dt_not (ha : DT K W X a ft) : DT K W X (.UnaryOp .Not a pos) (fNot ft) := (pt_not ha).imp fun _ _ _ => rd_not
theorem dw_and1 (ha : DT K W X a ft) : DW K W X (.BoolOp .And [a] pos) ft := pw_and1 ha
theorem dw_or1 (ha : DT K W X a ft) : DW K W X (.BoolOp .Or [a] pos) ft := pw_or1 ha
theorem dw_and (ha : DT K W X a ft) (hb : DW K W X (.BoolOp .And (b :: rest) pos) fu) : DW K W X (.BoolOp .And (a :: b :: rest) pos) (fAnd ft fu) := (pw_and ha hb).imp fun _ _ _ => rd_and
theorem dw_or (ha : DT K W X a ft) (hb : DW K W X (.BoolOp .Or (b :: rest) pos) fu) : DW K W X (.BoolOp .Or (a :: b :: rest) pos) (fOr ft fu) := (pw_or ha hb).imp fun _ _ _ => rd_or
theorem da_nil : DA K W X [] fNil := pa_nil.imp fun _ _ _ => rd_nil
theorem da_cons (ha : DE K W false X e fa) (hr : DA K W X es fr) (hs : starEach (e :: es) X.env = (false, eval e X.env) :: starEach es X.env := by rfl) : DA K W X (e :: es) (fCons fa fr) := (pa_cons ha hr hs).imp fun _ _ _ => rd_cons
theorem de_tup {x1} (h : DA K W X es fr) : DE K W own X (.Tuple es x1 pos) (fL mkTup fr) := (pe_tup h).imp fun _ _ _ => rd_tup
theorem de_lst (h : DA K W X es fr) : DE K W true X (.List es pos) (fL mkLst fr) := (pe_lst h).imp fun _ _ _ => rd_lst
theorem de_callB {id : String} {g : List Dat → M Dat} (hc : CallD K W own X (.builtin id) g) (hm : X.mg x = none) (hv : bootBuiltins x = some (.builtin id)) (ha : DA K W X (e :: es) fr) (hg : Gl X x := by rfl) (hn : x ≠ "__name__" := by decide) (hdb : (x == ("__debug__" : Str)) = false := by decide)
    (hst : starEach (e :: es) X.env = (false, eval e X.env) :: starEach es X.env := by rfl) (hpl : (backTo pos (starEach es X.env)).any (·.1) = false := by rfl) : DE K W own X (.Call (.Name x p) (e :: es) [] pos) (fL g fr) :=
  (pe_callB hc hg hm hv ha hn hdb hst hpl).imp fun _ _ _ => rd_L
theorem de_callTy {T : String} {g : List Dat → M Dat} (hc : CallD K W own X (.type T) g) (hm : X.mg x = none) (hv : bootBuiltins x = some (.type T)) (ha : DA K W X (e :: es) fr) (hg : Gl X x := by rfl) (hn : x ≠ "__name__" := by decide) (hdb : (x == ("__debug__" : Str)) = false := by decide)
    (hst : starEach (e :: es) X.env = (false, eval e X.env) :: starEach es X.env := by rfl) (hpl : (backTo pos (starEach es X.env)).any (·.1) = false := by rfl) : DE K W own X (.Call (.Name x p) (e :: es) [] pos) (fL g fr) :=
  (pe_callTy hc hg hm hv ha hn hdb hst hpl).imp fun _ _ _ => rd_L
theorem de_ix {g : Dat → Dat → M Dat} (hr : IxR X (rD2 K W own g)) (ha : DE K W false X a fa) (hb : DE K W false X b fb) (hs : PlainIx b := by exact fun _ _ => rfl) : DE K W own X (.Subscript a b pos) (f2 g fa fb) := (pe_ix hr ha hb hs).imp fun _ _ _ => rd_2
theorem dg_nm {i : Nat} (hN : X.N.Nodup) (hi : X.N[i]? = some x := by rfl) (hx : Loc X.env.scope x := by first | exact Or.inl rfl | exact Or.inr rfl) (hf : X.fn x = true ∨ X.env.scope.names.lookup x = some .local := by first | exact .inl rfl | exact .inr rfl | assumption) : DG K X (.Name x pos) (.nm i) := pg_name hN hi hx hf
theorem di_seq {tg : Expr} (hl : DE K W false X e fa) (hK : X.K = K := by rfl) : DI K W X tg e (fIt fa) := by
  subst hK
  refine PI.imp (t := iSeq X.K (tD X.K W false fa)) ?_ fun _ _ _ => ri_seq
  intro pins s σ H R I h
  refine thn (hl pins s σ H _ I h) fun v s1 ⟨y, H1, I1, r1, q1⟩ => ?_
  obtain ⟨l, e1, q⟩ := q1
  subst e1
  cases r1
  rcases q with ⟨⟨xs, hq⟩, q⟩ | ⟨⟨xs, hq⟩, q⟩
  · obtain ⟨its, rv, p, hz⟩ := I1.list hq
    refine wpAny_pyIter_list p.isList ?_
    refine ⟨s1.heap.objs.size, [s1.heap.objs.size], _, _, H1, rfl, I1.kept (t' := s1.toks) fun b o e => Heap.get?_push_of_some _ e, turn_list l _, ⟨_, Heap.get?_push_size _ rfl, rfl, rfl⟩, fun b hb => ?_, q⟩
    have e : b = s1.heap.objs.size := by simpa using hb
    subst e
    exact I1.fpOk (Nat.le_refl _) (I1.hok.fresh (Nat.le_refl _))
  · obtain ⟨its, rv, p, hz⟩ := I1.tuple hq
    refine wpAny_pyIter_tuple (show s1.heap.IsTuple l its.toArray from p) ?_
    refine ⟨s1.heap.objs.size, [s1.heap.objs.size], _, _, H1, rfl, I1.kept (t' := s1.toks) fun b o e => Heap.get?_push_of_some _ e, turn_tuple l _, ⟨_, Heap.get?_push_size _ rfl, rfl, rfl⟩, fun b hb => ?_, q⟩
    have e : b = s1.heap.objs.size := by simpa using hb
    subst e
    exact I1.fpOk (Nat.le_refl _) (I1.hok.fresh (Nat.le_refl _))
theorem di_rng1 {tg : Expr} (hm : X.mg "range" = none) (ha : DA K W X [a] fr) (hg : Gl X "range" := by rfl) (hs : starEach [a] X.env = [(false, eval a X.env)] := by rfl) : DI K W X tg (.Call (.Name "range" p) [a] [] pos) (fRng rng1 fr) := (pi_range1 hg hm ha hs).imp fun _ _ _ => ri_rng1
variable {OL O O' O2 : List Nat} {st : Stmt} {sts : List Stmt} {g h : Env' → M Flo}
theorem ds_nil : DSs K W ro X OL O O [] sNext := fun _ _ => pss_nil.imp fun _ _ _ => rs_next
theorem ds_cons (h1 : DS K W ro X OL O O' st g) (h2 : DSs K W ro X OL O' O2 sts h) : DSs K W ro X OL O O2 (st :: sts) (sSeq g h) := fun F0 H0 => (pss_cons (h1 F0 H0) (h2 F0 H0)).imp fun _ _ _ => rs_seq
theorem ds_one (h1 : DS K W ro X OL O O' st g) : DSs K W ro X OL O O' [st] g := fun F0 H0 => pss_one (h1 F0 H0)
theorem ds_enter (h1 : DSs K W ro X OL O2 O' sts g) (hs : ∀ i ∈ O2, i ∈ O := by decide) : DSs K W ro X OL O O' sts g := fun F0 H0 => PSs.imp (h1 F0 H0) fun _ _ _ => tS.enter hs
theorem ds_if {sa sb : List Stmt} (hc : DT K W X c ft) (ha : DSs K W ro X OL O O' sa g) (hb : DSs K W ro X OL O O' sb h) : DS K W ro X OL O O' (.If c sa sb pos) (sIf ft g h) := fun F0 H0 => (ps_if hc (ha F0 H0) (hb F0 H0)).imp fun _ _ _ => rs_if
theorem ds_setB {i : Nat} {pos' : Pos} (hN : X.N.Nodup) (he : DE K W own X e f) (hi : X.N[i]? = some x := by rfl) (hx : Loc X.env.scope x := by first | exact Or.inl rfl | exact Or.inr rfl) (hs : swapsWith e (some (.Name x pos')) pos.line X.env = pure false := by rfl) (hf : X.fn x = true ∨ X.env.scope.names.lookup x = some .local := by first | exact .inl rfl | exact .inr rfl | assumption) :
    DS K W ro X OL O (aft own i O) (.Assign [.Name x pos'] e pos) (sSetB O i f) := fun F0 H0 => (ps_set hN hi hx he hs hf).imp fun _ _ _ => rs_setB
theorem ds_setA {i : Nat} {pos' : Pos} (hN : X.N.Nodup) (he : DE K W own X e f) (hi : X.N[i]? = some x := by rfl) (hx : Loc X.env.scope x := by first | exact Or.inl rfl | exact Or.inr rfl) (hs : swapsWith e (some (.Name x pos')) pos.line X.env = pure false := by rfl) (hf : X.fn x = true ∨ X.env.scope.names.lookup x = some .local := by first | exact .inl rfl | exact .inr rfl | assumption) :
    DS K W ro X OL O (aft own i O) (.Assign [.Name x pos'] e pos) (sSetA own i f) := fun F0 H0 => (ps_set hN hi hx he hs hf).imp fun _ _ _ => rs_setA
theorem ds_ret (he : DE K W ro X e f) : DS K W ro X OL O O' (.Return (some e) pos) (sRet f) := fun F0 H0 => (ps_ret he).imp fun _ _ _ => rs_ret
theorem ds_for {tg iter : Expr} {body : List Stmt} {fs : Env' → M (List Dat)} {pt : Pat} (hi : DI K W X tg iter fs) (hg : DG K X tg pt) (hb : DSs K W ro X O O O body g) (n : ∀ i ∈ pt.names, i ∉ O := by decide) (hp : PassesOwn (model X.prog X.w) X.A X.env X.xe := by exact PassesOwn.never) (hc : X.calm = true := by rfl)
    (hs : ∀ x, foldedSetIterable iter X.env x = pure x := by intro _; rfl) : DS K W ro X OL O O (.For tg iter body [] pos) (sFor O fs pt g) := fun F0 H0 => (ps_for hp hc hi hg (hb F0 H0) hs).imp fun _ _ _ => rs_for n
theorem ds_appB {i : Nat} {apos : Pos} {q : Pos} (he : DE K W false X e f) (ho : i ∈ O := by decide) (hN : X.N[i]? = some x := by rfl) (hv : Vis X.env.scope x := by first | exact Or.inl rfl | exact Or.inr (Or.inl rfl) | exact Or.inr (Or.inr rfl)) (hd : (x == ("__debug__" : Str)) = false := by decide) (hcd : (x == ("__classdict__" : Str)) = false := by decide) (hK : X.K = K := by rfl)
    (hst : starEach [e] X.env = [(false, eval e X.env)] := by rfl) (hbase : attributeBase (.Name x p) "append" X.env (eval (.Name x p) X.env) = eval (.Name x p) X.env := by rfl) (hfew : ((backTo q (starEach [e] X.env)).all (fun x => !x.1) && (backToKw q (keywordEach [] X.env)).all (fun x => x.1.isSome) && decide ([e].length + ([] : List Keyword).length + (if ([] : List Keyword).isEmpty then 0 else 1) < 30)) = true := by rfl) (hplain : (backTo q (starEach [] X.env)).any (·.1) = false := by rfl) (hline : (apos.endLine == q.line) = true := by rfl) (hsw : swapsWith (.Call (.Attribute (.Name x p) "append" apos) [e] [] q) none pos.line X.env = pure false := by rfl) :
    DS K W ro X OL O O (.Expr (.Call (.Attribute (.Name x p) "append" apos) [e] [] q) pos) (sAppB O i f) := fun F0 H0 => by
  subst hK
  exact PS.imp (ps_expr (pe_bm PySem.F.plainAttrs_list PySem.F.slot_list_append PySem.F.type_list_append mt_append (pv i hN hv hd hcd) (pa_cons he pa_nil hst) hbase hfew hline hst hplain) hsw) fun _ _ _ => rs_appB ho
end
end L2
namespace L2
open PySem PySem.Spec PyProof.Rows
section
variable {X : Cx} {K : PySem.W.Frag} {W : Wish} {own : Bool}
theorem OpR.imp {f : Value → Value → Sem Value} {r r' : R2} (h : OpR X f r) (q : ∀ x y H Q, r' x y H Q → r x y H Q) : OpR X f r' := fun pins s σ H x y v u Q I rx ry z => h pins s σ H x y v u Q I rx ry (q x y H Q z)
theorem UnR.imp {f : Value → Sem Value} {r r' : V → Hp → VK → Prop} (h : UnR X f r) (q : ∀ x H Q, r' x H Q → r x H Q) : UnR X f r' := fun pins s σ H x v Q I rx z => h pins s σ H x v Q I rx (q x H Q z)
theorem CallR.imp {f : Value} {r r' : List V → Hp → VK → Prop} (h : CallR X f r) (q : ∀ x H Q, r' x H Q → r x H Q) : CallR X f r' := fun pins s σ H x v Q I rx z => h pins s σ H x v Q I rx (q x H Q z)
theorem IxR.imp {r r' : R2} (h : IxR X r) (q : ∀ x y H Q, r' x y H Q → r x y H Q) : IxR X r' := fun va sl pins s σ H x y v u Q I rx ry z e => h va sl pins s σ H x y v u Q I rx ry (q x y H Q z) e
theorem Post.stuck {F H : Hp} {Q : VK} {P : Prop} (p : Post K W own F H (stk) Q) : P := (W.ns p).elim
theorem Post.int {F H : Hp} {Q : VK} {i : Int} (p : Post K W own F H (.ok (.int i)) Q) (s : Same F H) : Q (.int i) H := p _ F H (Step.refl s) (by cases own <;> rfl)
theorem Post.bl {F H : Hp} {Q : VK} {b : Bool} (p : Post K W own F H (.ok (.bl b)) Q) (s : Same F H) : Q (.bl b) H := p _ F H (Step.refl s) (by cases own <;> rfl)
theorem Post.str {F H : Hp} {Q : VK} {x : Str} (p : Post K W own F H (.ok (.str x)) Q) (s : Same F H) : Q (.str x) H := p _ F H (Step.refl s) (by cases own <;> rfl)
theorem Post.tup {F H : Hp} {Q : VK} {ds : List Dat} {xs : List V} {a : Addr} (p : Post K W own F H (.ok (.tup ds)) Q) (s : Same F H) (q : Deeps K F ds xs) (ha : H a = none) : Q (.ref a) (upd H a (.tup xs)) :=
  p _ _ _ (Step.lay s ha) (by
    have : Deep K (upd F a (.tup xs)) (.tup ds) (.ref a) := ⟨a, xs, rfl, SqT.of upd_same, q.mono (Same.upd (s.free ha))⟩
    cases own <;> exact this)
theorem Post.same {F H : Hp} {Q : VK} {ds : List Dat} {v : V} (p : Post K W own F H (.ok (.tup ds)) Q) (s : Same F H) (q : Deep K F (.tup ds) v) : Q v H := p _ F H (Step.refl s) (by cases own <;> exact q)
theorem Post.lst {F H : Hp} {Q : VK} {ds : List Dat} {xs : List V} {a : Addr} (p : Post K W true F H (.ok (.lst ds)) Q) (s : Same F H) (q : Deeps K F ds xs) (ha : H a = none) : Q (.ref a) (upd H a (.lst xs)) :=
  p _ F _ (Step.grow s ha) ⟨a, xs, rfl, upd_same, s.free ha, ha, q⟩
theorem two_ints {g : Dat → Dat → M Dat} (hg : ∀ a b, (∃ i j, a = .int i ∧ b = .int j) ∨ g a b = stk) {x y : V} {H : Hp} {Q : VK} (h : rD2 K W own g x y H Q) : ∃ F i j, Same F H ∧ x = .int i ∧ y = .int j ∧ Post K W own F H (g (.int i) (.int j)) Q := by
  obtain ⟨F, a, b, s, qa, qb, p⟩ := h
  rcases hg a b with ⟨i, j, rfl, rfl⟩ | e
  · exact ⟨F, i, j, s, qa, qb, p⟩
  · rw [e] at p; exact p.stuck
theorem o_sub : Op2 K W own X (binaryOp .Sub) subD := op_sub.imp fun x y H Q h => by
  obtain ⟨F, i, j, s, e1, e2, p⟩ := two_ints (fun a b => by cases a <;> cases b <;> first | exact .inr rfl | exact .inl ⟨_, _, rfl, rfl⟩) h
  exact ⟨i, j, e1, e2, p.int s⟩
theorem o_mul : Op2 K W own X (binaryOp .Mult) mulD := op_mul.imp fun x y H Q h => by
  obtain ⟨F, i, j, s, e1, e2, p⟩ := two_ints (fun a b => by cases a <;> cases b <;> first | exact .inr rfl | exact .inl ⟨_, _, rfl, rfl⟩) h
  have p' : Post K W own F H (if (small64 i || small64 j) = true then .ok (.int (i * j)) else stk) Q := p
  by_cases hc : (small64 i || small64 j) = true
  · rw [if_pos hc] at p'
    refine ⟨i, j, e1, e2, ?_, p'.int s⟩
    unfold small64 at hc
    simp only [Bool.or_eq_true, Bool.and_eq_true, decide_eq_true_eq] at hc
    exact hc
  · rw [if_neg hc] at p'; exact p'.stuck
theorem log_small {j : Int} (h0 : 0 < j) (h1 : j < 18446744073709551616) : j.natAbs.log2 < 9000 := by
  have a : j.natAbs < 2 ^ 64 := by omega
  have b := (Nat.log2_lt (n := j.natAbs) (k := 64) (by omega)).mpr a
  omega
theorem op_fdiv64 : OpR X (binaryOp .FloorDiv) (rI (fun _ j => 0 < j ∧ j < 18446744073709551616) fun i j => .int (i / j)) := opI fun i j _ _ _ _ _ hc q => by
  obtain ⟨c1, c2⟩ := hc
  exact floordiv_int (by omega) (by rw [Int.fdiv_eq_ediv_of_nonneg i (by omega)]; exact q) (.inl (PyProof.noPylong_of_log2 (log_small c1 c2)))
theorem o_fdiv : Op2 K W own X (binaryOp .FloorDiv) fdivD := op_fdiv64.imp fun x y H Q h => by
  obtain ⟨F, i, j, s, e1, e2, p⟩ := two_ints (fun a b => by cases a <;> cases b <;> first | exact .inr rfl | exact .inl ⟨_, _, rfl, rfl⟩) h
  have p' : Post K W own F H (if (decide (0 < j) && decide (j < 18446744073709551616)) = true then .ok (.int (i / j)) else stk) Q := p
  by_cases hc : (decide (0 < j) && decide (j < 18446744073709551616)) = true
  · rw [if_pos hc] at p'
    simp only [Bool.and_eq_true, decide_eq_true_eq] at hc
    exact ⟨i, j, e1, e2, hc, p'.int s⟩
  · rw [if_neg hc] at p'; exact p'.stuck
theorem o_mod : Op2 K W own X (binaryOp .Mod) modD := op_mod.imp fun x y H Q h => by
  obtain ⟨F, i, j, s, e1, e2, p⟩ := two_ints (fun a b => by cases a <;> cases b <;> first | exact .inr rfl | exact .inl ⟨_, _, rfl, rfl⟩) h
  have p' : Post K W own F H (if 0 < j then .ok (.int (i % j)) else stk) Q := p
  by_cases hc : 0 < j
  · rw [if_pos hc] at p'
    exact ⟨i, j, e1, e2, hc, p'.int s⟩
  · rw [if_neg hc] at p'; exact p'.stuck
theorem o_neg : UnR X (unaryOp .USub) (rD1 K W own negD) := un_neg.imp fun x H Q h => by
  obtain ⟨F, a, s, qa, p⟩ := h
  cases a with
  | int i => exact ⟨i, qa, Post.int (own := own) p s⟩
  | _ => exact Post.stuck p
theorem o_lt : Op2 K W own X (compareOp .Lt) ltD := op_lt.imp fun x y H Q h => by
  obtain ⟨F, i, j, s, e1, e2, p⟩ := two_ints (fun a b => by cases a <;> cases b <;> first | exact .inr rfl | exact .inl ⟨_, _, rfl, rfl⟩) h
  exact ⟨i, j, e1, e2, p.bl s⟩
theorem o_le : Op2 K W own X (compareOp .LtE) leD := op_le.imp fun x y H Q h => by
  obtain ⟨F, i, j, s, e1, e2, p⟩ := two_ints (fun a b => by cases a <;> cases b <;> first | exact .inr rfl | exact .inl ⟨_, _, rfl, rfl⟩) h
  exact ⟨i, j, e1, e2, p.bl s⟩
theorem o_gt : Op2 K W own X (compareOp .Gt) gtD := op_gt.imp fun x y H Q h => by
  obtain ⟨F, i, j, s, e1, e2, p⟩ := two_ints (fun a b => by cases a <;> cases b <;> first | exact .inr rfl | exact .inl ⟨_, _, rfl, rfl⟩) h
  exact ⟨i, j, e1, e2, p.bl s⟩
theorem o_ge : Op2 K W own X (compareOp .GtE) geD := op_ge.imp fun x y H Q h => by
  obtain ⟨F, i, j, s, e1, e2, p⟩ := two_ints (fun a b => by cases a <;> cases b <;> first | exact .inr rfl | exact .inl ⟨_, _, rfl, rfl⟩) h
  exact ⟨i, j, e1, e2, p.bl s⟩
theorem op_catL : OpR X (binaryOp .Add) (fun x y H Q => ∃ l b xs zs, x = .ref l ∧ y = .ref b ∧ SqL X.K H l xs ∧ SqL X.K H b zs ∧ xs.length + zs.length ≤ sizeLine ∧ ∀ p, H p = none → Q (.ref p) (upd H p (.lst (xs ++ zs)))) := by
  intro pins s σ H x y v u Q I rx ry h
  obtain ⟨l, b, xs, zs, rfl, rfl, hH, hB, hz, q⟩ := h
  cases rx
  cases ry
  obtain ⟨its, r, p1, hl⟩ := I.list hH
  obtain ⟨its2, r2, p2, hl2⟩ := I.list hB
  have z1 := r.length
  have z2 := r2.length
  obtain ⟨⟨cls, dd, data, sl⟩, ho, hc, n, hd⟩ := id p1.isList
  obtain ⟨⟨cls2, dd2, data2, sl2⟩, ho2, hc2, n2, hd2⟩ := id p2.isList
  simp only at hc hd hc2 hd2
  subst hc hd hc2 hd2
  refine concat_meets ⟨_, ho, rfl⟩ ⟨_, ho2, rfl⟩ noFill_list_add seq_list_add PySem.F.slot_list_add PySem.F.entry_list_add (PySem.F.args_list_add_2 _ _) (list_addW l b its.toArray its2.toArray n n2 dd dd2 sl sl2 (by simp only [List.size_toArray]; omega)) ⟨ho, ho2, ?_⟩
  have ea : its.toArray ++ its2.toArray = (its ++ its2).toArray := by simp
  rw [ea]
  exact ⟨.ref _, _, I.lnew (t' := s.toks) (r.append r2) (by rw [List.length_append]; omega), rfl, q _ I.fresh⟩
theorem op_cat3 : OpR X (binaryOp .Add) (fun x y H Q => ∃ a b xs ys, x = .ref a ∧ y = .ref b ∧ SqT X.K H a xs ∧ SqT X.K H b ys ∧ xs.length + ys.length ≤ sizeLine ∧ (xs = [] → Q (.ref b) H) ∧ (ys = [] → Q (.ref a) H) ∧ ∀ p, H p = none → Q (.ref p) (upd H p (.tup (xs ++ ys)))) := by
  intro pins s σ H x y v u Q I rx ry h
  obtain ⟨a, b, xs, ys, rfl, rfl, ha, hb, hz, q1, q2, q3⟩ := h
  by_cases hx : xs = []
  · subst hx
    cases rx
    cases ry
    obtain ⟨its, r1, p1, _⟩ := I.tuple ha
    obtain ⟨its2, r2, p2, _⟩ := I.tuple hb
    cases r1
    obtain ⟨⟨cls, dd, data, sl⟩, ho, hc, n, hd⟩ := id p1
    obtain ⟨⟨cls2, dd2, data2, sl2⟩, ho2, hc2, n2, hd2⟩ := id p2
    simp only at hc hd hc2 hd2
    subst hc hd hc2 hd2
    exact concat_meets ⟨_, ho, rfl⟩ ⟨_, ho2, rfl⟩ noFill_tuple_add seq_tuple_add PySem.F.slot_tuple_add PySem.F.entry_tuple_add (PySem.F.args_tuple_add_2 _ _)
      (tuple_addW0 a b #[] its2.toArray n n2 dd dd2 sl sl2 rfl) ⟨ho, ho2, ⟨.ref b, H, I, rfl, q1 rfl⟩⟩
  · exact op_catT pins s σ H _ _ v u Q I rx ry ⟨a, b, xs, ys, rfl, rfl, ha, hb, hx, hz, fun e => q2 e, fun _ p hp => q3 p hp⟩
theorem o_add (hK : X.K = K := by rfl) : Op2 K W true X (binaryOp .Add) addD := by
  subst hK
  refine (op_add.or (op_add_str.or (op_catL.or op_cat3))).imp fun x y H Q h => ?_
  obtain ⟨F, a, b, s, qa, qb, p⟩ := h
  cases a with
  | int i =>
    cases b with
    | int j => exact .inl ⟨i, j, qa, qb, p.int s⟩
    | _ => exact Post.stuck p
  | str z =>
    cases b with
    | str w =>
      have p' : Post X.K W true F H (if z.length + w.length ≤ sizeLine then .ok (.str (z ++ w)) else stk) Q := p
      by_cases hc : z.length + w.length ≤ sizeLine
      · rw [if_pos hc] at p'
        exact .inr (.inl ⟨z, w, qa, qb, hc, p'.str s⟩)
      · rw [if_neg hc] at p'; exact p'.stuck
    | _ => exact Post.stuck p
  | lst ds =>
    cases b with
    | lst es =>
      obtain ⟨a, xs, e1, t1, r1⟩ := qa
      obtain ⟨b, ys, e2, t2, r2⟩ := qb
      have p' : Post X.K W true F H (if ds.length + es.length ≤ sizeLine then .ok (.lst (ds ++ es)) else stk) Q := p
      by_cases hc : ds.length + es.length ≤ sizeLine
      · rw [if_pos hc] at p'
        exact .inr (.inr (.inl ⟨a, b, xs, ys, e1, e2, s.lst t1, s.lst t2, by rw [r1.length, r2.length]; exact hc, fun l hl => p'.lst s (r1.append r2) hl⟩))
      · rw [if_neg hc] at p'; exact p'.stuck
    | _ => exact Post.stuck p
  | tup ds =>
    cases b with
    | tup es =>
      obtain ⟨a, xs, e1, t1, r1⟩ := qa
      obtain ⟨b, ys, e2, t2, r2⟩ := qb
      have p' : Post X.K W true F H (if ds.length + es.length ≤ sizeLine then .ok (.tup (ds ++ es)) else stk) Q := p
      by_cases hc : ds.length + es.length ≤ sizeLine
      · rw [if_pos hc] at p'
        refine .inr (.inr (.inr ⟨a, b, xs, ys, e1, e2, s.tup t1, s.tup t2, by rw [r1.length, r2.length]; exact hc, fun e => ?_, fun e => ?_, fun l hl => p'.tup s (r1.append r2) hl⟩))
        · have z : ds = [] := by have := r1.length; rw [e] at this; exact List.length_eq_zero_iff.mp this.symm
          subst z
          exact p'.same s ⟨b, ys, rfl, t2, r2⟩
        · have z : es = [] := by have := r2.length; rw [e] at this; exact List.length_eq_zero_iff.mp this.symm
          subst z
          rw [List.append_nil] at p'
          exact p'.same s ⟨a, xs, rfl, t1, r1⟩
      · rw [if_neg hc] at p'; exact p'.stuck
    | _ => exact Post.stuck p
  | _ => exact Post.stuck p
theorem getI_at {F H : Hp} {Q : VK} {ds : List Dat} {xs : List V} {i : Int} (p : Post K W false F H (getI ds i) Q) (s : Same F H) (r : Deeps K F ds xs) : ∃ v, atI xs i = some v ∧ Q v H := by
  unfold getI at p
  cases e : atI ds i with
  | none => rw [e] at p; exact Post.stuck p
  | some d =>
    rw [e] at p
    unfold atI at e
    cases hj : ixN ds.length i with
    | none => rw [hj] at e; cases e
    | some j =>
      rw [hj] at e
      obtain ⟨v, e1, q⟩ := r.get (show ds[j]? = some d from e)
      refine ⟨v, ?_, p v F H (Step.refl s) q⟩
      unfold atI
      rw [r.length, hj]
      exact e1
theorem x_ix (hK : X.K = K := by rfl) : IxR X (rD2 K W false ixD) := by
  subst hK
  refine ix_seq.imp fun x y H Q h => ?_
  obtain ⟨F, a, b, s, qa, qb, p⟩ := h
  cases a with
  | lst ds =>
    cases b with
    | int i =>
      obtain ⟨a, xs, e1, t1, r1⟩ := qa
      obtain ⟨v, e2, q⟩ := getI_at p s r1
      exact .inl ⟨a, xs, i, v, e1, qb, s.lst t1, e2, q⟩
    | _ => exact Post.stuck p
  | tup ds =>
    cases b with
    | int i =>
      obtain ⟨a, xs, e1, t1, r1⟩ := qa
      obtain ⟨v, e2, q⟩ := getI_at p s r1
      exact .inr (.inl ⟨a, xs, i, v, e1, qb, s.tup t1, e2, q⟩)
    | _ => exact Post.stuck p
  | _ => exact Post.stuck p
theorem c_len (hK : X.K = K := by rfl) : CallD K W own X (.builtin "len") lenD := by
  subst hK
  refine call_len_seq.imp fun xs H Q h => ?_
  obtain ⟨F, ds, s, q, p⟩ := h
  match ds, q, p with
  | [.lst es], ⟨v, vs, e, ⟨a, ys, e1, t, r⟩, e2⟩, p =>
    refine ⟨a, ys, by rw [e, e1, show vs = [] from e2], .inl (s.lst t), ?_⟩
    rw [r.length]
    exact Post.int (own := own) p s
  | [.tup es], ⟨v, vs, e, ⟨a, ys, e1, t, r⟩, e2⟩, p =>
    refine ⟨a, ys, by rw [e, e1, show vs = [] from e2], .inr (s.tup t), ?_⟩
    rw [r.length]
    exact Post.int (own := own) p s
  | [], _, p => exact Post.stuck p
  | [.non], _, p => exact Post.stuck p
  | [.bl _], _, p => exact Post.stuck p
  | [.int _], _, p => exact Post.stuck p
  | [.str _], _, p => exact Post.stuck p
  | [.ins _ _], _, p => exact Post.stuck p
  | [.dic _], _, p => exact Post.stuck p
  | .non :: _ :: _, _, p => exact Post.stuck p
  | .bl _ :: _ :: _, _, p => exact Post.stuck p
  | .int _ :: _ :: _, _, p => exact Post.stuck p
  | .str _ :: _ :: _, _, p => exact Post.stuck p
  | .ins _ _ :: _ :: _, _, p => exact Post.stuck p
  | .dic _ :: _ :: _, _, p => exact Post.stuck p
  | .lst _ :: _ :: _, _, p => exact Post.stuck p
  | .tup _ :: _ :: _, _, p => exact Post.stuck p
end
end L2
namespace L2
open PySem PySem.Spec PyProof.Rows
section
variable {X : Cx} {K : PySem.W.Frag} {W : Wish} {own ro : Bool}
theorem one_arg {g : List Dat → M Dat} (hg : ∀ ds, (∃ d, ds = [d]) ∨ g ds = stk) {xs : List V} {H : Hp} {Q : VK} (h : rDL K W own g xs H Q) : ∃ F d x, Same F H ∧ xs = [x] ∧ Deep K F d x ∧ Post K W own F H (g [d]) Q := by
  obtain ⟨F, ds, s, q, p⟩ := h
  rcases hg ds with ⟨d, rfl⟩ | e
  · obtain ⟨v, vs, e, q1, e2⟩ := q
    exact ⟨F, d, v, s, by rw [e, show vs = [] from e2], q1, p⟩
  · rw [e] at p; exact p.stuck
theorem two_arg {g : List Dat → M Dat} (hg : ∀ ds, (∃ d, ds = [d]) ∨ (∃ d e, ds = [d, e]) ∨ g ds = stk) {xs : List V} {H : Hp} {Q : VK} (h : rDL K W own g xs H Q) : (∃ F d x, Same F H ∧ xs = [x] ∧ Deep K F d x ∧ Post K W own F H (g [d]) Q) ∨ ∃ F d e x y, Same F H ∧ xs = [x, y] ∧ Deep K F d x ∧ Deep K F e y ∧ Post K W own F H (g [d, e]) Q := by
  obtain ⟨F, ds, s, q, p⟩ := h
  rcases hg ds with ⟨d, rfl⟩ | ⟨d, e, rfl⟩ | e
  · obtain ⟨v, vs, e, q1, e2⟩ := q
    exact .inl ⟨F, d, v, s, by rw [e, show vs = [] from e2], q1, p⟩
  · obtain ⟨v, vs, e1, q1, w, ws, e2, q2, e3⟩ := q
    exact .inr ⟨F, d, e, v, w, s, by rw [e1, e2, show ws = [] from e3], q1, q2, p⟩
  · rw [e] at p; exact p.stuck
theorem c_abs : CallD K W own X (.builtin "abs") absD := call_abs.imp fun xs H Q h => by
  obtain ⟨F, d, x, s, e, q, p⟩ := one_arg (fun ds => by match ds with | [d] => exact .inl ⟨d, rfl⟩ | [] => exact .inr rfl | a :: b :: c => exact .inr (by cases a <;> rfl)) h
  cases d with
  | int i => exact ⟨i, by rw [e, show x = .int i from q], Post.int (own := own) p s⟩
  | _ => exact Post.stuck p
theorem ints_deep {F : Hp} : ∀ {ds : List Dat} {xs : List V} {bs : List Int}, Deeps K F ds xs → intsD ds = .ok bs → xs = bs.map V.int
  | [], _, _, q, e => by cases e; exact q
  | d :: ds, _, bs, ⟨v, vs, e1, q, r⟩, e => by
    cases d with
    | int b =>
      cases e2 : intsD ds with
      | error x => simp only [intsD, asI, bind_ok, e2, bind_er] at e; cases e
      | ok cs =>
        simp only [intsD, asI, bind_ok, e2] at e
        cases e
        rw [e1, show v = .int b from q, ints_deep r e2]
        rfl
    | _ => cases e
theorem intsD_err : ∀ {ds : List Dat} {e : Err}, intsD ds = .error e → e = .stuck
  | [], _, h => by cases h
  | d :: ds, e, h => by
    cases d with
    | int b =>
      cases e2 : intsD ds with
      | error x => simp only [intsD, asI, bind_ok, e2, bind_er] at h; cases h; exact intsD_err e2
      | ok cs => simp only [intsD, asI, bind_ok, e2] at h; cases h
    | _ => cases h; rfl
theorem c_list (hK : X.K = K := by rfl) : CallD K W true X (.type "list") listD := by
  subst hK
  refine call_list_of.imp fun xs H Q h => ?_
  obtain ⟨F, d, x, s, e, q, p⟩ := one_arg (fun ds => by match ds with | [d] => exact .inl ⟨d, rfl⟩ | [] => exact .inr rfl | a :: b :: c => exact .inr (by cases a <;> rfl)) h
  cases d with
  | lst ds =>
    obtain ⟨a, ys, e1, t, r⟩ := q
    exact ⟨a, ys, by rw [e, e1], .inl (s.lst t), fun l hl => Post.lst p s r hl⟩
  | tup ds =>
    obtain ⟨a, ys, e1, t, r⟩ := q
    exact ⟨a, ys, by rw [e, e1], .inr (s.tup t), fun l hl => Post.lst p s r hl⟩
  | _ => exact Post.stuck p
theorem c_tuple (hK : X.K = K := by rfl) : CallD K W own X (.type "tuple") tupleD := by
  subst hK
  refine call_tuple_of.imp fun xs H Q h => ?_
  obtain ⟨F, d, x, s, e, q, p⟩ := one_arg (fun ds => by match ds with | [d] => exact .inl ⟨d, rfl⟩ | [] => exact .inr rfl | a :: b :: c => exact .inr (by cases a <;> rfl)) h
  cases d with
  | lst ds =>
    obtain ⟨a, ys, e1, t, r⟩ := q
    exact ⟨a, ys, by rw [e, e1], .inl ⟨s.lst t, fun l hl => Post.tup p s r hl⟩⟩
  | tup ds =>
    obtain ⟨a, ys, e1, t, r⟩ := q
    subst e1
    exact ⟨a, ys, e, .inr ⟨s.tup t, Post.same (own := own) p s ⟨a, ys, rfl, t, r⟩⟩⟩
  | _ => exact Post.stuck p
theorem fold_max : ∀ (is : List Int) (i : Int), (is.foldl maxZ i = i ∨ is.foldl maxZ i ∈ is) ∧ i ≤ is.foldl maxZ i ∧ ∀ a ∈ is, a ≤ is.foldl maxZ i
  | [], i => ⟨.inl rfl, Int.le_refl _, fun _ h => nomatch h⟩
  | j :: is, i => by
    obtain ⟨h1, h2, h3⟩ := fold_max is (maxZ i j)
    have z : (maxZ i j = i ∨ maxZ i j = j) ∧ i ≤ maxZ i j ∧ j ≤ maxZ i j := by unfold maxZ; split <;> (refine ⟨?_, ?_, ?_⟩ <;> first | exact .inl rfl | exact .inr rfl | omega)
    rw [List.foldl_cons]
    refine ⟨?_, Int.le_trans z.2.1 h2, fun a ha => ?_⟩
    · rcases h1 with h1 | h1
      · rw [h1]
        rcases z.1 with z | z
        · exact .inl z
        · exact .inr (by rw [z]; exact List.mem_cons_self)
      · exact .inr (List.mem_cons_of_mem _ h1)
    · rcases List.mem_cons.mp ha with e | e
      · rw [e]; exact Int.le_trans z.2.2 h2
      · exact h3 a e
theorem fold_min : ∀ (is : List Int) (i : Int), (is.foldl minZ i = i ∨ is.foldl minZ i ∈ is) ∧ is.foldl minZ i ≤ i ∧ ∀ a ∈ is, is.foldl minZ i ≤ a
  | [], i => ⟨.inl rfl, Int.le_refl _, fun _ h => nomatch h⟩
  | j :: is, i => by
    obtain ⟨h1, h2, h3⟩ := fold_min is (minZ i j)
    have z : (minZ i j = i ∨ minZ i j = j) ∧ minZ i j ≤ i ∧ minZ i j ≤ j := by unfold minZ; split <;> (refine ⟨?_, ?_, ?_⟩ <;> first | exact .inl rfl | exact .inr rfl | omega)
    rw [List.foldl_cons]
    refine ⟨?_, Int.le_trans h2 z.2.1, fun a ha => ?_⟩
    · rcases h1 with h1 | h1
      · rw [h1]
        rcases z.1 with z | z
        · exact .inl z
        · exact .inr (by rw [z]; exact List.mem_cons_self)
      · exact .inr (List.mem_cons_of_mem _ h1)
    · rcases List.mem_cons.mp ha with e | e
      · rw [e]; exact Int.le_trans h2 z.2.2
      · exact h3 a e
theorem fold_max_is {is : List Int} {i m : Int} (h1 : m ∈ i :: is) (h2 : ∀ a ∈ i :: is, a ≤ m) : is.foldl maxZ i = m := by
  obtain ⟨g1, g2, g3⟩ := fold_max is i
  have a1 : is.foldl maxZ i ≤ m := by
    rcases g1 with g | g
    · rw [g]; exact h2 i List.mem_cons_self
    · exact h2 _ (List.mem_cons_of_mem _ g)
  have a2 : m ≤ is.foldl maxZ i := by
    rcases List.mem_cons.mp h1 with e | e
    · rw [e]; exact g2
    · exact g3 m e
  omega
theorem fold_min_is {is : List Int} {i m : Int} (h1 : m ∈ i :: is) (h2 : ∀ a ∈ i :: is, m ≤ a) : is.foldl minZ i = m := by
  obtain ⟨g1, g2, g3⟩ := fold_min is i
  have a1 : m ≤ is.foldl minZ i := by
    rcases g1 with g | g
    · rw [g]; exact h2 i List.mem_cons_self
    · exact h2 _ (List.mem_cons_of_mem _ g)
  have a2 : is.foldl minZ i ≤ m := by
    rcases List.mem_cons.mp h1 with e | e
    · rw [e]; exact g2
    · exact g3 m e
  omega
theorem call_maxL (hc : X.calm = true) : CallR X (.builtin "max") (fun xs H Q => ∃ a i is, xs = [.ref a] ∧ SqL X.K H a ((i :: is).map V.int) ∧ Q (.int (is.foldl maxZ i)) H) := by
  intro pins s σ H xs us Q I r h
  obtain ⟨a, i, is, rfl, hq, q⟩ := h
  obtain ⟨u, rfl, ru⟩ := r.one
  cases ru
  obtain ⟨its, rv, p, hz⟩ := I.list hq
  have hi := intsAre_of rv
  obtain ⟨xs, e⟩ := hi.allInts.items
  have hns : i :: is = xs.toList.map (·.1) := by rw [← hi.numsOf, ← nums_intItems, ← e]
  have hsz : 0 < xs.size := by
    have h3 := congrArg List.length hns
    simp at h3
    omega
  have hl := p.isList
  rw [e] at hl
  refine max_intList (I.ok.hd hc) hl hsz fun v h' tk hv hk => ?_
  obtain ⟨t, rfl⟩ := intItems_at hv
  obtain ⟨h1, h2⟩ := argBest_gt (numAt xs) (xs.size - 1)
  refine ⟨.int _, H, I.kept hk, ⟨t, rfl⟩, ?_⟩
  have := fold_max_is (is := is) (i := i) (m := numAt xs (argBest (fun i j => decide (numAt xs i > numAt xs j)) (xs.size - 1))) (by
      rw [hns, numAt_eq]; exact getD_mem (by rw [List.length_map, Array.length_toList]; omega)) (fun a ha => by
      rw [hns] at ha
      obtain ⟨j, hj, rfl⟩ := mem_getD ha
      rw [List.length_map, Array.length_toList] at hj
      rw [← numAt_eq]; exact h2 j (by omega))
  rw [← this]
  exact q
theorem call_minL (hc : X.calm = true) : CallR X (.builtin "min") (fun xs H Q => ∃ a i is, xs = [.ref a] ∧ SqL X.K H a ((i :: is).map V.int) ∧ Q (.int (is.foldl minZ i)) H) := by
  intro pins s σ H xs us Q I r h
  obtain ⟨a, i, is, rfl, hq, q⟩ := h
  obtain ⟨u, rfl, ru⟩ := r.one
  cases ru
  obtain ⟨its, rv, p, hz⟩ := I.list hq
  have hi := intsAre_of rv
  obtain ⟨xs, e⟩ := hi.allInts.items
  have hns : i :: is = xs.toList.map (·.1) := by rw [← hi.numsOf, ← nums_intItems, ← e]
  have hsz : 0 < xs.size := by
    have h3 := congrArg List.length hns
    simp at h3
    omega
  have hl := p.isList
  rw [e] at hl
  refine min_intList (I.ok.hd hc) hl hsz fun v h' tk hv hk => ?_
  obtain ⟨t, rfl⟩ := intItems_at hv
  obtain ⟨h1, h2⟩ := argBest_lt (numAt xs) (xs.size - 1)
  refine ⟨.int _, H, I.kept hk, ⟨t, rfl⟩, ?_⟩
  have := fold_min_is (is := is) (i := i) (m := numAt xs (argBest (fun i j => decide (numAt xs i < numAt xs j)) (xs.size - 1))) (by
      rw [hns, numAt_eq]; exact getD_mem (by rw [List.length_map, Array.length_toList]; omega)) (fun a ha => by
      rw [hns] at ha
      obtain ⟨j, hj, rfl⟩ := mem_getD ha
      rw [List.length_map, Array.length_toList] at hj
      rw [← numAt_eq]; exact h2 j (by omega))
  rw [← this]
  exact q
theorem c_max (hc : X.calm = true) (hK : X.K = K := by rfl) : CallD K W own X (.builtin "max") maxD := by
  subst hK
  refine ((call_max2 hc).or (call_maxL hc)).imp fun xs H Q h => ?_
  rcases two_arg (fun ds => by match ds with | [d] => exact .inl ⟨d, rfl⟩ | [d, e] => exact .inr (.inl ⟨d, e, rfl⟩) | [] => exact .inr (.inr rfl) | a :: b :: c :: d => exact .inr (.inr (by cases a <;> cases b <;> rfl))) h with ⟨F, d, x, s, e, q, p⟩ | ⟨F, d, d2, x, y, s, e, q, q2, p⟩
  · cases d with
    | lst ds =>
      obtain ⟨a, ys, e1, t, r⟩ := q
      have p' : Post X.K W own F H ((intsD ds).bind maxL) Q := p
      cases eb : intsD ds with
      | error z => rw [eb] at p'; have := intsD_err eb; subst this; exact Post.stuck p'
      | ok is =>
        rw [eb] at p'
        cases is with
        | nil => exact Post.stuck p'
        | cons i is =>
          refine .inr ⟨a, i, is, by rw [e, e1], ?_, Post.int (own := own) p' s⟩
          rw [← ints_deep r eb]
          exact s.lst t
    | _ => exact Post.stuck p
  · cases d with
    | int i =>
      cases d2 with
      | int j => exact .inl ⟨i, j, by rw [e, show x = .int i from q, show y = .int j from q2], Post.int (own := own) p s⟩
      | _ => exact Post.stuck p
    | _ => cases d2 <;> exact Post.stuck p
theorem c_min (hc : X.calm = true) (hK : X.K = K := by rfl) : CallD K W own X (.builtin "min") minD := by
  subst hK
  refine ((call_min2 hc).or (call_minL hc)).imp fun xs H Q h => ?_
  rcases two_arg (fun ds => by match ds with | [d] => exact .inl ⟨d, rfl⟩ | [d, e] => exact .inr (.inl ⟨d, e, rfl⟩) | [] => exact .inr (.inr rfl) | a :: b :: c :: d => exact .inr (.inr (by cases a <;> cases b <;> rfl))) h with ⟨F, d, x, s, e, q, p⟩ | ⟨F, d, d2, x, y, s, e, q, q2, p⟩
  · cases d with
    | lst ds =>
      obtain ⟨a, ys, e1, t, r⟩ := q
      have p' : Post X.K W own F H ((intsD ds).bind minL) Q := p
      cases eb : intsD ds with
      | error z => rw [eb] at p'; have := intsD_err eb; subst this; exact Post.stuck p'
      | ok is =>
        rw [eb] at p'
        cases is with
        | nil => exact Post.stuck p'
        | cons i is =>
          refine .inr ⟨a, i, is, by rw [e, e1], ?_, Post.int (own := own) p' s⟩
          rw [← ints_deep r eb]
          exact s.lst t
    | _ => exact Post.stuck p
  · cases d with
    | int i =>
      cases d2 with
      | int j => exact .inl ⟨i, j, by rw [e, show x = .int i from q, show y = .int j from q2], Post.int (own := own) p s⟩
      | _ => exact Post.stuck p
    | _ => cases d2 <;> exact Post.stuck p
end
section
variable {X : Cx} {K : PySem.W.Frag} {W : Wish} {own ro : Bool}
theorem SqL.inj {pins : List (Addr × Obj)} {σ : St} {H : Hp} {s : Shared} {a : Addr} {xs ys : List V} (I : Inv X pins σ H s) (h : SqL X.K H a xs) (h' : SqL X.K H a ys) : xs = ys := by
  obtain ⟨i1, r1, p1, _⟩ := I.list h
  obtain ⟨i2, r2, p2, _⟩ := I.list h'
  obtain ⟨o, n, e, _, _, d⟩ := p1
  obtain ⟨o', n', e', _, _, d'⟩ := p2
  rw [e] at e'
  cases e'
  rw [d] at d'
  injection d' with d1 _
  have : i1 = i2 := by simpa using congrArg Array.toList d1
  subst this
  exact r1.inj r2
theorem SqT.inj {pins : List (Addr × Obj)} {σ : St} {H : Hp} {s : Shared} {a : Addr} {xs ys : List V} (I : Inv X pins σ H s) (h : SqT X.K H a xs) (h' : SqT X.K H a ys) : xs = ys := by
  obtain ⟨i1, r1, p1, _⟩ := I.tuple h
  obtain ⟨i2, r2, p2, _⟩ := I.tuple h'
  obtain ⟨o, e, _, n, d⟩ := p1
  obtain ⟨o', e', _, n', d'⟩ := p2
  rw [e] at e'
  cases e'
  rw [d] at d'
  injection d' with d1 _
  have : i1 = i2 := by simpa using congrArg Array.toList d1
  subst this
  exact r1.inj r2
theorem Deeps.all_eq {F : Hp} (e : Nat → Bool) : ∀ {ds es : List Dat}, ds.length = es.length → (∀ (j : Nat) a b, ds[j]? = some a → es[j]? = some b → e j = eqD a b) → (List.range ds.length).all e = eqDs ds es := by
  intro ds
  induction ds generalizing e with
  | nil => intro es h _; cases es with
    | nil => rfl
    | cons _ _ => simp at h
  | cons d ds ih =>
    intro es h q
    cases es with
    | nil => simp at h
    | cons b es =>
      rw [List.length_cons, List.range_succ_eq_map, List.all_cons, List.all_map, eqDs]
      rw [q 0 d b rfl rfl]
      congr 1
      exact ih (e ∘ Nat.succ) (by simpa using h) fun j x y hx hy => q (j + 1) x y (by simpa using hx) (by simpa using hy)
theorem eqDs_len : ∀ {ds es : List Dat}, ds.length ≠ es.length → eqDs ds es = false
  | [], [], h => absurd rfl h
  | [], _ :: _, _ => rfl
  | _ :: _, [], _ => rfl
  | d :: ds, e :: es, h => by
    rw [eqDs, eqDs_len (ds := ds) (es := es) (fun z => h (by simp [z])), Bool.and_false]
theorem eqDs_zip (e : Nat → Bool) : ∀ {ds es : List Dat}, (∀ (j : Nat) a b, ds[j]? = some a → es[j]? = some b → e j = eqD a b) → ((List.range (min ds.length es.length)).all e && ds.length == es.length) = eqDs ds es := by
  intro ds es q
  by_cases hl : ds.length = es.length
  · have e1 : min ds.length es.length = ds.length := by omega
    rw [e1, Deeps.all_eq (F := fun _ => none) e hl q, hl, beq_self_eq_true, Bool.and_true]
  · rw [eqDs_len hl]
    have : (ds.length == es.length) = false := by simpa using hl
    rw [this, Bool.and_false]
mutual
theorem eqD_refl : ∀ {d : Dat} {n : Nat}, okE d n = true → eqD d d = true
  | .non, _, _ => rfl
  | .bl b, _, _ => by simp [eqD]
  | .int i, _, _ => by simp [eqD]
  | .str x, _, _ => by simp [eqD]
  | .tup ds, 0, h => by simp [okE] at h
  | .tup ds, n + 1, h => by simp only [okE] at h; simp only [eqD]; exact eqDs_refl h
  | .lst ds, 0, h => by simp [okE] at h
  | .lst ds, n + 1, h => by simp only [okE] at h; simp only [eqD]; exact eqDs_refl h
  | .ins _ _, _, h => by simp [okE] at h
  | .dic _, _, h => by simp [okE] at h
theorem eqDs_refl : ∀ {ds : List Dat} {n : Nat}, okEs ds n = true → eqDs ds ds = true
  | [], _, _ => rfl
  | d :: ds, n, h => by
    simp only [okEs, Bool.and_eq_true] at h
    simp only [eqDs, eqD_refl h.1, eqDs_refl h.2, Bool.and_self]
end
theorem okEs_get : ∀ {ds : List Dat} {n i : Nat} {d : Dat}, okEs ds n = true → ds[i]? = some d → okE d n = true
  | [], _, _, _, _, h => by simp at h
  | _ :: _, _, 0, _, h, e => by
    simp only [okEs, Bool.and_eq_true] at h
    simp at e
    rw [← e]; exact h.1
  | _ :: _, _, i + 1, _, h, e => by
    simp only [okEs, Bool.and_eq_true] at h
    exact okEs_get h.2 (by simpa using e)
end
noncomputable def eqAtJ (ds es : List Dat) (j : Nat) : Bool := match ds[j]?, es[j]? with
  | some a, some b => eqD a b
  | _, _ => true
inductive Sh (s : Shared) : Dat → Value → Prop
  | non : Sh s .non .none
  | bl (b : Bool) : Sh s (.bl b) (.bool b)
  | int (i : Int) (t : Nat) : Sh s (.int i) (.int i t)
  | str (x : Str) (t : Nat) : Sh s (.str x) (.str x t)
  | tup {ds : List Dat} {l : Addr} {is : Array Value} (p : s.heap.IsTuple l is) : Sh s (.tup ds) (.ref l)
  | lst {ds : List Dat} {l : Addr} {is : Array Value} (p : s.heap.IsList l is) : Sh s (.lst ds) (.ref l)
noncomputable def sq : Dat → Dat → Bool
  | .tup _, .tup _ => true
  | .lst _, .lst _ => true
  | _, _ => false
theorem sq_inv {a b : Dat} (h : sq a b = true) : (∃ ds es, a = .tup ds ∧ b = .tup es) ∨ ∃ ds es, a = .lst ds ∧ b = .lst es := by
  unfold sq at h
  split at h
  · exact .inl ⟨_, _, rfl, rfl⟩
  · exact .inr ⟨_, _, rfl, rfl⟩
  · cases h
theorem eqAt_U {s : Shared} {a b : Dat} {u v : Value} {A : Around} (ha : Sh s a u) (hb : Sh s b v) (hu : A.units < cLine) : sq a b = true ∨ SeqAt.EqAt A s u v (eqD a b) := match ha, hb with
  | .non, .non => .inr (.same _)
  | .non, .bl b => .inr (.none_bool b)
  | .non, .int b t2 => .inr (.none_int b t2)
  | .non, .str b t2 => .inr (.none_str b t2)
  | .non, .tup q => .inr (.none_tuple q hu)
  | .non, .lst q => .inr (.none_list q hu)
  | .bl a, .non => .inr (.bool_none a)
  | .bl a, .bl b => .inr (.bool_bool a b)
  | .bl a, .int b t2 => .inr (.bool_int a b t2)
  | .bl a, .str b t2 => .inr (.bool_str a b t2)
  | .bl a, .tup q => .inr (.bool_tuple a q hu)
  | .bl a, .lst q => .inr (.bool_list a q hu)
  | .int a t, .non => .inr (.int_none a t)
  | .int a t, .bl b => .inr (.int_bool a t b)
  | .int a t, .int b t2 => .inr (.int_int a t b t2)
  | .int a t, .str b t2 => .inr (.int_str a t b t2)
  | .int a t, .tup q => .inr (.int_tuple a t q hu)
  | .int a t, .lst q => .inr (.int_list a t q hu)
  | .str a t, .non => .inr (.str_none a t)
  | .str a t, .bl b => .inr (.str_bool a t b)
  | .str a t, .int b t2 => .inr (.str_int a t b t2)
  | .str a t, .str b t2 => .inr (.str_str a t b t2)
  | .str a t, .tup q => .inr (.str_tuple a t q hu)
  | .str a t, .lst q => .inr (.str_list a t q hu)
  | .tup p, .non => .inr (.tuple_none p hu)
  | .tup p, .bl b => .inr (.tuple_bool b p hu)
  | .tup p, .int b t2 => .inr (.tuple_int b t2 p hu)
  | .tup p, .str b t2 => .inr (.tuple_str b t2 p hu)
  | .tup _, .tup _ => .inl rfl
  | .tup p, .lst q => .inr (.tuple_list p q hu)
  | .lst p, .non => .inr (.list_none p hu)
  | .lst p, .bl b => .inr (.list_bool b p hu)
  | .lst p, .int b t2 => .inr (.list_int b t2 p hu)
  | .lst p, .str b t2 => .inr (.list_str b t2 p hu)
  | .lst p, .tup q => .inr (.list_tuple p q hu)
  | .lst _, .lst _ => .inl rfl
theorem rcAt_U {s : Shared} {a b : Dat} {u v : Value} {A : Around} (ha : Sh s a u) (hb : Sh s b v) (hu : A.units < cLine) : sq a b = true ∨ SeqAt.RcAt A s u v (eqD a b) := match ha, hb with
  | .non, .non => .inr (.none_none)
  | .non, .bl b => .inr (.none_bool b)
  | .non, .int b t2 => .inr (.none_int b t2)
  | .non, .str b t2 => .inr (.none_str b t2)
  | .non, .tup q => .inr (.none_tuple q hu)
  | .non, .lst q => .inr (.none_list q hu)
  | .bl a, .non => .inr (.bool_none a)
  | .bl a, .bl b => .inr (.bool_bool a b)
  | .bl a, .int b t2 => .inr (.bool_int a b t2)
  | .bl a, .str b t2 => .inr (.bool_str a b t2)
  | .bl a, .tup q => .inr (.bool_tuple a q hu)
  | .bl a, .lst q => .inr (.bool_list a q hu)
  | .int a t, .non => .inr (.int_none a t)
  | .int a t, .bl b => .inr (.int_bool a t b)
  | .int a t, .int b t2 => .inr (.int_int a t b t2)
  | .int a t, .str b t2 => .inr (.int_str a t b t2)
  | .int a t, .tup q => .inr (.int_tuple a t q hu)
  | .int a t, .lst q => .inr (.int_list a t q hu)
  | .str a t, .non => .inr (.str_none a t)
  | .str a t, .bl b => .inr (.str_bool a t b)
  | .str a t, .int b t2 => .inr (.str_int a t b t2)
  | .str a t, .str b t2 => .inr (.str_str a t b t2)
  | .str a t, .tup q => .inr (.str_tuple a t q hu)
  | .str a t, .lst q => .inr (.str_list a t q hu)
  | .tup p, .non => .inr (.tuple_none p hu)
  | .tup p, .bl b => .inr (.tuple_bool b p hu)
  | .tup p, .int b t2 => .inr (.tuple_int b t2 p hu)
  | .tup p, .str b t2 => .inr (.tuple_str b t2 p hu)
  | .tup _, .tup _ => .inl rfl
  | .tup p, .lst q => .inr (.tuple_list p q hu)
  | .lst p, .non => .inr (.list_none p hu)
  | .lst p, .bl b => .inr (.list_bool b p hu)
  | .lst p, .int b t2 => .inr (.list_int b t2 p hu)
  | .lst p, .str b t2 => .inr (.list_str b t2 p hu)
  | .lst p, .tup q => .inr (.list_tuple p q hu)
  | .lst _, .lst _ => .inl rfl
theorem rcNeAt_U {s : Shared} {a b : Dat} {u v : Value} {A : Around} (ha : Sh s a u) (hb : Sh s b v) (hu : A.units < cLine) : sq a b = true ∨ SeqAt.RcNeAt A s u v (!eqD a b) := match ha, hb with
  | .non, .non => .inr (.none_none)
  | .non, .bl b => .inr (.none_bool b)
  | .non, .int b t2 => .inr (.none_int b t2)
  | .non, .str b t2 => .inr (.none_str b t2)
  | .non, .tup q => .inr (.none_tuple q hu)
  | .non, .lst q => .inr (.none_list q hu)
  | .bl a, .non => .inr (.bool_none a)
  | .bl a, .bl b => .inr (.bool_bool a b)
  | .bl a, .int b t2 => .inr (.bool_int a b t2)
  | .bl a, .str b t2 => .inr (.bool_str a b t2)
  | .bl a, .tup q => .inr (.bool_tuple a q hu)
  | .bl a, .lst q => .inr (.bool_list a q hu)
  | .int a t, .non => .inr (.int_none a t)
  | .int a t, .bl b => .inr (.int_bool a t b)
  | .int a t, .int b t2 => .inr (.int_int a t b t2)
  | .int a t, .str b t2 => .inr (.int_str a t b t2)
  | .int a t, .tup q => .inr (.int_tuple a t q hu)
  | .int a t, .lst q => .inr (.int_list a t q hu)
  | .str a t, .non => .inr (.str_none a t)
  | .str a t, .bl b => .inr (.str_bool a t b)
  | .str a t, .int b t2 => .inr (.str_int a t b t2)
  | .str a t, .str b t2 => .inr (.str_str a t b t2)
  | .str a t, .tup q => .inr (.str_tuple a t q hu)
  | .str a t, .lst q => .inr (.str_list a t q hu)
  | .tup p, .non => .inr (.tuple_none p hu)
  | .tup p, .bl b => .inr (.tuple_bool b p hu)
  | .tup p, .int b t2 => .inr (.tuple_int b t2 p hu)
  | .tup p, .str b t2 => .inr (.tuple_str b t2 p hu)
  | .tup _, .tup _ => .inl rfl
  | .tup p, .lst q => .inr (.tuple_list p q hu)
  | .lst p, .non => .inr (.list_none p hu)
  | .lst p, .bl b => .inr (.list_bool b p hu)
  | .lst p, .int b t2 => .inr (.list_int b t2 p hu)
  | .lst p, .str b t2 => .inr (.list_str b t2 p hu)
  | .lst p, .tup q => .inr (.list_tuple p q hu)
  | .lst _, .lst _ => .inl rfl
section
variable {X : Cx} {pins : List (Addr × Obj)} {σ : St} {F H : Hp} {s : Shared}
theorem sh_of (I : Inv X pins σ H s) (hF : Same F H) {d : Dat} {x : V} {u : Value} {n : Nat} (o : okE d n = true) (q : Deep X.K F d x) (r : RelV x u) : Sh s d u := by
  cases d with
  | non => cases (show x = .non from q); cases r; exact .non
  | bl b => cases (show x = .bl b from q); cases r; exact .bl b
  | int i => cases (show x = .int i from q); obtain ⟨t, rfl⟩ := r; exact .int i t
  | str y => cases (show x = .str y from q); obtain ⟨t, rfl⟩ := r; exact .str y t
  | tup ds =>
    obtain ⟨l, xs, e, t, _⟩ := q
    subst e
    cases r
    obtain ⟨is, _, p, _⟩ := I.tuple (hF.tup t)
    exact .tup (show s.heap.IsTuple l is.toArray from p)
  | lst ds =>
    obtain ⟨l, xs, e, t, _⟩ := q
    subst e
    cases r
    obtain ⟨is, _, p, _⟩ := I.list (hF.lst t)
    exact .lst p.isList
  | _ => simp [okE] at o
theorem deeps_inj {n : Nat} (ih : ∀ (d e : Dat) {v : V}, Deep X.K F d v → Deep X.K F e v → okE d n = true → okE e n = true → d = e) : ∀ (ds es : List Dat) {xs : List V}, Deeps X.K F ds xs → Deeps X.K F es xs → okEs ds n = true → okEs es n = true → ds = es
  | [], [], _, _, _, _, _ => rfl
  | [], _ :: _, _, q, ⟨_, _, e, _⟩, _, _ => by rw [show _ = [] from q] at e; cases e
  | _ :: _, [], _, ⟨_, _, e, _⟩, q, _, _ => by rw [show _ = [] from q] at e; cases e
  | d :: ds, e :: es, _, ⟨v, vs, e1, q1, r1⟩, ⟨w, ws, e2, q2, r2⟩, o1, o2 => by
    rw [e1] at e2
    cases e2
    simp only [okEs, Bool.and_eq_true] at o1 o2
    rw [ih d e q1 q2 o1.1 o2.1, deeps_inj ih ds es r1 r2 o1.2 o2.2]
theorem deep_one {d e : Dat} {v : V} {n : Nat} (hd : sq d d = false) (q : Deep X.K F d v) (r : Deep X.K F e v) (o1 : okE d n = true) (o2 : okE e n = true) : d = e := by
  cases d <;> first | (cases hd; done) | (simp [okE] at o1; done) | (simp only [Deep] at q; subst q)
  all_goals cases e <;> first | (simp [okE] at o2; done) | (simp only [Deep] at r; first | (obtain ⟨_, _, z, _⟩ := r; cases z; done) | (cases r <;> rfl))
theorem deep_inj (I : Inv X pins σ H s) (hF : Same F H) : ∀ (n : Nat) (d e : Dat) {v : V}, Deep X.K F d v → Deep X.K F e v → okE d n = true → okE e n = true → d = e
  | n, .tup ds, e, v, ⟨l, xs, e1, h1, r1⟩, r, o1, o2 => by
    subst e1
    cases n with
    | zero => simp [okE] at o1
    | succ n =>
      cases e with
      | tup es =>
        obtain ⟨l2, ys, e2, h2, r2⟩ := r
        cases e2
        cases SqT.inj I (hF.tup h1) (hF.tup h2)
        rw [deeps_inj (deep_inj I hF n) _ _ r1 r2 (by simpa only [okE] using o1) (by simpa only [okE] using o2)]
      | lst es =>
        obtain ⟨l2, ys, e2, h2, r2⟩ := r
        cases e2
        obtain ⟨i1, _, p1, _⟩ := I.list (hF.lst h2)
        obtain ⟨i2, _, p2, _⟩ := I.tuple (hF.tup h1)
        exact absurd rfl (SeqAt.ne_of_list_tuple p1.isList (show s.heap.IsTuple l i2.toArray from p2))
      | _ => first | (simp [okE] at o2; done) | (simp only [Deep] at r; cases r)
  | n, .lst ds, e, v, ⟨l, xs, e1, h1, r1⟩, r, o1, o2 => by
    subst e1
    cases n with
    | zero => simp [okE] at o1
    | succ n =>
      cases e with
      | lst es =>
        obtain ⟨l2, ys, e2, h2, r2⟩ := r
        cases e2
        cases SqL.inj I (hF.lst h1) (hF.lst h2)
        rw [deeps_inj (deep_inj I hF n) _ _ r1 r2 (by simpa only [okE] using o1) (by simpa only [okE] using o2)]
      | tup es =>
        obtain ⟨l2, ys, e2, h2, r2⟩ := r
        cases e2
        obtain ⟨i1, _, p1, _⟩ := I.list (hF.lst h1)
        obtain ⟨i2, _, p2, _⟩ := I.tuple (hF.tup h2)
        exact absurd rfl (SeqAt.ne_of_list_tuple p1.isList (show s.heap.IsTuple l i2.toArray from p2))
      | _ => first | (simp [okE] at o2; done) | (simp only [Deep] at r; cases r)
  | _, .non, _, _, q, r, o1, o2 => deep_one rfl q r o1 o2
  | _, .bl _, _, _, q, r, o1, o2 => deep_one rfl q r o1 o2
  | _, .int _, _, _, q, r, o1, o2 => deep_one rfl q r o1 o2
  | _, .str _, _, _, q, r, o1, o2 => deep_one rfl q r o1 o2
  | _, .ins _ _, _, _, _, _, o1, _ => by simp [okE] at o1
  | _, .dic _, _, _, _, _, o1, _ => by simp [okE] at o1
termination_by n => n
theorem rcAt_S {a b : Dat} {x y : V} {u v : Value} {A : Around} (I : Inv X pins σ H s) (hF : Same F H) (hs : sq a b = true) (qa : Deep X.K F a x) (qb : Deep X.K F b y) (ra : RelV x u) (rb : RelV y v) (hu : A.units < cLine)
    (ih : ∀ (ds es : List Dat) (j : Nat) (d1 d2 : Dat) (x y : V) (u v : Value), (a = .tup ds ∧ b = .tup es ∨ a = .lst ds ∧ b = .lst es) → ds[j]? = some d1 → es[j]? = some d2 → Deep X.K F d1 x → Deep X.K F d2 y → RelV x u → RelV y v → SeqAt.EqAt A.in1 s u v (eqD d1 d2)) : SeqAt.RcAt A s u v (eqD a b) := by
  rcases sq_inv hs with ⟨ds, es, rfl, rfl⟩ | ⟨ds, es, rfl, rfl⟩
  · skip
    obtain ⟨l1, xs, e1, h1, r1⟩ := qa
    subst e1
    cases ra
    obtain ⟨is, w1, p1, _⟩ := I.tuple (hF.tup h1)
    obtain ⟨l2, ys, e2, h2, r2⟩ := qb
    subst e2
    cases rb
    obtain ⟨js, w2, p2, _⟩ := I.tuple (hF.tup h2)
    have z1 := w1.length
    have z2 := w2.length
    have y1 := r1.length
    have y2 := r2.length
    have q := SeqAt.RcAt.tuples (A := A) (e := eqAtJ ds es) (show s.heap.IsTuple l1 is.toArray from p1) (show s.heap.IsTuple l2 js.toArray from p2) hu (fun j h1 h2 => by
      obtain ⟨x', f1, g1⟩ := w1.atA h1
      obtain ⟨y', f2, g2⟩ := w2.atA h2
      obtain ⟨d1, k1, m1⟩ := r1.at f1
      obtain ⟨d2, k2, m2⟩ := r2.at f2
      rw [show eqAtJ ds es j = eqD d1 d2 by simp only [eqAtJ, k1, k2]]
      exact ih ds es j d1 d2 x' y' _ _ (.inl ⟨rfl, rfl⟩) k1 k2 m1 m2 g1 g2)
    rw [show is.toArray.size = ds.length by simp; omega, show js.toArray.size = es.length by simp; omega, eqDs_zip _ (fun j a b h1 h2 => by simp only [eqAtJ, h1, h2])] at q
    exact q
  · skip
    obtain ⟨l1, xs, e1, h1, r1⟩ := qa
    subst e1
    cases ra
    obtain ⟨is, w1, p1, _⟩ := I.list (hF.lst h1)
    obtain ⟨l2, ys, e2, h2, r2⟩ := qb
    subst e2
    cases rb
    obtain ⟨js, w2, p2, _⟩ := I.list (hF.lst h2)
    have z1 := w1.length
    have z2 := w2.length
    have y1 := r1.length
    have y2 := r2.length
    by_cases hl : ds.length = es.length
    · have q := SeqAt.RcAt.lists (A := A) (e := eqAtJ ds es) p1.isList p2.isList (by simp; omega) hu (fun j h1 h2 => by
      obtain ⟨x', f1, g1⟩ := w1.atA h1
      obtain ⟨y', f2, g2⟩ := w2.atA h2
      obtain ⟨d1, k1, m1⟩ := r1.at f1
      obtain ⟨d2, k2, m2⟩ := r2.at f2
      rw [show eqAtJ ds es j = eqD d1 d2 by simp only [eqAtJ, k1, k2]]
      exact ih ds es j d1 d2 x' y' _ _ (.inr ⟨rfl, rfl⟩) k1 k2 m1 m2 g1 g2)
      rw [show is.toArray.size = ds.length by simp; omega, Deeps.all_eq (F := F) _ hl (fun j a b h1 h2 => by simp only [eqAtJ, h1, h2])] at q
      exact q
    · rw [show eqD (.lst ds) (.lst es) = false from eqDs_len hl]
      exact SeqAt.RcAt.lists_lengths (A := A) p1.isList p2.isList (by simp; omega) hu
theorem rcNeAt_S {a b : Dat} {x y : V} {u v : Value} {A : Around} (I : Inv X pins σ H s) (hF : Same F H) (hs : sq a b = true) (qa : Deep X.K F a x) (qb : Deep X.K F b y) (ra : RelV x u) (rb : RelV y v) (hu : A.units < cLine)
    (ih : ∀ (ds es : List Dat) (j : Nat) (d1 d2 : Dat) (x y : V) (u v : Value), (a = .tup ds ∧ b = .tup es ∨ a = .lst ds ∧ b = .lst es) → ds[j]? = some d1 → es[j]? = some d2 → Deep X.K F d1 x → Deep X.K F d2 y → RelV x u → RelV y v → SeqAt.EqAt A.in1 s u v (eqD d1 d2)) : SeqAt.RcNeAt A s u v (!eqD a b) := by
  rcases sq_inv hs with ⟨ds, es, rfl, rfl⟩ | ⟨ds, es, rfl, rfl⟩
  · skip
    obtain ⟨l1, xs, e1, h1, r1⟩ := qa
    subst e1
    cases ra
    obtain ⟨is, w1, p1, _⟩ := I.tuple (hF.tup h1)
    obtain ⟨l2, ys, e2, h2, r2⟩ := qb
    subst e2
    cases rb
    obtain ⟨js, w2, p2, _⟩ := I.tuple (hF.tup h2)
    have z1 := w1.length
    have z2 := w2.length
    have y1 := r1.length
    have y2 := r2.length
    have q := SeqAt.RcNeAt.tuples (A := A) (e := eqAtJ ds es) (show s.heap.IsTuple l1 is.toArray from p1) (show s.heap.IsTuple l2 js.toArray from p2) hu (fun j h1 h2 => by
      obtain ⟨x', f1, g1⟩ := w1.atA h1
      obtain ⟨y', f2, g2⟩ := w2.atA h2
      obtain ⟨d1, k1, m1⟩ := r1.at f1
      obtain ⟨d2, k2, m2⟩ := r2.at f2
      rw [show eqAtJ ds es j = eqD d1 d2 by simp only [eqAtJ, k1, k2]]
      exact ih ds es j d1 d2 x' y' _ _ (.inl ⟨rfl, rfl⟩) k1 k2 m1 m2 g1 g2)
    rw [show is.toArray.size = ds.length by simp; omega, show js.toArray.size = es.length by simp; omega, eqDs_zip _ (fun j a b h1 h2 => by simp only [eqAtJ, h1, h2])] at q
    exact q
  · skip
    obtain ⟨l1, xs, e1, h1, r1⟩ := qa
    subst e1
    cases ra
    obtain ⟨is, w1, p1, _⟩ := I.list (hF.lst h1)
    obtain ⟨l2, ys, e2, h2, r2⟩ := qb
    subst e2
    cases rb
    obtain ⟨js, w2, p2, _⟩ := I.list (hF.lst h2)
    have z1 := w1.length
    have z2 := w2.length
    have y1 := r1.length
    have y2 := r2.length
    by_cases hl : ds.length = es.length
    · have q := SeqAt.RcNeAt.lists (A := A) (e := eqAtJ ds es) p1.isList p2.isList (by simp; omega) hu (fun j h1 h2 => by
      obtain ⟨x', f1, g1⟩ := w1.atA h1
      obtain ⟨y', f2, g2⟩ := w2.atA h2
      obtain ⟨d1, k1, m1⟩ := r1.at f1
      obtain ⟨d2, k2, m2⟩ := r2.at f2
      rw [show eqAtJ ds es j = eqD d1 d2 by simp only [eqAtJ, k1, k2]]
      exact ih ds es j d1 d2 x' y' _ _ (.inr ⟨rfl, rfl⟩) k1 k2 m1 m2 g1 g2)
      rw [show is.toArray.size = ds.length by simp; omega, Deeps.all_eq (F := F) _ hl (fun j a b h1 h2 => by simp only [eqAtJ, h1, h2])] at q
      exact q
    · rw [show eqD (.lst ds) (.lst es) = false from eqDs_len hl]
      exact SeqAt.RcNeAt.lists_lengths (A := A) p1.isList p2.isList (by simp; omega) hu
theorem ok_sub {a b d1 d2 : Dat} {n j : Nat} {ds es : List Dat} (oa : okE a n = true) (ob : okE b n = true) (h : a = .tup ds ∧ b = .tup es ∨ a = .lst ds ∧ b = .lst es) (k1 : ds[j]? = some d1) (k2 : es[j]? = some d2) : ∃ m, n = m + 1 ∧ okE d1 m = true ∧ okE d2 m = true := by
  cases n with
  | zero => rcases h with ⟨rfl, rfl⟩ | ⟨rfl, rfl⟩ <;> simp [okE] at oa
  | succ m => exact ⟨m, rfl, by rcases h with ⟨rfl, rfl⟩ | ⟨rfl, rfl⟩ <;> simp only [okE] at oa ob <;> exact ⟨okEs_get oa k1, okEs_get ob k2⟩⟩
theorem eqAt_N (I : Inv X pins σ H s) (hF : Same F H) : ∀ (n : Nat) (a b : Dat) {x y : V} {u v : Value} {A : Around}, okE a n = true → okE b n = true → Deep X.K F a x → Deep X.K F b y → RelV x u → RelV y v → A.units + n < cLine → SeqAt.EqAt A s u v (eqD a b) := by
  intro n
  induction n with
  | zero =>
    intro a b x y u v A oa ob qa qb ra rb hu
    refine (eqAt_U (sh_of I hF oa qa ra) (sh_of I hF ob qb rb) (by omega)).resolve_left fun h => ?_
    rcases sq_inv h with ⟨ds, es, rfl, rfl⟩ | ⟨ds, es, rfl, rfl⟩ <;> simp [okE] at oa
  | succ n ih =>
    intro a b x y u v A oa ob qa qb ra rb hu
    rcases eqAt_U (A := A) (sh_of I hF oa qa ra) (sh_of I hF ob qb rb) (by omega) with h | h
    · by_cases hab : x = y
      · subst hab
        cases (show a = b from deep_inj I hF (n + 1) a b qa qb oa ob)
        rw [eqD_refl oa]
        rcases sq_inv h with ⟨ds, es, rfl, _⟩ | ⟨ds, es, rfl, _⟩ <;> (obtain ⟨l1, xs, e1, _⟩ := qa; subst e1; cases ra; cases rb; exact SeqAt.EqAt.same _)
      · have q := rcAt_S (A := A) I hF h qa qb ra rb (by omega) fun ds es j d1 d2 x' y' u' v' hs k1 k2 m1 m2 g1 g2 => by
          obtain ⟨m, e, o1, o2⟩ := ok_sub oa ob hs k1 k2
          cases e
          exact ih d1 d2 o1 o2 m1 m2 g1 g2 (by show A.units + 1 + n < cLine; omega)
        rcases sq_inv h with ⟨ds, es, rfl, rfl⟩ | ⟨ds, es, rfl, rfl⟩ <;> (obtain ⟨l1, xs, e1, _⟩ := qa; obtain ⟨l2, ys, e2, _⟩ := qb; subst e1; subst e2; cases ra; cases rb; exact SeqAt.EqAt.of_refs (fun z => hab (by rw [z])) q)
    · exact h
theorem eqAt_D (I : Inv X pins σ H s) (hF : Same F H) (a b : Dat) {n : Nat} {x y : V} {u v : Value} {A : Around} (oa : okE a n = true) (ob : okE b n = true) (qa : Deep X.K F a x) (qb : Deep X.K F b y) (ra : RelV x u) (rb : RelV y v) (hu : A.units + n < cLine) : SeqAt.EqAt A s u v (eqD a b) := eqAt_N I hF n a b oa ob qa qb ra rb hu
theorem eqAt_I (I : Inv X pins σ H s) (hF : Same F H) {a b : Dat} {n : Nat} {A : Around} (oa : okE a n = true) (ob : okE b n = true) (hu : A.units + n < cLine) (ds es : List Dat) (j : Nat) (d1 d2 : Dat) (x y : V) (u v : Value) (hs : a = .tup ds ∧ b = .tup es ∨ a = .lst ds ∧ b = .lst es) (k1 : ds[j]? = some d1) (k2 : es[j]? = some d2) (m1 : Deep X.K F d1 x) (m2 : Deep X.K F d2 y) (g1 : RelV x u) (g2 : RelV y v) : SeqAt.EqAt A.in1 s u v (eqD d1 d2) := by
  obtain ⟨m, rfl, o1, o2⟩ := ok_sub oa ob hs k1 k2
  exact eqAt_D I hF d1 d2 o1 o2 m1 m2 g1 g2 (by show A.units + 1 + m < cLine; omega)
theorem rcAt_D (I : Inv X pins σ H s) (hF : Same F H) (a b : Dat) {n : Nat} {x y : V} {u v : Value} {A : Around} (oa : okE a n = true) (ob : okE b n = true) (qa : Deep X.K F a x) (qb : Deep X.K F b y) (ra : RelV x u) (rb : RelV y v) (hu : A.units + n < cLine) : SeqAt.RcAt A s u v (eqD a b) :=
  (rcAt_U (sh_of I hF oa qa ra) (sh_of I hF ob qb rb) (by omega)).elim (fun h => rcAt_S I hF h qa qb ra rb (by omega) (eqAt_I I hF oa ob hu)) id
theorem rcNeAt_D (I : Inv X pins σ H s) (hF : Same F H) (a b : Dat) {n : Nat} {x y : V} {u v : Value} {A : Around} (oa : okE a n = true) (ob : okE b n = true) (qa : Deep X.K F a x) (qb : Deep X.K F b y) (ra : RelV x u) (rb : RelV y v) (hu : A.units + n < cLine) : SeqAt.RcNeAt A s u v (!eqD a b) :=
  (rcNeAt_U (sh_of I hF oa qa ra) (sh_of I hF ob qb rb) (by omega)).elim (fun h => rcNeAt_S I hF h qa qb ra rb (by omega) (eqAt_I I hF oa ob hu)) id
end
section
variable {X : Cx} {K : PySem.W.Frag} {W : Wish} {own ro : Bool}
theorem Post.blS {F H : Hp} {Q : VK} {pins : List (Addr × Obj)} {σ : St} {s : Shared} {b : Bool} (p : Post K W own F H (.ok (.bl b)) Q) (s1 : Same F H) (I : Inv X pins σ H s) : EP X pins σ Q (.bool b) s := ⟨.bl b, H, I, rfl, p.bl s1⟩
theorem o_eq (hu : X.A.units + 64 < cLine) (hK : X.K = K := by rfl) : Op2 K W own X (compareOp .Eq) eqM := by
  subst hK
  intro pins s σ H x y v u Q I rx ry h
  obtain ⟨F, a, b, s1, qa, qb, p⟩ := h
  unfold eqM at p
  by_cases hc : (okE a 40 && okE b 40) = true
  · rw [if_pos hc] at p
    simp only [Bool.and_eq_true] at hc
    exact rcAt_D I s1 a b hc.1 hc.2 qa qb rx ry (by omega) _ _ _ _ (p.blS s1 I)
  · rw [if_neg hc] at p; exact p.stuck
theorem o_ne (hu : X.A.units + 64 < cLine) (hK : X.K = K := by rfl) : Op2 K W own X (compareOp .NotEq) neM := by
  subst hK
  intro pins s σ H x y v u Q I rx ry h
  obtain ⟨F, a, b, s1, qa, qb, p⟩ := h
  unfold neM at p
  by_cases hc : (okE a 40 && okE b 40) = true
  · rw [if_pos hc] at p
    simp only [Bool.and_eq_true] at hc
    exact rcNeAt_D I s1 a b hc.1 hc.2 qa qb rx ry (by omega) _ _ _ _ (p.blS s1 I)
  · rw [if_neg hc] at p; exact p.stuck
end
end L2
namespace L2
open PySem PySem.Spec PyProof.Rows
section
variable {X : Cx} {pins : List (Addr × Obj)} {σ : St} {H : Hp} {s : Shared} {h' : Heap}
theorem Inv.turnedT {t' : Nat} {ch : List Addr} {T : Addr} {xs : List V} (I : Inv X pins σ H s) (hf : ∀ b ∈ ch, FpOk X pins H b) (k : ∀ b o, b ∉ ch → s.heap.get? b = some o → h'.get? b = some o) (hT : s.heap.objs.size ≤ T)
    (new : xs.length ≤ sizeLine ∧ ∃ its : List Value, Vals xs its ∧ IsTup h' T its.toArray) : Inv X pins σ (upd H T (.tup xs)) { s with heap := h', toks := t' } := by
  have hTn : H T = none := I.hok.fresh hT
  have nit : ∀ b u, H b = some u → b ∉ ch := fun b u e z => by rw [(hf b z).1] at e; cases e
  have old : ∀ {b : Addr} {o : Obj}, s.heap.get? b = some o → b ≠ T := fun {b o} e => Nat.ne_of_lt (Nat.lt_of_lt_of_le (Heap.lt_size e) hT)
  refine I.step (g' := s.gens) (d' := s.drawn) (ch := ch) (fun b hb => ?_) (fun b o _ _ hc e _ => k b o hc e) (fun b o _ _ hc e _ => ⟨o.slots, k b o hc e⟩) (fun b o _ e n => by rw [upd_ne (old e)]; exact n)
    (fun b o hc e => ⟨o, k b o hc e⟩) (fun b ys e => by rw [upd_ne (ne_of_none e hTn)]; exact e) (fun b o u e => by rw [upd_ne (ne_of_none e hTn)]; exact e) (fun b ps e => ⟨#[], by rw [upd_ne (ne_of_none e hTn), e]; simp⟩) (fun m hm => ?_) (fun b u e => ?_) I.bare
  · obtain ⟨f0, f1, f2, f3, f4, f5⟩ := hf b hb
    exact ⟨f3, f1, f4, f5⟩
  · obtain ⟨o, es, ep, ho, r⟩ := hm
    exact ⟨o, es, ep, k _ o (fun z => (hf _ z).2.1 rfl) ho, r⟩
  · by_cases hb : b = T
    · subst hb
      rw [upd_same] at e
      cases e
      exact new
    · rw [upd_ne hb] at e
      refine (I.hok b u e).stay (fun c v hc q => k c v ?_ q) (fun c q => ?_) fun c ys q => ?_
      · rcases hc with z | z
        · rw [z]; exact nit b u e
        · exact nit c _ z
      · rw [upd_ne (ne_of_none q hTn)]; exact q
      · rw [upd_ne (ne_of_none q hTn)]; exact q
theorem Inv.turnedL {t' : Nat} {ch : List Addr} (I : Inv X pins σ H s) (hf : ∀ b ∈ ch, FpOk X pins H b) (k : ∀ b o, b ∉ ch → s.heap.get? b = some o → h'.get? b = some o) : Inv X pins σ H { s with heap := h', toks := t' } := by
  have nit : ∀ b u, H b = some u → b ∉ ch := fun b u e z => by rw [(hf b z).1] at e; cases e
  refine I.step (g' := s.gens) (d' := s.drawn) (ch := ch) (fun b hb => ?_) (fun b o _ _ hc e _ => k b o hc e) (fun b o _ _ hc e _ => ⟨o.slots, k b o hc e⟩) (fun b o _ e n => n)
    (fun b o hc e => ⟨o, k b o hc e⟩) (fun b ys e => e) (fun b o u e => e) (fun b ps e => ⟨#[], by rw [e]; simp⟩) (fun m hm => ?_) (fun b u e => ?_) I.bare
  · obtain ⟨f0, f1, f2, f3, f4, f5⟩ := hf b hb
    exact ⟨f3, f1, f4, f5⟩
  · obtain ⟨o, es, ep, ho, r⟩ := hm
    exact ⟨o, es, ep, k _ o (fun z => (hf _ z).2.1 rfl) ho, r⟩
  · refine (I.hok b u e).stay (fun c v hc q => k c v ?_ q) (fun _ q => q) fun _ _ q => q
    rcases hc with z | z
    · rw [z]; exact nit b u e
    · exact nit c _ z
end
noncomputable def Ite (K : PySem.W.Frag) (a : Addr) : It :=
  ⟨fun i H => ∃ xs x, SqL K H a xs ∧ xs[i]? = some x, fun i H x H' => ∃ T y, H T = none ∧ x = .ref T ∧ H' = upd H T (.tup [.int i, y]) ∧ ∀ xs, SqL K H a xs → xs[i]? = some y, fun i H => ∃ xs, SqL K H a xs ∧ xs.length ≤ i⟩
theorem turn_enum {P : Program} {w : World} {K : PySem.W.Frag} {elts : List Expr} {k : Nat} {pos : Pos} (a e it : Addr) (hei : e ≠ it) : Turn P w K (.Tuple elts k pos) (Ite K a) [e, it] e (fun i h => (∃ old, IsEnum h e it i old) ∧ h.IsListIter it a i) where
  mem := by simp
  obj := fun i h st b hb => by
    obtain ⟨⟨old, he⟩, o, e1, c, d⟩ := st
    rcases List.mem_cons.mp hb with rfl | hb
    · exact ⟨_, he, fun v z => by cases z⟩
    · have : b = it := by simpa using hb
      subst this
      exact ⟨o, e1, fun v z => by rw [d] at z; cases z⟩
  keep := fun i h h' st kk => by
    obtain ⟨⟨old, he⟩, hit⟩ := st
    exact ⟨⟨old, kk e (by simp) _ he⟩, hit.at fun o x => kk it (by simp) o x⟩
  item := by
    intro X hP hw hK hc i pins s σ H E I hf st hg
    subst hP hw hK
    obtain ⟨⟨old, he⟩, hit⟩ := st
    obtain ⟨xs, x, hq, hx⟩ := hg
    obtain ⟨its, rv, p, hz⟩ := I.list hq
    obtain ⟨u, hu, ru⟩ := rv.get hx
    refine wpAny_pyNext_enum_item he hit p.isList (x := u) (by simpa using hu) hei fun h1 ho hit1 hT hsz hk => ?_
    refine ⟨_, rfl, wpAny_letOwnedTupleGo_enum ho fun h2 he2 hs2 => ?_⟩
    have hlt : e < s.heap.objs.size := Heap.lt_size he
    have hTe : s.heap.objs.size ≠ e := Nat.ne_of_gt hlt
    have I1 : Inv X pins σ (upd H s.heap.objs.size (.tup [.int i, x])) { s with heap := h2, toks := s.toks + 1 } := I.turnedT (ch := [e, it]) hf (fun b o hb q => by
        have h3 := hk b o (fun z => hb (by simp [z])) (fun z => hb (by simp [z])) q
        exact (hs2.2 b (fun z => hb (by simp [z]))).trans h3) (Nat.le_refl _) ⟨by show 2 ≤ sizeLine; decide, [.int i s.toks, u], .cons ⟨_, rfl⟩ (.cons ru .nil), ⟨_, (hs2.2 _ hTe).trans hT, rfl, 0, rfl⟩⟩
    refine ⟨.ref s.heap.objs.size, _, I1, rfl, ⟨s.heap.objs.size, x, I.hok.fresh (Nat.le_refl _), rfl, rfl, fun ys hy => by rw [I.list_inj hy hq]; exact hx⟩, ⟨⟨u, by simpa using he2⟩, hit1.at fun o y => (hs2.2 it hei.symm).trans y⟩, fun b hb => ?_⟩
    have hbn := (hf b hb).1
    have : b ≠ s.heap.objs.size := by
      rcases List.mem_cons.mp hb with rfl | hb
      · exact hTe.symm
      · have : b = it := by simpa using hb
        subst this
        obtain ⟨o, e1, _⟩ := hit
        exact Nat.ne_of_lt (Heap.lt_size e1)
    rw [upd_ne this]
    exact hbn
  done := by
    intro X hP hw hK hc i pins s σ H E I hf st hg
    subst hP hw hK
    obtain ⟨⟨old, he⟩, hit⟩ := st
    obtain ⟨xs, hq, hx⟩ := hg
    obtain ⟨its, rv, p, hz⟩ := I.list hq
    have hl := rv.length
    exact wpAny_pyNext_enum_end (I.ok.hd hc) he hit p.isList (Array.getElem?_eq_none (by simp; omega)) fun h2 eb => ⟨rfl, I.turnedL (t' := s.toks) (ch := [e, it]) hf fun b o hb q => eb b o (fun z => hb (by simp [z])) q⟩
  self := fun _ _ _ _ _ st h => by
    obtain ⟨⟨old, he⟩, _⟩ := st
    exact wpAny_pyIter_enum he h
theorem enumL_get : ∀ (ds : List Dat) (k i : Nat), (enumL k ds)[i]? = (ds[i]?).map fun d => .tup [.int ((k + i : Nat) : Int), d]
  | [], k, i => by simp [enumL]
  | d :: ds, k, 0 => by simp [enumL]
  | d :: ds, k, i + 1 => by
    rw [enumL, List.getElem?_cons_succ, enumL_get ds (k + 1) i, List.getElem?_cons_succ]
    rw [show k + 1 + i = k + (i + 1) by omega]
theorem enumL_len : ∀ (ds : List Dat) (k : Nat), (enumL k ds).length = ds.length
  | [], _ => rfl
  | d :: ds, k => by rw [enumL, List.length_cons, enumL_len ds, List.length_cons]
theorem iter_enum {K : PySem.W.Frag} {F : Hp} {a : Addr} {xs : List V} {ds : List Dat} (t : SqL K F a xs) (z : Deeps K F ds xs) : IterD K F (Ite K a) (enumL 0 ds) where
  go := fun i F' H' s1 s2 hi => ⟨xs, xs[i]'(by rw [z.length]; rw [enumL_len] at hi; exact hi), s2.lst (s1.lst t), by rw [enumL_len] at hi; simp [z.length, hi]⟩
  yl := fun i F' H' x H2 d s1 s2 hd hy => by
    obtain ⟨T, y, hT, ex, eH, hy⟩ := hy
    subst ex eH
    rw [enumL_get] at hd
    cases hds : ds[i]? with
    | none => rw [hds] at hd; cases hd
    | some d' =>
      rw [hds] at hd
      simp at hd
      subst hd
      obtain ⟨v, e1, q⟩ := z.get hds
      have e2 := hy xs (s2.lst (s1.lst t))
      rw [e1] at e2
      cases e2
      refine ⟨upd F' T (.tup [.int i, y]), Step.lay s2 hT, T, _, rfl, SqT.of upd_same, ?_⟩
      exact ⟨.int i, [y], rfl, rfl, y, [], rfl, (q.mono s1).mono (Same.upd (s2.free hT)), rfl⟩
  st := fun F' H' s1 s2 => ⟨xs, s2.lst (s1.lst t), by rw [z.length, enumL_len]; exact Nat.le_refl _⟩
section
variable {X : Cx} {K : PySem.W.Frag} {W : Wish} {own ro : Bool} {e a b c : Expr} {es : List Expr} {x : Str} {pos p : Pos} {f fa fb fc : Env' → M Dat} {fr : Env' → M (List Dat)} {ft : Env' → M Bool}
noncomputable def iEnum (K : PySem.W.Frag) (tl : TE) : TI := fun σ H R => tl σ H fun x H1 => ∃ a, x = .ref a ∧ (∃ xs, SqL K H1 a xs) ∧ R (Ite K a) H1
theorem pi_enum {elts : List Expr} {k : Nat} {q : Pos} {tl : TE} (hg : Gl X "enumerate") (hm : X.mg "enumerate" = none) (hl : PE X a tl) (hs : starEach [a] X.env = [(false, eval a X.env)] := by rfl) :
    PI X (.Tuple elts k q) (.Call (.Name "enumerate" p) [a] [] pos) (iEnum X.K tl) := by
  intro pins s σ H R I h
  have ha : PA X [a] (tCons tl tNil) := pa_cons hl pa_nil hs
  refine Call_ (ld_blt I hg hm boot_enumerate (PyProof.Rows.callWith_type1 (thn (ha pos pins s σ H (fun vs H1 => match vs with
    | [x] => ∃ a, x = .ref a ∧ (∃ xs, SqL X.K H1 a xs) ∧ R (Ite X.K a) H1
    | _ => False) I h) fun us s1 ⟨vs, H1, I1, r1, q1⟩ => ?_) hs rfl))
  match vs, r1, q1 with
  | [x], r1, ⟨l, e1, ⟨xs, hq⟩, q⟩ =>
    subst e1
    obtain ⟨u, rfl, ru⟩ := r1.one
    cases ru
    obtain ⟨its, rv, pl, hz⟩ := I1.list hq
    refine call_enumerate_list pl.isList fun h2 he hit hsz hk => ?_
    have I2 : Inv X pins σ H1 { s1 with heap := h2 } := I1.kept (t' := s1.toks) hk
    refine wpAny_pyIter_enum he ?_
    refine ⟨s1.heap.objs.size + 1, [s1.heap.objs.size + 1, s1.heap.objs.size], _, _, H1, rfl, I2, turn_enum l _ _ (Nat.succ_ne_self _), ⟨⟨_, he⟩, hit⟩, fun b hb => ?_, q⟩
    have hb2 : s1.heap.objs.size ≤ b := by
      rcases List.mem_cons.mp hb with rfl | hb
      · exact Nat.le_succ _
      · have : b = s1.heap.objs.size := by simpa using hb
        exact Nat.le_of_eq this.symm
    exact I1.fpOk hb2 (I1.hok.fresh hb2)
theorem ri_enum {σ : St} {H : Hp} {R : It → Hp → Prop} (h : iD K W (fEnum fa) σ H R) : iEnum K (tD K W false fa) σ H R := by
  obtain ⟨F, ρ, r, s, p⟩ := h
  refine tD_run r s (fun e he => ?_) fun d hd v F1 H1 s1 q1 => ?_
  · have z : fEnum fa ρ = .error e := by unfold fEnum; rw [he]; rfl
    rw [z] at p; exact p
  · have z : fEnum fa ρ = (itemsL d).bind fun ds => .ok (enumL 0 ds) := by unfold fEnum; rw [hd]; rfl
    rw [z] at p
    cases d with
    | lst ds =>
      obtain ⟨b, xs, e, t, z⟩ := q1
      exact ⟨b, e, ⟨xs, s1.fh.lst t⟩, p _ F1 H1 s1 (iter_enum t z)⟩
    | _ => exact (W.ns p).elim
theorem di_enum {elts : List Expr} {k : Nat} {q : Pos} (hm : X.mg "enumerate" = none) (hl : DE K W false X a fa) (hg : Gl X "enumerate" := by rfl) (hs : starEach [a] X.env = [(false, eval a X.env)] := by rfl) (hK : X.K = K := by rfl) :
    DI K W X (.Tuple elts k q) (.Call (.Name "enumerate" p) [a] [] pos) (fEnum fa) := by
  subst hK
  exact (pi_enum hg hm hl hs).imp fun _ _ _ => ri_enum
theorem dts_nil : PTs X [] (tDT K W fYes) := fun pins s σ H Q I h => pts_nil pins s σ H Q I (by
  obtain ⟨F, ρ, r, s1, q⟩ := h
  exact q F H (Step.refl s1))
theorem dgs_nil : PGs X [] (gNames []) := pgs_nil
theorem dgs_cons {i : Nat} {is : List Nat} (hN : X.N.Nodup) (h2 : PGs X es (gNames is)) (hi : X.N[i]? = some x := by rfl) (hx : Loc X.env.scope x := by first | exact Or.inl rfl | exact Or.inr rfl) (hf : X.fn x = true ∨ X.env.scope.names.lookup x = some .local := by first | exact .inl rfl | exact .inr rfl | assumption)
    (hs : (assignEach (.Name x p :: es) X.env).map (·.2) = assign (.Name x p) X.env :: (assignEach es X.env).map (·.2) := by rfl) : PGs X (.Name x p :: es) (gNames (i :: is)) := pgs_cons (pg_name hN hi hx hf) h2 hs
theorem dg_tp {k : Nat} {is : List Nat} (hc : X.calm = true) (h : PGs X es (gNames is)) (hn : (assignEach es X.env).length = is.length := by rfl) (hst : (assignEach es X.env).findIdx? (·.1) = none := by rfl) (hK : X.K = K := by rfl) : DG K X (.Tuple es k pos) (.tp is) := by
  subst hK
  exact pg_tup hc h hn hst
theorem dgc_nm {N' : List Str} {sc : Scope} {L : Addr} {cs : List (Str × Addr)} {s : Shared} {H : Hp} {fp : List Addr} {i : Nat} (hN : N'.Nodup) (hi : N'[i]? = some x := by rfl) (hx : Loc (cxComp X N' sc L cs s H fp).env.scope x := by first | exact Or.inl rfl | exact Or.inr rfl)
    (hf : (cxComp X N' sc L cs s H fp).fn x = true ∨ (cxComp X N' sc L cs s H fp).env.scope.names.lookup x = some .local := by first | exact .inl rfl | exact .inr rfl | assumption) : DG K (cxComp X N' sc L cs s H fp) (.Name x pos) (.nm i) := pg_c hN hi hx hf
variable {sc : Scope} {tg elt iter : Expr} {ifs : List Expr} {fi : Env' → M (List Dat)} {pt : Pat} {fe : Env' → M Dat} {spos py : Pos}
theorem de_comp (N' : List Str) (ix : List (Option Nat)) (hi : DI K W X tg iter fi) (hg : ∀ L cs s H fp, DG K (cxComp X N' sc L cs s H fp) tg pt) (hl : Leaves ix (gP K pt))
    (ht : ∀ L cs s H fp, PTs (cxComp X N' sc L cs s H fp) ifs (tDT K W ft)) (he : ∀ L cs s H fp, DE K W false (cxComp X N' sc L cs s H fp) elt fe) (hc : X.calm = true := by rfl)
    (ok : compOk X.N X.env.scope N' sc ix = true := by rfl) (hk : sc.kind = .function := by rfl) (hs : ∀ x, foldedSetIterable iter X.env x = pure x := by intro _; rfl) :
    DE K W true X (.ListComp elt [⟨tg, iter, ifs, 0⟩] sc pos) (fComp fi ix pt ft fe) := (pe_comp N' ix hc hi hg hl ht he ok hk hs).imp fun _ _ _ => rd_comp
theorem tD_fr {σ : St} {H : Hp} {Q : VK} (h : tD K W own f σ H Q) : tD K W true f σ H Q := by
  cases own with
  | true => exact h
  | false => obtain ⟨F, ρ, r, s, p⟩ := h; exact ⟨F, ρ, r, s, p.frz⟩
theorem ds_compB {OL O : List Nat} {i : Nat} (own : Bool) (N' : List Str) (ix : List (Option Nat)) (hN : X.N.Nodup) (hi : DI K W X tg iter fi) (hg : ∀ L cs s H fp, DG K (cxComp X N' sc L cs s H fp) tg pt) (hl : Leaves ix (gP K pt))
    (ht : ∀ L cs s H fp, PTs (cxComp X N' sc L cs s H fp) ifs (tDT K W ft)) (he : ∀ L cs s H fp, DE K W false (cxComp X N' sc L cs s H fp) elt fe) (hj : X.N[i]? = some x := by rfl) (hy : X.env.scope.names.lookup x = some .local := by rfl) (hc : X.calm = true := by rfl)
    (hsw : swapsWith (.ListComp elt [⟨tg, iter, ifs, 0⟩] sc pos) (some (.Name x py)) spos.line X.env = pure true := by rfl)
    (ok : compOk X.N X.env.scope N' sc ix = true := by rfl) (hk : sc.kind = .function := by rfl) (hs : ∀ x, foldedSetIterable iter X.env x = pure x := by intro _; rfl) :
    DS K W ro X OL O (aft own i O) (.Assign [.Name x py] (.ListComp elt [⟨tg, iter, ifs, 0⟩] sc pos) spos) (sSetB O i (fComp fi ix pt ft fe)) := fun F0 H0 =>
  (ps_setComp N' ix hN hj hy hc hi hg hl ht he hsw ok hk hs).imp fun D σ H t => rd_comp (tD_fr (rs_setB t))
noncomputable def spF (K : PySem.W.Frag) (ro : Bool) (g : List Dat → M Dat) (n : Nat) : Sp := fun vs H Q _ => ∃ F ds, Same F H ∧ Deeps K F ds vs ∧ ds.length = n ∧ Post K Wno ro F H (g ds) Q
theorem runB_len {nN n : Nat} {g : Env' → M Flo} {ds : List Dat} (h : ds.length ≠ n) : runB nN n g ds = stk := by unfold runB; rw [if_neg h]
theorem de_call {k nN n : Nat} {fad : Addr} {fd : FuncData} {ps : List Str} {g : Env' → M Flo} (F : FnOk X.prog X.w X.K X.mg X.base CX0 k fad fd ps (spF K ro (runB nN n g) n)) (hr : Room k X.A) (hm : X.mg x = some (.ref fad)) (hk : PySem.W.keepIn X.K (.ref fad) = true) (hb : Binds X.K fd ps [])
    (ha : DA K Wno X (e :: es) fr) (hg : Gl X x := by rfl) (hdb : (x == ("__debug__" : Str)) = false := by decide) (hst : starEach (e :: es) X.env = (false, eval e X.env) :: starEach es X.env := by rfl) (hpl : (backTo pos (starEach es X.env)).any (·.1) = false := by rfl) :
    DE K Wno ro X (.Call (.Name x p) (e :: es) [] pos) (fL (runB nN n g) fr) := by
  refine PE.imp (pe_call F hr hg hm hk hb .nil pass0 ha hdb hst hpl) fun σ H Q h => ?_
  obtain ⟨F, ρ, r, s, p⟩ := rd_L h
  refine ⟨F, ρ, r, s, ?_⟩
  cases e1 : fr ρ with
  | error z => rw [e1] at p; exact p
  | ok ds =>
    rw [e1] at p
    intro vs F' H' st q
    obtain ⟨F1, es1, s1, q1, z⟩ := p vs F' H' st q
    show spF K ro (runB nN n g) n (vs ++ []) H' Q E0
    rw [List.append_nil]
    by_cases hl : es1.length = n
    · exact ⟨F1, es1, s1, q1, hl, z⟩
    · rw [runB_len hl] at z
      exact Post.stuck z
end
section
variable {P : Program} {w : World} {K : PySem.W.Frag} {mg : Str → Option Value} {base : Heap}
theorem start_get {N : List Str} {vs : List V} {ds : List Dat} {i : Nat} {d : Dat} {F : Hp} (q : Deeps K F ds vs) (h : (ds.map some ++ List.replicate (N.length - ds.length) none)[i]? = some (some d)) : ∃ v, (start N vs)[i]? = some (some v) ∧ Deep K F d v := by
  have hi : i < ds.length := by
    by_cases hi : i < ds.length
    · exact hi
    · rw [List.getElem?_append_right (by simpa using hi), List.getElem?_replicate] at h
      split at h <;> cases h
  rw [List.getElem?_append_left (by simpa using hi), List.getElem?_map] at h
  cases e : ds[i]? with
  | none => rw [e] at h; cases h
  | some d' =>
    rw [e] at h
    cases h
    obtain ⟨v, e1, q1⟩ := q.get e
    refine ⟨v, ?_, q1⟩
    unfold start
    rw [List.getElem?_append_left (by rw [List.length_map, q.length]; exact hi), List.getElem?_map, e1]
    rfl
theorem fn_D {x qual : Str} {st : Stmt} {f : Addr} {fd : FuncData} {N ps : List Str} {k : Nat} {O' : List Nat} (F : Fun K x qual st f fd) (S : FnScope N ps (defScope st)) (ro : Bool) (g : Env' → M Flo)
    (hb : ∀ (cdv : Value) (A : Around) (outer : List Env) (s : Shared) (H : Hp) (E : XK), Room k (A.deeper (envOfC qual (defScope st) s.heap.objs.size f cdv)) →
      DSs K Wno ro (cxOf CX0 P w K mg base N qual (defScope st) f cdv A outer s H E).nox [] [] O' (defBody st) g) : FnOk P w K mg base CX0 (k + 1) f fd ps (spF K ro (runB N.length ps.length g) ps.length) := by
  have hpl : ps.length ≤ N.length := by have := congrArg List.length S.pre; rw [List.length_take] at this; omega
  refine F.okX S (fun vs H Q E ⟨F, ds, s, q, l, p⟩ => by rw [q.length, l]) fun cdv A outer s H vs Q E hr ⟨F1, ds, s1, q, l, p⟩ => ⟨_, hb cdv A outer s H E hr F1 H, F1, F1, ds.map some ++ List.replicate (N.length - ds.length) none, ?_, ?_⟩
  · refine ⟨Step.refl s1, Same.refl _, ?_, fun i d e _ => start_get q e, (fun i d e h => nomatch h), (fun i j ds es a h => nomatch h)⟩
    unfold start
    rw [List.length_append, List.length_append, List.length_map, List.length_map, List.length_replicate, List.length_replicate, q.length]
  · have e1 : runB N.length ps.length g ds = (g (ds.map some ++ List.replicate (N.length - ds.length) none)).bind fun fl => match fl with
      | .nx _ => .ok .non
      | .rt d => .ok d
      | _ => stk := by
        unfold runB
        exact if_pos l
    rw [e1] at p
    cases e2 : g (ds.map some ++ List.replicate (N.length - ds.length) none) with
    | error z => rw [e2] at p; exact p
    | ok fl =>
      rw [e2] at p
      cases fl with
      | nx ρ => exact fun σ F H r => p .non F H r.st (by cases ro <;> rfl)
      | rt d => exact fun v F H st q => p v F H st q
      | bk ρ => exact Post.stuck p
      | ct ρ => exact Post.stuck p
noncomputable def spLaw (K : PySem.W.Frag) : Sp := fun vs H Q _ => ∃ (a : Addr) (ns : List Int), vs = [.ref a] ∧ SqL K H a (ns.map V.int) ∧ ns.length ≤ 63 ∧ ∀ H', Q (.bl true) H'
theorem deeps_ints {F : Hp} : ∀ is : List Int, Deeps K F (is.map Dat.int) (is.map V.int)
  | [] => rfl
  | i :: is => ⟨.int i, is.map V.int, rfl, rfl, deeps_ints is⟩
theorem law_ok {k : Nat} {f : Addr} {fd : FuncData} {x : Str} {ro : Bool} {mlaw : Nat → List Dat → M Dat} (F : ∀ n, FnOk P w K mg base CX0 k f fd [x] (spF K ro (mlaw n) 1)) (h : ∀ ns : List Int, ns.length ≤ 63 → ∃ n, mlaw n [.lst (ns.map .int)] = .ok (.bl true)) : FnOk P w K mg base CX0 k f fd [x] (spLaw K) := by
  refine ⟨fun vs H Q E ⟨a, ns, e, _⟩ => by rw [e]; rfl, fun A outer s H args us vs Q E hr he hb hv ⟨a, ns, e, hq, hl, q⟩ => ?_⟩
  obtain ⟨n, hn⟩ := h ns hl
  refine (F n).run A outer s H args us vs Q E hr he hb hv ⟨H, [.lst (ns.map .int)], Same.refl _, ⟨.ref a, [], e, ⟨a, _, rfl, hq, deeps_ints ns⟩, rfl⟩, rfl, ?_⟩
  rw [hn]
  intro v F' H' st z
  have : v = .bl true := by cases ro <;> exact z
  rw [this]
  exact q H'
end
end L2
namespace L2
open PySem PySem.Spec PyProof.Rows
structure Kit (K : PySem.W.Frag) : Prop where
  q_int_int : PySem.W.kitOne K (.type "int") (.type "int") = some true
  q_bool_int : PySem.W.kitOne K (.type "bool") (.type "int") = some true
  q_list_int : PySem.W.kitOne K (.type "list") (.type "int") = some false
  q_tuple_int : PySem.W.kitOne K (.type "tuple") (.type "int") = some false
  q_str_int : PySem.W.kitOne K (.type "str") (.type "int") = some false
  q_NoneType_int : PySem.W.kitOne K (.type "NoneType") (.type "int") = some false
  q_int_bool : PySem.W.kitOne K (.type "int") (.type "bool") = some false
  q_bool_bool : PySem.W.kitOne K (.type "bool") (.type "bool") = some true
  q_list_bool : PySem.W.kitOne K (.type "list") (.type "bool") = some false
  q_tuple_bool : PySem.W.kitOne K (.type "tuple") (.type "bool") = some false
  q_str_bool : PySem.W.kitOne K (.type "str") (.type "bool") = some false
  q_NoneType_bool : PySem.W.kitOne K (.type "NoneType") (.type "bool") = some false
  q_int_list : PySem.W.kitOne K (.type "int") (.type "list") = some false
  q_bool_list : PySem.W.kitOne K (.type "bool") (.type "list") = some false
  q_list_list : PySem.W.kitOne K (.type "list") (.type "list") = some true
  q_tuple_list : PySem.W.kitOne K (.type "tuple") (.type "list") = some false
  q_str_list : PySem.W.kitOne K (.type "str") (.type "list") = some false
  q_NoneType_list : PySem.W.kitOne K (.type "NoneType") (.type "list") = some false
  q_int_tuple : PySem.W.kitOne K (.type "int") (.type "tuple") = some false
  q_bool_tuple : PySem.W.kitOne K (.type "bool") (.type "tuple") = some false
  q_list_tuple : PySem.W.kitOne K (.type "list") (.type "tuple") = some false
  q_tuple_tuple : PySem.W.kitOne K (.type "tuple") (.type "tuple") = some true
  q_str_tuple : PySem.W.kitOne K (.type "str") (.type "tuple") = some false
  q_NoneType_tuple : PySem.W.kitOne K (.type "NoneType") (.type "tuple") = some false
  q_int_str : PySem.W.kitOne K (.type "int") (.type "str") = some false
  q_bool_str : PySem.W.kitOne K (.type "bool") (.type "str") = some false
  q_list_str : PySem.W.kitOne K (.type "list") (.type "str") = some false
  q_tuple_str : PySem.W.kitOne K (.type "tuple") (.type "str") = some false
  q_str_str : PySem.W.kitOne K (.type "str") (.type "str") = some true
  q_NoneType_str : PySem.W.kitOne K (.type "NoneType") (.type "str") = some false
section
variable {X : Cx} {K : PySem.W.Frag} {W : Wish} {own ro : Bool} {e a b c : Expr} {es : List Expr} {x : Str} {pos p p2 : Pos} {f fa fb fc : Env' → M Dat} {fr : Env' → M (List Dat)} {ft : Env' → M Bool}
theorem isi_D {pins : List (Addr × Obj)} {σ : St} {F H : Hp} {s : Shared} {T : String} {d : Dat} {x : V} {u : Value} {bi bb bl bt bs bn : Bool} {Q : Value → Shared → Prop} (I : Inv X pins σ H s) (hF : Same F H) (q : Deep X.K F d x) (r : RelV x u)
    (hi : PySem.W.kitOne X.K (.type "int") (.type T) = some bi) (hb : PySem.W.kitOne X.K (.type "bool") (.type T) = some bb) (hl : PySem.W.kitOne X.K (.type "list") (.type T) = some bl) (ht : PySem.W.kitOne X.K (.type "tuple") (.type T) = some bt)
    (hs : PySem.W.kitOne X.K (.type "str") (.type T) = some bs) (hn : PySem.W.kitOne X.K (.type "NoneType") (.type T) = some bn)
    (h : ∀ k tk, (match d with | .int _ => k = bi | .bl _ => k = bb | .lst _ => k = bl | .tup _ => k = bt | .str _ => k = bs | .non => k = bn | .ins _ _ => False | .dic _ => False) → Q (.bool k) { s with toks := tk }) (no : ∀ C fs, d ≠ .ins C fs) (nd : ∀ ks, d ≠ .dic ks) :
    wpAny (model X.prog X.w) X.A (call (.builtin "isinstance") [u, .type T]) Q X.xe s := by
  cases d with
  | non => cases (show x = .non from q); cases r; exact PySem.W.kia_one PySem.W.kitx_none I.kIn True.intro hn (fun z => nomatch z) fun tk => h _ tk rfl
  | bl y => cases (show x = .bl y from q); cases r; exact PySem.W.kia_one PySem.W.kitx_bool I.kIn True.intro hb (fun z => nomatch z) fun tk => h _ tk rfl
  | int i => cases (show x = .int i from q); obtain ⟨t, rfl⟩ := r; exact PySem.W.kia_one PySem.W.kitx_int I.kIn True.intro hi (fun z => nomatch z) fun tk => h _ tk rfl
  | str y => cases (show x = .str y from q); obtain ⟨t, rfl⟩ := r; exact PySem.W.kia_one PySem.W.kitx_str I.kIn True.intro hs (fun z => nomatch z) fun tk => h _ tk rfl
  | lst ds =>
    obtain ⟨l, xs, e, t, _⟩ := q
    subst e
    cases r
    obtain ⟨its, _, pl, _⟩ := I.list (hF.lst t)
    obtain ⟨o, h1, h2, _⟩ := pl.isList
    exact PySem.W.kia_one PySem.W.kitx_list I.kIn ⟨o, h1, h2⟩ hl (fun z => nomatch z) fun tk => h _ tk rfl
  | tup ds =>
    obtain ⟨l, xs, e, t, _⟩ := q
    subst e
    cases r
    obtain ⟨its, _, pl, _⟩ := I.tuple (hF.tup t)
    obtain ⟨o, h1, h2, _⟩ := pl
    exact PySem.W.kia_one PySem.W.kitx_tuple I.kIn ⟨o, h1, h2⟩ ht (fun z => nomatch z) fun tk => h _ tk rfl
  | ins C fs => exact absurd rfl (no C fs)
  | dic ks => exact absurd rfl (nd ks)
theorem de_isi {T : String} {y : Str} {g : Dat → M Dat} (hc : CallR X (.builtin "isinstance") (fun xs H Q => ∃ v, xs = [v, .ty T] ∧ rD1 K W own g v H Q)) (hm : X.mg "isinstance" = none) (hmT : X.mg y = none) (hvT : bootBuiltins y = some (.type T)) (ha : DE K W false X a fa)
    (hg : Gl X "isinstance" := by rfl) (hgT : Gl X y := by rfl) (hn : y ≠ "__name__" := by decide) (hd : (y == ("__debug__" : Str)) = false := by decide)
    (hst : starEach [a, .Name y p2] X.env = [(false, eval a X.env), (false, eval (.Name y p2) X.env)] := by rfl) (hst2 : starEach [.Name y p2] X.env = [(false, eval (.Name y p2) X.env)] := by rfl) (hpl : (backTo pos (starEach [.Name y p2] X.env)).any (·.1) = false := by rfl) :
    DE K W own X (.Call (.Name "isinstance" p) [a, .Name y p2] [] pos) (f1 g fa) :=
  (pe_callB hc hg hm boot_isinstance (pa_cons ha (pa_cons (pe_tyN (pos := p2) hgT hmT hvT hn hd) pa_nil hst2) (by rw [hst, hst2])) (by decide) (by decide) (by rw [hst, hst2]) hpl).imp fun σ H Q h => by
    obtain ⟨F, ρ, r, s, q⟩ := rd_1 h
    refine ⟨F, ρ, r, s, ?_⟩
    cases e1 : fa ρ with
    | error z => rw [e1] at q; exact q
    | ok d => rw [e1] at q; exact fun v F' H' st z => ⟨v, rfl, q v F' H' st z⟩
theorem c_isi_int (kit : Kit K) (hK : X.K = K := by rfl) : CallR X (.builtin "isinstance") (fun xs H Q => ∃ v, xs = [v, .ty "int"] ∧ rD1 K W own isi_intD v H Q) := by
  subst hK
  intro pins s σ H xs us Q I r h
  obtain ⟨v, rfl, F, d, s1, q, p⟩ := h
  obtain ⟨u, w, rfl, ru, rw'⟩ := r.two
  cases (show w = Value.type "int" from rw')
  by_cases hi : (∃ C fs, d = .ins C fs) ∨ ∃ ks, d = .dic ks
  · rcases hi with ⟨C, fs, rfl⟩ | ⟨ks, rfl⟩ <;> exact Post.stuck p
  · refine isi_D I s1 q ru kit.q_int_int kit.q_bool_int kit.q_list_int kit.q_tuple_int kit.q_str_int kit.q_NoneType_int (fun k tk hk => ⟨.bl k, H, I.tok tk, rfl, ?_⟩) (fun C fs e => hi (.inl ⟨C, fs, e⟩)) (fun ks e => hi (.inr ⟨ks, e⟩))
    cases d <;> first | (have hk' : k = _ := hk; subst hk'; exact Post.bl (own := own) p s1) | exact absurd (.inl ⟨_, _, rfl⟩) hi | exact absurd (.inr ⟨_, rfl⟩) hi
theorem de_isi_int (kit : Kit K) (hm : X.mg "isinstance" = none) (hmT : X.mg "int" = none) (ha : DE K W false X a fa) (hK : X.K = K := by rfl)
    (hg : Gl X "isinstance" := by rfl) (hgT : Gl X "int" := by rfl)
    (hst : starEach [a, .Name "int" p2] X.env = [(false, eval a X.env), (false, eval (.Name "int" p2) X.env)] := by rfl) (hst2 : starEach [.Name "int" p2] X.env = [(false, eval (.Name "int" p2) X.env)] := by rfl) (hpl : (backTo pos (starEach [.Name "int" p2] X.env)).any (·.1) = false := by rfl) :
    DE K W own X (.Call (.Name "isinstance" p) [a, .Name "int" p2] [] pos) (f1 isi_intD fa) := de_isi (c_isi_int kit hK) hm hmT (by decide +kernel) ha hg hgT (by decide) (by decide) hst hst2 hpl
theorem c_isi_bool (kit : Kit K) (hK : X.K = K := by rfl) : CallR X (.builtin "isinstance") (fun xs H Q => ∃ v, xs = [v, .ty "bool"] ∧ rD1 K W own isi_boolD v H Q) := by
  subst hK
  intro pins s σ H xs us Q I r h
  obtain ⟨v, rfl, F, d, s1, q, p⟩ := h
  obtain ⟨u, w, rfl, ru, rw'⟩ := r.two
  cases (show w = Value.type "bool" from rw')
  by_cases hi : (∃ C fs, d = .ins C fs) ∨ ∃ ks, d = .dic ks
  · rcases hi with ⟨C, fs, rfl⟩ | ⟨ks, rfl⟩ <;> exact Post.stuck p
  · refine isi_D I s1 q ru kit.q_int_bool kit.q_bool_bool kit.q_list_bool kit.q_tuple_bool kit.q_str_bool kit.q_NoneType_bool (fun k tk hk => ⟨.bl k, H, I.tok tk, rfl, ?_⟩) (fun C fs e => hi (.inl ⟨C, fs, e⟩)) (fun ks e => hi (.inr ⟨ks, e⟩))
    cases d <;> first | (have hk' : k = _ := hk; subst hk'; exact Post.bl (own := own) p s1) | exact absurd (.inl ⟨_, _, rfl⟩) hi | exact absurd (.inr ⟨_, rfl⟩) hi
theorem de_isi_bool (kit : Kit K) (hm : X.mg "isinstance" = none) (hmT : X.mg "bool" = none) (ha : DE K W false X a fa) (hK : X.K = K := by rfl)
    (hg : Gl X "isinstance" := by rfl) (hgT : Gl X "bool" := by rfl)
    (hst : starEach [a, .Name "bool" p2] X.env = [(false, eval a X.env), (false, eval (.Name "bool" p2) X.env)] := by rfl) (hst2 : starEach [.Name "bool" p2] X.env = [(false, eval (.Name "bool" p2) X.env)] := by rfl) (hpl : (backTo pos (starEach [.Name "bool" p2] X.env)).any (·.1) = false := by rfl) :
    DE K W own X (.Call (.Name "isinstance" p) [a, .Name "bool" p2] [] pos) (f1 isi_boolD fa) := de_isi (c_isi_bool kit hK) hm hmT (by decide +kernel) ha hg hgT (by decide) (by decide) hst hst2 hpl
theorem c_isi_list (kit : Kit K) (hK : X.K = K := by rfl) : CallR X (.builtin "isinstance") (fun xs H Q => ∃ v, xs = [v, .ty "list"] ∧ rD1 K W own isi_listD v H Q) := by
  subst hK
  intro pins s σ H xs us Q I r h
  obtain ⟨v, rfl, F, d, s1, q, p⟩ := h
  obtain ⟨u, w, rfl, ru, rw'⟩ := r.two
  cases (show w = Value.type "list" from rw')
  by_cases hi : (∃ C fs, d = .ins C fs) ∨ ∃ ks, d = .dic ks
  · rcases hi with ⟨C, fs, rfl⟩ | ⟨ks, rfl⟩ <;> exact Post.stuck p
  · refine isi_D I s1 q ru kit.q_int_list kit.q_bool_list kit.q_list_list kit.q_tuple_list kit.q_str_list kit.q_NoneType_list (fun k tk hk => ⟨.bl k, H, I.tok tk, rfl, ?_⟩) (fun C fs e => hi (.inl ⟨C, fs, e⟩)) (fun ks e => hi (.inr ⟨ks, e⟩))
    cases d <;> first | (have hk' : k = _ := hk; subst hk'; exact Post.bl (own := own) p s1) | exact absurd (.inl ⟨_, _, rfl⟩) hi | exact absurd (.inr ⟨_, rfl⟩) hi
theorem de_isi_list (kit : Kit K) (hm : X.mg "isinstance" = none) (hmT : X.mg "list" = none) (ha : DE K W false X a fa) (hK : X.K = K := by rfl)
    (hg : Gl X "isinstance" := by rfl) (hgT : Gl X "list" := by rfl)
    (hst : starEach [a, .Name "list" p2] X.env = [(false, eval a X.env), (false, eval (.Name "list" p2) X.env)] := by rfl) (hst2 : starEach [.Name "list" p2] X.env = [(false, eval (.Name "list" p2) X.env)] := by rfl) (hpl : (backTo pos (starEach [.Name "list" p2] X.env)).any (·.1) = false := by rfl) :
    DE K W own X (.Call (.Name "isinstance" p) [a, .Name "list" p2] [] pos) (f1 isi_listD fa) := de_isi (c_isi_list kit hK) hm hmT (by decide +kernel) ha hg hgT (by decide) (by decide) hst hst2 hpl
theorem c_isi_tuple (kit : Kit K) (hK : X.K = K := by rfl) : CallR X (.builtin "isinstance") (fun xs H Q => ∃ v, xs = [v, .ty "tuple"] ∧ rD1 K W own isi_tupleD v H Q) := by
  subst hK
  intro pins s σ H xs us Q I r h
  obtain ⟨v, rfl, F, d, s1, q, p⟩ := h
  obtain ⟨u, w, rfl, ru, rw'⟩ := r.two
  cases (show w = Value.type "tuple" from rw')
  by_cases hi : (∃ C fs, d = .ins C fs) ∨ ∃ ks, d = .dic ks
  · rcases hi with ⟨C, fs, rfl⟩ | ⟨ks, rfl⟩ <;> exact Post.stuck p
  · refine isi_D I s1 q ru kit.q_int_tuple kit.q_bool_tuple kit.q_list_tuple kit.q_tuple_tuple kit.q_str_tuple kit.q_NoneType_tuple (fun k tk hk => ⟨.bl k, H, I.tok tk, rfl, ?_⟩) (fun C fs e => hi (.inl ⟨C, fs, e⟩)) (fun ks e => hi (.inr ⟨ks, e⟩))
    cases d <;> first | (have hk' : k = _ := hk; subst hk'; exact Post.bl (own := own) p s1) | exact absurd (.inl ⟨_, _, rfl⟩) hi | exact absurd (.inr ⟨_, rfl⟩) hi
theorem de_isi_tuple (kit : Kit K) (hm : X.mg "isinstance" = none) (hmT : X.mg "tuple" = none) (ha : DE K W false X a fa) (hK : X.K = K := by rfl)
    (hg : Gl X "isinstance" := by rfl) (hgT : Gl X "tuple" := by rfl)
    (hst : starEach [a, .Name "tuple" p2] X.env = [(false, eval a X.env), (false, eval (.Name "tuple" p2) X.env)] := by rfl) (hst2 : starEach [.Name "tuple" p2] X.env = [(false, eval (.Name "tuple" p2) X.env)] := by rfl) (hpl : (backTo pos (starEach [.Name "tuple" p2] X.env)).any (·.1) = false := by rfl) :
    DE K W own X (.Call (.Name "isinstance" p) [a, .Name "tuple" p2] [] pos) (f1 isi_tupleD fa) := de_isi (c_isi_tuple kit hK) hm hmT (by decide +kernel) ha hg hgT (by decide) (by decide) hst hst2 hpl
noncomputable def tRng (ta : TA) (lo hi : List V → Option Int) : TE := fun σ H Q => ta σ H fun vs H1 => ∃ i j, lo vs = some i ∧ hi vs = some j ∧ (-(2 ^ 62) ≤ i ∧ i < 2 ^ 62 ∧ -(2 ^ 62) ≤ j ∧ j < 2 ^ 62) ∧ ∀ r, H1 r = none → Q (.ref r) (upd H1 r (.rng i j))
noncomputable def lo1 : List V → Option Int
  | [.int _] => some 0
  | _ => none
noncomputable def hi1 : List V → Option Int
  | [.int j] => some j
  | _ => none
noncomputable def lo2 : List V → Option Int
  | [.int i, .int _] => some i
  | _ => none
noncomputable def hi2 : List V → Option Int
  | [.int _, .int j] => some j
  | _ => none
theorem rng_laid {pins : List (Addr × Obj)} {σ : St} {H : Hp} {s : Shared} {lo hi : Int} {t u v : Tok} {tk : Nat} (I : Inv X pins σ H s) : Inv X pins σ (upd H s.heap.objs.size (.rng lo hi)) { s with heap := s.heap.push { cls := .type "range", data := .fields #[.int lo t, .int hi u, .int 1 v] }, toks := tk } :=
  I.laid (fun b o e => Heap.get?_push_of_some _ e) (Nat.le_refl _) ⟨t, u, v, Heap.get?_push_size _ rfl⟩
theorem pe_rng1 {ta : TA} (hg : Gl X "range") (hm : X.mg "range" = none) (ha : PA X [a] ta) (hs : starEach [a] X.env = [(false, eval a X.env)] := by rfl) : PE X (.Call (.Name "range" p) [a] [] pos) (tRng ta lo1 hi1) := by
  intro pins s σ H Q I h
  refine Call_ (ld_blt I hg hm boot_range (PyProof.Rows.callWith_type1 (thn (ha pos pins s σ H _ I h) fun us s1 ⟨vs, H1, I1, r1, q1⟩ => ?_) hs rfl))
  obtain ⟨i, j, e1, e2, hb, q⟩ := q1
  match vs, r1, e1, e2 with
  | [.int k], r1, e1, e2 =>
    cases e1
    cases e2
    obtain ⟨u, rfl, t, rfl⟩ := r1.one
    exact call_range_1 ⟨.ref _, _, rng_laid I1, rfl, q _ I1.fresh⟩
theorem pe_rng2 {ta : TA} (hg : Gl X "range") (hm : X.mg "range" = none) (ha : PA X [a, b] ta) (hs : starEach [a, b] X.env = [(false, eval a X.env), (false, eval b X.env)] := by rfl) (hs2 : starEach [b] X.env = [(false, eval b X.env)] := by rfl) : PE X (.Call (.Name "range" p) [a, b] [] pos) (tRng ta lo2 hi2) := by
  intro pins s σ H Q I h
  refine Call_ (ld_blt I hg hm boot_range (PyProof.Rows.callWith_type1 (thn (ha pos pins s σ H _ I h) fun us s1 ⟨vs, H1, I1, r1, q1⟩ => ?_) (by rw [hs, hs2]) (by rw [hs2]; rfl)))
  obtain ⟨i, j, e1, e2, hb, q⟩ := q1
  match vs, r1, e1, e2 with
  | [.int k, .int m], r1, e1, e2 =>
    cases e1
    cases e2
    obtain ⟨u, w, rfl, ⟨t, rfl⟩, t', rfl⟩ := r1.two
    exact call_range_2 ⟨.ref _, _, rng_laid I1, rfl, q _ I1.fresh⟩
theorem Vals.of_get : ∀ {xs : List V} {us : List Value}, xs.length = us.length → (∀ (i : Nat) v u, xs[i]? = some v → us[i]? = some u → RelV v u) → Vals xs us
  | [], [], _, _ => .nil
  | [], _ :: _, h, _ => by simp at h
  | _ :: _, [], h, _ => by simp at h
  | x :: xs, u :: us, h, q => .cons (q 0 x u rfl rfl) (Vals.of_get (by simpa using h) fun i v w h1 h2 => q (i + 1) v w (by simpa using h1) (by simpa using h2))
theorem items_vals {lo : Int} : ∀ {n : Nat} {acc : List Value}, acc.length = n → (∀ (i : Nat) v, acc[i]? = some v → ∃ t, v = .int (lo + i) t) → Vals ((List.range n).map fun k : Nat => V.int (lo + k)) acc := by
  intro n acc hl h
  refine Vals.of_get (by simp [hl]) fun i v u e1 e2 => ?_
  obtain ⟨t, rfl⟩ := h i u e2
  have hi : i < n := by
    have := (List.getElem?_eq_some_iff.mp e1).1
    simpa using this
  rw [List.getElem?_map, List.getElem?_range hi] at e1
  cases e1
  exact ⟨t, rfl⟩
theorem call_list_rng (hc : X.calm = true) : CallR X (.type "list") (fun xs H Q => ∃ r lo hi, xs = [.ref r] ∧ H r = some (.rng lo hi) ∧ (-(2 ^ 62) ≤ lo ∧ lo < 2 ^ 62 ∧ -(2 ^ 62) ≤ hi ∧ hi < 2 ^ 62) ∧ (hi - lo).toNat ≤ sizeLine ∧ ∀ l, H l = none → Q (.ref l) (upd H l (.lst ((List.range (hi - lo).toNat).map fun k : Nat => V.int (lo + k))))) := by
  intro pins s σ H xs us Q I rr h
  obtain ⟨r, lo, hi, rfl, hH, ⟨b1, b2, b3, b4⟩, hz, q⟩ := h
  obtain ⟨u, rfl, ru⟩ := rr.one
  cases ru
  obtain ⟨t, u, v, e⟩ := (show ∃ t u v, s.heap.get? r = some { cls := .type "range", data := .fields #[.int lo t, .int hi u, .int 1 v] } from I.hok r _ hH)
  refine call_list_range (n := (hi - lo).toNat) (I.ok.hd hc) e (small_one b1 b2 b3 b4) (by rw [rangeSize_one]; split <;> omega) (by rw [sizeLine_eq] at hz; omega) fun h' tk acc' c' kp e2 it => ?_
  have hv : Vals ((List.range (hi - lo).toNat).map fun k : Nat => V.int (lo + k)) acc'.toList := items_vals (by rw [Array.length_toList]; exact it.1) fun i v hi => by
    obtain ⟨t, e⟩ := it.2 i v (by simpa using hi)
    exact ⟨t, by rw [e, Int.mul_one]⟩
  exact ⟨.ref _, _, I.laid (t' := tk) kp (Nat.le_refl _) (show ObjOk X.prog X.w _ h' _ (.lst _) from ⟨by simpa using hz, acc'.toList, c', hv, by simpa using e2⟩), rfl, q _ I.fresh⟩
theorem deeps_range {F : Hp} (lo : Int) (n : Nat) : Deeps K F (rangeL lo n) ((List.range n).map fun k : Nat => V.int (lo + k)) := by
  refine Deeps.of_get (by simp [rangeL]) fun i d v h1 h2 => ?_
  have hi : i < n := by
    have := (List.getElem?_eq_some_iff.mp h2).1
    simpa using this
  unfold rangeL at h1
  rw [List.getElem?_map, List.getElem?_range hi] at h1 h2
  cases h1
  cases h2
  rfl
theorem lrng_end {F H1 : Hp} {Q : VK} {i j : Int} {r : Addr} (p : Post K W true F H1 (mkLst (rangeL i (j - i).toNat)) Q) (s : Same F H1) (hr : H1 r = none) :
    (j - i).toNat ≤ sizeLine ∧ ∀ l, upd H1 r (.rng i j) l = none → Q (.ref l) (upd (upd H1 r (.rng i j)) l (.lst ((List.range (j - i).toNat).map fun k : Nat => V.int (i + k)))) := by
  unfold mkLst at p
  by_cases hl : (rangeL i (j - i).toNat).length ≤ sizeLine
  · rw [if_pos hl] at p
    refine ⟨by simpa [rangeL] using hl, fun l hl2 => ?_⟩
    have s2 : Step F H1 F (upd H1 r (.rng i j)) := Step.grow s hr
    have e : H1 l = none := s2.hh.free hl2
    exact p _ F _ (s2.trans (Step.grow s2.fh hl2)) ⟨l, _, rfl, upd_same, s.free e, e, deeps_range i _⟩
  · rw [if_neg hl] at p
    exact (W.ns p).elim
theorem de_lrng1 {q1 q2 : Pos} (hml : X.mg "list" = none) (hm : X.mg "range" = none) (ha : DA K W X [a] fr) (hc : X.calm = true := by rfl) (hg : Gl X "range" := by rfl) (hgl : Gl X "list" := by rfl) (hs : starEach [a] X.env = [(false, eval a X.env)] := by rfl)
    (hst : starEach [.Call (.Name "range" q1) [a] [] q2] X.env = [(false, eval (.Call (.Name "range" q1) [a] [] q2) X.env)] := by rfl) : DE K W true X (.Call (.Name "list" p) [.Call (.Name "range" q1) [a] [] q2] [] pos) (fLR (fRng rng1 fr)) := by
  refine PE.imp (pe_callTy (call_list_rng hc) hgl hml PyProof.Rows.boot_list (pa_cons (pe_rng1 hg hm ha hs) pa_nil hst) (by decide) (by decide) hst rfl) fun σ H Q h => ?_
  obtain ⟨F, ρ, r, s, p⟩ := h
  refine tDA_run r s (fun e he => p.err (by unfold fLR fRng; rw [he]; rfl)) fun ds hd xs F1 H1 s1 q1 => ?_
  have e1 : fLR (fRng rng1 fr) ρ = (rng1 ds).bind mkLst := by unfold fLR fRng; rw [hd]; rfl
  rw [e1] at p
  have p1 := p.step s1
  by_cases hds : ∃ j, ds = [.int j]
  · obtain ⟨j, rfl⟩ := hds
    obtain ⟨v, vs, e2, q2, e3⟩ := q1
    have p2 : Post K W true F1 H1 ((if small62 j = true then Except.ok (rangeL 0 j.toNat) else Except.error Err.stuck : M (List Dat)).bind mkLst) Q := p1
    by_cases hj : small62 j = true
    · rw [if_pos hj] at p2
      unfold small62 at hj
      simp only [Bool.and_eq_true, decide_eq_true_eq] at hj
      have e4 : xs = [.int j] := by rw [e2, show v = .int j from q2, show vs = [] from e3]
      subst e4
      refine ⟨0, j, rfl, rfl, ⟨by decide, by decide, hj.1, hj.2⟩, fun r2 hr2 => ?_⟩
      have p3 : Post K W true F1 H1 (mkLst (rangeL 0 (j - 0).toNat)) Q := by rw [Int.sub_zero]; exact p2
      obtain ⟨z1, z2⟩ := lrng_end p3 s1.fh hr2
      exact ⟨r2, 0, j, rfl, upd_same, ⟨by decide, by decide, hj.1, hj.2⟩, z1, z2⟩
    · rw [if_neg hj] at p2
      exact (W.ns p2).elim
  · have : rng1 ds = .error .stuck := by
      unfold rng1
      split
      · exact absurd ⟨_, rfl⟩ hds
      · rfl
    rw [this] at p1
    exact (W.ns p1).elim
theorem de_lrng2 {q1 q2 : Pos} (hml : X.mg "list" = none) (hm : X.mg "range" = none) (ha : DA K W X [a, b] fr) (hc : X.calm = true := by rfl) (hg : Gl X "range" := by rfl) (hgl : Gl X "list" := by rfl) (hs : starEach [a, b] X.env = [(false, eval a X.env), (false, eval b X.env)] := by rfl) (hs2 : starEach [b] X.env = [(false, eval b X.env)] := by rfl)
    (hst : starEach [.Call (.Name "range" q1) [a, b] [] q2] X.env = [(false, eval (.Call (.Name "range" q1) [a, b] [] q2) X.env)] := by rfl) : DE K W true X (.Call (.Name "list" p) [.Call (.Name "range" q1) [a, b] [] q2] [] pos) (fLR (fRng rng2 fr)) := by
  refine PE.imp (pe_callTy (call_list_rng hc) hgl hml PyProof.Rows.boot_list (pa_cons (pe_rng2 hg hm ha hs hs2) pa_nil hst) (by decide) (by decide) hst rfl) fun σ H Q h => ?_
  obtain ⟨F, ρ, r, s, p⟩ := h
  refine tDA_run r s (fun e he => p.err (by unfold fLR fRng; rw [he]; rfl)) fun ds hd xs F1 H1 s1 q1 => ?_
  have e1 : fLR (fRng rng2 fr) ρ = (rng2 ds).bind mkLst := by unfold fLR fRng; rw [hd]; rfl
  rw [e1] at p
  have p1 := p.step s1
  by_cases hds : ∃ i j, ds = [.int i, .int j]
  · obtain ⟨i, j, rfl⟩ := hds
    obtain ⟨v, vs, e2, q2, v2, vs2, e3, q3, e4⟩ := q1
    have p2 : Post K W true F1 H1 ((if (small62 i && small62 j) = true then Except.ok (rangeL i (j - i).toNat) else Except.error Err.stuck : M (List Dat)).bind mkLst) Q := p1
    by_cases hj : (small62 i && small62 j) = true
    · rw [if_pos hj] at p2
      unfold small62 at hj
      simp only [Bool.and_eq_true, decide_eq_true_eq] at hj
      have e5 : xs = [.int i, .int j] := by rw [e2, show v = .int i from q2, e3, show v2 = .int j from q3, show vs2 = [] from e4]
      subst e5
      refine ⟨i, j, rfl, rfl, ⟨hj.1.1, hj.1.2, hj.2.1, hj.2.2⟩, fun r2 hr2 => ?_⟩
      obtain ⟨z1, z2⟩ := lrng_end p2 s1.fh hr2
      exact ⟨r2, i, j, rfl, upd_same, ⟨hj.1.1, hj.1.2, hj.2.1, hj.2.2⟩, z1, z2⟩
    · rw [if_neg hj] at p2
      exact (W.ns p2).elim
  · have : rng2 ds = .error .stuck := by
      unfold rng2
      split
      · exact absurd ⟨_, _, rfl⟩ hds
      · rfl
    rw [this] at p1
    exact (W.ns p1).elim
end
section
variable {K : PySem.W.Frag} {W : Wish} {ro : Bool} {F0 H0 FB F H : Hp} {OL O O' O2 : List Nat} {D : Ends} {σ : St} {ρ : Env'} {g h : Env' → M Flo} {f fk : Env' → M Dat}
theorem popD_ok {ds : List Dat} {k : Dat} {d : Dat} {es : List Dat} (h : popD ds k = .ok (d, es)) : ∃ i j, k = .int i ∧ ds.length ≤ sizeLine ∧ ixN ds.length i = some j ∧ ds[j]? = some d ∧ es = ds.eraseIdx j := by
  unfold popD at h
  cases k with
  | int i =>
    simp only [asI, bind_ok] at h
    split at h
    · cases h
    · rename_i hs
      cases hj : ixN ds.length i with
      | none => rw [hj] at h; cases h
      | some j =>
        rw [hj] at h
        simp only at h
        cases hd : ds[j]? with
        | none => rw [hd] at h; cases h
        | some d' =>
          rw [hd] at h
          cases h
          exact ⟨i, j, rfl, by omega, hj, hd, rfl⟩
  | _ => cases h
theorem popD_err {ds : List Dat} {k : Dat} {e : Err} (h : popD ds k = .error e) : e = .stuck := by
  unfold popD at h
  cases k with
  | int i =>
    simp only [asI, bind_ok] at h
    split at h
    · cases h; rfl
    · cases hj : ixN ds.length i with
      | none => rw [hj] at h; cases h; rfl
      | some j =>
        rw [hj] at h
        simp only at h
        cases hd : ds[j]? with
        | none => rw [hd] at h; cases h; rfl
        | some d' => rw [hd] at h; cases h
  | _ => cases h; rfl
noncomputable def tPopE (K : PySem.W.Frag) (i : Nat) (tk : TE) : TE := tBM K "list" rPopAt (tVar i) (tCons tk tNil)
theorem pop_run {i : Nat} {R : VK} (r : Rep K F0 H0 FB O F H σ ρ) (hi : i ∈ O) {ds : List Dat} (hl : lstAt ρ i = .ok ds) (hE : ∀ e, fk ρ = .error e → W.p e F0 H0)
    (hO : ∀ k, fk ρ = .ok k → (∀ e, popD ds k = .error e → False) ∧ ∀ d es, popD ds k = .ok (d, es) → ∀ v F1 H1, Rep K F0 H0 FB O F1 H1 σ (ρ.set i (some (.lst es))) → Deep K F1 d v → R v H1) : tPopE K i (tD K W false fk) σ H R := by
  obtain ⟨a, xs, e2, ha, z⟩ := r.lstOwn hi (lstAt_ok hl)
  refine ⟨.ref a, e2, tyV_list ha, ?_⟩
  refine tD_run r.repAll r.plus_fh (fun e he => W.mono (hE e he) (r.freeze (O2 := []) (by simp)).st) fun k hk w F1 H1 s1 q => ?_
  obtain ⟨h1, h2⟩ := hO k hk
  cases hp : popD ds k with
  | error e => exact (h1 e hp).elim
  | ok de =>
    obtain ⟨d, es⟩ := de
    obtain ⟨m, j, rfl, hz, hj, hd, rfl⟩ := popD_ok hp
    obtain ⟨x1, x2, x3, x4⟩ := ixN_seq hj
    obtain ⟨y, e3, qy⟩ := z.get hd
    have hs := sizeLine_eq
    refine ⟨a, xs, m, j, y, rfl, by rw [show w = .int m from q], s1.hh _ _ ha, by omega, by omega, by rw [z.length]; exact x1, e3, ?_⟩
    exact h2 d _ hp y _ _ ((r.stepAll s1).write hi (lstAt_ok hl) e2 (Deeps.eraseIdx j (z.mono (r.stepAll_ff s1)))) (qy.mono (r.stepAll_ff s1))
theorem rs_appPop {i j : Nat} (hi : i ∈ O) (hj : j ∈ O) (hij : i ≠ j) (t : tS K W ro F0 H0 OL O O (sAppPop i j fk) D σ H) : tDrop (tBM K "list" rAppend (tVar i) (tCons (tPopE K j (tD K W false fk)) tNil)) D σ H := by
  obtain ⟨FB, F, ρ, r, p⟩ := t
  unfold sAppPop at p
  cases hl : lstAt ρ i with
  | error e => have := lstAt_err hl; subst this; exact p.stuck (by rw [hl]; rfl)
  | ok es =>
    rw [hl, bind_ok] at p
    cases hl2 : lstAt ρ j with
    | error e => have := lstAt_err hl2; subst this; exact p.stuck (by rw [hl2]; rfl)
    | ok ds =>
      rw [hl2, bind_ok] at p
      obtain ⟨a, xs, e2, ha, z⟩ := r.lstOwn hi (lstAt_ok hl)
      refine ⟨.ref a, e2, tyV_list ha, ?_⟩
      refine pop_run r hj hl2 (fun e he => p.err (by rw [he]; rfl)) fun k hk => ?_
      rw [hk, bind_ok] at p
      refine ⟨fun e he => by have := popD_err he; subst this; exact p.stuck (by rw [he]; rfl), fun d es2 hp v F1 H1 r1 q => ?_⟩
      rw [hp, bind_ok] at p
      have el : (ρ.set j (some (.lst es2)))[i]? = some (some (.lst es)) := by rw [List.getElem?_set_ne (Ne.symm hij)]; exact lstAt_ok hl
      obtain ⟨a', xs', e3, ha', z'⟩ := r1.lstOwn hi el
      rw [e2] at e3
      cases e3
      by_cases hs : es.length < sizeLine
      · simp only [if_pos hs] at p
        exact ⟨a, xs', v, rfl, rfl, ha', by rw [z'.length]; exact hs, p σ F1 _ (r1.write hi el e2 (Deeps.append z' ⟨v, [], rfl, q, rfl⟩))⟩
      · simp only [if_neg hs] at p
        exact p.stuck rfl
end
section
variable {X : Cx} {K : PySem.W.Frag} {W : Wish} {own ro : Bool} {e a b c : Expr} {x y : Str} {pos p p2 p3 q r t u : Pos} {f fk : Env' → M Dat} {OL O : List Nat}
theorem pe_pop {j : Nat} {tk : TE} (hk : PE X e tk) (hN : X.N[j]? = some y) (hv : Vis X.env.scope y) (hd : (y == ("__debug__" : Str)) = false) (hcd : (y == ("__classdict__" : Str)) = false)
    (hst : starEach [e] X.env = [(false, eval e X.env)]) (hbase : attributeBase (.Name y p) "pop" X.env (eval (.Name y p) X.env) = eval (.Name y p) X.env) (hfew : ((backTo q (starEach [e] X.env)).all (fun x => !x.1) && (backToKw q (keywordEach [] X.env)).all (fun x => x.1.isSome) && decide ([e].length + ([] : List Keyword).length + (if ([] : List Keyword).isEmpty then 0 else 1) < 30)) = true) (hplain : (backTo q (starEach [] X.env)).any (·.1) = false) (hline : (t.endLine == q.line) = true) :
    PE X (.Call (.Attribute (.Name y p) "pop" t) [e] [] q) (tPopE X.K j tk) := pe_bm PySem.F.plainAttrs_list PySem.F.slot_list_pop PySem.F.type_list_pop mt_popAt (pv j hN hv hd hcd) (pa_cons hk pa_nil hst) hbase hfew hline hst hplain
theorem ds_appPop {i j : Nat} (hk : DE K W false X e fk) (hoi : i ∈ O := by decide) (hoj : j ∈ O := by decide) (hij : i ≠ j := by decide) (hN : X.N[j]? = some y := by rfl) (hv : Vis X.env.scope y := by first | exact Or.inl rfl | exact Or.inr (Or.inl rfl) | exact Or.inr (Or.inr rfl)) (hd : (y == ("__debug__" : Str)) = false := by decide) (hcd : (y == ("__classdict__" : Str)) = false := by decide) (hN2 : X.N[i]? = some x := by rfl) (hv2 : Vis X.env.scope x := by first | exact Or.inl rfl | exact Or.inr (Or.inl rfl) | exact Or.inr (Or.inr rfl)) (hd2 : (x == ("__debug__" : Str)) = false := by decide) (hcd2 : (x == ("__classdict__" : Str)) = false := by decide) (hK : X.K = K := by rfl)
    (hst : starEach [e] X.env = [(false, eval e X.env)] := by rfl) (hbase : attributeBase (.Name y p) "pop" X.env (eval (.Name y p) X.env) = eval (.Name y p) X.env := by rfl) (hfew : ((backTo q (starEach [e] X.env)).all (fun x => !x.1) && (backToKw q (keywordEach [] X.env)).all (fun x => x.1.isSome) && decide ([e].length + ([] : List Keyword).length + (if ([] : List Keyword).isEmpty then 0 else 1) < 30)) = true := by rfl) (hplain : (backTo q (starEach [] X.env)).any (·.1) = false := by rfl) (hline : (t.endLine == q.line) = true := by rfl)
    (hst2 : starEach [.Call (.Attribute (.Name y p) "pop" t) [e] [] q] X.env = [(false, eval (.Call (.Attribute (.Name y p) "pop" t) [e] [] q) X.env)] := by rfl) (hbase2 : attributeBase (.Name x p2) "append" X.env (eval (.Name x p2) X.env) = eval (.Name x p2) X.env := by rfl)
    (hfew2 : ((backTo r (starEach [.Call (.Attribute (.Name y p) "pop" t) [e] [] q] X.env)).all (fun x => !x.1) && (backToKw r (keywordEach [] X.env)).all (fun x => x.1.isSome) && decide ([Expr.Call (.Attribute (.Name y p) "pop" t) [e] [] q].length + ([] : List Keyword).length + (if ([] : List Keyword).isEmpty then 0 else 1) < 30)) = true := by rfl) (hplain2 : (backTo r (starEach [] X.env)).any (·.1) = false := by rfl) (hline2 : (u.endLine == r.line) = true := by rfl)
    (hsw : swapsWith (.Call (.Attribute (.Name x p2) "append" u) [.Call (.Attribute (.Name y p) "pop" t) [e] [] q] [] r) none pos.line X.env = pure false := by rfl) :
    DS K W ro X OL O O (.Expr (.Call (.Attribute (.Name x p2) "append" u) [.Call (.Attribute (.Name y p) "pop" t) [e] [] q] [] r) pos) (sAppPop i j fk) := fun F0 H0 => by
  subst hK
  exact PS.imp (ps_expr (pe_bm PySem.F.plainAttrs_list PySem.F.slot_list_append PySem.F.type_list_append mt_append (pv i hN2 hv2 hd2 hcd2) (pa_cons (pe_pop hk hN hv hd hcd hst hbase hfew hplain hline) pa_nil hst2) hbase2 hfew2 hline2 hst2 hplain2) hsw) fun _ _ _ => rs_appPop hoi hoj hij
end
end L2
namespace L2
open PySem PySem.Spec PyProof.Rows
end L2
namespace L2
open PySem PySem.Spec PyProof.Rows
open PySem.W in
noncomputable def tRun {α : Type} (lt : Nat → Nat → Bool) : KasT α → α
  | .ret a => a
  | .ask i j k => tRun lt (k (lt i j))
section
open PySem.W
variable {α β : Type} {lt : Nat → Nat → Bool}
theorem tRun_bind (f : α → KasT β) : ∀ t : KasT α, tRun lt (t.bind f) = tRun lt (f (tRun lt t))
  | .ret _ => rfl
  | .ask i j k => tRun_bind f (k (lt i j))
variable {key : Nat → Int} {p : Array Nat}
noncomputable def kAt (key : Nat → Int) (p : Array Nat) (i : Nat) : Int := key (p.getD i 0)
noncomputable def Up (key : Nat → Int) (p : Array Nat) (k : Nat) : Prop := ∀ i j, i ≤ j → j < k → kAt key p i ≤ kAt key p j
noncomputable def Down (key : Nat → Int) (p : Array Nat) (k : Nat) : Prop := ∀ i j, i ≤ j → j < k → kAt key p j ≤ kAt key p i
theorem kAt_congr {p q : Array Nat} {i j : Nat} (h : p[i]? = q[j]?) : kAt key p i = kAt key q j := by
  unfold kAt
  rw [Array.getD_eq_getD_getElem?, Array.getD_eq_getD_getElem?, h]
theorem kAt_rev {i j : Nat} (hj : j ≤ p.size) (k : Nat) : kAt key (kas_rev p i j) k = if i ≤ k ∧ k < j then kAt key p (i + j - 1 - k) else kAt key p k := by
  have e := getElem?_mirror_all (i := i) hj k
  unfold kas_rev
  split
  · rename_i h; rw [if_pos h] at e; exact kAt_congr e
  · rename_i h; rw [if_neg h] at e; exact kAt_congr e
theorem kAt_bub {src d : Nat} (hs : src < p.size) (hd : d ≤ src) (k : Nat) : kAt key (bubble p src d) k = if k = src - d then kAt key p src else if src - d < k ∧ k ≤ src then kAt key p (k - 1) else kAt key p k := by
  have e := getElem?_bubble hs d hd k
  split
  · rename_i h; rw [if_pos h] at e; exact kAt_congr e
  · rename_i h
    rw [if_neg h] at e
    split
    · rename_i h2; rw [if_pos h2] at e; exact kAt_congr e
    · rename_i h2; rw [if_neg h2] at e; exact kAt_congr e
theorem rev_size {i j : Nat} : (kas_rev p i j).size = p.size := mirror_size _ _ _ _
theorem rev_perm {i j : Nat} : (kas_rev p i j).Perm p := mirror_perm _ _ _ _
noncomputable def ltK (key : Nat → Int) (i j : Nat) : Bool := decide (key i < key j)
theorem asc_ok (p : Array Nat) : ∀ (f n : Nat), 1 ≤ n → Up key p n → n ≤ tRun (ltK key) (kas_asc p f n) ∧ tRun (ltK key) (kas_asc p f n) ≤ n + f ∧ Up key p (tRun (ltK key) (kas_asc p f n)) ∧
    (tRun (ltK key) (kas_asc p f n) < n + f → kAt key p (tRun (ltK key) (kas_asc p f n)) < kAt key p (tRun (ltK key) (kas_asc p f n) - 1))
  | 0, n, h1, h => ⟨Nat.le_refl _, Nat.le_refl _, h, fun z => absurd z (Nat.lt_irrefl _)⟩
  | f + 1, n, h1, h => by
    have e : tRun (ltK key) (kas_asc p (f + 1) n) = if kAt key p n < kAt key p (n - 1) then n else tRun (ltK key) (kas_asc p f (n + 1)) := by
      show tRun (ltK key) (if ltK key (p.getD n 0) (p.getD (n - 1) 0) = true then KasT.ret n else kas_asc p f (n + 1)) = _
      by_cases hc : kAt key p n < kAt key p (n - 1)
      · rw [if_pos (show ltK key (p.getD n 0) (p.getD (n - 1) 0) = true from decide_eq_true hc), if_pos hc]; rfl
      · rw [if_neg (show ¬ ltK key (p.getD n 0) (p.getD (n - 1) 0) = true from fun z => hc (of_decide_eq_true z)), if_neg hc]
    rw [e]
    by_cases hc : kAt key p n < kAt key p (n - 1)
    · rw [if_pos hc]
      exact ⟨Nat.le_refl _, by omega, h, fun _ => hc⟩
    · rw [if_neg hc]
      obtain ⟨a1, a2, a3, a4⟩ := asc_ok p f (n + 1) (by omega) (fun i j hij hj => by
        by_cases hjn : j < n
        · exact h i j hij hjn
        · have : j = n := by omega
          subst this
          by_cases hin : i = j
          · rw [hin]; exact Int.le_refl _
          · have := h i (j - 1) (by omega) (by omega)
            omega)
      exact ⟨by omega, by omega, a3, fun z => a4 (by omega)⟩
noncomputable def Alike (key : Nat → Int) (p : Array Nat) (n q : Nat) : Prop := ∀ i, n - (q + 1) ≤ i → i < n → kAt key p i = kAt key p (n - 1)
theorem alike0 {n : Nat} : Alike key p (n + 1) 0 := fun i h1 h2 => by rw [show i = n + 1 - 1 by omega]
theorem rev_alike {n q : Nat} (hn : n ≤ p.size) (ha : Alike key p n q) (hq : q + 1 ≤ n) (k : Nat) : kAt key (kas_rev p (n - (q + 1)) n) k = kAt key p k := by
  rw [kAt_rev hn]
  split
  · rename_i h
    rw [ha _ (by omega) (by omega), ha k h.1 h.2]
  · rfl
theorem desc_ok : ∀ (f : Nat) (p : Array Nat) (n q : Nat), 1 ≤ n → q + 1 ≤ n → n + f ≤ p.size → Down key p n → Alike key p n q → ∀ p' n' q', tRun (ltK key) (kas_desc f p n q) = (p', n', q') →
    p'.Perm p ∧ p'.size = p.size ∧ n ≤ n' ∧ n' ≤ n + f ∧ q' + 1 ≤ n' ∧ Down key p' n' ∧ Alike key p' n' q'
  | 0, p, n, q, h1, hq, hz, hd, ha, p', n', q', e => by
    cases e
    exact ⟨Array.Perm.refl _, rfl, Nat.le_refl _, Nat.le_refl _, hq, hd, ha⟩
  | f + 1, p, n, q, h1, hq, hz, hd, ha, p', n', q', e => by
    have e0 : tRun (ltK key) (kas_desc (f + 1) p n q) = if kAt key p n < kAt key p (n - 1) then (if q > 0 then tRun (ltK key) (kas_desc f (kas_rev p (n - (q + 1)) n) (n + 1) 0) else tRun (ltK key) (kas_desc f p (n + 1) 0))
        else if kAt key p (n - 1) < kAt key p n then (p, n, q) else tRun (ltK key) (kas_desc f p (n + 1) (q + 1)) := by
      show tRun (ltK key) (if ltK key (p.getD n 0) (p.getD (n - 1) 0) = true then (if q > 0 then kas_desc f (kas_rev p (n - (q + 1)) n) (n + 1) 0 else kas_desc f p (n + 1) 0)
        else KasT.ask (p.getD (n - 1) 0) (p.getD n 0) fun d => if d = true then .ret (p, n, q) else kas_desc f p (n + 1) (q + 1)) = _
      by_cases hc : kAt key p n < kAt key p (n - 1)
      · rw [if_pos (show ltK key (p.getD n 0) (p.getD (n - 1) 0) = true from decide_eq_true hc), if_pos hc]
        by_cases hq0 : q > 0
        · rw [if_pos hq0, if_pos hq0]
        · rw [if_neg hq0, if_neg hq0]
      · rw [if_neg (show ¬ ltK key (p.getD n 0) (p.getD (n - 1) 0) = true from fun z => hc (of_decide_eq_true z)), if_neg hc]
        show tRun (ltK key) (if ltK key (p.getD (n - 1) 0) (p.getD n 0) = true then KasT.ret (p, n, q) else kas_desc f p (n + 1) (q + 1)) = _
        by_cases hc2 : kAt key p (n - 1) < kAt key p n
        · rw [if_pos (show ltK key (p.getD (n - 1) 0) (p.getD n 0) = true from decide_eq_true hc2), if_pos hc2]; rfl
        · rw [if_neg (show ¬ ltK key (p.getD (n - 1) 0) (p.getD n 0) = true from fun z => hc2 (of_decide_eq_true z)), if_neg hc2]
    rw [e0] at e
    have down1 : ∀ {r : Array Nat}, (∀ k, kAt key r k = kAt key p k) → kAt key p n ≤ kAt key p (n - 1) → Down key r (n + 1) := fun {r} hr hle i j hij hj => by
      rw [hr, hr]
      by_cases hjn : j < n
      · exact hd i j hij hjn
      · have : j = n := by omega
        subst this
        by_cases hin : i = j
        · rw [hin]; exact Int.le_refl _
        · have := hd i (j - 1) (by omega) (by omega)
          omega
    by_cases hc : kAt key p n < kAt key p (n - 1)
    · rw [if_pos hc] at e
      by_cases hq0 : q > 0
      · rw [if_pos hq0] at e
        have hr := rev_alike (key := key) (p := p) (n := n) (q := q) (by omega) ha hq
        obtain ⟨b1, b2, b3, b4, b5, b6, b7⟩ := desc_ok f _ (n + 1) 0 (by omega) (by omega) (by rw [rev_size]; omega) (down1 hr (by omega)) alike0 p' n' q' e
        exact ⟨b1.trans rev_perm, by rw [b2, rev_size], by omega, by omega, b5, b6, b7⟩
      · rw [if_neg hq0] at e
        obtain ⟨b1, b2, b3, b4, b5, b6, b7⟩ := desc_ok f _ (n + 1) 0 (by omega) (by omega) (by omega) (down1 (fun _ => rfl) (by omega)) alike0 p' n' q' e
        exact ⟨b1, b2, by omega, by omega, b5, b6, b7⟩
    · rw [if_neg hc] at e
      by_cases hc2 : kAt key p (n - 1) < kAt key p n
      · rw [if_pos hc2] at e
        cases e
        exact ⟨Array.Perm.refl _, rfl, Nat.le_refl _, by omega, hq, hd, ha⟩
      · rw [if_neg hc2] at e
        obtain ⟨b1, b2, b3, b4, b5, b6, b7⟩ := desc_ok f _ (n + 1) (q + 1) (by omega) (by omega) (by omega) (down1 (fun _ => rfl) (by omega)) (fun i h1 h2 => by
          show kAt key p i = kAt key p (n + 1 - 1)
          rw [Nat.add_sub_cancel]
          by_cases hin : i = n
          · rw [hin]
          · have := ha i (by omega) (by omega)
            omega) p' n' q' e
        exact ⟨b1, b2, by omega, by omega, b5, b6, b7⟩
theorem tail3_ok {n nrem : Nat} (h1 : 1 ≤ n) (hn : n ≤ nrem) (hz : nrem ≤ p.size) (hd : Down key p n) : ∀ m p', tRun (ltK key) (kas_tail3 n nrem p) = (m, p') → p'.Perm p ∧ p'.size = p.size ∧ 1 ≤ m ∧ m ≤ nrem ∧ Up key p' m := by
  intro m p' e
  unfold kas_tail3 at e
  rw [tRun_bind] at e
  cases e
  have hu : Up key (kas_rev p 0 n) n := fun i j hij hj => by
    rw [kAt_rev (by omega), kAt_rev (by omega), if_pos ⟨Nat.zero_le _, by omega⟩, if_pos ⟨Nat.zero_le _, by omega⟩]
    exact hd _ _ (by omega) (by omega)
  obtain ⟨a1, a2, a3, _⟩ := asc_ok (key := key) (kas_rev p 0 n) (nrem - n) n h1 hu
  exact ⟨rev_perm, rev_size, by omega, by omega, a3⟩
theorem descPart_ok {n nrem : Nat} (h1 : 1 ≤ n) (hn : n + 1 ≤ nrem) (hz : nrem ≤ p.size) (hall : ∀ i, i < n → kAt key p i = kAt key p (n - 1)) (hlt : kAt key p n < kAt key p (n - 1)) : ∀ m p', tRun (ltK key) (kas_descPart n nrem p) = (m, p') → p'.Perm p ∧ p'.size = p.size ∧ 1 ≤ m ∧ m ≤ nrem ∧ Up key p' m := by
  intro m p' e
  unfold kas_descPart at e
  rw [tRun_bind] at e
  obtain ⟨r, n2, q2⟩ : ∃ r n2 q2, tRun (ltK key) (kas_desc (nrem - (n + 1)) p (n + 1) 0) = (r, n2, q2) := ⟨_, _, _, rfl⟩
  obtain ⟨q2, er⟩ := q2
  rw [er] at e
  obtain ⟨b1, b2, b3, b4, b5, b6, b7⟩ := desc_ok (key := key) (nrem - (n + 1)) p (n + 1) 0 (by omega) (by omega) (by omega) (fun i j hij hj => by
    by_cases hjn : j < n
    · rw [hall i (by omega), hall j hjn]; exact Int.le_refl _
    · have : j = n := by omega
      subst this
      by_cases hin : i = j
      · rw [hin]; exact Int.le_refl _
      · rw [hall i (by omega)]; omega) alike0 r n2 q2 er
  by_cases hq : q2 > 0
  · simp only [if_pos hq] at e
    have hr := rev_alike (key := key) (p := r) (n := n2) (q := q2) (by omega) b7 b5
    obtain ⟨c1, c2, c3, c4, c5⟩ := tail3_ok (key := key) (p := kas_rev r (n2 - (q2 + 1)) n2) (n := n2) (nrem := nrem) (by omega) (by omega) (by rw [rev_size]; omega) (fun i j hij hj => by rw [hr, hr]; exact b6 i j hij hj) m p' e
    exact ⟨c1.trans (rev_perm.trans b1), by rw [c2, rev_size, b2], c3, c4, c5⟩
  · simp only [if_neg hq] at e
    obtain ⟨c1, c2, c3, c4, c5⟩ := tail3_ok (key := key) (p := r) (n := n2) (nrem := nrem) (by omega) (by omega) (by omega) b6 m p' e
    exact ⟨c1.trans b1, by rw [c2, b2], c3, c4, c5⟩
theorem count_ok {nrem : Nat} (h1 : 1 ≤ nrem) (hz : nrem ≤ p.size) : ∀ m p', tRun (ltK key) (kas_count nrem p) = (m, p') → p'.Perm p ∧ p'.size = p.size ∧ 1 ≤ m ∧ m ≤ nrem ∧ Up key p' m := by
  intro m p' e
  unfold kas_count at e
  rw [tRun_bind] at e
  obtain ⟨a1, a2, a3, a4⟩ := asc_ok (key := key) p (nrem - 1) 1 (Nat.le_refl _) (fun i j hij hj => by rw [show i = j by omega]; exact Int.le_refl _)
  obtain ⟨n, en⟩ : ∃ n, tRun (ltK key) (kas_asc p (nrem - 1) 1) = n := ⟨_, rfl⟩
  rw [en] at e a1 a2 a3 a4
  by_cases hn : (n == nrem) = true
  · simp only [if_pos hn] at e
    cases e
    exact ⟨Array.Perm.refl _, rfl, a1, by omega, a3⟩
  · simp only [if_neg hn] at e
    have hn' : n ≠ nrem := fun z => hn (by simp [z])
    have hlt := a4 (by omega)
    by_cases h2 : n > 1
    · simp only [if_pos h2] at e
      have e' : tRun (ltK key) (if ltK key (p.getD 0 0) (p.getD (n - 1) 0) = true then KasT.ret (n, p) else kas_descPart n nrem (kas_rev p 0 n)) = (m, p') := e
      by_cases hc : kAt key p 0 < kAt key p (n - 1)
      · rw [if_pos (show ltK key (p.getD 0 0) (p.getD (n - 1) 0) = true from decide_eq_true hc)] at e'
        cases e'
        exact ⟨Array.Perm.refl _, rfl, a1, by omega, a3⟩
      · rw [if_neg (show ¬ ltK key (p.getD 0 0) (p.getD (n - 1) 0) = true from fun z => hc (of_decide_eq_true z))] at e'
        have all : ∀ i, i < n → kAt key p i = kAt key p (n - 1) := fun i hi => by
          have x1 := a3 0 i (by omega) hi
          have x2 := a3 i (n - 1) (by omega) (by omega)
          omega
        have hr : ∀ i, i < n → kAt key (kas_rev p 0 n) i = kAt key p (n - 1) := fun i hi => by
          rw [kAt_rev (by omega), if_pos ⟨Nat.zero_le _, hi⟩]
          exact all _ (by omega)
        obtain ⟨c1, c2, c3, c4, c5⟩ := descPart_ok (key := key) (p := kas_rev p 0 n) (n := n) (nrem := nrem) a1 (by omega) (by rw [rev_size]; omega) (fun i hi => by rw [hr i hi, hr (n - 1) (by omega)]) (by
          rw [hr (n - 1) (by omega), kAt_rev (by omega), if_neg (by omega)]
          exact hlt) m p' e'
        exact ⟨c1.trans rev_perm, by rw [c2, rev_size], c3, c4, c5⟩
    · simp only [if_neg h2] at e
      have : n = 1 := by omega
      subst this
      exact descPart_ok (key := key) (Nat.le_refl _) (by omega) hz (fun i hi => by rw [show i = 1 - 1 by omega]) hlt m p' e
theorem place_ok {k : Nat} (hu : Up key p k) : ∀ (f l r : Nat), r ≤ k → r - l ≤ f → l ≤ r → (∀ i, i < l → kAt key p i ≤ kAt key p k) → (∀ i, r ≤ i → i < k → kAt key p k < kAt key p i) →
    tRun (ltK key) (kas_place p k f l r) ≤ k ∧ (∀ i, i < tRun (ltK key) (kas_place p k f l r) → kAt key p i ≤ kAt key p k) ∧ ∀ i, tRun (ltK key) (kas_place p k f l r) ≤ i → i < k → kAt key p k < kAt key p i
  | 0, l, r, hr, hf, hlr, h1, h2 => by
    have : l = r := by omega
    subst this
    exact ⟨hr, h1, h2⟩
  | f + 1, l, r, hr, hf, hlr, h1, h2 => by
    by_cases hge : l ≥ r
    · have : l = r := by omega
      subst this
      have e : tRun (ltK key) (kas_place p k (f + 1) l l) = l := by
        show tRun (ltK key) (if l ≥ l then KasT.ret l else _) = l
        rw [if_pos hge]; rfl
      rw [e]
      exact ⟨hr, h1, h2⟩
    · have e : tRun (ltK key) (kas_place p k (f + 1) l r) = if kAt key p k < kAt key p ((l + r) / 2) then tRun (ltK key) (kas_place p k f l ((l + r) / 2)) else tRun (ltK key) (kas_place p k f ((l + r) / 2 + 1) r) := by
        show tRun (ltK key) (if l ≥ r then KasT.ret l else .ask (p.getD k 0) (p.getD ((l + r) / 2) 0) fun c => if c = true then kas_place p k f l ((l + r) / 2) else kas_place p k f ((l + r) / 2 + 1) r) = _
        rw [if_neg hge]
        show tRun (ltK key) (if ltK key (p.getD k 0) (p.getD ((l + r) / 2) 0) = true then kas_place p k f l ((l + r) / 2) else kas_place p k f ((l + r) / 2 + 1) r) = _
        by_cases hc : kAt key p k < kAt key p ((l + r) / 2)
        · rw [if_pos (show ltK key (p.getD k 0) (p.getD ((l + r) / 2) 0) = true from decide_eq_true hc), if_pos hc]
        · rw [if_neg (show ¬ ltK key (p.getD k 0) (p.getD ((l + r) / 2) 0) = true from fun z => hc (of_decide_eq_true z)), if_neg hc]
      rw [e]
      by_cases hc : kAt key p k < kAt key p ((l + r) / 2)
      · rw [if_pos hc]
        exact place_ok hu f l ((l + r) / 2) (by omega) (by omega) (by omega) h1 fun i hi hik => by
          have := hu ((l + r) / 2) i hi hik
          omega
      · rw [if_neg hc]
        exact place_ok hu f ((l + r) / 2 + 1) r hr (by omega) (by omega) (fun i hi => by
          have := hu i ((l + r) / 2) (by omega) (by omega)
          omega) h2
theorem bin_ok : ∀ (f : Nat) (p : Array Nat) (k : Nat), k + f ≤ p.size → Up key p k → (tRun (ltK key) (kas_bin f p k)).Perm p ∧ Up key (tRun (ltK key) (kas_bin f p k)) (k + f)
  | 0, p, k, hz, hu => ⟨Array.Perm.refl _, hu⟩
  | f + 1, p, k, hz, hu => by
    have e : tRun (ltK key) (kas_bin (f + 1) p k) = tRun (ltK key) (kas_bin f (bubble p k (k - tRun (ltK key) (kas_place p k k 0 k))) (k + 1)) := by
      show tRun (ltK key) ((kas_place p k k 0 k).bind fun l => kas_bin f (bubble p k (k - l)) (k + 1)) = _
      rw [tRun_bind]
    rw [e]
    obtain ⟨a1, a2, a3⟩ := place_ok hu k 0 k (Nat.le_refl _) (by omega) (Nat.zero_le _) (fun i hi => absurd hi (Nat.not_lt_zero _)) (fun i h1 h2 => by omega)
    obtain ⟨l, el⟩ : ∃ l, tRun (ltK key) (kas_place p k k 0 k) = l := ⟨_, rfl⟩
    rw [el] at a1 a2 a3 ⊢
    have hb := kAt_bub (key := key) (p := p) (src := k) (d := k - l) (by omega) (by omega)
    obtain ⟨c1, c2⟩ := bin_ok f (bubble p k (k - l)) (k + 1) (by rw [bubble_size]; omega) (fun i j hij hj => by
      have e1 : k - (k - l) = l := by omega
      rw [hb, hb, e1]
      by_cases hi : i = l
      · rw [if_pos hi]
        by_cases hj2 : j = l
        · rw [if_pos hj2]; exact Int.le_refl _
        · rw [if_neg hj2, if_pos (by omega)]
          have := a3 (j - 1) (by omega) (by omega)
          omega
      · rw [if_neg hi]
        by_cases hj2 : j = l
        · rw [if_pos hj2, if_neg (by omega)]
          exact a2 i (by omega)
        · rw [if_neg hj2]
          by_cases hi2 : l < i ∧ i ≤ k
          · rw [if_pos hi2, if_pos (by omega)]
            exact hu _ _ (by omega) (by omega)
          · rw [if_neg hi2]
            by_cases hj3 : l < j ∧ j ≤ k
            · rw [if_pos hj3]
              exact hu _ _ (by omega) (by omega)
            · rw [if_neg hj3]
              exact hu _ _ (by omega) (by omega))
    exact ⟨c1.trans (bubble_perm _ _ _), by rw [show k + (f + 1) = k + 1 + f by omega]; exact c2⟩
theorem sort_ok {n : Nat} (h1 : 1 ≤ n) : (tRun (ltK key) (kas_sort n)).toList.Perm (List.range n) ∧ Up key (tRun (ltK key) (kas_sort n)) n := by
  unfold kas_sort
  rw [tRun_bind]
  obtain ⟨m, p', er⟩ : ∃ m p', tRun (ltK key) (kas_count n (List.toArray (List.range n))) = (m, p') := ⟨_, _, rfl⟩
  rw [er]
  obtain ⟨b1, b2, b3, b4, b5⟩ := count_ok (key := key) (p := List.toArray (List.range n)) h1 (by simp) m p' er
  have hsz : p'.size = n := by rw [b2]; simp
  by_cases hm : m < n
  · simp only [if_pos hm]
    have em : max m 1 = m := by omega
    rw [em]
    obtain ⟨c1, c2⟩ := bin_ok (key := key) (n - m) p' m (by omega) b5
    refine ⟨?_, by rw [show m + (n - m) = n by omega] at c2; exact c2⟩
    have := Array.perm_iff_toList_perm.mp (c1.trans b1)
    simpa using this
  · simp only [if_neg hm]
    have : m = n := by omega
    subst this
    refine ⟨?_, b5⟩
    have := Array.perm_iff_toList_perm.mp b1
    show p'.toList.Perm _
    simpa using this
end
end L2
namespace L2
open PySem PySem.Spec PyProof.Rows
section
open PySem.W
variable {α β : Type} {n : Nat}
noncomputable def AskR (n : Nat) (R : α → Prop) : KasT α → Prop
  | .ret a => R a
  | .ask i j k => i < n ∧ j < n ∧ ∀ b, AskR n R (k b)
theorem askR_bind {R : α → Prop} {S : β → Prop} {f : α → KasT β} (hf : ∀ a, R a → AskR n S (f a)) : ∀ t : KasT α, AskR n R t → AskR n S (t.bind f)
  | .ret a, h => hf a h
  | .ask i j k, h => ⟨h.1, h.2.1, fun b => askR_bind hf (k b) (h.2.2 b)⟩
theorem kasWp_runR {lt : Nat → Nat → Bool} {R : α → Prop} {cmp : Nat → Nat → (Bool → Shared → Prop) → Shared → Prop} {s : Shared} (ha : ∀ i j (C : Bool → Shared → Prop), i < n → j < n → C (lt i j) s → cmp i j C s) {Q : α → Shared → Prop} : ∀ t : KasT α, AskR n R t → Q (tRun lt t) s → t.kasWp cmp Q s
  | .ret _, _, h => h
  | .ask i j k, r, h => ha i j _ r.1 r.2.1 (kasWp_runR ha (k (lt i j)) (r.2.2 _) h)
noncomputable def InB (n : Nat) (p : Array Nat) : Prop := ∀ x, p.getD x 0 < n
theorem inB_perm {p q : Array Nat} (h0 : 0 < n) (hp : InB n p) (h : q.Perm p) : InB n q := fun x => by
  rw [Array.getD_eq_getD_getElem?]
  cases e : q[x]? with
  | none => exact h0
  | some v =>
    have hv : v ∈ q.toList := by
      rw [← Array.getElem?_toList] at e
      exact List.mem_of_getElem? e
    have hv2 : v ∈ p.toList := (Array.perm_iff_toList_perm.mp h).mem_iff.mp hv
    obtain ⟨y, hy, ey⟩ := List.getElem_of_mem hv2
    have := hp y
    rw [Array.getD_eq_getD_getElem?, ← Array.getElem?_toList, List.getElem?_eq_getElem hy, ey] at this
    exact this
variable {p : Array Nat}
theorem askR_asc (hp : InB n p) : ∀ f m, AskR n (fun _ => True) (kas_asc p f m)
  | 0, _ => trivial
  | f + 1, m => ⟨hp _, hp _, fun b => by
    (try dsimp only)
    split
    · trivial
    · exact askR_asc hp f (m + 1)⟩
theorem askR_desc (h0 : 0 < n) : ∀ (f : Nat) (p : Array Nat) (m q : Nat), InB n p → AskR n (fun r => InB n r.1) (kas_desc f p m q)
  | 0, p, _, _, hp => hp
  | f + 1, p, m, q, hp => ⟨hp _, hp _, fun b => by
    (try dsimp only)
    split
    · split
      · exact askR_desc h0 f _ _ _ (inB_perm h0 hp rev_perm)
      · exact askR_desc h0 f _ _ _ hp
    · refine ⟨hp _, hp _, fun c => ?_⟩
      (try dsimp only)
      split
      · exact hp
      · exact askR_desc h0 f _ _ _ hp⟩
theorem askR_tail3 (h0 : 0 < n) (hp : InB n p) (m r : Nat) : AskR n (fun r => InB n r.2) (kas_tail3 m r p) := by
  unfold kas_tail3
  refine askR_bind (n := n) (R := fun _ => True) (f := fun k => KasT.ret (k, kas_rev p 0 m)) (fun a _ => ?_) _ (askR_asc (inB_perm h0 hp rev_perm) _ _)
  exact inB_perm h0 hp rev_perm
theorem askR_descPart (h0 : 0 < n) (hp : InB n p) (m r : Nat) : AskR n (fun r => InB n r.2) (kas_descPart m r p) := by
  refine askR_bind (R := fun r => InB n r.1) (fun a ha => ?_) _ (askR_desc h0 _ _ _ _ hp)
  (try dsimp only)
  split
  · exact askR_tail3 h0 (inB_perm h0 ha rev_perm) _ _
  · exact askR_tail3 h0 ha _ _
theorem askR_count (h0 : 0 < n) (hp : InB n p) (r : Nat) : AskR n (fun r => InB n r.2) (kas_count r p) := by
  refine askR_bind (R := fun _ => True) (fun a _ => ?_) _ (askR_asc hp _ _)
  (try dsimp only)
  split
  · exact hp
  · split
    · refine ⟨hp _, hp _, fun b => ?_⟩
      (try dsimp only)
      split
      · exact hp
      · exact askR_descPart h0 (inB_perm h0 hp rev_perm) _ _
    · exact askR_descPart h0 hp _ _
theorem askR_place (hp : InB n p) (k : Nat) : ∀ f l r, AskR n (fun _ => True) (kas_place p k f l r)
  | 0, _, _ => trivial
  | f + 1, l, r => by
    show AskR n (fun _ => True) (if l ≥ r then KasT.ret l else _)
    split
    · trivial
    · refine ⟨hp _, hp _, fun b => ?_⟩
      (try dsimp only)
      split
      · exact askR_place hp k f _ _
      · exact askR_place hp k f _ _
theorem askR_bin (h0 : 0 < n) : ∀ (f : Nat) (p : Array Nat) (k : Nat), InB n p → AskR n (fun _ => True) (kas_bin f p k)
  | 0, _, _, _ => trivial
  | f + 1, p, k, hp => askR_bind (R := fun _ => True) (fun l _ => askR_bin h0 f _ _ (inB_perm h0 hp (bubble_perm _ _ _))) _ (askR_place hp k _ _ _)
theorem askR_sort (h0 : 0 < n) : AskR n (fun _ => True) (kas_sort n) := by
  refine askR_bind (R := fun r => InB n r.2) (fun a ha => ?_) _ (askR_count h0 (fun x => ?_) _)
  · (try dsimp only)
    split
    · exact askR_bin h0 _ _ _ ha
    · trivial
  · rw [Array.getD_eq_getD_getElem?]
    simp only [List.getElem?_toArray]
    cases e : (List.range n)[x]? with
    | none => exact h0
    | some v => exact List.mem_range.mp (List.mem_of_getElem? e)
end
section
open PySem.W
variable {prog : Program} {w : World} {A : Around} {E : Value → Shared → Prop} {s : Shared} {key : Nat → Int}
noncomputable def outOf (key : Nat → Int) (vs : List Value) : List Value := if vs.length < 2 then vs else (tRun (ltK key) (kas_sort vs.length)).toList.map fun i => vs.getD i Value.none
noncomputable def Asks (prog : Program) (w : World) (A : Around) (key : Nat → Int) (vs : List Value) (s' : Shared) : Prop :=
  wpAny (model prog w) A (keyKind' vs.toArray) (fun κ s2 => s2 = s' ∧ ∀ i j (C : Bool → Shared → Prop), i < vs.length → j < vs.length → C (ltK key i j) s' → kas_ask prog w A κ vs i j C s') (fun _ _ => False) s'
theorem lsort_any {a : Addr} {vs : List Value} {n : Nat} {P : PySem.Fin → Shared → Prop} (ho : s.heap.get? a = some (seqObj "list" vs.toArray n)) (h64 : vs.length < 64)
    (hk : 2 ≤ vs.length → ∀ h1 : Heap, (∀ b o, b ≠ a → s.heap.get? b = some o → h1.get? b = some o) → Asks prog w A key vs { s with heap := h1 })
    (h : ∀ (h' : Heap) (c : Nat), (∀ b o, b ≠ a → s.heap.get? b = some o → h'.get? b = some o) → h'.get? a = some (seqObj "list" (outOf key vs).toArray c) → P (.done (.ret .none)) { s with heap := h' }) :
    wpAny (model prog w) A (Builtin.«list.sort» ⟨[.ref a], []⟩) P E s := by
  have hlt : a < s.heap.objs.size := Heap.lt_size ho
  have hline := sizeLine_eq
  obtain ⟨e1, ho1⟩ : ∃ e1, (s.heap.update a (Obj.mapSeq fun _ => (#[] : Array Value))).get? a = some (seqObj "list" #[] e1) := ⟨_, get?_update_seq ho fun _ => #[]⟩
  rw [list_sort_plain]
  refine wpAny_bind (listItems_at ho rfl (wpAny_bind (listUpdate_at ho rfl (wpAny_bind (seqEpoch_at ho1 rfl (wpAny_bind (wpAny_newTuple (wpAny_bind (wpAny_newList (wpAny_holding ?_) (Nat.zero_le _))) (by show vs.length ≤ _; omega))))) (by rw [List.size_toArray]; omega) (Nat.zero_le _))))
  have hkeep : ∀ b o, b ≠ a → s.heap.get? b = some o → (((s.heap.update a (Obj.mapSeq fun _ => (#[] : Array Value))).push (seqObj "tuple" vs.toArray 0)).push (seqObj "list" #[] 0)).get? b = some o := fun b o hb q =>
    Heap.get?_push_of_some _ (Heap.get?_push_of_some _ ((Heap.get?_update_other _ _ (Ne.symm hb)).trans q))
  have ho6 : (((s.heap.update a (Obj.mapSeq fun _ => (#[] : Array Value))).push (seqObj "tuple" vs.toArray 0)).push (seqObj "list" #[] 0)).get? a = some (seqObj "list" #[] e1) := Heap.get?_push_of_some _ (Heap.get?_push_of_some _ ho1)
  show wpAny (model prog w) A _ P E { s with heap := ((s.heap.update a (Obj.mapSeq fun _ => (#[] : Array Value))).push (seqObj "tuple" vs.toArray 0)).push (seqObj "list" #[] 0) }
  dsimp only
  have fin : ∀ (out : List Value), out = outOf key vs → P (.done (.ret .none)) { s with heap := (((s.heap.update a (Obj.mapSeq fun _ => (#[] : Array Value))).push (seqObj "tuple" vs.toArray 0)).push (seqObj "list" #[] 0)).update a (Obj.mapSeq fun _ => out.toArray) } := fun out eo => by
    subst eo
    exact h _ _ (fun b o hb q => (Heap.get?_update_other _ _ (Ne.symm hb)).trans (hkeep b o hb q)) (get?_update_seq ho6 fun _ => (outOf key vs).toArray)
  by_cases h2 : vs.toArray.size < 2
  · rw [if_pos h2, if_pos h2]
    refine wpAny_bind (wpAny_pure ?_)
    rw [StateT.run_pure]
    refine wpAny_bind (wpAny_pure ?_)
    dsimp only
    have h2' : vs.length < 2 := by simpa using h2
    have eo : (arrOf (SortSt.mk' general' (vs.toArray.zip vs.toArray) #[] 7 none)).map (·.2) = vs.toArray := by
      show (vs.toArray.zip vs.toArray).map (·.2) = vs.toArray
      apply Array.toList_inj.mp
      simp only [Array.toList_map, Array.toList_zip]
      exact List.map_snd_zip (Nat.le_refl _)
    rw [eo]
    refine wpAny_bind (seqEpoch_at ho6 rfl (wpAny_bind (listUpdate_at ho6 rfl ?_ (Nat.zero_le _) (by show vs.length ≤ _; omega))))
    have e3 : failedOf (SortSt.mk' general' (vs.toArray.zip vs.toArray) #[] 7 none) = none := rfl
    simp only [e3, bne_self_eq_false, Bool.false_eq_true, if_false]
    exact wpAny_pure (fin vs (by unfold outOf; rw [if_pos h2']))
  · rw [if_neg h2, if_neg h2]
    have h2' : 2 ≤ vs.length := by rw [List.size_toArray] at h2; omega
    refine wpAny_bind (wpAny_mono (hk h2' _ hkeep) (fun κ s0 ⟨es, ask⟩ => ?_) fun _ _ x => x.elim)
    subst es
    refine wpAny_bind (wpAny_mono (kat_run (ks := vs) (vs := vs) (Q := fun st' s' => s' = { s with heap := ((s.heap.update a (Obj.mapSeq fun _ => (#[] : Array Value))).push (seqObj "tuple" vs.toArray 0)).push (seqObj "list" #[] 0) } ∧ (arrOf st').map (·.2) = (outOf key vs).toArray ∧ failedOf st' = none)
      (G := fun p s' => s' = { s with heap := ((s.heap.update a (Obj.mapSeq fun _ => (#[] : Array Value))).push (seqObj "tuple" vs.toArray 0)).push (seqObj "list" #[] 0) } ∧ p = tRun (ltK key) (kas_sort vs.length)) rfl h2' h64 (fun p st' s' _ har hf hg => ⟨hg.1, ?_, hf⟩) (kasWp_runR (n := vs.length) (R := fun _ => True) (fun i j C hi hj hc => ask i j C hi hj hc) _ (askR_sort (by omega)) ⟨rfl, rfl⟩)) (fun r s' hr => ?_) fun _ _ x => x)
    · rw [kat_snds rfl har, hg.2]
      unfold outOf
      rw [if_neg (by omega)]
    · obtain ⟨⟨⟩, st'⟩ := r
      obtain ⟨es, eo, ef⟩ := hr
      have es : s' = _ := es
      subst es
      have eo : (arrOf st').map (·.2) = (outOf key vs).toArray := eo
      have ef : failedOf st' = none := ef
      dsimp only
      rw [eo]
      have hol : (outOf key vs).length = vs.length := by
        unfold outOf
        split
        · rfl
        · rw [List.length_map, (sort_ok (key := key) (n := vs.length) (by omega)).1.length_eq, List.length_range]
      refine wpAny_bind (seqEpoch_at ho6 rfl (wpAny_bind (listUpdate_at ho6 rfl ?_ (Nat.zero_le _) (by show (outOf key vs).length ≤ _; omega))))
      simp only [ef, bne_self_eq_false, Bool.false_eq_true, if_false]
      exact wpAny_pure (fin _ rfl)
theorem sorted_any {l : Addr} {vs : List Value} {Q : Value → Shared → Prop} (hl : s.heap.IsList l vs.toArray) (h64 : vs.length < 64)
    (hk : 2 ≤ vs.length → ∀ h1 : Heap, (∀ b o, s.heap.get? b = some o → h1.get? b = some o) → Asks prog w A.in1.in1 key vs { s with heap := h1 })
    (h : ∀ (h' : Heap) (D : Addr) (c : Nat), s.heap.objs.size ≤ D → (∀ b o, s.heap.get? b = some o → h'.get? b = some o) → h'.get? D = some (seqObj "list" (outOf key vs).toArray c) → Q (.ref D) { s with heap := h' }) :
    wpAny (model prog w) A (call (.builtin "sorted") [.ref l]) Q E s := by
  have hline := sizeLine_eq
  refine Calls.call_function_entry kind_sorted plain_sorted entry_sorted (args_sorted1 _) ?_
  unfold Builtin.«sorted»
  refine wpAny_bind (m := checkCount "sorted" 1 1 _) (wpAny_pure (wpAny_bind (collect_list hl (wpAny_bind (wpAny_newList ?_ (by omega))) (by omega))))
  have hz : ((s.heap.push (seqObj "list" #[] 0)).update s.heap.objs.size (Obj.mapSeq (· ++ vs.toArray))).objs.size = s.heap.objs.size + 1 := by rw [Heap.size_update, size_push']
  have hD : (((s.heap.push (seqObj "list" #[] 0)).update s.heap.objs.size (Obj.mapSeq (· ++ vs.toArray))).push (seqObj "list" vs.toArray 0)).get? (s.heap.objs.size + 1) = some (seqObj "list" vs.toArray 0) := by rw [← hz]; exact Heap.get?_push_size _ rfl
  have hkeep : ∀ b o, s.heap.get? b = some o → (((s.heap.push (seqObj "list" #[] 0)).update s.heap.objs.size (Obj.mapSeq (· ++ vs.toArray))).push (seqObj "list" vs.toArray 0)).get? b = some o := fun b o q =>
    Heap.get?_push_of_some _ ((Heap.get?_update_other _ _ (Nat.ne_of_gt (Heap.lt_size q))).trans (Heap.get?_push_of_some _ q))
  show wpAny _ _ _ _ _ { s with heap := ((s.heap.push (seqObj "list" #[] 0)).update s.heap.objs.size (Obj.mapSeq (· ++ vs.toArray))).push (seqObj "list" vs.toArray 0) }
  rw [hz]
  have hnD : ∀ b o, s.heap.get? b = some o → b ≠ s.heap.objs.size + 1 := fun b o q => Nat.ne_of_lt (Nat.lt_succ_of_lt (Heap.lt_size q))
  refine wpAny_bind (wpAny_holding (wpAny_call_entry slot_list_sort ⟨_, hD, rfl⟩ entry_list_sort (lsort_any hD h64 (fun h2 h1 hk1 => hk h2 h1 fun b o q => hk1 b o (hnD b o q) (hkeep b o q)) fun h' c k' e' => ⟨_, rfl, ?_⟩) (args_list_sort _)))
  exact wpAny_pure ⟨_, rfl, h h' _ c (Nat.le_succ _) (fun b o q => k' b o (hnD b o q) (hkeep b o q)) e'⟩
end
end L2
namespace L2
open PySem PySem.Spec PyProof.Rows
noncomputable def insL {α : Type} (lt : α → α → Bool) (x : α) : List α → List α
  | [] => [x]
  | y :: ys => if lt y x = true then y :: insL lt x ys else x :: y :: ys
noncomputable def isort {α : Type} (lt : α → α → Bool) : List α → List α
  | [] => []
  | x :: xs => insL lt x (isort lt xs)
noncomputable def ltZ (a b : Int) : Bool := decide (a < b)
noncomputable def lexZ : List Int → List Int → Bool
  | [], [] => false
  | [], _ :: _ => true
  | _ :: _, [] => false
  | a :: as, b :: bs => if a = b then lexZ as bs else decide (a < b)
noncomputable def tupZ (t : List Int) : Dat := .tup (t.map .int)
noncomputable def tupD : Dat → M (List Int)
  | .tup ds => intsD ds
  | _ => stk
noncomputable def tupsD : List Dat → M (List (List Int))
  | [] => .ok []
  | d :: ds => (tupD d).bind fun t => (tupsD ds).bind fun r => .ok (t :: r)
noncomputable def sortDs (ds : List Dat) : M Dat := if ds.length < 64 then (match intsD ds with
  | .ok is => .ok (.lst ((isort ltZ is).map .int))
  | .error _ => (tupsD ds).bind fun ts => if (ts.all fun t => !t.isEmpty) = true then .ok (.lst ((isort lexZ ts).map tupZ)) else stk) else stk
noncomputable def sortedD : List Dat → M Dat
  | [.lst ds] => sortDs ds
  | _ => stk
section
variable {α : Type} {lt : α → α → Bool}
structure Ord (lt : α → α → Bool) : Prop where
  irr : ∀ a, lt a a = false
  tr : ∀ a b c, lt a b = true → lt b c = true → lt a c = true
  tot : ∀ a b, lt a b = false → lt b a = false → a = b
theorem ordZ : Ord ltZ := ⟨fun a => by simp [ltZ], fun a b c h1 h2 => by simp [ltZ] at *; omega, fun a b h1 h2 => by simp [ltZ] at *; omega⟩
theorem ordLex : Ord lexZ := by
  refine ⟨fun a => ?_, fun a b c => ?_, fun a b => ?_⟩
  · induction a with
    | nil => rfl
    | cons x xs ih => simp [lexZ, ih]
  · induction a generalizing b c with
    | nil =>
      cases b with
      | nil => intro h; simp [lexZ] at h
      | cons y ys =>
        intro _ h2
        cases c with
        | nil => simp [lexZ] at h2
        | cons z zs => rfl
    | cons x xs ih =>
      intro h1 h2
      cases b with
      | nil => simp [lexZ] at h1
      | cons y ys =>
        cases c with
        | nil => simp [lexZ] at h2
        | cons z zs =>
          simp only [lexZ] at h1 h2 ⊢
          by_cases e1 : x = y
          · subst e1
            rw [if_pos rfl] at h1
            by_cases e2 : x = z
            · rw [if_pos e2] at h2 ⊢; exact ih _ _ h1 h2
            · rw [if_neg e2] at h2 ⊢; exact h2
          · rw [if_neg e1] at h1
            have h1' : x < y := of_decide_eq_true h1
            by_cases e2 : y = z
            · subst e2
              rw [if_neg e1]; exact h1
            · rw [if_neg e2] at h2
              have h2' : y < z := of_decide_eq_true h2
              rw [if_neg (by omega)]
              exact decide_eq_true (by omega)
  · induction a generalizing b with
    | nil =>
      cases b with
      | nil => intros; rfl
      | cons y ys => intro h; simp [lexZ] at h
    | cons x xs ih =>
      cases b with
      | nil => intro _ h; simp [lexZ] at h
      | cons y ys =>
        intro h1 h2
        simp only [lexZ] at h1 h2
        by_cases e1 : x = y
        · subst e1
          rw [if_pos rfl] at h1 h2
          rw [ih _ h1 h2]
        · rw [if_neg e1] at h1
          rw [if_neg (fun z => e1 z.symm)] at h2
          have h1' := of_decide_eq_false h1
          have h2' := of_decide_eq_false h2
          omega
theorem insL_perm (x : α) : ∀ l : List α, (insL lt x l).Perm (x :: l)
  | [] => List.Perm.refl _
  | y :: ys => by
    rw [insL]
    split
    · exact ((insL_perm x ys).cons y).trans (List.Perm.swap x y ys)
    · exact List.Perm.refl _
theorem isort_perm : ∀ l : List α, (isort lt l).Perm l
  | [] => List.Perm.refl _
  | x :: xs => (insL_perm x _).trans ((isort_perm xs).cons x)
theorem Ord.le_trans (o : Ord lt) {a b c : α} (h1 : lt b a = false) (h2 : lt c b = false) : lt c a = false := by
  cases h : lt c a with
  | false => rfl
  | true =>
    cases h3 : lt b c with
    | true => rw [o.tr b c a h3 h] at h1; cases h1
    | false =>
      have := o.tot c b h2 h3
      subst this
      rw [h] at h1; cases h1
theorem Ord.asym (o : Ord lt) {a b : α} (h : lt a b = true) : lt b a = false := by
  cases h2 : lt b a with
  | false => rfl
  | true => have := o.tr a b a h h2; rw [o.irr] at this; cases this
theorem insL_sorted (o : Ord lt) (x : α) : ∀ l : List α, l.Pairwise (fun a b => lt b a = false) → (insL lt x l).Pairwise (fun a b => lt b a = false)
  | [], _ => by simp [insL]
  | y :: ys, h => by
    rw [insL]
    rw [List.pairwise_cons] at h
    split
    · rename_i hc
      rw [List.pairwise_cons]
      refine ⟨fun b hb => ?_, insL_sorted o x ys h.2⟩
      rcases List.mem_cons.mp ((insL_perm x ys).mem_iff.mp hb) with e | e
      · rw [e]; exact o.asym hc
      · exact h.1 b e
    · rename_i hc
      have hc' : lt y x = false := by simpa using hc
      rw [List.pairwise_cons, List.pairwise_cons]
      refine ⟨fun b hb => ?_, h⟩
      rcases List.mem_cons.mp hb with e | e
      · rw [e]; exact hc'
      · exact o.le_trans hc' (h.1 b e)
theorem isort_sorted (o : Ord lt) : ∀ l : List α, (isort lt l).Pairwise (fun a b => lt b a = false)
  | [] => List.Pairwise.nil
  | x :: xs => insL_sorted o x _ (isort_sorted o xs)
theorem perm_unique (o : Ord lt) : ∀ {l m : List α}, l.Perm m → l.Pairwise (fun a b => lt b a = false) → m.Pairwise (fun a b => lt b a = false) → l = m
  | [], m, h, _, _ => (List.Perm.nil_eq h)
  | a :: l, m, h, h1, h2 => by
    cases m with
    | nil => exact absurd h.symm (by simp)
    | cons b m =>
      rw [List.pairwise_cons] at h1 h2
      have e : a = b := by
        rcases List.mem_cons.mp (h.mem_iff.mp List.mem_cons_self) with e | e
        · exact e
        · rcases List.mem_cons.mp (h.mem_iff.mpr List.mem_cons_self) with e2 | e2
          · exact e2.symm
          · exact o.tot a b (h2.1 a e) (h1.1 b e2)
      subst e
      rw [perm_unique o (List.Perm.cons_inv h) h1.2 h2.2]
end
section
open PySem.W
variable {α : Type} {lt : α → α → Bool}
theorem getD_get {l : List α} {i : Nat} {d : α} (h : i < l.length) : l.getD i d = l[i] := by simp [h]
noncomputable def rk (lt : α → α → Bool) (zs : List α) (d : α) (i : Nat) : Int := ((zs.filter fun z => lt z (zs.getD i d)).length : Int)
theorem filter_lt {p q : α → Bool} (h : ∀ z, p z = true → q z = true) : ∀ l : List α, (l.filter p).length ≤ (l.filter q).length ∧ ((∃ z ∈ l, p z = false ∧ q z = true) → (l.filter p).length < (l.filter q).length)
  | [] => ⟨Nat.le_refl _, fun ⟨_, h, _⟩ => nomatch h⟩
  | x :: xs => by
    obtain ⟨i1, i2⟩ := filter_lt h xs
    cases hp : p x with
    | true =>
      have hq := h x hp
      rw [List.filter_cons_of_pos hp, List.filter_cons_of_pos hq]
      refine ⟨by simp; exact i1, fun ⟨z, hz, e1, e2⟩ => ?_⟩
      rcases List.mem_cons.mp hz with e | e
      · rw [e, hp] at e1; cases e1
      · have := i2 ⟨z, e, e1, e2⟩
        simp; exact this
    | false =>
      rw [List.filter_cons_of_neg (by simp [hp])]
      cases hq : q x with
      | true =>
        rw [List.filter_cons_of_pos hq]
        exact ⟨by simp; omega, fun _ => by simp; omega⟩
      | false =>
        rw [List.filter_cons_of_neg (by simp [hq])]
        refine ⟨i1, fun ⟨z, hz, e1, e2⟩ => ?_⟩
        rcases List.mem_cons.mp hz with e | e
        · rw [e, hq] at e2; cases e2
        · exact i2 ⟨z, e, e1, e2⟩
theorem rk_lt (o : Ord lt) {zs : List α} {d : α} {i j : Nat} (hi : i < zs.length) (hj : j < zs.length) : ltK (rk lt zs d) i j = lt (zs.getD i d) (zs.getD j d) := by
  unfold ltK rk
  have gi : zs.getD i d ∈ zs := by rw [getD_get hi]; exact List.getElem_mem hi
  have gj : zs.getD j d ∈ zs := by rw [getD_get hj]; exact List.getElem_mem hj
  cases h : lt (zs.getD i d) (zs.getD j d) with
  | true =>
    refine decide_eq_true ?_
    have := (filter_lt (p := fun z => lt z (zs.getD i d)) (q := fun z => lt z (zs.getD j d)) (fun z hz => o.tr _ _ _ hz h) zs).2 ⟨_, gi, o.irr _, h⟩
    omega
  | false =>
    refine decide_eq_false ?_
    have := (filter_lt (p := fun z => lt z (zs.getD j d)) (q := fun z => lt z (zs.getD i d)) (fun z hz => by
      cases h3 : lt z (zs.getD i d) with
      | true => rfl
      | false =>
        have e := o.le_trans h h3
        rw [hz] at e; cases e) zs).1
    omega
theorem out_isort (o : Ord lt) (zs : List α) (d : α) (h2 : 2 ≤ zs.length) : (tRun (ltK (rk lt zs d)) (kas_sort zs.length)).toList.map (fun i => zs.getD i d) = isort lt zs := by
  obtain ⟨h1, hu⟩ := sort_ok (key := rk lt zs d) (n := zs.length) (by omega)
  refine perm_unique o ?_ ?_ (isort_sorted o zs)
  · refine (h1.map _).trans ?_
    have : (List.range zs.length).map (fun i => zs.getD i d) = zs := by
      apply List.ext_getElem
      · simp
      · intro i h3 h4
        simp [h4]
    rw [this]
    exact (isort_perm zs).symm
  · rw [List.pairwise_map, List.pairwise_iff_getElem]
    intro i j hi hj hij
    have hn : (tRun (ltK (rk lt zs d)) (kas_sort zs.length)).toList.length = zs.length := by rw [h1.length_eq, List.length_range]
    have inr : ∀ k (hk : k < (tRun (ltK (rk lt zs d)) (kas_sort zs.length)).toList.length), (tRun (ltK (rk lt zs d)) (kas_sort zs.length)).toList[k] < zs.length := fun k hk => List.mem_range.mp (h1.mem_iff.mp (List.getElem_mem hk))
    have := hu i j (by omega) (by omega)
    unfold kAt at this
    have g : ∀ k (hk : k < (tRun (ltK (rk lt zs d)) (kas_sort zs.length)).toList.length), (tRun (ltK (rk lt zs d)) (kas_sort zs.length)).getD k 0 = (tRun (ltK (rk lt zs d)) (kas_sort zs.length)).toList[k] := fun k hk => by
      rw [Array.getD_eq_getD_getElem?, ← Array.getElem?_toList, List.getElem?_eq_getElem hk]; rfl
    rw [g i hi, g j hj] at this
    rw [← rk_lt o (inr j hj) (inr i hi)]
    exact decide_eq_false (by omega)
theorem isort_small : ∀ {zs : List α}, zs.length < 2 → isort lt zs = zs
  | [], _ => rfl
  | [x], _ => rfl
  | _ :: _ :: _, h => by simp at h; omega
variable {X : Cx} {K : PySem.W.Frag} {W : Wish} {own : Bool}
theorem vals_map {xs : List V} {us : List Value} (r : Vals xs us) (ps : List Nat) (hp : ∀ i ∈ ps, i < xs.length) : Vals (ps.map fun i => xs.getD i .non) (ps.map fun i => us.getD i .none) := by
  refine Vals.of_get (by simp) fun k v u h1 h2 => ?_
  rw [List.getElem?_map] at h1 h2
  cases e : ps[k]? with
  | none => rw [e] at h1; cases h1
  | some i =>
    rw [e] at h1 h2
    simp only [Option.map_some, Option.some.injEq] at h1 h2
    have hi := hp i (List.mem_of_getElem? e)
    have hl := r.length
    obtain ⟨u', e1, q⟩ := r.get (i := i) (x := xs[i]) (by simp [hi])
    rw [getD_get hi] at h1
    rw [List.getD_eq_getElem?_getD, e1] at h2
    rw [← h1, ← h2]
    exact q
theorem sorted_D (o : Ord lt) {pins : List (Addr × Obj)} {σ : St} {F H : Hp} {s : Shared} {Q : VK} {a : Addr} {xs : List V} {zs : List α} {d0 : α} {enc : α → Dat} (I : Inv X pins σ H s) (hF : Same F H) (t : SqL X.K F a xs) (r : Deeps X.K F (zs.map enc) xs) (h64 : zs.length < 64)
    (hk : ∀ its : List Value, Vals xs its → 2 ≤ its.length → ∀ h1 : Heap, (∀ b o, s.heap.get? b = some o → h1.get? b = some o) → Asks X.prog X.w X.A.in1.in1 (rk lt zs d0) its { s with heap := h1 })
    (p : Post X.K W true F H (.ok (.lst ((isort lt zs).map enc))) Q) : wpAny (model X.prog X.w) X.A (call (.builtin "sorted") [.ref a]) (EP X pins σ Q) X.xe s := by
  obtain ⟨its, rv, pl, hz⟩ := I.list (hF.lst t)
  have l1 := rv.length
  have l2 := r.length
  rw [List.length_map] at l2
  refine sorted_any (key := rk lt zs d0) pl.isList (by omega) (fun h2 h1 kp => hk its rv h2 h1 kp) fun h' D c hD kp e => ?_
  have key : ∃ ys, ys.length ≤ sizeLine ∧ Vals ys (outOf (rk lt zs d0) its) ∧ Deeps X.K F ((isort lt zs).map enc) ys := by
    unfold outOf
    by_cases h2 : its.length < 2
    · rw [if_pos h2, isort_small (by omega)]
      exact ⟨xs, hz, rv, r⟩
    · rw [if_neg h2, show its.length = zs.length by omega]
      obtain ⟨h1, _⟩ := sort_ok (key := rk lt zs d0) (n := zs.length) (by omega)
      have inr : ∀ i ∈ (tRun (ltK (rk lt zs d0)) (kas_sort zs.length)).toList, i < xs.length := fun i hi => by
        have := List.mem_range.mp (h1.mem_iff.mp hi); omega
      refine ⟨(tRun (ltK (rk lt zs d0)) (kas_sort zs.length)).toList.map fun i => xs.getD i .non, ?_, vals_map rv _ inr, ?_⟩
      · rw [List.length_map, h1.length_eq, List.length_range]; omega
      · rw [← out_isort o zs d0 (by omega), List.map_map]
        refine Deeps.of_get (by simp) fun k dd v g1 g2 => ?_
        rw [List.getElem?_map] at g1 g2
        cases ek : (tRun (ltK (rk lt zs d0)) (kas_sort zs.length)).toList[k]? with
        | none => rw [ek] at g1; cases g1
        | some i =>
          rw [ek] at g1 g2
          simp only [Option.map_some, Option.some.injEq, Function.comp] at g1 g2
          have hi := inr i (List.mem_of_getElem? ek)
          obtain ⟨w, e1, q⟩ := r.get (i := i) (d := enc (zs[i]'(by omega))) (by simp [show i < zs.length by omega])
          rw [getD_get (show i < zs.length by omega)] at g1
          rw [List.getD_eq_getElem?_getD, e1] at g2
          rw [← g1, ← g2]
          exact q
  obtain ⟨ys, hy1, hy2, hy3⟩ := key
  have I1 : Inv X pins σ (upd H D (.lst ys)) { s with heap := h' } := I.laid (t' := s.toks) kp hD (show ObjOk X.prog X.w _ h' D (.lst ys) from ⟨hy1, _, c, hy2, e⟩)
  exact ⟨.ref D, _, I1, rfl, p.lst hF hy3 (I.hok.fresh hD)⟩
theorem rk_ints (is : List Int) (i j : Nat) (hi : i < is.length) (hj : j < is.length) : ltK (rk ltZ is 0) i j = decide (is.getD i 0 < is.getD j 0) := rk_lt ordZ hi hj
theorem asks_ints {prog : Program} {w : World} {A : Around} {s' : Shared} {its : List Value} {is : List Int} (hi : IntsAre its is) (h2 : 2 ≤ its.length) : Asks prog w A (rk ltZ is 0) its s' := by
  have hl := hi.length
  obtain ⟨v1, v2, rest, rfl⟩ : ∃ v1 v2 rest, its = v1 :: v2 :: rest := by
    match its, h2 with
    | v1 :: v2 :: rest, _ => exact ⟨v1, v2, rest, rfl⟩
  unfold Asks
  rw [keyKind_ints hi]
  refine wpAny_pure ⟨rfl, fun i j C h1 h2 hc => ?_⟩
  unfold kas_ask
  obtain ⟨t1, e1⟩ := ints_at hi i h1
  obtain ⟨t2, e2⟩ := ints_at hi j h2
  rw [e1, e2]
  rw [rk_ints is i j (by omega) (by omega)] at hc
  exact kat_lt_int hc
where
  ints_at {vs : List Value} {ns : List Int} (h : IntsAre vs ns) (i : Nat) (hi : i < vs.length) : ∃ t, vs.getD i Value.none = .int (ns.getD i 0) t := by
    induction h generalizing i with
    | nil => simp at hi
    | cons n t r ih =>
      cases i with
      | zero => exact ⟨t, rfl⟩
      | succ i => obtain ⟨t', e⟩ := ih i (by simpa using hi); exact ⟨t', by simpa using e⟩
noncomputable def lexF (f : Bool) : List Int → List Int → Bool
  | a :: as, b :: bs => if a = b then lexF f as bs else decide (a < b)
  | _, _ => f
theorem lexF_lex : ∀ as bs : List Int, lexF (decide (as.length < bs.length)) as bs = lexZ as bs
  | [], [] => rfl
  | [], _ :: _ => by simp [lexF, lexZ]
  | _ :: _, [] => by simp [lexF, lexZ]
  | a :: as, b :: bs => by
    have := lexF_lex as bs
    simp only [lexF, lexZ, List.length_cons, Nat.add_lt_add_iff_right]
    rw [this]
theorem katLex_ints {prog : Program} {w : World} {A : Around} {s' : Shared} {f : Bool} {Q : Bool → Shared → Prop} : ∀ {us vs : List Value} {as bs : List Int} (i : Nat), IntsAre us as → IntsAre vs bs → Q (lexF f as bs) s' → KatLex prog w A true f Q (us.zip vs) i s'
  | _, _, _, bs, _, .nil, _, h => kat_nil (by cases bs <;> exact h)
  | _, _, _, _, _, .cons a t r, .nil, h => kat_nil h
  | _, _, _, _, i, .cons a t r, .cons b u r', h => by
    show KatLex prog w A true f Q ((.int a t, .int b u) :: (_ : List (Value × Value))) i s'
    refine kat_cons (SeqAt.EqAt.int_int a t b u _ _ _ _ ?_)
    by_cases e : a = b
    · rw [show (a == b) = true by simpa using e]
      rw [lexF, if_pos e] at h
      exact kat_yes (katLex_ints (i + 1) r r' h)
    · rw [show (a == b) = false by simpa using e]
      rw [lexF, if_neg e] at h
      refine kat_no ?_
      cases hb : (true && i == 0) with
      | true => exact oneLt_int h
      | false => exact kat_one _ _ (lt_int h)
theorem asks_tups {pins : List (Addr × Obj)} {σ : St} {F H : Hp} {s : Shared} {A : Around} {xs : List V} {ts : List (List Int)} {its : List Value} {h1 : Heap} (I : Inv X pins σ H s) (hF : Same F H) (r : Deeps X.K F (ts.map tupZ) xs) (hne : (ts.all fun t => !t.isEmpty) = true) (rv : Vals xs its) (h2 : 2 ≤ its.length)
    (kp : ∀ b o, s.heap.get? b = some o → h1.get? b = some o) : Asks X.prog X.w A (rk lexZ ts []) its { s with heap := h1 } := by
  have l1 := rv.length
  have l2 := r.length
  rw [List.length_map] at l2
  have at_ : ∀ i, i < its.length → ∃ (l : Addr) (ob : Obj) (us : List Value) (n : Nat), its.getD i Value.none = .ref l ∧ h1.get? l = some ob ∧ ob.cls = .type "tuple" ∧ ob.data = .seq us.toArray n ∧ IntsAre us (ts.getD i []) := fun i hi => by
    obtain ⟨v, e1, l, ys, e2, tq, rr⟩ := r.get (i := i) (d := tupZ (ts[i]'(by omega))) (by simp [show i < ts.length by omega])
    subst e2
    obtain ⟨u, e3, ru⟩ := rv.get e1
    cases ru
    obtain ⟨us, ru, pl, _⟩ := I.tuple (hF.tup tq)
    obtain ⟨ob, h3, h4, n, h5⟩ := pl
    have e4 : ys = (ts[i]'(by omega)).map V.int := ints_deep rr (intsD_map _)
    rw [e4] at ru
    exact ⟨l, ob, us, n, by rw [List.getD_eq_getElem?_getD, e3]; rfl, kp _ _ h3, h4, h5, by rw [getD_get (show i < ts.length by omega)]; exact intsAre_of ru⟩
  have tups : ∀ (k : Nat), k ≤ its.length → ∃ fs, KatTups h1 (its.drop (its.length - k)) fs ∧ fs.length = k ∧ ∀ v ∈ fs, ∃ i t, v = Value.int i t := by
    intro k
    induction k with
    | zero => intro _; exact ⟨[], by rw [Nat.sub_zero, List.drop_length]; exact KatTups.nil, rfl, fun _ h => nomatch h⟩
    | succ k ih =>
      intro hk
      obtain ⟨fs, q1, q2, q3⟩ := ih (by omega)
      have hi : its.length - (k + 1) < its.length := by omega
      obtain ⟨l, ob, us, n, e1, e2, e3, e4, e5⟩ := at_ _ hi
      have hn : (ts.getD (its.length - (k + 1)) []) ≠ [] := by
        rw [getD_get (show its.length - (k + 1) < ts.length by omega)]
        have := List.all_eq_true.mp hne _ (List.getElem_mem (show its.length - (k + 1) < ts.length by omega))
        simpa using this
      obtain ⟨z, ez⟩ : ∃ z, ts.getD (its.length - (k + 1)) [] = z := ⟨_, rfl⟩
      rw [ez] at e5 hn
      obtain ⟨f, fr, ef, hf⟩ : ∃ f fr, us = f :: fr ∧ ∃ i t, f = Value.int i t := by
        cases e5 with
        | nil => exact absurd rfl hn
        | cons m t r => exact ⟨_, _, rfl, _, _, rfl⟩
      refine ⟨f :: fs, ?_, by simp [q2], fun v hv => ?_⟩
      · rw [List.drop_eq_getElem_cons hi]
        rw [show its.length - (k + 1) + 1 = its.length - k by omega]
        rw [getD_get hi] at e1
        rw [e1]
        exact KatTups.cons e2 e3 e4 (by rw [ef]; rfl) q1
      · rcases List.mem_cons.mp hv with e | e
        · rw [e]; exact hf
        · exact q3 v e
  obtain ⟨fs, q1, q2, q3⟩ := tups its.length (Nat.le_refl _)
  rw [Nat.sub_self, List.drop_zero] at q1
  unfold Asks
  refine kat_kind (s := { s with heap := h1 }) (T := .type "int") q1 (by omega) (fun v hv => ?_) rfl ⟨rfl, fun i j C hi hj hc => ?_⟩
  · obtain ⟨i, t, e⟩ := q3 v hv
    rw [e]
    exact Looks.of_pure rfl
  · unfold kas_ask
    obtain ⟨x1, o1, us, n1, e1, g1, _, d1, a1⟩ := at_ i hi
    obtain ⟨x2, o2, vs, n2, e2, g2, _, d2, a2⟩ := at_ j hj
    rw [e1, e2]
    rw [rk_lt ordLex (show i < ts.length by omega) (show j < ts.length by omega)] at hc
    refine kat_lt (s := { s with heap := h1 }) g1 d1 g2 d2 (katLex_ints 0 a1 a2 ?_)
    rw [List.size_toArray, List.size_toArray, a1.length, a2.length, lexF_lex]
    exact hc
theorem tup_deep {F : Hp} {d : Dat} {t : List Int} (h : tupD d = .ok t) : d = tupZ t := by
  cases d with
  | tup ds =>
    have : ∀ {ds : List Dat} {t : List Int}, intsD ds = .ok t → ds = t.map .int := by
      intro ds
      induction ds with
      | nil => intro t h; cases h; rfl
      | cons d ds ih =>
        intro t h
        cases d with
        | int i =>
          cases e : intsD ds with
          | error x => simp only [intsD, asI, bind_ok, e, bind_er] at h; cases h
          | ok r =>
            simp only [intsD, asI, bind_ok, e] at h
            cases h
            rw [ih e]
            rfl
        | _ => cases h
    unfold tupZ
    rw [this h]
  | _ => cases h
theorem ints_data : ∀ {ds : List Dat} {t : List Int}, intsD ds = .ok t → ds = t.map .int := fun {ds t} h => by
  have := tup_deep (F := fun _ => none) (d := .tup ds) (t := t) h
  unfold tupZ at this
  injection this
theorem tups_data : ∀ {ds : List Dat} {ts : List (List Int)}, tupsD ds = .ok ts → ds = ts.map tupZ
  | [], _, h => by cases h; rfl
  | d :: ds, ts, h => by
    cases e : tupD d with
    | error x => simp only [tupsD, e, bind_er] at h; cases h
    | ok t =>
      cases e2 : tupsD ds with
      | error x => simp only [tupsD, e, bind_ok, e2, bind_er] at h; cases h
      | ok r =>
        simp only [tupsD, e, bind_ok, e2] at h
        cases h
        rw [tup_deep (F := fun _ => none) e, tups_data e2]
        rfl
theorem tupsD_err : ∀ {ds : List Dat} {e : Err}, tupsD ds = .error e → e = .stuck
  | [], _, h => by cases h
  | d :: ds, e, h => by
    cases e1 : tupD d with
    | error x =>
      simp only [tupsD, e1, bind_er] at h
      cases h
      cases d with
      | tup ds => exact intsD_err e1
      | _ => cases e1; rfl
    | ok t =>
      cases e2 : tupsD ds with
      | error x => simp only [tupsD, e1, bind_ok, e2, bind_er] at h; cases h; exact tupsD_err e2
      | ok r => simp only [tupsD, e1, bind_ok, e2] at h; cases h
theorem c_sorted (hK : X.K = K := by rfl) : CallD K W true X (.builtin "sorted") sortedD := by
  subst hK
  intro pins s σ H xs us Q I rr h
  obtain ⟨F, d, x, s1, e, q, p⟩ := one_arg (fun ds => by match ds with | [d] => exact .inl ⟨d, rfl⟩ | [] => exact .inr rfl | a :: b :: c => exact .inr (by cases a <;> rfl)) h
  subst e
  obtain ⟨u, rfl, ru⟩ := rr.one
  cases d with
  | lst ds =>
    obtain ⟨a, ys, e1, t, r⟩ := q
    subst e1
    cases ru
    have p' : Post X.K W true F H (sortDs ds) Q := p
    unfold sortDs at p'
    by_cases h64 : ds.length < 64
    · rw [if_pos h64] at p'
      cases ei : intsD ds with
      | ok is =>
        rw [ei] at p'
        have ed := ints_data ei
        subst ed
        refine sorted_D ordZ (d0 := 0) I s1 t r (by simpa using h64) (fun its rv h2 h1 kp => ?_) p'
        have e2 : ys = is.map V.int := ints_deep r ei
        subst e2
        exact asks_ints (intsAre_of rv) h2
      | error z =>
        rw [ei] at p'
        have p2 : Post X.K W true F H ((tupsD ds).bind fun ts => if (ts.all fun t => !t.isEmpty) = true then .ok (.lst ((isort lexZ ts).map tupZ)) else stk) Q := p'
        cases et : tupsD ds with
        | error z2 => rw [et] at p2; have := tupsD_err et; subst this; exact Post.stuck p2
        | ok ts =>
          rw [et] at p2
          have ed := tups_data et
          subst ed
          have p3 : Post X.K W true F H (if (ts.all fun t => !t.isEmpty) = true then .ok (.lst ((isort lexZ ts).map tupZ)) else stk) Q := p2
          by_cases hne : (ts.all fun t => !t.isEmpty) = true
          · rw [if_pos hne] at p3
            exact sorted_D ordLex (d0 := []) I s1 t r (by simpa using h64) (fun its rv h2 h1 kp => asks_tups I s1 r hne rv h2 kp) p3
          · rw [if_neg hne] at p3
            exact Post.stuck p3
    · rw [if_neg h64] at p'
      exact Post.stuck p'
  | _ => exact Post.stuck p
end
end L2
namespace L2
open PySem PySem.Spec PyProof.Rows
noncomputable def cX (n d : Nat) : Option Int → Nat
  | none => d
  | some v => if v < 0 then (v + (n : Int)).toNat else min v.toNat n
noncomputable def cutL {α : Type} (xs : List α) (lo hi : Option Int) : List α := (xs.drop (cX xs.length 0 lo)).take (cX xs.length xs.length hi - cX xs.length 0 lo)
noncomputable def sliceD : Dat → Option Int → Option Int → M Dat
  | .lst ds, lo, hi => .ok (.lst (cutL ds lo hi))
  | .tup ds, lo, hi => if (decide (cX ds.length 0 lo = 0) && decide (cX ds.length ds.length hi = ds.length)) = true then stk else .ok (.tup (cutL ds lo hi))
  | _, _, _ => stk
noncomputable def pNone : Env' → M (Option Int) := fun _ => .ok none
noncomputable def pSome (f : Env' → M Dat) : Env' → M (Option Int) := fun ρ => (f ρ).bind fun d => (asI d).bind fun i => .ok (some i)
noncomputable def fSl (g : Dat → Option Int → Option Int → M Dat) (fa : Env' → M Dat) (fl fu : Env' → M (Option Int)) : Env' → M Dat := fun ρ => (fa ρ).bind fun a => (fl ρ).bind fun l => (fu ρ).bind fun u => g a l u
noncomputable def extD (ρ : Env') (i : Nat) (ds : List Dat) : Dat → M Flo
  | .lst es => if ds.length + es.length ≤ sizeLine then put ρ i (ds ++ es) else stk
  | _ => stk
noncomputable def sExt (O : List Nat) (i : Nat) (f : Env' → M Dat) : Env' → M Flo := fun ρ => (lstAt ρ i).bind fun ds => (f (erase O ρ)).bind fun d => extD ρ i ds d
section
variable {X : Cx} {K : PySem.W.Frag} {W : Wish} {own ro : Bool} {e a b c d : Expr} {lo hi : Option Expr} {es : List Expr} {x y : Str} {pos p p2 p3 q r t u : Pos} {f fa fb fc fd' fk : Env' → M Dat} {fl fu : Env' → M (Option Int)} {OL O : List Nat}
noncomputable def tDO (K : PySem.W.Frag) (W : Wish) (f : Env' → M (Option Int)) : TO := fun σ H Q => ∃ F ρ, RepE K F σ ρ ∧ Same F H ∧ (match f ρ with
  | .ok o => ∀ F' H', Step F H F' H' → Q o H'
  | .error e => W.p e F H)
theorem tDO_run {σ : St} {ρ : Env'} {F H : Hp} {R : Option Int → Hp → Prop} (r : RepE K F σ ρ) (s : Same F H) (hE : ∀ e, fl ρ = .error e → W.p e F H) (hO : ∀ o, fl ρ = .ok o → ∀ F1 H1, Step F H F1 H1 → R o H1) : tDO K W fl σ H R := by
  refine ⟨F, ρ, r, s, ?_⟩
  cases e : fl ρ with
  | ok d => exact hO d e
  | error x => exact hE x e
noncomputable abbrev DP (K : PySem.W.Frag) (W : Wish) (X : Cx) (e : Option Expr) (f : Env' → M (Option Int)) : Prop := PO X e (tDO K W f)
theorem PO.imp {t t' : TO} (h : PO X lo t) (q : ∀ σ H Q, t' σ H Q → t σ H Q) : PO X lo t' := fun pins s σ H Q I z => h pins s σ H Q I (q σ H Q z)
theorem dp_none : DP K W X none pNone := po_none.imp fun σ H Q ⟨F, ρ, r, s, p⟩ => p F H (Step.refl s)
theorem dp_some (h : DE K W false X e f) : DP K W X (some e) (pSome f) := (po_some h).imp fun σ H Q ⟨F, ρ, r, s, p⟩ => by
  refine tD_run r s (fun e he => ?_) fun d hd v F1 H1 s1 q1 => ?_
  · have z : pSome f ρ = .error e := by unfold pSome; rw [he]; rfl
    rw [z] at p; exact p
  · have z : pSome f ρ = (asI d).bind fun i => .ok (some i) := by unfold pSome; rw [hd]; rfl
    rw [z] at p
    cases d with
    | int i => exact ⟨i, q1, p F1 H1 s1⟩
    | _ => exact (W.ns p).elim
noncomputable def rDS (K : PySem.W.Frag) (W : Wish) (own : Bool) (g : Dat → Option Int → Option Int → M Dat) : V → Option Int → Option Int → Hp → VK → Prop := fun x lo hi H Q => ∃ F a, Same F H ∧ Deep K F a x ∧ Post K W own F H (g a lo hi) Q
theorem rd_sl {g : Dat → Option Int → Option Int → M Dat} {σ : St} {H : Hp} {Q : VK} (h : tD K W own (fSl g fa fl fu) σ H Q) : tSl (rDS K W own g) (tD K W false fa) (tDO K W fl) (tDO K W fu) σ H Q := by
  obtain ⟨F, ρ, r, s, p⟩ := h
  refine tD_run r s (fun e he => p.err (by unfold fSl; rw [he]; rfl)) fun a ha x F1 H1 s1 q1 => ?_
  refine tDO_run (r.mono s1.ff) s1.fh (fun e he => (p.step s1).err (by unfold fSl; rw [ha]; show (fl ρ).bind _ = _; rw [he]; rfl)) fun l hl F2 H2 s2 => ?_
  refine tDO_run ((r.mono s1.ff).mono s2.ff) s2.fh (fun e he => (p.step (s1.trans s2)).err (by unfold fSl; rw [ha]; show (fl ρ).bind _ = _; rw [hl]; show (fu ρ).bind _ = _; rw [he]; rfl)) fun u hu F3 H3 s3 => ?_
  refine ⟨F3, a, s3.fh, Deep.mono (s2.trans s3).ff q1, ?_⟩
  have e : fSl g fa fl fu ρ = g a l u := by unfold fSl; rw [ha]; show (fl ρ).bind _ = _; rw [hl]; show (fu ρ).bind _ = _; rw [hu]; rfl
  rw [e] at p
  exact p.step ((s1.trans s2).trans s3)
theorem de_sl {g : Dat → Option Int → Option Int → M Dat} (hr : SlR X (rDS K W own g)) (ha : DE K W false X a fa) (hl : DP K W X lo fl) (hu : DP K W X hi fu) : DE K W own X (.Subscript a (.Slice lo hi none p2) pos) (fSl g fa fl fu) := (pe_slice hr ha hl hu).imp fun _ _ _ => rd_sl
theorem cX_sIx (n d : Nat) (o : Option Int) : cX n d o = HT.sIx n d o := by cases o <;> rfl
theorem Deeps.cut {F : Hp} {ds : List Dat} {xs : List V} {l u : Option Int} (h : Deeps K F ds xs) : Deeps K F (cutL ds l u) (cutV xs l u) := by
  unfold cutL cutV
  rw [cX_sIx, cX_sIx, h.length]
  exact Deeps.take _ (Deeps.drop _ h)
theorem x_sl (hK : X.K = K := by rfl) : SlR X (rDS K W true sliceD) := by
  subst hK
  intro pins s σ H x v vl vu lo hi sl Q I rx hs pl pu h
  refine (SlR.or sl_list sl_tup) pins s σ H x v vl vu lo hi sl Q I rx hs pl pu ?_
  obtain ⟨F, a, s1, qa, p⟩ := h
  cases a with
  | lst ds =>
    obtain ⟨l, xs, e, t, z⟩ := qa
    exact .inl ⟨l, xs, e, s1.lst t, fun r hr => Post.lst p s1 z.cut hr⟩
  | tup ds =>
    obtain ⟨l, xs, e, t, z⟩ := qa
    have p' : Post X.K W true F H (if (decide (cX ds.length 0 lo = 0) && decide (cX ds.length ds.length hi = ds.length)) = true then stk else .ok (.tup (cutL ds lo hi))) Q := p
    by_cases hc : (decide (cX ds.length 0 lo = 0) && decide (cX ds.length ds.length hi = ds.length)) = true
    · rw [if_pos hc] at p'; exact p'.stuck
    · rw [if_neg hc] at p'
      refine .inr ⟨l, xs, e, s1.tup t, fun hw => hc ?_, fun r hr => Post.tup p' s1 z.cut hr⟩
      rw [cX_sIx, cX_sIx, ← z.length]
      simp only [Bool.and_eq_true, decide_eq_true_eq]
      exact hw
  | _ => exact Post.stuck p
theorem rs_ext {F0 H0 : Hp} {i : Nat} {D : Ends} {σ : St} {H : Hp} (hi : i ∈ O) (t : tS K W ro F0 H0 OL O O (sExt O i f) D σ H) : tDrop (tBM K "list" rExtend (tVar i) (tCons (tD K W true f) tNil)) D σ H := by
  obtain ⟨FB, F, ρ, r, p⟩ := t
  cases hl : lstAt ρ i with
  | error e =>
    have := lstAt_err hl
    subst this
    exact p.stuck (by unfold sExt; rw [hl]; rfl)
  | ok ds =>
    obtain ⟨a, xs, e2, ha, z⟩ := r.lstOwn hi (lstAt_ok hl)
    refine ⟨.ref a, e2, tyV_list ha, ?_⟩
    refine tD_run r.repErase r.st.fh (fun e he => p.errAt r.st (by unfold sExt; rw [hl]; show (f (erase O ρ)).bind _ = _; rw [he]; rfl)) fun d hd v F1 H1 s1 q => ?_
    have ez : sExt O i f ρ = extD ρ i ds d := by unfold sExt; rw [hl]; show (f (erase O ρ)).bind _ = _; rw [hd]; rfl
    rw [ez] at p
    cases d with
    | lst es =>
      obtain ⟨b, zs, e3, hb, _, _, zz⟩ := q
      by_cases hs : ds.length + es.length ≤ sizeLine
      · have ep : extD ρ i ds (.lst es) = put ρ i (ds ++ es) := if_pos hs
        rw [ep] at p
        exact ⟨a, b, xs, zs, rfl, by rw [e3], s1.hh _ _ ha, hb, by rw [z.length, zz.length]; exact hs, p σ F1 _ ((r.step s1).write hi (lstAt_ok hl) e2 (Deeps.append (z.mono s1.ff) zz))⟩
      · exact p.stuck (if_neg hs)
    | _ => exact p.stuck rfl
theorem ds_ext {i : Nat} {apos : Pos} (he : DE K W true X e f) (ho : i ∈ O := by decide) (hN : X.N[i]? = some x := by rfl) (hv : Vis X.env.scope x := by first | exact Or.inl rfl | exact Or.inr (Or.inl rfl) | exact Or.inr (Or.inr rfl)) (hd : (x == ("__debug__" : Str)) = false := by decide) (hcd : (x == ("__classdict__" : Str)) = false := by decide) (hK : X.K = K := by rfl)
    (hst : starEach [e] X.env = [(false, eval e X.env)] := by rfl) (hbase : attributeBase (.Name x p) "extend" X.env (eval (.Name x p) X.env) = eval (.Name x p) X.env := by rfl) (hfew : ((backTo q (starEach [e] X.env)).all (fun x => !x.1) && (backToKw q (keywordEach [] X.env)).all (fun x => x.1.isSome) && decide ([e].length + ([] : List Keyword).length + (if ([] : List Keyword).isEmpty then 0 else 1) < 30)) = true := by rfl) (hplain : (backTo q (starEach [] X.env)).any (·.1) = false := by rfl) (hline : (apos.endLine == q.line) = true := by rfl) (hsw : swapsWith (.Call (.Attribute (.Name x p) "extend" apos) [e] [] q) none pos.line X.env = pure false := by rfl) :
    DS K W ro X OL O O (.Expr (.Call (.Attribute (.Name x p) "extend" apos) [e] [] q) pos) (sExt O i f) := fun F0 H0 => by
  subst hK
  exact PS.imp (ps_expr (pe_bm PySem.F.plainAttrs_list PySem.F.slot_list_extend PySem.F.type_list_extend mt_extend (pv i hN hv hd hcd) (pa_cons he pa_nil hst) hbase hfew hline hst hplain) hsw) fun _ _ _ => rs_ext ho
end
section
variable {ρ : Env'} {fa fb fc fd' : Env' → M Dat} {fl fu : Env' → M (Option Int)}
@[simp] theorem e_pNone : pNone ρ = .ok none := id rfl
@[simp] theorem e_pSome : pSome fa ρ = (fa ρ).bind fun d => (asI d).bind fun i => .ok (some i) := id rfl
@[simp] theorem e_slF (k : Dat → Option Int → Option Int → M Dat) : fSl k fa fl fu ρ = (fa ρ).bind fun a => (fl ρ).bind fun l => (fu ρ).bind fun u => k a l u := id rfl
@[simp] theorem e_sliceL (ds : List Dat) (lo hi : Option Int) : sliceD (.lst ds) lo hi = .ok (.lst (cutL ds lo hi)) := id rfl
@[simp] theorem e_eqII (i j : Int) : eqM (.int i) (.int j) = .ok (.bl (decide (i = j))) := by
  show Except.ok (Dat.bl (i == j)) = _
  rw [show (i == j) = decide (i = j) from rfl]
@[simp] theorem e_neII (i j : Int) : neM (.int i) (.int j) = .ok (.bl (!decide (i = j))) := by
  show Except.ok (Dat.bl (!(i == j))) = _
  rw [show (i == j) = decide (i = j) from rfl]
@[simp] theorem e_neBB (i j : Bool) : neM (.bl i) (.bl j) = .ok (.bl (!(i == j))) := id rfl
@[simp] theorem cut_drop {α : Type} (xs : List α) {j : Int} (h : 0 ≤ j) : cutL xs (some j) none = xs.drop j.toNat := by
  unfold cutL cX
  simp only [if_neg (show ¬ j < 0 by omega)]
  rcases Nat.le_total j.toNat xs.length with h1 | h1
  · rw [Nat.min_eq_left h1, List.take_of_length_le (by simp)]
  · rw [Nat.min_eq_right h1, List.drop_of_length_le h1, List.drop_length]; simp
end
end L2
namespace L2
open PySem PySem.Spec PyProof.Rows
section
variable {X : Cx} {K : PySem.W.Frag} {W : Wish} {own ro : Bool} {e a b c d : Expr} {st : Option Expr} {te : TE} {tp : TO} {es : List Expr} {x y : Str} {pos p p2 p3 p4 q r t u : Pos} {f fa fb fc fk : Env' → M Dat} {fp : Env' → M (Option Int)} {OL O : List Nat}
end
end L2
namespace L2
open PySem PySem.Spec PyProof.Rows
section
variable {X : Cx} {K : PySem.W.Frag} {W : Wish} {own ro : Bool} {e o a b c d : Expr} {es : List Expr} {x y m : Str} {pos p p2 apos : Pos} {f fa fo : Env' → M Dat} {fr : Env' → M (List Dat)} {OL O O' : List Nat} {C C2 : Addr} {Cs : List Addr}
end
end L2
namespace L2
open PySem PySem.Spec PyProof.Rows
end L2
namespace L2
open PySem PySem.Spec PyProof.Rows
end L2
namespace L2
open PySem PySem.Spec PyProof.Rows
noncomputable def dK (d : Value) : List (Str × Value) := [(Str.ofString "default", d)]
theorem args_maxK (a v : Value) : argsOk "max" ⟨[a], dK v⟩ := by unfold argsOk; kernel_rfl
theorem lp_nm : (toString "max" ++ toString ".loop" : String) = "max.loop" := by decide
section
variable {prog : Program} {w : World} {A : Around} {R : Result → Shared → Prop} {I : Addr} {fp wr : List Addr} {n : Nat} {P : Nat → Value → Prop} {St : Nat → Heap → Prop}
noncomputable abbrev LsAt (h : Heap) (S : Addr) (xs : Array Value) (c : Nat) : Prop := h.get? S = some { cls := .type "list", dict := none, data := .seq xs c, slots := #[] }
noncomputable abbrev lpC (I S : Addr) (d : Value) : Code := .builtin "max.loop" ⟨[.ref I, .none, .ref S], dK d⟩
theorem lp_go (W : Walks prog w A.in1 I fp wr n P St) (bt : Nat → Nat → Bool) (hcmp : CmpOf prog w A.in1 .Gt P bt) {S : Addr} (hSf : S ∉ fp) (d : Value) :
    ∀ (m j : Nat) (t : Shared) (vb : Value) (c : Nat), j + 1 + m = n → St (j + 1) t.heap → P (argBest bt j) vb → LsAt t.heap S #[vb, vb] c →
    (∀ v g tk, P (argBest bt (n - 1)) v → (∀ b o, b ∉ wr → b ≠ S → t.heap.get? b = some o → g.get? b = some o) → R (.ok (.ret v)) { t with heap := g, toks := tk }) → codeAny (model prog w) A (lpC I S d) R t := by
  have hSw : S ∉ wr := fun z => hSf (W.sub _ z)
  intro m
  induction m with
  | zero =>
    intro j t vb c hj hst hPb hS hR
    have hjn : j + 1 = n := by omega
    (refine codeAny_builtin F.entry_max_loop ?_; rw [Around.under_plainId F.plain_max_loop _]; show wpAny _ A.in1 (seqItems? (.ref S) >>= _) _ _ t; refine wpAny_bind (wpAny_seqItems hS rfl ?_); show wpAny _ A.in1 (tryCatch (pyNext (.ref I)) _ >>= _) _ _ t)
    refine wpAny_bind (wpAny_tryCatch (W.done t _ _ (hjn ▸ hst) fun g tk kept => ?_))
    have hS1 := kept S _ hSw hS
    (show wpAny _ A.in1 (updateSeq S (fun _ => #[]) >>= _) _ _ _; refine wpAny_bind (wpAny_updateSeq hS1 rfl (wpAny_bind (wpAny_letGo (wpAny_pure ?_)))))
    exact hR vb _ tk (by rw [← hjn]; exact hPb) fun b o b1 b2 e => (Heap.get?_update_other _ _ (Ne.symm b2)).trans (kept b o b1 e)
  | succ m ih =>
    intro j t vb c hj hst hPb hS hR
    (refine codeAny_builtin F.entry_max_loop ?_; rw [Around.under_plainId F.plain_max_loop _]; show wpAny _ A.in1 (seqItems? (.ref S) >>= _) _ _ t; refine wpAny_bind (wpAny_seqItems hS rfl ?_); show wpAny _ A.in1 (tryCatch (pyNext (.ref I)) _ >>= _) _ _ t)
    refine wpAny_bind (wpAny_tryCatch (W.item (j + 1) t _ _ (by omega) hst fun v g tk hP hst1 kept => ?_))
    have hS1 := kept S _ hSw hS
    (show wpAny _ A.in1 (tryCatch (holding [v, v] (richCompare .Gt v vb >>= _)) _ >>= _) _ _ _); refine wpAny_bind (wpAny_tryCatch (wpAny_holding (wpAny_bind (hcmp (j + 1) (argBest bt j) v vb _ _ _ hP hPb (wpAny_bind (wpAny_holding (wpAny_truthy_bool (wpAny_bind (wpAny_letGo (wpAny_pure ?_))))))))))
    cases hb : (bt (j + 1) (argBest bt j)) with
    | true =>
      simp only [if_true]
      refine wpAny_bind (wpAny_updateSeq hS1 rfl (wpAny_bind (wpAny_letGo ?_)))
      rw [lp_nm]
      refine wpAny_pure ⟨plainId_quiet F.plain_max_loop _, ih (j + 1) _ v _ (by omega) (W.frame _ _ _ hst1 fun b hbf o e => ?_) (by simp only [argBest, hb, if_true]; exact hP) (Heap.get?_update_self _ hS1 rfl) fun v2 g2 tk2 p2 kept2 => ?_⟩
      · exact (Heap.get?_update_other _ _ (fun z : S = b => hSf (by rw [z]; exact hbf))).trans e
      · exact hR v2 g2 tk2 p2 fun b o b1 b2 e => kept2 b o b1 b2 ((Heap.get?_update_other _ _ (Ne.symm b2)).trans (kept b o b1 e))
    | false =>
      (simp only [Bool.false_eq_true, if_false]; refine wpAny_bind (wpAny_letGo ?_); rw [lp_nm])
      refine wpAny_pure ⟨plainId_quiet F.plain_max_loop _, ih (j + 1) _ vb c (by omega) hst1 (by simp only [argBest, hb, Bool.false_eq_true, if_false]; exact hPb) hS1 fun v2 g2 tk2 p2 kept2 => ?_⟩
      exact hR v2 g2 tk2 p2 fun b o b1 b2 e => kept2 b o b1 b2 (kept b o b1 e)
theorem lp_all (W : Walks prog w A.in1 I fp wr n P St) (bt : Nat → Nat → Bool) (hcmp : CmpOf prog w A.in1 .Gt P bt) {S : Addr} (hSf : S ∉ fp) (d : Value) {t : Shared} {c : Nat} (hst : St 0 t.heap) (hS : LsAt t.heap S #[] c)
    (h0 : n = 0 → ∀ g tk, (∀ b o, b ∉ wr → b ≠ S → t.heap.get? b = some o → g.get? b = some o) → R (.ok (.ret d)) { t with heap := g, toks := tk })
    (hR : 0 < n → ∀ v g tk, P (argBest bt (n - 1)) v → (∀ b o, b ∉ wr → b ≠ S → t.heap.get? b = some o → g.get? b = some o) → R (.ok (.ret v)) { t with heap := g, toks := tk }) :
    codeAny (model prog w) A (lpC I S d) R t := by
  have hSw : S ∉ wr := fun z => hSf (W.sub _ z)
  (refine codeAny_builtin F.entry_max_loop ?_; rw [Around.under_plainId F.plain_max_loop _]; show wpAny _ A.in1 (seqItems? (.ref S) >>= _) _ _ t; refine wpAny_bind (wpAny_seqItems hS rfl ?_); show wpAny _ A.in1 (tryCatch (pyNext (.ref I)) _ >>= _) _ _ t)
  rcases Nat.eq_zero_or_pos n with hn | hn
  · refine wpAny_bind (wpAny_tryCatch (W.done t _ _ (hn ▸ hst) fun g tk kept => ?_))
    exact wpAny_bind (wpAny_rule (wpAny_pure (h0 hn g tk fun b o b1 _ e => kept b o b1 e)))
  · refine wpAny_bind (wpAny_tryCatch (W.item 0 t _ _ hn hst fun v g tk hP hst1 kept => ?_))
    have hS1 := kept S _ hSw hS
    (show wpAny _ A.in1 (updateSeq S (fun _ => #[v, v]) >>= _) _ _ _; refine wpAny_bind (wpAny_updateSeq hS1 rfl ?_); rw [lp_nm])
    refine wpAny_pure ⟨plainId_quiet F.plain_max_loop _, lp_go W bt hcmp hSf d (n - 1) 0 _ v _ (by omega) (W.frame _ _ _ hst1 fun b hbf o e => ?_) hP (Heap.get?_update_self _ hS1 rfl) fun v2 g2 tk2 p2 kept2 => ?_⟩
    · exact (Heap.get?_update_other _ _ (fun z : S = b => hSf (by rw [z]; exact hbf))).trans e
    · exact hR hn v2 g2 tk2 p2 fun b o b1 b2 e => kept2 b o b1 b2 ((Heap.get?_update_other _ _ (Ne.symm b2)).trans (kept b o b1 e))
end
section
variable {prog : Program} {w : World} {A : Around} {E : Value → Shared → Prop} {s : Shared}
theorem call_maxK {x d : Value} {Q : Value → Shared → Prop}
    (h : wpAny (model prog w) A.in1 (pyIter x) (fun it t => ∃ I fp wr n P St bt, it = .ref I ∧ Walks prog w A.in1 I fp wr n P St ∧ St 0 t.heap ∧ (∀ b ∈ fp, b < t.heap.objs.size) ∧ CmpOf prog w A.in1 .Gt P bt ∧
      (n = 0 → ∀ g tk, (∀ b o, b ∉ wr → t.heap.get? b = some o → g.get? b = some o) → Q d { t with heap := g, toks := tk }) ∧
      (0 < n → ∀ v g tk, P (argBest bt (n - 1)) v → (∀ b o, b ∉ wr → t.heap.get? b = some o → g.get? b = some o) → Q v { t with heap := g, toks := tk })) E s) :
    wpAny (model prog w) A (call (.builtin "max") [x] (dK d)) Q E s := by
  refine wpAny_call (codeAny_call_builtin F.plain_max F.entry_max ?_)
  have body : wpAny (model prog w) A.in1 (Builtin.«max» ⟨[x], dK d⟩) (fun fin s' => match fin with
      | .done f => (match (Except.ok f : Result) with | .ok (.ret v) => Q v s' | .ok _ => False | .error e => E e s')
      | .again c' => c'.quiet = true ∧ codeAny (model prog w) A c' (fun r s' => match r with | .ok (.ret v) => Q v s' | .ok _ => False | .error e => E e s') s') E s := by
    show wpAny _ A.in1 (Builtin.Builtins.bindParams "max" ["key", "default"] 0 ⟨[], dK d⟩ >>= _) _ _ s
    refine wpAny_bind (wpAny_of_eq (show Builtin.Builtins.bindParams "max" ["key", "default"] 0 ⟨[], dK d⟩ = pure [none, some d] from rfl) ?_)
    refine wpAny_bind (wpAny_pure (wpAny_bind (wpAny_mono h (fun it t h2 => ?_) fun _ _ e => e)))
    obtain ⟨I, fp, wr, n, P, St, bt, rfl, W, hst, hfp, hcmp, h0, h1⟩ := h2
    refine wpAny_bind (wpAny_newObj_type (?_ : _))
    have hSf : t.heap.objs.size ∉ fp := fun z => Nat.lt_irrefl _ (hfp _ z)
    rw [lp_nm]
    refine wpAny_pure ⟨plainId_quiet F.plain_max_loop _, lp_all W bt hcmp hSf d (W.frame _ _ _ hst fun b _ o e => Heap.get?_push_of_some _ e) (Heap.get?_push_size _ rfl) (fun hn g tk kept => ?_) fun hn v g tk hP kept => ?_⟩
    · exact h0 hn g tk fun b o b1 e => kept b o b1 (Nat.ne_of_lt (Heap.lt_size e)) (Heap.get?_push_of_some _ e)
    · exact h1 hn v g tk hP fun b o b1 e => kept b o b1 (Nat.ne_of_lt (Heap.lt_size e)) (Heap.get?_push_of_some _ e)
  simp only [checkBuiltinCall, F.kind_max]
  cases hsig : Manifest.signature? "max" with
  | none => exact wpAny_pure body
  | some sig =>
    have ha : Bind.checkArgs "max" sig ⟨[x], dK d⟩ = pure () := by
      have := args_maxK x d
      simpa only [argsOk, hsig] using this
    simp only [ha]
    exact wpAny_pure body
theorem maxK_ints {l : Addr} {xs : Array (Int × Tok)} {d : Value} {Q : Value → Shared → Prop} (hh : A.handled = none) (hl : s.heap.IsList l (intItems xs))
    (h0 : xs.size = 0 → ∀ g tk, (∀ b o, s.heap.get? b = some o → g.get? b = some o) → Q d { s with heap := g, toks := tk })
    (h1 : 0 < xs.size → ∀ v g tk, (intItems xs)[argBest (fun i j => decide (numAt xs i > numAt xs j)) (xs.size - 1)]? = some v → (∀ b o, s.heap.get? b = some o → g.get? b = some o) → Q v { s with heap := g, toks := tk }) :
    wpAny (model prog w) A (call (.builtin "max") [.ref l] (dK d)) Q E s := by
  refine call_maxK (iter_intList hl fun t e st hfp hlI => ?_)
  subst e
  have hsz : (intItems xs).size = xs.size := by simp [intItems]
  refine ⟨_, _, _, _, _, _, _, rfl, Walks.list (A := A.in1) hh _ l hlI (intItems xs), st, hfp, CmpOf.ints_gt (numAt xs) (fun _ _ => intItems_at), fun hn g tk kept => ?_, fun hn v g tk hP kept => ?_⟩
  · exact h0 (by omega) g tk (old_kept kept)
  · exact h1 (by omega) v g tk (by simpa [intItems] using hP) (old_kept kept)
end
section
variable {X : Cx} {K : PySem.W.Frag} {W : Wish} {own ro : Bool} {a d : Expr} {pos p kp : Pos} {fa fd : Env' → M Dat}
noncomputable def tMaxK (K : PySem.W.Frag) (ta td : TE) : TE := fun σ H Q => ta σ H fun x H1 => td σ H1 fun y H2 => ∃ (l : Addr) (is : List Int), x = .ref l ∧ SqL K H2 l (is.map V.int) ∧ Q (match is with | [] => y | i :: is => .int (is.foldl maxZ i)) H2
theorem pe_maxK {ta td : TE} (hc : X.calm = true) (hg : Gl X "max") (hm : X.mg "max" = none) (ha : PE X a ta) (hd : PE X d td) (hs : starEach [a] X.env = [(false, eval a X.env)]) :
    PE X (.Call (.Name "max" p) [a] [⟨some (Str.ofString "default"), d, kp⟩] pos) (tMaxK X.K ta td) := by
  intro pins s σ H Q I h
  refine wpAny_Call_Name_kw (ld_blt I hg hm boot_max ?_)
  have hA : PA X [a] (tCons ta tNil) := pa_cons ha pa_nil hs
  refine PyProof.Rows.callWith_kw (thn (hA pos pins s σ H (fun vs H1 => match vs with
    | [x] => td σ H1 fun y H2 => ∃ (l : Addr) (is : List Int), x = .ref l ∧ SqL X.K H2 l (is.map V.int) ∧ Q (match is with | [] => y | i :: is => .int (is.foldl maxZ i)) H2
    | _ => False) I h) fun us s1 ⟨vs, H1, I1, r1, q1⟩ => ?_) (by rw [hs]; rfl) (by rw [hs]; rfl)
  match vs, r1, q1 with
  | [x], r1, q1 =>
    obtain ⟨u, rfl, ru⟩ := r1.one
    refine PyProof.Rows.evalAll_cons (wpAny_bind (thn (hd pins s1 σ H1 _ I1 q1) fun v s2 ⟨y, H2, I2, ry, l, is, ex, hq, q⟩ => wpAny_bind (wpAny_standAt (wpAny_pure (PyProof.Rows.evalAll_nil ?_)))))
    subst ex
    cases ru
    obtain ⟨its, rv, pl, hz⟩ := I2.list hq
    have hi := intsAre_of rv
    obtain ⟨xs, e⟩ := hi.allInts.items
    have hns : is = xs.toList.map (·.1) := by rw [← hi.numsOf, ← nums_intItems, ← e]
    have hl := pl.isList
    rw [e] at hl
    show wpAny _ _ (call (.builtin "max") [.ref l] (dK v)) _ _ s2
    refine maxK_ints (I2.ok.hd hc) hl (fun h0 g tk kept => ?_) fun h1 w2 g tk hv kept => ?_
    · have : is = [] := by
        rw [hns]
        have hx : xs = #[] := by simpa using h0
        rw [hx]; rfl
      subst this
      exact ⟨y, H2, I2.kept kept, ry, q⟩
    · obtain ⟨t, rfl⟩ := intItems_at hv
      obtain ⟨b1, b2⟩ := argBest_gt (numAt xs) (xs.size - 1)
      cases is with
      | nil =>
        have := congrArg List.length hns
        simp at this
        omega
      | cons i is =>
        refine ⟨.int _, H2, I2.kept kept, ⟨t, rfl⟩, ?_⟩
        have := fold_max_is (is := is) (i := i) (m := numAt xs (argBest (fun i j => decide (numAt xs i > numAt xs j)) (xs.size - 1))) (by
            rw [hns, numAt_eq]; exact getD_mem (by rw [List.length_map, Array.length_toList]; omega)) (fun z hz => by
            rw [hns] at hz
            obtain ⟨j, hj, rfl⟩ := mem_getD hz
            rw [List.length_map, Array.length_toList] at hj
            rw [← numAt_eq]; exact b2 j (by omega))
        rw [← this]
        exact q
end
noncomputable def maxKI : Dat → Dat → M Dat
  | .lst ds, .int z => (intsD ds).bind fun is => .ok (.int (match is with | [] => z | i :: is => is.foldl maxZ i))
  | _, _ => stk
section
variable {X : Cx} {K : PySem.W.Frag} {W : Wish} {own ro : Bool} {a d : Expr} {pos p kp : Pos} {fa fd : Env' → M Dat}
theorem rd_maxK {σ : St} {H : Hp} {Q : VK} (h : tD K W own (f2 maxKI fa fd) σ H Q) : tMaxK K (tD K W false fa) (tD K W false fd) σ H Q := by
  obtain ⟨F, ρ, r, s, p⟩ := h
  refine tD_run r s (fun e he => p.err (by unfold f2; rw [he]; rfl)) fun d1 h1 v F1 H1 s1 q1 => ?_
  refine tD_run (r.mono s1.ff) s1.fh (fun e he => W.mono (p.err (by unfold f2; rw [h1, bind_ok, he]; rfl)) s1) fun d2 h2 v2 F2 H2 s2 q2 => ?_
  have e1 : f2 maxKI fa fd ρ = maxKI d1 d2 := by unfold f2; rw [h1, bind_ok, h2, bind_ok]
  rw [e1] at p
  have p2 := (p.step s1).step s2
  cases d1 with
  | lst ds =>
    cases d2 with
    | int z =>
      obtain ⟨l, ys, e3, t, rr⟩ := q1
      have p3 : Post K W own F2 H2 ((intsD ds).bind fun is => .ok (.int (match is with | [] => z | i :: is => is.foldl maxZ i))) Q := p2
      cases eb : intsD ds with
      | error y => rw [eb] at p3; have := intsD_err eb; subst this; exact Post.stuck p3
      | ok is =>
        rw [eb] at p3
        refine ⟨l, is, e3, ?_, ?_⟩
        · rw [← ints_deep rr eb]
          exact s2.fh.lst (s2.ff.lst t)
        · have e4 : v2 = .int z := q2
          subst e4
          have := Post.int (own := own) p3 s2.fh
          cases is <;> exact this
    | _ => exact Post.stuck p2
  | _ => exact Post.stuck p2
theorem de_maxK (hm : X.mg "max" = none) (ha : DE K W false X a fa) (hd : DE K W false X d fd) (hc : X.calm = true := by rfl) (hg : Gl X "max" := by rfl) (hs : starEach [a] X.env = [(false, eval a X.env)] := by rfl) (hK : X.K = K := by rfl) :
    DE K W own X (.Call (.Name "max" p) [a] [⟨some (Str.ofString "default"), d, kp⟩] pos) (f2 maxKI fa fd) := by
  subst hK
  exact (pe_maxK hc hg hm ha hd hs).imp fun _ _ _ => rd_maxK
@[simp] theorem e_maxKI (ds : List Dat) (z : Int) : maxKI (.lst ds) (.int z) = (intsD ds).bind fun is => .ok (.int (match is with | [] => z | i :: is => is.foldl maxZ i)) := id rfl
end
end L2
namespace L2
open PySem PySem.Spec PyProof.Rows
section
variable {prog : Program} {w : World} {A : Around} {E : Value → Shared → Prop} {s : Shared}
noncomputable abbrev newL : Obj := { cls := .type "list", data := .seq ([] : List Value).toArray }
theorem collect_rng {Q : List Value → Shared → Prop} {r : Addr} {a b : Int} {t u v : Tok} {n : Nat} (hh : A.handled = none) (hr : IsRange s.heap r a b 1 t u v) (hsm : Builtin.Range.small a b 1 = true)
    (hn : Builtin.Range.rangeSize a b 1 = n) (hlen : n ≤ 2 ^ 24)
    (hQ : ∀ g tk (acc : Array Value), (∀ c o, s.heap.get? c = some o → g.get? c = some o) → ItemsOf (fun i v => ∃ t, v = .int (a + i * 1) t) acc n → Q acc.toList { s with heap := g, toks := tk }) : wpAny (model prog w) A (collect (.ref r)) Q E s := by
  unfold collect
  refine wpAny_bind (wpAny_runValue (codeAny_builtin F.entry_proto_collect ?_))
  (rw [Around.under_plainId F.plain_proto_collect _]; show wpAny _ A.in1 (newList [] >>= fun l => again (.builtin "list.__iadd__" ⟨[l, .ref r], []⟩)) _ _ s)
  refine wpAny_bind (wpAny_newObj_type (wpAny_pure ⟨plainId_quiet F.plain_list_iadd _, codeAny_builtin F.entry_list_iadd ?_⟩))
  (rw [Around.under_plainId F.plain_list_iadd _]; show wpAny _ A.in1 (Builtin.List.listExtendWith (.ref s.heap.objs.size) (.ref r) (.ref s.heap.objs.size)) _ _ _)
  have hS : (s.heap.push newL).get? s.heap.objs.size = some { cls := .type "list", data := .seq #[] 0 } := Heap.get?_push_size _ rfl
  refine wpAny_mono (wpAny_extend_range (A := A) (R := fun res z => res = .ok (.ret (.ref s.heap.objs.size)) ∧ ∃ (acc : Array Value) (c : Nat), z.heap.get? s.heap.objs.size = some { cls := .type "list", dict := none, data := .seq acc c, slots := #[] } ∧ Q acc.toList z) (s := { s with heap := s.heap.push newL }) hh (Heap.get?_push_of_some _ hr) hsm hn hlen s.heap.objs.size _ 0 hS fun g tk acc c kp hg it => ?_) (fun fin z h => ?_) fun e z h => absurd h.1 (by simp)
  · exact ⟨rfl, acc, c, hg, hQ g tk acc (fun z o e => kp z o (Nat.ne_of_lt (Heap.lt_size e)) (Heap.get?_push_of_some _ e)) it⟩
  · cases fin with
    | done f =>
      obtain ⟨e, acc, c, hg, q⟩ := h
      cases e
      exact wpAny_bind (m := load s.heap.objs.size) (wpAny_load hg (wpAny_pure q))
    | again c' =>
      refine ⟨h.1, codeAny_mono h.2 fun res z hz => ?_⟩
      obtain ⟨rfl, acc, c, hg, q⟩ := hz
      exact wpAny_bind (m := load s.heap.objs.size) (wpAny_load hg (wpAny_pure q))
theorem tuple_new_rng {r : Addr} {a b : Int} {t u v : Tok} {n : Nat} (hsm : Builtin.Range.small a b 1 = true) (hn : Builtin.Range.rangeSize a b 1 = n) (hlen : n ≤ 2 ^ 24) :
    MeetsIn prog w (Builtin.«tuple.__new__» ⟨[.type "tuple", .ref r], []⟩)
      (fun A R s => A.handled = none ∧ IsRange s.heap r a b 1 t u v ∧ ∀ (g : Heap) (tk : Nat) (acc : Array Value), (∀ c o, s.heap.get? c = some o → g.get? c = some o) → ItemsOf (fun i v => ∃ t, v = .int (a + i * 1) t) acc n → R (.ok (.ret (.ref g.objs.size))) { s with heap := g.push { cls := .type "tuple", data := .seq acc }, toks := tk }) :=
  .of_wp fun A R s h => by
    obtain ⟨hp, g, d, tk, os⟩ := s
    obtain ⟨hh, hr, h⟩ := h
    have hsub := sub_tuple_self
    have hinit := init_tuple_lookup
    have hmh := madeHere_tuple
    have hT : Shared.TypeIs ⟨hp, g, d, tk, os⟩ (.ref r) "range" := ⟨_, hr, rfl⟩
    wp_walk using wpAny_loadPart' hr, wpAny_typeOf hT, collect_rng (A := A.in1) (n := n) hh hr hsm hn hlen
    intro g2 tk2 acc kp it
    show wpAny _ _ (Builtin.Tuple.tupleExact acc.toList.toArray >>= fun v => ret v) _ _ _
    unfold Builtin.Tuple.tupleExact
    have hz : acc.toList.toArray.size ≤ sizeLine := by
      rw [sizeLine_eq]
      have := it.1
      simp
      omega
    refine wpAny_bind (wpAny_newObj_type (wpAny_pure ⟨_, rfl, ?_⟩) hz)
    have e : acc.toList.toArray = acc := by simp
    rw [e]
    exact h g2 tk2 acc kp it
end
section
variable {prog : Program} {w : World} {A : Around} {E : Value → Shared → Prop} {s : Shared}
theorem call_tuple_range {Q : Value → Shared → Prop} {r : Addr} {a b : Int} {t u v : Tok} {n : Nat} (hh : A.handled = none) (hr : IsRange s.heap r a b 1 t u v) (hsm : Builtin.Range.small a b 1 = true) (hn : Builtin.Range.rangeSize a b 1 = n) (hlen : n ≤ 2 ^ 24)
    (hQ : ∀ (g : Heap) (tk : Nat) (acc : Array Value), (∀ c o, s.heap.get? c = some o → g.get? c = some o) → ItemsOf (fun i v => ∃ t, v = .int (a + i * 1) t) acc n → Q (.ref g.objs.size) { s with heap := g.push { cls := .type "tuple", data := .seq acc }, toks := tk }) :
    wpAny (model prog w) A (call (.type "tuple") [.ref r]) Q E s :=
  callType_newIn F.called_tuple (by decide) (F.typeCall_tuple_1 _) (F.newCall_tuple_1 _) (fun obj => F.args_object_init_2 obj _) F.entry_tuple_new
    (tuple_new_rng (t := t) (u := u) (v := v) hsm hn hlen) ⟨hh, hr, fun g tk acc kp it => ⟨⟨_, Heap.get?_push_size _ rfl, rfl⟩, hQ g tk acc kp it⟩⟩
end
section
variable {X : Cx} {K : PySem.W.Frag} {W : Wish} {own ro : Bool} {a b : Expr} {pos p : Pos} {fr : Env' → M (List Dat)}
theorem call_tuple_rng (hc : X.calm = true) : CallR X (.type "tuple") (fun xs H Q => ∃ r lo hi, xs = [.ref r] ∧ H r = some (.rng lo hi) ∧ (-(2 ^ 62) ≤ lo ∧ lo < 2 ^ 62 ∧ -(2 ^ 62) ≤ hi ∧ hi < 2 ^ 62) ∧ (hi - lo).toNat ≤ sizeLine ∧ ∀ l, H l = none → Q (.ref l) (upd H l (.tup ((List.range (hi - lo).toNat).map fun k : Nat => V.int (lo + k))))) := by
  intro pins s σ H xs us Q I rr h
  obtain ⟨r, lo, hi, rfl, hH, ⟨b1, b2, b3, b4⟩, hz, q⟩ := h
  obtain ⟨u, rfl, ru⟩ := rr.one
  cases ru
  obtain ⟨t, u, v, e⟩ := (show ∃ t u v, s.heap.get? r = some { cls := .type "range", data := .fields #[.int lo t, .int hi u, .int 1 v] } from I.hok r _ hH)
  refine call_tuple_range (n := (hi - lo).toNat) (I.ok.hd hc) e (small_one b1 b2 b3 b4) (by rw [rangeSize_one]; split <;> omega) (by rw [sizeLine_eq] at hz; omega) fun g tk acc kp it => ?_
  have hv : Vals ((List.range (hi - lo).toNat).map fun k : Nat => V.int (lo + k)) acc.toList := items_vals (by rw [Array.length_toList]; exact it.1) fun i v hi => by
    obtain ⟨t, e⟩ := it.2 i v (by simpa using hi)
    exact ⟨t, by rw [e, Int.mul_one]⟩
  have I1 : Inv X pins σ H { s with heap := g, toks := tk } := I.kept kp
  exact ⟨.ref _, _, I1.laid (t' := tk) (fun b o e => Heap.get?_push_of_some _ e) (Nat.le_refl _) (show ObjOk X.prog X.w _ (g.push { cls := .type "tuple", data := .seq acc }) _ (.tup _) from ⟨by simpa using hz, acc.toList, hv, ⟨_, Heap.get?_push_size _ rfl, rfl, 0, by simp⟩⟩), rfl, q _ I1.fresh⟩
noncomputable def fTR (fr : Env' → M (List Dat)) : Env' → M Dat := fun ρ => (fr ρ).bind mkTup
theorem trng_end {F H1 : Hp} {Q : VK} {i j : Int} {r : Addr} (p : Post K W own F H1 (mkTup (rangeL i (j - i).toNat)) Q) (s : Same F H1) (hr : H1 r = none) :
    (j - i).toNat ≤ sizeLine ∧ ∀ l, upd H1 r (.rng i j) l = none → Q (.ref l) (upd (upd H1 r (.rng i j)) l (.tup ((List.range (j - i).toNat).map fun k : Nat => V.int (i + k)))) := by
  unfold mkTup at p
  by_cases hl : (rangeL i (j - i).toNat).length ≤ sizeLine
  · rw [if_pos hl] at p
    refine ⟨by simpa [rangeL] using hl, fun l hl2 => ?_⟩
    have s2 : Step F H1 F (upd H1 r (.rng i j)) := Step.grow s hr
    have s3 := Step.lay (o := .tup ((List.range (j - i).toNat).map fun k : Nat => V.int (i + k))) s2.fh hl2
    refine p _ _ _ (s2.trans s3) ?_
    cases own <;> exact ⟨l, _, rfl, SqT.of upd_same, deeps_range i _⟩
  · rw [if_neg hl] at p
    exact (W.ns p).elim
theorem de_trng1 {q1 q2 : Pos} (hml : X.mg "tuple" = none) (hm : X.mg "range" = none) (ha : DA K W X [a] fr) (hc : X.calm = true := by rfl) (hg : Gl X "range" := by rfl) (hgl : Gl X "tuple" := by rfl) (hs : starEach [a] X.env = [(false, eval a X.env)] := by rfl)
    (hst : starEach [.Call (.Name "range" q1) [a] [] q2] X.env = [(false, eval (.Call (.Name "range" q1) [a] [] q2) X.env)] := by rfl) : DE K W own X (.Call (.Name "tuple" p) [.Call (.Name "range" q1) [a] [] q2] [] pos) (fTR (fRng rng1 fr)) := by
  refine PE.imp (pe_callTy (call_tuple_rng hc) hgl hml PyProof.Rows.boot_tuple (pa_cons (pe_rng1 hg hm ha hs) pa_nil hst) (by decide) (by decide) hst rfl) fun σ H Q h => ?_
  obtain ⟨F, ρ, r, s, p⟩ := h
  refine tDA_run r s (fun e he => p.err (by unfold fTR fRng; rw [he]; rfl)) fun ds hd xs F1 H1 s1 q1 => ?_
  have e1 : fTR (fRng rng1 fr) ρ = (rng1 ds).bind mkTup := by unfold fTR fRng; rw [hd]; rfl
  rw [e1] at p
  have p1 := p.step s1
  by_cases hds : ∃ j, ds = [.int j]
  · obtain ⟨j, rfl⟩ := hds
    obtain ⟨v, vs, e2, q2, e3⟩ := q1
    have p2 : Post K W own F1 H1 ((if small62 j = true then Except.ok (rangeL 0 j.toNat) else Except.error Err.stuck : M (List Dat)).bind mkTup) Q := p1
    by_cases hj : small62 j = true
    · rw [if_pos hj] at p2
      unfold small62 at hj
      simp only [Bool.and_eq_true, decide_eq_true_eq] at hj
      have e4 : xs = [.int j] := by rw [e2, show v = .int j from q2, show vs = [] from e3]
      subst e4
      refine ⟨0, j, rfl, rfl, ⟨by decide, by decide, hj.1, hj.2⟩, fun r2 hr2 => ?_⟩
      have p3 : Post K W own F1 H1 (mkTup (rangeL 0 (j - 0).toNat)) Q := by rw [Int.sub_zero]; exact p2
      obtain ⟨z1, z2⟩ := trng_end p3 s1.fh hr2
      exact ⟨r2, 0, j, rfl, upd_same, ⟨by decide, by decide, hj.1, hj.2⟩, z1, z2⟩
    · rw [if_neg hj] at p2
      exact (W.ns p2).elim
  · have : rng1 ds = .error .stuck := by
      unfold rng1
      split
      · exact absurd ⟨_, rfl⟩ hds
      · rfl
    rw [this] at p1
    exact (W.ns p1).elim
@[simp] theorem e_TR {ρ : Env'} : fTR fr ρ = (fr ρ).bind mkTup := id rfl
end
theorem fn_stk {P : Program} {w : World} {K : PySem.W.Frag} {mg : Str → Option Value} {base : Heap} {k nN : Nat} {f : Addr} {fd : FuncData} {ps : List Str} {ro : Bool} : FnOk P w K mg base CX0 k f fd ps (spF K ro (runB nN ps.length fun _ => stk) ps.length) where
  len := fun vs H Q E ⟨F, ds, s, q, l, p⟩ => by rw [q.length, l]
  run := fun A outer s H args us vs Q E hr he hb hv ⟨F, ds, s1, q, l, p⟩ => by
    have e : runB nN ps.length (fun _ => stk) ds = stk := by
      unfold runB
      rw [if_pos l]
      rfl
    rw [e] at p
    exact Post.stuck p
theorem okEs_mem {n : Nat} : ∀ {ds : List Dat} {d : Dat}, okEs ds n = true → d ∈ ds → okE d n = true
  | [], d, _, h => by simp at h
  | a :: ds, d, h, hd => by
    unfold okEs at h
    simp only [Bool.and_eq_true] at h
    rcases List.mem_cons.mp hd with e | e
    · rw [e]; exact h.1
    · exact okEs_mem h.2 e
section
variable {X : Cx} {K : PySem.W.Frag} {W : Wish} {own ro : Bool}
open Classical in
theorem has_D {pins : List (Addr × Obj)} {σ : St} {F H : Hp} {s : Shared} (I : Inv X pins σ H s) (hF : Same F H) {ds : List Dat} {xs : List V} {its : List Value} {a : Dat} {x : V} {u : Value} {A : Around} (od : okEs ds 40 = true) (oa : okE a 40 = true) (qs : Deeps X.K F ds xs) (rv : Vals xs its) (qa : Deep X.K F a x) (ra : RelV x u) (hu : A.units + 40 < cLine) :
    ∃ e : Value → Bool, (∀ y, y ∈ its.toArray → SeqAt.EqAt A s y u (e y)) ∧ its.toArray.any e = ds.any fun d => eqD d a := by
  have each : ∀ (i : Nat) (y : Value), its[i]? = some y → ∃ d, ds[i]? = some d ∧ SeqAt.EqAt A s y u (eqD d a) := fun i y hy => by
    have hi : i < its.length := (List.getElem?_eq_some_iff.mp hy).1
    have h1 : i < xs.length := by rw [rv.length]; exact hi
    have h2 : i < ds.length := by rw [← qs.length]; exact h1
    obtain ⟨v, e1, q1⟩ := qs.get (List.getElem?_eq_getElem h2)
    obtain ⟨w, e2, r2⟩ := rv.get e1
    rw [hy] at e2
    cases e2
    exact ⟨_, List.getElem?_eq_getElem h2, eqAt_D I hF _ a (okEs_mem od (List.getElem_mem h2)) oa q1 qa r2 ra hu⟩
  refine ⟨fun y => decide (∃ (i : Nat) (d : Dat), its[i]? = some y ∧ ds[i]? = some d ∧ eqD d a = true), fun y hy => ?_, ?_⟩
  · by_cases h : ∃ (i : Nat) (d : Dat), its[i]? = some y ∧ ds[i]? = some d ∧ eqD d a = true
    · obtain ⟨i, d, h1, h2, h3⟩ := h
      obtain ⟨d', h4, h5⟩ := each i y h1
      rw [h2] at h4
      cases h4
      rw [h3] at h5
      have : decide (∃ (i : Nat) (d : Dat), its[i]? = some y ∧ ds[i]? = some d ∧ eqD d a = true) = true := decide_eq_true ⟨i, d, h1, h2, h3⟩
      show SeqAt.EqAt A s y u (decide _)
      rw [this]
      exact h5
    · have hm : y ∈ its := by simpa using hy
      obtain ⟨i, hi⟩ := List.getElem?_of_mem hm
      obtain ⟨d, h4, h5⟩ := each i y hi
      have h6 : eqD d a = false := by
        cases hq : eqD d a with
        | false => rfl
        | true => exact absurd ⟨i, d, hi, h4, hq⟩ h
      rw [h6] at h5
      show SeqAt.EqAt A s y u (decide _)
      rw [decide_eq_false h]
      exact h5
  · rw [Bool.eq_iff_iff]
    simp only [List.any_toArray, List.any_eq_true, decide_eq_true_eq]
    constructor
    · rintro ⟨y, hy, i, d, h1, h2, h3⟩
      exact ⟨d, List.mem_of_getElem? h2, h3⟩
    · rintro ⟨d, hd, h3⟩
      obtain ⟨i, hi⟩ := List.getElem?_of_mem hd
      have h2 : i < ds.length := (List.getElem?_eq_some_iff.mp hi).1
      have h4 : i < its.length := by rw [← rv.length, qs.length]; exact h2
      exact ⟨its[i], List.getElem_mem h4, i, d, List.getElem?_eq_getElem h4, hi, h3⟩
theorem o_in (hu : X.A.units + 64 < cLine) (hK : X.K = K := by rfl) : Op2 K W own X (compareOp .In) inM := by
  subst hK
  intro pins s σ H x y v u Q I rx ry h
  obtain ⟨F, a, b, s1, qa, qb, p⟩ := h
  have hu1 : X.A.in1.units + 40 < cLine := by show X.A.units + 1 + 40 < cLine; omega
  cases b with
  | lst ds =>
    obtain ⟨l, xs, e, t, z⟩ := qb
    subst e
    cases ry
    have p' : Post X.K W own F H (if (okE a 40 && okEs ds 40) = true then .ok (.bl (ds.any fun d => eqD d a)) else stk) Q := p
    by_cases hc : (okE a 40 && okEs ds 40) = true
    · rw [if_pos hc] at p'
      simp only [Bool.and_eq_true] at hc
      obtain ⟨its, rv, pl, _⟩ := I.list (s1.lst t)
      obtain ⟨e, he, ha⟩ := has_D (A := X.A.in1) I s1 hc.2 hc.1 z rv qa rx hu1
      refine SeqAt.in_listAt e pl.isList he ?_
      rw [ha]
      exact p'.blS s1 I
    · rw [if_neg hc] at p'; exact p'.stuck
  | tup ds =>
    obtain ⟨l, xs, e, t, z⟩ := qb
    subst e
    cases ry
    have p' : Post X.K W own F H (if (okE a 40 && okEs ds 40) = true then .ok (.bl (ds.any fun d => eqD d a)) else stk) Q := p
    by_cases hc : (okE a 40 && okEs ds 40) = true
    · rw [if_pos hc] at p'
      simp only [Bool.and_eq_true] at hc
      obtain ⟨its, rv, pl, _⟩ := I.tuple (s1.tup t)
      obtain ⟨e, he, ha⟩ := has_D (A := X.A.in1) I s1 hc.2 hc.1 z rv qa rx hu1
      refine SeqAt.in_tupleAt e (show s.heap.IsTuple l its.toArray from pl) he ?_
      rw [ha]
      exact p'.blS s1 I
    · rw [if_neg hc] at p'; exact p'.stuck
  | _ => exact Post.stuck p
theorem o_notIn (hu : X.A.units + 64 < cLine) (hK : X.K = K := by rfl) : Op2 K W own X (compareOp .NotIn) notInM := by
  subst hK
  intro pins s σ H x y v u Q I rx ry h
  obtain ⟨F, a, b, s1, qa, qb, p⟩ := h
  have hu1 : X.A.in1.units + 40 < cLine := by show X.A.units + 1 + 40 < cLine; omega
  cases b with
  | lst ds =>
    obtain ⟨l, xs, e, t, z⟩ := qb
    subst e
    cases ry
    have p' : Post X.K W own F H (if (okE a 40 && okEs ds 40) = true then .ok (.bl (!ds.any fun d => eqD d a)) else stk) Q := p
    by_cases hc : (okE a 40 && okEs ds 40) = true
    · rw [if_pos hc] at p'
      simp only [Bool.and_eq_true] at hc
      obtain ⟨its, rv, pl, _⟩ := I.list (s1.lst t)
      obtain ⟨e, he, ha⟩ := has_D (A := X.A.in1) I s1 hc.2 hc.1 z rv qa rx hu1
      refine SeqAt.notIn_listAt e pl.isList he ?_
      rw [ha]
      exact p'.blS s1 I
    · rw [if_neg hc] at p'; exact p'.stuck
  | tup ds =>
    obtain ⟨l, xs, e, t, z⟩ := qb
    subst e
    cases ry
    have p' : Post X.K W own F H (if (okE a 40 && okEs ds 40) = true then .ok (.bl (!ds.any fun d => eqD d a)) else stk) Q := p
    by_cases hc : (okE a 40 && okEs ds 40) = true
    · rw [if_pos hc] at p'
      simp only [Bool.and_eq_true] at hc
      obtain ⟨its, rv, pl, _⟩ := I.tuple (s1.tup t)
      obtain ⟨e, he, ha⟩ := has_D (A := X.A.in1) I s1 hc.2 hc.1 z rv qa rx hu1
      refine SeqAt.notIn_tupleAt e (show s.heap.IsTuple l its.toArray from pl) he ?_
      rw [ha]
      exact p'.blS s1 I
    · rw [if_neg hc] at p'; exact p'.stuck
  | _ => exact Post.stuck p
end
end L2
namespace L2
open PySem PySem.Spec PyProof.Rows
noncomputable abbrev ZRec (h : Heap) (z p q : Addr) (m k : Value) : Prop := h.get? z = some { cls := .type "zip", dict := none, data := .fields #[m, k, .bool false, .ref p, .ref q], slots := #[] }
structure Zs (z p q u v l m : Addr) (r k a b : Value) (i j : Nat) (xs ys : Array Value) (h : Heap) : Prop where
  me : ZRec h z p q r k
  its : IsPair h p (.ref u) (.ref v)
  own : IsPair h q a b
  one : h.IsListIter u l i
  two : h.IsListIter v m j
  xl : h.IsList l xs
  yl : h.IsList m ys
noncomputable def Off (z q u v : Addr) (h h' : Heap) : Prop := ∀ c o, c ≠ z → c ≠ q → c ≠ u → c ≠ v → h.get? c = some o → h'.get? c = some o
section
variable {z p q u v l m : Addr} {r k a b : Value} {i j n : Nat} {xs ys : Array Value} {h h' g : Heap}
theorem Off.then (A : Off z q u v h h') (B : Off z q u v h' g) : Off z q u v h g := fun c o a b d e x => B c o a b d e (A c o a b d e x)
end
inductive Mem : Value → Prop
  | no : Mem .none
  | was (a : Int) (t : Tok) : Mem (.int a t)
end L2
namespace L2
open PySem PySem.Spec PyProof.Rows
inductive Laid2 : Hp → List (V × V) → List V → Hp → Prop
  | nil {G : Hp} : Laid2 G [] [] G
  | cons {G G' : Hp} {T : Addr} {x y : V} {ps : List (V × V)} {vs : List V} : G T = none → Laid2 (upd G T (.tup [x, y])) ps vs G' → Laid2 G ((x, y) :: ps) (.ref T :: vs) G'
end L2
namespace L2
open PySem PySem.Spec PyProof.Rows
end L2
namespace L2
open PySem PySem.Spec PyProof.Rows
structure Owns (K : PySem.W.Frag) (F G H : Hp) (ds : List Dat) (vs : List V) : Prop where
  len : vs.length = ds.length
  get : ∀ (k : Nat) (d : Dat), ds[k]? = some d → ∃ a xs es, vs[k]? = some (.ref a) ∧ d = .lst es ∧ H a = some (.lst xs) ∧ F a = none ∧ G a = none ∧ Deeps K F es xs
  ap : ∀ (j k : Nat) (a : Addr), vs[j]? = some (.ref a) → vs[k]? = some (.ref a) → j = k
end L2
namespace L2
open PySem PySem.Spec PyProof.Rows
end L2
namespace L2
open PySem PySem.Spec PyProof.Rows
structure Ys (z p q u v l m : Addr) (r k a b : Value) (i j : Nat) (xs ys : Array Value) (h : Heap) : Prop where
  me : ZRec h z p q r k
  its : IsPair h p (.ref u) (.ref v)
  own : IsPair h q a b
  one : h.IsTupleIter u l i
  two : h.IsTupleIter v m j
  xl : h.IsTuple l xs
  yl : h.IsTuple m ys
end L2
namespace L2
open PySem PySem.Spec PyProof.Rows
structure RepR (K : PySem.W.Frag) (F0 H0 FB : Hp) (i : Nat) (a : Addr) (ys : List V) (rs : List Dat) (F H : Hp) (σ : St) (ρ : Env') : Prop where
  r : Rep K F0 H0 FB [] F H σ ρ
  sl : σ[i]? = some (some (.ref a))
  hp : H a = some (.lst ys)
  fa : F a = none
  ha : H0 a = none
  nm : ∀ m : Nat, ys[m]? ≠ some (.ref a)
  ow : Owns K F H0 H rs ys
section
variable {K : PySem.W.Frag} {F0 H0 FB F H F1 H1 : Hp} {i : Nat} {a : Addr} {ys : List V} {rs : List Dat} {σ : St} {ρ : Env'}
theorem RepR.base {FB' : Hp} (h : RepR K F0 H0 FB i a ys rs F H σ ρ) (s : Same FB' FB) : RepR K F0 H0 FB' i a ys rs F H σ ρ := ⟨h.r.base s, h.sl, h.hp, h.fa, h.ha, h.nm, h.ow⟩
end
end L2
namespace L2
open PySem PySem.Spec PyProof.Rows
section
variable {κ : Type} [DecidableEq κ]
noncomputable def dropK (kvs : List (κ × V)) (k : κ) : List (κ × V) := kvs.filter fun kv => decide (kv.1 ≠ k)
theorem RelO.getD {o : Option V} {u : Option Value} {d : V} {d' : Value} (r : RelO o u) (rd : RelV d d') : RelV (o.getD d) (u.getD d') := by
  cases o with
  | none => cases u with
    | none => exact rd
    | some _ => exact (show False from r).elim
  | some _ => cases u with
    | none => exact (show False from r).elim
    | some _ => exact r
theorem KV.drop {kvs : List (κ × V)} {vs : List (κ × Value)} (r : KV kvs vs) (k : κ) : KV (dropK kvs k) (without vs k) := by
  unfold KV at r ⊢
  unfold dropK without
  induction r with
  | nil => exact .nil
  | @cons p q ps qs h t ih =>
    obtain ⟨h1, h2⟩ := h
    rw [List.filter_cons, List.filter_cons]
    by_cases e : p.1 = k
    · have a : ¬ decide (p.1 ≠ k) = true := by simp [e]
      have b : ¬ decide (q.1 ≠ k) = true := by simp [h1.symm.trans e]
      rw [if_neg a, if_neg b]; exact ih
    · have e' : ¬ q.1 = k := fun z => e (h1.trans z)
      have a : decide (p.1 ≠ k) = true := by simp [e]
      have b : decide (q.1 ≠ k) = true := by simp [e']
      rw [if_pos a, if_pos b]; exact .cons ⟨h1, h2⟩ ih
theorem KV.length {kvs : List (κ × V)} {vs : List (κ × Value)} (r : KV kvs vs) : kvs.length = vs.length := Paired.length r
end
structure M1 (X : Cx) (o : Expr) (m : Str) (apos : Pos) (e : Expr) (cpos : Pos) : Prop where
  base : attributeBase o m X.env (eval o X.env) = eval o X.env
  few : ((backTo cpos (starEach [e] X.env)).all (fun x => !x.1) && (backToKw cpos (keywordEach [] X.env)).all (fun x => x.1.isSome)
    && decide (([e] : List Expr).length + ([] : List Keyword).length + (if ([] : List Keyword).isEmpty then 0 else 1) < 30)) = true
  line : (apos.endLine == cpos.line) = true
  trees : backTo cpos (starEach [e] X.env) = [(false, eval e X.env)]
structure M2 (X : Cx) (o : Expr) (m : Str) (apos : Pos) (e f : Expr) (cpos : Pos) : Prop where
  base : attributeBase o m X.env (eval o X.env) = eval o X.env
  few : ((backTo cpos (starEach [e, f] X.env)).all (fun x => !x.1) && (backToKw cpos (keywordEach [] X.env)).all (fun x => x.1.isSome)
    && decide (([e, f] : List Expr).length + ([] : List Keyword).length + (if ([] : List Keyword).isEmpty then 0 else 1) < 30)) = true
  line : (apos.endLine == cpos.line) = true
  trees : backTo cpos (starEach [e, f] X.env) = [(false, eval e X.env), (false, eval f X.env)]
end L2
namespace L2
open PySem PySem.Spec PyProof.Rows
noncomputable def keysI (ks : List Int) : List (Key × V) := ks.map fun k => (Sum.inl k, .bl true)
structure RepK (K : PySem.W.Frag) (F0 H0 FB : Hp) (i : Nat) (a : Addr) (ks : List Int) (F H : Hp) (σ : St) (ρ : Env') : Prop where
  r : Rep K F0 H0 FB [] F H σ ρ
  sl : σ[i]? = some (some (.ref a))
  hp : H a = some (.dK (keysI ks))
  fa : F a = none
  ha : H0 a = none
end L2
namespace L2
open PySem PySem.Spec PyProof.Rows
structure ExA (h : Heap) (e : Addr) (C : Value) (dx hd : Option Addr) : Prop where
  ob : ∃ oe vs, h.get? e = some oe ∧ oe.cls = C ∧ oe.dict = dx ∧ oe.data = .fields vs ∧ vs[1]? = some (hd.elim Value.none Value.ref)
  tb : ∀ T, hd = some T → T ≠ e ∧ ∃ oT ts, h.get? T = some oT ∧ oT.data = .fields ts ∧ ts[3]? = some .none
section
variable {M : Model} {A : Around} {E : Value → Shared → Prop} {s : Shared}
structure Left (fs : List Addr) (e : Addr) (hd : Option Addr) (h h' : Heap) : Prop where
  keep : ∀ b o, h.get? b = some o → b ∉ fs → b ≠ e → (∀ T, hd = some T → b ≠ T) → h'.get? b = some o
  slot : ∀ b o, h.get? b = some o → b ∈ fs → ∃ sl, h'.get? b = some { o with slots := sl }
  size : h.objs.size ≤ h'.objs.size
end
end L2
namespace L2
open PySem PySem.Spec PyProof.Rows
structure CXs (P : Program) (w : World) (outer : List Env) (H : Hp) (s : Shared) (E : XK) (a T : Addr) (C : Value) (dx : Option Addr) (H' : Hp) (s' : Shared) : Prop where
  ex : ExA s'.heap a C dx (some T)
  na : s.heap.get? a = none
  nT : s.heap.get? T = none
  fa : H' a = none
  fT : H' T = none
  os : s'.os = s.os
  bare : AllBare s'.gens
  un : Un (frs outer) [] H H' s.heap s'.heap
  hok : HOk P w H' s'.heap
  want : E C dx H'
theorem get_none {h : Heap} {a : Addr} (z : h.objs.size ≤ a) : h.get? a = none := by
  cases e : h.get? a with
  | none => rfl
  | some o => exact absurd (Heap.lt_size e) (Nat.not_lt.mpr z)
theorem ObjOk.is {P : Program} {w : World} {H : Hp} {h : Heap} {a : Addr} {o : HO} (x : ObjOk P w H h a o) : ∃ u, h.get? a = some u := by
  cases o with
  | lst xs => obtain ⟨_, _, _, _, e⟩ := x; exact ⟨_, e⟩
  | tup xs => obtain ⟨_, _, _, ob, e, _⟩ := x; exact ⟨_, e⟩
  | dK kvs => obtain ⟨_, _, _, _, o, _, _, e, _⟩ := x; exact ⟨_, e⟩
  | dT kvs => obtain ⟨_, _, _, _, o, _, _, e, _⟩ := x; exact ⟨_, e⟩
  | set S n => obtain ⟨o, _, _, _, e, _⟩ := x; exact ⟨_, e⟩
  | ins C dx fs => obtain ⟨_, _, _, e, _⟩ := x; exact ⟨_, e⟩
  | own y => exact x
  | xd fs => obtain ⟨_, ⟨_, _, _, e, _⟩, _⟩ := x; exact ⟨_, e⟩
  | rng lo hi => obtain ⟨_, _, _, e⟩ := x; exact ⟨_, e⟩
  | frz ob u => obtain ⟨e, _⟩ := x; exact ⟨_, e⟩
  | tbl ps => exact ⟨_, show h.get? a = some _ from x⟩
  | met f y => exact ⟨_, show h.get? a = some _ from x⟩
  | ext φ => obtain ⟨_, e, _⟩ := x; exact e
end L2
namespace L2
open PySem PySem.Spec PyProof.Rows
end L2
namespace L2
open PySem PySem.Spec PyProof.Rows
end L2
namespace L2
open PySem PySem.Spec PyProof.Rows
section
variable {X : Cx} {pins : List (Addr × Obj)} {σ : St} {H : Hp} {s : Shared} {a : Addr} {C : Value} {dx hd : Option Addr}
structure Apart (X : Cx) (pins : List (Addr × Obj)) (H : Hp) (s : Shared) (a : Addr) (hd : Option Addr) : Prop where
  na : X.s₀.heap.get? a = none
  fa : H a = none
  pa : ∀ p ∈ X.pn ++ pins, p.1 ≠ a
  nT : ∀ T, hd = some T → X.s₀.heap.get? T = none ∧ H T = none ∧ ∀ p ∈ X.pn ++ pins, p.1 ≠ T
theorem Inv.left {h' : Heap} (I : Inv X pins σ H s) (hx : X.ex = []) (x : ExA s.heap a C dx hd) (ap : Apart X pins H s a hd) (lf : Left (frs X.stack) a hd s.heap h') : Inv X pins σ H { s with heap := h' } := by
  have e0 := I.env0
  obtain ⟨oe, vs, he, _, _, hdt, _⟩ := x.ob
  have nof : ∀ b o, s.heap.get? b = some o → (∀ vs, o.data ≠ .fields vs) → b ≠ a ∧ ∀ T, hd = some T → b ≠ T := fun b o e n => by
    refine ⟨fun z => ?_, fun T hT z => ?_⟩
    · subst z
      rw [he] at e
      cases e
      exact n vs hdt
    · subst z
      obtain ⟨_, oT, ts, h1, h2, _⟩ := x.tb _ hT
      rw [h1] at e
      cases e
      exact n ts h2
  have stk : ∀ b ∈ frs X.stack, H b = none := e0.frf
  have any : ∀ b o, s.heap.get? b = some o → (∀ vs, o.data ≠ .fields vs) → ∃ sl, h'.get? b = some { o with slots := sl } := fun b o e n => by
    obtain ⟨z1, z2⟩ := nof b o e n
    by_cases hb : b ∈ frs X.stack
    · exact lf.slot b o e hb
    · exact ⟨o.slots, lf.keep b o e hb z1 z2⟩
  have old : ∀ b o, X.s₀.heap.get? b = some o → b ≠ a ∧ ∀ T, hd = some T → b ≠ T := fun b o e =>
    ⟨fun z => (by subst z; rw [ap.na] at e; cases e), fun T hT z => (by subst z; rw [(ap.nT _ hT).1] at e; cases e)⟩
  have up : s.heap.UpToSlots h' := any
  have loc0 : X.s₀.heap.get? X.env.locals = none := get_none I.ok.above
  have out : ∀ b, b ≠ X.env.locals → b ∉ X.fs → b ∉ frs X.stack := fun b h1 h2 h3 => by
    rcases List.mem_cons.mp (I.stkSub b h3) with z | z
    · exact h1 z
    · exact h2 z
  have cel : ∀ c v, s.heap.IsCell c v → h'.IsCell c v := fun c v ⟨o, h1, h2⟩ => by
    obtain ⟨sl, z⟩ := any c o h1 (fun vs q => by rw [h2] at q; cases q)
    exact ⟨_, z, h2⟩
  refine ⟨I.ok, I.os, I.bare, ?_, ?_, fun x c e => ?_, I.free, I.freeC, fun p hp => ?_, ?_, I.len⟩
  · have go : ∀ b o, X.s₀.heap.get? b = some o → ∀ o', s.heap.get? b = some o' → ∃ sl, h'.get? b = some { o' with slots := sl } := fun b o e o' e' => by
      obtain ⟨z1, z2⟩ := old b o e
      by_cases hb : b ∈ frs X.stack
      · exact lf.slot b o' e' hb
      · exact ⟨o'.slots, lf.keep b o' e' hb z1 z2⟩
    refine ⟨fun b o e n hb hx' => ?_, fun b o e n hb hx' => ?_, I.base.free, fun b o e hx' => ?_, I.base.tups, I.base.frzs, I.base.tbls⟩
    · obtain ⟨z1, z2⟩ := old b o e
      exact lf.keep b o (I.base.keep b o e n hb hx') (out b (fun z => by rw [z, loc0] at e; cases e) hb) z1 z2
    · obtain ⟨sl, e1⟩ := I.base.slot b o e n hb hx'
      obtain ⟨sl2, e2⟩ := go b o e _ e1
      exact ⟨sl2, e2⟩
    · obtain ⟨o', e1⟩ := I.base.there b o e hx'
      obtain ⟨sl2, e2⟩ := go b o e _ e1
      exact ⟨_, e2⟩
  · obtain ⟨m, hn, hl⟩ := I.loc
    refine ⟨m, up.ns hn, fun i x v e1 e2 e3 => ?_⟩
    obtain ⟨u, r, lk⟩ := hl i x v e1 e2 e3
    refine ⟨u, r, ?_⟩
    rcases lk with z | ⟨z, c, c1, c2⟩
    · exact .inl z
    · exact .inr ⟨z, c, c1, cel c _ c2⟩
  · obtain ⟨v, z⟩ := I.cell x c e
    exact ⟨v, cel c v z⟩
  · obtain ⟨p1, p2, p3, p4, p5⟩ := I.pin p hp
    exact ⟨lf.keep p.1 p.2 p1 (out p.1 p3 p4) (ap.pa p hp) fun T hT => (ap.nT T hT).2.2 p hp, p2, p3, p4, p5⟩
  · intro b o e
    refine (I.hok b o e).stay (fun c u hc e1 => ?_) (fun _ z => z) fun _ _ z => z
    have hcn : H c ≠ none := by
      rcases hc with z | z
      · rw [z, e]; exact fun z => nomatch z
      · rw [z]; exact fun z => nomatch z
    exact lf.keep c u e1 (fun z => hcn (stk c z)) (fun z => hcn (by rw [z]; exact ap.fa)) fun T hT z => hcn (by rw [z]; exact (ap.nT T hT).2.1)
end
end L2
namespace L2
open PySem PySem.Spec PyProof.Rows
end L2
namespace L2
open PySem PySem.Spec PyProof.Rows
noncomputable def XNamed (K : PySem.W.Frag) (C : Addr) (bmB : List Value) : Prop := ∀ h : Heap, K.In h → ∃ tl N nm qn bs hdct sn sub ab col dd k0 k1 k2 k3 k5 newId, h.get? C = some (excClassObj nm qn C N bs tl hdct sn sub ab col dd k0 k1 k2 k3 k5 newId) ∧ OwnTail h bmB tl
noncomputable abbrev Cx.hand (X : Cx) (a : Addr) (oe : Obj) : Cx := { X with A := X.A.mark (some (.ref a)), calm := false, xe := fun _ _ => False, pn := (a, oe) :: X.pn }
end L2
namespace L2
open PySem PySem.Spec PyProof.Rows
end L2
namespace L2
open PySem PySem.Spec PyProof.Rows
end L2
namespace L2
open PySem PySem.Spec PyProof.Rows
section
open PySem.W
variable {prog : Program} {w : World} {A : Around} {E : Value → Shared → Prop} {h : Heap} {g : Array GenState} {d : Drawn} {t : Nat} {os : OsState} {a C : Addr} {oe : Obj} {od : Option Obj} {K : Frag} {bmB : List Value} {B : String}
theorem xcls_by {tk : Tok} {Q : Value → Shared → Prop} (FB : ExcAttrBase B bmB) (kX : K.In h) (I : W.InstAt h a oe C od) (e1 : findIn K (.ref C) "__getattribute__" = some (some (.builtin "BaseException.__getattribute__")))
    (e3 : findIn K (.ref C) "__getattr__" = some none)
    (hq : ∀ R : Result → Shared → Prop, R (.ok (.ret (.ref C))) ⟨h, g, d, t, os⟩ → codeAny (model prog w) A (.call (.builtin "BaseException.__getattribute__") ⟨[.ref a, .str "__class__" tk], []⟩) R ⟨h, g, d, t, os⟩) (q : Q (.ref C) ⟨h, g, d, t, os⟩) :
    wpAny (model prog w) A (getAttrBy (.ref a) (.str "__class__" tk) false) Q E ⟨h, g, d, t, os⟩ := by
  have m0 := I.type (M := model prog w)
  have m1 := looks_findIn (M := model prog w) kX e1
  have L2 := looks_findIn (M := model prog w) kX e3
  have b3 := FB.ga.bind (.ref a)
  have nx : (Value.builtin "BaseException.__getattribute__" == Value.builtin "object.__getattribute__") = false := by decide +kernel
  unfold getAttrBy
  repeat (any_goals (first | assumption | with_reducible refine m0.at ?_ | with_reducible refine m1.at ?_ | with_reducible refine L2.at ?_ | wp_step))
  all_goals (refine hq _ ?_)
  repeat (any_goals (first | wp_step | assumption))
theorem xcls_check {M : Model} {nameV : Value} {Q : Unit → Shared → Prop} (kX : K.In h) (I : W.InstAt h a oe C od) (hb : mroIn K C (.type "BaseException") = some true) (hq : Q () ⟨h, g, d, t, os⟩) :
    wpAny M A (checkBuiltinCall "BaseException.__getattribute__" ⟨[.ref a, nameV], []⟩) Q E ⟨h, g, d, t, os⟩ := by
  have kd : builtinKind "BaseException.__getattribute__" = some .slot := by decide +kernel
  have hs : splitId "BaseException.__getattribute__" = some ("BaseException", "__getattribute__") := by decide +kernel
  have m0 := I.type (M := M)
  have m1 := looks_mroIn (M := M) kX hb
  have ag := F.args_bexc_ga (.ref a) nameV
  simp only [checkBuiltinCall, hs, kd]
  refine wpAny_bind ?_
  unfold isInstance
  repeat (first | with_reducible refine m0.at ?_ | with_reducible refine m1.at ?_ | wp_step)
  exact hq
theorem xcls_entry {tk : Tok} {Q : Fin → Shared → Prop} (kX : K.In h) (I : W.InstAt h a oe C od) (e2 : findIn K (.ref C) "__class__" = some (some (.builtin "object.__class__"))) (hm : mroIn K C (.type "object") = some true) (hq : Q (.done (.ret (.ref C))) ⟨h, g, d, t, os⟩) :
    wpAny (model prog w) A (Builtin.«object.__getattribute__» ⟨[.ref a, .str "__class__" tk], []⟩) Q E ⟨h, g, d, t, os⟩ := by
  have tc : Shared.TypeIs ⟨h, g, d, t, os⟩ (.builtin "object.__class__") "getset_descriptor" := F.typeOf_object_class
  have m0 := I.type (M := model prog w)
  have m1 := looks_findIn (M := model prog w) kX e2
  have p5 := F.typeOf_object_class
  have p6 := F.slot_gs_get.lookup
  have p7 := F.slot_gs_set.lookup
  repeat (any_goals (first | assumption | with_reducible refine m0.at ?_ | with_reducible refine m1.at ?_ | wp_step))
  refine W.class_get (s := ⟨h, g, d, t, os⟩) kX I hm ?_
  repeat (any_goals (first | wp_step | assumption))
theorem xcls_attr {Q : Option Value → Shared → Prop} (FB : ExcAttrBase B bmB) (kX : K.In h) (I : W.InstAt h a oe C od) (e1 : findIn K (.ref C) "__getattribute__" = some (some (.builtin "BaseException.__getattribute__"))) (e2 : findIn K (.ref C) "__class__" = some (some (.builtin "object.__class__"))) (e3 : findIn K (.ref C) "__getattr__" = some none)
    (hb : mroIn K C (.type "BaseException") = some true) (hm : mroIn K C (.type "object") = some true) (hq : Q (some (.ref C)) ⟨h, g, d, t + 1, os⟩) : wpAny (model prog w) A (getAttr? (.ref a) "__class__") Q E ⟨h, g, d, t, os⟩ := by
  unfold getAttr? getAttrBy?
  refine wpAny_bind (wpAny_mkText (wpAny_bind (wpAny_attempt (xcls_by FB kX I e1 e3 (fun R hR => codeAny_call_builtin FB.ga.plain F.entry_bexc_ga (xcls_check kX I hb (xcls_entry kX I e2 hm hR))) ?_))))
  exact wpAny_pure hq
structure XIsi (K : Frag) (C : Addr) : Prop where
  ga : findIn K (.ref C) "__getattribute__" = some (some (.builtin "BaseException.__getattribute__"))
  cl : findIn K (.ref C) "__class__" = some (some (.builtin "object.__class__"))
  gt : findIn K (.ref C) "__getattr__" = some none
  bs : mroIn K C (.type "BaseException") = some true
  ob : mroIn K C (.type "object") = some true
  is : ∃ cd, clsIn K C = some cd
theorem kitx_exc (FB : ExcAttrBase B bmB) (Z : XIsi K C) : KitX K (.ref a) (.ref C) (fun h => W.InstAt h a oe C od) where
  ty := fun _ _ _ I => I.type
  it := fun _ _ X _ => by
    obtain ⟨cd, hc⟩ := Z.is
    unfold clsIn at hc
    split at hc
    · next ho =>
      intro A' Q' E' s' k q
      unfold isType loadHead
      refine wpAny_bind (wpAny_loadPart (k C _ (X C _ ho)) ?_)
      exact wpAny_pure q
    · cases hc
  ne := fun hh tq d1 is n1 s1 X htp => by
    obtain ⟨cd, hc⟩ := Z.is
    refine Bool.eq_false_iff.mpr (fun q => ?_)
    have e : C = tq := Value.ref.inj (beq_iff_eq.mp q)
    subst e
    unfold clsIn at hc
    split at hc
    · next ho =>
      cases (X C _ ho).symm.trans htp
    · cases hc
  ca := fun {_ _ _ _ _ s} X I k => by
    obtain ⟨h, g, d, t, os⟩ := s
    exact xcls_attr FB X I Z.ga Z.cl Z.gt Z.bs Z.ob k
end
theorem refs_are : ∀ {ys : List Addr} {its : List Value}, Vals (ys.map V.ref) its → its = ys.map Value.ref
  | [], _, .nil => rfl
  | y :: ys, _, .cons r rs => by rw [refs_are rs, show _ = Value.ref y from r]; rfl
section
variable {X : Cx} {C a : Addr} {oe : Obj} {B : String} {bmB : List Value}
theorem c_isiX (FB : ExcAttrBase B bmB) (Z : XIsi X.K C) (hc : oe.cls = .ref C) (hd : ∃ vs, oe.data = .fields vs) (hn : oe.dict = none) : CallR (X.hand a oe) (.builtin "isinstance") (fun xs H Q => ∃ v b, xs = [.ref a, v] ∧
    ((∃ c, RelV v c ∧ (∀ u, RelV v u → u = c) ∧ PySem.W.kitOne X.K (.ref C) c = some b) ∨ ∃ (tp : Addr) (ys : List Addr), v = .ref tp ∧ H tp = some (.tup (ys.map V.ref)) ∧ PySem.W.kitAny X.K (.ref C) (ys.map Value.ref) = some b) ∧ Q (.bl b) H) := by
  intro pins s σ H xs us Q I r h
  obtain ⟨v, b, rfl, h1, q⟩ := h
  obtain ⟨u, w, rfl, ru, rw'⟩ := r.two
  cases (show u = Value.ref a from ru)
  have pa := (I.pin (a, oe) (List.mem_cons_self ..)).1
  obtain ⟨vs, hdt⟩ := hd
  have J : PySem.W.InstAt s.heap a oe C none := ⟨pa, hc, by unfold PySem.W.notCls; rw [hdt], by rw [hn]; trivial⟩
  rcases h1 with ⟨c, rc, uniq, e⟩ | ⟨tp, ys, rfl, ht, e⟩
  · cases uniq w rw'
    exact PySem.W.kia_one (kitx_exc FB Z) I.kIn J e (fun z => nomatch z) fun tk => ⟨.bl b, H, I.tok tk, rfl, q⟩
  · cases (show w = Value.ref tp from rw')
    obtain ⟨_, its, rv, ob, z1, z2⟩ := (show ObjOk X.prog X.w H s.heap tp (.tup (ys.map V.ref)) from I.hok tp _ ht)
    obtain ⟨z3, n, z4⟩ := z2
    have ei : its = ys.map Value.ref := refs_are rv
    subst ei
    obtain ⟨oc, odd, odt, osl⟩ := ob
    have z5 : oc = Value.type "tuple" := z3
    have z6 : odt = .seq (ys.map Value.ref).toArray n := z4
    subst z5 z6
    exact PySem.W.kia_tup (kitx_exc FB Z) I.kIn J z1 e (fun z => nomatch z) fun tk => ⟨.bl b, H, I.tok tk, rfl, q⟩
end
end L2
namespace L2
open PySem PySem.Spec PyProof.Rows
noncomputable def tIsiX (i : Nat) (a : Addr) (b : Bool) : TE := fun σ H Q => σ[i]? = some (some (.ref a)) ∧ Q (.bl b) H
noncomputable def tIsiT (i : Nat) (a : Addr) (ys : List Addr) (b : Bool) : TE := fun σ H Q => σ[i]? = some (some (.ref a)) ∧ ∀ p, H p = none → Q (.bl b) (upd H p (.tup (ys.map V.ref)))
section
variable {X : Cx} {C a D : Addr} {oe : Obj} {B : String} {bmB : List Value} {i : Nat} {n x y T : Str} {p p1 p2 pos : Pos} {b : Bool}
theorem pe_isiO (FB : ExcAttrBase B bmB) (Z : XIsi X.K C) (hc : oe.cls = .ref C) (hd : ∃ vs, oe.data = .fields vs) (hn : oe.dict = none) (hm : X.mg "isinstance" = none) (hD : X.mg y = some (.ref D)) (hb : PySem.W.kitOne X.K (.ref C) (.ref D) = some b)
    (hN : X.N[i]? = some n := by rfl) (hv : Vis X.env.scope n := by first | exact Or.inl rfl | exact Or.inr (Or.inl rfl) | exact Or.inr (Or.inr rfl)) (hd1 : (n == ("__debug__" : Str)) = false := by decide) (hd2 : (n == ("__classdict__" : Str)) = false := by decide)
    (hg : Gl (X.hand a oe) "isinstance" := by rfl) (hgD : Gl (X.hand a oe) y := by rfl) (hd3 : (y == ("__debug__" : Str)) = false := by decide)
    (hst : starEach [.Name n p1, .Name y p2] X.env = [(false, eval (.Name n p1) X.env), (false, eval (.Name y p2) X.env)] := by rfl) (hst2 : starEach [.Name y p2] X.env = [(false, eval (.Name y p2) X.env)] := by rfl) (hpl : (backTo pos (starEach [.Name y p2] X.env)).any (·.1) = false := by rfl) :
    PE (X.hand a oe) (.Call (.Name "isinstance" p) [.Name n p1, .Name y p2] [] pos) (tIsiX i a b) := by
  have vD : PE (X.hand a oe) (.Name y p2) (tC (.ref D)) := fun pins s σ H Q I h => ld_glob I hgD hD ⟨.ref D, H, I, rfl, h⟩ hd3
  refine PE.imp (pe_callB (X := X.hand a oe) (c_isiX FB Z hc hd hn) hg hm boot_isinstance (pa_cons (pv i hN hv hd1 hd2) (pa_cons vD pa_nil hst2) (by rw [hst, hst2])) (by decide) (by decide) (by rw [hst, hst2]) hpl) fun σ H Q h => ?_
  obtain ⟨e1, q⟩ := h
  exact ⟨.ref a, e1, .ref D, b, rfl, .inl ⟨.ref D, rfl, fun u hu => hu, hb⟩, q⟩
end
noncomputable def tRefs (ys : List Addr) : TA := fun _ H Q => Q (ys.map V.ref) H
section
variable {X : Cx} {C a D : Addr} {oe : Obj} {B : String} {bmB : List Value} {i : Nat} {n x y : Str} {T : String} {p p1 p2 pos : Pos} {b : Bool} {ys : List Addr} {es : List Expr}
theorem pe_isiB (FB : ExcAttrBase B bmB) (Z : XIsi X.K C) (hc : oe.cls = .ref C) (hd : ∃ vs, oe.data = .fields vs) (hn : oe.dict = none) (hm : X.mg "isinstance" = none) (hmT : X.mg y = none) (hvT : bootBuiltins y = some (.type T)) (hb : PySem.W.kitOne X.K (.ref C) (.type T) = some b)
    (hN : X.N[i]? = some n := by rfl) (hv : Vis X.env.scope n := by first | exact Or.inl rfl | exact Or.inr (Or.inl rfl) | exact Or.inr (Or.inr rfl)) (hd1 : (n == ("__debug__" : Str)) = false := by decide) (hd2 : (n == ("__classdict__" : Str)) = false := by decide)
    (hg : Gl (X.hand a oe) "isinstance" := by rfl) (hgT : Gl (X.hand a oe) y := by rfl) (hy : y ≠ "__name__" := by decide) (hd3 : (y == ("__debug__" : Str)) = false := by decide)
    (hst : starEach [.Name n p1, .Name y p2] X.env = [(false, eval (.Name n p1) X.env), (false, eval (.Name y p2) X.env)] := by rfl) (hst2 : starEach [.Name y p2] X.env = [(false, eval (.Name y p2) X.env)] := by rfl) (hpl : (backTo pos (starEach [.Name y p2] X.env)).any (·.1) = false := by rfl) :
    PE (X.hand a oe) (.Call (.Name "isinstance" p) [.Name n p1, .Name y p2] [] pos) (tIsiX i a b) := by
  refine PE.imp (pe_callB (X := X.hand a oe) (c_isiX FB Z hc hd hn) hg hm boot_isinstance (pa_cons (pv i hN hv hd1 hd2) (pa_cons (pe_tyN (X := X.hand a oe) (pos := p2) hgT hmT hvT hy hd3) pa_nil hst2) (by rw [hst, hst2])) (by decide) (by decide) (by rw [hst, hst2]) hpl) fun σ H Q h => ?_
  obtain ⟨e1, q⟩ := h
  exact ⟨.ref a, e1, .ty T, b, rfl, .inl ⟨.type T, rfl, fun u hu => hu, hb⟩, q⟩
theorem pe_isiT {j} (FB : ExcAttrBase B bmB) (Z : XIsi X.K C) (hc : oe.cls = .ref C) (hd : ∃ vs, oe.data = .fields vs) (hn : oe.dict = none) (hm : X.mg "isinstance" = none) (hT : PA (X.hand a oe) es (tRefs ys)) (hl : ys.length ≤ sizeLine) (hb : PySem.W.kitAny X.K (.ref C) (ys.map Value.ref) = some b)
    (hN : X.N[i]? = some n := by rfl) (hv : Vis X.env.scope n := by first | exact Or.inl rfl | exact Or.inr (Or.inl rfl) | exact Or.inr (Or.inr rfl)) (hd1 : (n == ("__debug__" : Str)) = false := by decide) (hd2 : (n == ("__classdict__" : Str)) = false := by decide)
    (hg : Gl (X.hand a oe) "isinstance" := by rfl)
    (hst : starEach [.Name n p1, .Tuple es j p2] X.env = [(false, eval (.Name n p1) X.env), (false, eval (.Tuple es j p2) X.env)] := by rfl) (hst2 : starEach [.Tuple es j p2] X.env = [(false, eval (.Tuple es j p2) X.env)] := by rfl) (hpl : (backTo pos (starEach [.Tuple es j p2] X.env)).any (·.1) = false := by rfl) :
    PE (X.hand a oe) (.Call (.Name "isinstance" p) [.Name n p1, .Tuple es j p2] [] pos) (tIsiT i a ys b) := by
  refine PE.imp (pe_callB (X := X.hand a oe) (c_isiX FB Z hc hd hn) hg hm boot_isinstance (pa_cons (pv i hN hv hd1 hd2) (pa_cons (pe_tup hT) pa_nil hst2) (by rw [hst, hst2])) (by decide) (by decide) (by rw [hst, hst2]) hpl) fun σ H Q h => ?_
  obtain ⟨e1, q⟩ := h
  exact ⟨.ref a, e1, by rw [List.length_map]; exact hl, fun tp htp => ⟨.ref tp, b, rfl, .inr ⟨tp, ys, rfl, upd_same, hb⟩, q tp htp⟩⟩
end
end L2
namespace L2
open PySem PySem.Spec PyProof.Rows
end L2
namespace L2
open PySem PySem.Spec PyProof.Rows
end L2
namespace L2
open PySem PySem.Spec PyProof.Rows
end L2
namespace L2
open PySem PySem.Spec PyProof.Rows
noncomputable def excIn2 (K : PySem.W.Frag) (C : Addr) (bmB : List Value) (newId : String) (f : Addr) : Bool := match K.lookup C with
  | some ⟨.type "type", _, .cls cd, sl⟩ =>
      (match cd.mro, sl.toList with
    | .ref C' :: tl, [_, _, _, _, some (.builtin n), _] => (n == newId && C' == C && !cd.hasDel) && (PySem.W.nsOkIn K cd.ns && PySem.W.tailIn K bmB tl) && (PySem.W.nsIn K cd.ns "__init__" == some (some (.ref f)))
    | _, _ => false)
  | _ => false
end L2
namespace L2
open PySem PySem.Spec PyProof.Rows
noncomputable def veTail : List Value → Bool
  | .ref _ :: r => veTail r
  | [.type a, .type b, .type c, .type d] => a == "ValueError" && b == "Exception" && c == "BaseException" && d == "object"
  | _ => false
structure XFld (K : PySem.W.Frag) (C : Addr) (f : Str) : Prop where
  sa : PySem.W.findIn K (.ref C) "__setattr__"
      = some (some (.builtin "object.__setattr__"))
  no : PySem.W.findIn K (.ref C) f = some none
  cd : ((PySem.W.clsIn K C).any fun cd => veTail cd.mro && cd.hasDict) = true
section
open PySem.W
variable {prog : Program} {w : World} {A : Around} {E : Value → Shared → Prop} {s : Shared} {a C : Addr} {oe : Obj} {od : Option Obj} {K : Frag} {f : Str} {v : Value}
end
end L2
namespace L2
open PySem PySem.Spec PyProof.Rows
section
open PySem.W
variable {prog : Program} {w : World} {A : Around} {E : Value → Shared → Prop} {s : Shared} {a C : Addr} {oe od : Obj} {K : Frag} {f : Str} {v : Value} {B : String} {bmB : List Value}
end
section
variable {X : Cx} {pins : List (Addr × Obj)} {σ : St} {H H' : Hp} {s : Shared} {h' : Heap}
theorem Inv.turn {t' : Nat} (I : Inv X pins σ H s) (S : Addr → Prop) (k : ∀ b o, ¬ S b → s.heap.get? b = some o → h'.get? b = some o) (same : ∀ b, ¬ S b → H' b = H b)
    (mine : ∀ b, S b → (∃ φ, H b = some (.ext φ)) ∨ s.heap.get? b = none) (there : ∀ b o, S b → s.heap.get? b = some o → ∃ o', h'.get? b = some o') (new : ∀ b o, S b → H' b = some o → ObjOk X.prog X.w H' h' b o) :
    Inv X pins σ H' { s with heap := h', toks := t' } := by
  have out : ∀ b u, H b = some u → (∀ φ, u ≠ .ext φ) → ¬ S b := fun b u e n z => by
    rcases mine b z with ⟨φ, q⟩ | q
    · rw [e] at q; cases q; exact n φ rfl
    · obtain ⟨o, r⟩ := (I.hok b u e).is
      rw [r] at q; cases q
  have off : ∀ b o, s.heap.get? b = some o → H b = none → ¬ S b := fun b o e n z => by
    rcases mine b z with ⟨φ, q⟩ | q
    · rw [n] at q; cases q
    · rw [e] at q; cases q
  refine I.un ⟨fun b o e n _ _ => k b o (off b o e n) e, fun b o e n _ _ => ⟨o.slots, k b o (off b o e n) e⟩, fun b o e n _ => by rw [same b (off b o e n)]; exact n, fun b o e _ => ?_, fun b xs e => ?_, fun b o u e => ?_, fun b ps e => ?_⟩ fun b u e => ?_
  · by_cases z : S b
    · exact there b o z e
    · exact ⟨o, k b o z e⟩
  · rw [same b (out b _ e fun _ z => nomatch z)]; exact e
  · rw [same b (out b _ e fun _ z => nomatch z)]; exact e
  · exact ⟨#[], by rw [same b (out b _ e fun _ z => nomatch z), Array.append_empty]; exact e⟩
  · by_cases z : S b
    · exact new b u z e
    · rw [same b z] at e
      refine (I.hok b u e).stay (fun c v hc q => k c v ?_ q) (fun c q => ?_) fun c xs q => ?_
      · rcases hc with rfl | hc
        · exact z
        · exact out c _ hc fun _ z => nomatch z
      · rw [same c (out c _ q fun _ z => nomatch z)]; exact q
      · rw [same c (out c _ q fun _ z => nomatch z)]; exact q
end
end L2
namespace L2
open PySem PySem.Spec PyProof.Rows
end L2
namespace L2
open PySem PySem.Spec PyProof.Rows
end L2
namespace L2
open PySem PySem.Spec PyProof.Rows
structure XMk (K : PySem.W.Frag) (mg : Str → Option Value) (x : Str) (C f : Addr) : Prop where
  mg : mg x = some (.ref C)
  ex : excIn2 K C [.type "ValueError", .type "Exception", .type "BaseException", .type "object"] "ValueError.__new__" f = true
  fn : PySem.W.typeIn K (.ref f) = some (.type "function")
  kp : PySem.W.keepIn K (.ref C)
      = true
structure XTry (K : PySem.W.Frag) (mg : Str → Option Value) (x : Str) (C : Addr) : Prop where
  mg : mg x = some (.ref C)
  nm : XNamed K C [.type "ValueError", .type "Exception", .type "BaseException", .type "object"]
  isi : XIsi K C
end L2
namespace L2
open PySem PySem.Spec PyProof.Rows
end L2
namespace L2
open PySem PySem.Spec PyProof.Rows
noncomputable def isi_strD : Dat → M Dat
  | .str _ => .ok (.bl true)
  | .ins _ _ => stk
  | .dic _ => stk
  | _ => .ok (.bl false)
section
variable {X : Cx} {K : PySem.W.Frag} {W : Wish} {own : Bool} {a : Expr} {fa : Env' → M Dat} {pos p p2 : Pos}
theorem c_isi_str (kit : Kit K) (hK : X.K = K := by rfl) : CallR X (.builtin "isinstance") (fun xs H Q => ∃ v, xs = [v, .ty "str"] ∧ rD1 K W own isi_strD v H Q) := by
  subst hK
  intro pins s σ H xs us Q I r h; obtain ⟨v, rfl, F, d, s1, q, p⟩ := h
  obtain ⟨u, w, rfl, ru, rw'⟩ := r.two
  cases (show w = Value.type "str" from rw')
  by_cases hi : (∃ C fs, d = .ins C fs) ∨ ∃ ks, d = .dic ks
  · rcases hi with ⟨C, fs, rfl⟩ | ⟨ks, rfl⟩ <;> exact Post.stuck p
  · refine isi_D I s1 q ru kit.q_int_str kit.q_bool_str kit.q_list_str kit.q_tuple_str kit.q_str_str kit.q_NoneType_str (fun k tk hk => ⟨.bl k, H, I.tok tk, rfl, ?_⟩) (fun C fs e => hi (.inl ⟨C, fs, e⟩)) (fun ks e => hi (.inr ⟨ks, e⟩))
    cases d <;> first | (have hk' : k = _ := hk; subst hk'; exact Post.bl (own := own) p s1) | exact absurd (.inl ⟨_, _, rfl⟩) hi | exact absurd (.inr ⟨_, rfl⟩) hi
theorem de_isi_str (kit : Kit K) (hm : X.mg "isinstance" = none) (hmT : X.mg "str" = none) (ha : DE K W false X a fa) (hK : X.K = K := by rfl)
    (hg : Gl X "isinstance" := by rfl) (hgT : Gl X "str" := by rfl)
    (hst : starEach [a, .Name "str" p2] X.env = [(false, eval a X.env), (false, eval (.Name "str" p2) X.env)] := by rfl) (hst2 : starEach [.Name "str" p2] X.env = [(false, eval (.Name "str" p2) X.env)] := by rfl) (hpl : (backTo pos (starEach [.Name "str" p2] X.env)).any (·.1) = false := by rfl) :
    DE K W own X (.Call (.Name "isinstance" p) [a, .Name "str" p2] [] pos) (f1 isi_strD fa) := de_isi (c_isi_str kit hK) hm hmT (by decide +kernel) ha hg hgT (by decide) (by decide) hst hst2 hpl
end
end L2
namespace L2
open PySem PySem.Spec PyProof.Rows
noncomputable def rIsi (K : PySem.W.Frag) (C a : Addr) (R : Hp → Prop) : List V → Hp → VK → Prop := fun xs H Q => R H ∧ ∃ v b, xs = [.ref a, v] ∧
    ((∃ c, RelV v c ∧ (∀ u, RelV v u → u = c) ∧ PySem.W.kitOne K (.ref C) c = some b) ∨ ∃ (tp : Addr) (ys : List Addr), v = .ref tp ∧ H tp = some (.tup (ys.map V.ref)) ∧ PySem.W.kitAny K (.ref C) (ys.map Value.ref) = some b) ∧ Q (.bl b) H
noncomputable def XDk (d : Addr) : Hp → Prop := fun H => ∃ gs, H d = some (.xd gs)
noncomputable def tIsiR (i : Nat) (a : Addr) (R : Hp → Prop) (b : Bool) : TE := fun σ H Q => σ[i]? = some (some (.ref a)) ∧ R H ∧ Q (.bl b) H
noncomputable def tIsiTR (i : Nat) (a : Addr) (R : Hp → Prop) (ys : List Addr) (b : Bool) : TE := fun σ H Q => σ[i]? = some (some (.ref a)) ∧ ∀ p, H p = none → R (upd H p (.tup (ys.map V.ref))) ∧ Q (.bl b) (upd H p (.tup (ys.map V.ref)))
section
variable {X : Cx} {C a d D : Addr} {oe : Obj} {B : String} {bmB : List Value} {R : Hp → Prop}
theorem c_isiD (FB : ExcAttrBase B bmB) (Z : XIsi X.K C) (hc : oe.cls = .ref C) (hd : ∃ vs, oe.data = .fields vs) (hx : oe.dict = some d) : CallR (X.hand a oe) (.builtin "isinstance") (rIsi X.K C a (XDk d)) := by
  intro pins s σ H xs us Q I r h; obtain ⟨⟨gs, hg⟩, v, b, rfl, h1, q⟩ := h
  obtain ⟨u, w, rfl, ru, rw'⟩ := r.two
  cases (show u = Value.ref a from ru)
  have pa := (I.pin (a, oe) (List.mem_cons_self ..)).1
  obtain ⟨vs, hdt⟩ := hd
  obtain ⟨mA, ⟨od, es, ep, ho, hrest⟩, _⟩ := (show ObjOk X.prog X.w H s.heap d (.xd gs) from I.hok d _ hg)
  have J : PySem.W.InstAt s.heap a oe C (some od) := ⟨pa, hc, by unfold PySem.W.notCls; rw [hdt], by rw [hx]; exact ho⟩
  rcases h1 with ⟨c, rc, uniq, e⟩ | ⟨tp, ys, rfl, ht, e⟩
  · cases uniq w rw'
    exact PySem.W.kia_one (kitx_exc FB Z) I.kIn J e (fun z => nomatch z) fun tk => ⟨.bl b, H, I.tok tk, rfl, q⟩
  · cases (show w = Value.ref tp from rw')
    obtain ⟨_, its, rv, ob, z1, z2⟩ := (show ObjOk X.prog X.w H s.heap tp (.tup (ys.map V.ref)) from I.hok tp _ ht)
    obtain ⟨z3, n, z4⟩ := z2
    have ei : its = ys.map Value.ref := refs_are rv
    subst ei
    obtain ⟨oc, odd, odt, osl⟩ := ob
    have z5 : oc = Value.type "tuple" := z3
    have z6 : odt = .seq (ys.map Value.ref).toArray n := z4
    subst z5 z6
    exact PySem.W.kia_tup (kitx_exc FB Z) I.kIn J z1 e (fun z => nomatch z) fun tk => ⟨.bl b, H, I.tok tk, rfl, q⟩
end
section
variable {X : Cx} {C a D : Addr} {oe : Obj} {R : Hp → Prop} {i : Nat} {n y : Str} {T : String} {p p1 p2 pos : Pos} {b : Bool} {ys : List Addr} {es : List Expr}
theorem pe_isO (hcr : CallR (X.hand a oe) (.builtin "isinstance") (rIsi X.K C a R)) (hm : X.mg "isinstance" = none) (hD : X.mg y = some (.ref D)) (hb : PySem.W.kitOne X.K (.ref C) (.ref D) = some b)
    (hN : X.N[i]? = some n := by rfl) (hv : Vis X.env.scope n := by first | exact Or.inl rfl | exact Or.inr (Or.inl rfl) | exact Or.inr (Or.inr rfl)) (hd1 : (n == ("__debug__" : Str)) = false := by decide) (hd2 : (n == ("__classdict__" : Str)) = false := by decide)
    (hg : Gl (X.hand a oe) "isinstance" := by rfl) (hgD : Gl (X.hand a oe) y := by rfl) (hd3 : (y == ("__debug__" : Str)) = false := by decide)
    (hst : starEach [.Name n p1, .Name y p2] X.env = [(false, eval (.Name n p1) X.env), (false, eval (.Name y p2) X.env)] := by rfl) (hst2 : starEach [.Name y p2] X.env = [(false, eval (.Name y p2) X.env)] := by rfl) (hpl : (backTo pos (starEach [.Name y p2] X.env)).any (·.1) = false := by rfl) :
    PE (X.hand a oe) (.Call (.Name "isinstance" p) [.Name n p1, .Name y p2] [] pos) (tIsiR i a R b) := by
  have vD : PE (X.hand a oe) (.Name y p2) (tC (.ref D)) := fun pins s σ H Q I h => ld_glob I hgD hD ⟨.ref D, H, I, rfl, h⟩ hd3
  refine PE.imp (pe_callB (X := X.hand a oe) hcr hg hm boot_isinstance (pa_cons (pv i hN hv hd1 hd2) (pa_cons vD pa_nil hst2) (by rw [hst, hst2])) (by decide) (by decide) (by rw [hst, hst2]) hpl) fun σ H Q h => ?_
  obtain ⟨e1, hR, q⟩ := h
  exact ⟨.ref a, e1, hR, .ref D, b, rfl, .inl ⟨.ref D, rfl, fun u hu => hu, hb⟩, q⟩
theorem pe_isB (hcr : CallR (X.hand a oe) (.builtin "isinstance") (rIsi X.K C a R)) (hm : X.mg "isinstance" = none) (hmT : X.mg y = none) (hvT : bootBuiltins y = some (.type T)) (hb : PySem.W.kitOne X.K (.ref C) (.type T) = some b)
    (hN : X.N[i]? = some n := by rfl) (hv : Vis X.env.scope n := by first | exact Or.inl rfl | exact Or.inr (Or.inl rfl) | exact Or.inr (Or.inr rfl)) (hd1 : (n == ("__debug__" : Str)) = false := by decide) (hd2 : (n == ("__classdict__" : Str)) = false := by decide)
    (hg : Gl (X.hand a oe) "isinstance" := by rfl) (hgT : Gl (X.hand a oe) y := by rfl) (hy : y ≠ "__name__" := by decide) (hd3 : (y == ("__debug__" : Str)) = false := by decide)
    (hst : starEach [.Name n p1, .Name y p2] X.env = [(false, eval (.Name n p1) X.env), (false, eval (.Name y p2) X.env)] := by rfl) (hst2 : starEach [.Name y p2] X.env = [(false, eval (.Name y p2) X.env)] := by rfl) (hpl : (backTo pos (starEach [.Name y p2] X.env)).any (·.1) = false := by rfl) :
    PE (X.hand a oe) (.Call (.Name "isinstance" p) [.Name n p1, .Name y p2] [] pos) (tIsiR i a R b) := by
  refine PE.imp (pe_callB (X := X.hand a oe) hcr hg hm boot_isinstance (pa_cons (pv i hN hv hd1 hd2) (pa_cons (pe_tyN (X := X.hand a oe) (pos := p2) hgT hmT hvT hy hd3) pa_nil hst2) (by rw [hst, hst2])) (by decide) (by decide) (by rw [hst, hst2]) hpl) fun σ H Q h => ?_
  obtain ⟨e1, hR, q⟩ := h
  exact ⟨.ref a, e1, hR, .ty T, b, rfl, .inl ⟨.type T, rfl, fun u hu => hu, hb⟩, q⟩
theorem pe_isT {j} (hcr : CallR (X.hand a oe) (.builtin "isinstance") (rIsi X.K C a R)) (hm : X.mg "isinstance" = none) (hT : PA (X.hand a oe) es (tRefs ys)) (hl : ys.length ≤ sizeLine) (hb : PySem.W.kitAny X.K (.ref C) (ys.map Value.ref) = some b)
    (hN : X.N[i]? = some n := by rfl) (hv : Vis X.env.scope n := by first | exact Or.inl rfl | exact Or.inr (Or.inl rfl) | exact Or.inr (Or.inr rfl)) (hd1 : (n == ("__debug__" : Str)) = false := by decide) (hd2 : (n == ("__classdict__" : Str)) = false := by decide)
    (hg : Gl (X.hand a oe) "isinstance" := by rfl)
    (hst : starEach [.Name n p1, .Tuple es j p2] X.env = [(false, eval (.Name n p1) X.env), (false, eval (.Tuple es j p2) X.env)] := by rfl) (hst2 : starEach [.Tuple es j p2] X.env = [(false, eval (.Tuple es j p2) X.env)] := by rfl) (hpl : (backTo pos (starEach [.Tuple es j p2] X.env)).any (·.1) = false := by rfl) :
    PE (X.hand a oe) (.Call (.Name "isinstance" p) [.Name n p1, .Tuple es j p2] [] pos) (tIsiTR i a R ys b) := by
  refine PE.imp (pe_callB (X := X.hand a oe) hcr hg hm boot_isinstance (pa_cons (pv i hN hv hd1 hd2) (pa_cons (pe_tup hT) pa_nil hst2) (by rw [hst, hst2])) (by decide) (by decide) (by rw [hst, hst2]) hpl) fun σ H Q h => ?_
  obtain ⟨e1, q⟩ := h
  exact ⟨.ref a, e1, by rw [List.length_map]; exact hl, fun tp htp => ⟨(q tp htp).1, .ref tp, b, rfl, .inr ⟨tp, ys, rfl, upd_same, hb⟩, (q tp htp).2⟩⟩
end
end L2
namespace L2
open PySem PySem.Spec PyProof.Rows
end L2
namespace L2
open PySem PySem.Spec PyProof.Rows
structure Yd (P : Program) (w : World) (K : PySem.W.Frag) (mg : Str → Option Value) (base : Heap) (CX : CXT) (k : Nat) (x : Str) (st : Stmt) (ps : List Str) (sp : Sp) (f : Addr) (fd : FuncData) : Prop where
  d : Def K mg x st ps f fd
  o : FnOk P w K mg base CX k f fd ps sp
end L2
namespace L2
open PySem PySem.Spec PyProof.Rows
section
open PySem.W
variable {M : Model} {A : Around} {E : Value → Shared → Prop} {h : Heap} {g : Array GenState} {d : Drawn} {t : Nat} {os : OsState} {a C Cb : Addr} {oe : Obj} {K : Frag}
end
structure XUnder (K : PySem.W.Frag) (C Cb : Addr) : Prop where
  sub : PySem.W.mroIn K C (.ref Cb) = some true
  isi : XIsi K C
structure XBase (K : PySem.W.Frag) (mg : Str → Option Value) (x : Str) (Cb : Addr) : Prop where
  mg : mg x = some (.ref Cb)
  ty : PySem.W.typeIn K (.ref Cb) = some (.type "type")
  bs : PySem.W.mroIn K Cb (.type "BaseException") = some true
noncomputable def XR : Option Addr → Hp → Prop
  | none => fun _ => True
  | some d => XDk d
section
variable {X : Cx} {C a : Addr} {oe : Obj} {B : String} {bmB : List Value}
theorem c_isiA (FB : ExcAttrBase B bmB) (Z : XIsi X.K C) (hc : oe.cls = .ref C) (hd : ∃ vs, oe.data = .fields vs) : CallR (X.hand a oe) (.builtin "isinstance") (rIsi X.K C a (XR oe.dict)) := by
  cases hx : oe.dict with
  | none => exact fun pins s σ H xs us Q I r h => c_isiX FB Z hc hd hx pins s σ H xs us Q I r h.2
  | some d => exact c_isiD FB Z hc hd hx
end
structure XTell (K : PySem.W.Frag) (C : Addr) (A1 A2 A3 : Addr) (T : String) (ys : List Addr) (bs : List Bool) : Prop where
  ex : ∃ b1 b2 b3 b4 b5, bs = [b1, b2, b3, b4, b5] ∧ PySem.W.kitOne K (.ref C) (.ref A1) = some b1 ∧ PySem.W.kitOne K (.ref C) (.ref A2) = some b2 ∧ PySem.W.kitOne K (.ref C) (.ref A3) = some b3 ∧ PySem.W.kitOne K (.ref C) (.type T) = some b4 ∧ PySem.W.kitAny K (.ref C) (ys.map Value.ref) = some b5
structure XTxt (K : PySem.W.Frag) (mg : Str → Option Value) (x : Str) (C : Addr) : Prop where
  mg : mg x = some (.ref C)
  ex : PySem.W.excIn K C [.type "ValueError", .type "Exception", .type "BaseException", .type "object"] "ValueError.__new__" = true
end L2
namespace L2
open PySem PySem.Spec PyProof.Rows
section
open PySem.W
variable {M : Model} {A : Around} {E : Value → Shared → Prop} {h : Heap} {g : Array GenState} {d : Drawn} {t : Nat} {os : OsState} {a C Cb : Addr} {oe : Obj} {K : Frag}
end
structure XTwo (K : PySem.W.Frag) (mg : Str → Option Value) (c1 c2 : Str) (C1 C2 : Addr) : Prop where
  b1 : XBase K mg c1 C1
  b2 : XBase K mg c2 C2
  isi : XIsi K C1
  s1 : PySem.W.mroIn K C1 (.ref C1) = some true
  s2 : PySem.W.mroIn K C2 (.ref C2) = some true
  no : PySem.W.mroIn K C2 (.ref C1) = some false
end L2
namespace L2
open PySem PySem.Spec PyProof.Rows
end L2
namespace L2
open PySem PySem.Spec PyProof.Rows
section
open PySem.SetTable
noncomputable def Rise (xs : List Nat) : Prop := xs.Pairwise (· < ·)
theorem Rise.get {xs : List Nat} (h : Rise xs) {i j x y : Nat} (hij : i < j) (hx : xs[i]? = some x) (hy : xs[j]? = some y) : x < y := by
  obtain ⟨h1, e1⟩ := List.getElem?_eq_some_iff.mp hx
  obtain ⟨h2, e2⟩ := List.getElem?_eq_some_iff.mp hy
  have := List.pairwise_iff_getElem.mp h i j h1 h2 hij
  omega
theorem Rise.arr {xs : Array Nat} (h : Rise xs.toList) {i j x y : Nat} (hij : i < j) (hx : xs[i]? = some x) (hy : xs[j]? = some y) : x < y :=
  h.get hij (by rw [Array.getElem?_toList]; exact hx) (by rw [Array.getElem?_toList]; exact hy)
theorem below_go {xs : Array Nat} {j : Nat} (h : Rise xs.toList) : ∀ (f lo hi : Nat), hi - lo ≤ f → lo ≤ hi → hi ≤ xs.size → (∀ i x, i < lo → xs[i]? = some x → x < j) → (∀ i x, hi ≤ i → xs[i]? = some x → j ≤ x) →
    below.go xs j f lo hi ≤ xs.size ∧ (∀ i x, i < below.go xs j f lo hi → xs[i]? = some x → x < j) ∧ ∀ i x, below.go xs j f lo hi ≤ i → xs[i]? = some x → j ≤ x
  | 0, lo, hi, h1, h2, h3, ha, hb => by
    unfold below.go
    have : lo = hi := by omega
    subst this
    exact ⟨h3, ha, hb⟩
  | f + 1, lo, hi, h1, h2, h3, ha, hb => by
    unfold below.go
    by_cases hlt : lo < hi
    · rw [if_pos hlt]
      dsimp only
      have hm : (lo + hi) / 2 < xs.size := by omega
      have eg : xs[(lo + hi) / 2]? = some (xs[(lo + hi) / 2]'hm) := Array.getElem?_eq_getElem hm
      have ed : xs.getD ((lo + hi) / 2) j = xs[(lo + hi) / 2]'hm := by simp [Array.getD, hm]
      rw [ed]
      by_cases hc : xs[(lo + hi) / 2]'hm < j
      · rw [if_pos hc]
        refine below_go h f _ hi (by omega) (by omega) h3 (fun i x hi' hx => ?_) hb
        by_cases hi2 : i = (lo + hi) / 2
        · subst hi2; rw [eg] at hx; cases hx; exact hc
        · have := h.arr (i := i) (j := (lo + hi) / 2) (by omega) hx eg
          omega
      · rw [if_neg hc]
        refine below_go h f lo _ (by omega) (by omega) (by omega) ha (fun i x hi' hx => ?_)
        by_cases hi2 : i = (lo + hi) / 2
        · subst hi2; rw [eg] at hx; cases hx; omega
        · have := h.arr (i := (lo + hi) / 2) (j := i) (by omega) eg hx
          omega
    · rw [if_neg hlt]
      have : lo = hi := by omega
      subst this
      exact ⟨h3, ha, hb⟩
theorem below_ok {xs : Array Nat} (h : Rise xs.toList) (j : Nat) : below xs j ≤ xs.size ∧ (∀ i x, i < below xs j → xs[i]? = some x → x < j) ∧ ∀ i x, below xs j ≤ i → xs[i]? = some x → j ≤ x :=
  below_go h xs.size 0 xs.size (by omega) (by omega) (by omega) (fun i x hi => by omega) fun i x hi hx => by
    have := (Array.getElem?_eq_some_iff.mp hx).1
    omega
noncomputable def TOk (b : Bool) (t : SetTable) : Prop := Rise t.place.toList ∧ t.led = b
end
section
open PySem
variable {prog : Program} {w : World} {A : Around} {E : Value → Shared → Prop} {s : Shared}
theorem key_is {v : Value} {k : Int} (h : (intKind prog w).is k v = true) : ∃ t, v = .int k t := Value.isInt_shape h
end
section
open PySem
variable {prog : Program} {w : World} {A : Around} {R : Result → Shared → Prop} {I : Addr} {fp wr : List Addr} {G : Array GenState → Array GenState → Prop} {n : Nat} {P : Nat → Value → Prop} {St : Nat → Shared → Prop} {b : Bool}
end
section
open PySem
variable {prog : Program} {w : World} {A : Around} {E : Value → Shared → Prop} {s : Shared}
noncomputable abbrev ledOf (w : World) : Bool := !w.params.followText "set-order"
theorem new_iset (v : Value) {Q₁ : Value → Shared → Prop} (h : Q₁ (.ref s.heap.objs.size) { s with heap := s.heap.push { cls := .type "set", dict := none, data := .set #[] 0 (.fresh 0 0 (ledOf w)) } }) :
    codeAny (model prog w) A (.call (.builtin "set.__new__") ⟨[.type "set", v], []⟩) (wants Q₁ E) s := by
  refine codeAny_of_tree ?_
  show wpAny (model prog w) A.in1 (do checkBuiltinCall "set.__new__" ⟨[.type "set", v], []⟩; again (.builtin "set.__new__" ⟨[.type "set", v], []⟩)) _ _ s
  refine wpAny_bind (wpAny_of_eq (F.newCall_set_1 v) (wpAny_pure ⟨plainId_quiet F.plain_set_new _, codeAny_builtin F.entry_set_new ?_⟩)); rw [Around.under_plainId F.plain_set_new _]
  unfold Builtin.«set.__new__» Builtin.Frozenset.newClass
  have q := sub_set_self
  obtain ⟨hp, g, d, tk, os⟩ := s; dsimp only; wp_walk
  refine wpAny_askSetting (wpAny_pure ?_); dsimp only; simp only [newObj]
  exact wpAny_bind (wpAny_alloc (wpAny_pure (wpAny_pure h)))
end
section
open PySem
theorem owner_si : Manifest.owners.lookup (String.ofList ['r', 'o', 't', 'a', 'r', 'e', 't', 'i', '_', 't', 'e', 's'].reverse) = some Manifest.sig_set_iterator := by kernel_rfl
theorem slot_si_next : Slot "set_iterator" "__next__" "set_iterator.__next__" := .of (owner := "set_iterator") (n := "__next__") (by rw [typeLookup_type, builtinLookup_eq_fast]; kernel_rfl) (by decide +kernel) (by decide +kernel) (by decide +kernel) (by first | exact .inl (by decide +kernel) | exact .inr (by decide +kernel)) (by rw [isSubtype_type]; kernel_rfl)
theorem slot_si_iter : Slot "set_iterator" "__iter__" "set_iterator.__iter__" := .of (owner := "set_iterator") (n := "__iter__") (by rw [typeLookup_type, builtinLookup_eq_fast]; kernel_rfl) (by decide +kernel) (by decide +kernel) (by decide +kernel) (by first | exact .inl (by decide +kernel) | exact .inr (by decide +kernel)) (by rw [isSubtype_type]; kernel_rfl)
theorem entry_si_next : entryFor table "set_iterator.__next__" = some Builtin.«set_iterator.__next__» := entryFor_of_tree (by kernel_rfl)
theorem entry_si_iter : entryFor table "set_iterator.__iter__" = some Builtin.«dict_keyiterator.__iter__» := entryFor_alias (id' := "dict_keyiterator.__iter__") (by kernel_rfl) (by first | rfl | decide +kernel | (unfold String.splitOn; simp +decide [String.splitOnAux])) (by decide +kernel) (by kernel_rfl)
theorem entry_s_iter : entryFor table "set.__iter__" = some Builtin.«frozenset.__iter__» := entryFor_alias (id' := "frozenset.__iter__") (by kernel_rfl) rfl (by decide +kernel) (by kernel_rfl)
theorem args_si_next (v : Value) : argsOk "set_iterator.__next__" ⟨[v], []⟩ := by
  unfold argsOk; rw [signature?_of (id := "set_iterator.__next__") (n := ['_', '_', 't', 'x', 'e', 'n', '_', '_']) (o := ['r', 'o', 't', 'a', 'r', 'e', 't', 'i', '_', 't', 'e', 's']) (by kernel_rfl) owner_si]; kernel_rfl
theorem args_si_iter (v : Value) : argsOk "set_iterator.__iter__" ⟨[v], []⟩ := by
  unfold argsOk; rw [signature?_of (id := "set_iterator.__iter__") (n := ['_', '_', 'r', 'e', 't', 'i', '_', '_']) (o := ['r', 'o', 't', 'a', 'r', 'e', 't', 'i', '_', 't', 'e', 's']) (by kernel_rfl) owner_si]; kernel_rfl
noncomputable abbrev siObj (first : Value) (i : Nat) (a : Addr) (n ep : Nat) : Obj := { cls := .type "set_iterator", data := .fields #[first, rawInt i, .ref a, rawInt n, rawInt ep] }
noncomputable def SetAt (h : Heap) (a : Addr) (es : Array (Int × Value)) (ep : Nat) (t : SetTable) : Prop := ∃ o, h.get? a = some o ∧ o.data = .set es ep t
theorem si_set {h : Heap} {I : Addr} {vs : Array Value} (e : h.get? I = some { cls := .type "set_iterator", data := .fields vs }) (k : Nat) (v : Value) : (h.update I (Obj.mapFields (·.setIfInBounds k v))).get? I = some { cls := .type "set_iterator", data := .fields (vs.setIfInBounds k v) } := by
  have := Heap.get?_update_self (Obj.mapFields (·.setIfInBounds k v)) e rfl
  exact this
section
variable {prog : Program} {w : World} {A : Around} {E : Value → Shared → Prop} {s : Shared} {I a : Addr} {es : Array (Int × Value)} {ep n i : Nat} {t : SetTable}
theorem si_step {first : Value} {k : Nat} (e : s.heap.get? I = some (siObj first i a n ep)) (v : Value) : ((s.heap.update I (Obj.mapFields (·.setIfInBounds 0 v))).update I (Obj.mapFields (·.setIfInBounds 1 (rawInt k)))).get? I = some (siObj v k a n ep) := by
  have e1 := si_set e 0 v
  have e2 := si_set e1 1 (rawInt k)
  exact e2
theorem si_slot {sl : Nat} {x : Value} {nx : Nat} {Q : Option Value → Shared → Prop} (e : s.heap.get? I = some (siObj (rawInt sl) i a es.size ep)) (hS : SetAt s.heap a es ep t) (hf : t.fits es.size = true)
    (hN : ∀ {A' : Around} {E' : Value → Shared → Prop} {Q' : Option (Value × Nat) → Shared → Prop}, Q' (some (x, nx)) s → wpAny (model prog w) A' (setNext a sl i ep) Q' E' s)
    (h : ∀ h', h'.get? I = some (siObj (rawInt nx) (i + 1) a es.size ep) → Heap.SameBut I s.heap h' → Q (some x) { s with heap := h' }) : wpAny (model prog w) A (pyNext (.ref I)) Q E s := by
  obtain ⟨o, ho, hd⟩ := hS
  have ty : s.TypeIs (.ref I) "set_iterator" := ⟨_, e, rfl⟩
  unfold pyNext
  refine wpAny_bind (wpAny_attempt (wpAny_callSpecial?_slot (name := Str.ofString "__next__") ty slot_si_next (wpAny_call_entry slot_si_next ty entry_si_next ?_ (args_si_next _))))
  unfold Builtin.«set_iterator.__next__»
  refine wpAny_bind (wpAny_of_eq (a := (Value.ref I, [])) rfl (wpAny_bind (wpAny_fieldsOf e rfl ?_)))
  refine wpAny_bind (wpAny_setEntries_of ho hd hf ?_)
  rw [if_neg (by simp)]
  refine wpAny_bind (hN ?_)
  refine wpAny_bind (wpAny_setField e rfl (by simp) (wpAny_bind (wpAny_setField (si_set e 0 (rawInt nx)) rfl (by simp) (wpAny_pure ⟨x, rfl, wpAny_pure (h _ (si_step e (rawInt nx)) ?_)⟩))))
  exact (Heap.SameBut.update ..).trans (Heap.SameBut.update ..)
theorem si_slot_end {sl : Nat} {Q : Option Value → Shared → Prop} (hh : A.handled = none) (e : s.heap.get? I = some (siObj (rawInt sl) i a es.size ep)) (hS : SetAt s.heap a es ep t) (hf : t.fits es.size = true)
    (hN : ∀ {A' : Around} {E' : Value → Shared → Prop} {Q' : Option (Value × Nat) → Shared → Prop}, Q' none s → wpAny (model prog w) A' (setNext a sl i ep) Q' E' s)
    (h : ∀ h', Heap.ExtBut I s.heap h' → Q none { s with heap := h' }) : wpAny (model prog w) A (pyNext (.ref I)) Q E s := by
  obtain ⟨o, ho, hd⟩ := hS
  have ty : s.TypeIs (.ref I) "set_iterator" := ⟨_, e, rfl⟩
  unfold pyNext
  refine wpAny_bind (wpAny_attempt (wpAny_callSpecial?_slot (name := Str.ofString "__next__") ty slot_si_next (wpAny_call_entry slot_si_next ty entry_si_next ?_ (args_si_next _))))
  unfold Builtin.«set_iterator.__next__»
  refine wpAny_bind (wpAny_of_eq (a := (Value.ref I, [])) rfl (wpAny_bind (wpAny_fieldsOf e rfl ?_)))
  refine wpAny_bind (wpAny_setEntries_of ho hd hf ?_)
  rw [if_neg (by simp)]
  refine wpAny_bind (hN ?_)
  refine wpAny_bind (wpAny_setField e rfl (by simp) (wpAny_bind ?_))
  simp only [newExc, newTuple]
  refine wpAny_bind (wpAny_newObj_type ?_ (by size_fits))
  refine wpAny_bind (m := firstArgMember _ _) (wpAny_of_eq (a := Value.none) (by first | rfl | (simp only [firstArgMember]; rfl)) ?_)
  refine wpAny_newObj_type ?_ (by size_fits)
  simp only [raiseNew]
  refine wpAny_bind (wpAny_handled ?_)
  rw [show A.in1.handled = none from hh]
  refine wpAny_bind (wpAny_pure (wpAny_throw ?_))
  refine wpAny_bind (wpAny_isInstance (T := "StopIteration") (b := true) ⟨_, Heap.get?_push_size _ rfl, rfl⟩ isSubtype_stop (wpAny_pure (h _ ?_)))
  exact (((Heap.SameBut.update ..).extBut).push _).push _
end
end
section
open PySem
variable {prog : Program} {w : World} {A : Around} {E : Value → Shared → Prop} {s : Shared} {I a T : Addr} {es : Array (Int × Value)} {ep n i : Nat} {t : SetTable}
theorem si_self {first : Value} {Q : Value → Shared → Prop} (e : s.heap.get? I = some (siObj first i a n ep)) (h : Q (.ref I) s) : wpAny (model prog w) A (pyIter (.ref I)) Q E s := by
  have ty : s.TypeIs (.ref I) "set_iterator" := ⟨_, e, rfl⟩
  refine wpAny_pyIter_slot ty slot_si_iter (wpAny_call_entry slot_si_iter ty entry_si_iter ?_ (args_si_iter _))
  show wpAny (model prog w) A.in1 (ret (.ref I)) _ _ s
  exact wpAny_pure ⟨.ref I, rfl, "set_iterator", _, ty, slot_si_next.lookup, h⟩
theorem SetAt.at {h h' : Heap} (H : SetAt h a es ep t) (e : ∀ o, h.get? a = some o → h'.get? a = some o) : SetAt h' a es ep t := let ⟨o, ho, hd⟩ := H; ⟨o, e _ ho, hd⟩
theorem pick_perm {α : Type} (f : Nat → Nat) : ∀ (m k : Nat) (left : List α) (out : Array α), left.length = m → (pickOrder.go f m k left out).toList.Perm (out.toList ++ left)
  | 0, k, left, out, h => by
    unfold pickOrder.go
    rw [List.length_eq_zero_iff.mp h, List.append_nil]
  | m + 1, k, left, out, h => by
    unfold pickOrder.go
    have hl : f k % left.length < left.length := Nat.mod_lt _ (by omega)
    rw [List.getElem?_eq_getElem hl]
    dsimp only
    refine (pick_perm f m (k + 1) _ _ (by rw [List.length_eraseIdx, if_pos hl]; omega)).trans ?_
    rw [Array.toList_push, List.append_assoc]
    refine List.Perm.append (List.Perm.refl _) ?_
    have key : ∀ {β : Type} {l : List β} {i : Nat} (h : i < l.length), (l[i] :: l.eraseIdx i).Perm l := by
      intro β l
      induction l with
      | nil => intro i h; simp at h
      | cons x xs ih =>
        intro i h
        cases i with
        | zero => simp
        | succ i =>
          simp only [List.getElem_cons_succ, List.eraseIdx_cons_succ]
          exact (List.Perm.swap _ _ _).trans ((ih (by simpa using h)).cons _)
    exact key hl
theorem next_text {sl : Nat} {Q : Option (Value × Nat) → Shared → Prop} (hb : w.params.followText "set-order" = true) (hS : SetAt s.heap a es ep t) (hf : t.fits es.size = true) (h : Q (((pickOrder (w.params.setOrder a ep) es)[i]?).map fun e => (e.2, sl)) s) : wpAny (model prog w) A (setNext a sl i ep) Q E s := by
  obtain ⟨o, ho, hd⟩ := hS
  unfold setNext setsByText
  refine wpAny_bind (wpAny_setState_of ho hd hf (wpAny_bind (wpAny_bind (wpAny_askSetting (wpAny_pure ?_)))))
  dsimp only
  rw [if_pos (show (model prog w).w.params.followText "set-order" = true from hb), if_neg (by simp)]
  unfold setWalk setsByText
  refine wpAny_bind (wpAny_bind (wpAny_setState_of ho hd hf (wpAny_bind (wpAny_bind (wpAny_askSetting (wpAny_pure ?_))))))
  dsimp only
  rw [if_pos (show (model prog w).w.params.followText "set-order" = true from hb)]
  exact wpAny_bind (wpAny_askSetting (wpAny_pure (wpAny_pure h)))
theorem next_slot {sl : Nat} {Q : Option (Value × Nat) → Shared → Prop} (hb : w.params.followText "set-order" = false) (hdr : (!t.plain && decide (es.size > 1)) = false) (hled : t.led = true) (hS : SetAt s.heap a es ep t) (hf : t.fits es.size = true)
    (h : Q (match es[SetTable.below t.place sl]?, t.place[SetTable.below t.place sl]? with | some (_, x), some j => some (x, j + 1) | _, _ => none) s) : wpAny (model prog w) A (setNext a sl i ep) Q E s := by
  obtain ⟨o, ho, hd⟩ := hS
  unfold setNext setsByText
  refine wpAny_bind (wpAny_setState_of ho hd hf (wpAny_bind (wpAny_bind (wpAny_askSetting (wpAny_pure ?_)))))
  dsimp only
  rw [if_neg (show ¬ (model prog w).w.params.followText "set-order" = true from by rw [show (model prog w).w.params.followText "set-order" = false from hb]; exact Bool.false_ne_true)]
  refine (?_ : wpAny (model prog w) A (if (!t.plain && decide (es.size > 1)) = true then _ else _) Q E s)
  rw [hdr, if_neg Bool.false_ne_true]
  refine wpAny_bind (Q := Q) (m := if (!t.led && !es.isEmpty) = true then unsupported "set:maker-not-led" else pure ()) ?_
  rw [hled, Bool.not_true, Bool.false_and, if_neg Bool.false_ne_true]
  exact wpAny_pure (wpAny_pure h)
end
section
open PySem
variable {prog : Program} {w : World} {A : Around} {E : Value → Shared → Prop} {s : Shared} {I a T : Addr} {es : Array (Int × Value)} {ep n i : Nat} {t : SetTable}
theorem walk_text (hh : A.handled = none) (hb : w.params.followText "set-order" = true) (hf : t.fits es.size = true) (hne : a ≠ I) {ord : List (Int × Value)} (ho : (pickOrder (w.params.setOrder a ep) es).toList = ord) (hol : ord.length = es.size) :
    Walks prog w A I [I, a] [I] es.size (fun i v => (ord[i]?).map (·.2) = some v) (fun i h => SetAt h a es ep t ∧ h.get? I = some (siObj (rawInt 0) i a es.size ep)) where
  sub := fun b hb => by simp at hb; simp [hb]
  frame := fun _ _ _ x k => ⟨x.1.at fun o e => k a (by simp) o e, k I (by simp) _ x.2⟩
  item := fun i s Q E hi x hQ => by
    obtain ⟨v, ev⟩ : ∃ v, ord[i]? = some v := ⟨_, List.getElem?_eq_getElem (by omega)⟩
    have eg : (pickOrder (w.params.setOrder a ep) es)[i]? = some v := by rw [← Array.getElem?_toList, ho]; exact ev
    refine si_slot (sl := 0) (x := v.2) (nx := 0) x.2 x.1 hf (fun {A' E' Q'} q => next_text hb x.1 hf (by rw [eg]; exact q)) fun h' e' sb => ?_
    exact hQ v.2 h' s.toks (by rw [ev]; rfl) ⟨x.1.at fun o e => (sb.2 a hne).trans e, e'⟩ fun b o hb e => sb.extBut b o (fun z => hb (by simp [z])) e
  done := fun s Q E x hQ => by
    have eg : (pickOrder (w.params.setOrder a ep) es)[es.size]? = none := by rw [← Array.getElem?_toList, ho]; exact List.getElem?_eq_none (by omega)
    exact si_slot_end (sl := 0) hh x.2 x.1 hf (fun {A' E' Q'} q => next_text hb x.1 hf (by rw [eg]; exact q)) fun h' e => hQ h' s.toks fun b o hb eo => e b o (fun z => hb (by simp [z])) eo
  self := fun _ _ _ _ x hQ => si_self x.2 hQ
theorem below_zero {xs : Array Nat} (h : Rise xs.toList) : SetTable.below xs 0 = 0 := by
  obtain ⟨h1, h2, _⟩ := below_ok h 0
  rcases Nat.eq_zero_or_pos (SetTable.below xs 0) with z | z
  · exact z
  · have := h2 0 (xs[0]'(by omega)) z (Array.getElem?_eq_getElem (by omega))
    omega
theorem below_next {xs : Array Nat} (h : Rise xs.toList) {i j : Nat} (e : xs[i]? = some j) : SetTable.below xs (j + 1) = i + 1 := by
  obtain ⟨h1, h2, h3⟩ := below_ok h (j + 1)
  have hi := (Array.getElem?_eq_some_iff.mp e).1
  rcases Nat.lt_trichotomy (SetTable.below xs (j + 1)) (i + 1) with z | z | z
  · have := h3 i j (by omega) e
    omega
  · exact z
  · have e2 : xs[i + 1]? = some (xs[i + 1]'(by omega)) := Array.getElem?_eq_getElem (by omega)
    have g1 := h2 (i + 1) _ z e2
    have g2 := h.arr (i := i) (j := i + 1) (by omega) e e2
    omega
theorem walk_slot (hh : A.handled = none) (hb : w.params.followText "set-order" = false) (hdr : (!t.plain && decide (es.size > 1)) = false) (ht : TOk true t) (hf : t.fits es.size = true) (hne : a ≠ I) :
    Walks prog w A I [I, a] [I] es.size (fun i v => (es.toList[i]?).map (·.2) = some v) (fun i h => SetAt h a es ep t ∧ ∃ sl : Nat, h.get? I = some (siObj (rawInt sl) i a es.size ep) ∧ SetTable.below t.place sl = i) where
  sub := fun b hb => by simp at hb; simp [hb]
  frame := fun _ _ _ x k => ⟨x.1.at fun o e => k a (by simp) o e, let ⟨sl, e, h⟩ := x.2; ⟨sl, k I (by simp) _ e, h⟩⟩
  item := fun i s Q E hi x hQ => by
    obtain ⟨x1, sl, x2, hsl⟩ := x
    have hps : t.place.size = es.size := by simp only [SetTable.fits, Bool.and_eq_true, beq_iff_eq] at hf; exact hf.1
    have e1 : es[i]? = some (es[i]'hi) := Array.getElem?_eq_getElem hi
    have e2 : t.place[i]? = some (t.place[i]'(by omega)) := Array.getElem?_eq_getElem (by omega)
    refine si_slot (sl := sl) (x := (es[i]'hi).2) (nx := t.place[i]'(by omega) + 1) x2 x1 hf (fun {A' E' Q'} q => next_slot hb hdr ht.2 x1 hf (by rw [hsl, e1, e2]; exact q)) fun h' e' sb => ?_
    exact hQ _ h' s.toks (by rw [Array.getElem?_toList, e1]; rfl) ⟨x1.at fun o e => (sb.2 a hne).trans e, _, e', below_next ht.1 e2⟩ fun b o hb e => sb.extBut b o (fun z => hb (by simp [z])) e
  done := fun s Q E x hQ => by
    obtain ⟨x1, sl, x2, hsl⟩ := x
    have e1 : es[es.size]? = none := Array.getElem?_eq_none (Nat.le_refl _)
    exact si_slot_end (sl := sl) hh x2 x1 hf (fun {A' E' Q'} q => next_slot hb hdr ht.2 x1 hf (by rw [hsl, e1]; exact q)) fun h' e => hQ h' s.toks fun b o hb eo => e b o (fun z => hb (by simp [z])) eo
  self := fun _ _ _ _ x hQ => by obtain ⟨_, sl, x2, _⟩ := x; exact si_self x2 hQ
end
section
open PySem
variable {prog : Program} {w : World} {A : Around} {E : Value → Shared → Prop} {s : Shared} {a : Addr}
noncomputable def Begun (prog : Program) (w : World) (I a : Addr) (vs : List Value) (low : Nat) (h : Heap) : Prop :=
  ∃ (fp : List Addr) (St : Nat → Heap → Prop), (∀ A : Around, A.handled = none → Walks prog w A I fp [I] vs.length (fun i v => vs[i]? = some v) St) ∧ St 0 h ∧ ∀ c ∈ fp, c = a ∨ low ≤ c
theorem snd_at {ord : List (Int × Value)} {i : Nat} {v : Value} : ((ord.map (·.2))[i]? = some v) = ((ord[i]?).map (·.2) = some v) := by rw [List.getElem?_map]
theorem Walks.by {I : Addr} {fp wr : List Addr} {n m : Nat} {P P' : Nat → Value → Prop} {St : Nat → Heap → Prop} (W : Walks prog w A I fp wr n P St) (hn : n = m) (hP : ∀ i v, P' i v = P i v) : Walks prog w A I fp wr m P' St := by
  subst hn
  have : P' = P := funext fun i => funext fun v => hP i v
  rw [this]
  exact W
end
end L2
namespace L2
open PySem PySem.Spec PyProof.Rows
theorem boot_set : bootBuiltins "set" = some (.type "set") := by decide +kernel
section
open PySem.W
variable {prog : Program} {w : World} {A : Around} {E : Value → Shared → Prop} {s : Shared}
end
end L2
namespace L2
open PySem PySem.Spec PyProof.Rows
end L2
namespace L2
open PySem PySem.Spec PyProof.Rows
end L2
namespace L2
open PySem PySem.Spec PyProof.Rows
end L2
namespace L2
open PySem PySem.Spec PyProof.Rows
structure Abt (p : Addr) (F H F' H' : Hp) : Prop where
  ff : Same F F'
  fh : Same F' H'
  fp : F' p = none
  nw : ∀ b o, F' b = some o → F b = some o ∨ H b = none
  hh : ∀ c o, H c = some o → c ≠ p → H' c = some o
section
variable {X : Cx} {K : PySem.W.Frag} {own ro : Bool} {e o a : Expr} {es : List Expr} {x m : Str} {pos p apos : Pos} {f fo : Env' → M Dat} {fr : Env' → M (List Dat)} {C C2 : Addr} {E : XK} {CX : CXT}
end
end L2
namespace L2
open PySem PySem.Spec PyProof.Rows
noncomputable def isiC (tb : List (Addr × Bool)) : Dat → M Dat
  | .ins C _ => match tb.lookup C with
    | some b => .ok (.bl b)
    | none => stk
  | _ => stk
section
variable {X : Cx} {K : PySem.W.Frag} {W : Wish} {own : Bool} {a : Expr} {fa : Env' → M Dat} {pos p p2 : Pos} {y : Str} {D : Addr} {tb : List (Addr × Bool)}
theorem c_isiC (hT : ∀ C b, tb.lookup C = some b → (∃ x, Kls K X.mg x C) ∧ PySem.W.kitOne K (.ref C) (.ref D) = some b) (hK : X.K = K := by rfl) : CallR X (.builtin "isinstance") (fun xs H Q => ∃ v, xs = [v, .ref D] ∧ rD1 K W own (isiC tb) v H Q) := by
  subst hK
  intro pins s σ H xs us Q I r h
  obtain ⟨v, rfl, F, d, s1, q, p⟩ := h
  obtain ⟨u, w, rfl, ru, rw'⟩ := r.two
  cases (show w = Value.ref D from rw')
  cases d with
  | ins C fs =>
    cases hl : tb.lookup C with
    | none =>
      have p : Post X.K W own F H (match tb.lookup C with
        | some b => .ok (.bl b)
        | none => stk) Q := p
      rw [hl] at p
      exact Post.stuck p
    | some b =>
      have p : Post X.K W own F H (match tb.lookup C with
        | some b => .ok (.bl b)
        | none => stk) Q := p
      rw [hl] at p
      obtain ⟨⟨x, hk⟩, hb⟩ := hT C b hl
      obtain ⟨l, dx, gs, e1, ea, df⟩ := q
      subst e1
      exact isinst_ok I ru (hk.ty (s1 _ _ ea)) hb fun tk => ⟨.bl b, H, I.tok tk, rfl, Post.bl (own := own) p s1⟩
  | _ => exact Post.stuck p
theorem de_isiC (hT : ∀ C b, tb.lookup C = some b → (∃ x, Kls K X.mg x C) ∧ PySem.W.kitOne K (.ref C) (.ref D) = some b) (hm : X.mg "isinstance" = none) (hD : X.mg y = some (.ref D)) (ha : DE K W false X a fa) (hK : X.K = K := by rfl)
    (hg : Gl X "isinstance" := by rfl) (hgT : Gl X y := by rfl) (hd : (y == ("__debug__" : Str)) = false := by decide)
    (hst : starEach [a, .Name y p2] X.env = [(false, eval a X.env), (false, eval (.Name y p2) X.env)] := by rfl) (hst2 : starEach [.Name y p2] X.env = [(false, eval (.Name y p2) X.env)] := by rfl) (hpl : (backTo pos (starEach [.Name y p2] X.env)).any (·.1) = false := by rfl) :
    DE K W own X (.Call (.Name "isinstance" p) [a, .Name y p2] [] pos) (f1 (isiC tb) fa) :=
  (pe_callB (c_isiC hT hK) hg hm boot_isinstance (pa_cons ha (pa_cons (pe_glob (v := .ref D) (pos := p2) hgT hD rfl hd) pa_nil hst2) (by rw [hst, hst2])) (by decide) (by decide) (by rw [hst, hst2]) hpl).imp fun σ H Q h => by
    obtain ⟨F, ρ, r, s, q⟩ := rd_1 h
    refine ⟨F, ρ, r, s, ?_⟩
    cases e1 : fa ρ with
    | error z => rw [e1] at q; exact q
    | ok d => rw [e1] at q; exact fun v F' H' st z => ⟨v, rfl, q v F' H' st z⟩
end
end L2
namespace L2
open PySem PySem.Spec PyProof.Rows
end L2
namespace L2
open PySem PySem.Spec PyProof.Rows
end L2
namespace L2
open PySem PySem.Spec PyProof.Rows
noncomputable abbrev tKind (P : Program) (w : World) : HeapKind P w (List Int) := tupleKind (intKind P w)
theorem tints_are {P : Program} {w : World} : ∀ {k : List Int} {us : List Value}, Vals (k.map V.int) us → ItemsAre (intKind P w) k us
  | [], _, .nil => .nil
  | i :: k, _, .cons r t => by
    obtain ⟨t', rfl⟩ := (show ∃ t, _ = Value.int i t from r)
    exact .cons (by simp [intKind, Value.isInt]) (tints_are t)
theorem DeepK.length {K : PySem.W.Frag} {F : Hp} : ∀ {ks : List (List Int × Dat)} {xs : List DRow}, DeepK K F ks xs → xs.length = ks.length
  | [], _, h => by rw [show _ = [] from h]; rfl
  | (k, d) :: ks, _, ⟨b, v, r, e, t, q, z⟩ => by rw [e, List.length_cons, List.length_cons, DeepK.length z]
section
variable {X : Cx} {pins : List (Addr × Obj)} {σ : St} {H : Hp} {s : Shared} {a b : Addr} {xs : List DRow} {ep : Nat} {k : List Int}
theorem tkey_at (I : Inv X pins σ H s) (h : SqT X.K H b (k.map V.int)) : (tKind X.prog X.w).is s.heap k b := by
  obtain ⟨its, r, ⟨o, h1, h2, n, h3⟩, _⟩ := I.tuple h
  exact ⟨o, its.toArray, n, h1, h2, h3, by simpa using tints_are r⟩
theorem dic_ok (I : Inv X pins σ H s) (e : H a = some (DicO a xs ep)) : DicOk s.heap a xs ep := (show DicOk s.heap a xs ep ∧ _ from I.hok a _ e).1
end
end L2
namespace L2
open PySem PySem.Spec PyProof.Rows
end L2
namespace L2
open PySem PySem.Spec PyProof.Rows
end L2
namespace L2
open PySem PySem.Spec PyProof.Rows
end L2
namespace L2
open PySem PySem.Spec PyProof.Rows
end L2
namespace L2
open PySem PySem.Spec PyProof.Rows
section
open PySem
variable {prog : Program} {w : World} {A : Around} {E : Value → Shared → Prop}
end
section
open PySem
variable {prog : Program} {w : World} {A : Around} {E : Value → Shared → Prop} {R : Result → Shared → Prop}
end
end L2
namespace L2
open PySem PySem.Spec PyProof.Rows
section
open PySem
variable {prog : Program} {w : World} {A : Around} {E : Value → Shared → Prop} {s : Shared}
end
end L2
namespace L2
open PySem PySem.Spec PyProof.Rows
end L2
namespace L2
open PySem PySem.Spec PyProof.Rows
end L2
namespace L2
open PySem PySem.Spec PyProof.Rows
structure KitD (K : PySem.W.Frag) : Prop where
  i : PySem.W.kitOne K (.type "dict") (.type "int") = some false
  b : PySem.W.kitOne K (.type "dict") (.type "bool") = some false
noncomputable def isi_intE : Dat → M Dat
  | .int _ => .ok (.bl true)
  | .bl _ => .ok (.bl true)
  | .ins _ _ => stk
  | _ => .ok (.bl false)
noncomputable def isi_boolE : Dat → M Dat
  | .bl _ => .ok (.bl true)
  | .ins _ _ => stk
  | _ => .ok (.bl false)
section
variable {X : Cx} {K : PySem.W.Frag} {W : Wish} {own : Bool} {a : Expr} {p p2 pos : Pos} {fa : Env' → M Dat} {pins : List (Addr × Obj)} {σ : St} {F H : Hp} {s : Shared}
theorem isi_dic {T : String} {ks : List (List Int × Dat)} {x : V} {u : Value} {Q : Value → Shared → Prop} (I : Inv X pins σ H s) (hF : Same F H) (q : Deep X.K F (.dic ks) x) (r : RelV x u)
    (hd : PySem.W.kitOne X.K (.type "dict") (.type T) = some false) (h : ∀ tk, Q (.bool false) { s with toks := tk }) : wpAny (model X.prog X.w) X.A (call (.builtin "isinstance") [u, .type T]) Q X.xe s := by
  obtain ⟨l, xs, e, ⟨ep, t⟩, _⟩ := q
  subst e
  cases r
  obtain ⟨_, _, _, _, _, o, _, h1, h2, _⟩ := dic_ok I (hF _ _ t)
  exact PySem.W.kia_one PySem.W.kitx_dict I.kIn ⟨o, h1, h2.1⟩ hd (fun z => nomatch z) fun tk => h tk
theorem c_isi_intE (kit : Kit K) (kd : KitD K) (hK : X.K = K := by rfl) : CallR X (.builtin "isinstance") (fun xs H Q => ∃ v, xs = [v, .ty "int"] ∧ rD1 K W own isi_intE v H Q) := by
  intro pins s σ H xs us Q I r h
  obtain ⟨v, rfl, F, d, s1, q, p⟩ := h
  cases d with
  | dic ks =>
    subst hK
    obtain ⟨u, w, rfl, ru, rw'⟩ := r.two
    cases (show w = Value.type "int" from rw')
    exact isi_dic I s1 q ru kd.i fun tk => ⟨.bl false, H, I.tok tk, rfl, Post.bl (own := own) p s1⟩
  | _ => exact c_isi_int (W := W) (own := own) kit hK pins s σ H _ _ Q I r ⟨v, rfl, F, _, s1, q, p⟩
theorem c_isi_boolE (kit : Kit K) (kd : KitD K) (hK : X.K = K := by rfl) : CallR X (.builtin "isinstance") (fun xs H Q => ∃ v, xs = [v, .ty "bool"] ∧ rD1 K W own isi_boolE v H Q) := by
  intro pins s σ H xs us Q I r h
  obtain ⟨v, rfl, F, d, s1, q, p⟩ := h
  cases d with
  | dic ks =>
    subst hK
    obtain ⟨u, w, rfl, ru, rw'⟩ := r.two
    cases (show w = Value.type "bool" from rw')
    exact isi_dic I s1 q ru kd.b fun tk => ⟨.bl false, H, I.tok tk, rfl, Post.bl (own := own) p s1⟩
  | _ => exact c_isi_bool (W := W) (own := own) kit hK pins s σ H _ _ Q I r ⟨v, rfl, F, _, s1, q, p⟩
theorem de_isi_intE (kit : Kit K) (kd : KitD K) (hm : X.mg "isinstance" = none) (hmT : X.mg "int" = none) (ha : DE K W false X a fa) (hK : X.K = K := by rfl)
    (hg : Gl X "isinstance" := by rfl) (hgT : Gl X "int" := by rfl)
    (hst : starEach [a, .Name "int" p2] X.env = [(false, eval a X.env), (false, eval (.Name "int" p2) X.env)] := by rfl) (hst2 : starEach [.Name "int" p2] X.env = [(false, eval (.Name "int" p2) X.env)] := by rfl) (hpl : (backTo pos (starEach [.Name "int" p2] X.env)).any (·.1) = false := by rfl) :
    DE K W own X (.Call (.Name "isinstance" p) [a, .Name "int" p2] [] pos) (f1 isi_intE fa) := de_isi (c_isi_intE kit kd hK) hm hmT (by decide +kernel) ha hg hgT (by decide) (by decide) hst hst2 hpl
theorem de_isi_boolE (kit : Kit K) (kd : KitD K) (hm : X.mg "isinstance" = none) (hmT : X.mg "bool" = none) (ha : DE K W false X a fa) (hK : X.K = K := by rfl)
    (hg : Gl X "isinstance" := by rfl) (hgT : Gl X "bool" := by rfl)
    (hst : starEach [a, .Name "bool" p2] X.env = [(false, eval a X.env), (false, eval (.Name "bool" p2) X.env)] := by rfl) (hst2 : starEach [.Name "bool" p2] X.env = [(false, eval (.Name "bool" p2) X.env)] := by rfl) (hpl : (backTo pos (starEach [.Name "bool" p2] X.env)).any (·.1) = false := by rfl) :
    DE K W own X (.Call (.Name "isinstance" p) [a, .Name "bool" p2] [] pos) (f1 isi_boolE fa) := de_isi (c_isi_boolE kit kd hK) hm hmT (by decide +kernel) ha hg hgT (by decide) (by decide) hst hst2 hpl
end
end L2
namespace L2
open PySem PySem.Spec PyProof.Rows
end L2
namespace L2
open PySem PySem.Spec PyProof.Rows
noncomputable def geL : List Int → List Int → Bool
  | x :: xs, y :: ys => if x = y then geL xs ys else decide (y ≤ x)
  | xs, ys => decide (ys.length ≤ xs.length)
theorem cge_int {prog : Program} {w : World} {A : Around} {E Q : Value → Shared → Prop} {s : Shared} {a c : Int} {t t2 : Tok} (h : Q (.bool (decide (c ≤ a))) s) : wpAny (model prog w) A (richCompare .GtE (.int a t) (.int c t2)) Q E s := PyProof.Rows.ge_int h
theorem tup_ge (l b : Addr) (us vs : Array Value) (n n2 : Nat) (dd dd2 : Option Addr) (sl sl2 : Array (Option Value)) (xs ys : List Int) (hx : IntsAre us.toList xs) (hy : IntsAre vs.toList ys) :
    Meets (Builtin.«tuple.__ge__» ⟨[.ref l, .ref b], []⟩)
      (fun A R s => s.heap.get? l = some { cls := .type "tuple", dict := dd, data := .seq us n, slots := sl } ∧ s.heap.get? b = some { cls := .type "tuple", dict := dd2, data := .seq vs n2, slots := sl2 } ∧ R (.ok (.ret (.bool (geL xs ys)))) s) :=
  .of_wp fun prog w A R s h => by
    obtain ⟨hp, g, d, tk, os⟩ := s
    obtain ⟨hl, hb, h⟩ := h
    have f2 := AutoSeq1.sub_tuple_tuple
    wp_walk using wpAny_loadPart' hl, wpAny_loadPart' hb, wpAny_forIn_list _ (fun rest q s' => q.1 = none ∧ s' = ⟨hp, g, d, tk, os⟩ ∧ ∃ ps qs xs' ys', rest = List.zip ps qs ∧ IntsAre ps xs' ∧ IntsAre qs ys' ∧ xs'.length + ys.length = ys'.length + xs.length ∧ geL xs' ys' = geL xs ys) _
    case turn =>
      rintro ⟨y, x⟩ rest q s' ⟨hq, rfl, ps, qs, xs', ys', hz, hx', hy', hlen, hge⟩
      cases hx' with
      | nil => cases hz
      | cons a t hx' =>
        cases hy' with
        | nil => cases hz
        | cons c t2 hy' =>
          rw [List.zip_cons_cons] at hz
          cases hz
          refine wpAny_bind (SeqAt.EqAt.int_int a t c t2 prog w _ _ ?_)
          by_cases e : a = c
          · subst e
            rw [if_neg (by simp)]
            exact wpAny_pure ⟨rfl, rfl, _, _, _, _, rfl, hx', hy', by simp only [List.length_cons] at hlen; omega, by rw [← hge]; exact (if_pos rfl).symm⟩
          · rw [if_pos (by simp [e])]
            have z : geL xs ys = decide (c ≤ a) := by rw [← hge]; exact if_neg e
            rw [z] at h
            show wpAny _ _ (rule _ >>= fun _ => _) _ _ _
            refine wpAny_bind (wpAny_rule (wpAny_bind (cge_int ?_)))
            wp_walk
            exact ⟨_, rfl, h⟩
    case fin =>
      rintro ⟨b1, b2⟩ s' ⟨hb', rfl, ps, qs, xs', ys', hz, hx', hy', hlen, hge⟩
      simp only at hb'
      subst hb'
      wp_walk
      refine ⟨_, rfl, ?_⟩
      have z : geL xs ys = decide (us.size ≥ vs.size) := by
        rw [← hge]
        have e1 : us.size = xs.length := by rw [← hx.length]; rfl
        have e2 : vs.size = ys.length := by rw [← hy.length]; rfl
        rw [e1, e2]
        cases hx' with
        | nil =>
          show decide (ys'.length ≤ 0) = _
          exact decide_eq_decide.mpr ⟨fun z => by simp only [List.length_nil] at hlen; omega, fun z => by simp only [List.length_nil] at hlen; omega⟩
        | cons a t hx' =>
          cases hy' with
          | nil => show decide (0 ≤ _) = _; exact decide_eq_decide.mpr ⟨fun z => by simp only [List.length_nil, List.length_cons] at hlen; omega, fun z => Nat.zero_le _⟩
          | cons c t2 hy' => cases hz
      rw [z] at h
      exact h
    case h =>
      exact ⟨rfl, rfl, _, _, xs, ys, rfl, hx, hy, Nat.add_comm _ _, rfl⟩
theorem ints_vals : ∀ {ns : List Int} {us : List Value}, Vals (ns.map V.int) us → IntsAre us ns
  | [], _, .nil => .nil
  | i :: ns, _, .cons r t => by
    obtain ⟨t', rfl⟩ := (show ∃ t, _ = Value.int i t from r)
    exact .cons i t' (ints_vals t)
noncomputable def geM : Dat → Dat → M Dat
  | .tup ds, .tup es => (intsD ds).bind fun xs => (intsD es).bind fun ys => .ok (.bl (geL xs ys))
  | a, b => geD a b
@[simp] theorem e_geT (xs ys : List Int) : geM (.tup (xs.map .int)) (.tup (ys.map .int)) = .ok (.bl (geL xs ys)) := by
  show (intsD _).bind _ = _
  rw [intsD_map, bind_ok, intsD_map, bind_ok]
@[simp] theorem e_geMI (a b : Int) : geM (.int a) (.int b) = geD (.int a) (.int b) := id rfl
section
variable {X : Cx} {K : PySem.W.Frag} {W : Wish} {own : Bool}
theorem o_geM (hu : X.A.units + 64 < cLine) (hK : X.K = K := by rfl) : Op2 K W own X (compareOp .GtE) geM := by
  intro pins s σ H x y v u Q I rx ry h
  obtain ⟨F, a, b, s1, qa, qb, p⟩ := h
  by_cases ht : ∃ ds es, a = .tup ds ∧ b = .tup es
  · obtain ⟨ds, es, rfl, rfl⟩ := ht
    subst hK
    have p : Post X.K W own F H ((intsD ds).bind fun xs => (intsD es).bind fun ys => .ok (.bl (geL xs ys))) Q := p
    cases e1 : intsD ds with
    | error z => cases intsD_err e1; rw [e1] at p; exact Post.stuck p
    | ok ns =>
      rw [e1, bind_ok] at p
      cases e2 : intsD es with
      | error z => cases intsD_err e2; rw [e2] at p; exact Post.stuck p
      | ok ms =>
        rw [e2, bind_ok] at p
        obtain ⟨l1, xs, z1, h1, r1⟩ := qa
        subst z1
        cases rx
        obtain ⟨is, w1, p1, _⟩ := I.tuple (s1.tup h1)
        obtain ⟨l2, ys, z2, h2, r2⟩ := qb
        subst z2
        cases ry
        obtain ⟨js, w2, p2, _⟩ := I.tuple (s1.tup h2)
        rw [ints_deep r1 e1] at w1
        rw [ints_deep r2 e2] at w2
        obtain ⟨⟨cls, dd, data, sl⟩, ho, hc, n, hd⟩ := (show s.heap.IsTuple l1 is.toArray from p1)
        obtain ⟨⟨cls2, dd2, data2, sl2⟩, ho2, hc2, n2, hd2⟩ := (show s.heap.IsTuple l2 js.toArray from p2)
        simp only at hc hd hc2 hd2
        subst hc hd hc2 hd2
        exact richCompare_meets_room (op := .GtE) ⟨_, ho, rfl⟩ ⟨_, ho2, rfl⟩ PySem.F.slot_tuple_ge PySem.F.entry_tuple_ge (PySem.F.args_tuple_ge_2 _ _)
          (tup_ge l1 l2 is.toArray js.toArray n n2 dd dd2 sl sl2 ns ms (ints_vals w1) (ints_vals w2)) ⟨ho, ho2, (fun z => nomatch z), p.blS s1 I⟩ (by omega)
  · have e : geM a b = geD a b := by
      unfold geM
      split
      · exact absurd ⟨_, _, rfl, rfl⟩ ht
      · rfl
    rw [e] at p
    exact o_ge pins s σ H x y v u Q I rx ry ⟨F, a, b, s1, qa, qb, p⟩
end
end L2
namespace L2
open PySem PySem.Spec PyProof.Rows
section
open PySem.W hiding kindOf
noncomputable def gallop' : Bool → Keyed → Array Keyed → Nat → Nat → Nat → StateT SortSt Sem (Option Nat) := sortPriv% PySem.Builtin.gallop
noncomputable def mergeLo' : Array Keyed → Array Keyed → StateT SortSt Sem (Array Keyed) := sortPriv% PySem.Builtin.mergeLo
noncomputable def mergeHi' : Array Keyed → Array Keyed → StateT SortSt Sem (Array Keyed) := sortPriv% PySem.Builtin.mergeHi
variable {prog : Program} {w : World} {A : Around} {E : Value → Shared → Prop} {s : Shared} {κ : SortKind} {f : Nat → Keyed} {key : Nat → Int} {n : Nat}
noncomputable def LtOk (prog : Program) (w : World) (A : Around) (E : Value → Shared → Prop) (s : Shared) (κ : SortKind) (f : Nat → Keyed) (key : Nat → Int) (n : Nat) : Prop :=
  ∀ i j (Q : Option Bool → SortSt → Prop) st, i < n → j < n → kindOf st = κ → Q (some (ltK key i j)) st → wpS (model prog w) A E s (lt' (f i) (f j)) Q st
noncomputable def InN (n : Nat) (p : List Nat) : Prop := ∀ x ∈ p, x < n
theorem wpS_elem {l : List Nat} {i x : Nat} {Q : Keyed → SortSt → Prop} {st : SortSt} (hx : l[i]? = some x) (h : Q (f x) st) : wpS (model prog w) A E s (elem' (l.map f).toArray i) Q st := by
  rw [elem'_eq]
  have e : (l.map f).toArray[i]? = some (f x) := by simp [hx]
  rw [e]
  exact wpS_pure h
theorem wp_gallop (L : LtOk prog w A E s κ f key n) {left : Bool} {q : Nat} {p : List Nat} {base m hint : Nat} {st : SortSt} {Q : Option Nat → SortSt → Prop} (hq : q < n) (hp : InN n p) (hb : base + m ≤ p.length) (hh : hint < m) (hk : kindOf st = κ)
    (hs : ∀ i j, i ≤ j → j < m → key (p.getD (base + i) 0) ≤ key (p.getD (base + j) 0))
    (h : ∀ k, k ≤ m → (∀ i, i < k → (if left = true then ltK key (p.getD (base + i) 0) q else !ltK key q (p.getD (base + i) 0)) = true) → (∀ i, k ≤ i → i < m → (if left = true then ltK key (p.getD (base + i) 0) q else !ltK key q (p.getD (base + i) 0)) = false) → Q (some k) st) :
    wpS (model prog w) A E s (gallop' left (f q) (p.map f).toArray base m hint) Q st := by
  obtain ⟨bd, ebd⟩ : ∃ bd : Nat → Bool, bd = fun i => if left = true then ltK key (p.getD (base + i) 0) q else !ltK key q (p.getD (base + i) 0) := ⟨_, rfl⟩
  have h' : ∀ k, k ≤ m → (∀ i, i < k → bd i = true) → (∀ i, k ≤ i → i < m → bd i = false) → Q (some k) st := by rw [ebd]; exact h
  have mono : ∀ i j, i ≤ j → j < m → bd j = true → bd i = true := fun i j hij hj e => by
    have := hs i j hij hj
    rw [ebd] at e ⊢
    dsimp only at e ⊢
    unfold ltK at e ⊢
    cases left <;> simp [-List.getD_eq_getElem?_getD] at e ⊢ <;> omega
  have mono' : ∀ i j, i ≤ j → j < m → bd i = false → bd j = false := fun i j hij hj e => by
    cases ej : bd j with
    | false => rfl
    | true => rw [mono i j hij hj ej] at e; exact e
  have hby : ∀ (i : Nat) (R : Option Bool → SortSt → Prop), i < m → R (some (bd i)) st → wpS (model prog w) A E s (do
      let x ← elem' (p.map f).toArray (base + i)
      if left = true then lt' x (f q) else do
        let l ← lt' (f q) x
        pure (Option.map (fun b => !b) l)) R st := fun i R hi hr => by
    have hl : base + i < p.length := by omega
    have hx : p[base + i]? = some (p.getD (base + i) 0) := by simp [hl]
    have hxn : p.getD (base + i) 0 < n := hp _ (by rw [show p.getD (base + i) 0 = p[base + i] by simp [hl]]; exact List.getElem_mem hl)
    refine wpS_bind (wpS_elem hx ?_)
    rw [ebd] at hr
    dsimp only at hr
    cases left with
    | true => exact L _ _ _ _ hxn hq hk hr
    | false => exact wpS_bind (L _ _ _ _ hq hxn hk (wpS_pure hr))
  refine wpS_bind (hby hint _ hh ?_)
  dsimp only
  have bin : ∀ lo hi, lo ≤ hi → hi ≤ m → (∀ i, i < lo → bd i = true) → (∀ i, hi ≤ i → i < m → bd i = false) → ∀ {F : Nat → Option (Option Nat) × Nat × Nat → StateT SortSt Sem (ForInStep (Option (Option Nat) × Nat × Nat))}, (∀ x lo hi (R : ForInStep (Option (Option Nat) × Nat × Nat) → SortSt → Prop), lo ≤ hi → hi ≤ m → (lo ≥ hi → R (.done (none, lo, hi)) st) → (lo < hi → bd (lo + (hi - lo) / 2) = true → R (.yield (none, lo + (hi - lo) / 2 + 1, hi)) st) → (lo < hi → bd (lo + (hi - lo) / 2) = false → R (.yield (none, lo, lo + (hi - lo) / 2)) st) → wpS (model prog w) A E s (F x (none, lo, hi)) R st) →
      wpS (model prog w) A E s (forIn [0:m] (none, lo, hi) F) (fun c st' => st' = st ∧ ∃ lo k, c = (none, lo, k) ∧ Q (some k) st) st := fun lo hi h1 h2 h3 h4 F hF => by
    refine wpS_forRange (I := fun x c st' => st' = st ∧ ∃ lo hi, c = (none, lo, hi) ∧ lo ≤ hi ∧ hi ≤ m ∧ hi - lo + x ≤ m ∧ (∀ i, i < lo → bd i = true) ∧ (∀ i, hi ≤ i → i < m → bd i = false)) ?step ?fin ⟨rfl, lo, hi, rfl, h1, h2, by omega, h3, h4⟩
    case fin =>
      rintro c st' ⟨rfl, lo, hi, rfl, a1, a2, a3, a4, a5⟩
      have : lo = hi := by omega
      subst this
      exact ⟨rfl, _, _, rfl, h' lo a2 a4 a5⟩
    case step =>
      rintro x c st' _ hx ⟨rfl, lo, hi, rfl, a1, a2, a3, a4, a5⟩
      refine hF x lo hi _ a1 a2 (fun e => ?_) (fun e eb => ?_) (fun e eb => ?_)
      · have : lo = hi := by omega
        subst this
        exact ⟨rfl, _, _, rfl, h' lo a2 a4 a5⟩
      · exact ⟨rfl, _, _, rfl, by omega, a2, by omega, fun i hi' => mono i _ (by omega) (by omega) eb, a5⟩
      · exact ⟨rfl, _, _, rfl, by omega, by omega, by omega, a4, fun i h5 h6 => mono' _ i h5 h6 eb⟩
  cases hr : bd hint with
  | true =>
    simp only [if_true]
    refine wpS_bind (wpS_mono (wpS_forRange (I := fun x c st' => st' = st ∧ ∃ la o, c = (none, la, o) ∧ bd (hint + la) = true ∧ la < o ∧ la < m - hint ∧ x + 1 ≤ o)
      (Q := fun c st' => st' = st ∧ ∃ la o, c = (none, la, o) ∧ bd (hint + la) = true ∧ la < o ∧ la < m - hint ∧ (o < m - hint → bd (hint + o) = false)) ?step ?fin ⟨rfl, 0, 1, rfl, hr, by omega, by omega, by omega⟩) ?post)
    case fin =>
      rintro c st' ⟨rfl, la, o, rfl, a1, a2, a3, a4⟩
      exact ⟨rfl, la, o, rfl, a1, a2, a3, fun e => by omega⟩
    case step =>
      rintro x c st' _ hx ⟨rfl, la, o, rfl, a1, a2, a3, a4⟩
      dsimp only
      by_cases ho : o ≥ m - hint
      · rw [if_pos ho]
        exact wpS_pure ⟨rfl, la, o, rfl, a1, a2, a3, fun e => by omega⟩
      · rw [if_neg ho]
        refine wpS_bind (hby (hint + o) _ (by omega) ?_)
        dsimp only
        cases hm : bd (hint + o) with
        | false => exact wpS_pure ⟨rfl, la, o, rfl, a1, a2, a3, fun _ => hm⟩
        | true => exact wpS_pure ⟨rfl, o, 2 * o + 1, rfl, hm, by omega, by omega, by omega⟩
    case post =>
      rintro c st' ⟨rfl, la, o, rfl, a1, a2, a3, a4⟩
      dsimp only
      refine wpS_bind (wpS_mono (bin _ _ (by omega) (by omega) (fun i hi => mono i _ (by omega) (by omega) a1) (fun i h5 h6 => ?_) ?body) ?post2)
      · have hlt : o < m - hint := by omega
        exact mono' (hint + o) i (by omega) h6 (a4 hlt)
      case post2 =>
        rintro c st' ⟨rfl, lo, k, rfl, hQ⟩
        exact wpS_pure hQ
      case body =>
        intro x lo hi R b1 b2 r1 r2 r3
        dsimp only
        by_cases e : lo ≥ hi
        · rw [if_pos e]; exact wpS_pure (r1 e)
        · rw [if_neg e]
          refine wpS_bind (hby _ _ (by omega) ?_)
          cases hm : bd (lo + (hi - lo) / 2) with
          | true => exact wpS_pure (r2 (by omega) hm)
          | false => exact wpS_pure (r3 (by omega) hm)
  | false =>
    simp only [Bool.false_eq_true, if_false]
    refine wpS_bind (wpS_mono (wpS_forRange (I := fun x c st' => st' = st ∧ ∃ la o, c = (none, la, o) ∧ bd (hint - la) = false ∧ la < o ∧ la < hint + 1 ∧ x + 1 ≤ o)
      (Q := fun c st' => st' = st ∧ ∃ la o, c = (none, la, o) ∧ bd (hint - la) = false ∧ la < o ∧ la < hint + 1 ∧ (o < hint + 1 → bd (hint - o) = true)) ?step ?fin ⟨rfl, 0, 1, rfl, hr, by omega, by omega, by omega⟩) ?post)
    case fin =>
      rintro c st' ⟨rfl, la, o, rfl, a1, a2, a3, a4⟩
      exact ⟨rfl, la, o, rfl, a1, a2, a3, fun e => by omega⟩
    case step =>
      rintro x c st' _ hx ⟨rfl, la, o, rfl, a1, a2, a3, a4⟩
      dsimp only
      by_cases ho : o ≥ hint + 1
      · rw [if_pos ho]
        exact wpS_pure ⟨rfl, la, o, rfl, a1, a2, a3, fun e => by omega⟩
      · rw [if_neg ho]
        refine wpS_bind (hby (hint - o) _ (by omega) ?_)
        dsimp only
        cases hm : bd (hint - o) with
        | true => exact wpS_pure ⟨rfl, la, o, rfl, a1, a2, a3, fun _ => hm⟩
        | false => exact wpS_pure ⟨rfl, o, 2 * o + 1, rfl, hm, by omega, by omega, by omega⟩
    case post =>
      rintro c st' ⟨rfl, la, o, rfl, a1, a2, a3, a4⟩
      dsimp only
      refine wpS_bind (wpS_mono (bin _ _ (by omega) (by omega) (fun i hi => ?_) (fun i h5 h6 => mono' _ i h5 h6 a1) ?body) ?post2)
      · have hlt : o < hint + 1 := by omega
        exact mono i (hint - o) (by omega) (by omega) (a4 hlt)
      case post2 =>
        rintro c st' ⟨rfl, lo, k, rfl, hQ⟩
        exact wpS_pure hQ
      case body =>
        intro x lo hi R b1 b2 r1 r2 r3
        dsimp only
        by_cases e : lo ≥ hi
        · rw [if_pos e]; exact wpS_pure (r1 e)
        · rw [if_neg e]
          refine wpS_bind (hby _ _ (by omega) ?_)
          cases hm : bd (lo + (hi - lo) / 2) with
          | true => exact wpS_pure (r2 (by omega) hm)
          | false => exact wpS_pure (r3 (by omega) hm)
end
section
open PySem.W hiding kindOf
variable {prog : Program} {w : World} {A : Around} {E : Value → Shared → Prop} {s : Shared} {κ : SortKind} {f : Nat → Keyed} {key : Nat → Int} {n : Nat}
noncomputable def Srt (key : Nat → Int) (l : List Nat) : Prop := l.Pairwise fun x y => key x ≤ key y
theorem Srt.sub {l r : List Nat} (h : Srt key l) (hs : r.Sublist l) : Srt key r := List.Pairwise.sublist hs h
theorem wp_gal (L : LtOk prog w A E s κ f key n) {left : Bool} {q : Nat} {p : List Nat} {base m hint : Nat} {st : SortSt} {Q : Option Nat → SortSt → Prop} (hq : q < n) (hp : InN n p) (hb : base + m ≤ p.length) (hh : hint < m) (hk : kindOf st = κ)
    (hs : Srt key ((p.drop base).take m))
    (h : ∀ k, k ≤ m → (∀ x ∈ ((p.drop base).take m).take k, (if left = true then ltK key x q else !ltK key q x) = true) → (∀ x ∈ ((p.drop base).take m).drop k, (if left = true then ltK key x q else !ltK key q x) = false) → Q (some k) st) :
    wpS (model prog w) A E s (gallop' left (f q) (p.map f).toArray base m hint) Q st := by
  have hg : ∀ i (hi : i < m), ((p.drop base).take m)[i]? = some (p.getD (base + i) 0) := fun i hi => by
    rw [List.getElem?_take_of_lt hi, List.getElem?_drop]
    have : base + i < p.length := by omega
    simp [this]
  refine wp_gallop L hq hp hb hh hk (fun i j hij hj => ?_) fun k hk' h1 h2 => h k hk' (fun x hx => ?_) (fun x hx => ?_)
  · rcases Nat.lt_or_ge i j with hlt | hge
    · obtain ⟨hi', ei⟩ := List.getElem?_eq_some_iff.mp (hg i (by omega))
      obtain ⟨hj', ej⟩ := List.getElem?_eq_some_iff.mp (hg j hj)
      rw [← ei, ← ej]
      exact List.pairwise_iff_getElem.mp hs i j hi' hj' hlt
    · rw [show i = j by omega]; exact Int.le_refl _
  · obtain ⟨i, hi, ei⟩ := List.getElem_of_mem hx
    have hik : i < k := by simp at hi; omega
    have := hg i (by omega)
    rw [List.getElem_take] at ei
    obtain ⟨_, e2⟩ := List.getElem?_eq_some_iff.mp this
    rw [← ei, e2]
    exact h1 i hik
  · obtain ⟨i, hi, ei⟩ := List.getElem_of_mem hx
    have hik : k + i < m := by simp at hi; omega
    have := hg (k + i) hik
    rw [List.getElem_drop] at ei
    obtain ⟨_, e2⟩ := List.getElem?_eq_some_iff.mp this
    rw [← ei, e2]
    exact h2 (k + i) (by omega) hik
theorem wp_galD (L : LtOk prog w A E s κ f key n) {left : Bool} {q : Nat} {p : List Nat} {base hint : Nat} {st : SortSt} {Q : Option Nat → SortSt → Prop} (hq : q < n) (hp : InN n p) (hh : hint < p.length - base) (hk : kindOf st = κ)
    (hs : Srt key (p.drop base))
    (h : ∀ k, base + k ≤ p.length → (∀ x ∈ (p.drop base).take k, (if left = true then ltK key x q else !ltK key q x) = true) → (∀ x ∈ p.drop (base + k), (if left = true then ltK key x q else !ltK key q x) = false) → Q (some k) st) :
    wpS (model prog w) A E s (gallop' left (f q) (p.map f).toArray base (p.length - base) hint) Q st := by
  have e : (p.drop base).take (p.length - base) = p.drop base := List.take_of_length_le (by simp)
  refine wp_gal L hq hp (by omega) hh hk (by rw [e]; exact hs) fun k hk' h1 h2 => h k (by omega) ?_ ?_
  · rwa [e] at h1
  · rwa [e, List.drop_drop] at h2
structure MI (key : Nat → Int) (all out xs ys : List Nat) : Prop where
  perm : (out ++ (xs ++ ys)).Perm all
  so : Srt key out
  sx : Srt key xs
  sy : Srt key ys
  ox : ∀ x ∈ out, ∀ y ∈ xs, key x ≤ key y
  oy : ∀ x ∈ out, ∀ y ∈ ys, key x ≤ key y
theorem MI.left {all out u xs ys : List Nat} (h : MI key all out (u ++ xs) ys) (hu : ∀ a ∈ u, ∀ y ∈ ys, key a ≤ key y) : MI key all (out ++ u) xs ys := by
  obtain ⟨h1, h2, h3, h4, h5, h6⟩ := h
  unfold Srt at *
  rw [List.pairwise_append] at h3
  refine ⟨by rw [List.append_assoc, ← List.append_assoc u]; exact h1, ?_, h3.2.1, h4, fun x hx y hy => ?_, fun x hx y hy => ?_⟩
  · exact List.pairwise_append.mpr ⟨h2, h3.1, fun x hx y hy => h5 x hx y (List.mem_append_left _ hy)⟩
  · rcases List.mem_append.mp hx with e | e
    · exact h5 x e y (List.mem_append_right _ hy)
    · exact h3.2.2 x e y hy
  · rcases List.mem_append.mp hx with e | e
    · exact h6 x e y hy
    · exact hu x e y hy
theorem MI.right {all out u xs ys : List Nat} (h : MI key all out xs (u ++ ys)) (hu : ∀ a ∈ u, ∀ y ∈ xs, key a ≤ key y) : MI key all (out ++ u) xs ys := by
  obtain ⟨h1, h2, h3, h4, h5, h6⟩ := h
  unfold Srt at *
  rw [List.pairwise_append] at h4
  refine ⟨?_, ?_, h3, h4.2.1, fun x hx y hy => ?_, fun x hx y hy => ?_⟩
  · refine List.Perm.trans ?_ h1
    rw [List.append_assoc]
    refine List.Perm.append_left _ ?_
    rw [← List.append_assoc, ← List.append_assoc]
    exact List.Perm.append_right _ List.perm_append_comm
  · exact List.pairwise_append.mpr ⟨h2, h4.1, fun x hx y hy => h6 x hx y (List.mem_append_left _ hy)⟩
  · rcases List.mem_append.mp hx with e | e
    · exact h5 x e y hy
    · exact hu x e y hy
  · rcases List.mem_append.mp hx with e | e
    · exact h6 x e y (List.mem_append_right _ hy)
    · exact h4.2.2 x e y hy
theorem MI.done {all out xs ys : List Nat} (h : MI key all out xs ys) (hu : ∀ a ∈ xs, ∀ y ∈ ys, key a ≤ key y) : (out ++ xs ++ ys).Perm all ∧ Srt key (out ++ xs ++ ys) := by
  have h1 := MI.left (xs := []) (u := xs) (by rw [List.append_nil]; exact h) hu
  have h2 := MI.right (ys := []) (u := ys) (by rw [List.append_nil]; exact h1) (fun _ _ _ hy => absurd hy List.not_mem_nil)
  exact ⟨by have := h2.perm; simpa using this, h2.so⟩
theorem MI.done2 {all out xs ys : List Nat} (h : MI key all out xs ys) (hu : ∀ a ∈ ys, ∀ y ∈ xs, key a ≤ key y) : (out ++ ys ++ xs).Perm all ∧ Srt key (out ++ ys ++ xs) := by
  have h1 := MI.right (ys := []) (u := ys) (by rw [List.append_nil]; exact h) hu
  have h2 := MI.left (xs := []) (u := xs) (by rw [List.append_nil]; exact h1) (fun _ _ _ hy => absurd hy List.not_mem_nil)
  exact ⟨by have := h2.perm; simpa using this, h2.so⟩
noncomputable def SameSt (st st' : SortSt) : Prop := ∃ g, st' = SortSt.mk' (kindOf st) (arrOf st) (pendingOf st) g (failedOf st)
theorem SameSt.refl (st : SortSt) : SameSt st st := ⟨gallopOf st, rfl⟩
theorem SameSt.trans {a b c : SortSt} (h : SameSt a b) (k : SameSt b c) : SameSt a c := by
  obtain ⟨g, rfl⟩ := h
  obtain ⟨g', rfl⟩ := k
  exact ⟨g', rfl⟩
theorem SameSt.kind {a b : SortSt} (h : SameSt a b) : kindOf b = kindOf a := by obtain ⟨g, rfl⟩ := h; rfl
noncomputable def setMinGallop' : Nat → StateT SortSt Sem Unit := sortPriv% PySem.Builtin.setMinGallop
theorem wpS_smg {g : Nat} {Q : Unit → SortSt → Prop} {st : SortSt} (h : ∀ st', SameSt st st' → Q () st') : wpS (model prog w) A E s (setMinGallop' g) Q st := wpS_modify (h _ ⟨_, rfl⟩)
theorem arr_push (o : List Nat) (x : Nat) : (o.map f).toArray.push (f x) = ((o ++ [x]).map f).toArray := by simp
theorem arr_ext (p : List Nat) (i : Nat) : (p.map f).toArray.extract i (p.map f).toArray.size = ((p.drop i).map f).toArray := by
  simp [List.extract_eq_drop_take, List.map_drop]
  rw [List.take_of_length_le]
  simp
theorem arr_exk (p : List Nat) (i j : Nat) : (p.map f).toArray.extract i j = (((p.drop i).take (j - i)).map f).toArray := by
  simp [List.extract_eq_drop_take, List.map_drop, List.map_take]
theorem arr_app (o p : List Nat) : (o.map f).toArray ++ (p.map f).toArray = ((o ++ p).map f).toArray := by simp
end
section
open PySem.W hiding kindOf
variable {prog : Program} {w : World} {A : Around} {E : Value → Shared → Prop} {s : Shared} {κ : SortKind} {f : Nat → Keyed} {key : Nat → Int} {n : Nat}
noncomputable def MOut (f : Nat → Keyed) (key : Nat → Int) (all : List Nat) (r : Array Keyed) : Prop := ∃ o : List Nat, r = (o.map f).toArray ∧ o.Perm all ∧ Srt key o
structure JL (f : Nat → Keyed) (key : Nat → Int) (pa pb : List Nat) (r : Array Keyed) (ia ib : Nat) (o : List Nat) : Prop where
  arr : r = (o.map f).toArray
  mi : MI key (pa ++ pb) o (pa.drop ia) (pb.drop ib)
  la : ia + 1 < pa.length
  lb : ib < pb.length
  len : o.length = ia + ib
noncomputable def GR (f : Nat → Keyed) (key : Nat → Int) (pa pb : List Nat) (st : SortSt) (l : Nat) (r : ForInStep (Option (Array Keyed) × Array Keyed × Nat × Nat × Nat × Nat × Nat)) (st' : SortSt) : Prop :=
  SameSt st st' ∧ (match r with
    | .done c => (∃ r, c.1 = some r ∧ MOut f key (pa ++ pb) r) ∨ ∃ r ia ib g ac bc o, c = (none, r, ia, ib, g, ac, bc) ∧ JL f key pa pb r ia ib o ∧ l ≤ o.length
    | .yield c => ∃ r ia ib g ac bc o, c = (none, r, ia, ib, g, ac, bc) ∧ JL f key pa pb r ia ib o ∧ l + 1 ≤ o.length)
theorem wpS_jp1 {M : Model} {α : Type} {jp : Unit → Nat → StateT SortSt Sem α} {Q : α → SortSt → Prop} {st : SortSt} {c : Prop} [Decidable c] {a b : Nat} (h : ∀ g, wpS M A E s (jp () g) Q st) : wpS M A E s (if c then jp () a else jp () b) Q st := by
  split
  · exact h _
  · exact h _
theorem wp_mergeLo (L : LtOk prog w A E s κ f key n) {pa pb : List Nat} {st : SortSt} {Q : Array Keyed → SortSt → Prop} (na : InN n pa) (nb : InN n pb) (hk : kindOf st = κ) (sa : Srt key pa) (sb : Srt key pb) (la : 0 < pa.length) (lb : 0 < pb.length)
    (hf : ∀ y ∈ pa, key (pb.getD 0 0) ≤ key y) (hl : ∀ y ∈ pb, key y ≤ key (pa.getD (pa.length - 1) 0))
    (h : ∀ r st', SameSt st st' → MOut f key (pa ++ pb) r → Q r st') : wpS (model prog w) A E s (mergeLo' (pa.map f).toArray (pb.map f).toArray) Q st := by
  have zA : (pa.map f).toArray.size = pa.length := by simp
  have zB : (pb.map f).toArray.size = pb.length := by simp
  have eA : ∀ i, (pa.map f).toArray.extract i pa.length = ((pa.drop i).map f).toArray := fun i => by rw [← arr_ext (f := f), zA]
  have eB : ∀ i, (pb.map f).toArray.extract i pb.length = ((pb.drop i).map f).toArray := fun i => by rw [← arr_ext (f := f), zB]
  have gA : ∀ i, i < pa.length → pa[i]? = some (pa.getD i 0) := fun i hi => by simp [hi]
  have gB : ∀ i, i < pb.length → pb[i]? = some (pb.getD i 0) := fun i hi => by simp [hi]
  have dA : ∀ i, i < pa.length → pa.drop i = pa.getD i 0 :: pa.drop (i + 1) := fun i hi => by rw [List.drop_eq_getElem_cons hi]; simp [hi]
  have dB : ∀ i, i < pb.length → pb.drop i = pb.getD i 0 :: pb.drop (i + 1) := fun i hi => by rw [List.drop_eq_getElem_cons hi]; simp [hi]
  have mA : ∀ i, i < pa.length → pa.getD i 0 < n := fun i hi => na _ (List.mem_of_getElem? (gA i hi))
  have mB : ∀ i, i < pb.length → pb.getD i 0 < n := fun i hi => nb _ (List.mem_of_getElem? (gB i hi))
  have hd : ∀ {l : List Nat} {x : Nat} {r : List Nat}, Srt key l → l = x :: r → ∀ y ∈ l, key x ≤ key y := fun {l x r} hs e y hy => by
    subst e
    rcases List.mem_cons.mp hy with e | e
    · rw [e]; exact Int.le_refl _
    · exact (List.pairwise_cons.mp hs).1 y e
  have last : ∀ {o ia ib}, MI key (pa ++ pb) o (pa.drop ia) (pb.drop ib) → ia + 1 = pa.length → MOut f key (pa ++ pb) ((o.map f).toArray ++ ((pb.drop ib).map f).toArray ++ ((pa.drop ia).map f).toArray) := fun {o ia ib} m e => by
    rw [arr_app, arr_app]
    refine ⟨_, rfl, MI.done2 m fun x hx y hy => ?_⟩
    rw [dA ia (by omega), List.drop_of_length_le (by omega)] at hy
    rw [List.mem_singleton.mp hy]
    have := hl x (List.mem_of_mem_drop hx)
    rwa [show pa.length - 1 = ia by omega] at this
  have fin : ∀ {o ia ib}, MI key (pa ++ pb) o (pa.drop ia) (pb.drop ib) → (ia = pa.length ∨ ib = pb.length) → MOut f key (pa ++ pb) ((o.map f).toArray ++ ((pa.drop ia).map f).toArray ++ ((pb.drop ib).map f).toArray) := fun {o ia ib} m e => by
    rw [arr_app, arr_app]
    refine ⟨_, rfl, MI.done m fun x hx y hy => ?_⟩
    rcases e with e | e
    · rw [List.drop_of_length_le (by omega)] at hx; exact absurd hx List.not_mem_nil
    · rw [List.drop_of_length_le (by omega)] at hy; exact absurd hy List.not_mem_nil
  refine wpS_bind (wpS_lift (wpAny_rule ⟨rfl, ?_⟩))
  refine wpS_bind (wpS_elem (gB 0 lb) ?_)
  show wpS _ _ _ _ (ite _ _ _) _ _
  have m0 : MI key (pa ++ pb) [pb.getD 0 0] (pa.drop 0) (pb.drop 1) := by
    have m : MI key (pa ++ pb) [] pa pb := ⟨List.Perm.refl _, List.Pairwise.nil, sa, sb, fun _ h => absurd h List.not_mem_nil, fun _ h => absurd h List.not_mem_nil⟩
    have := MI.right (u := [pb.getD 0 0]) (ys := pb.drop 1) (by have e := dB 0 lb; rw [List.drop_zero] at e; rw [List.singleton_append, ← e]; exact m) (fun a ha y hy => by rw [List.mem_singleton.mp ha]; exact hf y hy)
    exact this
  have a0 : (#[f (pb.getD 0 0)] : Array Keyed) = ([pb.getD 0 0].map f).toArray := rfl
  rw [zA, zB, a0]
  by_cases c1 : 1 = pb.length
  · rw [if_pos (by simpa using c1)]
    dsimp only
    rw [eA, eB]
    exact wpS_pure (h _ _ (SameSt.refl _) (fin m0 (.inr c1)))
  rw [if_neg (by simpa using c1)]
  by_cases c2 : 0 + 1 = pa.length
  · rw [if_pos (by simpa using c2)]
    dsimp only
    rw [eA, eB]
    exact wpS_pure (h _ _ (SameSt.refl _) (last m0 c2))
  rw [if_neg (by simpa using c2)]
  refine wpS_bind (wpS_get ?_)
  refine wpS_bind (wpS_mono (wpS_forRange (I := fun x c st' => SameSt st st' ∧ ∃ r ia ib g o, c = (none, r, ia, ib, g) ∧ JL f key pa pb r ia ib o ∧ 1 + x ≤ o.length)
    (Q := fun c st' => SameSt st st' ∧ ∃ r, c.1 = some r ∧ MOut f key (pa ++ pb) r) ?step ?fin ⟨SameSt.refl _, _, 0, 1, _, [pb.getD 0 0], rfl, ⟨rfl, m0, by omega, by omega, rfl⟩, by simp⟩) ?post)
  case post =>
    rintro c st' ⟨hs, r, e, hm⟩
    obtain ⟨c1, c2⟩ := c
    cases e
    exact wpS_pure (h _ _ hs hm)
  case fin =>
    rintro c st' ⟨hs, r, ia, ib, g, o, rfl, J, hx⟩
    have := J.la; have := J.lb; have := J.len
    omega
  case step =>
    rintro x c st1 _ hx ⟨hs, r, ia, ib, g, o, rfl, J, hlen⟩
    have hk1 : kindOf st1 = κ := hs.kind.trans hk
    refine wpS_bind (wpS_mono (wpS_forRange (I := fun y c st' => st' = st1 ∧ ∃ r ia ib ac bc o1, c = (none, r, ia, ib, ac, bc) ∧ JL f key pa pb r ia ib o1 ∧ o.length + y ≤ o1.length)
      (Q := fun c st' => st' = st1 ∧ ((∃ r, c.1 = some r ∧ MOut f key (pa ++ pb) r) ∨ ∃ r ia ib ac bc o1, c = (none, r, ia, ib, ac, bc) ∧ JL f key pa pb r ia ib o1 ∧ o.length + 1 ≤ o1.length)) ?step1 ?fin1 ⟨rfl, r, ia, ib, _, _, o, rfl, J, by omega⟩) ?post1)
    case fin1 =>
      rintro c st' ⟨rfl, r, ia, ib, ac, bc, o1, rfl, J1, hx1⟩
      have := J1.la; have := J1.lb; have := J1.len
      omega
    case step1 =>
      rintro y c st' _ hy ⟨rfl, r1, ia1, ib1, ac, bc, o1, rfl, J1, hx1⟩
      dsimp only
      obtain ⟨rfl, m1, la1, lb1, len1⟩ := J1
      refine wpS_bind (wpS_elem (gB ib1 lb1) (wpS_bind (wpS_elem (gA ia1 (by omega)) (wpS_bind (L _ _ _ _ (mB ib1 lb1) (mA ia1 (by omega)) hk1 ?_)))))
      dsimp only
      cases hw : ltK key (pb.getD ib1 0) (pa.getD ia1 0) with
      | true =>
        simp only [if_true]
        have hw' : key (pb.getD ib1 0) < key (pa.getD ia1 0) := of_decide_eq_true hw
        have m2 : MI key (pa ++ pb) (o1 ++ [pb.getD ib1 0]) (pa.drop ia1) (pb.drop (ib1 + 1)) := by
          refine MI.right (by rw [List.singleton_append, ← dB ib1 lb1]; exact m1) fun x hx y hy => ?_
          rw [List.mem_singleton.mp hx]
          have := hd m1.sx (dA ia1 (by omega)) y hy
          omega
        refine wpS_bind (wpS_elem (gB ib1 lb1) ?_)
        rw [arr_push]
        by_cases c3 : ib1 + 1 = pb.length
        · rw [if_pos (by simpa using c3), eA, eB]
          exact wpS_pure ⟨rfl, .inl ⟨_, rfl, fin m2 (.inr c3)⟩⟩
        · rw [if_neg (by simpa using c3)]
          have J2 : JL f key pa pb ((o1 ++ [pb.getD ib1 0]).map f).toArray ia1 (ib1 + 1) (o1 ++ [pb.getD ib1 0]) := ⟨rfl, m2, la1, by omega, by simp; omega⟩
          split
          · exact wpS_pure ⟨rfl, .inr ⟨_, _, _, _, _, _, rfl, J2, by simp; omega⟩⟩
          · exact wpS_pure ⟨rfl, _, _, _, _, _, _, rfl, J2, by simp; omega⟩
      | false =>
        simp only [Bool.false_eq_true, if_false]
        have hw' : ¬ key (pb.getD ib1 0) < key (pa.getD ia1 0) := of_decide_eq_false hw
        have m2 : MI key (pa ++ pb) (o1 ++ [pa.getD ia1 0]) (pa.drop (ia1 + 1)) (pb.drop ib1) := by
          refine MI.left (by rw [List.singleton_append, ← dA ia1 (by omega)]; exact m1) fun x hx y hy => ?_
          rw [List.mem_singleton.mp hx]
          have := hd m1.sy (dB ib1 (by omega)) y hy
          omega
        refine wpS_bind (wpS_elem (gA ia1 (by omega)) ?_)
        rw [arr_push]
        by_cases c3 : ia1 + 1 + 1 = pa.length
        · rw [if_pos (by simpa using c3), eA, eB]
          exact wpS_pure ⟨rfl, .inl ⟨_, rfl, last m2 c3⟩⟩
        · rw [if_neg (by simpa using c3)]
          have J2 : JL f key pa pb ((o1 ++ [pa.getD ia1 0]).map f).toArray (ia1 + 1) ib1 (o1 ++ [pa.getD ia1 0]) := ⟨rfl, m2, by omega, lb1, by simp; omega⟩
          split
          · exact wpS_pure ⟨rfl, .inr ⟨_, _, _, _, _, _, rfl, J2, by simp; omega⟩⟩
          · exact wpS_pure ⟨rfl, _, _, _, _, _, _, rfl, J2, by simp; omega⟩
    case post1 =>
      rintro c st' ⟨rfl, hc⟩
      rcases hc with ⟨r1, e, hm⟩ | ⟨r1, ia1, ib1, ac, bc, o1, rfl, J1, hx1⟩
      · obtain ⟨c1, c2⟩ := c
        cases e
        exact wpS_pure ⟨hs, r1, rfl, hm⟩
      refine wpS_bind (wpS_lift (wpAny_rule ⟨rfl, ?_⟩))
      refine wpS_bind (wpS_mono (wpS_forRange (I := fun y c st' => SameSt st st' ∧ ∃ r ia ib g ac bc o2, c = (none, r, ia, ib, g, ac, bc) ∧ JL f key pa pb r ia ib o2 ∧ o1.length + y ≤ o2.length)
        (Q := fun c st' => SameSt st st' ∧ ((∃ r, c.1 = some r ∧ MOut f key (pa ++ pb) r) ∨ ∃ r ia ib g ac bc o2, c = (none, r, ia, ib, g, ac, bc) ∧ JL f key pa pb r ia ib o2 ∧ o1.length ≤ o2.length)) ?step2 ?fin2 ⟨hs, r1, ia1, ib1, _, _, _, o1, rfl, J1, by omega⟩) ?post2)
      case fin2 =>
        rintro c st' ⟨hs2, r, ia, ib, g, ac, bc, o2, rfl, J2, hx2⟩
        have := J2.la; have := J2.lb; have := J2.len
        omega
      case post2 =>
        rintro c st' ⟨hs2, hc⟩
        rcases hc with ⟨r2, e, hm⟩ | ⟨r2, ia2, ib2, g2, ac, bc, o2, rfl, J2, hx2⟩
        · obtain ⟨c1, c2⟩ := c
          cases e
          exact wpS_pure ⟨hs2, r2, rfl, hm⟩
        · refine wpS_bind (wpS_modify (wpS_pure ⟨hs2.trans ⟨_, rfl⟩, _, _, _, _, o2, rfl, J2, by omega⟩))
      case step2 =>
        rintro y c st2 _ hy ⟨hs2, r2, ia2, ib2, g2, ac, bc, o2, rfl, J2, hx2⟩
        have hk2 : kindOf st2 = κ := hs2.kind.trans hk
        obtain ⟨rfl, m2, la2, lb2, len2⟩ := J2
        refine wpS_mono (Q := GR f key pa pb st (o1.length + y)) ?_ ?conv
        case conv =>
          rintro r st' ⟨hs', hr⟩
          cases r with
          | done c =>
            refine ⟨hs', ?_⟩
            rcases hr with hr | ⟨r, ia, ib, g, ac, bc, o2, e, J, hl⟩
            · exact .inl hr
            · exact .inr ⟨r, ia, ib, g, ac, bc, o2, e, J, by omega⟩
          | yield c => exact ⟨hs', hr⟩
        extract_lets s1 out s2 ia3 s3 ib3 s4 g3 s5 ac3 bc3 ib4 jp
        have e1 : out = (o2.map f).toArray := rfl
        have e2 : ia3 = ia2 := rfl
        have e3 : ib3 = ib2 := rfl
        have e4 : ib4 = ib3 + 1 := rfl
        clear_value ib4 out ia3 ib3 g3 ac3 bc3
        clear s1 s2 s3 s4 s5
        subst e1 e2 e3 e4
        refine wpS_jp1 (jp := jp) fun g' => ?_
        refine wpS_bind (wpS_smg fun st3 hs3 => ?_)
        have hk3 : kindOf st3 = κ := hs3.kind.trans hk2
        have hs4 : SameSt st st3 := hs2.trans hs3
        clear jp
        refine wpS_bind (wpS_elem (gB ib3 lb2) (wpS_bind (wp_galD L (mB ib3 lb2) na (by omega) hk3 m2.sx fun k hkl t1 t2 => ?_)))
        have m3 : MI key (pa ++ pb) (o2 ++ (pa.drop ia3).take k) (pa.drop (ia3 + k)) (pb.drop ib3) := by
          refine MI.left (by rw [← List.drop_drop, List.take_append_drop]; exact m2) fun x hx y hy => ?_
          have e1 := t1 x hx
          have e2 := hd m2.sy (dB ib3 lb2) y hy
          simp [ltK, -List.getD_eq_getElem?_getD] at e1
          omega
        have t3 : ∀ x ∈ pa.drop (ia3 + k), key (pb.getD ib3 0) ≤ key x := fun x hx => by
          have e1 := t2 x hx
          simp [ltK, -List.getD_eq_getElem?_getD] at e1
          omega
        clear t1 t2
        have len3 : (o2 ++ (pa.drop ia3).take k).length = ia3 + k + ib3 := by simp; omega
        dsimp -zeta only
        extract_lets ak jp out ia
        have eo : out = ((o2 ++ (pa.drop ia3).take k).map f).toArray := by
          show _ ++ _ = _
          rw [arr_exk, arr_app, Nat.add_sub_cancel_left]
        have ei : ia = ia3 + k := rfl
        clear_value out ia ak
        subst eo ei
        have hj : ∀ o3 ia4, MI key (pa ++ pb) o3 (pa.drop ia4) (pb.drop ib3) → (∀ x ∈ pa.drop ia4, key (pb.getD ib3 0) ≤ key x) → o3.length = ia4 + ib3 → ia4 + 1 < pa.length → o1.length + y ≤ o3.length → wpS (model prog w) A E s (jp () (o3.map f).toArray ia4) (GR f key pa pb st (o1.length + y)) st3 := by
          intro o3 ia4 m3 t3 len3 la4 hl3
          refine wpS_bind (wpS_elem (gB ib3 lb2) ?_)
          clear jp
          rw [arr_push]
          have m4 : MI key (pa ++ pb) (o3 ++ [pb.getD ib3 0]) (pa.drop ia4) (pb.drop (ib3 + 1)) := by
            refine MI.right (by rw [List.singleton_append, ← dB ib3 lb2]; exact m3) fun x hx y hy => ?_
            rw [List.mem_singleton.mp hx]
            exact t3 y hy
          have len4 : (o3 ++ [pb.getD ib3 0]).length = ia4 + (ib3 + 1) := by simp; omega
          have hl4 : o1.length + y + 1 ≤ (o3 ++ [pb.getD ib3 0]).length := by rw [len4]; omega
          generalize o3 ++ [pb.getD ib3 0] = o4 at m4 len4 hl4 ⊢
          clear m3 t3 len3 hl3
          extract_lets out ia5
          have eo : out = (o4.map f).toArray := rfl
          have ei : ia5 = ia4 + 1 := rfl
          clear_value out ia5
          subst eo ei
          by_cases c6 : ib3 + 1 = pb.length
          · rw [if_pos (by simpa using c6), eA, eB]
            exact wpS_pure ⟨hs4, .inl ⟨_, rfl, fin m4 (.inr c6)⟩⟩
          rw [if_neg (by simpa using c6)]
          refine wpS_bind (wpS_elem (gA ia4 (by omega)) (wpS_bind (wp_galD L (mA ia4 (by omega)) nb (by omega) hk3 m4.sy fun k2 hkl2 t1 t2 => ?_)))
          have m5 : MI key (pa ++ pb) (o4 ++ (pb.drop (ib3 + 1)).take k2) (pa.drop ia4) (pb.drop (ib3 + 1 + k2)) := by
            refine MI.right (by rw [← List.drop_drop (i := k2), List.take_append_drop]; exact m4) fun x hx y hy => ?_
            have e1 := t1 x hx
            have e2 := hd m4.sx (dA ia4 (by omega)) y hy
            simp [ltK, -List.getD_eq_getElem?_getD] at e1
            omega
          have t3 : ∀ x ∈ pb.drop (ib3 + 1 + k2), key (pa.getD ia4 0) ≤ key x := fun x hx => by
            have e1 := t2 x hx
            simp [ltK, -List.getD_eq_getElem?_getD] at e1
            omega
          clear t1 t2
          have len5 : (o4 ++ (pb.drop (ib3 + 1)).take k2).length = ia4 + (ib3 + 1 + k2) := by simp; omega
          dsimp -zeta only
          extract_lets bk jp out ib
          have eo : out = ((o4 ++ (pb.drop (ib3 + 1)).take k2).map f).toArray := by
            show _ ++ _ = _
            rw [arr_exk, arr_app, Nat.add_sub_cancel_left]
          have ei : ib = ib3 + 1 + k2 := rfl
          clear_value out ib bk
          subst eo ei
          have hj : ∀ o5 ib5, MI key (pa ++ pb) o5 (pa.drop ia4) (pb.drop ib5) → (∀ x ∈ pb.drop ib5, key (pa.getD ia4 0) ≤ key x) → o5.length = ia4 + ib5 → ib5 < pb.length → o1.length + y + 1 ≤ o5.length → wpS (model prog w) A E s (jp () (o5.map f).toArray ib5) (GR f key pa pb st (o1.length + y)) st3 := by
            intro o5 ib5 m5 t3 len5 lb5 hl5
            refine wpS_bind (wpS_elem (gA ia4 (by omega)) ?_)
            clear jp
            rw [arr_push]
            have m6 : MI key (pa ++ pb) (o5 ++ [pa.getD ia4 0]) (pa.drop (ia4 + 1)) (pb.drop ib5) := by
              refine MI.left (by rw [List.singleton_append, ← dA ia4 (by omega)]; exact m5) fun x hx y hy => ?_
              rw [List.mem_singleton.mp hx]
              exact t3 y hy
            have len6 : (o5 ++ [pa.getD ia4 0]).length = ia4 + 1 + ib5 := by simp; omega
            generalize o5 ++ [pa.getD ia4 0] = o6 at m6 len6 ⊢
            extract_lets out
            by_cases c7 : ia4 + 1 + 1 = pa.length
            · rw [if_pos (by simpa using c7), eA, eB]
              exact wpS_pure ⟨hs4, .inl ⟨_, rfl, last m6 c7⟩⟩
            rw [if_neg (by simpa using c7)]
            have J6 : JL f key pa pb (o6.map f).toArray (ia4 + 1) ib5 o6 := ⟨rfl, m6, by omega, lb5, len6⟩
            split
            · exact wpS_pure ⟨hs4, .inr ⟨_, _, _, _, _, _, o6, rfl, J6, by omega⟩⟩
            · exact wpS_pure ⟨hs4, _, _, _, _, _, _, o6, rfl, J6, by omega⟩
          by_cases c7 : k2 > 0
          · rw [if_pos c7]
            by_cases c8 : ib3 + 1 + k2 = pb.length
            · rw [if_pos (by simpa using c8), eA, eB]
              exact wpS_pure ⟨hs4, .inl ⟨_, rfl, fin m5 (.inr c8)⟩⟩
            rw [if_neg (by simpa using c8)]
            exact hj _ _ m5 t3 len5 (by omega) (by rw [len5]; omega)
          · rw [if_neg c7]
            have ek : k2 = 0 := by omega
            subst ek
            rw [List.take_zero, List.append_nil] at m5
            exact hj _ _ m5 t3 len4 (by omega) hl4
        by_cases c3 : k > 0
        · rw [if_pos c3]
          by_cases c4 : ia3 + k + 1 = pa.length
          · rw [if_pos (by simpa using c4), eA, eB]
            exact wpS_pure ⟨hs4, .inl ⟨_, rfl, last m3 c4⟩⟩
          rw [if_neg (by simpa using c4)]
          by_cases c5 : ia3 + k = pa.length
          · rw [if_pos (by simpa using c5), eA, eB]
            exact wpS_pure ⟨hs4, .inl ⟨_, rfl, fin m3 (.inl c5)⟩⟩
          rw [if_neg (by simpa using c5)]
          exact hj _ _ m3 t3 len3 (by omega) (by rw [len3]; omega)
        · rw [if_neg c3]
          have ek : k = 0 := by omega
          subst ek
          rw [List.take_zero, List.append_nil] at m3
          exact hj _ _ m3 t3 len2 la2 hx2
end
section
open PySem.W hiding kindOf
variable {prog : Program} {w : World} {A : Around} {E : Value → Shared → Prop} {s : Shared} {κ : SortKind} {f : Nat → Keyed} {key : Nat → Int} {n : Nat}
theorem wp_galT (L : LtOk prog w A E s κ f key n) {left : Bool} {q : Nat} {p : List Nat} {m hint : Nat} {st : SortSt} {Q : Option Nat → SortSt → Prop} (hq : q < n) (hp : InN n p) (hm : m ≤ p.length) (hh : hint < m) (hk : kindOf st = κ)
    (hs : Srt key (p.take m))
    (h : ∀ k, k ≤ m → (∀ x ∈ p.take k, (if left = true then ltK key x q else !ltK key q x) = true) → (∀ x ∈ (p.take m).drop k, (if left = true then ltK key x q else !ltK key q x) = false) → Q (some k) st) :
    wpS (model prog w) A E s (gallop' left (f q) (p.map f).toArray 0 m hint) Q st := by
  refine wp_gal L hq hp (by omega) hh hk (by rw [List.drop_zero]; exact hs) fun k hk' h1 h2 => h k hk' ?_ ?_
  · rwa [List.drop_zero, List.take_take, Nat.min_eq_left hk'] at h1
  · rwa [List.drop_zero] at h2
noncomputable def neg (key : Nat → Int) (x : Nat) : Int := -key x
theorem srt_neg {l : List Nat} : Srt (neg key) l ↔ Srt key l.reverse := by
  unfold Srt
  rw [List.pairwise_reverse]
  constructor
  · exact fun h => h.imp fun {a b} h => by unfold neg at h; omega
  · exact fun h => h.imp fun {a b} h => by unfold neg; omega
structure JH (f : Nat → Keyed) (key : Nat → Int) (pa pb : List Nat) (r : Array Keyed) (na nb : Nat) (o : List Nat) : Prop where
  arr : r = (o.map f).toArray
  mi : MI (neg key) (pa ++ pb) o (pa.take na).reverse (pb.take nb).reverse
  la : 0 < na
  lb : 1 < nb
  za : na ≤ pa.length
  zb : nb ≤ pb.length
  len : o.length + na + nb = pa.length + pb.length
noncomputable def GH (f : Nat → Keyed) (key : Nat → Int) (pa pb : List Nat) (st : SortSt) (l : Nat) (r : ForInStep (Option (Array Keyed) × Nat × Nat × Array Keyed × Nat × Nat × Nat)) (st' : SortSt) : Prop :=
  SameSt st st' ∧ (match r with
    | .done c => (∃ r, c.1 = some r ∧ MOut f key (pa ++ pb) r) ∨ ∃ r ia ib g ac bc o, c = (none, ia, ib, r, g, ac, bc) ∧ JH f key pa pb r ia ib o ∧ l ≤ o.length
    | .yield c => ∃ r ia ib g ac bc o, c = (none, ia, ib, r, g, ac, bc) ∧ JH f key pa pb r ia ib o ∧ l + 1 ≤ o.length)
theorem wp_mergeHi (L : LtOk prog w A E s κ f key n) {pa pb : List Nat} {st : SortSt} {Q : Array Keyed → SortSt → Prop} (na : InN n pa) (nb : InN n pb) (hk : kindOf st = κ) (sa : Srt key pa) (sb : Srt key pb) (la : 0 < pa.length) (lb : 0 < pb.length)
    (hf : ∀ y ∈ pa, key (pb.getD 0 0) ≤ key y) (hl : ∀ y ∈ pb, key y ≤ key (pa.getD (pa.length - 1) 0))
    (h : ∀ r st', SameSt st st' → MOut f key (pa ++ pb) r → Q r st') : wpS (model prog w) A E s (mergeHi' (pa.map f).toArray (pb.map f).toArray) Q st := by
  have zA : (pa.map f).toArray.size = pa.length := by simp
  have zB : (pb.map f).toArray.size = pb.length := by simp
  have eA : ∀ i, (pa.map f).toArray.extract 0 i = ((pa.take i).map f).toArray := fun i => by rw [arr_exk, List.drop_zero, Nat.sub_zero]
  have eB : ∀ i, (pb.map f).toArray.extract 0 i = ((pb.take i).map f).toArray := fun i => by rw [arr_exk, List.drop_zero, Nat.sub_zero]
  have eR : ∀ q : List Nat, (q.map f).toArray.reverse = (q.reverse.map f).toArray := fun q => by simp
  have gA : ∀ i, i < pa.length → pa[i]? = some (pa.getD i 0) := fun i hi => by simp [hi]
  have gB : ∀ i, i < pb.length → pb[i]? = some (pb.getD i 0) := fun i hi => by simp [hi]
  have dA : ∀ i, 0 < i → i ≤ pa.length → (pa.take i).reverse = pa.getD (i - 1) 0 :: (pa.take (i - 1)).reverse := fun i h0 hi => by
    obtain ⟨j, rfl⟩ : ∃ j, i = j + 1 := ⟨i - 1, by omega⟩
    rw [List.take_succ_eq_append_getElem (by omega), List.reverse_append]
    have : j < pa.length := by omega
    simp [this]
  have dB : ∀ i, 0 < i → i ≤ pb.length → (pb.take i).reverse = pb.getD (i - 1) 0 :: (pb.take (i - 1)).reverse := fun i h0 hi => by
    obtain ⟨j, rfl⟩ : ∃ j, i = j + 1 := ⟨i - 1, by omega⟩
    rw [List.take_succ_eq_append_getElem (by omega), List.reverse_append]
    have : j < pb.length := by omega
    simp [this]
  have mA : ∀ i, i < pa.length → pa.getD i 0 < n := fun i hi => na _ (List.mem_of_getElem? (gA i hi))
  have mB : ∀ i, i < pb.length → pb.getD i 0 < n := fun i hi => nb _ (List.mem_of_getElem? (gB i hi))
  have hd : ∀ {l : List Nat} {x : Nat} {r : List Nat}, Srt (neg key) l → l = x :: r → ∀ y ∈ l, key y ≤ key x := fun {l x r} hs e y hy => by
    subst e
    rcases List.mem_cons.mp hy with e | e
    · rw [e]; exact Int.le_refl _
    · have := (List.pairwise_cons.mp hs).1 y e
      unfold neg at this
      omega
  have out : ∀ {q u v : List Nat}, (q ++ u.reverse ++ v.reverse).Perm (pa ++ pb) ∧ Srt (neg key) (q ++ u.reverse ++ v.reverse) → MOut f key (pa ++ pb) ((v.map f).toArray ++ (u.map f).toArray ++ (q.map f).toArray.reverse) := fun {q u v} hh => by
    have e : (q ++ u.reverse ++ v.reverse).reverse = v ++ u ++ q.reverse := by simp
    rw [eR, arr_app, arr_app]
    refine ⟨_, rfl, ?_, ?_⟩
    · rw [← e]; exact (List.reverse_perm _).trans hh.1
    · rw [← e]; exact srt_neg.mp hh.2
  have first : ∀ {o ia ib}, MI (neg key) (pa ++ pb) o (pa.take ia).reverse (pb.take ib).reverse → ib = 1 → MOut f key (pa ++ pb) (((pb.take ib).map f).toArray ++ ((pa.take ia).map f).toArray ++ (o.map f).toArray.reverse) := fun {o ia ib} m e => by
    refine out (MI.done m fun x hx y hy => ?_)
    subst e
    rw [dB 1 (by omega) (by omega), List.take_zero] at hy
    rw [List.mem_singleton.mp hy]
    have := hf x (List.mem_of_mem_take (List.mem_reverse.mp hx))
    unfold neg
    rw [Nat.sub_self]
    omega
  have fin : ∀ {o ia ib}, MI (neg key) (pa ++ pb) o (pa.take ia).reverse (pb.take ib).reverse → (ia = 0 ∨ ib = 0) → MOut f key (pa ++ pb) (((pa.take ia).map f).toArray ++ ((pb.take ib).map f).toArray ++ (o.map f).toArray.reverse) := fun {o ia ib} m e => by
    refine out (MI.done2 m fun x hx y hy => ?_)
    rcases e with e | e
    · subst e; rw [List.take_zero] at hy; exact absurd hy List.not_mem_nil
    · subst e; rw [List.take_zero] at hx; exact absurd hx List.not_mem_nil
  refine wpS_bind (wpS_lift (wpAny_rule ⟨rfl, ?_⟩))
  rw [zA, zB]
  refine wpS_bind (wpS_elem (gA (pa.length - 1) (by omega)) ?_)
  show wpS _ _ _ _ (ite _ _ _) _ _
  have m0 : MI (neg key) (pa ++ pb) [pa.getD (pa.length - 1) 0] (pa.take (pa.length - 1)).reverse (pb.take pb.length).reverse := by
    have m : MI (neg key) (pa ++ pb) [] (pa.take pa.length).reverse (pb.take pb.length).reverse := by
      rw [List.take_length, List.take_length]
      refine ⟨by rw [List.nil_append]; exact List.Perm.append (List.reverse_perm _) (List.reverse_perm _), List.Pairwise.nil, srt_neg.mpr (by rw [List.reverse_reverse]; exact sa), srt_neg.mpr (by rw [List.reverse_reverse]; exact sb), fun _ h => absurd h List.not_mem_nil, fun _ h => absurd h List.not_mem_nil⟩
    have := MI.left (u := [pa.getD (pa.length - 1) 0]) (xs := (pa.take (pa.length - 1)).reverse) (by have e := dA pa.length la (Nat.le_refl _); rw [List.singleton_append, ← e]; exact m) (fun a ha y hy => by
      rw [List.mem_singleton.mp ha]
      have := hl y (List.mem_of_mem_take (List.mem_reverse.mp hy))
      unfold neg
      omega)
    exact this
  have a0 : (#[f (pa.getD (pa.length - 1) 0)] : Array Keyed) = ([pa.getD (pa.length - 1) 0].map f).toArray := rfl
  rw [a0]
  by_cases c1 : pa.length - 1 = 0
  · rw [if_pos (by simpa using c1)]
    dsimp only
    rw [eA, eB]
    exact wpS_pure (h _ _ (SameSt.refl _) (fin m0 (.inl c1)))
  rw [if_neg (by simpa using c1)]
  by_cases c2 : pb.length = 1
  · rw [if_pos (by simpa using c2)]
    dsimp only
    rw [eA, eB]
    exact wpS_pure (h _ _ (SameSt.refl _) (first m0 c2))
  rw [if_neg (by simpa using c2)]
  refine wpS_bind (wpS_get ?_)
  refine wpS_bind (wpS_mono (wpS_forRange (I := fun x c st' => SameSt st st' ∧ ∃ r ia ib g o, c = (none, ia, ib, r, g) ∧ JH f key pa pb r ia ib o ∧ 1 + x ≤ o.length)
    (Q := fun c st' => SameSt st st' ∧ ∃ r, c.1 = some r ∧ MOut f key (pa ++ pb) r) ?step ?fin ⟨SameSt.refl _, _, _, _, _, [pa.getD (pa.length - 1) 0], rfl, ⟨rfl, m0, by omega, by omega, by omega, by omega, by simp; omega⟩, by simp⟩) ?post)
  case post =>
    rintro c st' ⟨hs, r, e, hm⟩
    obtain ⟨c1, c2⟩ := c
    cases e
    exact wpS_pure (h _ _ hs hm)
  case fin =>
    rintro c st' ⟨hs, r, ia, ib, g, o, rfl, J, hx⟩
    have := J.la; have := J.lb; have := J.len
    omega
  case step =>
    rintro x c st1 _ hx ⟨hs, r, ia, ib, g, o, rfl, J, hlen⟩
    have hk1 : kindOf st1 = κ := hs.kind.trans hk
    refine wpS_bind (wpS_mono (wpS_forRange (I := fun y c st' => st' = st1 ∧ ∃ r ia ib ac bc o1, c = (none, ia, ib, r, ac, bc) ∧ JH f key pa pb r ia ib o1 ∧ o.length + y ≤ o1.length)
      (Q := fun c st' => st' = st1 ∧ ((∃ r, c.1 = some r ∧ MOut f key (pa ++ pb) r) ∨ ∃ r ia ib ac bc o1, c = (none, ia, ib, r, ac, bc) ∧ JH f key pa pb r ia ib o1 ∧ o.length + 1 ≤ o1.length)) ?step1 ?fin1 ⟨rfl, r, ia, ib, _, _, o, rfl, J, by omega⟩) ?post1)
    case fin1 =>
      rintro c st' ⟨rfl, r, ia, ib, ac, bc, o1, rfl, J1, hx1⟩
      have := J1.la; have := J1.lb; have := J1.len
      omega
    case step1 =>
      rintro y c st' _ hy ⟨rfl, r1, ia1, ib1, ac, bc, o1, rfl, J1, hx1⟩
      dsimp only
      obtain ⟨rfl, m1, la1, lb1, za1, zb1, len1⟩ := J1
      refine wpS_bind (wpS_elem (gB (ib1 - 1) (by omega)) (wpS_bind (wpS_elem (gA (ia1 - 1) (by omega)) (wpS_bind (L _ _ _ _ (mB (ib1 - 1) (by omega)) (mA (ia1 - 1) (by omega)) hk1 ?_)))))
      dsimp only
      cases hw : ltK key (pb.getD (ib1 - 1) 0) (pa.getD (ia1 - 1) 0) with
      | true =>
        simp only [if_true]
        have hw' : key (pb.getD (ib1 - 1) 0) < key (pa.getD (ia1 - 1) 0) := of_decide_eq_true hw
        have m2 : MI (neg key) (pa ++ pb) (o1 ++ [pa.getD (ia1 - 1) 0]) (pa.take (ia1 - 1)).reverse (pb.take ib1).reverse := by
          refine MI.left (by rw [List.singleton_append, ← dA ia1 la1 za1]; exact m1) fun x hx y hy => ?_
          rw [List.mem_singleton.mp hx]
          have := hd m1.sy (dB ib1 (by omega) zb1) y hy
          unfold neg
          omega
        refine wpS_bind (wpS_elem (gA (ia1 - 1) (by omega)) ?_)
        rw [arr_push]
        by_cases c3 : ia1 - 1 = 0
        · rw [if_pos (by simpa using c3), eA, eB]
          exact wpS_pure ⟨rfl, .inl ⟨_, rfl, fin m2 (.inl c3)⟩⟩
        · rw [if_neg (by simpa using c3)]
          have J2 : JH f key pa pb ((o1 ++ [pa.getD (ia1 - 1) 0]).map f).toArray (ia1 - 1) ib1 (o1 ++ [pa.getD (ia1 - 1) 0]) := ⟨rfl, m2, by omega, lb1, by omega, zb1, by simp; omega⟩
          split
          · exact wpS_pure ⟨rfl, .inr ⟨_, _, _, _, _, _, rfl, J2, by simp; omega⟩⟩
          · exact wpS_pure ⟨rfl, _, _, _, _, _, _, rfl, J2, by simp; omega⟩
      | false =>
        simp only [Bool.false_eq_true, if_false]
        have hw' : ¬ key (pb.getD (ib1 - 1) 0) < key (pa.getD (ia1 - 1) 0) := of_decide_eq_false hw
        have m2 : MI (neg key) (pa ++ pb) (o1 ++ [pb.getD (ib1 - 1) 0]) (pa.take ia1).reverse (pb.take (ib1 - 1)).reverse := by
          refine MI.right (by rw [List.singleton_append, ← dB ib1 (by omega) zb1]; exact m1) fun x hx y hy => ?_
          rw [List.mem_singleton.mp hx]
          have := hd m1.sx (dA ia1 la1 za1) y hy
          unfold neg
          omega
        refine wpS_bind (wpS_elem (gB (ib1 - 1) (by omega)) ?_)
        rw [arr_push]
        by_cases c3 : ib1 - 1 = 1
        · rw [if_pos (by simpa using c3), eA, eB]
          exact wpS_pure ⟨rfl, .inl ⟨_, rfl, first m2 c3⟩⟩
        · rw [if_neg (by simpa using c3)]
          have J2 : JH f key pa pb ((o1 ++ [pb.getD (ib1 - 1) 0]).map f).toArray ia1 (ib1 - 1) (o1 ++ [pb.getD (ib1 - 1) 0]) := ⟨rfl, m2, la1, by omega, za1, by omega, by simp; omega⟩
          split
          · exact wpS_pure ⟨rfl, .inr ⟨_, _, _, _, _, _, rfl, J2, by simp; omega⟩⟩
          · exact wpS_pure ⟨rfl, _, _, _, _, _, _, rfl, J2, by simp; omega⟩
    case post1 =>
      rintro c st' ⟨rfl, hc⟩
      rcases hc with ⟨r1, e, hm⟩ | ⟨r1, ia1, ib1, ac, bc, o1, rfl, J1, hx1⟩
      · obtain ⟨c1, c2⟩ := c
        cases e
        exact wpS_pure ⟨hs, r1, rfl, hm⟩
      refine wpS_bind (wpS_lift (wpAny_rule ⟨rfl, ?_⟩))
      refine wpS_bind (wpS_mono (wpS_forRange (I := fun y c st' => SameSt st st' ∧ ∃ r ia ib g ac bc o2, c = (none, ia, ib, r, g, ac, bc) ∧ JH f key pa pb r ia ib o2 ∧ o1.length + y ≤ o2.length)
        (Q := fun c st' => SameSt st st' ∧ ((∃ r, c.1 = some r ∧ MOut f key (pa ++ pb) r) ∨ ∃ r ia ib g ac bc o2, c = (none, ia, ib, r, g, ac, bc) ∧ JH f key pa pb r ia ib o2 ∧ o1.length ≤ o2.length)) ?step2 ?fin2 ⟨hs, r1, ia1, ib1, _, _, _, o1, rfl, J1, by omega⟩) ?post2)
      case fin2 =>
        rintro c st' ⟨hs2, r, ia, ib, g, ac, bc, o2, rfl, J2, hx2⟩
        have := J2.la; have := J2.lb; have := J2.len
        omega
      case post2 =>
        rintro c st' ⟨hs2, hc⟩
        rcases hc with ⟨r2, e, hm⟩ | ⟨r2, ia2, ib2, g2, ac, bc, o2, rfl, J2, hx2⟩
        · obtain ⟨c1, c2⟩ := c
          cases e
          exact wpS_pure ⟨hs2, r2, rfl, hm⟩
        · refine wpS_bind (wpS_modify (wpS_pure ⟨hs2.trans ⟨_, rfl⟩, _, _, _, _, o2, rfl, J2, by omega⟩))
      case step2 =>
        rintro y c st2 _ hy ⟨hs2, r2, ia2, ib2, g2, ac, bc, o2, rfl, J2, hx2⟩
        have hk2 : kindOf st2 = κ := hs2.kind.trans hk
        obtain ⟨rfl, m2, la2, lb2, za2, zb2, len2⟩ := J2
        refine wpS_mono (Q := GH f key pa pb st (o1.length + y)) ?_ ?conv
        case conv =>
          rintro r st' ⟨hs', hr⟩
          cases r with
          | done c =>
            refine ⟨hs', ?_⟩
            rcases hr with hr | ⟨r, ia, ib, g, ac, bc, o2, e, J, hl⟩
            · exact .inl hr
            · exact .inr ⟨r, ia, ib, g, ac, bc, o2, e, J, by omega⟩
          | yield c => exact ⟨hs', hr⟩
        extract_lets s1 ia3 s2 ib3 s3 out2 s4 g3 s5 ac3 bc3 ib4 jp
        have e1 : out2 = (o2.map f).toArray := rfl
        have e2 : ia3 = ia2 := rfl
        have e3 : ib3 = ib2 := rfl
        have e4 : ib4 = ib3 - 1 := rfl
        clear_value ib4 out2 ia3 ib3 g3 ac3 bc3
        clear s1 s2 s3 s4 s5
        subst e1 e2 e3 e4
        refine wpS_jp1 (jp := jp) fun g' => ?_
        refine wpS_bind (wpS_smg fun st3 hs3 => ?_)
        have hk3 : kindOf st3 = κ := hs3.kind.trans hk2
        have hs4 : SameSt st st3 := hs2.trans hs3
        clear jp
        have sxA : Srt key (pa.take ia3) := sa.sub (List.take_sublist _ _)
        refine wpS_bind (wpS_elem (gB (ib3 - 1) (by omega)) (wpS_bind (wp_galT L (mB (ib3 - 1) (by omega)) na za2 (by omega) hk3 sxA fun k hkl t1 t2 => ?_)))
        have m3 : MI (neg key) (pa ++ pb) (o2 ++ ((pa.take ia3).drop k).reverse) (pa.take k).reverse (pb.take ib3).reverse := by
          refine MI.left (by
            rw [← List.reverse_append]
            have : pa.take k ++ (pa.take ia3).drop k = pa.take ia3 := by
              have e := List.take_append_drop k (pa.take ia3)
              rwa [List.take_take, Nat.min_eq_left hkl] at e
            rw [this]
            exact m2) fun x hx y hy => ?_
          have e1 := t2 x (List.mem_reverse.mp hx)
          have e2 := hd m2.sy (dB ib3 (by omega) zb2) y hy
          simp [ltK, -List.getD_eq_getElem?_getD] at e1
          unfold neg
          omega
        have t3 : ∀ x ∈ (pa.take k).reverse, neg key (pb.getD (ib3 - 1) 0) ≤ neg key x := fun x hx => by
          have e1 := t1 x (List.mem_reverse.mp hx)
          simp [ltK, -List.getD_eq_getElem?_getD] at e1
          unfold neg
          omega
        clear t1 t2
        have len3 : (o2 ++ ((pa.take ia3).drop k).reverse).length + k + ib3 = pa.length + pb.length := by simp; omega
        have lo3 : o2.length ≤ (o2 ++ ((pa.take ia3).drop k).reverse).length := by simp
        dsimp -zeta only
        extract_lets kk ak jp out3 ia
        have eo : out3 = ((o2 ++ ((pa.take ia3).drop k).reverse).map f).toArray := by
          show _ ++ _ = _
          rw [arr_exk, eR, arr_app, List.drop_take]
        have ei : ia = k := rfl
        have ekk : kk = ia3 - k := rfl
        clear_value out3 ia ak kk
        subst eo ei
        have hj : ∀ o3 ia4, MI (neg key) (pa ++ pb) o3 (pa.take ia4).reverse (pb.take ib3).reverse → (∀ x ∈ (pa.take ia4).reverse, neg key (pb.getD (ib3 - 1) 0) ≤ neg key x) → o3.length + ia4 + ib3 = pa.length + pb.length → 0 < ia4 → ia4 ≤ pa.length → o1.length + y ≤ o3.length → wpS (model prog w) A E s (jp () ia4 (o3.map f).toArray) (GH f key pa pb st (o1.length + y)) st3 := by
          intro o3 ia4 m3 t3 len3 la4 za4 hl3
          refine wpS_bind (wpS_elem (gB (ib3 - 1) (by omega)) ?_)
          clear jp
          rw [arr_push]
          have m4 : MI (neg key) (pa ++ pb) (o3 ++ [pb.getD (ib3 - 1) 0]) (pa.take ia4).reverse (pb.take (ib3 - 1)).reverse := by
            refine MI.right (by rw [List.singleton_append, ← dB ib3 (by omega) zb2]; exact m3) fun x hx y hy => ?_
            rw [List.mem_singleton.mp hx]
            exact t3 y hy
          have len4 : (o3 ++ [pb.getD (ib3 - 1) 0]).length + ia4 + (ib3 - 1) = pa.length + pb.length := by simp; omega
          have hl4 : o1.length + y + 1 ≤ (o3 ++ [pb.getD (ib3 - 1) 0]).length := by simp; omega
          generalize o3 ++ [pb.getD (ib3 - 1) 0] = o4 at m4 len4 hl4 ⊢
          clear m3 t3 len3 hl3
          have lb4 : 0 < ib3 - 1 := by omega
          have zb4 : ib3 - 1 ≤ pb.length := by omega
          generalize ib3 - 1 = ib4 at *
          extract_lets out4 ia5
          have eo : out4 = (o4.map f).toArray := rfl
          have ei : ia5 = ia4 - 1 := rfl
          clear_value out4 ia5
          subst eo ei
          by_cases c6 : ib4 = 1
          · rw [if_pos (by simpa using c6), eA, eB]
            exact wpS_pure ⟨hs4, .inl ⟨_, rfl, first m4 c6⟩⟩
          rw [if_neg (by simpa using c6)]
          have sxB : Srt key (pb.take ib4) := sb.sub (List.take_sublist _ _)
          refine wpS_bind (wpS_elem (gA (ia4 - 1) (by omega)) (wpS_bind (wp_galT L (mA (ia4 - 1) (by omega)) nb zb4 (by omega) hk3 sxB fun k2 hkl2 t1 t2 => ?_)))
          have m5 : MI (neg key) (pa ++ pb) (o4 ++ ((pb.take ib4).drop k2).reverse) (pa.take ia4).reverse (pb.take k2).reverse := by
            refine MI.right (by
              rw [← List.reverse_append]
              have : pb.take k2 ++ (pb.take ib4).drop k2 = pb.take ib4 := by
                have e := List.take_append_drop k2 (pb.take ib4)
                rwa [List.take_take, Nat.min_eq_left hkl2] at e
              rw [this]
              exact m4) fun x hx y hy => ?_
            have e1 := t2 x (List.mem_reverse.mp hx)
            have e2 := hd m4.sx (dA ia4 (by omega) za4) y hy
            simp [ltK, -List.getD_eq_getElem?_getD] at e1
            unfold neg
            omega
          have t7 : ∀ x ∈ (pb.take k2).reverse, neg key (pa.getD (ia4 - 1) 0) ≤ neg key x := fun x hx => by
            have e1 := t1 x (List.mem_reverse.mp hx)
            simp [ltK, -List.getD_eq_getElem?_getD] at e1
            unfold neg
            omega
          clear t1 t2
          have len5 : (o4 ++ ((pb.take ib4).drop k2).reverse).length + ia4 + k2 = pa.length + pb.length := by simp; omega
          have lo5 : o4.length ≤ (o4 ++ ((pb.take ib4).drop k2).reverse).length := by simp
          dsimp -zeta only
          extract_lets k3 bk jp out5 ib
          have eo : out5 = ((o4 ++ ((pb.take ib4).drop k2).reverse).map f).toArray := by
            show _ ++ _ = _
            rw [arr_exk, eR, arr_app, List.drop_take]
          have ei : ib = k2 := rfl
          have ekk : k3 = ib4 - k2 := rfl
          clear_value out5 ib bk k3
          subst eo ei
          have hj : ∀ o5 ib5, MI (neg key) (pa ++ pb) o5 (pa.take ia4).reverse (pb.take ib5).reverse → (∀ x ∈ (pb.take ib5).reverse, neg key (pa.getD (ia4 - 1) 0) ≤ neg key x) → o5.length + ia4 + ib5 = pa.length + pb.length → 1 < ib5 → ib5 ≤ pb.length → o1.length + y + 1 ≤ o5.length → wpS (model prog w) A E s (jp () ib5 (o5.map f).toArray) (GH f key pa pb st (o1.length + y)) st3 := by
            intro o5 ib5 m5 t7 len5 lb5 zb5 hl5
            refine wpS_bind (wpS_elem (gA (ia4 - 1) (by omega)) ?_)
            clear jp
            rw [arr_push]
            have m6 : MI (neg key) (pa ++ pb) (o5 ++ [pa.getD (ia4 - 1) 0]) (pa.take (ia4 - 1)).reverse (pb.take ib5).reverse := by
              refine MI.left (by rw [List.singleton_append, ← dA ia4 la4 za4]; exact m5) fun x hx y hy => ?_
              rw [List.mem_singleton.mp hx]
              exact t7 y hy
            have len6 : (o5 ++ [pa.getD (ia4 - 1) 0]).length + (ia4 - 1) + ib5 = pa.length + pb.length := by simp; omega
            have hl6 : o5.length ≤ (o5 ++ [pa.getD (ia4 - 1) 0]).length := by simp
            generalize o5 ++ [pa.getD (ia4 - 1) 0] = o6 at m6 len6 hl6 ⊢
            extract_lets out6
            by_cases c7 : ia4 - 1 = 0
            · rw [if_pos (by simpa using c7), eA, eB]
              exact wpS_pure ⟨hs4, .inl ⟨_, rfl, fin m6 (.inl c7)⟩⟩
            rw [if_neg (by simpa using c7)]
            have J6 : JH f key pa pb (o6.map f).toArray (ia4 - 1) ib5 o6 := ⟨rfl, m6, by omega, lb5, by omega, zb5, len6⟩
            split
            · exact wpS_pure ⟨hs4, .inr ⟨_, _, _, _, _, _, o6, rfl, J6, by omega⟩⟩
            · exact wpS_pure ⟨hs4, _, _, _, _, _, _, o6, rfl, J6, by omega⟩
          by_cases c7 : k3 > 0
          · rw [if_pos c7]
            by_cases c8 : ib = 1
            · rw [if_pos (by simpa using c8), eA, eB]
              exact wpS_pure ⟨hs4, .inl ⟨_, rfl, first m5 c8⟩⟩
            rw [if_neg (by simpa using c8)]
            by_cases c9 : ib = 0
            · rw [if_pos (by simpa using c9), eA, eB]
              exact wpS_pure ⟨hs4, .inl ⟨_, rfl, fin m5 (.inr c9)⟩⟩
            rw [if_neg (by simpa using c9)]
            exact hj _ _ m5 t7 len5 (by omega) (by omega) (by omega)
          · rw [if_neg c7]
            have ek : ib = ib4 := by omega
            subst ek
            rw [List.drop_of_length_le (by simp; omega), List.reverse_nil, List.append_nil] at m5
            exact hj _ _ m5 t7 len4 (by omega) zb4 hl4
        by_cases c3 : kk > 0
        · rw [if_pos c3]
          by_cases c4 : ia = 0
          · rw [if_pos (by simpa using c4), eA, eB]
            exact wpS_pure ⟨hs4, .inl ⟨_, rfl, fin m3 (.inl c4)⟩⟩
          rw [if_neg (by simpa using c4)]
          exact hj _ _ m3 t3 len3 (by omega) (by omega) (by omega)
        · rw [if_neg c3]
          have ek : ia = ia3 := by omega
          subst ek
          rw [List.drop_of_length_le (by simp; omega), List.reverse_nil, List.append_nil] at m3
          exact hj _ _ m3 t3 len2 la2 za2 hx2
end
section
open PySem.W hiding kindOf
variable {prog : Program} {w : World} {A : Around} {E : Value → Shared → Prop} {s : Shared} {κ : SortKind} {f : Nat → Keyed} {key : Nat → Int} {n : Nat}
structure SS (κ : SortKind) (f : Nat → Keyed) (n : Nat) (st : SortSt) (p : List Nat) : Prop where
  kind : kindOf st = κ
  ok : failedOf st = none
  arr : arrOf st = (p.map f).toArray
  perm : p.Perm (List.range n)
theorem SS.inN {st : SortSt} {p : List Nat} (h : SS κ f n st p) : InN n p := fun x hx => List.mem_range.mp (h.perm.mem_iff.mp hx)
theorem SS.len {st : SortSt} {p : List Nat} (h : SS κ f n st p) : p.length = n := by rw [h.perm.length_eq, List.length_range]
theorem foldl_set {β : Type} : ∀ (o v u t : List β), v.length = o.length → (o.zipIdx u.length).foldl (fun a (p : β × Nat) => a.setIfInBounds p.2 p.1) (u ++ (v ++ t)).toArray = (u ++ (o ++ t)).toArray
  | [], [], u, t, _ => rfl
  | x :: o, y :: v, u, t, h => by
    rw [List.zipIdx_cons, List.foldl_cons]
    have e : ((u ++ (y :: v ++ t)).toArray.setIfInBounds u.length x) = ((u ++ [x]) ++ (v ++ t)).toArray := by
      rw [List.setIfInBounds_toArray]
      congr 1
      rw [List.set_append_right _ _ (Nat.le_refl _), Nat.sub_self]
      simp
    show List.foldl _ ((u ++ (y :: v ++ t)).toArray.setIfInBounds u.length x) _ = _
    rw [e]
    have := foldl_set o v (u ++ [x]) t (by simpa using h)
    rw [List.length_append, List.length_singleton] at this
    rw [this]
    simp
theorem foldl_setO {β : Type} (o v u t : List β) (h : v.length = o.length) : o.zipIdx.foldl (fun a (p : β × Nat) => a.setIfInBounds (u.length + p.2) p.1) (u ++ (v ++ t)).toArray = (u ++ (o ++ t)).toArray := by
  rw [← foldl_set o v u t h]
  rw [List.zipIdx_eq_map_add (l := o) (i := u.length), List.foldl_map]
theorem wp_mergeAt (L : LtOk prog w A E s κ f key n) {st : SortSt} {u a b t : List Nat} {pd : Array (Nat × Nat × Nat)} {i wa wb : Nat} {Q : Bool → SortSt → Prop} (S : SS κ f n st (u ++ (a ++ (b ++ t)))) (hp : pendingOf st = pd) (h1 : pd[i]? = some (u.length, a.length, wa)) (h2 : pd[i + 1]? = some (u.length + a.length, b.length, wb))
    (sa : Srt key a) (sb : Srt key b) (la : 0 < a.length) (lb : 0 < b.length)
    (h : ∀ st' m, m.Perm (a ++ b) → Srt key m → SS κ f n st' (u ++ (m ++ t)) → pendingOf st' = (pd.setIfInBounds i (u.length, a.length + b.length, wa)).eraseIdxIfInBounds (i + 1) → Q true st') :
    wpS (model prog w) A E s (mergeAt' i) Q st := by
  obtain ⟨kd, ar, pe, g, fl⟩ := st
  obtain ⟨S1, S2, S3, S4⟩ := S
  have S1 : kd = κ := S1
  have S2 : fl = none := S2
  have S3 : ar = ((u ++ (a ++ (b ++ t))).map f).toArray := S3
  have hp : pe = pd := hp
  subst S1 S2 S3 hp
  refine wpS_bind (wpS_get ?_)
  have hP : InN n (u ++ (a ++ (b ++ t))) := fun x hx => List.mem_range.mp (S4.mem_iff.mp hx)
  have hb0 : (u ++ (a ++ (b ++ t)))[u.length + a.length]? = some (b.getD 0 0) := by
    rw [List.getElem?_append_right (by omega), List.getElem?_append_right (by omega), List.getElem?_append_left (by omega)]
    have : u.length + a.length - u.length - a.length = 0 := by omega
    rw [this]
    simp [lb]
  have bN : b.getD 0 0 < n := hP _ (List.mem_of_getElem? hb0)
  have ds : (u ++ (a ++ (b ++ t))).drop u.length = a ++ (b ++ t) := List.drop_left
  have db : (u ++ (a ++ (b ++ t))).drop (u.length + a.length) = b ++ t := by rw [← List.drop_drop, ds, List.drop_left]
  have hsb : b = b.getD 0 0 :: b.drop 1 := by
    have e := List.drop_eq_getElem_cons (l := b) (i := 0) lb
    rw [List.drop_zero] at e
    rw [show b.getD 0 0 = b[0] by simp [lb]]
    exact e
  have hbm : ∀ y ∈ b, key (b.getD 0 0) ≤ key y := fun y hy => by
    have sb' := sb
    rw [hsb] at sb'
    rw [hsb] at hy
    rcases List.mem_cons.mp hy with e | e
    · rw [e]; exact Int.le_refl _
    · exact (List.pairwise_cons.mp sb').1 y e
  have hla : (u ++ (a ++ (b ++ t)))[u.length + a.length - 1]? = some (a.getD (a.length - 1) 0) := by
    rw [List.getElem?_append_right (by omega), List.getElem?_append_left (by omega)]
    rw [show u.length + a.length - 1 - u.length = a.length - 1 by omega]
    have : a.length - 1 < a.length := by omega
    simp [this]
  have aN : a.getD (a.length - 1) 0 < n := hP _ (List.mem_of_getElem? hla)
  have ham : ∀ y ∈ a, key y ≤ key (a.getD (a.length - 1) 0) := fun y hy => by
    obtain ⟨j, hj, ej⟩ := List.getElem_of_mem hy
    have hz : a.length - 1 < a.length := by omega
    rw [← ej, show a.getD (a.length - 1) 0 = a[a.length - 1] by simp [hz]]
    rcases Nat.lt_or_ge j (a.length - 1) with e | e
    · exact List.pairwise_iff_getElem.mp sa j (a.length - 1) hj (by omega) e
    · have : j = a.length - 1 := by omega
      subst this
      exact Int.le_refl _
  dsimp -zeta only
  rw [h1, h2]
  dsimp -zeta only
  refine wpS_bind (wpS_modify ?_)
  have sega : ((u ++ (a ++ (b ++ t))).drop u.length).take a.length = a := by rw [ds, List.take_left]
  have segb : ((u ++ (a ++ (b ++ t))).drop (u.length + a.length)).take b.length = b := by rw [db, List.take_left]
  have done : ∀ st', kindOf st' = kd → failedOf st' = none → arrOf st' = ((u ++ (a ++ (b ++ t))).map f).toArray → pendingOf st' = (pe.setIfInBounds i (u.length, a.length + b.length, wa)).eraseIdxIfInBounds (i + 1) → Srt key (a ++ b) → Q true st' := fun st' q1 q2 q3 q4 q5 =>
    h st' (a ++ b) (List.Perm.refl _) q5 ⟨q1, q2, by rw [q3, List.append_assoc], by rw [List.append_assoc]; exact S4⟩ q4
  refine wpS_bind (wpS_elem hb0 (wpS_bind (wp_gal L bN hP (by simp) la rfl (by rw [sega]; exact sa) fun k hk t1 t2 => ?_)))
  rw [sega] at t1 t2
  have t1' : ∀ x ∈ a.take k, key x ≤ key (b.getD 0 0) := fun x hx => by
    have e1 := t1 x hx
    simp [ltK, -List.getD_eq_getElem?_getD] at e1
    omega
  have t2' : ∀ x ∈ a.drop k, key (b.getD 0 0) < key x := fun x hx => by
    have e1 := t2 x hx
    simp [ltK, -List.getD_eq_getElem?_getD] at e1
    omega
  clear t1 t2
  dsimp -zeta only
  by_cases c1 : a.length - k = 0
  · rw [if_pos (by simpa using c1)]
    refine wpS_pure (done _ rfl rfl rfl rfl (List.pairwise_append.mpr ⟨sa, sb, fun x hx y hy => ?_⟩))
    have := t1' x (by rw [List.take_of_length_le (by omega)]; exact hx)
    have := hbm y hy
    omega
  rw [if_neg (by simpa using c1)]
  have ek : u.length + k + (a.length - k) - 1 = u.length + a.length - 1 := by omega
  rw [ek]
  refine wpS_bind (wpS_elem hla (wpS_bind (wp_gal L aN hP (by simp; omega) (by omega) rfl (by rw [segb]; exact sb) fun m hm t1 t2 => ?_)))
  rw [segb] at t1 t2
  have t3' : ∀ x ∈ b.take m, key x < key (a.getD (a.length - 1) 0) := fun x hx => by
    have e1 := t1 x hx
    simp [ltK, -List.getD_eq_getElem?_getD] at e1
    omega
  have t4' : ∀ x ∈ b.drop m, key (a.getD (a.length - 1) 0) ≤ key x := fun x hx => by
    have e1 := t2 x hx
    simp [ltK, -List.getD_eq_getElem?_getD] at e1
    omega
  clear t1 t2
  dsimp -zeta only
  by_cases c2 : m = 0
  · rw [if_pos (by simpa using c2)]
    refine wpS_pure (done _ rfl rfl rfl rfl (List.pairwise_append.mpr ⟨sa, sb, fun x hx y hy => ?_⟩))
    have := t4' y (by rw [c2, List.drop_zero]; exact hy)
    have := ham x hx
    omega
  rw [if_neg (by simpa using c2)]
  extract_lets xx yy jp
  have ex : xx = ((a.drop k).map f).toArray := by
    show Array.extract _ _ _ = _
    rw [arr_exk, ← List.drop_drop, ds]
    congr 2
    rw [List.drop_append_of_le_length hk, List.take_left' (by simp; omega)]
  have ey : yy = ((b.take m).map f).toArray := by
    show Array.extract _ _ _ = _
    rw [arr_exk, db]
    congr 2
    rw [Nat.add_sub_cancel_left, List.take_append_of_le_length hm]
  clear_value xx yy
  subst ex ey
  have hjp : ∀ r st', SameSt (SortSt.mk' kd ((u ++ (a ++ (b ++ t))).map f).toArray ((pe.setIfInBounds i (u.length, a.length + b.length, wa)).eraseIdxIfInBounds (i + 1)) g none) st' → MOut f key (a.drop k ++ b.take m) r → wpS (model prog w) A E s (jp r) Q st' := by
    rintro r st' ⟨g', rfl⟩ ⟨o, rfl, po, so⟩
    refine wpS_bind (wpS_modify (wpS_bind (wpS_get (wpS_pure ?_))))
    have pm : (a.take k ++ (o ++ b.drop m)).Perm (a ++ b) := by
      refine ((List.Perm.refl _).append (po.append_right _)).trans ?_
      rw [List.append_assoc, List.take_append_drop, ← List.append_assoc, List.take_append_drop]
    refine h _ (a.take k ++ (o ++ b.drop m)) pm ?_ ⟨rfl, rfl, ?_, ?_⟩ rfl
    · have mo : ∀ x ∈ o, x ∈ a.drop k ∨ x ∈ b.take m := fun x hx => List.mem_append.mp (po.mem_iff.mp hx)
      refine List.pairwise_append.mpr ⟨sa.sub (List.take_sublist _ _), List.pairwise_append.mpr ⟨so, sb.sub (List.drop_sublist _ _), fun x hx y hy => ?_⟩, fun x hx y hy => ?_⟩
      · have e4 := t4' y hy
        rcases mo x hx with e | e
        · have := ham x (List.mem_of_mem_drop e); omega
        · have := t3' x e; omega
      · have e1 := t1' x hx
        rcases List.mem_append.mp hy with e | e
        · rcases mo y e with e | e
          · have := t2' y e; omega
          · have := hbm y (List.mem_of_mem_take e); omega
        · have := hbm y (List.mem_of_mem_drop e); omega
    · show List.foldl _ ((u ++ (a ++ (b ++ t))).map f).toArray ((o.map f).toArray.toList.zipIdx) = _
      have e0 : (u ++ (a ++ (b ++ t))).map f = ((u ++ a.take k).map f) ++ (((a.drop k ++ b.take m).map f) ++ ((b.drop m ++ t).map f)) := by
        rw [← List.map_append, ← List.map_append]
        congr 1
        rw [List.append_assoc, List.append_assoc]
        congr 1
        rw [← List.append_assoc (b.take m), List.take_append_drop, ← List.append_assoc (a.take k), List.take_append_drop]
      have el : u.length + k = ((u ++ a.take k).map f).length := by simp; omega
      rw [e0, el]
      have := foldl_setO (o.map f) ((a.drop k ++ b.take m).map f) ((u ++ a.take k).map f) ((b.drop m ++ t).map f) (by simp [po.length_eq])
      refine this.trans ?_
      simp
    · refine List.Perm.trans ?_ S4
      rw [← List.append_assoc a b t]
      exact (pm.append_right _).append_left _
  clear_value jp
  have nA : InN n (a.drop k) := fun x hx => hP x (List.mem_append_right _ (List.mem_append_left _ (List.mem_of_mem_drop hx)))
  have nB : InN n (b.take m) := fun x hx => hP x (List.mem_append_right _ (List.mem_append_right _ (List.mem_append_left _ (List.mem_of_mem_take hx))))
  have f1 : ∀ y ∈ a.drop k, key ((b.take m).getD 0 0) ≤ key y := fun y hy => by
    have e : (b.take m).getD 0 0 = b.getD 0 0 := by
      obtain ⟨m', rfl⟩ : ∃ m', m = m' + 1 := ⟨m - 1, by omega⟩
      rw [hsb]; rfl
    rw [e]
    exact Int.le_of_lt (t2' y hy)
  have f2 : ∀ y ∈ b.take m, key y ≤ key ((a.drop k).getD ((a.drop k).length - 1) 0) := fun y hy => by
    have e : (a.drop k).getD ((a.drop k).length - 1) 0 = a.getD (a.length - 1) 0 := by
      rw [List.length_drop, List.getD_eq_getElem?_getD, List.getD_eq_getElem?_getD, List.getElem?_drop]
      congr 2
      omega
    rw [e]
    exact Int.le_of_lt (t3' y hy)
  split
  · exact wpS_bind (wp_mergeLo L nA nB rfl (sa.sub (List.drop_sublist _ _)) (sb.sub (List.take_sublist _ _)) (by simp; omega) (by simp; omega) f1 f2 fun r st' q1 q2 => hjp r st' q1 q2)
  · exact wpS_bind (wp_mergeHi L nA nB rfl (sa.sub (List.drop_sublist _ _)) (sb.sub (List.take_sublist _ _)) (by simp; omega) (by simp; omega) f1 f2 fun r st' q1 q2 => hjp r st' q1 q2)
end
section
open PySem.W hiding kindOf
variable {prog : Program} {w : World} {A : Around} {E : Value → Shared → Prop} {s : Shared} {κ : SortKind} {f : Nat → Keyed} {key : Nat → Int} {n : Nat}
noncomputable def kG (key : Nat → Int) (p : List Nat) (i : Nat) : Int := key (p.getD i 0)
noncomputable def Sg (key : Nat → Int) (p : List Nat) (lo hi : Nat) : Prop := ∀ i j, lo ≤ i → i ≤ j → j < hi → kG key p i ≤ kG key p j
noncomputable def Dg (key : Nat → Int) (p : List Nat) (lo hi : Nat) : Prop := ∀ i j, lo ≤ i → i ≤ j → j < hi → kG key p j ≤ kG key p i
noncomputable def Fx (lo : Nat) (p p' : List Nat) : Prop := ∀ i, i < lo → p'.getD i 0 = p.getD i 0
theorem Fx.refl {lo : Nat} (p : List Nat) : Fx lo p p := fun _ _ => rfl
theorem Fx.trans {lo : Nat} {p q r : List Nat} (h : Fx lo p q) (k : Fx lo q r) : Fx lo p r := fun i hi => (k i hi).trans (h i hi)
noncomputable def rv (p : List Nat) (i j : Nat) : List Nat := (kas_rev p.toArray i j).toList
noncomputable def bb (p : List Nat) (src d : Nat) : List Nat := (bubble p.toArray src d).toList
theorem rv_get {p : List Nat} {i j : Nat} (hj : j ≤ p.length) (k : Nat) : (rv p i j).getD k 0 = if i ≤ k ∧ k < j then p.getD (i + j - 1 - k) 0 else p.getD k 0 := by
  have e := getElem?_mirror_all (xs := p.toArray) (i := i) (j := j) (by simpa using hj) k
  unfold rv kas_rev
  rw [List.getD_eq_getElem?_getD, Array.getElem?_toList, e]
  split <;> simp
theorem bb_get {p : List Nat} {src d : Nat} (hs : src < p.length) (hd : d ≤ src) (k : Nat) : (bb p src d).getD k 0 = if k = src - d then p.getD src 0 else if src - d < k ∧ k ≤ src then p.getD (k - 1) 0 else p.getD k 0 := by
  have e := getElem?_bubble (xs := p.toArray) (src := src) (by simpa using hs) d hd k
  unfold bb
  rw [List.getD_eq_getElem?_getD, Array.getElem?_toList, e]
  split
  · simp
  · split <;> simp
theorem rv_perm {p : List Nat} {i j : Nat} : (rv p i j).Perm p := Array.perm_iff_toList_perm.mp (mirror_perm p.toArray i j _)
theorem bb_perm {p : List Nat} {i j : Nat} : (bb p i j).Perm p := Array.perm_iff_toList_perm.mp (bubble_perm p.toArray i j)
theorem rv_fx {p : List Nat} {i j lo : Nat} (hj : j ≤ p.length) (hi : lo ≤ i) : Fx lo p (rv p i j) := fun k hk => by rw [rv_get hj, if_neg (by omega)]
theorem wpS_revS {st : SortSt} {p : List Nat} {i j : Nat} {Q : Unit → SortSt → Prop} (S : SS κ f n st p) (h : ∀ st', SS κ f n st' (rv p i j) → pendingOf st' = pendingOf st → Q () st') : wpS (model prog w) A E s (reverseSlice' i j) Q st := by
  rw [reverseSlice'_eq]
  refine wpS_modify (h _ ⟨S.kind, S.ok, ?_, rv_perm.trans S.perm⟩ rfl)
  show mirror (arrOf st) i j ((j - i) / 2) = _
  rw [S.arr]
  have e1 : mirror (p.toArray.map f) i j ((j - i) / 2) = (mirror p.toArray i j ((j - i) / 2)).map f := kas_swaps_map f (fun k => i + k) (fun k => j - 1 - k) _ p.toArray
  have e2 : (p.map f).toArray = p.toArray.map f := by simp
  rw [e2, e1]
  unfold rv kas_rev
  apply Array.toList_inj.mp
  simp
theorem wpS_movS {st : SortSt} {p : List Nat} {k l : Nat} {Q : Unit → SortSt → Prop} (S : SS κ f n st p) (h : ∀ st', SS κ f n st' (bb p k (k - l)) → pendingOf st' = pendingOf st → Q () st') : wpS (model prog w) A E s (moveDown' k l) Q st := by
  rw [moveDown'_eq]
  refine wpS_modify (h _ ⟨S.kind, S.ok, ?_, bb_perm.trans S.perm⟩ rfl)
  show bubble (arrOf st) k (k - l) = _
  rw [S.arr]
  have e1 : bubble (p.toArray.map f) k (k - l) = (bubble p.toArray k (k - l)).map f := kas_swaps_map f (fun i => k - i) (fun i => k - i - 1) _ p.toArray
  have e2 : (p.map f).toArray = p.toArray.map f := by simp
  rw [e2, e1]
  unfold bb
  apply Array.toList_inj.mp
  simp
theorem wpS_ltS (L : LtOk prog w A E s κ f key n) {st : SortSt} {p : List Nat} {i j : Nat} {Q : Option Bool → SortSt → Prop} (S : SS κ f n st p) (hi : i < n) (hj : j < n) (h : Q (some (decide (kG key p i < kG key p j))) st) : wpS (model prog w) A E s (ltAt' i j) Q st := by
  have hl := S.len
  have gi : p[i]? = some (p.getD i 0) := by have : i < p.length := by omega
                                            simp [this]
  have gj : p[j]? = some (p.getD j 0) := by have : j < p.length := by omega
                                            simp [this]
  rw [ltAt'_eq]
  refine wpS_bind (wpS_get ?_)
  rw [S.arr]
  refine wpS_bind (wpS_elem gi (wpS_bind (wpS_elem gj ?_)))
  exact L _ _ _ _ (S.inN _ (List.mem_of_getElem? gi)) (S.inN _ (List.mem_of_getElem? gj)) S.kind h
theorem Sg.step {p : List Nat} {lo m : Nat} (h : Sg key p lo (lo + m)) (h1 : 1 ≤ m) (hl : ¬ kG key p (lo + m) < kG key p (lo + m - 1)) : Sg key p lo (lo + (m + 1)) := fun i j hi hij hj => by
  by_cases hjx : j < lo + m
  · exact h i j hi hij hjx
  · have ej : j = lo + m := by omega
    subst ej
    by_cases hi' : i = lo + m
    · subst hi'; exact Int.le_refl _
    · have := h i (lo + m - 1) hi (by omega) (by omega)
      omega
theorem Dg.step {p : List Nat} {lo m : Nat} (h : Dg key p lo (lo + m)) (h1 : 1 ≤ m) (hl : kG key p (lo + m) ≤ kG key p (lo + m - 1)) : Dg key p lo (lo + (m + 1)) := fun i j hi hij hj => by
  by_cases hjx : j < lo + m
  · exact h i j hi hij hjx
  · have ej : j = lo + m := by omega
    subst ej
    by_cases hi' : i = lo + m
    · subst hi'; exact Int.le_refl _
    · have := h i (lo + m - 1) hi (by omega) (by omega)
      omega
theorem asc_gen {st : SortSt} {p : List Nat} {lo nrem a : Nat} (S : SS κ f n st p) (hn : lo + nrem ≤ n) (ha : 1 ≤ a) (han : a ≤ nrem) (hs : Sg key p lo (lo + a)) {F : Nat → Option (Option Nat) × Nat → StateT SortSt Sem (ForInStep (Option (Option Nat) × Nat))}
    (hF : ∀ x m (R : ForInStep (Option (Option Nat) × Nat) → SortSt → Prop), 1 ≤ m → lo + m < n → (kG key p (lo + m) < kG key p (lo + m - 1) → R (.done (none, m)) st) → (¬ kG key p (lo + m) < kG key p (lo + m - 1) → R (.yield (none, m + 1)) st) → wpS (model prog w) A E s (F x (none, m)) R st) :
    wpS (model prog w) A E s (forIn [a:nrem] (none, a) F) (fun c st' => st' = st ∧ ∃ m, c = (none, m) ∧ a ≤ m ∧ m ≤ nrem ∧ Sg key p lo (lo + m) ∧ (m = nrem ∨ kG key p (lo + m) < kG key p (lo + m - 1))) st := by
  refine wpS_forRange (I := fun x c st' => st' = st ∧ c = (none, x) ∧ Sg key p lo (lo + x)) ?step ?fin ⟨rfl, rfl, hs⟩
  case fin =>
    rintro c st' ⟨rfl, rfl, hs'⟩
    rw [show max a nrem = nrem by omega] at hs' ⊢
    exact ⟨rfl, nrem, rfl, han, Nat.le_refl _, hs', .inl rfl⟩
  case step =>
    rintro x c st' hax hxn ⟨rfl, rfl, hs'⟩
    exact hF x x _ (by omega) (by omega) (fun e => ⟨rfl, x, rfl, hax, by omega, hs', .inr e⟩) fun e => ⟨rfl, rfl, hs'.step (by omega) e⟩
noncomputable def Al (key : Nat → Int) (p : List Nat) (m q : Nat) : Prop := ∀ i, m - (q + 1) ≤ i → i < m → kG key p i = kG key p (m - 1)
theorem rv_al {p : List Nat} {m q : Nat} (hn : m ≤ p.length) (ha : Al key p m q) (k : Nat) : kG key (rv p (m - (q + 1)) m) k = kG key p k := by
  show key _ = key _
  rw [rv_get hn]
  split
  · exact (ha _ (by omega) (by omega)).trans (ha k (by omega) (by omega)).symm
  · rfl
theorem desc_gen {st : SortSt} {p : List Nat} {lo nrem a : Nat} (S : SS κ f n st p) (hn : lo + nrem ≤ n) (ha : 1 ≤ a) (han : a ≤ nrem) (hs : Dg key p lo (lo + a)) {F : Nat → Option (Option Nat) × Nat × Nat → StateT SortSt Sem (ForInStep (Option (Option Nat) × Nat × Nat))}
    (hF : ∀ x m q st p (R : ForInStep (Option (Option Nat) × Nat × Nat) → SortSt → Prop), SS κ f n st p → 1 ≤ m → lo + m < n →
      (kG key p (lo + m) < kG key p (lo + m - 1) → q > 0 → ∀ st', SS κ f n st' (rv p (lo + m - (q + 1)) (lo + m)) → pendingOf st' = pendingOf st → R (.yield (none, m + 1, 0)) st') →
      (kG key p (lo + m) < kG key p (lo + m - 1) → ¬ q > 0 → R (.yield (none, m + 1, 0)) st) →
      (¬ kG key p (lo + m) < kG key p (lo + m - 1) → kG key p (lo + m - 1) < kG key p (lo + m) → R (.done (none, m, q)) st) →
      (¬ kG key p (lo + m) < kG key p (lo + m - 1) → ¬ kG key p (lo + m - 1) < kG key p (lo + m) → R (.yield (none, m + 1, q + 1)) st) → wpS (model prog w) A E s (F x (none, m, q)) R st) :
    wpS (model prog w) A E s (forIn [a:nrem] (none, a, 0) F) (fun c st' => ∃ m q p', c = (none, m, q) ∧ SS κ f n st' p' ∧ pendingOf st' = pendingOf st ∧ Fx lo p p' ∧ a ≤ m ∧ m ≤ nrem ∧ Dg key p' lo (lo + m) ∧ q + 1 ≤ m ∧ Al key p' (lo + m) q) st := by
  refine wpS_forRange (I := fun x c st' => ∃ q p', c = (none, x, q) ∧ SS κ f n st' p' ∧ pendingOf st' = pendingOf st ∧ Fx lo p p' ∧ Dg key p' lo (lo + x) ∧ q + 1 ≤ x ∧ Al key p' (lo + x) q) ?step ?fin ⟨0, p, rfl, S, rfl, Fx.refl _, hs, by omega, fun i h1 h2 => by rw [show i = lo + a - 1 by omega]⟩
  case fin =>
    rintro c st' ⟨q, p', rfl, S', e1, e2, e3, e4, e5⟩
    rw [show max a nrem = nrem by omega] at *
    exact ⟨nrem, q, p', rfl, S', e1, e2, han, Nat.le_refl _, e3, e4, e5⟩
  case step =>
    rintro x c st' hax hxn ⟨q, p', rfl, S', e1, e2, e3, e4, e5⟩
    have hl := S'.len
    have al0 : ∀ p, Al key p (lo + (x + 1)) 0 := fun p i h1 h2 => by rw [show i = lo + (x + 1) - 1 by omega]
    refine hF x x q st' p' _ S' (by omega) (by omega) (fun c1 c2 st2 S2 q2 => ?_) (fun c1 c2 => ?_) (fun c1 c2 => ?_) (fun c1 c2 => ?_)
    · refine ⟨0, _, rfl, S2, q2.trans e1, e2.trans (rv_fx (by omega) (by omega)), ?_, by omega, al0 _⟩
      have hd : Dg key (rv p' (lo + x - (q + 1)) (lo + x)) lo (lo + x) := fun i j h1 h2 h3 => by
        rw [rv_al (by omega) e5, rv_al (by omega) e5]
        exact e3 i j h1 h2 h3
      refine hd.step (by omega) ?_
      rw [rv_al (by omega) e5, rv_al (by omega) e5]
      omega
    · exact ⟨0, p', rfl, S', e1, e2, e3.step (by omega) (by omega), by omega, al0 _⟩
    · exact ⟨x, q, p', rfl, S', e1, e2, hax, by omega, e3, e4, e5⟩
    · refine ⟨q + 1, p', rfl, S', e1, e2, e3.step (by omega) (by omega), by omega, fun i h1 h2 => ?_⟩
      have ee : kG key p' (lo + x) = kG key p' (lo + x - 1) := by omega
      rw [show lo + (x + 1) - 1 = lo + x by omega]
      by_cases hi : i = lo + x
      · rw [hi]
      · rw [ee]; exact e5 i (by omega) (by omega)
theorem wp_countRun (L : LtOk prog w A E s κ f key n) {st : SortSt} {p : List Nat} {lo nrem : Nat} {Q : Option Nat → SortSt → Prop} (S : SS κ f n st p) (hn : lo + nrem ≤ n) (h1 : 1 ≤ nrem)
    (h : ∀ m st' p', SS κ f n st' p' → pendingOf st' = pendingOf st → 1 ≤ m → m ≤ nrem → Sg key p' lo (lo + m) → Fx lo p p' → Q (some m) st') : wpS (model prog w) A E s (countRun' lo nrem) Q st := by
  rw [countRun'_eq]
  dsimp only
  have hl := S.len
  refine wpS_bind (wpS_mono (asc_gen (key := key) S hn (Nat.le_refl 1) h1 (fun i j a1 a2 a3 => by rw [show i = j by omega]; exact Int.le_refl _) ?body) ?post)
  case body =>
    intro x m R b1 b2 r1 r2
    refine wpS_bind (wpS_ltS L S (by omega) (by omega) ?_)
    by_cases c : kG key p (lo + m) < kG key p (lo + m - 1)
    · rw [decide_eq_true c]; exact wpS_pure (r1 c)
    · rw [decide_eq_false c]; exact wpS_pure (r2 c)
  case post =>
    rintro c st' ⟨rfl, m, rfl, hm1, hm2, hs, hor⟩
    dsimp only
    by_cases c1 : m = nrem
    · rw [if_pos (by simpa using c1)]
      exact wpS_pure (h m st' p S rfl hm1 hm2 hs (Fx.refl _))
    rw [if_neg (by simpa using c1)]
    have hlt := hor.resolve_left c1
    by_cases c2 : m > 1
    case' pos =>
      rw [if_pos c2]
      refine wpS_bind (wpS_ltS L S (by omega) (by omega) ?_)
      by_cases c3 : kG key p lo < kG key p (lo + m - 1)
      · rw [decide_eq_true c3]
        exact wpS_pure (h m st' p S rfl hm1 hm2 hs (Fx.refl _))
      rw [decide_eq_false c3]
      simp only [Bool.false_eq_true, if_false]
      have al : ∀ i, lo ≤ i → i < lo + m → kG key p i = kG key p (lo + m - 1) := fun i a1 a2 => by
        have := hs lo i (Nat.le_refl _) a1 a2
        have := hs i (lo + m - 1) a1 (by omega) (by omega)
        omega
      refine wpS_bind (wpS_revS S fun st1 S1 q1 => ?_)
      have f1 : Fx lo p (rv p lo (lo + m)) := rv_fx (by omega) (Nat.le_refl _)
      have ek : ∀ k, kG key (rv p lo (lo + m)) k = kG key p k := fun k => by
        have := rv_al (key := key) (p := p) (m := lo + m) (q := m - 1) (by omega) (fun i a1 a2 => al i (by omega) a2) k
        rwa [show lo + m - (m - 1 + 1) = lo by omega] at this
      have d1 : Dg key (rv p lo (lo + m)) lo (lo + (m + 1)) := by
        refine Dg.step (fun i j a1 a2 a3 => ?_) hm1 ?_
        · rw [ek, ek, al i a1 (by omega), al j (by omega) a3]; exact Int.le_refl _
        · rw [ek, ek]; omega
    case' neg =>
      rw [if_neg c2]
      have f1 : Fx lo p p := Fx.refl _
      have S1 := S
      have q1 : pendingOf st' = pendingOf st' := rfl
      have d1 : Dg key p lo (lo + (m + 1)) := by
        refine Dg.step (fun i j a1 a2 a3 => by rw [show i = j by omega]; exact Int.le_refl _) hm1 (by omega)
    all_goals
      refine wpS_bind (wpS_lift (wpAny_rule ⟨rfl, ?_⟩))
      refine wpS_bind (wpS_mono (desc_gen (key := key) S1 hn (by omega) (by omega) d1 ?body2) ?post2)
      case body2 =>
        intro x m q st p R S b1 b2 r1 r2 r3 r4
        dsimp only
        refine wpS_bind (wpS_ltS L S (by omega) (by omega) ?_)
        by_cases c : kG key p (lo + m) < kG key p (lo + m - 1)
        · rw [decide_eq_true c]
          simp only [if_true]
          by_cases c' : q > 0
          · rw [if_pos c']
            exact wpS_bind (wpS_revS S fun st' S' e' => wpS_pure (r1 c c' st' S' e'))
          · rw [if_neg c']
            exact wpS_pure (r2 c c')
        · rw [decide_eq_false c]
          simp only [Bool.false_eq_true, if_false]
          refine wpS_bind (wpS_ltS L S (by omega) (by omega) ?_)
          by_cases c' : kG key p (lo + m - 1) < kG key p (lo + m)
          · rw [decide_eq_true c']
            exact wpS_pure (r3 c c')
          · rw [decide_eq_false c']
            exact wpS_pure (r4 c c')
      case post2 =>
        rintro c st2 ⟨m2, q2, p2, rfl, S2, e2, f2, g1, g2, d2, g3, al2⟩
        have hl2 := S2.len
        dsimp only
        by_cases c4 : q2 > 0
        case' pos =>
          rw [if_pos c4]
          refine wpS_bind (wpS_revS S2 fun st3 S3 e3 => ?_)
          have f3 := f2.trans (rv_fx (p := p2) (i := lo + m2 - (q2 + 1)) (j := lo + m2) (lo := lo) (by omega) (by omega))
          have d3 : Dg key (rv p2 (lo + m2 - (q2 + 1)) (lo + m2)) lo (lo + m2) := fun i j a1 a2 a3 => by
            rw [rv_al (by omega) al2, rv_al (by omega) al2]
            exact d2 i j a1 a2 a3
          generalize rv p2 (lo + m2 - (q2 + 1)) (lo + m2) = p3 at S3 f3 d3
        case' neg =>
          rw [if_neg c4]
          have S3 := S2
          have e3 : pendingOf st2 = pendingOf st2 := rfl
          have f3 := f2
          have d3 := d2
          generalize p2 = p3 at S3 f3 d3
        all_goals
          have hl3 := S3.len
          refine wpS_bind (wpS_revS S3 fun st4 S4 e4 => ?_)
          have f4 := f3.trans (rv_fx (i := lo) (j := lo + m2) (lo := lo) (by omega) (Nat.le_refl _))
          refine wpS_bind (wpS_mono (asc_gen (key := key) S4 hn (a := m2) (by omega) g2 (fun i j a1 a2 a3 => ?_) ?body3) ?post3)
          · show key _ ≤ key _
            rw [rv_get (by omega), rv_get (by omega), if_pos (by omega), if_pos (by omega)]
            exact d3 _ _ (by omega) (by omega) (by omega)
          case body3 =>
            intro x m R b1 b2 r1 r2
            refine wpS_bind (wpS_ltS L S4 (by omega) (by omega) ?_)
            by_cases c : kG key (rv p3 lo (lo + m2)) (lo + m) < kG key (rv p3 lo (lo + m2)) (lo + m - 1)
            · rw [decide_eq_true c]; exact wpS_pure (r1 c)
            · rw [decide_eq_false c]; exact wpS_pure (r2 c)
          case post3 =>
            rintro c st5 ⟨rfl, m5, rfl, h51, h52, s5, _⟩
            exact wpS_pure (h m5 _ _ S4 (e4.trans (e3.trans (e2.trans q1))) (by omega) h52 s5 (f1.trans f4))
end
section
open PySem.W hiding kindOf
variable {prog : Program} {w : World} {A : Around} {E : Value → Shared → Prop} {s : Shared} {κ : SortKind} {f : Nat → Keyed} {key : Nat → Int} {n : Nat}
theorem wp_binary (L : LtOk prog w A E s κ f key n) {st : SortSt} {p : List Nat} {lo m ok : Nat} {Q : Bool → SortSt → Prop} (S : SS κ f n st p) (hn : lo + m ≤ n) (h1 : 1 ≤ ok) (hok : ok ≤ m) (hs : Sg key p lo (lo + ok))
    (h : ∀ st' p', SS κ f n st' p' → pendingOf st' = pendingOf st → Sg key p' lo (lo + m) → Fx lo p p' → Q true st') : wpS (model prog w) A E s (binarySort' lo m ok) Q st := by
  unfold binarySort'
  refine wpS_bind (wpS_mono (wpS_forRange (I := fun k c st' => c = (none, ()) ∧ ∃ p', SS κ f n st' p' ∧ pendingOf st' = pendingOf st ∧ Sg key p' lo (lo + k) ∧ Fx lo p p')
    (Q := fun c st' => c = (none, ()) ∧ ∃ p', SS κ f n st' p' ∧ pendingOf st' = pendingOf st ∧ Sg key p' lo (lo + m) ∧ Fx lo p p') ?step ?fin ⟨rfl, p, S, rfl, by rw [Nat.max_eq_left h1]; exact hs, Fx.refl _⟩) ?post)
  case fin =>
    rintro c st' ⟨rfl, p', e⟩
    rw [show max (max ok 1) m = m by omega] at e
    exact ⟨rfl, p', e⟩
  case post =>
    rintro c st' ⟨rfl, p', S', e1, e2, e3⟩
    exact wpS_pure (h _ _ S' e1 e2 e3)
  case step =>
    rintro k c st1 hk1 hk2 ⟨rfl, p1, S1, e1, s1, f1⟩
    dsimp only
    have hl1 := S1.len
    have hk0 : 1 ≤ k := by omega
    refine wpS_bind (wpS_mono (wpS_forRange (I := fun x c st' => st' = st1 ∧ ∃ l r, c = (none, l, r) ∧ l ≤ r ∧ r ≤ k ∧ r - l + x ≤ k ∧ (∀ i, i < l → kG key p1 (lo + i) ≤ kG key p1 (lo + k)) ∧ (∀ i, r ≤ i → i < k → kG key p1 (lo + k) < kG key p1 (lo + i)))
      (Q := fun c st' => st' = st1 ∧ ∃ l r, c = (none, l, r) ∧ l ≤ k ∧ (∀ i, i < l → kG key p1 (lo + i) ≤ kG key p1 (lo + k)) ∧ (∀ i, l ≤ i → i < k → kG key p1 (lo + k) < kG key p1 (lo + i))) ?step1 ?fin1 ⟨rfl, 0, k, rfl, by omega, by omega, by omega, fun i hi => by omega, fun i h1 h2 => by omega⟩) ?post1)
    case fin1 =>
      rintro c st' ⟨rfl, l, r, rfl, a1, a2, a3, a4, a5⟩
      have : l = r := by omega
      subst this
      exact ⟨rfl, l, l, rfl, a2, a4, a5⟩
    case step1 =>
      rintro x c st' _ hx ⟨rfl, l, r, rfl, a1, a2, a3, a4, a5⟩
      dsimp only
      by_cases c1 : l ≥ r
      · rw [if_pos c1]
        have : l = r := by omega
        subst this
        exact wpS_pure ⟨rfl, l, l, rfl, a2, a4, a5⟩
      rw [if_neg c1]
      refine wpS_bind (wpS_ltS L S1 (by omega) (by omega) ?_)
      by_cases c2 : kG key p1 (lo + k) < kG key p1 (lo + (l + r) / 2)
      · rw [decide_eq_true c2]
        refine wpS_pure ⟨rfl, l, (l + r) / 2, rfl, by omega, by omega, by omega, a4, fun i q1 q2 => ?_⟩
        have := s1 (lo + (l + r) / 2) (lo + i) (by omega) (by omega) (by omega)
        omega
      · rw [decide_eq_false c2]
        refine wpS_pure ⟨rfl, (l + r) / 2 + 1, r, rfl, by omega, by omega, by omega, fun i q1 => ?_, a5⟩
        have := s1 (lo + i) (lo + (l + r) / 2) (by omega) (by omega) (by omega)
        omega
    case post1 =>
      rintro c st' ⟨rfl, l, r, rfl, a1, a2, a3⟩
      dsimp only
      refine wpS_bind (wpS_movS S1 fun st2 S2 e2 => wpS_pure ⟨rfl, _, S2, e2.trans e1, ?_, f1.trans ?_⟩)
      · have ek : lo + k - (lo + k - (lo + l)) = lo + l := by omega
        have kb : ∀ i, kG key (bb p1 (lo + k) (lo + k - (lo + l))) i = if i = lo + l then kG key p1 (lo + k) else if lo + l < i ∧ i ≤ lo + k then kG key p1 (i - 1) else kG key p1 i := fun i => by
          show key _ = _
          rw [bb_get (by omega) (by omega), ek]
          split
          · rfl
          · split <;> rfl
        intro i j b1 b2 b3
        rw [kb, kb]
        by_cases c1 : i = lo + l
        · rw [if_pos c1]
          by_cases c2 : j = lo + l
          · rw [if_pos c2]; exact Int.le_refl _
          · rw [if_neg c2, if_pos (by omega)]
            have := a3 (j - 1 - lo) (by omega) (by omega)
            rw [show lo + (j - 1 - lo) = j - 1 by omega] at this
            omega
        · rw [if_neg c1]
          by_cases c2 : j = lo + l
          · rw [if_pos c2, if_neg (by omega)]
            have := a2 (i - lo) (by omega)
            rwa [show lo + (i - lo) = i by omega] at this
          · rw [if_neg c2]
            by_cases c3 : lo + l < i ∧ i ≤ lo + k
            · rw [if_pos c3, if_pos (by omega)]
              exact s1 _ _ (by omega) (by omega) (by omega)
            · rw [if_neg c3]
              by_cases c4 : lo + l < j ∧ j ≤ lo + k
              · rw [if_pos c4]
                exact s1 _ _ (by omega) (by omega) (by omega)
              · rw [if_neg c4]
                exact s1 _ _ (by omega) (by omega) (by omega)
      · intro i hi
        rw [bb_get (by omega) (by omega), if_neg (by omega), if_neg (by omega)]
end
section
open PySem.W hiding kindOf
variable {prog : Program} {w : World} {A : Around} {E : Value → Shared → Prop} {s : Shared} {κ : SortKind} {f : Nat → Keyed} {key : Nat → Int} {n : Nat}
noncomputable def mkP : Nat → List (List Nat × Nat) → List (Nat × Nat × Nat)
  | _, [] => []
  | a, (l, w) :: r => (a, l.length, w) :: mkP (a + l.length) r
noncomputable def flt (gs : List (List Nat × Nat)) : List Nat := (gs.map Prod.fst).flatten
theorem flt_app (x y : List (List Nat × Nat)) : flt (x ++ y) = flt x ++ flt y := by simp [flt]
theorem flt_cons (g : List Nat × Nat) (y : List (List Nat × Nat)) : flt (g :: y) = g.1 ++ flt y := by simp [flt]
theorem mkP_app : ∀ (x : List (List Nat × Nat)) (a : Nat) (y : List (List Nat × Nat)), mkP a (x ++ y) = mkP a x ++ mkP (a + (flt x).length) y
  | [], a, y => by simp [mkP, flt]
  | (l, w) :: x, a, y => by
    show (a, l.length, w) :: mkP (a + l.length) (x ++ y) = (a, l.length, w) :: (mkP (a + l.length) x ++ _)
    rw [mkP_app x, flt_cons, List.length_append, Nat.add_assoc]
theorem mkP_len : ∀ (x : List (List Nat × Nat)) (a : Nat), (mkP a x).length = x.length
  | [], _ => rfl
  | (l, w) :: x, a => by simp [mkP, mkP_len x]
structure RI (κ : SortKind) (f : Nat → Keyed) (key : Nat → Int) (n : Nat) (st : SortSt) (gs : List (List Nat × Nat)) (rest : List Nat) : Prop where
  ss : SS κ f n st (flt gs ++ rest)
  pd : pendingOf st = (mkP 0 gs).toArray
  ok : ∀ g ∈ gs, Srt key g.1 ∧ 0 < g.1.length
theorem RI.size {st : SortSt} {gs : List (List Nat × Nat)} {rest : List Nat} (h : RI κ f key n st gs rest) : (pendingOf st).size = gs.length := by rw [h.pd]; simp [mkP_len]
theorem RI.few : ∀ {gs : List (List Nat × Nat)}, (∀ g ∈ gs, Srt key g.1 ∧ 0 < g.1.length) → gs.length ≤ (flt gs).length
  | [], _ => Nat.zero_le _
  | g :: gs, h => by
    have h1 := (h g List.mem_cons_self).2
    have h2 := RI.few (gs := gs) fun x hx => h x (List.mem_cons_of_mem _ hx)
    rw [flt_cons, List.length_append, List.length_cons]
    omega
theorem merge_gs (L : LtOk prog w A E s κ f key n) {st : SortSt} {pre post : List (List Nat × Nat)} {a b : List Nat} {wa wb i : Nat} {rest : List Nat} {Q : Bool → SortSt → Prop} (R : RI κ f key n st (pre ++ (a, wa) :: (b, wb) :: post) rest) (hi : i = pre.length)
    (h : ∀ st' m, m.length = a.length + b.length → RI κ f key n st' (pre ++ (m, wa) :: post) rest → Q true st') : wpS (model prog w) A E s (mergeAt' i) Q st := by
  subst hi
  have oka := R.ok (a, wa) (by simp)
  have okb := R.ok (b, wb) (by simp)
  have eF : flt (pre ++ (a, wa) :: (b, wb) :: post) ++ rest = flt pre ++ (a ++ (b ++ (flt post ++ rest))) := by rw [flt_app, flt_cons, flt_cons]; simp
  have eP : mkP 0 (pre ++ (a, wa) :: (b, wb) :: post) = mkP 0 pre ++ ((flt pre).length, a.length, wa) :: ((flt pre).length + a.length, b.length, wb) :: mkP ((flt pre).length + a.length + b.length) post := by
    rw [mkP_app]; simp [mkP]
  have S := R.ss
  rw [eF] at S
  have hp := R.pd
  rw [eP] at hp
  have lp := mkP_len pre 0
  refine wp_mergeAt L S hp (wa := wa) (wb := wb) ?_ ?_ oka.1 okb.1 oka.2 okb.2 fun st' m pm sm S' p' => h st' m (by rw [pm.length_eq, List.length_append]) ⟨?_, ?_, ?_⟩
  · rw [List.getElem?_toArray, List.getElem?_append_right (by omega), lp, Nat.sub_self]; rfl
  · rw [List.getElem?_toArray, List.getElem?_append_right (by omega), lp, Nat.add_sub_cancel_left]; rfl
  · have e : flt (pre ++ (m, wa) :: post) ++ rest = flt pre ++ (m ++ (flt post ++ rest)) := by rw [flt_app, flt_cons]; simp
    rw [e]
    exact S'
  · rw [p', mkP_app]
    have ml : m.length = a.length + b.length := by rw [pm.length_eq, List.length_append]
    show _ = (mkP 0 pre ++ (0 + (flt pre).length, m.length, wa) :: mkP (0 + (flt pre).length + m.length) post).toArray
    rw [Nat.zero_add, ml, List.setIfInBounds_toArray, ← lp, List.set_append_right _ _ (Nat.le_refl _), Nat.sub_self, List.set_cons_zero, List.eraseIdxIfInBounds_toArray, List.eraseIdx_append_of_length_le (by omega), Nat.add_sub_cancel_left, ← Nat.add_assoc]
    rfl
  · intro g hg
    rcases List.mem_append.mp hg with e | e
    · exact R.ok g (List.mem_append_left _ e)
    · rcases List.mem_cons.mp e with e | e
      · subst e
        have la : 0 < a.length := oka.2
        exact ⟨sm, by show 0 < m.length; rw [pm.length_eq, List.length_append]; omega⟩
      · exact R.ok g (List.mem_append_right _ (List.mem_cons_of_mem _ (List.mem_cons_of_mem _ e)))
theorem split2 {α : Type} {l : List α} {i : Nat} (h : i + 1 < l.length) : ∃ pre a b post, l = pre ++ a :: b :: post ∧ pre.length = i := by
  refine ⟨l.take i, l[i], l[i + 1], l.drop (i + 2), ?_, by simp; omega⟩
  rw [← List.drop_eq_getElem_cons, ← List.drop_eq_getElem_cons, List.take_append_drop]
noncomputable def rePw (pw : Nat) : Nat × Nat × Nat → Nat × Nat × Nat
  | (s, l, _) => (s, l, pw)
theorem RI.last {st : SortSt} {gs : List (List Nat × Nat)} {rest : List Nat} {pw : Nat} (h : RI κ f key n st gs rest) : ∃ gs', gs'.length = gs.length ∧ flt gs' = flt gs ∧ RI κ f key n (setPending st ((pendingOf st).modify ((pendingOf st).size - 1) (rePw pw))) gs' rest := by
  by_cases e : gs = []
  · subst e
    refine ⟨[], rfl, rfl, ⟨h.ss.kind, h.ss.ok, h.ss.arr, h.ss.perm⟩, ?_, h.ok⟩
    show (pendingOf st).modify ((pendingOf st).size - 1) (rePw pw) = _
    rw [h.pd]; rfl
  · obtain ⟨pre, b, eb⟩ : ∃ pre b, gs = pre ++ [b] := ⟨gs.dropLast, gs.getLast e, (List.dropLast_concat_getLast e).symm⟩
    subst eb
    obtain ⟨b, wb⟩ := b
    have ef : flt (pre ++ [(b, pw)]) = flt (pre ++ [(b, wb)]) := by simp [flt]
    refine ⟨pre ++ [(b, pw)], by simp, ef, ⟨h.ss.kind, h.ss.ok, ?_, ?_⟩, ?_, fun g hg => ?_⟩
    · rw [ef]; exact h.ss.arr
    · rw [ef]; exact h.ss.perm
    · show (pendingOf st).modify ((pendingOf st).size - 1) (rePw pw) = _
      rw [h.size, h.pd, mkP_app, mkP_app]
      have lp := mkP_len pre 0
      apply Array.ext_getElem?
      intro i
      rw [Array.getElem?_modify]
      simp only [List.length_append, List.length_singleton, Nat.add_sub_cancel, List.getElem?_toArray, mkP]
      by_cases c : pre.length = i
      · subst c
        rw [if_pos rfl, ← lp, List.getElem?_append_right (Nat.le_refl _), List.getElem?_append_right (Nat.le_refl _), Nat.sub_self]
        rfl
      · rw [if_neg c]
        rcases Nat.lt_or_ge i pre.length with d | d
        · rw [List.getElem?_append_left (by omega), List.getElem?_append_left (by omega)]
        · rw [List.getElem?_eq_none (by simp; omega), List.getElem?_eq_none (by simp; omega)]
    · rcases List.mem_append.mp hg with e | e
      · exact h.ok g (List.mem_append_left _ e)
      · have := List.mem_singleton.mp e
        subst this
        exact h.ok (b, wb) (by simp)
theorem RI.push {st : SortSt} {gs : List (List Nat × Nat)} {run rest : List Nat} (h : RI κ f key n st gs (run ++ rest)) (hs : Srt key run) (hl : 0 < run.length) : RI κ f key n (setPending st ((pendingOf st).push ((flt gs).length, run.length, 0))) (gs ++ [(run, 0)]) rest := by
  have ef : flt (gs ++ [(run, 0)]) ++ rest = flt gs ++ (run ++ rest) := by simp [flt]
  refine ⟨⟨h.ss.kind, h.ss.ok, ?_, ?_⟩, ?_, fun g hg => ?_⟩
  · rw [ef]; exact h.ss.arr
  · rw [ef]; exact h.ss.perm
  · show (pendingOf st).push _ = _
    rw [h.pd, mkP_app]
    simp [mkP]
  · rcases List.mem_append.mp hg with e | e
    · exact h.ok g e
    · rw [List.mem_singleton.mp e]
      exact ⟨hs, hl⟩
theorem cut_run {st st' : SortSt} {gs : List (List Nat × Nat)} {rest p' : List Nat} {m : Nat} (R : RI κ f key n st gs rest) (S' : SS κ f n st' p') (hp : pendingOf st' = pendingOf st) (hm : (flt gs).length + m ≤ n) (hs : Sg key p' (flt gs).length ((flt gs).length + m)) (hf : Fx (flt gs).length (flt gs ++ rest) p') :
    ∃ run rest', run.length = m ∧ Srt key run ∧ RI κ f key n st' gs (run ++ rest') := by
  have hl := S'.len
  refine ⟨(p'.drop (flt gs).length).take m, (p'.drop (flt gs).length).drop m, by simp; omega, ?_, ?_⟩
  · refine List.pairwise_iff_getElem.mpr fun i j hi hj hij => ?_
    simp only [List.length_take, List.length_drop] at hi hj
    rw [List.getElem_take, List.getElem_take, List.getElem_drop, List.getElem_drop]
    have := hs ((flt gs).length + i) ((flt gs).length + j) (by omega) (by omega) (by omega)
    unfold kG at this
    rw [show p'.getD ((flt gs).length + i) 0 = p'[(flt gs).length + i]'(by omega) by simp [show (flt gs).length + i < p'.length by omega], show p'.getD ((flt gs).length + j) 0 = p'[(flt gs).length + j]'(by omega) by simp [show (flt gs).length + j < p'.length by omega]] at this
    exact this
  · have e : flt gs ++ ((p'.drop (flt gs).length).take m ++ (p'.drop (flt gs).length).drop m) = p' := by
      rw [List.take_append_drop]
      have : p'.take (flt gs).length = flt gs := by
        apply List.ext_getElem
        · simp; omega
        · intro i h1 h2
          have := hf i h2
          rw [List.getElem_take]
          rw [show p'.getD i 0 = p'[i]'(by simp at h1; omega) by simp [show i < p'.length by simp at h1; omega], show (flt gs ++ rest).getD i 0 = (flt gs)[i] by rw [List.getD_eq_getElem?_getD, List.getElem?_append_left h2, List.getElem?_eq_getElem h2]; rfl] at this
          exact this
      have e2 := List.take_append_drop (flt gs).length p'
      rwa [this] at e2
    refine ⟨by rw [e]; exact S', by rw [hp]; exact R.pd, R.ok⟩
noncomputable def SR (κ : SortKind) (f : Nat → Keyed) (key : Nat → Int) (n x : Nat) (r : ForInStep (Option Unit × Nat)) (st' : SortSt) : Prop := match r with
  | .done c => ∃ gs rest, RI κ f key n st' gs rest ∧ c = (none, (flt gs).length) ∧ (flt gs).length = n
  | .yield c => ∃ gs rest, RI κ f key n st' gs rest ∧ c = (none, (flt gs).length) ∧ (x + 1 ≤ (flt gs).length ∨ (flt gs).length = n)
theorem wp_sortRuns (L : LtOk prog w A E s κ f key n) {st : SortSt} {Q : Unit → SortSt → Prop} (S : SS κ f n st (List.range n)) (hp : pendingOf st = #[]) (h1 : 1 ≤ n)
    (h : ∀ st' p, SS κ f n st' p → Srt key p → Q () st') : wpS (model prog w) A E s sortRuns' Q st := by
  rw [sortRuns'_eq]
  refine wpS_bind (wpS_get ?_)
  have hz : (arrOf st).size = n := by rw [S.arr]; simp
  rw [hz]
  extract_lets sz mr lo0
  have ez : sz = n := rfl
  have el : lo0 = 0 := rfl
  clear_value mr lo0 sz
  subst ez el
  refine wpS_bind (wpS_mono (wpS_forRange (I := fun x c st' => ∃ gs rest, RI κ f key sz st' gs rest ∧ c = (none, (flt gs).length) ∧ (x ≤ (flt gs).length ∨ (flt gs).length = sz))
    (Q := fun c st' => ∃ gs rest, RI κ f key sz st' gs rest ∧ c = (none, (flt gs).length) ∧ (flt gs).length = sz) ?step ?fin ⟨[], List.range sz, ⟨S, hp, fun _ h => absurd h List.not_mem_nil⟩, rfl, .inl (Nat.zero_le _)⟩) ?post)
  case fin =>
    rintro c st' ⟨gs, rest, R, rfl, hx⟩
    have := R.ss.len
    rw [List.length_append] at this
    exact ⟨gs, rest, R, rfl, by omega⟩
  case step =>
    rintro x c st1 _ hx ⟨gs, rest, R, rfl, hlo⟩
    have hlen := R.ss.len
    rw [List.length_append] at hlen
    refine wpS_mono (Q := SR κ f key sz x) ?_ (fun r st' hr => by cases r <;> exact hr)
    show wpS _ _ _ _ (ite _ _ _) _ _
    by_cases c1 : (flt gs).length ≥ sz
    · rw [if_pos c1]
      exact wpS_pure ⟨gs, rest, R, rfl, by omega⟩
    rw [if_neg c1]
    refine wpS_bind (wp_countRun L R.ss (by omega) (by omega) fun m st2 p2 S2 q2 m1 m2 s2 f2 => ?_)
    dsimp -zeta only
    extract_lets nn jp fo nn2
    have en : m = nn := rfl
    have eo : fo = min (sz - (flt gs).length) mr := rfl
    have en2 : nn2 = fo := rfl
    clear_value nn2 fo nn
    subst en en2 eo
    have hjp : ∀ m st2 p2, SS κ f sz st2 p2 → pendingOf st2 = pendingOf st1 → 1 ≤ m → m ≤ sz - (flt gs).length → Sg key p2 (flt gs).length ((flt gs).length + m) → Fx (flt gs).length (flt gs ++ rest) p2 → wpS (model prog w) A E s (jp () m) (SR κ f key sz x) st2 := by
      intro m st2 p2 S2 q2 m1 m2 s2 f2
      obtain ⟨run, rest', lr, sr, R2⟩ := cut_run R S2 q2 (by omega) s2 f2
      refine wpS_bind (wpS_get ?_)
      clear jp
      extract_lets lo2 jp
      have hj2 : ∀ st3 gs3, RI κ f key sz st3 gs3 (run ++ rest') → (flt gs3).length = (flt gs).length → wpS (model prog w) A E s (jp ()) (SR κ f key sz x) st3 := by
        intro st3 gs3 R3 l3
        refine wpS_bind (wpS_modify (wpS_pure ⟨gs3 ++ [(run, 0)], rest', ?_, ?_, ?_⟩))
        · have := R3.push sr (by omega)
          rw [l3, lr] at this
          exact this
        · have e : (flt (gs3 ++ [(run, 0)])).length = (flt gs).length + m := by rw [flt_app, List.length_append, l3, flt_cons, ← lr]; simp [flt]
          rw [e]
        · have e : (flt (gs3 ++ [(run, 0)])).length = (flt gs).length + m := by rw [flt_app, List.length_append, l3, flt_cons, ← lr]; simp [flt]
          rw [e]
          omega
      clear_value jp
      split
      · rename_i s1 n1 o1 hb
        extract_lets pw
        refine wpS_bind (wpS_mono (wpS_forRange (I := fun y c st' => c = (none, ()) ∧ ∃ gs3, RI κ f key sz st' gs3 (run ++ rest') ∧ (flt gs3).length = (flt gs).length)
          (Q := fun c st' => c = (none, ()) ∧ ∃ gs3, RI κ f key sz st' gs3 (run ++ rest') ∧ (flt gs3).length = (flt gs).length) ?step1 (fun _ _ hh => hh) ⟨rfl, gs, R2, rfl⟩) ?post1)
        case post1 =>
          rintro c st3 ⟨rfl, gs3, R3, l3⟩
          obtain ⟨gs4, a1, a2, R4⟩ := R3.last (pw := pw)
          exact wpS_bind (wpS_modify (hj2 _ gs4 R4 (by rw [a2, l3])))
        case step1 =>
          rintro y c st3 _ hy ⟨rfl, gs3, R3, l3⟩
          refine wpS_bind (wpS_get ?_)
          show wpS _ _ _ _ (match if (pendingOf st3).size > 1 then (pendingOf st3)[(pendingOf st3).size - 2]? else none with | some (_, _, older) => _ | _ => _) _ _
          rw [R3.size]
          split
          · rename_i o1 o2 older ho
            have hg : gs3.length > 1 := by
              by_cases c : gs3.length > 1
              · exact c
              · rw [if_neg c] at ho; cases ho
            split
            · exact wpS_pure ⟨rfl, gs3, R3, l3⟩
            · obtain ⟨pre, a, b, post, e, lp⟩ := split2 (l := gs3) (i := gs3.length - 2) (by omega)
              obtain ⟨a, wa⟩ := a
              obtain ⟨b, wb⟩ := b
              rw [e] at R3
              refine wpS_bind (merge_gs L R3 lp.symm fun st4 m4 lm R4 => ?_)
              refine wpS_pure ⟨rfl, _, R4, ?_⟩
              rw [← l3, e, flt_app, flt_app, flt_cons, flt_cons, flt_cons]
              simp [lm]
              omega
          · exact wpS_pure ⟨rfl, gs3, R3, l3⟩
      · exact hj2 _ gs R2 rfl
    clear_value jp
    by_cases c2 : m < mr
    · rw [if_pos c2]
      refine wpS_bind (wpS_lift (wpAny_rule ⟨rfl, ?_⟩))
      refine wpS_bind (wp_binary L S2 (by omega) m1 (by omega) s2 fun st3 p3 S3 q3 s3 f3 => ?_)
      exact hjp _ st3 p3 S3 (q3.trans q2) (by omega) (by omega) s3 (f2.trans f3)
    · rw [if_neg c2]
      exact hjp _ st2 p2 S2 q2 m1 m2 s2 f2
  case post =>
    rintro c st1 ⟨gs, rest, R, rfl, hlo⟩
    have hlen := R.ss.len
    rw [List.length_append] at hlen
    have er : rest = [] := List.length_eq_zero_iff.mp (by omega)
    subst er
    have hfew := RI.few R.ok
    show wpS _ _ _ _ (_ >>= _) _ _
    refine wpS_bind (wpS_mono (wpS_forRange (I := fun y c st' => c = (none, ()) ∧ ∃ gs3, RI κ f key sz st' gs3 [] ∧ (flt gs3).length = sz ∧ (gs3.length + y ≤ sz ∨ gs3.length ≤ 1))
      (Q := fun c st' => c = (none, ()) ∧ ∃ gs3, RI κ f key sz st' gs3 [] ∧ (flt gs3).length = sz ∧ gs3.length ≤ 1) ?step1 ?fin1 ⟨rfl, gs, R, hlo, .inl (by omega)⟩) ?post1)
    case fin1 =>
      rintro c st3 ⟨rfl, gs3, R3, l3, hy⟩
      exact ⟨rfl, gs3, R3, l3, by omega⟩
    case post1 =>
      rintro c st3 ⟨rfl, gs3, R3, l3, hg⟩
      refine wpS_pure (h st3 (flt gs3) (by have := R3.ss; rwa [List.append_nil] at this) ?_)
      match gs3, hg, R3.ok with
      | [], _, _ => exact List.Pairwise.nil
      | [g], _, ok => rw [flt_cons]; simpa [flt] using (ok g List.mem_cons_self).1
    case step1 =>
      rintro y c st3 _ hy ⟨rfl, gs3, R3, l3, hg⟩
      refine wpS_bind (wpS_get ?_)
      show wpS _ _ _ _ (ite _ _ _) _ _
      rw [R3.size]
      by_cases c3 : gs3.length ≤ 1
      · rw [if_pos c3]
        exact wpS_pure ⟨rfl, gs3, R3, l3, c3⟩
      rw [if_neg c3]
      extract_lets i0 before i1
      have e1 : i1 = i0 - 1 ∨ i1 = i0 := by
        show ite _ _ _ = _ ∨ ite _ _ _ = _
        split
        · exact .inl rfl
        · exact .inr rfl
      have e0 : i0 = gs3.length - 2 := rfl
      clear_value i1 before i0
      have hi : i1 + 1 < gs3.length := by omega
      obtain ⟨pre, a, b, post, e, lp⟩ := split2 hi
      obtain ⟨a, wa⟩ := a
      obtain ⟨b, wb⟩ := b
      rw [e] at R3
      refine wpS_bind (merge_gs L R3 lp.symm fun st4 m4 lm R4 => ?_)
      refine wpS_pure ⟨rfl, _, R4, ?_, ?_⟩
      · rw [← l3, e, flt_app, flt_app, flt_cons, flt_cons, flt_cons]
        simp [lm]
        omega
      · rw [e] at hg c3
        simp at hg c3 ⊢
        omega
end
section
open PySem.W hiding kindOf
variable {prog : Program} {w : World} {A : Around} {E : Value → Shared → Prop} {s : Shared} {key : Nat → Int}
noncomputable def InOrd (key : Nat → Int) (vs out : List Value) : Prop := ∃ ps : List Nat, ps.Perm (List.range vs.length) ∧ Srt key ps ∧ out = ps.map fun i => vs.getD i Value.none
theorem ltOk_of {κ : SortKind} {vs : List Value} (ask : ∀ i j (C : Bool → Shared → Prop), i < vs.length → j < vs.length → C (ltK key i j) s → kas_ask prog w A κ vs i j C s) : LtOk prog w A E s κ (fun i => (vs.getD i Value.none, vs.getD i Value.none)) key vs.length := by
  intro i j Q st hi hj hk h
  rw [lt'_eq]
  refine wpS_bind (wpS_get ?_)
  rw [hk]
  refine wpS_bind (wpS_lift (wpAny_attempt (wpAny_mono (ask i j (fun b s' => s' = s ∧ b = ltK key i j) hi hj ⟨rfl, rfl⟩) (fun b s' hb => ?_) fun _ _ x => x.elim)))
  obtain ⟨rfl, rfl⟩ := hb
  exact ⟨rfl, wpS_pure h⟩
theorem lsort_gen {a : Addr} {vs : List Value} {n : Nat} {P : PySem.Fin → Shared → Prop} (ho : s.heap.get? a = some (seqObj "list" vs.toArray n)) (hz : vs.length ≤ sizeLine)
    (hk : 2 ≤ vs.length → ∀ h1 : Heap, (∀ b o, b ≠ a → s.heap.get? b = some o → h1.get? b = some o) → Asks prog w A key vs { s with heap := h1 })
    (h : ∀ (h' : Heap) (c : Nat) (out : List Value), InOrd key vs out → (∀ b o, b ≠ a → s.heap.get? b = some o → h'.get? b = some o) → h'.get? a = some (seqObj "list" out.toArray c) → P (.done (.ret .none)) { s with heap := h' }) :
    wpAny (model prog w) A (Builtin.«list.sort» ⟨[.ref a], []⟩) P E s := by
  have hlt : a < s.heap.objs.size := Heap.lt_size ho
  obtain ⟨e1, ho1⟩ : ∃ e1, (s.heap.update a (Obj.mapSeq fun _ => (#[] : Array Value))).get? a = some (seqObj "list" #[] e1) := ⟨_, get?_update_seq ho fun _ => #[]⟩
  rw [list_sort_plain]
  refine wpAny_bind (listItems_at ho rfl (wpAny_bind (listUpdate_at ho rfl (wpAny_bind (seqEpoch_at ho1 rfl (wpAny_bind (wpAny_newTuple (wpAny_bind (wpAny_newList (wpAny_holding ?_) (Nat.zero_le _))) (by show vs.length ≤ _; omega))))) (by rw [List.size_toArray]; omega) (Nat.zero_le _))))
  have hkeep : ∀ b o, b ≠ a → s.heap.get? b = some o → (((s.heap.update a (Obj.mapSeq fun _ => (#[] : Array Value))).push (seqObj "tuple" vs.toArray 0)).push (seqObj "list" #[] 0)).get? b = some o := fun b o hb q =>
    Heap.get?_push_of_some _ (Heap.get?_push_of_some _ ((Heap.get?_update_other _ _ (Ne.symm hb)).trans q))
  have ho6 : (((s.heap.update a (Obj.mapSeq fun _ => (#[] : Array Value))).push (seqObj "tuple" vs.toArray 0)).push (seqObj "list" #[] 0)).get? a = some (seqObj "list" #[] e1) := Heap.get?_push_of_some _ (Heap.get?_push_of_some _ ho1)
  show wpAny (model prog w) A _ P E { s with heap := ((s.heap.update a (Obj.mapSeq fun _ => (#[] : Array Value))).push (seqObj "tuple" vs.toArray 0)).push (seqObj "list" #[] 0) }
  dsimp only
  have fin : ∀ (out : List Value), InOrd key vs out → P (.done (.ret .none)) { s with heap := (((s.heap.update a (Obj.mapSeq fun _ => (#[] : Array Value))).push (seqObj "tuple" vs.toArray 0)).push (seqObj "list" #[] 0)).update a (Obj.mapSeq fun _ => out.toArray) } := fun out eo =>
    h _ _ out eo (fun b o hb q => (Heap.get?_update_other _ _ (Ne.symm hb)).trans (hkeep b o hb q)) (get?_update_seq ho6 fun _ => out.toArray)
  have rng : (List.range vs.length).map (fun i => vs.getD i Value.none) = vs := by
    apply List.ext_getElem
    · simp
    · intro i h3 h4
      simp [h4]
  by_cases h2 : vs.toArray.size < 2
  · rw [if_pos h2, if_pos h2]
    refine wpAny_bind (wpAny_pure ?_)
    rw [StateT.run_pure]
    refine wpAny_bind (wpAny_pure ?_)
    dsimp only
    have h2' : vs.length < 2 := by simpa using h2
    have eo : (arrOf (SortSt.mk' general' (vs.toArray.zip vs.toArray) #[] 7 none)).map (·.2) = vs.toArray := by
      show (vs.toArray.zip vs.toArray).map (·.2) = vs.toArray
      apply Array.toList_inj.mp
      simp only [Array.toList_map, Array.toList_zip]
      exact List.map_snd_zip (Nat.le_refl _)
    rw [eo]
    refine wpAny_bind (seqEpoch_at ho6 rfl (wpAny_bind (listUpdate_at ho6 rfl ?_ (Nat.zero_le _) (by show vs.length ≤ _; omega))))
    have e3 : failedOf (SortSt.mk' general' (vs.toArray.zip vs.toArray) #[] 7 none) = none := rfl
    simp only [e3, bne_self_eq_false, Bool.false_eq_true, if_false]
    refine wpAny_pure (fin vs ⟨List.range vs.length, List.Perm.refl _, ?_, rng.symm⟩)
    match vs, h2' with
    | [], _ => exact List.Pairwise.nil
    | [x], _ => exact List.pairwise_singleton _ _
  · rw [if_neg h2, if_neg h2]
    have h2' : 2 ≤ vs.length := by rw [List.size_toArray] at h2; omega
    refine wpAny_bind (wpAny_mono (hk h2' _ hkeep) (fun κ s0 ⟨es, ask⟩ => ?_) fun _ _ x => x.elim)
    subst es
    have ea : vs.toArray.zip vs.toArray = ((List.range vs.length).map fun i => (vs.getD i Value.none, vs.getD i Value.none)).toArray := by
      apply Array.toList_inj.mp
      simp only [Array.toList_zip]
      apply List.ext_getElem
      · simp
      · intro i h3 h4
        simp at h3
        simp [h3]
    have run := wp_sortRuns (E := E) (ltOk_of (E := E) ask) (st := SortSt.mk' κ (vs.toArray.zip vs.toArray) #[] 7 none) (Q := fun _ st' => failedOf st' = none ∧ ∃ out, InOrd key vs out ∧ (arrOf st').map (·.2) = out.toArray) ⟨rfl, rfl, ea, List.Perm.refl _⟩ rfl (by omega) (fun st' p S sp => ⟨S.ok, _, ⟨p, S.perm, sp, rfl⟩, by rw [S.arr]; simp⟩)
    unfold wpS at run
    refine wpAny_bind (wpAny_mono run (fun r s' hr => ?_) fun _ _ x => x)
    obtain ⟨⟨⟩, st'⟩ := r
    obtain ⟨es, ef, out, ho, eo⟩ := hr
    subst es
    have ef : failedOf st' = none := ef
    have eo : (arrOf st').map (·.2) = out.toArray := eo
    dsimp only
    rw [eo]
    have hol : out.length = vs.length := by
      obtain ⟨ps, h1, _, rfl⟩ := ho
      rw [List.length_map, h1.length_eq, List.length_range]
    refine wpAny_bind (seqEpoch_at ho6 rfl (wpAny_bind (listUpdate_at ho6 rfl ?_ (Nat.zero_le _) (by show out.length ≤ _; omega))))
    simp only [ef, bne_self_eq_false, Bool.false_eq_true, if_false]
    exact wpAny_pure (fin _ ho)
end
section
open PySem.W hiding kindOf
variable {α : Type} {lt : α → α → Bool}
theorem ord_isort (o : Ord lt) (zs : List α) (d : α) {ps : List Nat} (h1 : ps.Perm (List.range zs.length)) (h2 : Srt (rk lt zs d) ps) : ps.map (fun i => zs.getD i d) = isort lt zs := by
  refine perm_unique o ?_ ?_ (isort_sorted o zs)
  · refine (h1.map _).trans ?_
    have : (List.range zs.length).map (fun i => zs.getD i d) = zs := by
      apply List.ext_getElem
      · simp
      · intro i h3 h4
        simp [h4]
    rw [this]
    exact (isort_perm zs).symm
  · rw [List.pairwise_map]
    refine List.Pairwise.imp_of_mem (fun {a b} ha hb hab => ?_) h2
    rw [← rk_lt o (d := d) (List.mem_range.mp (h1.mem_iff.mp hb)) (List.mem_range.mp (h1.mem_iff.mp ha))]
    exact decide_eq_false (by omega)
variable {X : Cx} {K : PySem.W.Frag} {W : Wish} {own : Bool}
end
end L2
namespace L2
open PySem PySem.Spec PyProof.Rows
noncomputable def hkT (k : List Int) : Int := reduceHash (Builtin.Tuple.tupleHashOf (k.map hashInt))
noncomputable def goodT (t : SetTable) (n : Nat) : Bool := t.fits n && (t.mask % 2 == 1) && decide (t.place.toList.Pairwise (· < ·)) && t.plain && decide (n < 4096)
noncomputable def addS (st : SetTable × List (List Int)) (k : List Int) : Option (SetTable × List (List Int)) :=
  match st.1.probe (fun i => ((st.2.map hkT)[i]?).getD 0) (hkT k) (st.1.probeStart (hkT k)) with
  | some (.empty j none) => if goodT (st.1.put j).1 (st.2.length + 1) = true then
      (if (st.1.put j).1.tooFull = true then match (st.1.put j).1.relaid ((st.2.take (st.1.put j).2 ++ k :: st.2.drop (st.1.put j).2).map hkT).toArray (SetTable.grown (st.2.length + 1)) with
        | some (t, o) => if (goodT t (st.2.length + 1) && o.toList.isPerm (List.range (st.2.length + 1)) && decide (SetTable.sizeAbove (SetTable.grown (st.2.length + 1)) ≤ sizeLine)) = true then some (t, o.toList.filterMap fun i => (st.2.take (st.1.put j).2 ++ k :: st.2.drop (st.1.put j).2)[i]?) else none
        | none => none
      else some ((st.1.put j).1, st.2.take (st.1.put j).2 ++ k :: st.2.drop (st.1.put j).2)) else none
  | some (.candidate _ i _) => if st.2[i]? = some k then some st else none
  | _ => none
noncomputable def runS (ts : List (List Int)) : Option (SetTable × List (List Int)) := ts.foldlM addS (SetTable.fresh 0 0 true, [])
section
open PySem SetTable
noncomputable def ldT (b : Bool) (t : SetTable) : SetTable := { t with led := b }
theorem go_ld (b : Bool) (t : SetTable) (g : Nat → Int) (h : Int) : ∀ (f : Nat) (p : Probe), probe.go (ldT b t) g h f p = probe.go t g h f p
  | 0, _ => rfl
  | f + 1, p => by
    show (match t.slot p.j with | .empty => _ | .dummy => probe.go (ldT b t) g h f (t.advance { p with dummy := some p.j }) | .live i => if g i == h then _ else probe.go (ldT b t) g h f (t.advance p)) = _
    rw [go_ld b t g h f, go_ld b t g h f]
    rfl
theorem probe_ld (b : Bool) (t : SetTable) (g : Nat → Int) (h : Int) (p : Probe) : (ldT b t).probe g h p = t.probe g h p := go_ld b t g h _ p
theorem relaid_ld (b : Bool) (t : SetTable) (hs : Array Int) (n : Nat) : (ldT b t).relaid hs n = (t.relaid hs n).map fun r => (ldT b r.1, r.2) := by
  unfold relaid laid
  cases layClean (sizeAbove n - 1) hs with
  | none => rfl
  | some o => rfl
theorem ins_list {α : Type} {xs : Array α} {p : Nat} {x : α} : (insertAt xs p x).toList = xs.toList.take p ++ x :: xs.toList.drop p := by
  unfold insertAt
  simp [List.extract_eq_drop_take]
  exact List.take_of_length_le (by simp)
end
section
open PySem
variable {prog : Program} {w : World} {A : Around} {E : Value → Shared → Prop} {s : Shared}
noncomputable abbrev enR (r : List Int × Addr) : Int × Value := (hkT r.1, Value.ref r.2)
noncomputable def SetTT (b : Bool) (h : Heap) (a : Addr) (t : SetTable) (rs : List (List Int × Addr)) : Prop :=
  ∃ o es ep, h.get? a = some o ∧ o.ExactSet ∧ o.data = .set es ep (ldT b t) ∧ es.toList = rs.map enR ∧ goodT t rs.length = true
noncomputable def TKeys (prog : Program) (w : World) (h : Heap) (rs : List (List Int × Addr)) : Prop := ∀ r ∈ rs, (tupleKind (intKind prog w)).is h r.1 r.2
theorem SetTT.at {b : Bool} {h h' : Heap} {a : Addr} {t : SetTable} {rs : List (List Int × Addr)} (H : SetTT b h a t rs) (e : ∀ o, h.get? a = some o → h'.get? a = some o) : SetTT b h' a t rs :=
  let ⟨o, es, ep, ho, r⟩ := H; ⟨o, es, ep, e _ ho, r⟩
theorem SetTT.ty {b : Bool} {a : Addr} {t : SetTable} {rs : List (List Int × Addr)} (H : SetTT b s.heap a t rs) : s.TypeIs (.ref a) "set" := let ⟨o, _, _, ho, hx, _⟩ := H; ⟨o, ho, hx.1⟩
theorem byv_int (n : Nat) (k : Int) (t : Tok) : hashByValue n (.int k t) = pure true := by cases n <;> rfl
theorem ofc_int (n : Nat) (k : Int) (t : Tok) : ofAClassStatement n (.int k t) = pure false := by cases n <;> rfl
theorem ints_items {k : List Int} {vs : List Value} (h : ItemsAre (intKind prog w) k vs) : ∀ v ∈ vs, ∃ i t, v = .int i t := by
  induction h with
  | nil => intro v hv; simp at hv
  | cons h1 _ ih =>
    intro v hv
    rcases List.mem_cons.mp hv with rfl | hv
    · obtain ⟨t, e⟩ := key_is h1
      exact ⟨_, t, e⟩
    · exact ih v hv
theorem byv_tup {k : List Int} {c : Addr} {Q : Bool → Shared → Prop} (hk : (tupleKind (intKind prog w)).is s.heap k c) (h : Q true s) : wpAny (model prog w) A (hashByValue 8 (.ref c)) Q E s := by
  have hT := IsTupleKey.typeIs hk
  obtain ⟨o, items, n, ho, _, hd, hi⟩ := hk
  unfold hashByValue
  refine wpAny_bind (wpAny_specialOf hT F.slot_tuple_hash.lookup ?_)
  show wpAny _ _ (seqItems? (.ref c) >>= _) _ _ s
  refine wpAny_bind (wpAny_seqItems ho hd ?_)
  refine wpAny_bind ?_
  show wpAny _ _ (forIn items _ _) _ _ s
  rw [← Array.forIn_toList]
  refine wpAny_forIn_list _ (fun rest r s' => r.1 = none ∧ s' = s ∧ ∀ v ∈ rest, ∃ i t, v = .int i t) _ ?_ ?_ _ _ ⟨rfl, rfl, ints_items hi⟩
  · rintro v rest r s' ⟨hr, rfl, hall⟩
    obtain ⟨i, t, rfl⟩ := hall v List.mem_cons_self
    rw [byv_int]
    refine wpAny_bind (wpAny_pure ?_)
    simp only [Bool.not_true, Bool.false_eq_true, if_false]
    exact wpAny_pure ⟨rfl, rfl, fun u hu' => hall u (List.mem_cons_of_mem _ hu')⟩
  · rintro ⟨r1, r2⟩ s' ⟨hr, rfl, _⟩
    simp only at hr
    subst hr
    exact wpAny_pure h
theorem ofc_tup {k : List Int} {c : Addr} {Q : Bool → Shared → Prop} (hk : (tupleKind (intKind prog w)).is s.heap k c) (h : Q false s) : wpAny (model prog w) A (ofAClassStatement 8 (.ref c)) Q E s := by
  have hT := IsTupleKey.typeIs hk
  obtain ⟨o, items, n, ho, _, hd, hi⟩ := hk
  unfold ofAClassStatement
  refine wpAny_bind (wpAny_typeOf hT ?_)
  show wpAny _ _ (_ >>= _) _ _ s
  refine wpAny_bind (wpAny_pure ?_)
  simp only [Bool.not_true, Bool.false_eq_true, if_false]
  refine wpAny_bind (wpAny_seqItems ho hd ?_)
  refine wpAny_bind ?_
  show wpAny _ _ (forIn items _ _) _ _ s
  rw [← Array.forIn_toList]
  refine wpAny_forIn_list _ (fun rest r s' => r.1 = none ∧ s' = s ∧ ∀ v ∈ rest, ∃ i t, v = .int i t) _ ?_ ?_ _ _ ⟨rfl, rfl, ints_items hi⟩
  · rintro v rest r s' ⟨hr, rfl, hall⟩
    obtain ⟨i, t, rfl⟩ := hall v List.mem_cons_self
    rw [ofc_int]
    refine wpAny_bind (wpAny_pure ?_)
    simp only [Bool.false_eq_true, if_false]
    exact wpAny_pure ⟨rfl, rfl, fun u hu' => hall u (List.mem_cons_of_mem _ hu')⟩
  · rintro ⟨r1, r2⟩ s' ⟨hr, rfl, _⟩
    simp only at hr
    subst hr
    exact wpAny_pure h
theorem seen_tup {k : List Int} {c : Addr} {ys : List Value} {Q : Bool → Shared → Prop} (hk : (tupleKind (intKind prog w)).is s.heap k c) (hy : ∀ y ∈ ys, ∃ k' c', y = .ref c' ∧ (tupleKind (intKind prog w)).is s.heap k' c') (h : Q false s) : wpAny (model prog w) A (searchCouldBeSeen (.ref c) ys) Q E s := by
  unfold searchCouldBeSeen
  refine wpAny_bind ?_
  refine wpAny_forIn_list _ (fun rest r s' => r.1 = none ∧ s' = s ∧ ∀ y ∈ rest, ∃ k' c', y = .ref c' ∧ (tupleKind (intKind prog w)).is s.heap k' c') _ ?_ ?_ _ _ ⟨rfl, rfl, hy⟩
  · rintro v rest r s' ⟨hr, rfl, hall⟩
    obtain ⟨k', c', rfl, hk'⟩ := hall _ List.mem_cons_self
    have fin : ∀ y ∈ rest, ∃ k' c', y = .ref c' ∧ (tupleKind (intKind prog w)).is s'.heap k' c' := fun y hy' => hall y (List.mem_cons_of_mem _ hy')
    show wpAny _ _ (ite _ _ _) _ _ _
    by_cases hv : (c == c' || carriedByValue (Value.ref c) && carriedByValue (Value.ref c')) = true
    · rw [if_pos hv]
      exact wpAny_pure ⟨rfl, rfl, fin⟩
    · rw [if_neg hv]
      refine wpAny_bind ((tupleKind (intKind prog w)).quiet hk ?_)
      simp only [Bool.not_true, Bool.false_eq_true, if_false]
      refine wpAny_bind ((tupleKind (intKind prog w)).quiet hk' ?_)
      simp only [Bool.not_true, Bool.false_eq_true, if_false]
      refine wpAny_bind (ofc_tup hk ?_)
      simp only [Bool.false_eq_true, if_false]
      refine wpAny_bind (ofc_tup hk' ?_)
      simp only [Bool.false_eq_true, if_false]
      exact wpAny_pure ⟨rfl, rfl, fin⟩
  · rintro ⟨r1, r2⟩ s' ⟨hr, rfl, _⟩
    simp only at hr
    subst hr
    exact wpAny_pure h
theorem SetTT.fit {b : Bool} {h : Heap} {a : Addr} {t : SetTable} {rs : List (List Int × Addr)} {es : Array (Int × Value)} (e : es.toList = rs.map enR) (g : goodT t rs.length = true) : (ldT b t).fits es.size = true ∧ t.mask % 2 = 1 ∧ t.place.toList.Pairwise (· < ·) ∧ t.plain = true ∧ rs.length < 4096 := by
  have hz : es.size = rs.length := by rw [← Array.length_toList, e, List.length_map]
  unfold goodT at g
  simp only [Bool.and_eq_true, decide_eq_true_eq, beq_iff_eq] at g
  obtain ⟨⟨⟨⟨g1, g2⟩, g3⟩, g4⟩, g5⟩ := g
  exact ⟨by rw [hz]; exact g1, g2, g3, g4, g5⟩
theorem tt_store {b : Bool} {h : Heap} {a : Addr} {o : Obj} {es fs : Array (Int × Value)} {ep : Nat} {t u : SetTable} {rs : List (List Int × Addr)} (ho : h.get? a = some o) (hx : o.ExactSet) (hd : o.data = .set es ep t)
    (he : fs.toList = rs.map enR) (hg : goodT u rs.length = true) :
    (h.update a (Obj.putSet fs (ldT b u))).get? a = some { o with data := .set fs (ep + 1) (ldT b u) } ∧ SetTT b (h.update a (Obj.putSet fs (ldT b u))) a u rs := by
  have g : (h.update a (Obj.putSet fs (ldT b u))).get? a = some { o with data := .set fs (ep + 1) (ldT b u) } := by
    have := Heap.get?_update_self (Obj.putSet fs (ldT b u)) ho (by rw [putSet_of fs (ldT b u) hd]; rfl)
    rw [putSet_of fs (ldT b u) hd] at this
    exact this
  exact ⟨g, _, fs, ep + 1, g, hx, rfl, he, hg⟩
theorem tt_search {b : Bool} {a c : Addr} {t : SetTable} {rs : List (List Int × Addr)} {k : List Int} {Q : SetFound → Shared → Prop} (H : SetTT b s.heap a t rs) (hr : A.units < cLine) (hK : TKeys prog w s.heap rs) (hx : (tupleKind (intKind prog w)).is s.heap k c)
    (h : (∃ j, t.probe (fun i => (((rs.map Prod.fst).map hkT)[i]?).getD 0) (hkT k) (t.probeStart (hkT k)) = some (.empty j none) ∧ Q (.free j false) s) ∨ (∃ j i nx, t.probe (fun i => (((rs.map Prod.fst).map hkT)[i]?).getD 0) (hkT k) (t.probeStart (hkT k)) = some (.candidate j i nx) ∧ (rs.map Prod.fst)[i]? = some k ∧ Q (.there none) s)) :
    wpAny (model prog w) A (setSearch a (.ref c) (hkT k) true) Q E s := by
  obtain ⟨o, es, ep, ho, hxs, hd, he, hg⟩ := H
  obtain ⟨hf, hm, hp, hpl, hl⟩ := SetTT.fit (b := b) (h := s.heap) (a := a) he hg
  have hs : (ldT b t).probe (fun i => (es[i]?.map (·.1)).getD 0) (hkT k) ((ldT b t).probeStart (hkT k)) = t.probe (fun i => (((rs.map Prod.fst).map hkT)[i]?).getD 0) (hkT k) (t.probeStart (hkT k)) := by
    rw [probe_ld]
    congr 1
    funext i
    rw [← Array.getElem?_toList, he]
    simp only [List.getElem?_map, Option.map_map]
    rfl
  have gw : (ldT b t).gaveWay = false := by
    show (t.mask % 2 == 0) = false
    rw [hm]; rfl
  show wpAny _ _ (setSearchFrom a (.ref c) (hkT k) true (99999 + 1) none) _ _ s
  unfold setSearchFrom
  refine wpAny_bind (wpAny_setState_of ho hd hf ?_)
  dsimp only
  rw [gw]
  simp only [Bool.false_eq_true, if_false]
  rcases h with ⟨j, e, h⟩ | ⟨j, i, nx, e, hi, h⟩
  · generalize hq : SetTable.probe (ldT b t) _ _ _ = r
    have er : r = some (.empty j none) := hq.symm.trans (hs.trans e)
    subst er
    exact wpAny_pure h
  · generalize hq : SetTable.probe (ldT b t) _ _ _ = r
    have er : r = some (.candidate j i nx) := hq.symm.trans (hs.trans e)
    subst er
    dsimp only
    rw [List.getElem?_map] at hi
    obtain ⟨r0, hr0, e0⟩ := Option.map_eq_some_iff.mp hi
    obtain ⟨k0, c0⟩ := r0
    have e0 : k0 = k := e0
    subst e0
    have hk0 := hK _ (List.mem_of_getElem? hr0)
    have hei : es[i]? = some (hkT k0, .ref c0) := by
      rw [← Array.getElem?_toList, he, List.getElem?_map, hr0]; rfl
    cases b with
    | true =>
      simp only [ldT, Bool.not_true, Bool.false_eq_true, if_false]
      rw [hei]
      dsimp only
      refine wpAny_bind (wpAny_holding ((tupleKind (intKind prog w)).eqBool (x := k0) (y := k0) (by exact hr) hk0 hx ?_))
      rw [decide_eq_true rfl]
      refine wpAny_bind (wpAny_setState_of ho hd hf ?_)
      exact wpAny_pure h
    | false =>
      simp only [ldT, Bool.not_false, if_true]
      refine wpAny_bind (seen_tup hx (fun y hy => ?_) ?_)
      · simp only [List.mem_map] at hy
        obtain ⟨p, hp, rfl⟩ := hy
        have hp2 : p ∈ es.toList := by
          rw [Array.mem_toList_iff] at hp ⊢
          exact (Array.mem_filter.mp hp).1
        rw [he] at hp2
        obtain ⟨q, hq, rfl⟩ := List.mem_map.mp hp2
        exact ⟨q.1, q.2, rfl, hK q hq⟩
      · simp only [Bool.false_eq_true, if_false]
        rw [hei]
        dsimp only
        refine wpAny_bind (wpAny_holding ((tupleKind (intKind prog w)).eqBool (x := k0) (y := k0) (by exact hr) hk0 hx ?_))
        rw [decide_eq_true rfl]
        refine wpAny_bind (wpAny_setState_of ho hd hf ?_)
        exact wpAny_pure h
theorem relay_ok {b : Bool} {a : Addr} {t : SetTable} {o : Obj} {es : Array (Int × Value)} {ep n : Nat} {rs : List (List Int × Addr)} {u : SetTable} {od : Array Nat} {Q : Unit → Shared → Prop} (ho : s.heap.get? a = some o) (hx : o.ExactSet) (hd : o.data = .set es ep (ldT b t)) (he : es.toList = rs.map enR) (hf : (ldT b t).fits es.size = true)
    (hn : SetTable.sizeAbove n ≤ sizeLine) (e : t.relaid ((rs.map Prod.fst).map hkT).toArray n = some (u, od)) (hp : od.toList.isPerm (List.range rs.length) = true) (hg : goodT u rs.length = true)
    (h : ∀ h', Heap.SameBut a s.heap h' → SetTT b h' a u (od.toList.filterMap fun i => rs[i]?) → Q () { s with heap := h' }) : wpAny (model prog w) A (setRelay a n) Q E s := by
  have hz : es.size = rs.length := by rw [← Array.length_toList, he, List.length_map]
  have hpm : (od.toList.filterMap fun i => rs[i]?).Perm rs := by
    have := ((List.isPerm_iff.mp hp).filterMap fun i => rs[i]?)
    refine this.trans ?_
    have e2 : (List.range rs.length).filterMap (fun i => rs[i]?) = rs := by
      apply List.ext_getElem?
      intro i
      have := filterMap_getElem?_range rs.toArray
      simp at this
      rw [this]
    rw [e2]
  have hes : (od.filterMap (es[·]?)).toList = (od.toList.filterMap fun i => rs[i]?).map enR := by
    rw [Array.toList_filterMap, List.map_filterMap]
    congr 1
    funext i
    rw [← Array.getElem?_toList, he, List.getElem?_map]
  have hlen : (od.filterMap (es[·]?)).size = es.size := by
    rw [← Array.length_toList, hes, List.length_map, hpm.length_eq, hz]
  have er : (ldT b t).relaid (es.map (·.1)) n = some (ldT b u, od) := by
    rw [relaid_ld]
    have : es.map (·.1) = ((rs.map Prod.fst).map hkT).toArray := by
      apply Array.toList_inj.mp
      rw [Array.toList_map, he]
      simp
    rw [this, e]
    rfl
  unfold setRelay
  refine wpAny_bind (wpAny_setState_of ho hd hf ?_)
  dsimp only
  rw [if_neg (by omega)]
  generalize hq : SetTable.relaid (ldT b t) _ _ = r
  have e2 : r = some (ldT b u, od) := hq.symm.trans er
  subst e2
  refine wpAny_bind (?_ : wpAny _ _ (if ((od.filterMap (es[·]?)).size != es.size) = true then _ else pure (od.filterMap (es[·]?), ldT b u)) _ _ _)
  rw [if_neg (by simp [hlen])]
  refine wpAny_pure (wpAny_storeSet_of ho hd ?_ (by rw [hlen, hz]; have := sizeLine_eq; have := (SetTT.fit (b := b) (h := s.heap) (a := a) he (by rw [hz] at hf; exact hg)).2.2.2.2; omega))
  have hrl : (od.toList.filterMap fun i => rs[i]?).length = rs.length := hpm.length_eq
  exact h _ (Heap.SameBut.update s.heap a _) (tt_store ho hx hd hes (by rw [hrl]; exact hg)).2
theorem tt_add {b : Bool} {a c : Addr} {t t1 : SetTable} {rs : List (List Int × Addr)} {k : List Int} {ks1 : List (List Int)} {Q : Bool → Shared → Prop} (H : SetTT b s.heap a t rs) (hr : A.units < cLine) (hK : TKeys prog w s.heap rs) (hx : (tupleKind (intKind prog w)).is s.heap k c)
    (e : addS (t, rs.map Prod.fst) k = some (t1, ks1))
    (h : ∀ r h' rs1, Heap.SameBut a s.heap h' → rs1.map Prod.fst = ks1 → (∀ x ∈ rs1, x ∈ rs ∨ x = (k, c)) → SetTT b h' a t1 rs1 → Q r { s with heap := h' }) : wpAny (model prog w) A (setAddHashed a (.ref c) (hkT k)) Q E s := by
  have H0 := H
  obtain ⟨o, es, ep, ho, hxs, hd, he, hg⟩ := H
  obtain ⟨hf, hm, hp, hpl, hl⟩ := SetTT.fit (b := b) (h := s.heap) (a := a) he hg
  have hz : es.size = rs.length := by rw [← Array.length_toList, he, List.length_map]
  unfold setAddHashed
  refine wpAny_holding ?_
  show wpAny _ _ (setAddHashedIn a (.ref c) (hkT k) (99999 + 1)) _ _ s
  unfold setAddHashedIn
  refine wpAny_bind (wpAny_setState_of ho hd hf ?_)
  dsimp -zeta only
  rw [show byScan (.ref c) es = false from rfl]
  simp -zeta only [Bool.false_eq_true, if_false]
  unfold addS at e
  dsimp only at e
  cases ep2 : t.probe (fun i => (((rs.map Prod.fst).map hkT)[i]?).getD 0) (hkT k) (t.probeStart (hkT k)) with
  | none => rw [ep2] at e; cases e
  | some m =>
    rw [ep2] at e
    cases m with
    | candidate j i nx =>
      dsimp only at e
      by_cases hi : (rs.map Prod.fst)[i]? = some k
      · rw [if_pos hi] at e
        cases e
        refine wpAny_bind (tt_search H0 hr hK hx (.inr ⟨j, i, nx, ep2, hi, ?_⟩))
        exact wpAny_pure (h _ s.heap rs (Heap.SameBut.refl a s.heap) rfl (fun x hx => .inl hx) H0)
      · rw [if_neg hi] at e; cases e
    | empty j d =>
      cases d with
      | some d => cases e
      | none =>
        dsimp only at e
        refine wpAny_bind (tt_search H0 hr hK hx (.inl ⟨j, ep2, ?_⟩))
        dsimp -zeta only
        refine wpAny_bind (wpAny_setState_of ho hd hf ?_)
        rw [List.length_map] at e
        by_cases g1 : goodT (t.put j).1 (rs.length + 1) = true
        · rw [if_pos g1] at e
          have efs : (SetTable.insertAt es (t.put j).2 (hkT k, Value.ref c)).toList = (rs.take (t.put j).2 ++ (k, c) :: rs.drop (t.put j).2).map enR := by
            rw [ins_list, he, List.map_append, List.map_cons, List.map_take, List.map_drop]
          have ers : (rs.take (t.put j).2 ++ (k, c) :: rs.drop (t.put j).2).map Prod.fst = (rs.map Prod.fst).take (t.put j).2 ++ k :: (rs.map Prod.fst).drop (t.put j).2 := by
            rw [List.map_append, List.map_cons, List.map_take, List.map_drop]
          have lrs : (rs.take (t.put j).2 ++ (k, c) :: rs.drop (t.put j).2).length = rs.length + 1 := by simp; omega
          have mrs : ∀ x ∈ rs.take (t.put j).2 ++ (k, c) :: rs.drop (t.put j).2, x ∈ rs ∨ x = (k, c) := fun x hx => by
            rcases List.mem_append.mp hx with q | q
            · exact .inl (List.mem_of_mem_take q)
            · rcases List.mem_cons.mp q with q | q
              · exact .inr q
              · exact .inl (List.mem_of_mem_drop q)
          generalize hR : rs.take (t.put j).2 ++ (k, c) :: rs.drop (t.put j).2 = R at efs ers lrs mrs
          rw [← ers] at e
          have hpl2 : (t.put j).1.plain = true := hpl
          refine (?_ : wpAny _ _ (ite ((t.put j).1.plain = true) _ _) _ _ _)
          rw [if_pos hpl2]
          refine wpAny_bind (byv_tup hx ?_)
          refine (?_ : wpAny _ _ (storeSet a (SetTable.insertAt es (t.put j).2 (hkT k, .ref c)) (ldT b (t.put j).1) >>= _) _ _ _)
          have hsz : (SetTable.insertAt es (t.put j).2 (hkT k, Value.ref c)).size = rs.length + 1 := by rw [← Array.length_toList, efs, List.length_map, lrs]
          have hsl := sizeLine_eq
          refine wpAny_bind (wpAny_storeSet_of ho hd ?_ (by rw [hsz]; omega))
          have g1' : goodT (t.put j).1 R.length = true := by rw [lrs]; exact g1
          obtain ⟨ho1, S1⟩ := tt_store (b := b) ho hxs hd efs g1'
          have sb1 := Heap.SameBut.update s.heap a (Obj.putSet (SetTable.insertAt es (t.put j).2 (hkT k, Value.ref c)) (ldT b (t.put j).1))
          refine (?_ : wpAny _ _ (ite ((t.put j).1.tooFull = true) _ _) _ _ _)
          by_cases tf : (t.put j).1.tooFull = true
          · rw [if_pos tf] at e ⊢
            cases er : (t.put j).1.relaid ((R.map Prod.fst).map hkT).toArray (SetTable.grown (rs.length + 1)) with
            | none => rw [er] at e; cases e
            | some r =>
              obtain ⟨u, od⟩ := r
              rw [er] at e
              dsimp only at e
              by_cases g2 : (goodT u (rs.length + 1) && od.toList.isPerm (List.range (rs.length + 1)) && decide (SetTable.sizeAbove (SetTable.grown (rs.length + 1)) ≤ sizeLine)) = true
              · rw [if_pos g2] at e
                simp only [Bool.and_eq_true, decide_eq_true_eq] at g2
                obtain ⟨⟨g3, g4⟩, g5⟩ := g2
                cases e
                refine (?_ : wpAny _ _ (setRelay a (SetTable.grown (es.size + 1)) >>= _) _ _ _)
                rw [hz]
                have hf1 : (ldT b (t.put j).1).fits (SetTable.insertAt es (t.put j).2 (hkT k, Value.ref c)).size = true := (SetTT.fit (b := b) (h := s.heap) (a := a) efs g1').1
                refine wpAny_bind (relay_ok (s := { s with heap := s.heap.update a (Obj.putSet (SetTable.insertAt es (t.put j).2 (hkT k, Value.ref c)) (ldT b (t.put j).1)) }) ho1 hxs rfl efs hf1 g5 er (by rw [lrs]; exact g4) (by rw [lrs]; exact g3) fun h' sb2 S2 => ?_)
                refine wpAny_pure (h _ h' _ (sb1.trans sb2) ?_ (fun x hx => ?_) S2)
                · rw [List.map_filterMap]
                  congr 1
                  funext i
                  rw [List.getElem?_map]
                · obtain ⟨i, _, hi⟩ := List.mem_filterMap.mp hx
                  exact mrs x (List.mem_of_getElem? hi)
              · rw [if_neg g2] at e; cases e
          · rw [if_neg tf] at e ⊢
            cases e
            exact wpAny_pure (h _ _ R sb1 rfl mrs S1)
        · rw [if_neg g1] at e; cases e
end
section
open PySem
variable {prog : Program} {w : World} {A : Around} {R : Result → Shared → Prop} {I : Addr} {fp wr : List Addr} {G : Array GenState → Array GenState → Prop} {n : Nat} {P : Nat → Value → Prop} {St : Nat → Shared → Prop} {b : Bool}
theorem tk_at {h h' : Heap} {k : List Int} {c : Addr} (H : (tupleKind (intKind prog w)).is h k c) (e : ∀ o, h.get? c = some o → h'.get? c = some o) : (tupleKind (intKind prog w)).is h' k c :=
  let ⟨o, items, n, ho, r⟩ := H; ⟨o, items, n, e _ ho, r⟩
theorem tt_loop (W : WalksS prog w A.in1 I fp wr G n P St) (S : Addr) (hSf : S ∉ fp) (hr : A.in1.units < cLine) (kl : List (List Int)) (ad : Nat → Addr) (hn : kl.length = n) (hval : ∀ i v, P i v → v = .ref (ad i)) (hoff : ∀ i, i < n → ad i ≠ S ∧ ad i ∉ wr) {tF : SetTable} {ksF : List (List Int)} :
    ∀ (k i : Nat) (s : Shared) (t : SetTable) (rs : List (List Int × Addr)), n - i = k → i ≤ n → St i s → (∀ j (hj : j < kl.length), (tupleKind (intKind prog w)).is s.heap kl[j] (ad j)) → SetTT b s.heap S t rs → (∀ x ∈ rs, ∃ j, ∃ hj : j < kl.length, x = (kl[j], ad j)) → (kl.drop i).foldlM addS (t, rs.map Prod.fst) = some (tF, ksF) →
      (∀ s' rs', Moved (S :: wr) G s s' → SetTT b s'.heap S tF rs' → rs'.map Prod.fst = ksF → (∀ x ∈ rs', ∃ j, ∃ hj : j < kl.length, x = (kl[j], ad j)) → R (.ok (.ret .none)) s') → codeAny (model prog w) A (.builtin "set.update.loop" ⟨[.ref S, .ref I], []⟩) R s := by
  have off : S ∉ wr := fun h => hSf (W.sub _ h)
  have more : ∀ c ∈ wr, c ∈ S :: wr := fun c hc => List.mem_cons_of_mem _ hc
  intro k
  induction k with
  | zero =>
    intro i s t rs hk hi st HT HS Hr Hf fin
    obtain rfl : i = n := by omega
    rw [List.drop_of_length_le (by omega)] at Hf
    cases Hf
    refine codeAny_builtin PyProof.Rows.F.entry_set_update_loop ?_
    rw [Around.under_plainId PyProof.Rows.F.plain_set_update_loop _]
    refine wpAny_bind (W.done s _ _ st fun s' hm => wpAny_pure (fin s' rs (hm.mono more) (HS.at fun o e => hm.heap S _ off e) rfl Hr))
  | succ k ih =>
    intro i s t rs hk hi st HT HS Hr Hf fin
    refine codeAny_builtin PyProof.Rows.F.entry_set_update_loop ?_
    rw [Around.under_plainId PyProof.Rows.F.plain_set_update_loop _]
    refine wpAny_bind (W.item i s _ _ (by omega) st fun v s' hP st' hm => ?_)
    have ev := hval i v hP
    subst ev
    have hil : i < kl.length := by omega
    have HS' := HS.at fun o e => hm.heap S _ off e
    have HT' : ∀ j (hj : j < kl.length), (tupleKind (intKind prog w)).is s'.heap kl[j] (ad j) := fun j hj => tk_at (HT j hj) fun o e => hm.heap _ _ (hoff j (by omega)).2 e
    rw [List.drop_eq_getElem_cons hil, List.foldlM_cons] at Hf
    cases ea : addS (t, rs.map Prod.fst) kl[i] with
    | none => rw [ea] at Hf; cases Hf
    | some st1 =>
      obtain ⟨t1, ks1⟩ := st1
      rw [ea] at Hf
      refine wpAny_bind (wpAny_holding ?_)
      unfold setAdd
      have hk1 := HT' i hil
      refine wpAny_holding (wpAny_bind ((tupleKind (intKind prog w)).pyHash (k := kl[i]) (by exact hr) hk1 ?_))
      refine tt_add (s := { s' with toks := s'.toks + _ }) (k := kl[i]) HS' (by exact hr) (fun x hx => ?_) hk1 ea fun r h' rs1 sb e1 m1 S2 => ?_
      · obtain ⟨j, hj, rfl⟩ := Hr x hx
        exact HT' j hj
      refine wpAny_pure ⟨plainId_quiet PyProof.Rows.F.plain_set_update_loop _, ih (i + 1) _ t1 rs1 (by omega) (by omega) (W.frame _ s' _ _ st' (Nat.le_add_right _ _) fun c hc o e => ?_) (fun j hj => tk_at (HT' j hj) fun o e => ?_) S2 (fun x hx => ?_) (by rw [e1]; exact Hf) fun s2 rs2 hm2 S3 e3 m3 => ?_⟩
      · rw [sb.2 c (fun z : c = S => hSf (z ▸ hc))]; exact e
      · rw [sb.2 _ (hoff j (by omega)).1]; exact e
      · rcases m1 x hx with q | q
        · exact Hr x q
        · exact ⟨i, hil, q⟩
      · refine fin s2 rs2 (Moved.trans W.gtrans ((hm.mono more).then_heap (Nat.le_add_right _ _) fun c o hc e => ?_) hm2) S3 e3 m3
        rw [sb.2 c (fun z : c = S => hc (by rw [z]; exact List.mem_cons_self))]; exact e
end
section
open PySem
variable {prog : Program} {w : World} {A : Around} {E : Value → Shared → Prop} {s : Shared}
theorem call_tt {l : Addr} {items : Array Value} {kl : List (List Int)} {ad : Nat → Addr} {tF : SetTable} {ksF : List (List Int)} {Q : Value → Shared → Prop} (hh : A.handled = none) (hr : A.units + 3 < cLine) (hl : s.heap.IsList l items) (hn : kl.length = items.size) (hi : ∀ (i : Nat) (v : Value), items[i]? = some v → v = .ref (ad i)) (hT : ∀ j (hj : j < kl.length), (tupleKind (intKind prog w)).is s.heap kl[j] (ad j)) (hR : runS kl = some (tF, ksF))
    (h : ∀ (h' : Heap) (tk : Nat) (rs : List (List Int × Addr)), SetTT (ledOf w) h' s.heap.objs.size tF rs → rs.map Prod.fst = ksF → (∀ x ∈ rs, ∃ j, ∃ hj : j < kl.length, x = (kl[j], ad j)) → (∀ c o, c < s.heap.objs.size → s.heap.get? c = some o → h'.get? c = some o) → Q (.ref s.heap.objs.size) { s with heap := h', toks := tk }) :
    wpAny (model prog w) A (call (.type "set") [.ref l]) Q E s := by
  obtain ⟨c, tl, hmro⟩ := F.called_set.mro
  have made := F.called_set.made
  have sub := F.called_set.sub
  refine wpAny_call (codeAny_of_tree ?_)
  show wpAny (model prog w) A.in1 (callAny (.type "set") _) _ _ _
  refine wpAny_pure ⟨Code.quiet_builtin _ (by decide +kernel), codeAny_builtin (F.entry_type_call) ?_⟩
  rw [Around.under_plain (weight_type_call_type "set" [.ref l] []) rfl]
  have g1 := F.called_set.notType
  have g2 := F.called_set.canCreate
  have g3 := F.typeCall_set_1 (.ref l)
  repeat (any_goals (first | assumption | wp_step))
  generalize hO : ({ cls := .type "set", dict := none, data := .set #[] 0 (.fresh 0 0 (ledOf w)) } : Obj) = ob at *
  refine codeAny_mono (new_iset (.ref l) (E := E) (Q₁ := fun u s₁ => u = .ref s.heap.objs.size ∧ s₁ = { s with heap := s.heap.push ob }) (by rw [hO]; exact ⟨rfl, rfl⟩)) fun r s₁ hr' => ?_
  cases r with
  | error e => exact hr'
  | ok fl =>
    cases fl with
    | ret u =>
      obtain ⟨rfl, rfl⟩ := hr'
      have hc : ob.cls = .type "set" := by rw [← hO]
      have hf : ob.isFreed = false := by rw [← hO]; rfl
      have e0 : (s.heap.push ob).get? s.heap.objs.size = some ob := Heap.get?_push_size _ hf
      have hT' : Shared.TypeIs { s with heap := s.heap.push ob } (.ref s.heap.objs.size) "set" := ⟨_, e0, hc⟩
      have li := F.called_set.init.lookup
      have bi := F.called_set.init.bind (.ref s.heap.objs.size)
      repeat (any_goals (first | assumption | wp_step))
      refine codeAny_mono (codeAny_call_builtin (R := wants (fun r s₂ => r = .none ∧ ∃ h' tk rs, s₂ = { s with heap := h', toks := tk } ∧ SetTT (ledOf w) h' s.heap.objs.size tF rs ∧ rs.map Prod.fst = ksF ∧ (∀ x ∈ rs, ∃ j, ∃ hj : j < kl.length, x = (kl[j], ad j)) ∧ (∀ c o, c < s.heap.objs.size → s.heap.get? c = some o → h'.get? c = some o)) E) F.called_set.init.plain F.entry_set_init (check_set_init_1 hT' ?_)) fun r₂ s₂ hr₂ => ?_
      · obtain ⟨ol, hol, hcl, nl, hdl⟩ := hl
        obtain ⟨k1, k2, k3, k4⟩ := ol
        simp only at hcl hdl
        subst hcl; subst hdl
        have hol' : (s.heap.push ob).get? l = some { cls := .type "list", dict := k2, data := .seq items nl, slots := k4 } := Heap.get?_push_of_some _ hol
        have z1 := F.sub_list_set
        have z2 := F.sub_list_frozenset
        have z3 : (Value.type "list" == Value.type "dict") = false := by decide
        have hl1 : (s.heap.push ob).IsList l items := ⟨_, hol', rfl, nl, rfl⟩
        subst hO
        unfold Builtin.«set.__init__» noKeywords Builtin.Frozenset.updateFrom
        generalize hPI : pyIter = PI; wp_walk; subst hPI
        refine wpAny_pyIter_list (hl1) ?_
        refine wpAny_bind (m := runValue _) (wpAny_runValue ?_)
        have lS : l < s.heap.objs.size := Heap.lt_size hol
        have lI : l ≠ (s.heap.push { cls := .type "set", dict := none, data := .set #[] 0 (.fresh 0 0 (ledOf w)) }).objs.size := by rw [Heap.size_push]; exact Nat.ne_of_lt (Nat.lt_succ_of_lt lS)
        have off : s.heap.objs.size ∉ [(s.heap.push { cls := .type "set", dict := none, data := .set #[] 0 (.fresh 0 0 (ledOf w)) }).objs.size, l] := by
          rw [Heap.size_push]; simp only [List.mem_cons, List.not_mem_nil, or_false, not_or]
          exact ⟨Nat.ne_of_lt (Nat.lt_succ_self _), Nat.ne_of_gt lS⟩
        have low : ∀ j, j < items.size → ad j < s.heap.objs.size := fun j hj => by
          obtain ⟨o, _, _, ho, _⟩ := hT j (by omega)
          exact Heap.lt_size ho
        refine tt_loop (b := ledOf w) ((Walks.list (by simp [hh]) _ l lI items).toS) s.heap.objs.size off ?room kl ad hn hi (fun j hj => ⟨Nat.ne_of_lt (low j hj), ?wr⟩) (items.size - 0) 0 _ (.fresh 0 0 true) [] (by omega) (Nat.zero_le _) ⟨⟨_, Heap.get?_push_size _ rfl, rfl, rfl⟩, hl1.push _⟩ (fun j hj => tk_at (hT j hj) fun o e => Heap.get?_push_of_some _ (Heap.get?_push_of_some _ e)) ⟨_, #[], 0, Heap.get?_push_of_some _ e0, ⟨rfl, rfl, rfl⟩, rfl, rfl, by decide⟩ (fun x hx => absurd hx List.not_mem_nil) hR fun s' rs hm S' e1 m1 => ?_
        case room => exact hr
        case wr =>
          rw [Heap.size_push]
          simp only [List.mem_cons, List.not_mem_nil, or_false]
          exact Nat.ne_of_lt (Nat.lt_succ_of_lt (low j hj))
        obtain ⟨h', g', d', tk', os'⟩ := s'
        obtain rfl : g' = s.gens := hm.gens
        obtain rfl : d' = s.drawn := hm.drawn
        obtain rfl : os' = s.os := hm.os
        refine wpAny_pure (wpAny_pure ⟨rfl, h', tk', rs, rfl, S', e1, m1, fun c o hc e => hm.heap c o ?_ (Heap.get?_push_of_some _ (Heap.get?_push_of_some _ e))⟩)
        rw [Heap.size_push]
        simp only [List.mem_cons, List.not_mem_nil, or_false, not_or]
        exact ⟨Nat.ne_of_lt hc, Nat.ne_of_lt (Nat.lt_succ_of_lt hc)⟩
      · cases r₂ with
        | error e => exact hr₂
        | ok fl₂ =>
          cases fl₂ with
          | ret r =>
            obtain ⟨rfl, h', tk, rs, rfl, S', e1, m1, k'⟩ := hr₂
            repeat (any_goals (first | assumption | wp_step))
            exact h _ _ _ S' e1 m1 k'
          | _ => exact hr₂.elim
    | _ => exact hr'.elim
end
theorem perm_map_iff {α β : Type} (f : α → β) : ∀ {l : List β} {m : List α}, l.Perm (m.map f) → ∃ m' : List α, m'.Perm m ∧ l = m'.map f
  | [], m, h => ⟨[], by have := h.length_eq; simp at this; rw [List.length_eq_zero_iff.mp this.symm], rfl⟩
  | x :: l, m, h => by
    obtain ⟨y, hy, rfl⟩ := List.mem_map.mp (h.mem_iff.mp List.mem_cons_self)
    obtain ⟨u, v, rfl⟩ := List.append_of_mem hy
    have h2 : l.Perm ((u ++ v).map f) := by
      have : (f y :: l).Perm (f y :: (u ++ v).map f) := by
        refine h.trans ?_
        rw [List.map_append, List.map_cons, List.map_append]
        exact List.perm_middle
      exact this.cons_inv
    obtain ⟨m', p, e⟩ := perm_map_iff f h2
    exact ⟨y :: m', (p.cons y).trans List.perm_middle.symm, by rw [e]; rfl⟩
section
open PySem SetTable
variable {prog : Program} {w : World} {A : Around} {E : Value → Shared → Prop} {s : Shared} {a : Addr}
theorem iter_tt {t : SetTable} {rs : List (List Int × Addr)} {Q : Value → Shared → Prop} (H : SetTT (ledOf w) s.heap a t rs)
    (h : ∀ (I : Addr) (rs' : List (List Int × Addr)) (h' : Heap), (∀ c o, s.heap.get? c = some o → h'.get? c = some o) → s.heap.objs.size ≤ I → Begun prog w I a (rs'.map fun r => Value.ref r.2) s.heap.objs.size h' → rs'.Perm rs → Q (.ref I) { s with heap := h' }) : wpAny (model prog w) A (pyIter (.ref a)) Q E s := by
  have ty := H.ty
  obtain ⟨o, es, ep, ho, hx, hd, he, hg⟩ := H
  obtain ⟨hf, hm, hp, hpl, hl⟩ := SetTT.fit (b := ledOf w) (h := s.heap) (a := a) he hg
  have ha : a < s.heap.objs.size := Heap.lt_size ho
  have lift : ∀ ord : List (Int × Value), ord.Perm es.toList → ∃ rs' : List (List Int × Addr), rs'.Perm rs ∧ ord = rs'.map enR := fun ord hp => by
    rw [he] at hp
    exact (perm_map_iff enR hp)
  refine wpAny_pyIter_slot ty F.slot_set_iter (wpAny_call_entry F.slot_set_iter ty entry_s_iter ?_ (F.args_set_iter_1 _))
  unfold Builtin.«frozenset.__iter__» Builtin.Frozenset.slot0 slotArgs Builtin.Frozenset.sizeOf
  simp only [List.isEmpty_nil, Bool.not_true, Bool.false_eq_true, ↓reduceIte, bind_assoc, List.length_nil, bne_self_eq_false]
  unfold Builtin.Frozenset.addrOf
  refine wpAny_bind (wpAny_pure ?_)
  dsimp only
  refine wpAny_bind (wpAny_pure (wpAny_bind (wpAny_setEntries_of ho hd hf (wpAny_bind (wpAny_pure ?_)))))
  unfold setDrawn setsByText
  simp only [bind_assoc]
  refine wpAny_bind (wpAny_setState_of ho hd hf (wpAny_bind (wpAny_askSetting ?_)))
  simp only [pure_bind]
  have hdr : (!(ldT (ledOf w) t).plain && decide (es.size > 1)) = false := by
    show (!t.plain && _) = false
    rw [hpl]; rfl
  cases htx : w.params.followText "set-order" with
  | true =>
    have ord := pick_perm (w.params.setOrder a ep) es.size 0 es.toList #[] (by simp)
    refine (?_ : wpAny (model prog w) A.in1 (if (!(w.params.followText "set-order") && _) = true then _ else _) _ _ s)
    rw [htx, Bool.not_true, Bool.false_and, if_neg Bool.false_ne_true]
    refine wpAny_bind (wpAny_setEpoch_of ho hd hf (wpAny_bind (wpAny_newObj_type (wpAny_pure ⟨_, rfl, "set_iterator", _, ⟨_, Heap.get?_push_size _ rfl, rfl⟩, slot_si_next.lookup, ?_⟩) (by size_fits))))
    have op : (pickOrder (w.params.setOrder a ep) es).toList.Perm es.toList := ord
    obtain ⟨rs', hp', e'⟩ := lift _ op
    have ev : (pickOrder (w.params.setOrder a ep) es).toList.map (·.2) = rs'.map fun r => Value.ref r.2 := by rw [e', List.map_map]; rfl
    refine h _ rs' _ (fun c o e => Heap.get?_push_of_some _ e) (Nat.le_refl _) ?_ hp'
    rw [← ev]
    refine ⟨_, _, fun A' hh => Walks.by (walk_text (t := ldT (ledOf w) t) (ep := ep) hh htx hf (Nat.ne_of_lt ha) rfl (by have := op.length_eq; simpa using this)) (by have := op.length_eq; simp at this ⊢; omega) (fun i v => snd_at), ⟨⟨o, Heap.get?_push_of_some _ ho, hd⟩, Heap.get?_push_size _ rfl⟩, fun c hc => ?_⟩
    simp only [List.mem_cons, List.not_mem_nil, or_false] at hc
    rcases hc with z | z
    · exact .inr (by rw [z]; exact Nat.le_refl _)
    · exact .inl z
  | false =>
    have hl : (ldT (ledOf w) t).led = true := by show (!w.params.followText "set-order") = true; rw [htx]; rfl
    refine (?_ : wpAny (model prog w) A.in1 (if (!(w.params.followText "set-order") && (!(ldT (ledOf w) t).plain && decide (es.size > 1))) = true then _ else _) _ _ s)
    rw [htx, Bool.not_false, Bool.true_and, hdr, if_neg Bool.false_ne_true]
    refine wpAny_bind (wpAny_setEpoch_of ho hd hf (wpAny_bind (wpAny_newObj_type (wpAny_pure ⟨_, rfl, "set_iterator", _, ⟨_, Heap.get?_push_size _ rfl, rfl⟩, slot_si_next.lookup, ?_⟩) (by size_fits))))
    have ev : es.toList.map (·.2) = rs.map fun r => Value.ref r.2 := by rw [he, List.map_map]; rfl
    refine h _ rs _ (fun c o e => Heap.get?_push_of_some _ e) (Nat.le_refl _) ?_ (List.Perm.refl _)
    rw [← ev]
    refine ⟨_, _, fun A' hh => Walks.by (walk_slot (t := ldT (ledOf w) t) (ep := ep) hh htx hdr ⟨hp, hl⟩ hf (Nat.ne_of_lt ha)) (by simp) (fun i v => snd_at), ⟨⟨o, Heap.get?_push_of_some _ ho, hd⟩, 0, Heap.get?_push_size _ rfl, below_zero hp⟩, fun c hc => ?_⟩
    simp only [List.mem_cons, List.not_mem_nil, or_false] at hc
    rcases hc with z | z
    · exact .inr (by rw [z]; exact Nat.le_refl _)
    · exact .inl z
theorem collect_tt {t : SetTable} {rs : List (List Int × Addr)} {Q : List Value → Shared → Prop} (hh : A.handled = none) (H : SetTT (ledOf w) s.heap a t rs)
    (h : ∀ (rs' : List (List Int × Addr)) (h' : Heap) (tk : Nat), (∀ c o, s.heap.get? c = some o → h'.get? c = some o) → s.heap.objs.size ≤ h'.objs.size → rs'.Perm rs → Q (rs'.map fun r => Value.ref r.2) { s with heap := h', toks := tk }) : wpAny (model prog w) A (collect (.ref a)) Q E s := by
  have hz := sizeLine_eq
  have hks : rs.length < 4096 := by
    obtain ⟨o, es, ep, ho, hx, hd, he, hg⟩ := H
    exact (SetTT.fit (b := ledOf w) (h := s.heap) (a := a) he hg).2.2.2.2
  have ha : a < s.heap.objs.size := by obtain ⟨o, _, _, ho, _⟩ := H; exact Heap.lt_size ho
  unfold collect
  refine wpAny_bind (wpAny_runValue (codeAny_builtin (F.entry_proto_collect) ?_))
  rw [Around.under_plainId (F.plain_proto_collect) _]
  show wpAny (model prog w) A.in1 (newList [] >>= fun l => again (.builtin "list.__iadd__" ⟨[l, .ref a], []⟩)) _ _ s
  refine wpAny_bind (wpAny_newObj_type ?_)
  refine wpAny_pure ⟨plainId_quiet F.plain_list_iadd _, codeAny_builtin (F.entry_list_iadd) ?_⟩
  rw [Around.under_plainId (F.plain_list_iadd) _]
  have H1 : SetTT (ledOf w) (s.heap.push { cls := .type "list", data := .seq ([] : List Value).toArray }) a t rs := H.at fun o e => Heap.get?_push_of_some _ e
  have ty : Shared.TypeIs { s with heap := s.heap.push { cls := .type "list", data := .seq ([] : List Value).toArray } } (.ref a) "set" := H1.ty
  have e0 : (s.heap.push { cls := .type "list", data := .seq ([] : List Value).toArray }).get? s.heap.objs.size = some { cls := .type "list", data := .seq ([] : List Value).toArray } := Heap.get?_push_size _ rfl
  have up : (s.heap.push { cls := .type "list", data := .seq ([] : List Value).toArray }).objs.size = s.heap.objs.size + 1 := Heap.size_push ..
  show wpAny (model prog w) A.in1 (Builtin.List.listExtendWith (.ref s.heap.objs.size) (.ref a) (.ref s.heap.objs.size)) _ _ _
  unfold Builtin.List.listExtendWith
  refine wpAny_bind (wpAny_typeOf ty ?_)
  have k1 : Builtin.List.listSameRef (.ref s.heap.objs.size) (.ref a) = false := by simpa [Builtin.List.listSameRef] using Nat.ne_of_gt ha
  have k2 : (Value.type "set" == Value.type "list") = false := by decide
  have k3 : (Value.type "set" == Value.type "tuple") = false := by decide
  simp only [k1, k2, k3, Bool.or_false, Bool.false_eq_true, if_false]
  refine wpAny_bind (iter_tt (s := { s with heap := s.heap.push { cls := .type "list", data := .seq ([] : List Value).toArray } }) H1 fun I rs' h1 kp hI bg hp => ?_)
  have ty1 : Shared.TypeIs { s with heap := h1 } (.ref a) "set" := by
    obtain ⟨o, _, _, ho, hx, _⟩ := H1
    exact ⟨o, kp _ _ ho, hx.1⟩
  refine wpAny_bind (wpAny_holding ?_)
  unfold Builtin.List.listLengthHint
  refine wpAny_bind (wpAny_specialOf ty1 F.slot_set_len.lookup ?_)
  wp_delta
  refine wpAny_bind (wpAny_isInstance (T := "set") (b := true) ty1 sub_set_self ?_)
  refine wpAny_bind (wpAny_typeOf ty1 (wpAny_pure ?_))
  rw [if_pos (by decide)]
  refine wpAny_bind (wpAny_rule (wpAny_bind ?_))
  have g1 := kp _ _ e0
  show wpAny (model prog w) A.in1 (updateSeq s.heap.objs.size (·.push .none) >>= fun _ => updateSeq s.heap.objs.size (·.pop)) _ _ { s with heap := h1 }
  refine wpAny_bind (wpAny_updateSeq g1 rfl ?_)
  have g2 := Heap.get?_update_self (Obj.mapSeq (·.push Value.none)) g1 rfl
  refine wpAny_updateSeq g2 rfl ?_
  have g3 := Heap.get?_update_self (Obj.mapSeq (·.pop)) g2 rfl
  have oth : ∀ c o, c ≠ s.heap.objs.size → h1.get? c = some o → ((h1.update s.heap.objs.size (Obj.mapSeq (·.push Value.none))).update s.heap.objs.size (Obj.mapSeq (·.pop))).get? c = some o := fun c o hc e => (Heap.get?_update_other _ _ (Ne.symm hc)).trans ((Heap.get?_update_other _ _ (Ne.symm hc)).trans e)
  obtain ⟨fp, St, W, st, low⟩ := bg
  have hS : s.heap.objs.size ∉ fp := fun z => by
    rcases low _ z with q | q
    · exact Nat.ne_of_gt ha q
    · rw [up] at q; exact Nat.not_succ_le_self _ q
  generalize hvs : (rs'.map fun r => Value.ref r.2) = vs at W ⊢
  have hvl : vs.length ≤ sizeLine := by rw [← hvs, List.length_map, hp.length_eq]; omega
  refine wpAny_pure ⟨plainId_quiet F.plain_extend_loop _, codeAny_extend_loopS (W A.in1 (by simp [hh])).toS hvl _ hS _ vs.length 0 _ _ _ rfl (Nat.zero_le _) ((W A hh).frame 0 _ _ st fun c hc o e => oth c o (fun z => hS (z ▸ hc)) e) g3 (ItemsOf.nil _) fun s' acc' c' hm hS' hacc => ?_⟩
  show wpAny (model prog w) A (load s.heap.objs.size >>= _) _ _ s'
  refine wpAny_bind (wpAny_load hS' (wpAny_pure ?_))
  have ev : acc'.toList = vs := by
    apply List.ext_getElem?
    intro i
    by_cases hi : i < vs.length
    · have h2 : i < acc'.size := by rw [hacc.1]; exact hi
      have h3 := hacc.2 i acc'[i] (by simp [h2])
      rw [h3]
      simp [h2]
    · rw [List.getElem?_eq_none (by rw [Array.length_toList, hacc.1]; omega), List.getElem?_eq_none (by omega)]
  have es' := Moved.eq_with hm
  dsimp only at es'
  rw [es', ev, ← hvs]
  refine h rs' _ _ (fun c o e => ?_) ?_ hp
  · have hc : c < s.heap.objs.size := Heap.lt_size e
    refine hm.heap c o (fun z => ?_) (oth c o (Nat.ne_of_lt hc) (kp c o (Heap.get?_push_of_some _ e)))
    rcases List.mem_cons.mp z with z | z
    · exact Nat.ne_of_lt hc z
    · simp at z
      subst z
      rw [up] at hI
      exact absurd hc (Nat.not_lt.mpr (Nat.le_of_succ_le hI))
  · exact Nat.le_of_lt (Heap.lt_size hS')
end
section
open PySem.W
variable {prog : Program} {w : World} {A : Around} {E : Value → Shared → Prop} {s : Shared}
theorem ints_key {k : List Int} {vs : List Value} (h : ItemsAre (intKind prog w) k vs) : IntsAre vs k := by
  induction h with
  | nil => exact .nil
  | cons h1 _ ih =>
    obtain ⟨t, e⟩ := key_is h1
    subst e
    exact .cons _ _ ih
theorem asks_tt {rs : List (List Int × Addr)} (hK : TKeys prog w s.heap rs) (hne : ((rs.map Prod.fst).all fun t => !t.isEmpty) = true) (h2 : 2 ≤ rs.length) : Asks prog w A (rk lexZ (rs.map Prod.fst) []) (rs.map fun r => Value.ref r.2) s := by
  have at_ : ∀ i, i < rs.length → ∃ (l : Addr) (ob : Obj) (us : Array Value) (n : Nat), (rs.map fun r => Value.ref r.2).getD i Value.none = .ref l ∧ s.heap.get? l = some ob ∧ ob.cls = .type "tuple" ∧ ob.data = .seq us n ∧ IntsAre us.toList ((rs.map Prod.fst).getD i []) := fun i hi => by
    obtain ⟨o, us, n, h3, h4, h5, h6⟩ := hK rs[i] (List.getElem_mem hi)
    exact ⟨rs[i].2, o, us, n, by simp [hi], h3, h4, h5, by simpa [hi] using ints_key h6⟩
  have tups : ∀ (k : Nat), k ≤ rs.length → ∃ fs, KatTups s.heap ((rs.map fun r => Value.ref r.2).drop (rs.length - k)) fs ∧ fs.length = k ∧ ∀ v ∈ fs, ∃ i t, v = Value.int i t := by
    intro k
    induction k with
    | zero => intro _; exact ⟨[], by rw [Nat.sub_zero, List.drop_of_length_le (by simp)]; exact KatTups.nil, rfl, fun _ h => nomatch h⟩
    | succ k ih =>
      intro hk
      obtain ⟨fs, q1, q2, q3⟩ := ih (by omega)
      have hi : rs.length - (k + 1) < rs.length := by omega
      obtain ⟨l, ob, us, n, e1, e2, e3, e4, e5⟩ := at_ _ hi
      have hn : ((rs.map Prod.fst).getD (rs.length - (k + 1)) []) ≠ [] := by
        have hi' : rs.length - (k + 1) < (rs.map Prod.fst).length := by rw [List.length_map]; exact hi
        rw [getD_get hi']
        have := List.all_eq_true.mp hne _ (List.getElem_mem hi')
        simpa using this
      obtain ⟨z, ez⟩ : ∃ z, (rs.map Prod.fst).getD (rs.length - (k + 1)) [] = z := ⟨_, rfl⟩
      rw [ez] at e5 hn
      generalize hus : us.toList = ul at e5
      obtain ⟨f, fr, ef, hf⟩ : ∃ f fr, ul = f :: fr ∧ ∃ i t, f = Value.int i t := by
        cases e5 with
        | nil => exact absurd rfl hn
        | cons m t r => exact ⟨_, _, rfl, _, _, rfl⟩
      refine ⟨f :: fs, ?_, by simp [q2], fun v hv => ?_⟩
      · have hi' : rs.length - (k + 1) < (rs.map fun r => Value.ref r.2).length := by rw [List.length_map]; exact hi
        rw [List.drop_eq_getElem_cons hi']
        rw [show rs.length - (k + 1) + 1 = rs.length - k by omega]
        rw [getD_get hi'] at e1
        rw [e1]
        exact KatTups.cons e2 e3 e4 (by rw [← Array.getElem?_toList, hus, ef]; rfl) q1
      · rcases List.mem_cons.mp hv with e | e
        · rw [e]; exact hf
        · exact q3 v e
  obtain ⟨fs, q1, q2, q3⟩ := tups rs.length (Nat.le_refl _)
  rw [Nat.sub_self, List.drop_zero] at q1
  unfold Asks
  refine kat_kind (s := s) (T := .type "int") q1 (by omega) (fun v hv => ?_) rfl ⟨rfl, fun i j C hi hj hc => ?_⟩
  · obtain ⟨i, t, e⟩ := q3 v hv
    rw [e]
    exact Looks.of_pure rfl
  · rw [List.length_map] at hi hj
    unfold kas_ask
    obtain ⟨x1, o1, us, n1, e1, g1, _, d1, a1⟩ := at_ i hi
    obtain ⟨x2, o2, vs, n2, e2, g2, _, d2, a2⟩ := at_ j hj
    rw [e1, e2]
    rw [rk_lt ordLex (by rw [List.length_map]; exact hi) (by rw [List.length_map]; exact hj)] at hc
    refine kat_lt (s := s) g1 d1 g2 d2 (katLex_ints 0 a1 a2 ?_)
    rw [← Array.length_toList, ← Array.length_toList, a1.length, a2.length, lexF_lex]
    exact hc
theorem sorted_tt {a : Addr} {t : SetTable} {rs : List (List Int × Addr)} {Q : Value → Shared → Prop} (hh : A.handled = none) (H : SetTT (ledOf w) s.heap a t rs) (hK : TKeys prog w s.heap rs) (hne : rs.length < 2 ∨ ((rs.map Prod.fst).all fun t => !t.isEmpty) = true)
    (h : ∀ (h' : Heap) (D : Addr) (c tk : Nat) (out : List Value) (rs' : List (List Int × Addr)), s.heap.objs.size ≤ D → (∀ b o, s.heap.get? b = some o → h'.get? b = some o) → h'.get? D = some (seqObj "list" out.toArray c) → rs'.Perm rs → InOrd (rk lexZ (rs'.map Prod.fst) []) (rs'.map fun r => Value.ref r.2) out → Q (.ref D) { s with heap := h', toks := tk }) :
    wpAny (model prog w) A (call (.builtin "sorted") [.ref a]) Q E s := by
  have hz := sizeLine_eq
  have hks : rs.length < 4096 := by
    obtain ⟨o, es, ep, ho, hx, hd, he, hg⟩ := H
    exact (SetTT.fit (b := ledOf w) (h := s.heap) (a := a) he hg).2.2.2.2
  refine Calls.call_function_entry kind_sorted plain_sorted entry_sorted (args_sorted1 _) ?_
  unfold Builtin.«sorted»
  refine wpAny_bind (m := checkCount "sorted" 1 1 _) (wpAny_pure (wpAny_bind (collect_tt (A := A.in1) hh H fun rs' h1 tk kp hsz hp => ?_)))
  have hl : rs'.length = rs.length := hp.length_eq
  refine wpAny_bind (wpAny_newList ?_ (by rw [List.length_map]; omega))
  have hD : (h1.push (seqObj "list" (rs'.map fun r => Value.ref r.2).toArray 0)).get? h1.objs.size = some (seqObj "list" (rs'.map fun r => Value.ref r.2).toArray 0) := Heap.get?_push_size _ rfl
  have no : ∀ b o, s.heap.get? b = some o → b ≠ h1.objs.size := fun b o q => Nat.ne_of_lt (Heap.lt_size (kp b o q))
  refine wpAny_bind (wpAny_holding (wpAny_call_entry (s := { s with heap := h1.push (seqObj "list" (rs'.map fun r => Value.ref r.2).toArray 0), toks := tk }) slot_list_sort ⟨_, hD, rfl⟩ entry_list_sort (lsort_gen (key := rk lexZ (rs'.map Prod.fst) []) hD (by rw [List.length_map]; omega) (fun h2 h3 k3 => ?_) fun h' c out ho k' e' => ⟨_, rfl, ?_⟩) (args_list_sort _)))
  · rw [List.length_map] at h2
    refine asks_tt (s := { s with heap := h3, toks := tk }) (fun x hx => ?_) ?_ h2
    · obtain ⟨o, us, n, g1, g2⟩ := hK x (hp.mem_iff.mp hx)
      exact ⟨o, us, n, k3 _ _ (no _ _ g1) (Heap.get?_push_of_some _ (kp _ _ g1)), g2⟩
    · rcases hne with q | q
      · omega
      · rw [List.all_eq_true] at q ⊢
        exact fun x hx => q x ((hp.map Prod.fst).mem_iff.mp hx)
  · exact wpAny_pure ⟨_, rfl, h h' _ c tk out rs' hsz (fun b o q => k' b o (no b o q) (Heap.get?_push_of_some _ (kp b o q))) e' hp ho⟩
end
noncomputable def setOut (ts : List (List Int)) : M Dat := match runS ts with
  | some r => if (decide (r.2.length < 2) || r.2.all fun t => !t.isEmpty) = true then .ok (.lst ((isort lexZ r.2).map tupZ)) else stk
  | none => stk
noncomputable def sortSetT : Dat → M Dat
  | .lst ds => (tupsD ds).bind setOut
  | _ => stk
section
variable {X : Cx} {K : PySem.W.Frag} {W : Wish} {a : Expr} {pos p p1 pos1 : Pos} {fa : Env' → M Dat}
theorem deeps_sel {F : Hp} {ts : List (List Int)} {xs : List V} (zz : Deeps K F (ts.map tupZ) xs) {ad : Nat → Addr} (had : ∀ j, j < ts.length → xs[j]? = some (V.ref (ad j))) : ∀ {rs : List (List Int × Addr)}, (∀ x ∈ rs, ∃ j, ∃ hj : j < ts.length, x = (ts[j], ad j)) → Deeps K F ((rs.map Prod.fst).map tupZ) (rs.map fun r => V.ref r.2)
  | [], _ => rfl
  | x :: rs, h => by
    obtain ⟨j, hj, rfl⟩ := h x List.mem_cons_self
    obtain ⟨v, e1, q⟩ := zz.get (i := j) (d := tupZ ts[j]) (by simp [hj])
    rw [had j hj] at e1
    cases e1
    exact ⟨_, _, rfl, q, deeps_sel zz had fun y hy => h y (List.mem_cons_of_mem _ hy)⟩
theorem de_ssetT (hu : X.A.units + 64 < cLine) (hml : X.mg "sorted" = none) (hm : X.mg "set" = none) (ha : DE K W false X a fa) (hc : X.calm = true := by rfl) (hgl : Gl X "sorted" := by rfl) (hg : Gl X "set" := by rfl) (hs : starEach [a] X.env = [(false, eval a X.env)] := by rfl)
    (hst : starEach [.Call (.Name "set" p1) [a] [] pos1] X.env = [(false, eval (.Call (.Name "set" p1) [a] [] pos1) X.env)] := by rfl) (hK : X.K = K := by rfl) :
    DE K W true X (.Call (.Name "sorted" p) [.Call (.Name "set" p1) [a] [] pos1] [] pos) (f1 sortSetT fa) := by
  subst hK
  intro pins s σ H Q I h
  obtain ⟨F, ρ, r, sm, post⟩ := h
  refine wpAny_Call_Name_kw (ld_blt I hgl hml boot_sorted ?_ (by decide) (by decide))
  have made : wpAny (model X.prog X.w) X.A (eval (.Call (.Name "set" p1) [a] [] pos1) X.env) (fun t s1 => ∃ (s0 : Shared) (H2 F2 : Hp) (ts : List (List Int)) (xs : List V) (ad : Nat → Addr) (tF : SetTable) (ks : List (List Int)) (rs : List (List Int × Addr)) (h' : Heap) (tk : Nat), t = .ref s0.heap.objs.size ∧ s1 = { s0 with heap := h', toks := tk } ∧ Inv X pins σ H2 s0 ∧ Same F2 H2 ∧ Deeps X.K F2 (ts.map tupZ) xs ∧ (∀ j, j < ts.length → xs[j]? = some (V.ref (ad j))) ∧ SetTT (ledOf X.w) h' s0.heap.objs.size tF rs ∧ rs.map Prod.fst = ks ∧ (∀ x ∈ rs, ∃ j, ∃ hj : j < ts.length, x = (ts[j], ad j)) ∧ (decide (ks.length < 2) || ks.all fun t => !t.isEmpty) = true ∧ (∀ c o, c < s0.heap.objs.size → s0.heap.get? c = some o → h'.get? c = some o) ∧ ∀ S ys, Deeps X.K F2 ((isort lexZ ks).map tupZ) ys → H2 S = none → Q (.ref S) (upd H2 S (.lst ys))) X.xe s := by
    refine Call_ (ld_blt I hg hm boot_set (PyProof.Rows.callWith_type1 (thn (pa_cons ha pa_nil hs pos1 pins s σ H (fun us H2 => ∃ (l : Addr) (F2 : Hp) (ts : List (List Int)) (xs : List V) (tF : SetTable) (ks : List (List Int)), us = [.ref l] ∧ Same F2 H2 ∧ SqL X.K F2 l xs ∧ Deeps X.K F2 (ts.map tupZ) xs ∧ runS ts = some (tF, ks) ∧ (decide (ks.length < 2) || ks.all fun t => !t.isEmpty) = true ∧ ∀ S ys, Deeps X.K F2 ((isort lexZ ks).map tupZ) ys → H2 S = none → Q (.ref S) (upd H2 S (.lst ys))) I ?_) fun us s1 ⟨vs, H1, I1, r1, q1⟩ => ?_) hs rfl))
    · refine tD_run r sm (fun e he => ?_) fun d hd v F1 H1 s1 q1 => ?_
      · have z : f1 sortSetT fa ρ = .error e := by unfold f1; rw [he]; rfl
        rw [z] at post; exact post
      · have z : f1 sortSetT fa ρ = sortSetT d := by unfold f1; rw [hd]; rfl
        rw [z] at post
        have post1 := post.step s1
        clear post
        cases d with
        | lst ds =>
          obtain ⟨c, xs, e, t, zz⟩ := q1
          have post2 : Post X.K W true F1 H1 ((tupsD ds).bind setOut) Q := post1
          clear post1
          cases ei : tupsD ds with
          | error z => rw [ei] at post2; have := tupsD_err ei; subst this; exact (W.ns post2).elim
          | ok ts =>
            rw [ei] at post2
            have post3 : Post X.K W true F1 H1 (setOut ts) Q := post2
            clear post2
            have ed := tups_data ei
            subst ed
            unfold setOut at post3
            cases er : runS ts with
            | none => rw [er] at post3; exact (W.ns post3).elim
            | some rr =>
              obtain ⟨tF, ks⟩ := rr
              rw [er] at post3
              dsimp only at post3
              by_cases hne : (decide (ks.length < 2) || ks.all fun t => !t.isEmpty) = true
              · rw [if_pos hne] at post3
                exact ⟨c, F1, ts, xs, tF, ks, by rw [e], s1.fh, t, zz, er, hne, fun S ys hy hS => post3.lst s1.fh hy hS⟩
              · rw [if_neg hne] at post3
                exact (W.ns post3).elim
        | _ => exact (W.ns post1).elim
    · obtain ⟨l, F2, ts, xs, tF, ks, e, sF, hq, zz, er, hne, go⟩ := q1
      subst e
      obtain ⟨u, rfl, ru⟩ := r1.one
      cases (show u = Value.ref l from ru)
      obtain ⟨its, rv, pl, hz⟩ := I1.list (sF.lst hq)
      have hl := rv.length
      have hl2 := zz.length
      rw [List.length_map] at hl2
      have hat : ∀ j, j < ts.length → ∃ c, xs[j]? = some (V.ref c) ∧ its[j]? = some (.ref c) ∧ SqT X.K F2 c ((ts.getD j []).map V.int) := fun j hj => by
        obtain ⟨v, e1, c, ys, e2, tq, rr⟩ := zz.get (i := j) (d := tupZ ts[j]) (by simp [hj])
        subst e2
        obtain ⟨u, e3, ru⟩ := rv.get e1
        cases ru
        have e4 : ys = ts[j].map V.int := ints_deep rr (intsD_map _)
        subst e4
        exact ⟨c, e1, e3, by rw [getD_get hj]; exact tq⟩
      let ad : Nat → Addr := fun j => match its[j]? with | some (.ref c) => c | _ => 0
      have had : ∀ j, j < ts.length → xs[j]? = some (V.ref (ad j)) ∧ its[j]? = some (.ref (ad j)) ∧ SqT X.K F2 (ad j) ((ts.getD j []).map V.int) := fun j hj => by
        obtain ⟨c, e1, e2, e3⟩ := hat j hj
        have : ad j = c := by show (match its[j]? with | some (.ref c) => c | _ => 0) = c; rw [e2]
        rw [this]
        exact ⟨e1, e2, e3⟩
      refine call_tt (kl := ts) (ad := ad) (I.ok.hd hc) (by omega) pl.isList (by rw [List.size_toArray]; omega) (fun i v hv => ?_) (fun j hj => ?_) er fun h' tk rs S' e1 m1 k' => ⟨s1, H1, F2, ts, xs, ad, tF, ks, rs, h', tk, rfl, rfl, I1, sF, zz, fun j hj => (had j hj).1, S', e1, m1, hne, k', go⟩
      · have hi : i < ts.length := by
          have := (Array.getElem?_eq_some_iff.mp hv).1
          rw [List.size_toArray] at this
          omega
        have := (had i hi).2.1
        rw [List.getElem?_toArray, this] at hv
        exact (Option.some.inj hv).symm
      · have := tkey_at I1 (k := ts[j]) (sF.tup (by have := (had j hj).2.2; rwa [getD_get hj] at this))
        exact this
  refine PyProof.Rows.callWith_builtin1 ?_ hst rfl
  rw [hst]
  refine Calls.spliced_cons (thn made fun t s1 ⟨s0, H2, F2, ts, xs, ad, tF, ks, rs, h', tk, et, es, I2, sF, zz, had, S', e1, m1, hne, k', go⟩ => wpAny_pure ?_)
  subst et es e1
  have low : s0.heap.objs.size < h'.objs.size := by obtain ⟨o, _, _, ho, _⟩ := S'; exact Heap.lt_size ho
  have hTK : TKeys X.prog X.w h' rs := fun x hx => by
    obtain ⟨j, hj, rfl⟩ := m1 x hx
    obtain ⟨v, e1, c, ys, e2, tq, rr⟩ := zz.get (i := j) (d := tupZ ts[j]) (by simp [hj])
    rw [had j hj] at e1
    cases e1
    cases e2
    have e4 : ys = ts[j].map V.int := ints_deep rr (intsD_map _)
    subst e4
    have := tkey_at I2 (k := ts[j]) (sF.tup tq)
    exact tk_at this fun o ho => k' _ _ (Heap.lt_size ho) ho
  have hne' : rs.length < 2 ∨ ((rs.map Prod.fst).all fun t => !t.isEmpty) = true := by
    rw [Bool.or_eq_true, decide_eq_true_eq, List.length_map] at hne
    exact hne
  refine sorted_tt (s := { s0 with heap := h', toks := tk }) (I.ok.hd hc) S' hTK hne' fun h2 D c tk2 out rs' hD kp e hp ho => ?_
  obtain ⟨ps, p1, p2, rfl⟩ := ho
  rw [List.length_map] at p1
  have inr : ∀ i ∈ ps, i < rs'.length := fun i hi => List.mem_range.mp (p1.mem_iff.mp hi)
  have hD' : s0.heap.objs.size ≤ D := Nat.le_trans (Nat.le_of_lt low) hD
  have hz := sizeLine_eq
  have hrl : rs'.length < 4096 := by
    obtain ⟨o, es, ep, ho, hx, hd, he, hg⟩ := S'
    rw [hp.length_eq]
    exact (SetTT.fit (b := ledOf X.w) (h := h') (a := s0.heap.objs.size) he hg).2.2.2.2
  have hsel := deeps_sel zz had (rs := ps.map fun i => rs'.getD i ([], 0)) (fun x hx => by
    obtain ⟨i, hi, rfl⟩ := List.mem_map.mp hx
    have : rs'.getD i ([], 0) ∈ rs' := by rw [getD_get (inr i hi)]; exact List.getElem_mem _
    exact m1 _ (hp.mem_iff.mp this))
  have ekeys : (ps.map fun i => rs'.getD i ([], 0)).map Prod.fst = isort lexZ (rs.map Prod.fst) := by
    have e1 := ord_isort ordLex (rs'.map Prod.fst) [] (ps := ps) (by rw [List.length_map]; exact p1) p2
    rw [List.map_map]
    have e2 : ps.map (Prod.fst ∘ fun i => rs'.getD i ([], 0)) = ps.map fun i => (rs'.map Prod.fst).getD i [] := List.map_congr_left fun i hi => by
      show (rs'.getD i ([], 0)).1 = _
      rw [getD_get (inr i hi), getD_get (by rw [List.length_map]; exact inr i hi), List.getElem_map]
    rw [e2, e1]
    exact perm_unique ordLex ((isort_perm _).trans ((hp.map Prod.fst).trans (isort_perm _).symm)) (isort_sorted ordLex _) (isort_sorted ordLex _)
  rw [ekeys] at hsel
  have evals : Vals ((ps.map fun i => rs'.getD i ([], 0)).map fun r => V.ref r.2) (ps.map fun i => (rs'.map fun r => Value.ref r.2).getD i Value.none) := by
    rw [List.map_map]
    have : ∀ (l : List Nat), (∀ i ∈ l, i < rs'.length) → Vals (l.map ((fun r => V.ref r.2) ∘ fun i => rs'.getD i ([], 0))) (l.map fun i => (rs'.map fun r => Value.ref r.2).getD i Value.none) := by
      intro l
      induction l with
      | nil => intro _; exact .nil
      | cons i l ih =>
        intro hl
        have hi := hl i List.mem_cons_self
        refine .cons ?_ (ih fun j hj => hl j (List.mem_cons_of_mem _ hj))
        have e1 : (rs'.map fun r => Value.ref r.2).getD i Value.none = Value.ref (rs'.getD i ([], 0)).2 := by
          rw [getD_get hi, getD_get (by rw [List.length_map]; exact hi), List.getElem_map]
        show RelV (V.ref (rs'.getD i ([], 0)).2) ((rs'.map fun r => Value.ref r.2).getD i Value.none)
        rw [e1]
        rfl
    exact this ps inr
  have hpl : ps.length = rs'.length := by rw [p1.length_eq, List.length_range]
  exact ⟨.ref D, _, I2.laid (t' := tk2) (fun b o q => kp b o (k' b o (Heap.lt_size q) q)) hD' (show ObjOk X.prog X.w _ h2 D (.lst _) from ⟨by rw [List.length_map, List.length_map]; omega, _, c, evals, e⟩), rfl, go D _ hsel (I2.hok.fresh hD')⟩
end
end L2
namespace Ru
open PySem L2 PyProof.Rows
noncomputable def c_choices_of_1 (n : Nat) (R : List Dat → M Dat) : Env' → M Flo :=
  sIf (fB (f2 eqM (fVar 1) (fC (.int 0))))
      (sRet (fL mkLst (fCons (fL mkTup fNil) fNil)))
      sNext
noncomputable def b_choices_of_2 (n : Nat) (R : List Dat → M Dat) : Env' → M Flo :=
  (sAppB [2] 2 (f2 addD (fL mkTup (fCons (fVar 4) fNil)) (fVar 5)))
noncomputable def b_choices_of_3 (n : Nat) (R : List Dat → M Dat) : Env' → M Flo :=
  (sFor [2] (fIt (fL R (fCons (fSl sliceD (fVar 0) (pSome (f2 addD (fVar 3) (fC (.int 1)))) pNone) (fCons (f2 subD (fVar 1) (fC (.int 1))) fNil)))) (.nm 5) (b_choices_of_2 n R))
noncomputable def g_choices_of (n : Nat) (R : List Dat → M Dat) : Env' → M Flo :=
  (sSeq (c_choices_of_1 n R)
    (sSeq (sSetB [] 2 (fL mkLst fNil))
    (sSeq (sFor [2] (fEnum (fVar 0)) (.tp [3, 4]) (b_choices_of_3 n R))
    (sRet (fVar 2)))))
noncomputable def d_choices_of (n : Nat) : Nat → Env' → M Flo
  | 0 => fun _ => stk
  | d + 1 => g_choices_of n (runB 6 2 (d_choices_of n d))
noncomputable def m_choices_of (n : Nat) : List Dat → M Dat := runB 6 2 (d_choices_of n 6)
noncomputable def g_beginnings_of (n : Nat) : Env' → M Flo :=
  (sSeq (sSetB [] 3 (fTR (fRng rng1 (fCons (fL maxD (fCons (fC (.int 0)) (fCons (f2 subD (fVar 2) (fVar 1)) fNil))) fNil))))
    (sSeq (sSetB [] 4 (fLR (fRng rng2 (fCons (fL lenD (fCons (fVar 3) fNil)) (fCons (fL minD (fCons (fVar 0) (fCons (f2 addD (fVar 2) (fVar 1)) fNil))) fNil)))))
    (sRet (fComp (fIt (fL (m_choices_of n) (fCons (fVar 4) (fCons (f2 subD (fVar 2) (fL lenD (fCons (fVar 3) fNil))) fNil)))) [none, some 3] (.nm 0) fYes (f2 addD (fVar 1) (fVar 0))))))
noncomputable def m_beginnings_of (n : Nat) : List Dat → M Dat := runB 5 3 (g_beginnings_of n)
noncomputable def c__law_cell_1 (n : Nat) : Env' → M Flo :=
  sIf (fB (f2 ltD (fVar 1) (fL lenD (fCons (fVar 0) fNil))))
      (sRet (f2 ixD (fVar 0) (fVar 1)))
      sNext
noncomputable def c__law_cell_2 (n : Nat) : Env' → M Flo :=
  sIf (fB (f2 eqM (fVar 0) (fL mkLst fNil)))
      (sRet (fC (.int 0)))
      sNext
noncomputable def g__law_cell (n : Nat) : Env' → M Flo :=
  (sSeq (c__law_cell_1 n)
    (sSeq (c__law_cell_2 n)
    (sRet (f2 addD (f2 mulD (f2 ixD (fVar 0) (f2 modD (fVar 1) (fL lenD (fCons (fVar 0) fNil)))) (fC (.int 69621))) (f2 mulD (f2 mulD (fVar 1) (fVar 1)) (fC (.int 48271)))))))
noncomputable def m__law_cell (n : Nat) : List Dat → M Dat := runB 2 2 (g__law_cell n)
noncomputable def b__law_drawn_1 (n : Nat) : Env' → M Flo :=
  (sAppPop 4 3 (f2 modD (f2 fdivD (f2 modD (f2 modD (f2 mulD (fL (m__law_cell n) (fCons (fVar 0) (fCons (f2 addD (fC (.int 3)) (fVar 5)) fNil))) (fC (.int 48271))) (fC (.int 65537))) (fC (.int 6))) (fC (.int 2))) (fL lenD (fCons (fVar 3) fNil))))
noncomputable def g__law_drawn (n : Nat) : Env' → M Flo :=
  (sSeq (sSetB [] 3 (fLR (fRng rng1 (fCons (fVar 1) fNil))))
    (sSeq (sSetB [3] 4 (fL mkLst fNil))
    (sSeq (sFor [3, 4] (fRng rng1 (fCons (fVar 2) fNil)) (.nm 5) (b__law_drawn_1 n))
    (sRet (fL tupleD (fCons (fL sortedD (fCons (fVar 4) fNil)) fNil))))))
noncomputable def m__law_drawn (n : Nat) : List Dat → M Dat := runB 6 3 (g__law_drawn n)
noncomputable def c__law_rising_1 (n : Nat) : Env' → M Flo :=
  sIf (fNot (fTru (f1 isi_listD (fVar 0))))
      (sRet (fC (.bl false)))
      sNext
noncomputable def c__law_rising_2 (n : Nat) : Env' → M Flo :=
  sIf (fOr (fNot (fTru (f1 isi_tupleD (fVar 4)))) (fOr (fB (f2 neM (fL lenD (fCons (fVar 4) fNil)) (fVar 1))) (fAnd (fB (f2 gtD (fVar 3) (fC (.int 0)))) (fB (f2 geM (f2 ixD (fVar 0) (f2 subD (fVar 3) (fC (.int 1)))) (fVar 4))))))
      (sRet (fC (.bl false)))
      sNext
noncomputable def c__law_rising_3 (n : Nat) : Env' → M Flo :=
  sIf (fOr (fNot (fTru (f1 isi_intD (f2 ixD (fVar 4) (fVar 5))))) (fOr (fTru (f1 isi_boolD (f2 ixD (fVar 4) (fVar 5)))) (fNot (fB (fChain leD ltD (fC (.int 0)) (f2 ixD (fVar 4) (fVar 5)) (fVar 2))))))
      (sRet (fC (.bl false)))
      sNext
noncomputable def c__law_rising_4 (n : Nat) : Env' → M Flo :=
  sIf (fAnd (fB (f2 gtD (fVar 5) (fC (.int 0)))) (fB (f2 geM (f2 ixD (fVar 4) (f2 subD (fVar 5) (fC (.int 1)))) (f2 ixD (fVar 4) (fVar 5)))))
      (sRet (fC (.bl false)))
      sNext
noncomputable def b__law_rising_5 (n : Nat) : Env' → M Flo :=
  (sSeq (c__law_rising_3 n)
    (c__law_rising_4 n))
noncomputable def b__law_rising_6 (n : Nat) : Env' → M Flo :=
  (sSeq (sSetB [] 4 (f2 ixD (fVar 0) (fVar 3)))
    (sSeq (c__law_rising_2 n)
    (sFor [] (fRng rng1 (fCons (fVar 1) fNil)) (.nm 5) (b__law_rising_5 n))))
noncomputable def g__law_rising (n : Nat) : Env' → M Flo :=
  (sSeq (c__law_rising_1 n)
    (sSeq (sFor [] (fRng rng1 (fCons (fL lenD (fCons (fVar 0) fNil)) fNil)) (.nm 3) (b__law_rising_6 n))
    (sRet (fC (.bl true)))))
noncomputable def m__law_rising (n : Nat) : List Dat → M Dat := runB 6 3 (g__law_rising n)
noncomputable def g__law_is_beginning (n : Nat) : Env' → M Flo :=
  (sSeq (sSetB [] 3 (fComp (fRng rng1 (fCons (fVar 1) fNil)) [none, some 0] (.nm 0) (fB (f2 notInM (fVar 0) (fVar 1))) (fVar 0)))
    (sSeq (sSetB [] 4 (f2 addD (fL sortedD (fCons (fVar 0) fNil)) (fVar 3)))
    (sRet (f2 leD (f2 maxKI (fComp (fRng rng1 (fCons (fVar 1) fNil)) [none, some 4] (.nm 0) fYes (fL absD (fCons (f2 subD (f2 ixD (fVar 1) (fVar 0)) (fVar 0)) fNil))) (fC (.int 0))) (fVar 2)))))
noncomputable def m__law_is_beginning (n : Nat) : List Dat → M Dat := runB 5 3 (g__law_is_beginning n)
noncomputable def b__law_orders_1 (n : Nat) : Env' → M Flo :=
  (sSeq (sSetB [4] 6 (fComp (fRng rng1 (fCons (fVar 0) fNil)) [none, some 5] (.nm 0) (fB (f2 notInM (fVar 0) (fVar 1))) (fVar 0)))
    (sExt [4] 4 (fComp (fIt (fVar 6)) [none, some 1, some 3, some 5] (.nm 0) (fB (fChain leD leD (f1 negD (fVar 1)) (f2 subD (fVar 0) (fVar 2)) (fVar 1))) (f2 addD (fVar 3) (fL mkLst (fCons (fVar 0) fNil))))))
noncomputable def b__law_orders_2 (n : Nat) : Env' → M Flo :=
  (sSeq (sSetB [] 4 (fL mkLst fNil))
    (sSeq (sFor [4] (fIt (fVar 2)) (.nm 5) (b__law_orders_1 n))
    (sSetB [] 2 (fVar 4))))
noncomputable def g__law_orders (n : Nat) : Env' → M Flo :=
  (sSeq (sSetB [] 2 (fL mkLst (fCons (fL mkLst fNil) fNil)))
    (sSeq (sFor [] (fRng rng1 (fCons (fVar 0) fNil)) (.nm 3) (b__law_orders_2 n))
    (sRet (fVar 2))))
noncomputable def m__law_orders (n : Nat) : List Dat → M Dat := runB 7 2 (g__law_orders n)
noncomputable def c_law_1 (n : Nat) : Env' → M Flo :=
  sIf (fB (f2 eqM (f2 modD (f2 fdivD (fL (m__law_cell n) (fCons (fVar 0) (fCons (fC (.int 1)) fNil))) (fC (.int 4))) (fC (.int 2))) (fC (.int 1))))
      (sSetB [] 1 (f2 modD (fVar 1) (fC (.int 7))))
      sNext
noncomputable def c_law_2 (n : Nat) : Env' → M Flo :=
  sIf (fNot (fTru (fL (m__law_rising n) (fCons (fVar 4) (fCons (fVar 3) (fCons (fVar 1) fNil))))))
      (sRet (fC (.bl false)))
      sNext
noncomputable def c_law_3 (n : Nat) : Env' → M Flo :=
  sIf (fB (f2 neM (fComp (fIt (fVar 4)) [none, some 1, some 2] (.nm 0) (fNot (fTru (fL (m__law_is_beginning n) (fCons (fL listD (fCons (fVar 0) fNil)) (fCons (fVar 1) (fCons (fVar 2) fNil)))))) (fVar 0)) (fL mkLst fNil)))
      (sRet (fC (.bl false)))
      sNext
noncomputable def c_law_4 (n : Nat) : Env' → M Flo :=
  sIf (fB (f2 neM (fVar 4) (fVar 5)))
      (sRet (fC (.bl false)))
      sNext
noncomputable def c_law_5 (n : Nat) : Env' → M Flo :=
  sIf (fB (f2 leD (fVar 1) (fC (.int 6))))
      (sSeq (sSetB [4] 5 (f1 sortSetT (fComp (fIt (fL (m__law_orders n) (fCons (fVar 1) (fCons (fVar 2) fNil)))) [none, some 3] (.nm 0) fYes (fL tupleD (fCons (fL sortedD (fCons (fSl sliceD (fVar 0) pNone (pSome (fVar 1))) fNil)) fNil)))))
    (c_law_4 n))
      sNext
noncomputable def c_law_6 (n : Nat) : Env' → M Flo :=
  sIf (fB (f2 neM (f2 inM (fVar 6) (fVar 4)) (fL (m__law_is_beginning n) (fCons (fL listD (fCons (fVar 6) fNil)) (fCons (fVar 1) (fCons (fVar 2) fNil))))))
      (sRet (fC (.bl false)))
      sNext
noncomputable def c_law_7 (n : Nat) : Env' → M Flo :=
  sIf (fOr (fB (f2 neM (fL (m_beginnings_of n) (fCons (fVar 1) (fCons (fVar 2) (fCons (fC (.int 0)) fNil)))) (fL mkLst (fCons (fL mkTup fNil) fNil)))) (fB (f2 neM (fL (m_beginnings_of n) (fCons (fVar 1) (fCons (fVar 2) (fCons (fVar 1) fNil)))) (fL mkLst (fCons (fTR (fRng rng1 (fCons (fVar 1) fNil))) fNil)))))
      (sRet (fC (.bl false)))
      sNext
noncomputable def g_law (n : Nat) : Env' → M Flo :=
  (sSeq (sSetB [] 1 (f2 modD (fL (m__law_cell n) (fCons (fVar 0) (fCons (fC (.int 0)) fNil))) (fC (.int 41))))
    (sSeq (c_law_1 n)
    (sSeq (sSetB [] 2 (f2 modD (fL (m__law_cell n) (fCons (fVar 0) (fCons (fC (.int 1)) fNil))) (fC (.int 4))))
    (sSeq (sSetB [] 3 (f2 modD (fL (m__law_cell n) (fCons (fVar 0) (fCons (fC (.int 2)) fNil))) (f2 addD (fVar 1) (fC (.int 1)))))
    (sSeq (sSetB [] 4 (fL (m_beginnings_of n) (fCons (fVar 1) (fCons (fVar 2) (fCons (fVar 3) fNil)))))
    (sSeq (c_law_2 n)
    (sSeq (c_law_3 n)
    (sSeq (c_law_5 n)
    (sSeq (sSetB [4] 6 (fL (m__law_drawn n) (fCons (fVar 0) (fCons (fVar 1) (fCons (fVar 3) fNil)))))
    (sSeq (c_law_6 n)
    (sSeq (sSetA true 7 (fL listD (fCons (fVar 4) fNil)))
    (sSeq (sAppB [4] 4 (fL mkTup (fCons (fC (.int 0)) fNil)))
    (sSeq (c_law_7 n)
    (sRet (f2 eqM (fL (m_beginnings_of n) (fCons (fVar 1) (fCons (fVar 2) (fCons (fVar 3) fNil)))) (fVar 7))))))))))))))))
noncomputable def m_law (n : Nat) : List Dat → M Dat := runB 8 1 (g_law n)
noncomputable def top (i : Nat) : Stmt := PySem.Challenge.pw_wakeorder_k41_beginnings.main.body.getD i (.Pass ⟨0, 0, 0, 0⟩)
noncomputable abbrev s_choices_of : Stmt := top 1
noncomputable abbrev s_beginnings_of : Stmt := top 2
noncomputable abbrev s__law_cell : Stmt := top 4
noncomputable abbrev s__law_drawn : Stmt := top 7
noncomputable abbrev s__law_rising : Stmt := top 8
noncomputable abbrev s__law_is_beginning : Stmt := top 6
noncomputable abbrev s__law_orders : Stmt := top 5
noncomputable abbrev s_law : Stmt := top 9
structure Zs (K : PySem.W.Frag) (mg : Str → Option Value) : Prop where
  z_abs : mg "abs" = none
  z_bool : mg "bool" = none
  z_enumerate : mg "enumerate" = none
  z_int : mg "int" = none
  z_isinstance : mg "isinstance" = none
  z_len : mg "len" = none
  z_list : mg "list" = none
  z_max : mg "max" = none
  z_min : mg "min" = none
  z_range : mg "range" = none
  z_set : mg "set" = none
  z_sorted : mg "sorted" = none
  z_tuple : mg "tuple" = none
  kit : Kit K
theorem sc_choices_of : FnScope ["pool", "size", "choices", "place", "one", "rest"] ["pool", "size"] (defScope s_choices_of) := ⟨rfl, rfl, rfl, by decide +kernel, rfl, by decide +kernel, by decide +kernel⟩
theorem okr_choices_of {n : Nat} {P : Program} {w : World} {K : PySem.W.Frag} {mg : Str → Option Value} {base : Heap} (Z : Zs K mg) {f_choices_of : Addr} {fd_choices_of : FuncData} (D_choices_of : Def K mg "choices_of" s_choices_of ["pool", "size"] f_choices_of fd_choices_of) {d : Nat} {h : Env' → M Flo} (OKR : FnOk P w K mg base CX0 d f_choices_of fd_choices_of ["pool", "size"] (spF K false (runB 6 2 h) 2)) : FnOk P w K mg base CX0 (d + 1) f_choices_of fd_choices_of ["pool", "size"] (spF K false (runB 6 2 (g_choices_of n (runB 6 2 h))) 2) :=
  fn_D (O' := []) D_choices_of.fn sc_choices_of false (g_choices_of n (runB 6 2 h)) fun cdv A outer s H E hr =>
    (ds_cons (ds_if (dt_cmp (o_eq hr.units) (de_v 1) de_int)
      (ds_one (ds_ret (de_frz (de_lst (da_cons (de_tup da_nil) da_nil)))))
      ds_nil)
    (ds_cons (ds_setB (i := 2) (own := true) sc_choices_of.nd (de_lst da_nil))
    (ds_cons (ds_for (pt := .tp [3, 4]) (di_enum Z.z_enumerate (de_v 0)) (dg_tp rfl (dgs_cons (i := 3) sc_choices_of.nd (dgs_cons (i := 4) sc_choices_of.nd dgs_nil)))
      (ds_one (ds_for (pt := .nm 5) (di_seq (de_call OKR hr D_choices_of.mg D_choices_of.fn.kp D_choices_of.bd (da_cons (de_frz (de_sl x_sl (de_v 0) (dp_some (de_frz (de_op o_add (de_v 3) de_int))) dp_none)) (da_cons (de_op o_sub (de_v 1) de_int) da_nil)))) (dg_nm sc_choices_of.nd)
      (ds_one (ds_appB (i := 2) (de_frz (de_op o_add (de_tup (da_cons (de_v 4) da_nil)) (de_v 5))))))))
    (ds_enter (O2 := []) (ds_one (ds_ret (de_v 2)))))))
theorem okd_choices_of {n : Nat} {P : Program} {w : World} {K : PySem.W.Frag} {mg : Str → Option Value} {base : Heap} (Z : Zs K mg) {f_choices_of : Addr} {fd_choices_of : FuncData} (D_choices_of : Def K mg "choices_of" s_choices_of ["pool", "size"] f_choices_of fd_choices_of) : ∀ d : Nat, FnOk P w K mg base CX0 d f_choices_of fd_choices_of ["pool", "size"] (spF K false (runB 6 2 (d_choices_of n d)) 2)
  | 0 => fn_stk
  | d + 1 => okr_choices_of Z D_choices_of (okd_choices_of Z D_choices_of d)
theorem ok_choices_of {n : Nat} {P : Program} {w : World} {K : PySem.W.Frag} {mg : Str → Option Value} {base : Heap} (Z : Zs K mg) {f_choices_of : Addr} {fd_choices_of : FuncData} (D_choices_of : Def K mg "choices_of" s_choices_of ["pool", "size"] f_choices_of fd_choices_of) : FnOk P w K mg base CX0 6 f_choices_of fd_choices_of ["pool", "size"] (spF K false (m_choices_of n) 2) := okd_choices_of Z D_choices_of 6
theorem sc_beginnings_of : FnScope ["many", "shift", "size", "sure", "free"] ["many", "shift", "size"] (defScope s_beginnings_of) := ⟨rfl, rfl, rfl, by decide +kernel, rfl, by decide +kernel, by decide +kernel⟩
theorem ok_beginnings_of {n : Nat} {P : Program} {w : World} {K : PySem.W.Frag} {mg : Str → Option Value} {base : Heap} (Z : Zs K mg) {f_choices_of : Addr} {fd_choices_of : FuncData} (Y_choices_of : Yd P w K mg base CX0 6 "choices_of" s_choices_of ["pool", "size"] (spF K false (m_choices_of n) 2) f_choices_of fd_choices_of) {f_beginnings_of : Addr} {fd_beginnings_of : FuncData} (D_beginnings_of : Def K mg "beginnings_of" s_beginnings_of ["many", "shift", "size"] f_beginnings_of fd_beginnings_of) : FnOk P w K mg base CX0 7 f_beginnings_of fd_beginnings_of ["many", "shift", "size"] (spF K true (m_beginnings_of n) 3) :=
  fn_D (O' := []) D_beginnings_of.fn sc_beginnings_of true (g_beginnings_of n) fun cdv A outer s H E hr =>
    (ds_cons (ds_setB (i := 3) (own := false) sc_beginnings_of.nd (de_trng1 Z.z_tuple Z.z_range (da_cons (de_callB (c_max rfl) Z.z_max boot_max (da_cons de_int (da_cons (de_op o_sub (de_v 2) (de_v 1)) da_nil))) da_nil)))
    (ds_cons (ds_setB (i := 4) (own := false) sc_beginnings_of.nd (de_frz (de_lrng2 Z.z_list Z.z_range (da_cons (de_callB c_len Z.z_len PySem.boot_len (da_cons (de_v 3) da_nil)) (da_cons (de_callB (c_min rfl) Z.z_min boot_min (da_cons (de_v 0) (da_cons (de_frz (de_op o_add (de_v 2) (de_v 1))) da_nil))) da_nil)))))
    (ds_one (ds_ret (de_comp ["some", "sure"] [none, some 3] (di_seq (de_call Y_choices_of.o hr Y_choices_of.d.mg Y_choices_of.d.fn.kp Y_choices_of.d.bd (da_cons (de_v 4) (da_cons (de_op o_sub (de_v 2) (de_callB c_len Z.z_len PySem.boot_len (da_cons (de_v 3) da_nil))) da_nil)))) (fun _ _ _ _ _ => dgc_nm (by decide +kernel)) (leaves_name rfl) (fun _ _ _ _ _ => dts_nil) (fun _ _ _ _ _ => (de_frz (de_op o_add (de_v 1) (de_v 0)))))))))
theorem sc__law_cell : FnScope ["_law_script", "_law_k"] ["_law_script", "_law_k"] (defScope s__law_cell) := ⟨rfl, rfl, rfl, by decide +kernel, rfl, by decide +kernel, by decide +kernel⟩
theorem ok__law_cell {n : Nat} {P : Program} {w : World} {K : PySem.W.Frag} {mg : Str → Option Value} {base : Heap} (Z : Zs K mg) {f__law_cell : Addr} {fd__law_cell : FuncData} (D__law_cell : Def K mg "_law_cell" s__law_cell ["_law_script", "_law_k"] f__law_cell fd__law_cell) : FnOk P w K mg base CX0 1 f__law_cell fd__law_cell ["_law_script", "_law_k"] (spF K false (m__law_cell n) 2) :=
  fn_D (O' := []) D__law_cell.fn sc__law_cell false (g__law_cell n) fun cdv A outer s H E hr =>
    (ds_cons (ds_if (dt_cmp o_lt (de_v 1) (de_callB c_len Z.z_len PySem.boot_len (da_cons (de_v 0) da_nil)))
      (ds_one (ds_ret (de_ix x_ix (de_v 0) (de_v 1))))
      ds_nil)
    (ds_cons (ds_if (dt_cmp (o_eq hr.units) (de_v 0) (de_frz (de_lst da_nil)))
      (ds_one (ds_ret de_int))
      ds_nil)
    (ds_one (ds_ret (de_frz (de_op o_add (de_op o_mul (de_ix x_ix (de_v 0) (de_op o_mod (de_v 1) (de_callB c_len Z.z_len PySem.boot_len (da_cons (de_v 0) da_nil)))) de_int) (de_op o_mul (de_op o_mul (de_v 1) (de_v 1)) de_int)))))))
theorem sc__law_drawn : FnScope ["_law_script", "_law_many", "_law_size", "_law_left", "_law_some", "_law_k"] ["_law_script", "_law_many", "_law_size"] (defScope s__law_drawn) := ⟨rfl, rfl, rfl, by decide +kernel, rfl, by decide +kernel, by decide +kernel⟩
theorem ok__law_drawn {n : Nat} {P : Program} {w : World} {K : PySem.W.Frag} {mg : Str → Option Value} {base : Heap} (Z : Zs K mg) {f__law_cell : Addr} {fd__law_cell : FuncData} (Y__law_cell : Yd P w K mg base CX0 1 "_law_cell" s__law_cell ["_law_script", "_law_k"] (spF K false (m__law_cell n) 2) f__law_cell fd__law_cell) {f__law_drawn : Addr} {fd__law_drawn : FuncData} (D__law_drawn : Def K mg "_law_drawn" s__law_drawn ["_law_script", "_law_many", "_law_size"] f__law_drawn fd__law_drawn) : FnOk P w K mg base CX0 2 f__law_drawn fd__law_drawn ["_law_script", "_law_many", "_law_size"] (spF K false (m__law_drawn n) 3) :=
  fn_D (O' := []) D__law_drawn.fn sc__law_drawn false (g__law_drawn n) fun cdv A outer s H E hr =>
    (ds_cons (ds_setB (i := 3) (own := true) sc__law_drawn.nd (de_lrng1 Z.z_list Z.z_range (da_cons (de_v 1) da_nil)))
    (ds_cons (ds_setB (i := 4) (own := true) sc__law_drawn.nd (de_lst da_nil))
    (ds_enter (O2 := [3, 4]) (ds_cons (ds_for (pt := .nm 5) (di_rng1 Z.z_range (da_cons (de_v 2) da_nil)) (dg_nm sc__law_drawn.nd)
      (ds_one (ds_appPop (i := 4) (j := 3) (de_op o_mod (de_op o_fdiv (de_op o_mod (de_op o_mod (de_op o_mul (de_call Y__law_cell.o hr Y__law_cell.d.mg Y__law_cell.d.fn.kp Y__law_cell.d.bd (da_cons (de_v 0) (da_cons (de_frz (de_op o_add de_int (de_v 5))) da_nil))) de_int) de_int) de_int) de_int) (de_callB c_len Z.z_len PySem.boot_len (da_cons (de_v 3) da_nil))))))
    (ds_enter (O2 := []) (ds_one (ds_ret (de_callTy c_tuple Z.z_tuple PyProof.Rows.boot_tuple (da_cons (de_frz (de_callB c_sorted Z.z_sorted boot_sorted (da_cons (de_v 4) da_nil))) da_nil)))))))))
theorem sc__law_rising : FnScope ["_law_found", "_law_size", "_law_many", "_law_k", "_law_some", "_law_at"] ["_law_found", "_law_size", "_law_many"] (defScope s__law_rising) := ⟨rfl, rfl, rfl, by decide +kernel, rfl, by decide +kernel, by decide +kernel⟩
theorem ok__law_rising {n : Nat} {P : Program} {w : World} {K : PySem.W.Frag} {mg : Str → Option Value} {base : Heap} (Z : Zs K mg) {f__law_rising : Addr} {fd__law_rising : FuncData} (D__law_rising : Def K mg "_law_rising" s__law_rising ["_law_found", "_law_size", "_law_many"] f__law_rising fd__law_rising) : FnOk P w K mg base CX0 1 f__law_rising fd__law_rising ["_law_found", "_law_size", "_law_many"] (spF K false (m__law_rising n) 3) :=
  fn_D (O' := []) D__law_rising.fn sc__law_rising false (g__law_rising n) fun cdv A outer s H E hr =>
    (ds_cons (ds_if (dt_not (dt_tru (de_isi_list Z.kit Z.z_isinstance Z.z_list (de_v 0))))
      (ds_one (ds_ret de_bl))
      ds_nil)
    (ds_cons (ds_for (pt := .nm 3) (di_rng1 Z.z_range (da_cons (de_callB c_len Z.z_len PySem.boot_len (da_cons (de_v 0) da_nil)) da_nil)) (dg_nm sc__law_rising.nd)
      (ds_cons (ds_setB (i := 4) (own := false) sc__law_rising.nd (de_ix x_ix (de_v 0) (de_v 3)))
    (ds_cons (ds_if (PW.pt (dw_or (dt_not (dt_tru (de_isi_tuple Z.kit Z.z_isinstance Z.z_tuple (de_v 4)))) (dw_or (dt_cmp (o_ne hr.units) (de_callB c_len Z.z_len PySem.boot_len (da_cons (de_v 4) da_nil)) (de_v 1)) (dw_or1 (PW.pt (dw_and (dt_cmp o_gt (de_v 3) de_int) (dw_and1 (dt_cmp (o_geM hr.units) (de_ix x_ix (de_v 0) (de_op o_sub (de_v 3) de_int)) (de_v 4)))))))))
      (ds_one (ds_ret de_bl))
      ds_nil)
    (ds_one (ds_for (pt := .nm 5) (di_rng1 Z.z_range (da_cons (de_v 1) da_nil)) (dg_nm sc__law_rising.nd)
      (ds_cons (ds_if (PW.pt (dw_or (dt_not (dt_tru (de_isi_int Z.kit Z.z_isinstance Z.z_int (de_ix x_ix (de_v 4) (de_v 5))))) (dw_or (dt_tru (de_isi_bool Z.kit Z.z_isinstance Z.z_bool (de_ix x_ix (de_v 4) (de_v 5)))) (dw_or1 (dt_not (dt_chain o_le o_lt de_int (de_ix x_ix (de_v 4) (de_v 5)) (de_v 2)))))))
      (ds_one (ds_ret de_bl))
      ds_nil)
    (ds_one (ds_if (PW.pt (dw_and (dt_cmp o_gt (de_v 5) de_int) (dw_and1 (dt_cmp (o_geM hr.units) (de_ix x_ix (de_v 4) (de_op o_sub (de_v 5) de_int)) (de_ix x_ix (de_v 4) (de_v 5))))))
      (ds_one (ds_ret de_bl))
      ds_nil))))))))
    (ds_one (ds_ret de_bl))))
theorem sc__law_is_beginning : FnScope ["_law_some", "_law_many", "_law_shift", "_law_others", "_law_order"] ["_law_some", "_law_many", "_law_shift"] (defScope s__law_is_beginning) := ⟨rfl, rfl, rfl, by decide +kernel, rfl, by decide +kernel, by decide +kernel⟩
theorem ok__law_is_beginning {n : Nat} {P : Program} {w : World} {K : PySem.W.Frag} {mg : Str → Option Value} {base : Heap} (Z : Zs K mg) {f__law_is_beginning : Addr} {fd__law_is_beginning : FuncData} (D__law_is_beginning : Def K mg "_law_is_beginning" s__law_is_beginning ["_law_some", "_law_many", "_law_shift"] f__law_is_beginning fd__law_is_beginning) : FnOk P w K mg base CX0 1 f__law_is_beginning fd__law_is_beginning ["_law_some", "_law_many", "_law_shift"] (spF K false (m__law_is_beginning n) 3) :=
  fn_D (O' := []) D__law_is_beginning.fn sc__law_is_beginning false (g__law_is_beginning n) fun cdv A outer s H E hr =>
    (ds_cons (ds_compB (i := 3) false ["_law_flight", "_law_some"] [none, some 0] sc__law_is_beginning.nd (di_rng1 Z.z_range (da_cons (de_v 1) da_nil)) (fun _ _ _ _ _ => dgc_nm (by decide +kernel)) (leaves_name rfl) (fun _ _ _ _ _ => pts_one (dt_cmp (o_notIn hr.units) (de_v 0) (de_v 1))) (fun _ _ _ _ _ => (de_v 0)))
    (ds_cons (ds_setB (i := 4) (own := false) sc__law_is_beginning.nd (de_frz (de_op o_add (de_frz (de_callB c_sorted Z.z_sorted boot_sorted (da_cons (de_v 0) da_nil))) (de_v 3))))
    (ds_one (ds_ret (de_cmp o_le (de_maxK Z.z_max (de_frz (de_comp ["_law_place", "_law_order"] [none, some 4] (di_rng1 Z.z_range (da_cons (de_v 1) da_nil)) (fun _ _ _ _ _ => dgc_nm (by decide +kernel)) (leaves_name rfl) (fun _ _ _ _ _ => dts_nil) (fun _ _ _ _ _ => (de_callB c_abs Z.z_abs boot_abs (da_cons (de_op o_sub (de_ix x_ix (de_v 1) (de_v 0)) (de_v 0)) da_nil))))) de_int) (de_v 2))))))
theorem sc__law_orders : FnScope ["_law_many", "_law_shift", "_law_orders_here", "_law_place", "_law_longer", "_law_order", "_law_left"] ["_law_many", "_law_shift"] (defScope s__law_orders) := ⟨rfl, rfl, rfl, by decide +kernel, rfl, by decide +kernel, by decide +kernel⟩
theorem ok__law_orders {n : Nat} {P : Program} {w : World} {K : PySem.W.Frag} {mg : Str → Option Value} {base : Heap} (Z : Zs K mg) {f__law_orders : Addr} {fd__law_orders : FuncData} (D__law_orders : Def K mg "_law_orders" s__law_orders ["_law_many", "_law_shift"] f__law_orders fd__law_orders) : FnOk P w K mg base CX0 1 f__law_orders fd__law_orders ["_law_many", "_law_shift"] (spF K false (m__law_orders n) 2) :=
  fn_D (O' := []) D__law_orders.fn sc__law_orders false (g__law_orders n) fun cdv A outer s H E hr =>
    (ds_cons (ds_setB (i := 2) (own := false) sc__law_orders.nd (de_frz (de_lst (da_cons (de_frz (de_lst da_nil)) da_nil))))
    (ds_cons (ds_for (pt := .nm 3) (di_rng1 Z.z_range (da_cons (de_v 0) da_nil)) (dg_nm sc__law_orders.nd)
      (ds_cons (ds_setB (i := 4) (own := true) sc__law_orders.nd (de_lst da_nil))
    (ds_cons (ds_for (pt := .nm 5) (di_seq (de_v 2)) (dg_nm sc__law_orders.nd)
      (ds_cons (ds_compB (i := 6) false ["_law_flight", "_law_order"] [none, some 5] sc__law_orders.nd (di_rng1 Z.z_range (da_cons (de_v 0) da_nil)) (fun _ _ _ _ _ => dgc_nm (by decide +kernel)) (leaves_name rfl) (fun _ _ _ _ _ => pts_one (dt_cmp (o_notIn hr.units) (de_v 0) (de_v 1))) (fun _ _ _ _ _ => (de_v 0)))
    (ds_one (ds_ext (i := 4) (de_comp ["_law_flight", "_law_shift", "_law_place", "_law_order"] [none, some 1, some 3, some 5] (di_seq (de_v 6)) (fun _ _ _ _ _ => dgc_nm (by decide +kernel)) (leaves_name rfl) (fun _ _ _ _ _ => pts_one (dt_chain o_le o_le (de_un o_neg (de_v 1)) (de_op o_sub (de_v 0) (de_v 2)) (de_v 1))) (fun _ _ _ _ _ => (de_frz (de_op o_add (de_v 3) (de_frz (de_lst (da_cons (de_v 0) da_nil)))))))))))
    (ds_enter (O2 := []) (ds_one (ds_setB (i := 2) (own := false) sc__law_orders.nd (de_v 4)))))))
    (ds_one (ds_ret (de_v 2)))))
theorem sc_law : FnScope ["_law_script", "_law_many", "_law_shift", "_law_size", "_law_found", "_law_due", "_law_drawn_here", "_law_kept"] ["_law_script"] (defScope s_law) := ⟨rfl, rfl, rfl, by decide +kernel, rfl, by decide +kernel, by decide +kernel⟩
theorem ok_law {n : Nat} {P : Program} {w : World} {K : PySem.W.Frag} {mg : Str → Option Value} {base : Heap} (Z : Zs K mg) {f_beginnings_of : Addr} {fd_beginnings_of : FuncData} (Y_beginnings_of : Yd P w K mg base CX0 7 "beginnings_of" s_beginnings_of ["many", "shift", "size"] (spF K true (m_beginnings_of n) 3) f_beginnings_of fd_beginnings_of) {f__law_drawn : Addr} {fd__law_drawn : FuncData} (Y__law_drawn : Yd P w K mg base CX0 2 "_law_drawn" s__law_drawn ["_law_script", "_law_many", "_law_size"] (spF K false (m__law_drawn n) 3) f__law_drawn fd__law_drawn) {f__law_cell : Addr} {fd__law_cell : FuncData} (Y__law_cell : Yd P w K mg base CX0 1 "_law_cell" s__law_cell ["_law_script", "_law_k"] (spF K false (m__law_cell n) 2) f__law_cell fd__law_cell) {f__law_rising : Addr} {fd__law_rising : FuncData} (Y__law_rising : Yd P w K mg base CX0 1 "_law_rising" s__law_rising ["_law_found", "_law_size", "_law_many"] (spF K false (m__law_rising n) 3) f__law_rising fd__law_rising) {f__law_is_beginning : Addr} {fd__law_is_beginning : FuncData} (Y__law_is_beginning : Yd P w K mg base CX0 1 "_law_is_beginning" s__law_is_beginning ["_law_some", "_law_many", "_law_shift"] (spF K false (m__law_is_beginning n) 3) f__law_is_beginning fd__law_is_beginning) {f__law_orders : Addr} {fd__law_orders : FuncData} (Y__law_orders : Yd P w K mg base CX0 1 "_law_orders" s__law_orders ["_law_many", "_law_shift"] (spF K false (m__law_orders n) 2) f__law_orders fd__law_orders) {f_law : Addr} {fd_law : FuncData} (D_law : Def K mg "law" s_law ["_law_script"] f_law fd_law) : FnOk P w K mg base CX0 8 f_law fd_law ["_law_script"] (spF K false (m_law n) 1) :=
  fn_D (O' := []) D_law.fn sc_law false (g_law n) fun cdv A outer s H E hr =>
    (ds_cons (ds_setB (i := 1) (own := false) sc_law.nd (de_op o_mod (de_call Y__law_cell.o (hr.mono (by decide)) Y__law_cell.d.mg Y__law_cell.d.fn.kp Y__law_cell.d.bd (da_cons (de_v 0) (da_cons de_int da_nil))) de_int))
    (ds_cons (ds_if (dt_cmp (o_eq hr.units) (de_op o_mod (de_op o_fdiv (de_call Y__law_cell.o (hr.mono (by decide)) Y__law_cell.d.mg Y__law_cell.d.fn.kp Y__law_cell.d.bd (da_cons (de_v 0) (da_cons de_int da_nil))) de_int) de_int) de_int)
      (ds_one (ds_setB (i := 1) (own := false) sc_law.nd (de_op o_mod (de_v 1) de_int)))
      ds_nil)
    (ds_cons (ds_setB (i := 2) (own := false) sc_law.nd (de_op o_mod (de_call Y__law_cell.o (hr.mono (by decide)) Y__law_cell.d.mg Y__law_cell.d.fn.kp Y__law_cell.d.bd (da_cons (de_v 0) (da_cons de_int da_nil))) de_int))
    (ds_cons (ds_setB (i := 3) (own := false) sc_law.nd (de_op o_mod (de_call Y__law_cell.o (hr.mono (by decide)) Y__law_cell.d.mg Y__law_cell.d.fn.kp Y__law_cell.d.bd (da_cons (de_v 0) (da_cons de_int da_nil))) (de_frz (de_op o_add (de_v 1) de_int))))
    (ds_cons (ds_setB (i := 4) (own := true) sc_law.nd (de_call Y_beginnings_of.o hr Y_beginnings_of.d.mg Y_beginnings_of.d.fn.kp Y_beginnings_of.d.bd (da_cons (de_v 1) (da_cons (de_v 2) (da_cons (de_v 3) da_nil)))))
    (ds_cons (ds_if (dt_not (dt_tru (de_call Y__law_rising.o (hr.mono (by decide)) Y__law_rising.d.mg Y__law_rising.d.fn.kp Y__law_rising.d.bd (da_cons (de_v 4) (da_cons (de_v 3) (da_cons (de_v 1) da_nil))))))
      (ds_enter (O2 := []) (ds_one (ds_ret de_bl)))
      ds_nil)
    (ds_cons (ds_if (dt_cmp (o_ne hr.units) (de_frz (de_comp ["_law_some", "_law_many", "_law_shift"] [none, some 1, some 2] (di_seq (de_v 4)) (fun _ _ _ _ _ => dgc_nm (by decide +kernel)) (leaves_name rfl) (fun _ _ _ _ _ => pts_one (dt_not (dt_tru (de_call Y__law_is_beginning.o (hr.mono (by decide)) Y__law_is_beginning.d.mg Y__law_is_beginning.d.fn.kp Y__law_is_beginning.d.bd (da_cons (de_frz (de_callTy c_list Z.z_list PyProof.Rows.boot_list (da_cons (de_v 0) da_nil))) (da_cons (de_v 1) (da_cons (de_v 2) da_nil))))))) (fun _ _ _ _ _ => (de_v 0)))) (de_frz (de_lst da_nil)))
      (ds_enter (O2 := []) (ds_one (ds_ret de_bl)))
      ds_nil)
    (ds_cons (ds_if (dt_cmp o_le (de_v 1) de_int)
      (ds_cons (ds_setB (i := 5) (own := false) sc_law.nd (de_frz (de_ssetT hr.units Z.z_sorted Z.z_set (de_frz (de_comp ["_law_order", "_law_size"] [none, some 3] (di_seq (de_call Y__law_orders.o (hr.mono (by decide)) Y__law_orders.d.mg Y__law_orders.d.fn.kp Y__law_orders.d.bd (da_cons (de_v 1) (da_cons (de_v 2) da_nil)))) (fun _ _ _ _ _ => dgc_nm (by decide +kernel)) (leaves_name rfl) (fun _ _ _ _ _ => dts_nil) (fun _ _ _ _ _ => (de_callTy c_tuple Z.z_tuple PyProof.Rows.boot_tuple (da_cons (de_frz (de_callB c_sorted Z.z_sorted boot_sorted (da_cons (de_frz (de_sl x_sl (de_v 0) dp_none (dp_some (de_v 1)))) da_nil))) da_nil))))))))
    (ds_one (ds_if (dt_cmp (o_ne hr.units) (de_v 4) (de_v 5))
      (ds_enter (O2 := []) (ds_one (ds_ret de_bl)))
      ds_nil)))
      ds_nil)
    (ds_cons (ds_setB (i := 6) (own := false) sc_law.nd (de_call Y__law_drawn.o (hr.mono (by decide)) Y__law_drawn.d.mg Y__law_drawn.d.fn.kp Y__law_drawn.d.bd (da_cons (de_v 0) (da_cons (de_v 1) (da_cons (de_v 3) da_nil)))))
    (ds_cons (ds_if (dt_cmp (o_ne hr.units) (de_cmp (o_in hr.units) (de_v 6) (de_v 4)) (de_call Y__law_is_beginning.o (hr.mono (by decide)) Y__law_is_beginning.d.mg Y__law_is_beginning.d.fn.kp Y__law_is_beginning.d.bd (da_cons (de_frz (de_callTy c_list Z.z_list PyProof.Rows.boot_list (da_cons (de_v 6) da_nil))) (da_cons (de_v 1) (da_cons (de_v 2) da_nil)))))
      (ds_enter (O2 := []) (ds_one (ds_ret de_bl)))
      ds_nil)
    (ds_cons (ds_setA (i := 7) (own := true) sc_law.nd (de_callTy c_list Z.z_list PyProof.Rows.boot_list (da_cons (de_v 4) da_nil)))
    (ds_enter (O2 := [4]) (ds_cons (ds_appB (i := 4) (de_tup (da_cons de_int da_nil)))
    (ds_enter (O2 := []) (ds_cons (ds_if (PW.pt (dw_or (dt_cmp (o_ne hr.units) (de_frz (de_call Y_beginnings_of.o hr Y_beginnings_of.d.mg Y_beginnings_of.d.fn.kp Y_beginnings_of.d.bd (da_cons (de_v 1) (da_cons (de_v 2) (da_cons de_int da_nil))))) (de_frz (de_lst (da_cons (de_tup da_nil) da_nil)))) (dw_or1 (dt_cmp (o_ne hr.units) (de_frz (de_call Y_beginnings_of.o hr Y_beginnings_of.d.mg Y_beginnings_of.d.fn.kp Y_beginnings_of.d.bd (da_cons (de_v 1) (da_cons (de_v 2) (da_cons (de_v 1) da_nil))))) (de_frz (de_lst (da_cons (de_trng1 Z.z_tuple Z.z_range (da_cons (de_v 1) da_nil)) da_nil)))))))
      (ds_one (ds_ret de_bl))
      ds_nil)
    (ds_one (ds_ret (de_cmp (o_eq hr.units) (de_frz (de_call Y_beginnings_of.o hr Y_beginnings_of.d.mg Y_beginnings_of.d.fn.kp Y_beginnings_of.d.bd (da_cons (de_v 1) (da_cons (de_v 2) (da_cons (de_v 3) da_nil))))) (de_v 7)))))))))))))))))))
noncomputable def Rising (l : List Int) : Prop := l.Pairwise (· < ·)
noncomputable def iv (a : Int) : Nat → List Int
  | 0 => []
  | m + 1 => a :: iv (a + 1) m
theorem iv_mem : ∀ (m : Nat) (a x : Int), x ∈ iv a m ↔ a ≤ x ∧ x < a + m
  | 0, a, x => by simp [iv] <;> omega
  | m + 1, a, x => by
    rw [iv, List.mem_cons, iv_mem m (a + 1) x]
    omega
theorem iv_len : ∀ (m : Nat) (a : Int), (iv a m).length = m
  | 0, _ => rfl
  | m + 1, a => by rw [iv, List.length_cons, iv_len m (a + 1)]
theorem iv_rising : ∀ (m : Nat) (a : Int), Rising (iv a m)
  | 0, _ => List.Pairwise.nil
  | m + 1, a => by
    rw [iv]
    refine List.Pairwise.cons (fun x hx => ?_) (iv_rising m (a + 1))
    have := (iv_mem m (a + 1) x).mp hx
    omega
noncomputable def chs : Nat → List Int → List (List Int)
  | 0, _ => [[]]
  | _ + 1, [] => []
  | k + 1, a :: pool => (chs k pool).map (a :: ·) ++ chs (k + 1) pool
theorem chs_zero (pool : List Int) : chs 0 pool = [[]] := by cases pool <;> rfl
theorem chs_mem : ∀ (pool : List Int) (k : Nat) (t : List Int), t ∈ chs k pool ↔ t.length = k ∧ t.Sublist pool
  | pool, 0, t => by
    rw [chs_zero]
    simp only [List.mem_singleton]
    constructor
    · rintro rfl; exact ⟨rfl, List.nil_sublist _⟩
    · rintro ⟨h, _⟩; exact List.length_eq_zero_iff.mp h
  | [], k + 1, t => by
    simp only [chs, List.not_mem_nil, false_iff]
    rintro ⟨h, h2⟩
    have := List.sublist_nil.mp h2
    rw [this] at h
    simp at h
  | a :: pool, k + 1, t => by
    rw [chs, List.mem_append, chs_mem pool (k + 1) t]
    simp only [List.mem_map]
    constructor
    · rintro (⟨u, hu, rfl⟩ | ⟨h1, h2⟩)
      · obtain ⟨h1, h2⟩ := (chs_mem pool k u).mp hu
        exact ⟨by simp [h1], h2.cons₂ a⟩
      · exact ⟨h1, h2.cons a⟩
    · rintro ⟨h1, h2⟩
      cases h2 with
      | cons _ h => exact .inr ⟨h1, h⟩
      | cons_cons _ h =>
        rename_i u
        exact .inl ⟨u, (chs_mem pool k u).mpr ⟨by simpa using h1, h⟩, rfl⟩
theorem chs_len : ∀ (pool : List Int) (k : Nat), (chs k pool).length ≤ 2 ^ pool.length
  | pool, 0 => by rw [chs_zero]; exact Nat.one_le_two_pow
  | [], k + 1 => by simp [chs]
  | a :: pool, k + 1 => by
    rw [chs, List.length_append, List.length_map, List.length_cons, Nat.pow_succ]
    have := chs_len pool k
    have := chs_len pool (k + 1)
    omega
theorem sub_iv : ∀ (m : Nat) (a : Int) (t : List Int), t.Sublist (iv a m) ↔ Rising t ∧ ∀ x ∈ t, a ≤ x ∧ x < a + m
  | m, a, t => by
    constructor
    · intro h
      exact ⟨List.Pairwise.sublist h (iv_rising m a), fun x hx => (iv_mem m a x).mp (h.subset hx)⟩
    · intro h
      induction m generalizing a t with
      | zero =>
        cases t with
        | nil => exact List.nil_sublist _
        | cons x t => have := h.2 x (by simp); omega
      | succ m ih =>
        cases t with
        | nil => exact List.nil_sublist _
        | cons x t =>
          obtain ⟨h1, h2⟩ := h
          have hx := h2 x (by simp)
          rw [iv]
          unfold Rising at h1
          rw [List.pairwise_cons] at h1
          by_cases e : x = a
          · subst e
            refine List.Sublist.cons₂ x (ih (x + 1) t ⟨h1.2, fun y hy => ?_⟩)
            have := h1.1 y hy
            have := h2 y (by simp [hy])
            omega
          · refine List.Sublist.cons a (ih (a + 1) (x :: t) ⟨List.Pairwise.cons h1.1 h1.2, fun y hy => ?_⟩)
            rcases List.mem_cons.mp hy with z | z
            · subst z; omega
            · have := h1.1 y z
              have := h2 y (by simp [z])
              omega
theorem rise_pre : ∀ (m : Nat) (a : Int) (b : List Int), Rising b → (∀ x ∈ b, a ≤ x) → (∀ i, a ≤ i → i < a + m → i ∈ b) → ∃ t, b = iv a m ++ t ∧ Rising t ∧ ∀ x ∈ t, a + m ≤ x
  | 0, a, b, h1, h2, _ => ⟨b, rfl, h1, fun x hx => by have := h2 x hx; omega⟩
  | m + 1, a, b, h1, h2, h3 => by
    have ha := h3 a (by omega) (by omega)
    cases b with
    | nil => simp at ha
    | cons x b =>
      unfold Rising at h1
      rw [List.pairwise_cons] at h1
      have hx := h2 x (by simp)
      have e : x = a := by
        rcases List.mem_cons.mp ha with z | z
        · exact z.symm
        · have := h1.1 a z; omega
      subst e
      obtain ⟨t, rfl, ht1, ht2⟩ := rise_pre m (x + 1) b h1.2 (fun y hy => by have := h1.1 y hy; omega) (fun i hi1 hi2 => by
        have := h3 i (by omega) (by omega)
        rcases List.mem_cons.mp this with z | z
        · omega
        · exact z)
      exact ⟨t, rfl, ht1, fun y hy => by have := ht2 y hy; omega⟩
structure Beg (many shift size : Nat) (b : List Int) : Prop where
  rise : Rising b
  len : b.length = size
  sure : ∀ i : Int, 0 ≤ i → i < (size : Int) - shift → i ∈ b
  bnd : ∀ x ∈ b, 0 ≤ x ∧ x < many ∧ x < (size : Int) + shift
noncomputable def begs (many shift size : Nat) : List (List Int) := (chs (size - (size - shift)) (iv ((size - shift : Nat) : Int) (min many (size + shift) - (size - shift)))).map (iv 0 (size - shift) ++ ·)
theorem begs_iff {many shift size : Nat} (hs : size ≤ many) (b : List Int) : b ∈ begs many shift size ↔ Beg many shift size b := by
  unfold begs
  rw [List.mem_map]
  constructor
  · rintro ⟨t, ht, rfl⟩
    obtain ⟨h1, h2⟩ := (chs_mem _ _ _).mp ht
    obtain ⟨h3, h4⟩ := (sub_iv _ _ _).mp h2
    refine ⟨?_, ?_, fun i hi0 hi1 => ?_, fun x hx => ?_⟩
    · unfold Rising
      rw [List.pairwise_append]
      refine ⟨iv_rising _ _, h3, fun x hx y hy => ?_⟩
      have := (iv_mem _ _ _).mp hx
      have := h4 y hy
      omega
    · rw [List.length_append, iv_len, h1]; omega
    · exact List.mem_append_left _ ((iv_mem _ _ _).mpr ⟨by omega, by omega⟩)
    · rcases List.mem_append.mp hx with z | z
      · have := (iv_mem _ _ _).mp z; omega
      · have := h4 x z; omega
  · rintro ⟨h1, h2, h3, h4⟩
    obtain ⟨t, rfl, ht1, ht2⟩ := rise_pre (size - shift) 0 b h1 (fun x hx => (h4 x hx).1) (fun i hi0 hi1 => h3 i hi0 (by omega))
    refine ⟨t, (chs_mem _ _ _).mpr ⟨?_, (sub_iv _ _ _).mpr ⟨ht1, fun x hx => ?_⟩⟩, rfl⟩
    · rw [List.length_append, iv_len] at h2; omega
    · have := ht2 x hx
      have := h4 x (List.mem_append_right _ hx)
      omega
theorem rising_nodup {l : List Int} (h : Rising l) : l.Nodup := List.Pairwise.imp (fun h e => by omega) h
theorem nodup_sub : ∀ {l m : List Int}, l.Nodup → (∀ x ∈ l, x ∈ m) → l.length ≤ m.length
  | [], m, _, _ => Nat.zero_le _
  | a :: l, m, h, hs => by
    rw [List.nodup_cons] at h
    have ha := hs a (by simp)
    have := nodup_sub (l := l) (m := m.erase a) h.2 fun x hx => (List.mem_erase_of_ne (show x ≠ a from fun e => h.1 (e ▸ hx))).mpr (hs x (by simp [hx]))
    rw [List.length_erase_of_mem ha] at this
    have := List.length_pos_of_mem ha
    simp
    omega
theorem rise_at : ∀ {l : List Int} {a : Int}, Rising l → (∀ x ∈ l, a ≤ x) → ∀ (i : Nat) (h : i < l.length), a + i ≤ l[i]
  | [], _, _, _, i, h => by simp at h
  | x :: l, a, h1, h2, 0, h => by have := h2 x (by simp); simp; omega
  | x :: l, a, h1, h2, i + 1, h => by
    unfold Rising at h1
    rw [List.pairwise_cons] at h1
    have := rise_at (l := l) (a := a + 1) h1.2 (fun y hy => by have := h1.1 y hy; have := h2 x (by simp); omega) i (by simpa using h)
    simp only [List.getElem_cons_succ]
    omega
noncomputable def tD (t : List Int) : Dat := .tup (t.map .int)
theorem rangeL_iv : ∀ (m : Nat) (a : Int), rangeL a m = (iv a m).map .int
  | 0, a => rfl
  | m + 1, a => by
    have ih := rangeL_iv m (a + 1)
    unfold rangeL at ih ⊢
    rw [List.range_succ_eq_map, List.map_cons, List.map_map, iv, List.map_cons, ← ih]
    congr 1
    · simp
    · refine List.map_congr_left fun k _ => ?_
      simp
      omega
theorem ch_inner (n : Nat) (R : List Dat → M Dat) (a0 a1 a3 : Option Dat) (one : Int) : ∀ (rs acc : List (List Int)) (z5 : Option Dat), acc.length + rs.length ≤ 1000 → (∀ r ∈ rs, r.length ≤ 100) → ∃ y5, forD (.nm 5) (b_choices_of_2 n R) (rs.map tD) [a0, a1, some (.lst (acc.map tD)), a3, some (.int one), z5] = .ok (.nx [a0, a1, some (.lst ((acc ++ rs.map (one :: ·)).map tD)), a3, some (.int one), y5])
  | [], acc, z5, _, _ => ⟨z5, by simp [forD]⟩
  | r :: rs, acc, z5, h, hr => by
    simp only [List.length_cons] at h
    obtain ⟨y5, e⟩ := ch_inner n R a0 a1 a3 one rs (acc ++ [one :: r]) (some (tD r)) (by simp; omega) fun x hx => hr x (by simp [hx])
    refine ⟨y5, ?_⟩
    have hl : acc.length < 16777216 := by omega
    have hr1 := hr r (by simp)
    have hr2 : r.length + 1 ≤ 16777216 := by omega
    have hr3 : 1 + r.length ≤ 16777216 := by omega
    have hb : b_choices_of_2 n R [a0, a1, some (.lst (acc.map tD)), a3, some (.int one), some (tD r)] = .ok (.nx [a0, a1, some (.lst ((acc ++ [one :: r]).map tD)), a3, some (.int one), some (tD r)]) := by
      simp [b_choices_of_2, tD, addD, hl, hr2, hr3]
    rw [List.map_cons, forD]
    simp only [e_bnm, List.set_cons_succ, List.set_cons_zero, bind_ok, hb]
    rw [e]
    simp
theorem ch_outer (n : Nat) (R : List Dat → M Dat) (pool : List Int) (k : Nat) (hp : pool.length ≤ 8) (hR : ∀ j, R [.lst ((pool.drop j).map .int), .int k] = .ok (.lst ((chs k (pool.drop j)).map tD))) :
    ∀ (suf : List Int) (j : Nat) (acc : List (List Int)) (z3 z4 z5 : Option Dat), pool.drop j = suf → acc.length + (chs (k + 1) suf).length ≤ 1000 → ∃ y3 y4 y5, forD (.tp [3, 4]) (b_choices_of_3 n R) (enumL j (suf.map .int)) [some (.lst (pool.map .int)), some (.int ((k : Int) + 1)), some (.lst (acc.map tD)), z3, z4, z5] = .ok (.nx [some (.lst (pool.map .int)), some (.int ((k : Int) + 1)), some (.lst ((acc ++ chs (k + 1) suf).map tD)), y3, y4, y5])
  | [], j, acc, z3, z4, z5, _, _ => ⟨z3, z4, z5, by simp [enumL, forD, chs]⟩
  | a :: suf, j, acc, z3, z4, z5, hs, hl => by
    have hs2 : pool.drop (j + 1) = suf := by rw [← List.drop_drop, hs]; rfl
    rw [chs, List.length_append, List.length_map] at hl
    obtain ⟨y5, e1⟩ := ch_inner n R (some (.lst (pool.map .int))) (some (.int ((k : Int) + 1))) (some (.int (j : Int))) a (chs k suf) acc z5 (by omega) (fun r hr => by
      have := ((chs_mem _ _ _).mp hr).2.length_le
      have h2 : suf.length ≤ pool.length := by rw [← hs2, List.length_drop]; omega
      omega)
    obtain ⟨x3, x4, x5, e2⟩ := ch_outer n R pool k hp hR suf (j + 1) (acc ++ (chs k suf).map (a :: ·)) (some (.int (j : Int))) (some (.int a)) y5 hs2 (by simp; omega)
    refine ⟨x3, x4, x5, ?_⟩
    have hr := hR (j + 1)
    rw [hs2] at hr
    have z : ((j : Int) + 1).toNat = j + 1 := by omega
    have z0 : (0 : Int) ≤ (j : Int) + 1 := by omega
    have hcut : cutL (pool.map Dat.int) (some ((j : Int) + 1)) none = suf.map .int := by rw [cut_drop _ z0, z, ← List.map_drop, hs2]
    have hb : b_choices_of_3 n R [some (.lst (pool.map .int)), some (.int ((k : Int) + 1)), some (.lst (acc.map tD)), some (.int (j : Int)), some (.int a), z5] = .ok (.nx [some (.lst (pool.map .int)), some (.int ((k : Int) + 1)), some (.lst ((acc ++ (chs k suf).map (a :: ·)).map tD)), some (.int (j : Int)), some (.int a), y5]) := by
      simp [b_choices_of_3, hcut, hr, -cut_drop]
      rw [e1]
      simp
    rw [List.map_cons, enumL, forD]
    have hbind : bindP (.tp [3, 4]) (.tup [.int (j : Int), .int a]) [some (.lst (pool.map .int)), some (.int ((k : Int) + 1)), some (.lst (acc.map tD)), z3, z4, z5] = .ok [some (.lst (pool.map .int)), some (.int ((k : Int) + 1)), some (.lst (acc.map tD)), some (.int (j : Int)), some (.int a), z5] := by simp
    rw [hbind, bind_ok, hb, bind_ok]
    show forD _ _ _ _ = _
    rw [e2, chs]
    simp
theorem choices_ok (n : Nat) : ∀ (d k : Nat) (pool : List Int), k < d → pool.length ≤ 8 → runB 6 2 (d_choices_of n d) [.lst (pool.map .int), .int k] = .ok (.lst ((chs k pool).map tD))
  | 0, k, pool, h, _ => by omega
  | d + 1, 0, pool, h, hp => by
    rw [chs_zero]
    simp [d_choices_of, g_choices_of, c_choices_of_1, tD]
  | d + 1, k + 1, pool, h, hp => by
    have hlen := chs_len pool (k + 1)
    have h2 : 2 ^ pool.length ≤ 2 ^ 8 := Nat.pow_le_pow_right (by decide) hp
    obtain ⟨y3, y4, y5, e⟩ := ch_outer n (runB 6 2 (d_choices_of n d)) pool k hp (fun j => choices_ok n d k (pool.drop j) (by omega) (by rw [List.length_drop]; omega)) pool 0 [] none none none rfl (by simp; omega)
    have hk : ¬ ((k : Int) + 1 = 0) := by omega
    rw [List.nil_append, List.map_nil] at e
    simp [d_choices_of, g_choices_of, c_choices_of_1, hk, e, -e_run]
    simp only [e_run, List.length_cons, List.length_nil, List.map_cons, List.map_nil, List.cons_append, List.nil_append, List.replicate]
    simp [hk, e]
theorem begin_ok (n many shift size : Nat) (hm : many ≤ 41) (hsh : shift ≤ 3) (hs : size ≤ many) : m_beginnings_of n [.int many, .int shift, .int size] = .ok (.lst ((begs many shift size).map tD)) := by
  have e1 : maxZ 0 ((size : Int) - shift) = ((size - shift : Nat) : Int) := by unfold maxZ; split <;> omega
  have e2 : minZ (many : Int) ((size : Int) + shift) = ((min many (size + shift) : Nat) : Int) := by unfold minZ; split <;> omega
  have k1 : -4611686018427387904 ≤ ((size - shift : Nat) : Int) := by omega
  have k2 : ((size - shift : Nat) : Int) < 4611686018427387904 := by omega
  have k3 : -4611686018427387904 ≤ ((min many (size + shift) : Nat) : Int) := by omega
  have k4 : ((min many (size + shift) : Nat) : Int) < 4611686018427387904 := by omega
  have k5 : (((min many (size + shift) : Nat) : Int) - ((size - shift : Nat) : Int)).toNat = min many (size + shift) - (size - shift) := by omega
  have k6 : (size : Int) - ((size - shift : Nat) : Int) = ((size - (size - shift) : Nat) : Int) := by omega
  have l1 : size - shift ≤ 16777216 := by omega
  have l2 : min many (size + shift) - (size - shift) ≤ 16777216 := by omega
  have ec := choices_ok n 6 (size - (size - shift)) (iv ((size - shift : Nat) : Int) (min many (size + shift) - (size - shift))) (by omega) (by rw [iv_len]; omega)
  have em : m_choices_of n [.lst ((iv ((size - shift : Nat) : Int) (min many (size + shift) - (size - shift))).map .int), .int ((size - (size - shift) : Nat) : Int)] = .ok (.lst ((chs (size - (size - shift)) (iv ((size - shift : Nat) : Int) (min many (size + shift) - (size - shift)))).map tD)) := ec
  have hlen := chs_len (iv ((size - shift : Nat) : Int) (min many (size + shift) - (size - shift))) (size - (size - shift))
  rw [iv_len] at hlen
  have h2 : 2 ^ (min many (size + shift) - (size - shift)) ≤ 2 ^ 8 := Nat.pow_le_pow_right (by decide) (by omega)
  have hall : ∀ t ∈ chs (size - (size - shift)) (iv ((size - shift : Nat) : Int) (min many (size + shift) - (size - shift))), t.length ≤ 41 := fun t ht => by
    have := ((chs_mem _ _ _).mp ht).1; omega
  generalize hC : chs (size - (size - shift)) (iv ((size - shift : Nat) : Int) (min many (size + shift) - (size - shift))) = C at em hlen hall
  have ecomp : ∀ C : List (List Int), (∀ t ∈ C, t.length ≤ 41) → compD (.nm 0) fYes (f2 addD (fVar 1) (fVar 0)) [none, some (tD (iv 0 (size - shift)))] (C.map tD) = .ok ((C.map (iv 0 (size - shift) ++ ·)).map tD) := by
    intro C
    induction C with
    | nil => intro _; rfl
    | cons t C ih =>
      intro h
      have ht := h t (by simp)
      have hle : size - shift + t.length ≤ 16777216 := by omega
      rw [List.map_cons, compD]
      have ih := ih fun x hx => h x (by simp [hx])
      simp only [e_bnm, List.set_cons_zero, bind_ok, e_yes, if_true, e_2, e_varS, e_var0, ih]
      simp [tD, addD, iv_len, hle]
  have ecC := ecomp C hall
  have hCl : C.length ≤ 16777216 := by omega
  have eb : begs many shift size = C.map (iv 0 (size - shift) ++ ·) := by unfold begs; rw [hC]
  rw [eb]
  have tde : tD (iv 0 (size - shift)) = .tup ((iv 0 (size - shift)).map .int) := rfl
  rw [tde] at ecC
  simp [m_beginnings_of, g_beginnings_of, e1, e2, k1, k2, k3, k4, k5, rangeL_iv, iv_len, l1, l2, k6, em, hCl, ecC, -List.map_map]
theorem okEs_tD (n : Nat) : ∀ ts : List (List Int), okEs (ts.map tD) (n + 1) = true
  | [] => by simp [okEs]
  | t :: ts => by simp [okEs, okE, tD, okEs_tD n ts]
theorem inT (m : List Int) (ts : List (List Int)) : inM (tD m) (.lst (ts.map tD)) = .ok (.bl (decide (m ∈ ts))) := by
  have h1 : okE (tD m) 40 = true := by simp [okE, tD]
  have h2 : okEs (ts.map tD) 40 = true := okEs_tD 39 ts
  show (if (okE (tD m) 40 && okEs (ts.map tD) 40) = true then Except.ok (Dat.bl ((ts.map tD).any fun d => eqD d (tD m))) else stk) = _
  rw [if_pos (by rw [h1, h2]; rfl)]
  congr 2
  rw [Bool.eq_iff_iff]
  simp only [List.any_eq_true, List.mem_map, decide_eq_true_eq]
  constructor
  · rintro ⟨d, ⟨t, ht, rfl⟩, he⟩
    simp [tD, eqD] at he
    rw [← he]; exact ht
  · intro h
    exact ⟨tD m, ⟨m, h, rfl⟩, by simp [tD, eqD]⟩
theorem any_int (f : Int) (b : List Int) : ((b.map Dat.int).any fun d => eqD d (.int f)) = decide (f ∈ b) := by
  rw [Bool.eq_iff_iff]
  simp only [List.any_eq_true, List.mem_map, decide_eq_true_eq]
  constructor
  · rintro ⟨d, ⟨x, hx, rfl⟩, he⟩
    simp [eqD] at he
    rw [← he]; exact hx
  · intro h
    exact ⟨.int f, ⟨f, h, rfl⟩, by simp [eqD]⟩
theorem notInL (f : Int) (b : List Int) : notInM (.int f) (.lst (b.map .int)) = .ok (.bl (!decide (f ∈ b))) := by
  show (if (okE (.int f) 40 && okEs (b.map Dat.int) 40) = true then Except.ok (Dat.bl (!(b.map Dat.int).any fun d => eqD d (.int f))) else stk) = _
  rw [any_int]
  simp [okE]
theorem compD_ints {p : Pat} {ft : Env' → M Bool} {fe : Env' → M Dat} {ρ0 : Env'} (b : Int → Bool) (f : Int → Dat) : ∀ xs : List Int, (∀ x ∈ xs, ∃ ρ, bindP p (.int x) ρ0 = .ok ρ ∧ ft ρ = .ok (b x) ∧ (b x = true → fe ρ = .ok (f x))) → compD p ft fe ρ0 (xs.map .int) = .ok ((xs.filter b).map f)
  | [], _ => rfl
  | x :: xs, h => by
    obtain ⟨ρ, e1, e2, e3⟩ := h x (by simp)
    have ih := compD_ints b f xs fun y hy => h y (by simp [hy])
    rw [List.map_cons, compD, e1, bind_ok, e2, bind_ok]
    by_cases hb : b x = true
    · rw [if_pos hb, e3 hb, bind_ok, ih, bind_ok, List.filter_cons_of_pos hb]
      rfl
    · rw [if_neg hb, ih, List.filter_cons_of_neg hb]
noncomputable def absZ (i : Int) : Int := if i < 0 then -i else i
theorem cell_ok (n : Nat) (ns : List Int) (k : Int) (h0 : 0 ≤ k) (h1 : k < 1000) : ∃ c, m__law_cell n [.lst (ns.map .int), .int k] = .ok (.int c) := by
  by_cases hk : k < (ns.length : Int)
  · exact ⟨ns[k.toNat]'(by omega), by simp [m__law_cell, g__law_cell, c__law_cell_1, hk, getI_int h0 hk]⟩
  · by_cases hn : ns = []
    · subst hn
      have : ¬ k < 0 := by omega
      exact ⟨0, by simp [m__law_cell, g__law_cell, c__law_cell_1, c__law_cell_2, this, eqM, okE, okEs, eqD, eqDs]⟩
    · have hl : 0 < ns.length := List.length_pos_iff.mpr hn
      have hl2 : (0 : Int) < ns.length := by omega
      have hm0 : 0 ≤ k % (ns.length : Int) := Int.emod_nonneg _ (by omega)
      have hm1 : k % (ns.length : Int) < (ns.length : Int) := Int.emod_lt_of_pos _ (by omega)
      have hk2 : -18446744073709551616 < k := by omega
      have hk3 : k < 18446744073709551616 := by omega
      exact ⟨ns[(k % (ns.length : Int)).toNat]'(by omega) * 69621 + k * k * 48271, by simp [m__law_cell, g__law_cell, c__law_cell_1, c__law_cell_2, hk, eqM, okE, okEs, eqD, hn, hl, getI_int hm0 hm1, hk2, hk3]⟩
theorem rangeL_get {lo : Int} {m i : Nat} {d : Dat} (h : (rangeL lo m)[i]? = some d) : i < m ∧ d = .int (lo + i) := by
  unfold rangeL at h
  rw [List.getElem?_map] at h
  obtain ⟨a, h1, h2⟩ := Option.map_eq_some_iff.mp h
  have hi := (List.getElem?_eq_some_iff.mp h1).1
  rw [List.length_range] at hi
  rw [List.getElem?_range hi] at h1
  cases h1
  exact ⟨hi, h2.symm⟩
theorem range0_get {m i : Nat} {d : Dat} (h : (rangeL 0 m)[i]? = some d) : i < m ∧ d = .int i := by
  obtain ⟨h1, h2⟩ := rangeL_get h
  exact ⟨h1, by rw [h2, Int.zero_add]⟩
theorem begs_len (many shift size : Nat) (h : shift ≤ 3) (hs : size ≤ many) : (begs many shift size).length ≤ 256 := by
  unfold begs
  rw [List.length_map]
  have hlen := chs_len (iv ((size - shift : Nat) : Int) (min many (size + shift) - (size - shift))) (size - (size - shift))
  rw [iv_len] at hlen
  have h2 : 2 ^ (min many (size + shift) - (size - shift)) ≤ 2 ^ 8 := Nat.pow_le_pow_right (by decide) (by omega)
  omega
theorem max_le : ∀ (is : List Int) (i sh : Int), is.foldl maxZ i ≤ sh ↔ i ≤ sh ∧ ∀ a ∈ is, a ≤ sh
  | [], i, sh => by simp
  | j :: is, i, sh => by
    rw [List.foldl_cons, max_le is (maxZ i j) sh]
    have : maxZ i j ≤ sh ↔ i ≤ sh ∧ j ≤ sh := by unfold maxZ; split <;> omega
    rw [this]
    simp [and_assoc]
theorem rest_iff' {m s z : Nat} {d rest : List Int} (hz : z ≤ m) (hml : d.length = z) (hr1 : Rising rest) (hr2 : ∀ x, x ∈ rest ↔ (0 ≤ x ∧ x < m) ∧ x ∉ d) :
    (∀ (k : Nat) (h : k < rest.length), -(s : Int) ≤ rest[k] - z - k ∧ rest[k] - z - k ≤ s) ↔ ∀ i : Int, 0 ≤ i → i < (z : Int) - s → i ∈ d := by
  have hb0 : ∀ x ∈ rest, (0 : Int) ≤ x := fun x hx => ((hr2 x).mp hx).1.1
  have hup : ∀ (k : Nat) (h : k < rest.length), rest[k] ≤ (z : Int) + k := fun k h => by
    refine Classical.byContradiction fun hn => ?_
    have hk := (hr2 rest[k]).mp (List.getElem_mem h)
    have hsub := nodup_sub (l := iv 0 (rest[k]).toNat) (m := rest.take k ++ d) (rising_nodup (iv_rising _ _)) (fun x hx => by
      have hx' := (iv_mem _ _ _).mp hx
      by_cases hxm : x ∈ d
      · exact List.mem_append_right _ hxm
      · have hxr : x ∈ rest := (hr2 x).mpr ⟨⟨by omega, by omega⟩, hxm⟩
        obtain ⟨j, hj, hje⟩ := List.mem_iff_getElem.mp hxr
        refine List.mem_append_left _ (List.mem_take_iff_getElem.mpr ⟨j, ?_, hje⟩)
        have : j < k := Classical.byContradiction fun z => by
          rcases Nat.lt_or_ge k j with q | q
          · have := List.pairwise_iff_getElem.mp hr1 k j h hj q; omega
          · have : j = k := by omega
            subst this; omega
        omega)
    rw [iv_len, List.length_append, List.length_take, hml] at hsub
    omega
  have first : ∀ (j : Nat) (hj : j < rest.length), rest[0]'(by omega) ≤ rest[j] := fun j hj => by
    rcases Nat.eq_zero_or_pos j with q | q
    · subst q; exact Int.le_refl _
    · have := List.pairwise_iff_getElem.mp hr1 0 j (by omega) hj q; omega
  constructor
  · intro hk i h0 h1
    refine Classical.byContradiction fun hn => ?_
    have hir : i ∈ rest := (hr2 i).mpr ⟨⟨h0, by omega⟩, hn⟩
    obtain ⟨j, hj, hje⟩ := List.mem_iff_getElem.mp hir
    have a1 := (hk 0 (by omega)).1
    have a2 := first j hj
    omega
  · intro hi k h
    have a1 := hup k h
    refine ⟨?_, by omega⟩
    have h0 : 0 < rest.length := by omega
    have hm0 : rest[0] ∉ d := ((hr2 _).mp (List.getElem_mem h0)).2
    have hr0 : (z : Int) - s ≤ rest[0] := Classical.byContradiction fun q => hm0 (hi _ (hb0 _ (List.getElem_mem h0)) (by omega))
    have hge := rise_at (l := rest) (a := rest[0]) hr1 (fun x hx => by
      obtain ⟨j, hj, rfl⟩ := List.mem_iff_getElem.mp hx
      exact first j hj) k h
    omega
theorem front_iff {m s z : Nat} {d : List Int} (hml : d.length = z) (hd1 : Rising d) (hd2 : ∀ x ∈ d, 0 ≤ x ∧ x < m) : (∀ (k : Nat) (h : k < d.length), -(s : Int) ≤ d[k] - k ∧ d[k] - k ≤ s) ↔ ∀ x ∈ d, x < (z : Int) + s := by
  have hge : ∀ (k : Nat) (h : k < d.length), (k : Int) ≤ d[k] := fun k h => by
    have := rise_at (l := d) (a := 0) hd1 (fun x hx => (hd2 x hx).1) k h
    omega
  constructor
  · intro hk x hx
    obtain ⟨j, hj, rfl⟩ := List.mem_iff_getElem.mp hx
    have := (hk j hj).2
    omega
  · intro hx k h
    have h1 := hge k h
    refine ⟨by omega, ?_⟩
    have key : ∀ j, ∀ (hj : k + j < d.length), d[k] + j ≤ d[k + j] := by
      intro j
      induction j with
      | zero => intro hj; simp
      | succ j ih =>
        intro hj
        have := ih (by omega)
        have h3 := List.pairwise_iff_getElem.mp hd1 (k + j) (k + (j + 1)) (by omega) hj (by omega)
        have h4 : (d[k + j] : Int) < d[k + (j + 1)] := h3
        omega
    have h2 := key (d.length - 1 - k) (by omega)
    have h3 := hx _ (List.getElem_mem (show k + (d.length - 1 - k) < d.length by omega))
    omega
noncomputable def oth (m : Nat) (d : List Int) : List Int := (iv 0 m).filter fun x => !decide (x ∈ d)
theorem oth_mem (m : Nat) (d : List Int) (x : Int) : x ∈ oth m d ↔ (0 ≤ x ∧ x < m) ∧ x ∉ d := by
  unfold oth
  rw [List.mem_filter, iv_mem]
  simp
theorem oth_rise (m : Nat) (d : List Int) : Rising (oth m d) := List.Pairwise.filter _ (iv_rising m 0)
theorem nodup_len {l m : List Int} (h1 : l.Nodup) (h2 : m.Nodup) (h : ∀ x, x ∈ l ↔ x ∈ m) : l.length = m.length := Nat.le_antisymm (nodup_sub h1 fun x hx => (h x).mp hx) (nodup_sub h2 fun x hx => (h x).mpr hx)
theorem order_len {m : Nat} {d : List Int} (hd1 : Rising d) (hd2 : ∀ x ∈ d, 0 ≤ x ∧ x < m) : (d ++ oth m d).length = m := by
  have := nodup_len (l := d ++ oth m d) (m := iv 0 m) (List.nodup_append.mpr ⟨rising_nodup hd1, rising_nodup (oth_rise m d), fun a ha b hb e => by subst e; exact ((oth_mem m d a).mp hb).2 ha⟩) (rising_nodup (iv_rising _ _)) (fun x => by
    rw [List.mem_append, oth_mem, iv_mem]
    constructor
    · rintro (h | h)
      · have := hd2 x h; omega
      · omega
    · intro h
      by_cases hx : x ∈ d
      · exact .inl hx
      · exact .inr ⟨by omega, hx⟩)
  rw [this, iv_len]
theorem beg_iff {m s z : Nat} {d : List Int} (hz : z ≤ m) (hml : d.length = z) (hd1 : Rising d) (hd2 : ∀ x ∈ d, 0 ≤ x ∧ x < m) :
    (∀ (p : Nat) (h : p < (d ++ oth m d).length), -(s : Int) ≤ (d ++ oth m d)[p] - p ∧ (d ++ oth m d)[p] - p ≤ s) ↔ Beg m s z d := by
  have hF := front_iff (m := m) (s := s) (z := z) hml hd1 hd2
  have hR := rest_iff' (s := s) hz hml (oth_rise m d) (oth_mem m d)
  constructor
  · intro h
    refine ⟨hd1, hml, hR.mp fun k hk => ?_, fun x hx => ⟨(hd2 x hx).1, (hd2 x hx).2, hF.mp (fun k hk => ?_) x hx⟩⟩
    · have := h (z + k) (by rw [List.length_append]; omega)
      rw [List.getElem_append_right (by omega)] at this
      simp only [hml, Nat.add_sub_cancel_left] at this
      omega
    · have := h k (by rw [List.length_append]; omega)
      rw [List.getElem_append_left hk] at this
      exact this
  · intro hb p hp
    by_cases hpd : p < d.length
    · rw [List.getElem_append_left hpd]
      exact hF.mpr (fun x hx => (hb.bnd x hx).2.2) p hpd
    · rw [List.getElem_append_right (by omega)]
      have hk : p - d.length < (oth m d).length := by rw [List.length_append] at hp; omega
      have := hR.mpr (fun i h0 h1 => hb.sure i h0 h1) (p - d.length) hk
      omega
theorem sort_rising {d : List Int} (h : Rising d) (hl : d.length < 64) : sortedD [.lst (d.map .int)] = .ok (.lst (d.map .int)) := by
  show sortDs _ = _
  unfold sortDs
  rw [if_pos (by simpa using hl), intsD_map]
  show Except.ok (Dat.lst ((isort ltZ d).map .int)) = _
  congr 3
  exact perm_unique ordZ (isort_perm d) (isort_sorted ordZ d) (List.Pairwise.imp (fun {a b} h => by simp [ltZ]; omega) h)
theorem add_ll {xs ys : List Dat} (h : xs.length ≤ 1000) (h2 : ys.length ≤ 1000) : addD (.lst xs) (.lst ys) = .ok (.lst (xs ++ ys)) := by
  show (if xs.length + ys.length ≤ sizeLine then _ else _) = _
  rw [if_pos (by rw [sizeLine_eq]; omega)]
theorem absZ_le (x : Int) (s : Nat) : absZ x ≤ s ↔ -(s : Int) ≤ x ∧ x ≤ s := by unfold absZ; split <;> omega
theorem maxm_le (l : List Int) (s : Nat) : (match l with | [] => (0 : Int) | i :: is => is.foldl maxZ i) ≤ (s : Int) ↔ ∀ a ∈ l, a ≤ (s : Int) := by
  cases l with
  | nil => simp
  | cons a l => rw [max_le]; simp
theorem is_beg_ok (n m s z : Nat) (hm : m ≤ 40) (hz : z ≤ m) (d : List Int) (hml : d.length = z) (hd1 : Rising d) (hd2 : ∀ x ∈ d, 0 ≤ x ∧ x < m) :
    m__law_is_beginning n [.lst (d.map .int), .int m, .int s] = .ok (.bl (decide (d ∈ begs m s z))) := by
  have k1 : -4611686018427387904 ≤ (m : Int) := by omega
  have k2 : (m : Int) < 4611686018427387904 := by omega
  have l1 : m ≤ 16777216 := by omega
  have ol := order_len hd1 hd2
  have ol2 : d.length + (oth m d).length = m := by rw [← List.length_append]; exact ol
  have e1 := compD_ints (p := .nm 0) (ft := fB (f2 notInM (fVar 0) (fVar 1))) (fe := fVar 0) (ρ0 := [none, some (.lst (d.map .int))]) (fun x => !decide (x ∈ d)) (fun x => .int x) (iv 0 m) (fun x hx => by
    refine ⟨[some (.int x), some (.lst (d.map .int))], by simp, ?_, by simp⟩
    have := notInL x d
    by_cases hxb : x ∈ d <;> simp [this, hxb])
  have e1' : compD (.nm 0) (fB (f2 notInM (fVar 0) (fVar 1))) (fVar 0) [none, some (.lst (d.map .int))] ((iv 0 m).map .int) = .ok ((oth m d).map .int) := e1
  have e2 := sort_rising hd1 (by omega)
  have e3 := add_ll (xs := d.map .int) (ys := (oth m d).map .int) (by simp; omega) (by simp; omega)
  rw [← List.map_append] at e3
  have hb := beg_iff (s := s) hz hml hd1 hd2
  generalize d ++ oth m d = o at *
  have e4 := compD_ints (p := .nm 0) (ft := fYes) (fe := fL absD (fCons (f2 subD (f2 ixD (fVar 1) (fVar 0)) (fVar 0)) fNil)) (ρ0 := [none, some (.lst (o.map .int))]) (fun x => true) (fun x => .int (absZ (o.getD x.toNat 0 - x))) (iv 0 m) (fun x hx => by
    refine ⟨[some (.int x), some (.lst (o.map .int))], by simp, rfl, fun _ => ?_⟩
    have hx' := (iv_mem _ _ _).mp hx
    have hxl : x.toNat < o.length := by omega
    have eg := getI_int (is := o) (k := x) hx'.1 (by omega)
    have ed : o.getD x.toNat 0 = o[x.toNat] := by simp [hxl]
    rw [ed]
    simp [eg, absZ])
  rw [List.filter_eq_self.mpr (fun _ _ => rfl)] at e4
  have e4' : compD (.nm 0) fYes (fL absD (fCons (f2 subD (f2 ixD (fVar 1) (fVar 0)) (fVar 0)) fNil)) [none, some (.lst (o.map .int))] ((iv 0 m).map .int) = .ok (((iv 0 m).map fun x => absZ (o.getD x.toNat 0 - x)).map .int) := by rw [e4, List.map_map]; rfl
  have hv := maxm_le ((iv 0 m).map fun x => absZ (o.getD x.toNat 0 - x)) s
  have hv2 : (match (iv 0 m).map fun x => absZ (o.getD x.toNat 0 - x) with | [] => (0 : Int) | i :: is => is.foldl maxZ i) ≤ (s : Int) ↔ d ∈ begs m s z := by
    rw [hv, begs_iff hz, ← hb]
    constructor
    · intro h p hp
      have := h _ (List.mem_map.mpr ⟨(p : Int), (iv_mem _ _ _).mpr ⟨by omega, by omega⟩, rfl⟩)
      rw [absZ_le] at this
      rw [show o.getD (p : Int).toNat 0 = o[p] by simp [hp]] at this
      exact this
    · intro h a ha
      obtain ⟨x, hx, rfl⟩ := List.mem_map.mp ha
      have hx' := (iv_mem _ _ _).mp hx
      have hxl : x.toNat < o.length := by omega
      have := h x.toNat hxl
      rw [absZ_le, show o.getD x.toNat 0 = o[x.toNat] by simp [hxl]]
      omega
  have r1 : rng1 [.int (m : Int)] = .ok ((iv 0 m).map .int) := by
    have := e_rng1 (j := (m : Int)) (by unfold small62; simp; omega)
    rw [this, rangeL_iv]
    simp
  have hol : (oth m d).length ≤ 16777216 := by omega
  simp [m__law_is_beginning, g__law_is_beginning, r1, e1', e2, e3, e4', hol, iv_len, l1, -List.map_map, -List.getD_eq_getElem?_getD]
  exact hv2
theorem geL_lex : ∀ a b : List Int, lexZ a b = true → geL a b = false
  | [], [], h => by simp [lexZ] at h
  | [], b :: bs, _ => by simp [geL]
  | a :: as, [], h => by simp [lexZ] at h
  | a :: as, b :: bs, h => by
    unfold lexZ at h
    unfold geL
    by_cases e : a = b
    · rw [if_pos e] at h ⊢
      exact geL_lex as bs h
    · rw [if_neg e] at h ⊢
      have := of_decide_eq_true h
      exact decide_eq_false (by omega)
theorem rise_inner (n m z : Nat) (a0 a3 : Option Dat) (b : List Int) (hb : b.length = z) (hr : Rising b) (hm : ∀ x ∈ b, 0 ≤ x ∧ x < m) (z5 : Option Dat) :
    ∃ y5, forD (.nm 5) (b__law_rising_5 n) (rangeL 0 z) [a0, some (.int z), some (.int m), a3, some (tD b), z5] = .ok (.nx [a0, some (.int z), some (.int m), a3, some (tD b), y5]) := by
  obtain ⟨ρ', e, y5, rfl⟩ := forD_inv (p := .nm 5) (g := b__law_rising_5 n) (fun k ρ => ∃ y5, ρ = [a0, some (.int z), some (.int m), a3, some (tD b), y5]) (rangeL 0 z) 0 [a0, some (.int z), some (.int m), a3, some (tD b), z5] ⟨z5, rfl⟩ (by
    rintro i d ρ hd ⟨y5, rfl⟩
    obtain ⟨hi, rfl⟩ := range0_get hd
    have hib : i < b.length := by omega
    have g1 := getI_int (is := b) (k := (i : Int)) (by omega) (by omega)
    have g1' : getI (b.map Dat.int) (i : Int) = .ok (.int b[i]) := g1
    have hx := hm b[i] (List.getElem_mem hib)
    refine ⟨_, by simp; rfl, _, .inl ?_, some (.int i), rfl⟩
    rcases Nat.eq_zero_or_pos i with q | q
    · subst q
      have g0 : getI (b.map Dat.int) 0 = .ok (.int b[0]) := g1'
      simp [b__law_rising_5, c__law_rising_3, c__law_rising_4, tD, g0, hx.1, hx.2]
    · have hp : (0 : Int) < i := by omega
      have g2 := getI_int (is := b) (k := (i : Int) - 1) (by omega) (by omega)
      have e3 : ((i : Int) - 1).toNat = i - 1 := by omega
      have hlt := List.pairwise_iff_getElem.mp hr (i - 1) i (by omega) hib (by omega)
      have g2' : getI (b.map Dat.int) ((i : Int) - 1) = .ok (.int b[i - 1]) := by rw [g2]; simp only [e3]
      have hlt' : ¬ b[i] ≤ b[i - 1] := by omega
      simp [b__law_rising_5, c__law_rising_3, c__law_rising_4, tD, g1', g2', hx.1, hx.2, hp, hlt'])
  exact ⟨y5, e⟩
theorem rising_ok (n m z : Nat) (bs : List (List Int)) (hl : bs.length ≤ 256) (hz : z ≤ 40) (h1 : ∀ b ∈ bs, b.length = z ∧ Rising b ∧ ∀ x ∈ b, 0 ≤ x ∧ x < m) (h2 : bs.Pairwise fun a b => lexZ a b = true) :
    m__law_rising n [.lst (bs.map tD), .int z, .int m] = .ok (.bl true) := by
  obtain ⟨ρ', e, y3, y4, y5, rfl⟩ := forD_inv (p := .nm 3) (g := b__law_rising_6 n) (fun k ρ => ∃ y3 y4 y5, ρ = [some (.lst (bs.map tD)), some (.int z), some (.int m), y3, y4, y5]) (rangeL 0 bs.length) 0 [some (.lst (bs.map tD)), some (.int z), some (.int m), none, none, none] ⟨none, none, none, rfl⟩ (by
    rintro i d ρ hd ⟨y3, y4, y5, rfl⟩
    obtain ⟨hi, rfl⟩ := range0_get hd
    have hb := h1 bs[i] (List.getElem_mem hi)
    have g1 := getI_nat (ds := bs.map tD) (k := i) (by simpa using hi)
    rw [List.getElem_map] at g1
    have rz : rng1 [.int (z : Int)] = .ok (rangeL 0 z) := by
      have := e_rng1 (j := (z : Int)) (by unfold small62; simp; omega)
      rw [this]
      simp
    obtain ⟨w5, ei⟩ := rise_inner n m z (some (.lst (bs.map tD))) (some (.int i)) bs[i] hb.1 hb.2.1 hb.2.2 y5
    refine ⟨_, by simp; rfl, _, .inl ?_, some (.int i), some (tD bs[i]), w5, rfl⟩
    have hlen : ((bs[i].map Dat.int).length : Int) = z := by rw [List.length_map, hb.1]
    have hlen2 : bs[i].length = z := hb.1
    rcases Nat.eq_zero_or_pos i with q | q
    · subst q
      have g0 : getI (bs.map tD) 0 = .ok (tD bs[0]) := g1
      have c2 : c__law_rising_2 n [some (.lst (bs.map tD)), some (.int z), some (.int m), some (.int (0 : Nat)), some (tD bs[0]), y5] = .ok (.nx [some (.lst (bs.map tD)), some (.int z), some (.int m), some (.int (0 : Nat)), some (tD bs[0]), y5]) := by
        simp [c__law_rising_2, tD, hlen2]
      have ei' := ei
      simp at c2 ei'
      simp [b__law_rising_6, g0, c2, rz, ei']
    · have hp : (0 : Int) < i := by omega
      have g2 := getI_nat (ds := bs.map tD) (k := i - 1) (by simp; omega)
      rw [List.getElem_map, show ((i - 1 : Nat) : Int) = (i : Int) - 1 by omega] at g2
      have hlt := geL_lex _ _ (List.pairwise_iff_getElem.mp h2 (i - 1) i (by omega) hi (by omega))
      have eg : geM (tD bs[i - 1]) (tD bs[i]) = .ok (.bl false) := by rw [← hlt]; exact e_geT _ _
      have c2 : c__law_rising_2 n [some (.lst (bs.map tD)), some (.int z), some (.int m), some (.int i), some (tD bs[i]), y5] = .ok (.nx [some (.lst (bs.map tD)), some (.int z), some (.int m), some (.int i), some (tD bs[i]), y5]) := by
        have l1 : lenD [tD bs[i]] = .ok (.int z) := by simp [tD, hlen2]
        have t1 : isi_tupleD (tD bs[i]) = .ok (.bl true) := by simp [tD]
        simp [c__law_rising_2, t1, l1, hp, g2, eg]
      simp [b__law_rising_6, g1, c2, rz, ei])
  have rl : rng1 [.int (bs.length : Int)] = .ok (rangeL 0 bs.length) := by
    have := e_rng1 (j := (bs.length : Int)) (by unfold small62; simp; omega)
    rw [this]
    simp
  simp [m__law_rising, g__law_rising, c__law_rising_1, rl, e]
theorem erase_perm {α : Type} {l : List α} {i : Nat} (h : i < l.length) : (l[i] :: l.eraseIdx i).Perm l := by
  rw [List.eraseIdx_eq_take_drop_succ]
  have := List.take_append_drop i l
  rw [List.drop_eq_getElem_cons h] at this
  exact List.perm_middle.symm.trans (by rw [this])
theorem eraseIdx_mapI (l : List Int) (j : Nat) : (l.map Dat.int).eraseIdx j = (l.eraseIdx j).map .int := by
  rw [List.eraseIdx_eq_take_drop_succ, List.eraseIdx_eq_take_drop_succ]
  simp [List.map_take, List.map_drop]
theorem popD_i {ls : List Int} {k : Int} (h0 : 0 ≤ k) (h1 : k < ls.length) (hl : ls.length ≤ 16777216) : popD (ls.map .int) (.int k) = .ok (.int (ls[k.toNat]'(by omega)), (ls.eraseIdx k.toNat).map .int) := by
  have hj : k.toNat < ls.length := by omega
  have hn : ¬ 16777216 < ls.length := by omega
  simp [popD, ixN, h0, h1, hj, hn, eraseIdx_mapI]
theorem lex_app : ∀ p a b : List Int, lexZ (p ++ a) (p ++ b) = lexZ a b
  | [], _, _ => rfl
  | x :: p, a, b => by
    show (if x = x then lexZ (p ++ a) (p ++ b) else _) = _
    rw [if_pos rfl, lex_app p a b]
theorem chs_lex : ∀ (pool : List Int) (k : Nat), Rising pool → (chs k pool).Pairwise fun a b => lexZ a b = true
  | pool, 0, _ => by rw [chs_zero]; exact List.pairwise_singleton _ _
  | [], k + 1, _ => List.Pairwise.nil
  | x :: pool, k + 1, h => by
    obtain ⟨h1, h2⟩ := List.pairwise_cons.mp h
    show ((chs k pool).map (x :: ·) ++ chs (k + 1) pool).Pairwise _
    refine List.pairwise_append.mpr ⟨?_, chs_lex pool (k + 1) h2, fun a ha b hb => ?_⟩
    · rw [List.pairwise_map]
      exact (chs_lex pool k h2).imp fun {a b} h => by
        show (if x = x then lexZ a b else _) = true
        rw [if_pos rfl]; exact h
    · obtain ⟨a', _, rfl⟩ := List.mem_map.mp ha
      obtain ⟨hl, hs⟩ := (chs_mem _ _ _).mp hb
      cases b with
      | nil => simp at hl
      | cons y b =>
        have := h1 y (hs.subset List.mem_cons_self)
        show (if x = y then _ else decide (x < y)) = true
        rw [if_neg (by omega)]
        exact decide_eq_true this
theorem begs_lex (m s z : Nat) : (begs m s z).Pairwise fun a b => lexZ a b = true := by
  unfold begs
  rw [List.pairwise_map]
  exact (chs_lex _ _ (iv_rising _ _)).imp fun {a b} h => by rw [lex_app]; exact h
theorem begs_zero (m s : Nat) : begs m s 0 = [[]] := by
  unfold begs
  simp [chs_zero, iv]
theorem chs_all : ∀ (pool : List Int), chs pool.length pool = [pool]
  | [] => rfl
  | x :: pool => by
    show (chs pool.length pool).map (x :: ·) ++ chs (pool.length + 1) pool = _
    rw [chs_all pool]
    have : chs (pool.length + 1) pool = [] := by
      cases e : chs (pool.length + 1) pool with
      | nil => rfl
      | cons t ts =>
        have := (chs_mem pool (pool.length + 1) t).mp (by rw [e]; exact List.mem_cons_self)
        have h2 := this.2.length_le
        omega
    rw [this]
    rfl
theorem iv_app : ∀ (a : Nat) (x : Int) (b : Nat), iv x a ++ iv (x + a) b = iv x (a + b)
  | 0, x, b => by simp [iv]
  | a + 1, x, b => by
    rw [show a + 1 + b = (a + b) + 1 by omega]
    show x :: (iv (x + 1) a ++ iv (x + ((a + 1 : Nat) : Int)) b) = x :: iv (x + 1) (a + b)
    rw [← iv_app a (x + 1) b]
    congr 3
    omega
theorem begs_all (m s : Nat) : begs m s m = [iv 0 m] := by
  unfold begs
  have e1 : min m (m + s) - (m - s) = m - (m - s) := by omega
  have e2 := chs_all (iv ((m - s : Nat) : Int) (m - (m - s)))
  rw [iv_len] at e2
  rw [e1, e2, List.map_singleton]
  have := iv_app (m - s) 0 (m - (m - s))
  rw [Int.zero_add] at this
  rw [this]
  congr 2
  omega
theorem drawn_loop (n : Nat) (ns : List Int) (m z : Nat) (hm : m ≤ 40) : ∀ (i : Nat) (k : Nat) (left got : List Int) (z5 : Option Dat), i + k = z → z ≤ m → (left ++ got).Perm (iv 0 m) → got.length = k →
    ∃ (left' got' : List Int) (y5 : Option Dat), (left' ++ got').Perm (iv 0 m) ∧ got'.length = z ∧ forD (.nm 5) (b__law_drawn_1 n) ((List.range' k i).map fun j : Nat => Dat.int j) [some (.lst (ns.map .int)), some (.int m), some (.int z), some (.lst (left.map .int)), some (.lst (got.map .int)), z5] = .ok (.nx [some (.lst (ns.map .int)), some (.int m), some (.int z), some (.lst (left'.map .int)), some (.lst (got'.map .int)), y5])
  | 0, k, left, got, z5, hk, hz, hp, hg => ⟨left, got, z5, hp, by omega, rfl⟩
  | i + 1, k, left, got, z5, hk, hz, hp, hg => by
    have hl := hp.length_eq
    rw [List.length_append, iv_len, hg] at hl
    obtain ⟨c, ec⟩ := cell_ok n ns (3 + (k : Int)) (by omega) (by omega)
    have hl0 : (0 : Int) < left.length := by omega
    have j0 : 0 ≤ c * 48271 % 65537 % 6 / 2 % (left.length : Int) := Int.emod_nonneg _ (by omega)
    have j1 : c * 48271 % 65537 % 6 / 2 % (left.length : Int) < left.length := Int.emod_lt_of_pos _ hl0
    have pd := popD_i (ls := left) j0 j1 (by omega)
    generalize hj : c * 48271 % 65537 % 6 / 2 % (left.length : Int) = j at j0 j1 pd
    have hjn : j.toNat < left.length := by omega
    obtain ⟨left', got', y5, a1, a2, a3⟩ := drawn_loop n ns m z hm i (k + 1) (left.eraseIdx j.toNat) (got ++ [left[j.toNat]]) (some (.int k)) (by omega) hz (by
      refine List.Perm.trans ?_ hp
      have := (erase_perm hjn).append_right got
      refine List.Perm.trans ?_ this
      rw [List.cons_append, ← List.append_assoc]
      exact (List.perm_append_comm (l₁ := left.eraseIdx j.toNat ++ got) (l₂ := [left[j.toNat]])).trans (by simp)) (by simp [hg])
    refine ⟨left', got', y5, a1, a2, ?_⟩
    have hgl : got.length < 16777216 := by omega
    have st : b__law_drawn_1 n [some (.lst (ns.map .int)), some (.int m), some (.int z), some (.lst (left.map .int)), some (.lst (got.map .int)), some (.int k)] = .ok (.nx [some (.lst (ns.map .int)), some (.int m), some (.int z), some (.lst ((left.eraseIdx j.toNat).map .int)), some (.lst ((got ++ [left[j.toNat]]).map .int)), some (.int k)]) := by
      simp [b__law_drawn_1, ec, e_mod hl0, hj, pd, hgl]
    rw [List.range'_succ, List.map_cons, forD]
    have hb : bindP (.nm 5) (.int (k : Int)) [some (.lst (ns.map .int)), some (.int m), some (.int z), some (.lst (left.map .int)), some (.lst (got.map .int)), z5] = .ok [some (.lst (ns.map .int)), some (.int m), some (.int z), some (.lst (left.map .int)), some (.lst (got.map .int)), some (.int k)] := by simp
    rw [hb, bind_ok, st]
    exact a3
theorem drawn_ok (n : Nat) (ns : List Int) (m z : Nat) (hm : m ≤ 40) (hz : z ≤ m) : ∃ d : List Int, d.length = z ∧ Rising d ∧ (∀ x ∈ d, 0 ≤ x ∧ x < m) ∧ m__law_drawn n [.lst (ns.map .int), .int m, .int z] = .ok (tD d) := by
  obtain ⟨left', got, y5, a1, a2, a3⟩ := drawn_loop n ns m z hm z 0 (iv 0 m) [] none (by omega) hz (by simp) rfl
  have nd : (left' ++ got).Nodup := a1.nodup_iff.mpr (rising_nodup (iv_rising _ _))
  have hgn : got.Nodup := (List.nodup_append.mp nd).2.1
  have hp := isort_perm (lt := ltZ) got
  have hs := isort_sorted ordZ got
  have hnd : (isort ltZ got).Nodup := hp.nodup_iff.mpr hgn
  refine ⟨isort ltZ got, by rw [hp.length_eq, a2], ?_, fun x hx => ?_, ?_⟩
  · refine (hs.and hnd).imp fun {a b} h => ?_
    have h1 := h.1
    simp [ltZ] at h1
    have h2 := h.2
    omega
  · have : x ∈ left' ++ got := List.mem_append_right _ (hp.mem_iff.mp hx)
    have := (iv_mem _ _ _).mp (a1.mem_iff.mp this)
    omega
  · have so : sortedD [.lst (got.map .int)] = .ok (.lst ((isort ltZ got).map .int)) := by
      show sortDs _ = _
      unfold sortDs
      rw [if_pos (by simp; omega), intsD_map]
    have r1 : rng1 [.int (m : Int)] = .ok ((iv 0 m).map .int) := by
      have := e_rng1 (j := (m : Int)) (by unfold small62; simp; omega)
      rw [this, rangeL_iv]
      simp
    have r2 : rng1 [.int (z : Int)] = .ok ((List.range' 0 z).map fun j : Nat => Dat.int j) := by
      have := e_rng1 (j := (z : Int)) (by unfold small62; simp; omega)
      rw [this]
      unfold rangeL
      simp [List.range_eq_range']
    have hml : m ≤ 16777216 := by omega
    have hzl : (isort ltZ got).length ≤ 16777216 := by rw [hp.length_eq]; omega
    simp at a3
    simp [m__law_drawn, g__law_drawn, r1, r2, a3, so, tD, iv_len, hml]
noncomputable def due_at (m s z : Nat) : M Dat := f1 sortSetT (fComp (fIt (fL (m__law_orders 64) (fCons (fVar 1) (fCons (fVar 2) fNil)))) [none, some 3] (.nm 0) fYes (fL tupleD (fCons (fL sortedD (fCons (fSl sliceD (fVar 0) pNone (pSome (fVar 1))) fNil)) fNil))) [none, some (.int m), some (.int s), some (.int z), none, none, none, none]
noncomputable def tupsB : Dat → Option (List (List Int))
  | .lst ds => match tupsD ds with
    | .ok ts => some ts
    | .error _ => none
  | _ => none
noncomputable def leqZ : List Int → List Int → Bool
  | [], [] => true
  | a :: as, b :: bs => (a == b) && leqZ as bs
  | _, _ => false
noncomputable def leqL : List (List Int) → List (List Int) → Bool
  | [], [] => true
  | a :: as, b :: bs => leqZ a b && leqL as bs
  | _, _ => false
noncomputable def chkOf (r : M Dat) (bs : List (List Int)) : Bool := match r with
  | .ok d => match tupsB d with
    | some ts => leqL ts bs
    | none => false
  | .error _ => false
noncomputable def chk (m s z : Nat) : Bool := chkOf (due_at m s z) (begs m s z)
theorem chk_5 : ((List.range 6).all fun m => (List.range 4).all fun s => (List.range (m + 1)).all fun z => chk m s z) = true := by decide +kernel
theorem chk_60 : ((List.range 7).all fun z => chk 6 0 z && chk 6 1 z) = true := by decide +kernel
theorem chk_62 : ((List.range 7).all fun z => chk 6 2 z) = true := by decide +kernel
theorem chk_63 : ((List.range 7).all fun z => chk 6 3 z) = true := by decide +kernel
theorem leqZ_eq : ∀ {a b : List Int}, leqZ a b = true → a = b
  | [], [], _ => rfl
  | [], _ :: _, h => by simp [leqZ] at h
  | _ :: _, [], h => by simp [leqZ] at h
  | a :: as, b :: bs, h => by
    simp only [leqZ, Bool.and_eq_true, beq_iff_eq] at h
    rw [h.1, leqZ_eq h.2]
theorem leqL_eq : ∀ {a b : List (List Int)}, leqL a b = true → a = b
  | [], [], _ => rfl
  | [], _ :: _, h => by simp [leqL] at h
  | _ :: _, [], h => by simp [leqL] at h
  | a :: as, b :: bs, h => by
    simp only [leqL, Bool.and_eq_true] at h
    rw [leqZ_eq h.1, leqL_eq h.2]
theorem chkOf_ok {r : M Dat} {bs : List (List Int)} (h : chkOf r bs = true) : r = .ok (.lst (bs.map tD)) := by
  unfold chkOf at h
  cases r with
  | error x => cases h
  | ok d =>
    dsimp only at h
    cases d with
    | lst ds =>
      unfold tupsB at h
      dsimp only at h
      cases et : tupsD ds with
      | error x => rw [et] at h; cases h
      | ok ts =>
        rw [et] at h
        have e1 := leqL_eq h
        have e2 := tups_data et
        rw [e2, e1]
        rfl
    | _ => cases h
theorem chk_due {m s z : Nat} (h : chk m s z = true) : due_at m s z = .ok (.lst ((begs m s z).map tD)) := chkOf_ok h
theorem chk_any {m s z : Nat} (hm : m ≤ 6) (hs : s ≤ 3) (hz : z ≤ m) : chk m s z = true := by
  rcases Nat.lt_or_ge m 6 with h | h
  · have h1 := List.all_eq_true.mp chk_5 m (List.mem_range.mpr h)
    have h2 := List.all_eq_true.mp h1 s (List.mem_range.mpr (by omega))
    exact List.all_eq_true.mp h2 z (List.mem_range.mpr (by omega))
  · have : m = 6 := by omega
    subst this
    have hzr : z ∈ List.range 7 := List.mem_range.mpr (by omega)
    match s, hs with
    | 0, _ => have := List.all_eq_true.mp chk_60 z hzr; rw [Bool.and_eq_true] at this; exact this.1
    | 1, _ => have := List.all_eq_true.mp chk_60 z hzr; rw [Bool.and_eq_true] at this; exact this.2
    | 2, _ => exact List.all_eq_true.mp chk_62 z hzr
    | 3, _ => exact List.all_eq_true.mp chk_63 z hzr
theorem eqDs_tD : ∀ ts : List (List Int), eqDs (ts.map tD) (ts.map tD) = true
  | [] => by simp [eqDs]
  | t :: ts => by simp [eqDs, eqD, tD, eqDs_tD ts]
theorem eq_bs (bs : List (List Int)) : eqM (.lst (bs.map tD)) (.lst (bs.map tD)) = .ok (.bl true) := by
  have h1 : okE (.lst (bs.map tD)) 40 = true := okEs_tD 38 bs
  unfold eqM
  rw [h1]
  simp only [Bool.and_self, if_true]
  congr 2
  show eqD _ _ = true
  simp [eqD, eqDs_tD]
theorem ne_bs (bs : List (List Int)) : neM (.lst (bs.map tD)) (.lst (bs.map tD)) = .ok (.bl false) := by
  have h1 : okE (.lst (bs.map tD)) 40 = true := okEs_tD 38 bs
  unfold neM
  rw [h1]
  simp only [Bool.and_self, if_true]
  congr 2
  simp [eqD, eqDs_tD]
theorem nx_seq {a b : Env' → M Flo} {ρ ρ1 : Env'} (h : a ρ = .ok (.nx ρ1)) : sSeq a b ρ = b ρ1 := by simp [h]
theorem flat_tD : ∀ bs : List (List Int), flatDs (bs.map tD) = true
  | [] => by simp [flatDs]
  | b :: bs => by
    have h : ∀ l : List Int, flatDs (l.map Dat.int) = true := fun l => by
      induction l with
      | nil => simp [flatDs]
      | cons x l ih => simp [flatDs, flatD, ih]
    simp [flatDs, flatD, tD, flat_tD bs, h]
theorem law_true : ∀ ns : List Int, ns.length ≤ 63 → ∃ n, m_law n [.lst (ns.map .int)] = .ok (.bl true) := by
  intro ns hns
  refine ⟨64, ?_⟩
  obtain ⟨c0, ec0⟩ := cell_ok 64 ns 0 (by omega) (by omega)
  obtain ⟨c1, ec1⟩ := cell_ok 64 ns 1 (by omega) (by omega)
  obtain ⟨c2, ec2⟩ := cell_ok 64 ns 2 (by omega) (by omega)
  have s1 : sSetB [] 1 (f2 modD (fL (m__law_cell 64) (fCons (fVar 0) (fCons (fC (.int 0)) fNil))) (fC (.int 41))) [some (.lst (ns.map .int)), none, none, none, none, none, none, none] = .ok (.nx [some (.lst (ns.map .int)), some (.int (c0 % 41)), none, none, none, none, none, none]) := by simp [ec0]
  obtain ⟨m, hm, s2⟩ : ∃ m : Nat, m ≤ 40 ∧ c_law_1 64 [some (.lst (ns.map .int)), some (.int (c0 % 41)), none, none, none, none, none, none] = .ok (.nx [some (.lst (ns.map .int)), some (.int m), none, none, none, none, none, none]) := by
    by_cases h : c1 / 4 % 2 = 1
    · refine ⟨(c0 % 41 % 7).toNat, by omega, ?_⟩
      have e : (((c0 % 41 % 7).toNat : Nat) : Int) = c0 % 41 % 7 := by omega
      rw [e]
      simp [c_law_1, ec1, h]
    · refine ⟨(c0 % 41).toNat, by omega, ?_⟩
      have e : (((c0 % 41).toNat : Nat) : Int) = c0 % 41 := by omega
      rw [e]
      simp [c_law_1, ec1, h]
  obtain ⟨s, hs, es⟩ : ∃ s : Nat, s ≤ 3 ∧ (s : Int) = c1 % 4 := ⟨(c1 % 4).toNat, by omega, by omega⟩
  have hm1 : (0 : Int) < (m : Int) + 1 := by omega
  obtain ⟨z, hz, ez⟩ : ∃ z : Nat, z ≤ m ∧ (z : Int) = c2 % ((m : Int) + 1) := by
    have h0 := Int.emod_nonneg c2 (b := (m : Int) + 1) (by omega)
    have h1 := Int.emod_lt_of_pos c2 hm1
    exact ⟨(c2 % ((m : Int) + 1)).toNat, by omega, by omega⟩
  have s3 : sSetB [] 2 (f2 modD (fL (m__law_cell 64) (fCons (fVar 0) (fCons (fC (.int 1)) fNil))) (fC (.int 4))) [some (.lst (ns.map .int)), some (.int m), none, none, none, none, none, none] = .ok (.nx [some (.lst (ns.map .int)), some (.int m), some (.int s), none, none, none, none, none]) := by rw [es]; simp [ec1]
  have s4 : sSetB [] 3 (f2 modD (fL (m__law_cell 64) (fCons (fVar 0) (fCons (fC (.int 2)) fNil))) (f2 addD (fVar 1) (fC (.int 1)))) [some (.lst (ns.map .int)), some (.int m), some (.int s), none, none, none, none, none] = .ok (.nx [some (.lst (ns.map .int)), some (.int m), some (.int s), some (.int z), none, none, none, none]) := by rw [ez]; simp [ec2, e_mod hm1]
  have eb := begin_ok 64 m s z (by omega) hs hz
  have bl := begs_len m s z hs hz
  have hB : ∀ b ∈ begs m s z, b.length = z ∧ Rising b ∧ ∀ x ∈ b, 0 ≤ x ∧ x < m := fun b hb => by
    have := (begs_iff hz b).mp hb
    exact ⟨this.len, this.rise, fun x hx => ⟨(this.bnd x hx).1, (this.bnd x hx).2.1⟩⟩
  have s5 : sSetB [] 4 (fL (m_beginnings_of 64) (fCons (fVar 1) (fCons (fVar 2) (fCons (fVar 3) fNil)))) [some (.lst (ns.map .int)), some (.int m), some (.int s), some (.int z), none, none, none, none] = .ok (.nx [some (.lst (ns.map .int)), some (.int m), some (.int s), some (.int z), some (.lst ((begs m s z).map tD)), none, none, none]) := by simp [eb]
  have er := rising_ok 64 m z (begs m s z) bl (by omega) hB (begs_lex m s z)
  have s6 : c_law_2 64 [some (.lst (ns.map .int)), some (.int m), some (.int s), some (.int z), some (.lst ((begs m s z).map tD)), none, none, none] = .ok (.nx [some (.lst (ns.map .int)), some (.int m), some (.int s), some (.int z), some (.lst ((begs m s z).map tD)), none, none, none]) := by simp [c_law_2, er]
  have ec : ∀ bs : List (List Int), (∀ b ∈ bs, b ∈ begs m s z) → compD (.nm 0) (fNot (fTru (fL (m__law_is_beginning 64) (fCons (fL listD (fCons (fVar 0) fNil)) (fCons (fVar 1) (fCons (fVar 2) fNil)))))) (fVar 0) [none, some (.int m), some (.int s)] (bs.map tD) = .ok [] := fun bs => by
    induction bs with
    | nil => intro _; rfl
    | cons b bs ih =>
      intro h
      have hb := h b List.mem_cons_self
      obtain ⟨b1, b2, b3⟩ := hB b hb
      have ei := is_beg_ok 64 m s z hm hz b b1 b2 b3
      rw [decide_eq_true hb] at ei
      have hbl : b.length ≤ 16777216 := by omega
      have el : listD [tD b] = .ok (.lst (b.map .int)) := by simp [tD, hbl]
      rw [List.map_cons, compD]
      simp [el, ei, ih fun x hx => h x (List.mem_cons_of_mem _ hx)]
  have s7 : c_law_3 64 [some (.lst (ns.map .int)), some (.int m), some (.int s), some (.int z), some (.lst ((begs m s z).map tD)), none, none, none] = .ok (.nx [some (.lst (ns.map .int)), some (.int m), some (.int s), some (.int z), some (.lst ((begs m s z).map tD)), none, none, none]) := by
    have := ec (begs m s z) (fun _ h => h)
    have bl' : (begs m s z).length ≤ 16777216 := by omega
    have n0 : neM (.lst []) (.lst []) = .ok (.bl false) := ne_bs []
    simp [c_law_3, this, bl', n0]
  obtain ⟨z5, s8⟩ : ∃ z5, c_law_5 64 [some (.lst (ns.map .int)), some (.int m), some (.int s), some (.int z), some (.lst ((begs m s z).map tD)), none, none, none] = .ok (.nx [some (.lst (ns.map .int)), some (.int m), some (.int s), some (.int z), some (.lst ((begs m s z).map tD)), z5, none, none]) := by
    by_cases h6 : m ≤ 6
    · have h6' : (m : Int) ≤ 6 := by omega
      have ed := chk_due (chk_any h6 hs hz)
      have e5 : sSetB [4] 5 (f1 sortSetT (fComp (fIt (fL (m__law_orders 64) (fCons (fVar 1) (fCons (fVar 2) fNil)))) [none, some 3] (.nm 0) fYes (fL tupleD (fCons (fL sortedD (fCons (fSl sliceD (fVar 0) pNone (pSome (fVar 1))) fNil)) fNil)))) [some (.lst (ns.map .int)), some (.int m), some (.int s), some (.int z), some (.lst ((begs m s z).map tD)), none, none, none] = .ok (.nx [some (.lst (ns.map .int)), some (.int m), some (.int s), some (.int z), some (.lst ((begs m s z).map tD)), some (.lst ((begs m s z).map tD)), none, none]) := by
        show (due_at m s z).bind _ = _
        rw [ed]
        rfl
      have e6 : c_law_4 64 [some (.lst (ns.map .int)), some (.int m), some (.int s), some (.int z), some (.lst ((begs m s z).map tD)), some (.lst ((begs m s z).map tD)), none, none] = .ok (.nx [some (.lst (ns.map .int)), some (.int m), some (.int s), some (.int z), some (.lst ((begs m s z).map tD)), some (.lst ((begs m s z).map tD)), none, none]) := by
        simp [c_law_4, ne_bs]
      refine ⟨some (.lst ((begs m s z).map tD)), ?_⟩
      unfold c_law_5
      rw [e_if]
      have ec : fB (f2 leD (fVar 1) (fC (.int 6))) [some (.lst (ns.map .int)), some (.int m), some (.int s), some (.int z), some (.lst ((begs m s z).map tD)), none, none, none] = .ok true := by simp [h6']
      rw [ec, bind_ok, if_pos rfl, nx_seq e5]
      exact e6
    · have h6' : ¬ (m : Int) ≤ 6 := by omega
      exact ⟨none, by simp [c_law_5, h6']⟩
  obtain ⟨d, d1, d2, d3, ed⟩ := drawn_ok 64 ns m z hm hz
  have s9 : sSetB [4] 6 (fL (m__law_drawn 64) (fCons (fVar 0) (fCons (fVar 1) (fCons (fVar 3) fNil)))) [some (.lst (ns.map .int)), some (.int m), some (.int s), some (.int z), some (.lst ((begs m s z).map tD)), z5, none, none] = .ok (.nx [some (.lst (ns.map .int)), some (.int m), some (.int s), some (.int z), some (.lst ((begs m s z).map tD)), z5, some (tD d), none]) := by simp [ed]
  have s10 : c_law_6 64 [some (.lst (ns.map .int)), some (.int m), some (.int s), some (.int z), some (.lst ((begs m s z).map tD)), z5, some (tD d), none] = .ok (.nx [some (.lst (ns.map .int)), some (.int m), some (.int s), some (.int z), some (.lst ((begs m s z).map tD)), z5, some (tD d), none]) := by
    have ei := is_beg_ok 64 m s z hm hz d d1 d2 d3
    have hin := inT d (begs m s z)
    have hdl : d.length ≤ 16777216 := by omega
    have el : listD [tD d] = .ok (.lst (d.map .int)) := by simp [tD, hdl]
    simp [c_law_6, ei, hin, el]
  have bl' : (begs m s z).length ≤ 16777216 := by omega
  have s11 : sSetA true 7 (fL listD (fCons (fVar 4) fNil)) [some (.lst (ns.map .int)), some (.int m), some (.int s), some (.int z), some (.lst ((begs m s z).map tD)), z5, some (tD d), none] = .ok (.nx [some (.lst (ns.map .int)), some (.int m), some (.int s), some (.int z), some (.lst ((begs m s z).map tD)), z5, some (tD d), some (.lst ((begs m s z).map tD))]) := by
    have ft : flatTop true (.lst ((begs m s z).map tD)) = true := by simp [flatTop, flat_tD]
    simp [bl', ft]
  have s12 : sAppB [4] 4 (fL mkTup (fCons (fC (.int 0)) fNil)) [some (.lst (ns.map .int)), some (.int m), some (.int s), some (.int z), some (.lst ((begs m s z).map tD)), z5, some (tD d), some (.lst ((begs m s z).map tD))] = .ok (.nx [some (.lst (ns.map .int)), some (.int m), some (.int s), some (.int z), some (.lst ((begs m s z).map tD ++ [.tup [.int 0]])), z5, some (tD d), some (.lst ((begs m s z).map tD))]) := by
    have : (begs m s z).length < 16777216 := by omega
    simp [this]
  have b0 := begin_ok 64 m s 0 (by omega) hs (by omega)
  have bm := begin_ok 64 m s m (by omega) hs (by omega)
  rw [begs_zero] at b0
  rw [begs_all] at bm
  have s13 : c_law_7 64 [some (.lst (ns.map .int)), some (.int m), some (.int s), some (.int z), some (.lst ((begs m s z).map tD ++ [.tup [.int 0]])), z5, some (tD d), some (.lst ((begs m s z).map tD))] = .ok (.nx [some (.lst (ns.map .int)), some (.int m), some (.int s), some (.int z), some (.lst ((begs m s z).map tD ++ [.tup [.int 0]])), z5, some (tD d), some (.lst ((begs m s z).map tD))]) := by
    have r1 : rng1 [.int (m : Int)] = .ok ((iv 0 m).map .int) := by
      have := e_rng1 (j := (m : Int)) (by unfold small62; simp; omega)
      rw [this, rangeL_iv]
      simp
    have n0 := ne_bs [[]]
    have nm := ne_bs [iv 0 m]
    have b0' : m_beginnings_of 64 [.int m, .int s, .int 0] = .ok (.lst ([[]].map tD)) := b0
    simp only [List.map_cons, List.map_nil] at n0 nm b0' bm
    have t0 : tD [] = .tup [] := rfl
    rw [t0] at n0 b0'
    simp only [tD] at nm bm
    have hil : (iv 0 m).length ≤ 16777216 := by rw [iv_len]; omega
    simp [c_law_7, b0', bm, n0, nm, r1, hil]
  have eE := eq_bs (begs m s z)
  have g : g_law 64 [some (.lst (ns.map .int)), none, none, none, none, none, none, none] = .ok (.rt (.bl true)) := by
    unfold g_law
    rw [nx_seq s1, nx_seq s2, nx_seq s3, nx_seq s4, nx_seq s5, nx_seq s6, nx_seq s7, nx_seq s8, nx_seq s9, nx_seq s10, nx_seq s11, nx_seq s12, nx_seq s13]
    simp [eb, eE]
  simp [m_law, g]
theorem fin_mk {P : Program} {w : World} {K : PySem.W.Frag} {mg : Str → Option Value} {st : Stmt} {ps : List Str} {f : Addr} {fd : FuncData} {k : Nat} (_ : Def K mg "law" st ps f fd) (hb : ∀ (s : Shared) (v : Value), BindsTo s fd ⟨[v], []⟩ [("_law_script", v)]) (h : ∀ base : Heap, FnOk P w K mg base CX0 k f fd ["_law_script"] (spLaw K)) : ∃ fd : FuncData, (∀ (s : Shared) (v : Value), BindsTo s fd ⟨[v], []⟩ [("_law_script", v)]) ∧ ∀ base : Heap, K.In base → base.Ns mainGlobals mg → FnOk P w K mg base CX0 k f fd ["_law_script"] (spLaw K) := ⟨fd, hb, fun base _ _ => h base⟩
theorem all_mk {l : PySem.W.OpenLaw} {w : World} {K : PySem.W.Frag} {h : Heap} {mg : Str → Option Value} {fa f_law : Addr} {od_law an_law : Option Addr} {sl_law : Array (Option Value)} {oc_law kV_law dc_law pm_law cd_law ct_law : Value} (KX : K.In h) (G : h.Ns mainGlobals mg) (hfa : mg "law" = some (.ref fa))
    (h_choices_of : ∃ f fd, Def K mg "choices_of" s_choices_of ["pool", "size"] f fd)
    (h_beginnings_of : ∃ f fd, Def K mg "beginnings_of" s_beginnings_of ["many", "shift", "size"] f fd)
    (h__law_cell : ∃ f fd, Def K mg "_law_cell" s__law_cell ["_law_script", "_law_k"] f fd)
    (h__law_drawn : ∃ f fd, Def K mg "_law_drawn" s__law_drawn ["_law_script", "_law_many", "_law_size"] f fd)
    (h__law_rising : ∃ f fd, Def K mg "_law_rising" s__law_rising ["_law_found", "_law_size", "_law_many"] f fd)
    (h__law_is_beginning : ∃ f fd, Def K mg "_law_is_beginning" s__law_is_beginning ["_law_some", "_law_many", "_law_shift"] f fd)
    (h__law_orders : ∃ f fd, Def K mg "_law_orders" s__law_orders ["_law_many", "_law_shift"] f fd)
    (a_law : PySem.W.nsIn K mainGlobals "law" = some (some (.ref f_law)))
    (l_law : K.lookup f_law = some ⟨oc_law, od_law, .func (PySem.W.fnOf "law" "law" (defArgs s_law) (defBody s_law) (defScope s_law) .none kV_law dc_law pm_law an_law cd_law ct_law), sl_law⟩)
    (d_law : PySem.W.codeIn K cd_law "law" = true)
    (k_law : PySem.W.keepIn K (.ref f_law) = true)
    (z_abs : PySem.W.nsIn K mainGlobals "abs" = some none)
    (z_bool : PySem.W.nsIn K mainGlobals "bool" = some none)
    (z_enumerate : PySem.W.nsIn K mainGlobals "enumerate" = some none)
    (z_int : PySem.W.nsIn K mainGlobals "int" = some none)
    (z_isinstance : PySem.W.nsIn K mainGlobals "isinstance" = some none)
    (z_len : PySem.W.nsIn K mainGlobals "len" = some none)
    (z_list : PySem.W.nsIn K mainGlobals "list" = some none)
    (z_max : PySem.W.nsIn K mainGlobals "max" = some none)
    (z_min : PySem.W.nsIn K mainGlobals "min" = some none)
    (z_range : PySem.W.nsIn K mainGlobals "range" = some none)
    (z_set : PySem.W.nsIn K mainGlobals "set" = some none)
    (z_sorted : PySem.W.nsIn K mainGlobals "sorted" = some none)
    (z_tuple : PySem.W.nsIn K mainGlobals "tuple" = some none)
    (q_int_int : PySem.W.kitOne K (.type "int") (.type "int") = some true)
    (q_bool_int : PySem.W.kitOne K (.type "bool") (.type "int") = some true)
    (q_list_int : PySem.W.kitOne K (.type "list") (.type "int") = some false)
    (q_tuple_int : PySem.W.kitOne K (.type "tuple") (.type "int") = some false)
    (q_str_int : PySem.W.kitOne K (.type "str") (.type "int") = some false)
    (q_NoneType_int : PySem.W.kitOne K (.type "NoneType") (.type "int") = some false)
    (q_int_bool : PySem.W.kitOne K (.type "int") (.type "bool") = some false)
    (q_bool_bool : PySem.W.kitOne K (.type "bool") (.type "bool") = some true)
    (q_list_bool : PySem.W.kitOne K (.type "list") (.type "bool") = some false)
    (q_tuple_bool : PySem.W.kitOne K (.type "tuple") (.type "bool") = some false)
    (q_str_bool : PySem.W.kitOne K (.type "str") (.type "bool") = some false)
    (q_NoneType_bool : PySem.W.kitOne K (.type "NoneType") (.type "bool") = some false)
    (q_int_list : PySem.W.kitOne K (.type "int") (.type "list") = some false)
    (q_bool_list : PySem.W.kitOne K (.type "bool") (.type "list") = some false)
    (q_list_list : PySem.W.kitOne K (.type "list") (.type "list") = some true)
    (q_tuple_list : PySem.W.kitOne K (.type "tuple") (.type "list") = some false)
    (q_str_list : PySem.W.kitOne K (.type "str") (.type "list") = some false)
    (q_NoneType_list : PySem.W.kitOne K (.type "NoneType") (.type "list") = some false)
    (q_int_tuple : PySem.W.kitOne K (.type "int") (.type "tuple") = some false)
    (q_bool_tuple : PySem.W.kitOne K (.type "bool") (.type "tuple") = some false)
    (q_list_tuple : PySem.W.kitOne K (.type "list") (.type "tuple") = some false)
    (q_tuple_tuple : PySem.W.kitOne K (.type "tuple") (.type "tuple") = some true)
    (q_str_tuple : PySem.W.kitOne K (.type "str") (.type "tuple") = some false)
    (q_NoneType_tuple : PySem.W.kitOne K (.type "NoneType") (.type "tuple") = some false)
    (q_int_str : PySem.W.kitOne K (.type "int") (.type "str") = some false)
    (q_bool_str : PySem.W.kitOne K (.type "bool") (.type "str") = some false)
    (q_list_str : PySem.W.kitOne K (.type "list") (.type "str") = some false)
    (q_tuple_str : PySem.W.kitOne K (.type "tuple") (.type "str") = some false)
    (q_str_str : PySem.W.kitOne K (.type "str") (.type "str") = some true)
    (q_NoneType_str : PySem.W.kitOne K (.type "NoneType") (.type "str") = some false) :
    ∃ fd : FuncData, (∀ (s : Shared) (v : Value), BindsTo s fd ⟨[v], []⟩ [("_law_script", v)]) ∧ ∀ base : Heap, K.In base → base.Ns mainGlobals mg → FnOk l.prog w K mg base CX0 8 fa fd ["_law_script"] (spLaw K) := by
  have e := hfa.symm.trans (PySem.W.mg_of KX G a_law)
  cases e
  obtain ⟨f_choices_of, fd_choices_of, D_choices_of⟩ := h_choices_of
  obtain ⟨f_beginnings_of, fd_beginnings_of, D_beginnings_of⟩ := h_beginnings_of
  obtain ⟨f__law_cell, fd__law_cell, D__law_cell⟩ := h__law_cell
  obtain ⟨f__law_drawn, fd__law_drawn, D__law_drawn⟩ := h__law_drawn
  obtain ⟨f__law_rising, fd__law_rising, D__law_rising⟩ := h__law_rising
  obtain ⟨f__law_is_beginning, fd__law_is_beginning, D__law_is_beginning⟩ := h__law_is_beginning
  obtain ⟨f__law_orders, fd__law_orders, D__law_orders⟩ := h__law_orders
  have D_law := def_of (mg := mg) (st := s_law) (ps := ["_law_script"]) KX G a_law l_law d_law k_law fun _ _ _ _ _ _ us hl => match us, hl with | [_], _ => rfl
  have Z : Zs K mg := ⟨PySem.W.mg_none_of KX G z_abs, PySem.W.mg_none_of KX G z_bool, PySem.W.mg_none_of KX G z_enumerate, PySem.W.mg_none_of KX G z_int, PySem.W.mg_none_of KX G z_isinstance, PySem.W.mg_none_of KX G z_len, PySem.W.mg_none_of KX G z_list, PySem.W.mg_none_of KX G z_max, PySem.W.mg_none_of KX G z_min, PySem.W.mg_none_of KX G z_range, PySem.W.mg_none_of KX G z_set, PySem.W.mg_none_of KX G z_sorted, PySem.W.mg_none_of KX G z_tuple, ⟨q_int_int, q_bool_int, q_list_int, q_tuple_int, q_str_int, q_NoneType_int, q_int_bool, q_bool_bool, q_list_bool, q_tuple_bool, q_str_bool, q_NoneType_bool, q_int_list, q_bool_list, q_list_list, q_tuple_list, q_str_list, q_NoneType_list, q_int_tuple, q_bool_tuple, q_list_tuple, q_tuple_tuple, q_str_tuple, q_NoneType_tuple, q_int_str, q_bool_str, q_list_str, q_tuple_str, q_str_str, q_NoneType_str⟩⟩
  refine fin_mk D_law (fun s v => .of_eq rfl) fun base => law_ok (ro := false) (mlaw := m_law) (fun n => ?_) (law_true)
  have OK_choices_of := ok_choices_of (n := n) (P := l.prog) (w := w) (base := base) Z  D_choices_of
  have OK_beginnings_of := ok_beginnings_of (n := n) (P := l.prog) (w := w) (base := base) Z ⟨D_choices_of, OK_choices_of⟩ D_beginnings_of
  have OK__law_cell := ok__law_cell (n := n) (P := l.prog) (w := w) (base := base) Z  D__law_cell
  have OK__law_drawn := ok__law_drawn (n := n) (P := l.prog) (w := w) (base := base) Z ⟨D__law_cell, OK__law_cell⟩ D__law_drawn
  have OK__law_rising := ok__law_rising (n := n) (P := l.prog) (w := w) (base := base) Z  D__law_rising
  have OK__law_is_beginning := ok__law_is_beginning (n := n) (P := l.prog) (w := w) (base := base) Z  D__law_is_beginning
  have OK__law_orders := ok__law_orders (n := n) (P := l.prog) (w := w) (base := base) Z  D__law_orders
  have OK_law := ok_law (n := n) (P := l.prog) (w := w) (base := base) Z ⟨D_beginnings_of, OK_beginnings_of⟩ ⟨D__law_drawn, OK__law_drawn⟩ ⟨D__law_cell, OK__law_cell⟩ ⟨D__law_rising, OK__law_rising⟩ ⟨D__law_is_beginning, OK__law_is_beginning⟩ ⟨D__law_orders, OK__law_orders⟩ D_law
  exact OK_law
theorem walk {l : PySem.W.OpenLaw} {q : Program} {loose : List Str} {XP : (Str → Option Value) → Heap → Prop} {YP : World → Heap → Prop} {d : DefRec} {K : Params → PySem.W.Frag} (hn : l.most = some 63) (hdf : d.params.defaults = [])
    (hY : ∀ (w : World) (h : Heap), YP w h → (K w.params).In h)
    (F : ∀ (w : World) (mg : Str → Option Value) (fa : Addr) (h : Heap), (K w.params).In h → h.Ns mainGlobals mg → mg d.name = some (.ref fa) →
      ∃ fd : FuncData, (∀ (s : Shared) (u : Value), BindsTo s fd ⟨[u], []⟩ [("_law_script", u)]) ∧ ∀ base : Heap, (K w.params).In base → base.Ns mainGlobals mg → FnOk l.prog w (K w.params) mg base CX0 8 fa fd ["_law_script"] (spLaw (K w.params))) :
    PySem.W.WalkO q loose XP YP l.row.toRowW d [] (fun f vs => PySem.call f vs) :=
  L2.walk_of (n := 63) (k := 8) (x := "_law_script") (CX := fun _ => CX0) (sp := fun w => spLaw (K w.params)) hn (by decide) hdf ⟨rfl, by decide, by decide⟩ hY F (fun _ _ a ns hl _ hS => ⟨a, ns, rfl, hS, hl, fun _ => rfl⟩) fun _ _ _ _ _ z => z
end Ru
open PySem PySem.W PyProof.Rows
noncomputable def _root_.PySem.W.Fast.tw17483689836076256751 : Nat := 0
noncomputable def _root_.PySem.W.Fast.tw5453885638478818584 : Nat := 0
noncomputable def _root_.PySem.W.Fast.tw11467723358424928080 : Nat := 0
noncomputable def _root_.PySem.W.Fast.tw3583941310666481041 : Nat := 0
noncomputable def _root_.PySem.W.Fast.tw17761103834339750256 : Nat := 0
noncomputable def _root_.PySem.W.Fast.tw8273267599296040156 : Nat := 0
noncomputable def _root_.PySem.W.Fast.tw6863969684536433803 : Nat := 0
noncomputable def _root_.PySem.W.Fast.tw2323859513737911477 : Nat := 0
noncomputable def _root_.PySem.W.Fast.tw16927258843696812822 : Nat := 0
noncomputable def _root_.PySem.W.Fast.tw11807478040140185535 : Nat := 0
noncomputable def _root_.PySem.W.Fast.tw775905044935064721 : Nat := 0
noncomputable def _root_.PySem.W.Fast.tw62437212756259498 : Nat := 0
noncomputable def _root_.PySem.W.Fast.tw7214937502511897400 : Nat := 0
noncomputable def _root_.PySem.W.Fast.tw9239272105623873734 : Nat := 0
noncomputable def _root_.PySem.W.Fast.tw11162131906972814857 : Nat := 0
noncomputable def _root_.PySem.W.Fast.tw3350711212885427889 : Nat := 0
noncomputable def _root_.PySem.W.Fast.tw3733413918199177793 : Nat := 0
noncomputable def _root_.PySem.W.Fast.tw11907703449608028084 : Nat := 0
noncomputable def _root_.PySem.W.Fast.tw8220007872396357535 : Nat := 0
noncomputable def _root_.PySem.W.Fast.tw17937735241538752797 : Nat := 0
noncomputable def _root_.PySem.W.Fast.tw6322215340478108213 : Nat := 0
set_option maxRecDepth 100000 in
set_option maxHeartbeats 0 in
theorem PySem.Challenge.cw_wakeorder_k41_beginnings_holds : PySem.Challenge.rw_wakeorder_k41_beginnings.Holds := by
  w_on; o_law; k_head; (case hw => w_witness2)
  k_fill
  refine Ru.walk (l := PySem.Challenge.rw_wakeorder_k41_beginnings) rfl rfl (fun w h Y => PySem.W.kIn_of Y) ?F
  case F =>
    intro w mg fa h KX G hmg
    refine' Ru.all_mk KX G hmg ?h_choices_of ?h_beginnings_of ?h__law_cell ?h__law_drawn ?h__law_rising ?h__law_is_beginning ?h__law_orders ?a_law ?l_law ?d_law ?k_law ?z_abs ?z_bool ?z_enumerate ?z_int ?z_isinstance ?z_len ?z_list ?z_max ?z_min ?z_range ?z_set ?z_sorted ?z_tuple ?q_int_int ?q_bool_int ?q_list_int ?q_tuple_int ?q_str_int ?q_NoneType_int ?q_int_bool ?q_bool_bool ?q_list_bool ?q_tuple_bool ?q_str_bool ?q_NoneType_bool ?q_int_list ?q_bool_list ?q_list_list ?q_tuple_list ?q_str_list ?q_NoneType_list ?q_int_tuple ?q_bool_tuple ?q_list_tuple ?q_tuple_tuple ?q_str_tuple ?q_NoneType_tuple ?q_int_str ?q_bool_str ?q_list_str ?q_tuple_str ?q_str_str ?q_NoneType_str
    (case h_choices_of => exact ⟨_, _, L2.def_of KX G (by k_is) (by k_is) (by k_is) (by k_is) fun _ _ _ _ _ _ us hl => match us, hl with | [_, _], _ => rfl⟩)
    (case h_beginnings_of => exact ⟨_, _, L2.def_of KX G (by k_is) (by k_is) (by k_is) (by k_is) fun _ _ _ _ _ _ us hl => match us, hl with | [_, _, _], _ => rfl⟩)
    (case h__law_cell => exact ⟨_, _, L2.def_of KX G (by k_is) (by k_is) (by k_is) (by k_is) fun _ _ _ _ _ _ us hl => match us, hl with | [_, _], _ => rfl⟩)
    (case h__law_drawn => exact ⟨_, _, L2.def_of KX G (by k_is) (by k_is) (by k_is) (by k_is) fun _ _ _ _ _ _ us hl => match us, hl with | [_, _, _], _ => rfl⟩)
    (case h__law_rising => exact ⟨_, _, L2.def_of KX G (by k_is) (by k_is) (by k_is) (by k_is) fun _ _ _ _ _ _ us hl => match us, hl with | [_, _, _], _ => rfl⟩)
    (case h__law_is_beginning => exact ⟨_, _, L2.def_of KX G (by k_is) (by k_is) (by k_is) (by k_is) fun _ _ _ _ _ _ us hl => match us, hl with | [_, _, _], _ => rfl⟩)
    (case h__law_orders => exact ⟨_, _, L2.def_of KX G (by k_is) (by k_is) (by k_is) (by k_is) fun _ _ _ _ _ _ us hl => match us, hl with | [_, _], _ => rfl⟩)
    (case a_law => k_is)
    (case l_law => k_is)
    (case d_law => k_is)
    (case k_law => k_is)
    (case z_abs => k_is)
    (case z_bool => k_is)
    (case z_enumerate => k_is)
    (case z_int => k_is)
    (case z_isinstance => k_is)
    (case z_len => k_is)
    (case z_list => k_is)
    (case z_max => k_is)
    (case z_min => k_is)
    (case z_range => k_is)
    (case z_set => k_is)
    (case z_sorted => k_is)
    (case z_tuple => k_is)
    (case q_int_int => first | k_is | kernel_rfl | rfl | decide +kernel)
    (case q_bool_int => first | k_is | kernel_rfl | rfl | decide +kernel)
    (case q_list_int => first | k_is | kernel_rfl | rfl | decide +kernel)
    (case q_tuple_int => first | k_is | kernel_rfl | rfl | decide +kernel)
    (case q_str_int => first | k_is | kernel_rfl | rfl | decide +kernel)
    (case q_NoneType_int => first | k_is | kernel_rfl | rfl | decide +kernel)
    (case q_int_bool => first | k_is | kernel_rfl | rfl | decide +kernel)
    (case q_bool_bool => first | k_is | kernel_rfl | rfl | decide +kernel)
    (case q_list_bool => first | k_is | kernel_rfl | rfl | decide +kernel)
    (case q_tuple_bool => first | k_is | kernel_rfl | rfl | decide +kernel)
    (case q_str_bool => first | k_is | kernel_rfl | rfl | decide +kernel)
    (case q_NoneType_bool => first | k_is | kernel_rfl | rfl | decide +kernel)
    (case q_int_list => first | k_is | kernel_rfl | rfl | decide +kernel)
    (case q_bool_list => first | k_is | kernel_rfl | rfl | decide +kernel)
    (case q_list_list => first | k_is | kernel_rfl | rfl | decide +kernel)
    (case q_tuple_list => first | k_is | kernel_rfl | rfl | decide +kernel)
    (case q_str_list => first | k_is | kernel_rfl | rfl | decide +kernel)
    (case q_NoneType_list => first | k_is | kernel_rfl | rfl | decide +kernel)
    (case q_int_tuple => first | k_is | kernel_rfl | rfl | decide +kernel)
    (case q_bool_tuple => first | k_is | kernel_rfl | rfl | decide +kernel)
    (case q_list_tuple => first | k_is | kernel_rfl | rfl | decide +kernel)
    (case q_tuple_tuple => first | k_is | kernel_rfl | rfl | decide +kernel)
    (case q_str_tuple => first | k_is | kernel_rfl | rfl | decide +kernel)
    (case q_NoneType_tuple => first | k_is | kernel_rfl | rfl | decide +kernel)
    (case q_int_str => first | k_is | kernel_rfl | rfl | decide +kernel)
    (case q_bool_str => first | k_is | kernel_rfl | rfl | decide +kernel)
    (case q_list_str => first | k_is | kernel_rfl | rfl | decide +kernel)
    (case q_tuple_str => first | k_is | kernel_rfl | rfl | decide +kernel)
    (case q_str_str => first | k_is | kernel_rfl | rfl | decide +kernel)
    (case q_NoneType_str => first | k_is | kernel_rfl | rfl | decide +kernel)
