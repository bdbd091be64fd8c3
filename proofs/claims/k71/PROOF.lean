import PyProof.Rows.All
import PyProof.FitsReplace
import PyProof.FactsAll.str_5
import PyProof.FString
import PyProof.StrLawsJoin
import PyProof.MeetsStr
import KE.KDictSum
import PyProof.Rows.RuleC_int
import PyProof.FactsAll.tuple_1
import KE.KEqDict
import PyProof.Rows.TupTab
import PyProof.AttrMissSeq
import KE.KDictOf
import KE.KPairComp
import PyProof.DictWalks
import PyProof.DictValues
import PyProof.DictItems
import PyProof.Rows.SetFrom
import KE.KRevIter
import PyProof.InstStoreFacts
import PyProof.ExcInit
import PyProof.IsiBase
import PyProof.ExcAttrAll.ValueError
import OpenK.KDescr
import KE.KIsAll
import PyProof.Rows.CatchOwn
import PyProof.RulesTry
import PyProof.RulesAs
import PyProof.RulesDel
import OpenK.KOwn
import PyProof.ExcBaseAll.ValueError
import PyProof.StationsW
import Wide.All
import OpenK.AllK
import Wide.FinOn
import Lean
import PyProof.EqAt
import PyProof.EqKinds
import PyProof.NeKinds
import PyProof.TupleCall
import PySem.Challenge.RW_wakeorder_k71_sheets_shown
set_option Elab.async false
set_option linter.all false
set_option maxRecDepth 100000
namespace L2
open PySem PySem.Spec PyProof.Rows
noncomputable abbrev Key := Sum Int Str
noncomputable def keyIs : Key → Value → Bool
  | .inl k, v => Value.isInt k v
  | .inr x, v => Value.isStrOf x v
noncomputable def keyH (w : World) : Key → Int
  | .inl k => hashInt k
  | .inr x => hashStr w x
theorem keyIs_shape : ∀ {k : Key} {v : Value}, keyIs k v = true → (∃ i t, k = Sum.inl i ∧ v = Value.int i t) ∨ (∃ x t, k = Sum.inr x ∧ v = Value.str x t)
  | .inl i, v, h => by
    obtain ⟨t, e⟩ := Value.isInt_shape (k := i) (v := v) h
    exact .inl ⟨i, t, rfl, e⟩
  | .inr x, v, h => by
    obtain ⟨t, e⟩ := Value.isStrOf_shape (x := x) (v := v) h
    exact .inr ⟨x, t, rfl, e⟩
theorem key_ll (a b : Int) : decide ((Sum.inl a : Key) = Sum.inl b) = (a == b) := by
  by_cases e : a = b
  · subst e; simp
  · have h : ¬ (Sum.inl a : Key) = Sum.inl b := fun q => e (Sum.inl.inj q)
    rw [decide_eq_false h]
    exact (beq_eq_false_iff_ne.mpr e).symm
theorem key_rr (a b : Str) : decide ((Sum.inr a : Key) = Sum.inr b) = decide (a = b) := by
  by_cases e : a = b
  · subst e; simp
  · have h : ¬ (Sum.inr a : Key) = Sum.inr b := fun q => e (Sum.inr.inj q)
    rw [decide_eq_false h, decide_eq_false e]
theorem key_lr (a : Int) (b : Str) : decide ((Sum.inl a : Key) = Sum.inr b) = false := decide_eq_false (fun q => nomatch q)
theorem key_rl (a : Str) (b : Int) : decide ((Sum.inr a : Key) = Sum.inl b) = false := decide_eq_false (fun q => nomatch q)
noncomputable def mixKind (prog : Program) (w : World) : PySem.KeyKind prog w Key where
  is := keyIs
  hash := keyH w
  inj := fun v a b ha hb => by
    rcases keyIs_shape ha with ⟨i, t, rfl, rfl⟩ | ⟨x, t, rfl, rfl⟩
    · rcases keyIs_shape hb with ⟨j, u, rfl, e⟩ | ⟨y, u, rfl, e⟩
      · injection e with e1 _; rw [e1]
      · exact nomatch e
    · rcases keyIs_shape hb with ⟨j, u, rfl, e⟩ | ⟨y, u, rfl, e⟩
      · exact nomatch e
      · injection e with e1 _; rw [e1]
  byValue := fun k v h => by
    rcases keyIs_shape h with ⟨i, t, rfl, rfl⟩ | ⟨x, t, rfl, rfl⟩ <;> rfl
  pyHash := fun hv h => by
    rcases keyIs_shape hv with ⟨i, t, rfl, rfl⟩ | ⟨x, t, rfl, rfl⟩
    · exact wpAny_pyHash_int h
    · exact wpAny_pyHash_str h
  eqBool := fun hu hv h => by
    rcases keyIs_shape hu with ⟨i, t, rfl, rfl⟩ | ⟨x, t, rfl, rfl⟩
    · rcases keyIs_shape hv with ⟨j, u, rfl, rfl⟩ | ⟨y, u, rfl, rfl⟩
      · rw [key_ll] at h; exact wpAny_eqBool_int h
      · rw [key_lr] at h; exact SeqAt.EqAt.int_str i t y u _ _ _ _ h
    · rcases keyIs_shape hv with ⟨j, u, rfl, rfl⟩ | ⟨y, u, rfl, rfl⟩
      · rw [key_rl] at h; exact SeqAt.EqAt.str_int x t j u _ _ _ _ h
      · rw [key_rr] at h; exact wpAny_eqBool_str h
  «strs» := fun k x t v h => by
    rcases keyIs_shape h with ⟨i, u, rfl, e⟩ | ⟨y, u, rfl, e⟩
    · exact nomatch e
    · injection e with e1 _
      subst e1
      cases v <;> rfl
end L2
namespace L2
open PySem PySem.Spec PyProof.Rows
inductive V where
  | non | bl (b : Bool) | int (i : Int) | str (x : Str) | byt (b : Array UInt8) | flt (b : UInt64) | ref (a : Addr) | ty (n : String)
  deriving DecidableEq
noncomputable def RelV : V → Value → Prop
  | .non, u => u = Value.none
  | .bl b, u => u = Value.bool b
  | .int i, u => ∃ t, u = Value.int i t
  | .str x, u => ∃ t, u = Value.str x t
  | .byt b, u => ∃ t, u = Value.bytes b t
  | .flt b, u => ∃ t, u = Value.float b t
  | .ref a, u => u = Value.ref a
  | .ty n, u => u = Value.type n
noncomputable abbrev Vals : List V → List Value → Prop := Paired RelV
theorem Vals.length {xs : List V} {us : List Value} (r : Vals xs us) : xs.length = us.length := Paired.length r
theorem Vals.get : ∀ {xs : List V} {us : List Value} {i : Nat} {x : V}, Vals xs us → xs[i]? = some x → ∃ u, us[i]? = some u ∧ RelV x u
  | _, _, _, _, .nil, e => by simp at e
  | _, _, 0, _, .cons r _, e => by simp at e; subst e; exact ⟨_, rfl, r⟩
  | _, _, i + 1, x, .cons _ t, e => by
    obtain ⟨u, h1, h2⟩ := Vals.get (i := i) (x := x) t (by simpa using e)
    exact ⟨u, by simpa using h1, h2⟩
theorem Vals.append : ∀ {xs ys : List V} {us ws : List Value}, Vals xs us → Vals ys ws → Vals (xs ++ ys) (us ++ ws)
  | _, _, _, _, .nil, s => s
  | _, _, _, _, .cons r t, s => .cons r (Vals.append t s)
theorem Vals.take : ∀ {xs : List V} {us : List Value} (n : Nat), Vals xs us → Vals (xs.take n) (us.take n)
  | _, _, 0, _ => .nil
  | _, _, _ + 1, .nil => .nil
  | _, _, n + 1, .cons r t => .cons r (Vals.take n t)
theorem Vals.drop : ∀ {xs : List V} {us : List Value} (n : Nat), Vals xs us → Vals (xs.drop n) (us.drop n)
  | _, _, 0, r => r
  | _, _, _ + 1, .nil => .nil
  | _, _, n + 1, .cons _ t => Vals.drop n t
noncomputable def RelO : Option V → Option Value → Prop
  | some v, some u => RelV v u
  | none, none => True
  | _, _ => False
noncomputable def KV {κ : Type} : List (κ × V) → List (κ × Value) → Prop := Paired fun (p : κ × V) (q : κ × Value) => p.1 = q.1 ∧ RelV p.2 q.2
noncomputable def kV : Key → V
  | .inl i => .int i
  | .inr x => .str x
inductive HO where
    | lst (xs : List V)
    | tup (xs : List V)
    | dK (kvs : List (Key × V)) | dT (kvs : List (List Key × V))
    | set (S : Int → Bool) (n : Nat)
    | ins (C dx : Addr) (fs : List (Str × V))
    | own (x : Addr)
    | xd (fs : List (Str × V))
    | met (f x : Addr)
    | rng (lo hi : Int)
    | frz (o : Obj) (u : HO)
    | tbl (ps : Array Value)
    | ext (φ : Heap → Prop)
noncomputable abbrev Hp := Addr → Option HO
noncomputable def upd (H : Hp) (a : Addr) (o : HO) : Hp := fun b => if b = a then some o else H b
theorem upd_same {H : Hp} {a : Addr} {o : HO} : upd H a o a = some o := by unfold upd; rw [if_pos rfl]
theorem upd_ne {H : Hp} {a b : Addr} {o : HO} (h : b ≠ a) : upd H a o b = H b := by unfold upd; rw [if_neg h]
theorem ne_of_none {H : Hp} {a b : Addr} {o : HO} (h : H a = some o) (h' : H b = none) : a ≠ b := by
  intro e; subst e; rw [h] at h'; cases h'
section
variable (P : Program) (w : World)
noncomputable def ObjOk (H : Hp) (h : Heap) (a : Addr) : HO → Prop
  | .lst xs => xs.length ≤ sizeLine ∧ ∃ (its : List Value) (n : Nat), Vals xs its ∧ h.get? a = some { cls := .type "list", data := .seq its.toArray n }
  | .tup xs => xs.length ≤ sizeLine ∧ ∃ its : List Value, Vals xs its ∧ IsTup h a its.toArray
  | .dK kvs => kvs.length ≤ sizeLine ∧ (a == sysModules) = false ∧ ∃ vs, KV kvs vs ∧ h.DictOf (mixKind P w) a vs
  | .dT kvs => kvs.length ≤ sizeLine ∧ (a == sysModules) = false ∧ ∃ xs : List (List Key × Addr × Value),
      Paired (fun (p : List Key × V) (q : List Key × Addr × Value) => p.1 = q.1 ∧ H q.2.1 = some (.tup (p.1.map kV)) ∧ RelV p.2 q.2.2) kvs xs ∧
      ∃ o es ep, h.get? a = some o ∧ o.ExactDict ∧ o.data = .dict es ep ∧ es.toList = xs.map (entryOfKey (tupleKind (mixKind P w))) ∧ (xs.map (·.1)).Nodup
  | .set S n => h.SetOf (intKind P w) a S n
  | .ins C dx fs => H dx = some (.own a) ∧ fs.length ≤ 1000 ∧ dx ≠ a ∧ h.get? a = some (PySem.W.instObj C dx) ∧
      ∃ mA, h.Ns1 dx mA ∧ (∀ f, RelO (fs.lookup f) (mA f)) ∧ PySem.Within mA (fs.map (·.1))
  | .own _ => ∃ o, h.get? a = some o
  | .xd fs => ∃ mA, h.Ns1 a mA ∧ ∀ f, RelO (fs.lookup f) (mA f)
  | .rng lo hi => ∃ t u v, h.get? a = some { cls := .type "range", data := .fields #[.int lo t, .int hi u, .int 1 v] }
  | .frz o u => h.get? a = some o ∧ ObjOk H h a u
  | .tbl ps => h.get? a = some { cls := .none, data := .fields ps }
  | .met f x => h.get? a = some (PySem.W.methodObj (.ref f) (.ref x))
  | .ext φ => φ h ∧ (∃ o, h.get? a = some o) ∧ ∀ h1 h2 : Heap, φ h1 → (∀ o, h1.get? a = some o → h2.get? a = some o) → φ h2
noncomputable def HOk (H : Hp) (h : Heap) : Prop := ∀ a o, H a = some o → ObjOk P w H h a o
end
section
variable {P : Program} {w : World} {H H' : Hp} {h h' : Heap} {a : Addr} {o : HO}
theorem ObjOk.lt (x : ObjOk P w H h a o) : a < h.objs.size := by
  cases o with
  | lst xs => obtain ⟨_, _, _, _, e⟩ := x; exact Heap.lt_size e
  | tup xs => obtain ⟨_, _, _, p⟩ := x; exact p.lt
  | dK kvs => obtain ⟨_, _, _, _, o, _, _, e, _⟩ := x; exact Heap.lt_size e
  | dT kvs => obtain ⟨_, _, _, _, o, _, _, e, _⟩ := x; exact Heap.lt_size e
  | set S n => obtain ⟨o, _, _, _, e, _⟩ := x; exact Heap.lt_size e
  | ins C dx fs => obtain ⟨_, _, _, e, _⟩ := x; exact Heap.lt_size e
  | own y => obtain ⟨_, e⟩ := x; exact Heap.lt_size e
  | xd fs => obtain ⟨_, ⟨_, _, _, e, _⟩, _⟩ := x; exact Heap.lt_size e
  | rng lo hi => obtain ⟨_, _, _, e⟩ := x; exact Heap.lt_size e
  | frz ob u => obtain ⟨e, _⟩ := x; exact Heap.lt_size e
  | tbl ps => exact Heap.lt_size (show h.get? a = some _ from x)
  | met f y => exact Heap.lt_size (show h.get? a = some _ from x)
  | ext φ => obtain ⟨_, ⟨_, e⟩, _⟩ := x; exact Heap.lt_size e
theorem Paired.mapP {α β : Type} {F G : α → β → Prop} : ∀ {l₁ : List α} {l₂ : List β}, Paired F l₁ l₂ → (∀ a b, F a b → G a b) → Paired G l₁ l₂
  | _, _, .nil, _ => .nil
  | _, _, .cons r t, f => .cons (f _ _ r) (Paired.mapP t f)
theorem ObjOk.stay (x : ObjOk P w H h a o) (k : ∀ b u, (b = a ∨ H b = some (.own a)) → h.get? b = some u → h'.get? b = some u)
    (ho : ∀ b, H b = some (.own a) → H' b = some (.own a)) (ht : ∀ b xs, H b = some (.tup xs) → H' b = some (.tup xs)) : ObjOk P w H' h' a o := by
  induction o with
  | lst xs => obtain ⟨z, its, n, r, e⟩ := x; exact ⟨z, its, n, r, k _ _ (.inl rfl) e⟩
  | tup xs => obtain ⟨z, its, r, ob, e, c⟩ := x; exact ⟨z, its, r, ob, k _ _ (.inl rfl) e, c⟩
  | dK kvs => obtain ⟨z, y, vs, r, ob, es, ep, e, c⟩ := x; exact ⟨z, y, vs, r, ob, es, ep, k _ _ (.inl rfl) e, c⟩
  | dT kvs =>
    obtain ⟨z, y, xs, r, ob, es, ep, e, c⟩ := x
    exact ⟨z, y, xs, Paired.mapP r fun p q z => ⟨z.1, ht _ _ z.2.1, z.2.2⟩, ob, es, ep, k _ _ (.inl rfl) e, c⟩
  | set S n => obtain ⟨ob, es, ep, t, e, c⟩ := x; exact ⟨ob, es, ep, t, k _ _ (.inl rfl) e, c⟩
  | ins C dx fs =>
    obtain ⟨d, z, ne, e, mA, ⟨od, es, ep, e2, c⟩, r⟩ := x
    exact ⟨ho _ d, z, ne, k _ _ (.inl rfl) e, mA, ⟨od, es, ep, k _ _ (.inr d) e2, c⟩, r⟩
  | own y => obtain ⟨ob, e⟩ := x; exact ⟨ob, k _ _ (.inl rfl) e⟩
  | xd fs => obtain ⟨mA, ⟨od, es, ep, e, c⟩, r⟩ := x; exact ⟨mA, ⟨od, es, ep, k _ _ (.inl rfl) e, c⟩, r⟩
  | rng lo hi => obtain ⟨t, u, v, e⟩ := x; exact ⟨t, u, v, k _ _ (.inl rfl) e⟩
  | frz ob u ih => obtain ⟨e, q⟩ := x; exact ⟨k _ _ (.inl rfl) e, ih q⟩
  | tbl ps =>
    have e : h.get? a = some { cls := .none, data := .fields ps } := x
    show h'.get? a = some { cls := .none, data := .fields ps }
    exact k a _ (.inl rfl) e
  | met f y =>
    have e : h.get? a = some (PySem.W.methodObj (.ref f) (.ref y)) := x
    show h'.get? a = some (PySem.W.methodObj (.ref f) (.ref y))
    exact k a _ (.inl rfl) e
  | ext φ => obtain ⟨p, ⟨o, e⟩, st⟩ := x; exact ⟨st _ _ p fun o q => k _ _ (.inl rfl) q, ⟨o, k _ _ (.inl rfl) e⟩, st⟩
theorem HOk.lt (x : HOk P w H h) (e : H a = some o) : a < h.objs.size := (x a o e).lt
theorem HOk.fresh (x : HOk P w H h) (e : h.objs.size ≤ a) : H a = none := by
  cases q : H a with
  | none => rfl
  | some u => exact absurd (Nat.lt_of_lt_of_le (x.lt q) e) (Nat.lt_irrefl _)
theorem HOk.kept (x : HOk P w H h) (k : ∀ b u, h.get? b = some u → h'.get? b = some u) : HOk P w H h' := fun a o e =>
  (x a o e).stay (fun b u _ q => k b u q) (fun _ q => q) fun _ _ q => q
theorem HOk.laid (x : HOk P w H h) (k : ∀ b u, h.get? b = some u → h'.get? b = some u) (hp : h.objs.size ≤ a) (new : ObjOk P w (upd H a o) h' a o) : HOk P w (upd H a o) h' := fun b u e => by
  have hn := x.fresh hp
  by_cases hb : b = a
  · subst hb; rw [upd_same] at e; cases e; exact new
  · rw [upd_ne hb] at e
    exact (x b u e).stay (fun c v _ q => k c v q) (fun c q => by rw [upd_ne (ne_of_none q hn)]; exact q) fun c xs q => by rw [upd_ne (ne_of_none q hn)]; exact q
end
noncomputable def Rd (H : Hp) (a : Addr) (u : HO) : Prop := H a = some u ∨ ∃ o, H a = some (.frz o u)
theorem Rd.ok {P : Program} {w : World} {H : Hp} {h : Heap} {a : Addr} {u : HO} (r : Rd H a u) (x : HOk P w H h) : ObjOk P w H h a u := by
  rcases r with r | ⟨o, r⟩
  · exact x a u r
  · obtain ⟨_, q⟩ := x a _ r
    exact q
noncomputable def Mut : Option HO → Prop
  | some (.lst _) => True
  | some (.dK _) => True
  | some (.dT _) => True
  | some (.set _ _) => True
  | some (.ins _ _ _) => True
  | some (.ext _) => True
  | _ => False
section
variable {P : Program} {w : World} {H : Hp} {h h' : Heap} {x e : Addr} {o' : HO}
theorem HOk.write (ok : HOk P w H h) (mu : Mut (H x)) (he : e = x ∨ H e = some (.own x)) (k : ∀ b u, b ≠ e → h.get? b = some u → h'.get? b = some u) (heo : ∃ u, h'.get? e = some u)
    (new : ObjOk P w (upd H x o') h' x o') : HOk P w (upd H x o') h' := fun b u q => by
  have nown : ∀ c y, H c = some (.own y) → c ≠ x := fun c y r z => by subst z; rw [r] at mu; exact mu
  have ntup : ∀ c xs, H c = some (.tup xs) → c ≠ x := fun c xs r z => by subst z; rw [r] at mu; exact mu
  by_cases hb : b = x
  · subst hb; rw [upd_same] at q; cases q; exact new
  · rw [upd_ne hb] at q
    by_cases hbe : b = e
    · have q' : H b = some (.own x) := by
        rcases he with z | z
        · exact absurd (hbe.trans z) hb
        · rw [hbe]; exact z
      rw [q] at q'; cases q'
      obtain ⟨v, hv⟩ := heo
      exact ⟨v, by rw [hbe]; exact hv⟩
    · refine (ok b u q).stay (fun c v hc r => k c v ?_ r) (fun c r => by rw [upd_ne (nown c b r)]; exact r) fun c xs r => by rw [upd_ne (ntup c xs r)]; exact r
      rcases hc with rfl | hc
      · exact hbe
      · rintro rfl
        rcases he with z | z
        · exact nown c b hc z
        · rw [hc] at z; cases z; exact hb rfl
end
structure Un (fs ex : List Addr) (H H' : Hp) (h h' : Heap) : Prop where
  keep : ∀ b o, h.get? b = some o → H b = none → b ∉ fs → b ∉ ex → h'.get? b = some o
  slot : ∀ b o, h.get? b = some o → H b = none → b ∈ fs → b ∉ ex → ∃ sl, h'.get? b = some { o with slots := sl }
  free : ∀ b o, h.get? b = some o → H b = none → b ∉ ex → H' b = none
  there : ∀ b o, h.get? b = some o → b ∉ ex → ∃ o', h'.get? b = some o'
  tups : ∀ b xs, H b = some (.tup xs) → H' b = some (.tup xs)
  frzs : ∀ b o u, H b = some (.frz o u) → H' b = some (.frz o u)
  tbls : ∀ b ps, H b = some (.tbl ps) → ∃ more, H' b = some (.tbl (ps ++ more))
section
variable {fs fs' ex ex' : List Addr} {H H1 H2 : Hp} {h h1 h2 h' : Heap} {a x e : Addr} {o : HO}
theorem Un.any (u : Un fs ex H H1 h h1) {b : Addr} {ob : Obj} (q : h.get? b = some ob) (n : H b = none) (hx : b ∉ ex) : ∃ sl, h1.get? b = some { ob with slots := sl } := by
  by_cases hb : b ∈ fs
  · exact u.slot b ob q n hb hx
  · exact ⟨ob.slots, u.keep b ob q n hb hx⟩
theorem Un.trans (a : Un fs ex H H1 h h1) (b : Un fs ex H1 H2 h1 h2) : Un fs ex H H2 h h2 where
  keep := fun c ob q n hc hx => b.keep c ob (a.keep c ob q n hc hx) (a.free c ob q n hx) hc hx
  slot := fun c ob q n hc hx => by
    obtain ⟨sl, e1⟩ := a.slot c ob q n hc hx
    obtain ⟨sl', e2⟩ := b.slot c _ e1 (a.free c ob q n hx) hc hx
    exact ⟨sl', e2⟩
  free := fun c ob q n hx => by
    obtain ⟨o', e1⟩ := a.there c ob q hx
    exact b.free c o' e1 (a.free c ob q n hx) hx
  there := fun c ob q hx => by
    obtain ⟨o', e1⟩ := a.there c ob q hx
    exact b.there c o' e1 hx
  tups := fun c xs q => b.tups c xs (a.tups c xs q)
  frzs := fun c ob xs q => b.frzs c ob xs (a.frzs c ob xs q)
  tbls := fun c ps q => by
    obtain ⟨m1, e1⟩ := a.tbls c ps q
    obtain ⟨m2, e2⟩ := b.tbls c _ e1
    exact ⟨m1 ++ m2, by rw [e2, Array.append_assoc]⟩
theorem Un.kept (k : ∀ b u, h.get? b = some u → h'.get? b = some u) : Un fs ex H H h h' :=
  ⟨fun b ob q _ _ _ => k b ob q, fun b ob q _ _ _ => ⟨ob.slots, k b ob q⟩, fun _ _ _ n _ => n, fun b ob q _ => ⟨ob, k b ob q⟩, fun _ _ q => q, fun _ _ _ q => q, fun _ ps q => ⟨#[], by rw [q]; simp⟩⟩
theorem Un.refl : Un fs ex H H h h := Un.kept fun _ _ q => q
theorem Un.laid (k : ∀ b u, h.get? b = some u → h'.get? b = some u) (hp : h.objs.size ≤ a) (hn : H a = none) : Un fs ex H (upd H a o) h h' where
  keep := fun b u q _ _ _ => k b u q
  slot := fun b u q _ _ _ => ⟨u.slots, k b u q⟩
  free := fun b u q n _ => by rw [upd_ne (Nat.ne_of_lt (Nat.lt_of_lt_of_le (Heap.lt_size q) hp))]; exact n
  there := fun b u q _ => ⟨u, k b u q⟩
  tups := fun b xs q => by rw [upd_ne (ne_of_none q hn)]; exact q
  frzs := fun b u xs q => by rw [upd_ne (ne_of_none q hn)]; exact q
  tbls := fun b ps q => ⟨#[], by rw [upd_ne (ne_of_none q hn), q]; simp⟩
theorem Un.write (mu : Mut (H x)) (he : e = x ∨ H e = some (.own x)) (k : ∀ b u, b ≠ e → h.get? b = some u → h'.get? b = some u) (heo : ∃ u, h'.get? e = some u) : Un fs ex H (upd H x o) h h' := by
  have hx : ∀ b, H b = none → b ≠ x := fun b n z => by subst z; rw [n] at mu; exact mu
  have hb : ∀ b, H b = none → b ≠ e := fun b n z => by
    subst z
    rcases he with r | r
    · exact hx b n r
    · rw [n] at r; cases r
  have hm : ∀ b u, H b = some u → ¬ Mut (some u) → b ≠ x := fun b u q nm z => by subst z; rw [q] at mu; exact nm mu
  refine ⟨fun b u q n _ _ => k b u (hb b n) q, fun b u q n _ _ => ⟨u.slots, k b u (hb b n) q⟩, fun b u q n _ => by rw [upd_ne (hx b n)]; exact n, fun b u q _ => ?_,
    fun b xs q => by rw [upd_ne (hm b _ q fun z => z)]; exact q, fun b u xs q => by rw [upd_ne (hm b _ q fun z => z)]; exact q, fun b ps q => ⟨#[], by rw [upd_ne (hm b _ q fun z => z), q]; simp⟩⟩
  by_cases hbe : b = e
  · subst hbe; exact heo
  · exact ⟨u, k b u hbe q⟩
end
noncomputable def trk (h : Heap) (H : Hp) : List Addr := (List.range h.objs.size).filter fun a => (H a).isSome
noncomputable def hidT (h : Heap) (H : Hp) : Heap := PySem.W.hideAll h (trk h H)
theorem hidT_size (h : Heap) (H : Hp) : (hidT h H).objs.size = h.objs.size := PySem.W.hideAll_size _ _
theorem hidT_get {h : Heap} {H : Hp} {b : Addr} {o : Obj} (e : h.get? b = some o) (n : H b = none) : (hidT h H).get? b = some o :=
  PySem.W.hideAll_get _ e fun hm => by
    have q : (H b).isSome = true := (List.mem_filter.mp hm).2
    rw [n] at q; simp at q
theorem of_hidT {h : Heap} {H : Hp} {b : Addr} {o : Obj} (e : (hidT h H).get? b = some o) : h.get? b = some o ∧ H b = none := by
  have e' : h.get? b = some o := PySem.W.of_hideAll (trk h H) e
  refine ⟨e', ?_⟩
  cases q : H b with
  | none => rfl
  | some x =>
    have hm : b ∈ trk h H := List.mem_filter.mpr ⟨List.mem_range.mpr (Heap.lt_size e'), by simp [q]⟩
    have z : (hidT h H).get? b = none := PySem.W.hideAll_none (trk h H) hm
    rw [z] at e; cases e
end L2
namespace L2
open PySem PySem.Spec PyProof.Rows
structure Mod (K : PySem.W.Frag) (mg : Str → Option Value) (base : Heap) : Prop where
  kin : K.In base
  glob : base.Ns mainGlobals mg
  blt : ∃ mb, base.Ns builtinsNs mb ∧ ∀ x : Str, x ≠ "__name__" → mb x = bootBuiltins x
  nolimit : base.NoLimit
structure Cx where
  prog : Program
  w : World
  K : PySem.W.Frag
  mg : Str → Option Value
  base : Heap
  A : Around
  N : List Str
  s₀ : Shared
  H₀ : Hp
  env : Env
  outer : List Env
  stack : List Env
  ex : List Addr
  fn : Str → Bool
  calm : Bool
  pn : List (Addr × Obj)
  xe : Value → Shared → Prop
noncomputable def frs (l : List Env) : List Addr := l.filterMap (·.frame)
noncomputable abbrev Cx.fs (X : Cx) : List Addr := frs X.outer
noncomputable def Vis (sc : Scope) (x : Str) : Prop := sc.names.lookup x = some .local ∨ sc.names.lookup x = some .cell ∨ sc.names.lookup x = some .free
noncomputable def Loc (sc : Scope) (x : Str) : Prop := sc.names.lookup x = some .local ∨ sc.names.lookup x = some .cell
noncomputable def Look (env : Env) (h : Heap) (m : Str → Option Value) (x : Str) (u : Value) : Prop :=
  (env.kindOf x = some .local ∧ m x = some u) ∨ ((env.kindOf x = some .cell ∨ env.kindOf x = some .free) ∧ ∃ c, env.cells.lookup x = some c ∧ h.IsCell c (some u))
structure Cx.Ok (X : Cx) : Prop where
  mod : Mod X.K X.mg X.base
  kind : X.env.scope.kind = .function
  glob : X.env.globals = mainGlobals
  blt : X.env.builtins = builtinsNs
  above : X.s₀.heap.objs.size ≤ X.env.locals
  inj : ∀ x y c, X.env.cells.lookup x = some c → X.env.cells.lookup y = some c → x = y
  has : ∀ x, (X.env.kindOf x = some .cell ∨ X.env.kindOf x = some .free) → ∃ c, X.env.cells.lookup x = some c
  cab : ∀ x c, X.fn x = true → X.env.cells.lookup x = some c → X.s₀.heap.objs.size ≤ c
  hd : X.calm = true → X.A.handled = none
  frames : X.A.frames = some X.stack
  stk : X.stack = X.outer ∨ (X.stack = X.env :: X.outer ∧ X.env.frame = some X.env.locals)
  exf : ∀ b ∈ X.ex, b ≠ X.env.locals ∧ ∀ x c, X.env.cells.lookup x = some c → c ≠ b
  bs : ∀ b o, X.base.get? b = some o → X.s₀.heap.get? b = some o ∧ X.H₀ b = none
  bsz : X.base.objs.size ≤ X.s₀.heap.objs.size
  noex : ∀ b o, X.base.get? b = some o → b ∉ X.ex
  exfs : ∀ b ∈ X.ex, b ∉ X.fs
  funs : X.s₀.heap.FunFrames X.base X.outer
  frf : ∀ b ∈ X.fs, X.H₀ b = none
structure Inv (X : Cx) (pins : List (Addr × Obj)) (σ : List (Option V)) (H : Hp) (s : Shared) : Prop where
  ok : X.Ok
  os : s.os = X.s₀.os
  bare : AllBare s.gens
  base : Un X.fs X.ex X.H₀ H X.s₀.heap s.heap
  loc : ∃ m, s.heap.Ns X.env.locals m ∧ ∀ (i : Nat) (x : Str) (v : V), X.N[i]? = some x → σ[i]? = some (some v) → Vis X.env.scope x → ∃ u, RelV v u ∧ Look X.env s.heap m x u
  cell : ∀ x c, X.env.cells.lookup x = some c → ∃ v, s.heap.IsCell c v
  free : H X.env.locals = none
  freeC : ∀ x c, X.env.cells.lookup x = some c → H c = none
  pin : ∀ p ∈ X.pn ++ pins, s.heap.get? p.1 = some p.2 ∧ H p.1 = none ∧ p.1 ≠ X.env.locals ∧ p.1 ∉ X.fs ∧ ∀ v, p.2.data ≠ .cell v
  hok : HOk X.prog X.w H s.heap
  len : σ.length = X.N.length
section
variable {X : Cx} {pins : List (Addr × Obj)} {σ : List (Option V)} {H H' : Hp} {s : Shared} {h' : Heap}
theorem Cx.Ok.nofr (ok : X.Ok) {b : Addr} {o : Obj} (e : X.base.get? b = some o) : b ∉ X.fs := fun hb => by
  have := (ok.funs.mem hb).1
  rw [e] at this; cases this
theorem Inv.bs (I : Inv X pins σ H s) : ∀ b o, X.base.get? b = some o → s.heap.get? b = some o ∧ H b = none := fun b o e =>
  ⟨I.base.keep b o (I.ok.bs b o e).1 (I.ok.bs b o e).2 (I.ok.nofr e) (I.ok.noex b o e), I.base.free b o (I.ok.bs b o e).1 (I.ok.bs b o e).2 (I.ok.noex b o e)⟩
theorem Inv.bk (I : Inv X pins σ H s) : ∀ b o, X.base.get? b = some o → s.heap.get? b = some o := fun b o e => (I.bs b o e).1
theorem Inv.mod (I : Inv X pins σ H s) : Mod X.K X.mg X.base := I.ok.mod
theorem Inv.kIn (I : Inv X pins σ H s) : X.K.In s.heap := I.ok.mod.kin.keeps I.bk
theorem Inv.lt (I : Inv X pins σ H s) : X.env.locals < s.heap.objs.size := let ⟨_, hn, _⟩ := I.loc; hn.lt
theorem Inv.sz (I : Inv X pins σ H s) : X.s₀.heap.objs.size ≤ s.heap.objs.size := Nat.le_trans I.ok.above (Nat.le_of_lt I.lt)
theorem Inv.nofs (I : Inv X pins σ H s) {a : Addr} (h : s.heap.objs.size ≤ a) : a ∉ X.fs := fun hb => by
  obtain ⟨_, o, ho, _⟩ := I.ok.funs.mem hb
  exact absurd (Nat.lt_of_lt_of_le (Heap.lt_size ho) (Nat.le_trans I.sz h)) (Nat.lt_irrefl _)
theorem Inv.cne (I : Inv X pins σ H s) : ∀ x c, X.env.cells.lookup x = some c → c ≠ X.env.locals := fun x c e z => by
  obtain ⟨v, o, ho, hd⟩ := I.cell x c e
  obtain ⟨m, ⟨o', es, ep, ho', hd', _⟩, _⟩ := I.loc
  rw [z, ho'] at ho; cases ho; rw [hd'] at hd; cases hd
theorem Inv.funs (I : Inv X pins σ H s) : s.heap.FunFrames X.base X.outer := by
  have all : ∀ (l : List Env), (∀ b ∈ frs l, b ∈ X.fs) → X.s₀.heap.FunFrames X.base l → s.heap.FunFrames X.base l := by
    intro l
    induction l with
    | nil => intro _ _; trivial
    | cons env r ih =>
      intro hs hl
      obtain ⟨hk, ⟨L, o, hf, hn, ho, hd⟩, hr⟩ := hl
      have hL : L ∈ X.fs := hs L (by unfold frs; rw [List.filterMap_cons, hf]; exact List.mem_cons_self)
      obtain ⟨sl, e⟩ := I.base.slot L o ho (I.ok.frf L hL) hL fun z => I.ok.exfs L z hL
      exact ⟨hk, ⟨L, _, hf, hn, e, hd⟩, ih (fun b hb => hs b (by unfold frs; rw [List.filterMap_cons, hf]; exact List.mem_cons_of_mem _ hb)) hr⟩
  exact all X.outer (fun _ hb => hb) I.ok.funs
theorem Inv.stack (I : Inv X pins σ H s) : s.heap.FunFrames X.base X.stack := by
  rcases I.ok.stk with e | ⟨e, hf⟩
  · rw [e]; exact I.funs
  · rw [e]
    obtain ⟨m, hn, _⟩ := I.loc
    refine .cons (by rw [I.ok.kind]; decide) hf hn ?_ I.funs
    exact Heap.get?_none_of_le (Nat.le_trans I.ok.bsz I.ok.above)
theorem Inv.stkSub (I : Inv X pins σ H s) : ∀ b ∈ frs X.stack, b ∈ X.env.locals :: X.fs := fun b hb => by
  rcases I.ok.stk with e | ⟨e, hf⟩
  · rw [e] at hb; exact List.mem_cons_of_mem _ hb
  · rw [e] at hb
    unfold frs at hb
    rw [List.filterMap_cons, hf] at hb
    exact hb
theorem Inv.stkFree (I : Inv X pins σ H s) : ∀ b ∈ frs X.stack, H b = none := fun b hb => by
  rcases List.mem_cons.mp (I.stkSub b hb) with e | hb
  · rw [e]; exact I.free
  · obtain ⟨_, o, ho, _⟩ := I.ok.funs.mem hb
    exact I.base.free b o ho (I.ok.frf b hb) fun z => I.ok.exfs b z hb
theorem Inv.step {g' : Array GenState} {t' : Nat} {d' : Drawn} {ch : List Addr} (I : Inv X pins σ H s)
    (hch : ∀ b ∈ ch, (b ∈ X.ex ∨ X.s₀.heap.objs.size ≤ b) ∧ b ≠ X.env.locals ∧ (∀ x c, X.env.cells.lookup x = some c → c ≠ b) ∧ ∀ p ∈ X.pn ++ pins, p.1 ≠ b)
    (keep : ∀ b o, b ≠ X.env.locals → b ∉ X.fs → b ∉ ch → s.heap.get? b = some o → H b = none → h'.get? b = some o)
    (slot : ∀ b o, b ≠ X.env.locals → b ∈ X.fs → b ∉ ch → s.heap.get? b = some o → H b = none → ∃ sl, h'.get? b = some { o with slots := sl }) (free : ∀ b o, b ∉ ch → s.heap.get? b = some o → H b = none → H' b = none)
    (there : ∀ b o, b ∉ ch → s.heap.get? b = some o → ∃ o', h'.get? b = some o')
    (tups : ∀ b xs, H b = some (.tup xs) → H' b = some (.tup xs)) (frzs : ∀ b o u, H b = some (.frz o u) → H' b = some (.frz o u)) (tbls : ∀ b ps, H b = some (.tbl ps) → ∃ more, H' b = some (.tbl (ps ++ more)))
    (ns : ∀ m, s.heap.Ns X.env.locals m → h'.Ns X.env.locals m) (hok : HOk X.prog X.w H' h') (hg : AllBare g') :
    Inv X pins σ H' { s with heap := h', gens := g', drawn := d', toks := t' } := by
  have neL : ∀ b o, X.s₀.heap.get? b = some o → b ≠ X.env.locals := fun b o e => Nat.ne_of_lt (Nat.lt_of_lt_of_le (Heap.lt_size e) I.ok.above)
  have neC : ∀ b o, X.s₀.heap.get? b = some o → b ∉ X.ex → b ∉ ch := fun b o e hx hb => by
    rcases (hch b hb).1 with z | z
    · exact hx z
    · exact absurd (Nat.lt_of_lt_of_le (Heap.lt_size e) z) (Nat.lt_irrefl _)
  have cellK : ∀ x c, X.env.cells.lookup x = some c → ∀ v, s.heap.IsCell c v → h'.IsCell c v := fun x c e v ⟨o, ho, hd⟩ => by
    have nch : c ∉ ch := fun z => (hch c z).2.2.1 x c e rfl
    by_cases hc : c ∈ X.fs
    · obtain ⟨sl, q⟩ := slot c o (I.cne x c e) hc nch ho (I.freeC x c e)
      exact ⟨_, q, hd⟩
    · exact ⟨o, keep c o (I.cne x c e) hc nch ho (I.freeC x c e), hd⟩
  refine ⟨I.ok, I.os, hg, ⟨fun b o e n hb hx => ?_, fun b o e n hb hx => ?_, fun b o e n hx => ?_, fun b o e hx => ?_, fun b xs e => tups b xs (I.base.tups b xs e), fun b o xs e => frzs b o xs (I.base.frzs b o xs e), fun b ps e => ?_⟩, ?_, fun x c e => ?_, ?_, fun x c e => ?_, fun p hp => ?_, hok, I.len⟩
  · exact keep b o (neL b o e) hb (neC b o e hx) (I.base.keep b o e n hb hx) (I.base.free b o e n hx)
  · obtain ⟨sl, e1⟩ := I.base.slot b o e n hb hx
    obtain ⟨sl', e2⟩ := slot b _ (neL b o e) hb (neC b o e hx) e1 (I.base.free b o e n hx)
    exact ⟨sl', e2⟩
  · obtain ⟨o', e1⟩ := I.base.there b o e hx
    exact free b o' (neC b o e hx) e1 (I.base.free b o e n hx)
  · obtain ⟨o', e1⟩ := I.base.there b o e hx
    exact there b o' (neC b o e hx) e1
  · obtain ⟨m1, e1⟩ := I.base.tbls b ps e
    obtain ⟨m2, e2⟩ := tbls b _ e1
    exact ⟨m1 ++ m2, by rw [e2, Array.append_assoc]⟩
  · obtain ⟨m, hn, hl⟩ := I.loc
    refine ⟨m, ns m hn, fun i x v e1 e2 e3 => ?_⟩
    obtain ⟨u, r, l⟩ := hl i x v e1 e2 e3
    refine ⟨u, r, ?_⟩
    rcases l with l | ⟨k, c, e, z⟩
    · exact .inl l
    · exact .inr ⟨k, c, e, cellK x c e _ z⟩
  · obtain ⟨v, z⟩ := I.cell x c e
    exact ⟨v, cellK x c e v z⟩
  · obtain ⟨m, ⟨o, _, _, ho, _⟩, _⟩ := I.loc
    exact free _ o (fun z => (hch _ z).2.1 rfl) ho I.free
  · obtain ⟨v, o, ho, hd⟩ := I.cell x c e
    exact free c o (fun z => (hch c z).2.2.1 x c e rfl) ho (I.freeC x c e)
  · obtain ⟨e, n, ne, nf, d⟩ := I.pin p hp
    have nch : p.1 ∉ ch := fun z => (hch p.1 z).2.2.2 p hp rfl
    exact ⟨keep p.1 p.2 ne nf nch e n, free p.1 p.2 nch e n, ne, nf, d⟩
theorem Inv.un {t' : Nat} (I : Inv X pins σ H s) (u : Un X.fs [] H H' s.heap h') (hok : HOk X.prog X.w H' h') : Inv X pins σ H' { s with heap := h', toks := t' } := by
  obtain ⟨m, ⟨o, es, ep, ho, r⟩, _⟩ := id I.loc
  obtain ⟨sl, hL⟩ := u.any ho I.free (by simp)
  exact I.step (g' := s.gens) (d' := s.drawn) (ch := []) (fun _ z => nomatch z) (fun b o _ hb _ e n => u.keep b o e n hb (by simp)) (fun b o _ hb _ e n => u.slot b o e n hb (by simp)) (fun b o _ e n => u.free b o e n (by simp)) (fun b o _ e => u.there b o e (by simp)) u.tups u.frzs u.tbls (fun m' hm => by
    obtain ⟨o', es', ep', ho', r'⟩ := hm
    rw [ho] at ho'; cases ho'
    exact ⟨_, es', ep', hL, r'⟩) hok I.bare
theorem Inv.call {g' : Array GenState} {t' : Nat} {d' : Drawn} {ch : List Addr} (I : Inv X pins σ H s) (u : Un (frs X.stack) ch H H' s.heap h') (hok : HOk X.prog X.w H' h') (hg : AllBare g')
    (hch : ∀ b ∈ ch, (b ∈ X.ex ∨ X.s₀.heap.objs.size ≤ b) ∧ b ≠ X.env.locals ∧ (∀ x c, X.env.cells.lookup x = some c → c ≠ b) ∧ ∀ p ∈ X.pn ++ pins, p.1 ≠ b) :
    Inv X pins σ H' { s with heap := h', gens := g', drawn := d', toks := t' } := by
  obtain ⟨m, ⟨o, es, ep, ho, r⟩, _⟩ := id I.loc
  obtain ⟨sl, hL⟩ := u.any ho I.free fun z => (hch _ z).2.1 rfl
  exact I.step (ch := ch) hch (fun b o hL hb hc e n => u.keep b o e n (fun z => (List.mem_cons.mp (I.stkSub b z)).elim hL hb) hc) (fun b o _ _ hc e n => u.any e n hc) (fun b o hc e n => u.free b o e n hc) (fun b o hc e => u.there b o e hc) u.tups u.frzs u.tbls (fun m' hm => by
    obtain ⟨o', es', ep', ho', r'⟩ := hm
    rw [ho] at ho'; cases ho'
    exact ⟨_, es', ep', hL, r'⟩) hok hg
theorem Inv.turned {t' : Nat} {it : Addr} (I : Inv X pins σ H s) (k : ∀ b o, b ≠ it → s.heap.get? b = some o → h'.get? b = some o) (hn : H it = none) (hL : it ≠ X.env.locals)
    (h1 : it ∈ X.ex ∨ X.s₀.heap.objs.size ≤ it) (h2 : ∀ x c, X.env.cells.lookup x = some c → c ≠ it) (h3 : ∀ p ∈ X.pn ++ pins, p.1 ≠ it) : Inv X pins σ H { s with heap := h', toks := t' } := by
  have nit : ∀ b u, H b = some u → b ≠ it := fun b u e z => by rw [z, hn] at e; cases e
  refine I.step (g' := s.gens) (d' := s.drawn) (ch := [it]) (fun b hb => ?_) (fun b o _ _ hc e _ => k b o (fun z => hc (by simp [z])) e) (fun b o _ _ hc e _ => ⟨o.slots, k b o (fun z => hc (by simp [z])) e⟩) (fun _ _ _ _ n => n)
    (fun b o hc e => ⟨o, k b o (fun z => hc (by simp [z])) e⟩) (fun _ _ e => e) (fun _ _ _ e => e) (fun b ps e => ⟨#[], by rw [e]; simp⟩) (fun m hm => ?_) (fun b u e => ?_) I.bare
  · have e : b = it := by simpa using hb
    subst e
    exact ⟨h1, hL, h2, h3⟩
  · obtain ⟨o, es, ep, ho, r⟩ := hm
    exact ⟨o, es, ep, k _ o (Ne.symm hL) ho, r⟩
  · refine (I.hok b u e).stay (fun c v hc q => k c v ?_ q) (fun _ q => q) fun _ _ q => q
    rcases hc with z | z
    · rw [z]; exact nit b u e
    · exact nit c _ z
theorem Inv.tok (I : Inv X pins σ H s) (t : Nat) : Inv X pins σ H { s with toks := t } := I.un (h' := s.heap) (t' := t) Un.refl I.hok
theorem Inv.kept {t' : Nat} (I : Inv X pins σ H s) (k : ∀ b u, s.heap.get? b = some u → h'.get? b = some u) : Inv X pins σ H { s with heap := h', toks := t' } := I.un (Un.kept k) (I.hok.kept k)
theorem Inv.laid {a : Addr} {o : HO} {t' : Nat} (I : Inv X pins σ H s) (k : ∀ b u, s.heap.get? b = some u → h'.get? b = some u) (hp : s.heap.objs.size ≤ a) (new : ObjOk X.prog X.w (upd H a o) h' a o) :
    Inv X pins σ (upd H a o) { s with heap := h', toks := t' } := I.un (Un.laid k hp (I.hok.fresh hp)) (I.hok.laid k hp new)
theorem Inv.write {x e : Addr} {o : HO} {t' : Nat} (I : Inv X pins σ H s) (mu : Mut (H x)) (he : e = x ∨ H e = some (.own x)) (k : ∀ b u, b ≠ e → s.heap.get? b = some u → h'.get? b = some u) (heo : ∃ u, h'.get? e = some u)
    (new : ObjOk X.prog X.w (upd H x o) h' x o) : Inv X pins σ (upd H x o) { s with heap := h', toks := t' } := I.un (Un.write mu he k heo) (I.hok.write mu he k heo new)
theorem Inv.weak {σ' : List (Option V)} (I : Inv X pins σ H s) (hl : σ'.length = σ.length) (w : ∀ (i : Nat) v, σ'[i]? = some (some v) → σ[i]? = some (some v)) : Inv X pins σ' H s :=
  ⟨I.ok, I.os, I.bare, I.base, let ⟨m, hn, hl'⟩ := I.loc; ⟨m, hn, fun i x v e1 e2 e3 => hl' i x v e1 (w i v e2) e3⟩, I.cell, I.free, I.freeC, I.pin, I.hok, hl.trans I.len⟩
theorem Inv.pins_of {pins' : List (Addr × Obj)} (I : Inv X pins σ H s) (h : ∀ p ∈ pins', s.heap.get? p.1 = some p.2 ∧ H p.1 = none ∧ p.1 ≠ X.env.locals ∧ p.1 ∉ X.fs ∧ ∀ v, p.2.data ≠ .cell v) : Inv X pins' σ H s :=
  ⟨I.ok, I.os, I.bare, I.base, I.loc, I.cell, I.free, I.freeC, fun p hp => (List.mem_append.mp hp).elim (fun z => I.pin p (List.mem_append_left _ z)) (h p), I.hok, I.len⟩
theorem nodup_ix {N : List Str} (hN : N.Nodup) {i j : Nat} {x : Str} (a : N[i]? = some x) (b : N[j]? = some x) : i = j := by
  obtain ⟨h1, e1⟩ := List.getElem?_eq_some_iff.mp a
  obtain ⟨h2, e2⟩ := List.getElem?_eq_some_iff.mp b
  exact (List.getElem_inj hN).mp (e1.trans e2.symm)
theorem store_ok2 {M : Model} {A : Around} {E : Value → Shared → Prop} {i : Nat} {x : Str} {v : V} {u : Value} {Q : Unit → Shared → Prop} (I : Inv X pins σ H s) (hN : X.N.Nodup) (hi : X.N[i]? = some x) (hx : Loc X.env.scope x) (r : RelV v u)
    (h : ∀ s', Inv X pins (σ.set i (some v)) H s' → (∃ a, Heap.SameBut a s.heap s'.heap ∧ (a = X.env.locals ∨ X.env.cells.lookup x = some a)) → Q () s') (hf : X.fn x = true ∨ X.env.scope.names.lookup x = some .local := by first | exact .inl rfl | exact .inr rfl | assumption) : wpAny M A (storeName X.env x u) Q E s := by
  obtain ⟨m, hn, hl⟩ := id I.loc
  have hcls : (X.env.scope.kind == .class || (X.env.scope.kind == .module && X.env.locals != X.env.globals)) = false := by rw [I.ok.kind]; rfl
  have hiσ : i < σ.length := by rw [I.len]; exact (List.getElem?_eq_some_iff.mp hi).1
  have cne := I.cne
  have tracked : ∀ {a : Addr} {h' : Heap}, (∃ o, s.heap.get? a = some o ∧ H a = none) → Heap.SameBut a s.heap h' → HOk X.prog X.w H h' := fun {a h'} ha hs b ob e => by
    obtain ⟨_, _, hfree⟩ := ha
    refine (I.hok b ob e).stay (fun c w' hc q => (hs.2 c ?_).trans q) (fun _ q => q) fun _ _ q => q
    rintro rfl
    rcases hc with rfl | hc
    · rw [hfree] at e; cases e
    · rw [hfree] at hc; cases hc
  rcases hx with hk | hk
  · refine wpAny_storeName_local hk hn (fun h' hn' hs => ?_) hcls
    obtain ⟨oL, _, _, hoL, _⟩ := id hn
    refine h _ ⟨I.ok, I.os, I.bare, ⟨fun b o e n hb hx => ?_, fun b o e n hb hx => ?_, I.base.free, fun b o e hx => ?_, I.base.tups, I.base.frzs, I.base.tbls⟩, ⟨_, hn', fun j y v' e1 e2 e3 => ?_⟩, fun y c e => ?_, I.free, I.freeC, fun p hp => ?_, tracked ⟨oL, hoL, I.free⟩ hs, by simpa using I.len⟩ ⟨_, hs, .inl rfl⟩
    · exact (hs.2 b (Nat.ne_of_lt (Nat.lt_of_lt_of_le (Heap.lt_size e) I.ok.above))).trans (I.base.keep b o e n hb hx)
    · obtain ⟨sl, e1⟩ := I.base.slot b o e n hb hx
      exact ⟨sl, (hs.2 b (Nat.ne_of_lt (Nat.lt_of_lt_of_le (Heap.lt_size e) I.ok.above))).trans e1⟩
    · obtain ⟨o', e1⟩ := I.base.there b o e hx
      exact ⟨o', (hs.2 b (Nat.ne_of_lt (Nat.lt_of_lt_of_le (Heap.lt_size e) I.ok.above))).trans e1⟩
    · by_cases hj : j = i
      · subst hj
        rw [hi] at e1; cases e1
        rw [List.getElem?_set_self hiσ] at e2
        cases e2
        exact ⟨u, r, .inl ⟨hk, by simp⟩⟩
      · rw [List.getElem?_set_ne (Ne.symm hj)] at e2
        obtain ⟨u', r', q⟩ := hl j y v' e1 e2 e3
        refine ⟨u', r', ?_⟩
        rcases q with ⟨k, e⟩ | ⟨k, c, e, z⟩
        · refine .inl ⟨k, ?_⟩
          have : y ≠ x := fun e => hj (nodup_ix hN e1 (e ▸ hi))
          simp [this, e]
        · exact .inr ⟨k, c, e, z.sameBut hs (cne y c e)⟩
    · obtain ⟨w', z⟩ := I.cell y c e
      exact ⟨w', z.sameBut hs (cne y c e)⟩
    · obtain ⟨e, n, ne, nf, d⟩ := I.pin p hp
      exact ⟨(hs.2 p.1 ne).trans e, n, ne, nf, d⟩
  · have hfn : X.fn x = true := by
      rcases hf with z | z
      · exact z
      · rw [z] at hk; cases hk
    obtain ⟨c, hc⟩ := I.ok.has x (.inl hk)
    obtain ⟨w', z⟩ := I.cell x c hc
    refine wpAny_storeName_cell I.ok.kind hk hc z (fun h' hc' hs => ?_)
    obtain ⟨oc, hoc, hocd⟩ := id z
    refine h { s with heap := h' } ⟨I.ok, I.os, I.bare, ⟨fun b o e n hb hx => ?_, fun b o e n hb hx => ?_, I.base.free, fun b o e hx => ?_, I.base.tups, I.base.frzs, I.base.tbls⟩, ⟨m, hn.sameBut hs (Ne.symm (cne x c hc)), fun j y v' e1 e2 e3 => ?_⟩, fun y c' e => ?_, I.free, I.freeC, fun p hp => ?_, tracked ⟨oc, hoc, I.freeC x c hc⟩ hs, by simpa using I.len⟩ ⟨c, hs, .inr hc⟩
    · exact (hs.2 b (Nat.ne_of_lt (Nat.lt_of_lt_of_le (Heap.lt_size e) (I.ok.cab x c hfn hc)))).trans (I.base.keep b o e n hb hx)
    · obtain ⟨sl, e1⟩ := I.base.slot b o e n hb hx
      exact ⟨sl, (hs.2 b (Nat.ne_of_lt (Nat.lt_of_lt_of_le (Heap.lt_size e) (I.ok.cab x c hfn hc)))).trans e1⟩
    · obtain ⟨o', e1⟩ := I.base.there b o e hx
      exact ⟨o', (hs.2 b (Nat.ne_of_lt (Nat.lt_of_lt_of_le (Heap.lt_size e) (I.ok.cab x c hfn hc)))).trans e1⟩
    · by_cases hj : j = i
      · subst hj
        rw [hi] at e1; cases e1
        rw [List.getElem?_set_self hiσ] at e2
        cases e2
        exact ⟨u, r, .inr ⟨.inl hk, c, hc, hc'⟩⟩
      · rw [List.getElem?_set_ne (Ne.symm hj)] at e2
        obtain ⟨u', r', q⟩ := hl j y v' e1 e2 e3
        refine ⟨u', r', ?_⟩
        rcases q with q | ⟨k, c', e, z'⟩
        · exact .inl q
        · refine .inr ⟨k, c', e, z'.sameBut hs ?_⟩
          rintro rfl
          exact hj (nodup_ix hN e1 (I.ok.inj _ _ _ e hc ▸ hi))
    · by_cases hcc : c' = c
      · subst hcc; exact ⟨_, hc'⟩
      · obtain ⟨w2, z2⟩ := I.cell y c' e
        exact ⟨w2, z2.sameBut hs hcc⟩
    · obtain ⟨e, n, ne, nf, d⟩ := I.pin p hp
      refine ⟨(hs.2 p.1 ?_).trans e, n, ne, nf, d⟩
      intro q
      rw [q, hoc] at e
      have q' : oc = p.2 := Option.some.inj e
      exact d w' (by rw [← q']; exact hocd)
theorem store_ok {M : Model} {A : Around} {E : Value → Shared → Prop} {i : Nat} {x : Str} {v : V} {u : Value} {Q : Unit → Shared → Prop} (I : Inv X pins σ H s) (hN : X.N.Nodup) (hi : X.N[i]? = some x) (hx : Loc X.env.scope x) (r : RelV v u)
    (h : ∀ s', Inv X pins (σ.set i (some v)) H s' → Q () s') (hf : X.fn x = true ∨ X.env.scope.names.lookup x = some .local := by first | exact .inl rfl | exact .inr rfl | assumption) : wpAny M A (storeName X.env x u) Q E s :=
  store_ok2 I hN hi hx r (fun s' I' _ => h s' I') hf
theorem Inv.call' {s' : Shared} {ch : List Addr} (I : Inv X pins σ H s) (ho : s'.os = s.os) (u : Un (frs X.stack) ch H H' s.heap s'.heap) (hok : HOk X.prog X.w H' s'.heap) (hg : AllBare s'.gens)
    (hch : ∀ b ∈ ch, (b ∈ X.ex ∨ X.s₀.heap.objs.size ≤ b) ∧ b ≠ X.env.locals ∧ (∀ x c, X.env.cells.lookup x = some c → c ≠ b) ∧ ∀ p ∈ X.pn ++ pins, p.1 ≠ b) : Inv X pins σ H' s' := by
  obtain ⟨h', g', d', t', o'⟩ := s'
  have e : o' = s.os := ho
  subst e
  exact I.call (g' := g') (t' := t') (d' := d') u hok hg hch
end
noncomputable abbrev XK := Value → Option Addr → Hp → Prop
noncomputable abbrev St := List (Option V)
noncomputable abbrev VK := V → Hp → Prop
noncomputable abbrev TE := St → Hp → VK → Prop
noncomputable abbrev TT := St → Hp → (Bool → Hp → Prop) → Prop
noncomputable abbrev TA := St → Hp → (List V → Hp → Prop) → Prop
structure Ends where
  nx : St → Hp → Prop
  rt : VK
  bk : St → Hp → Prop := fun _ _ => False
  ct : St → Hp → Prop := fun _ _ => False
noncomputable abbrev TS := Ends → St → Hp → Prop
noncomputable def EP (X : Cx) (pins : List (Addr × Obj)) (σ : St) (Q : VK) (u : Value) (s' : Shared) : Prop := ∃ v H', Inv X pins σ H' s' ∧ RelV v u ∧ Q v H'
noncomputable def TP (X : Cx) (pins : List (Addr × Obj)) (σ : St) (Q : Bool → Hp → Prop) (b : Bool) (s' : Shared) : Prop := ∃ H', Inv X pins σ H' s' ∧ Q b H'
noncomputable def AP (X : Cx) (pins : List (Addr × Obj)) (σ : St) (Q : List V → Hp → Prop) (us : List Value) (s' : Shared) : Prop := ∃ vs H', Inv X pins σ H' s' ∧ Vals vs us ∧ Q vs H'
noncomputable def SP (X : Cx) (pins : List (Addr × Obj)) (D : Ends) (f : Flow) (s' : Shared) : Prop :=
  match f with
  | .next => ∃ σ' H', Inv X pins σ' H' s' ∧ D.nx σ' H'
  | .brk => ∃ σ' H', Inv X pins σ' H' s' ∧ D.bk σ' H'
  | .cont => ∃ σ' H', Inv X pins σ' H' s' ∧ D.ct σ' H'
  | .ret u => ∃ v σ' H', Inv X pins σ' H' s' ∧ RelV v u ∧ D.rt v H'
noncomputable def PE (X : Cx) (e : Expr) (t : TE) : Prop :=
  ∀ (pins : List (Addr × Obj)) (s : Shared) (σ : St) (H : Hp) (Q : VK), Inv X pins σ H s → t σ H Q → wpAny (model X.prog X.w) X.A (eval e X.env) (EP X pins σ Q) X.xe s
noncomputable def PT (X : Cx) (e : Expr) (t : TT) : Prop :=
  ∀ (pins : List (Addr × Obj)) (s : Shared) (σ : St) (H : Hp) (Q : Bool → Hp → Prop), Inv X pins σ H s → t σ H Q → wpAny (model X.prog X.w) X.A (isTrue e X.env (eval e X.env)) (TP X pins σ Q) X.xe s
noncomputable def PW (X : Cx) (e : Expr) (t : TT) : Prop :=
  ∀ (whole : Sem Value) (pins : List (Addr × Obj)) (s : Shared) (σ : St) (H : Hp) (Q : Bool → Hp → Prop), Inv X pins σ H s → t σ H Q → wpAny (model X.prog X.w) X.A (isTrue e X.env whole) (TP X pins σ Q) X.xe s
theorem PW.pt {X : Cx} {e : Expr} {t : TT} (h : PW X e t) : PT X e t := h _
noncomputable def PA (X : Cx) (es : List Expr) (t : TA) : Prop :=
  ∀ (pos : Pos) (pins : List (Addr × Obj)) (s : Shared) (σ : St) (H : Hp) (Q : List V → Hp → Prop), Inv X pins σ H s → t σ H Q → wpAny (model X.prog X.w) X.A (spliced (backTo pos (starEach es X.env))) (AP X pins σ Q) X.xe s
noncomputable def PS (X : Cx) (st : Stmt) (t : TS) : Prop :=
  ∀ (pins : List (Addr × Obj)) (s : Shared) (σ : St) (H : Hp) (D : Ends), Inv X pins σ H s → t D σ H → wpAny (model X.prog X.w) X.A (exec st X.env) (SP X pins D) X.xe s
noncomputable def PSs (X : Cx) (st : List Stmt) (t : TS) : Prop :=
  ∀ (pins : List (Addr × Obj)) (s : Shared) (σ : St) (H : Hp) (D : Ends), Inv X pins σ H s → t D σ H → wpAny (model X.prog X.w) X.A (execs st X.env) (SP X pins D) X.xe s
theorem thn {α : Type} {t : Sem α} {Q Q' : α → Shared → Prop} {M : Model} {A : Around} {E : Value → Shared → Prop} {s : Shared} (h : wpAny M A t Q E s) (hQ : ∀ a s, Q a s → Q' a s) : wpAny M A t Q' E s := wpAny_mono h hQ fun _ _ x => x
end L2
namespace L2
open PySem PySem.Spec PyProof.Rows
section
variable {X : Cx}
noncomputable def tVar (i : Nat) : TE := fun σ H Q => ∃ v, σ[i]? = some (some v) ∧ Q v H
noncomputable def tC (v : V) : TE := fun _ H Q => Q v H
theorem pe_var {i : Nat} {x : Str} {pos : Pos} (hN : X.N[i]? = some x) (hv : Vis X.env.scope x) (hd : (x == ("__debug__" : Str)) = false := by decide) (hcd : (x == ("__classdict__" : Str)) = false := by decide) : PE X (.Name x pos) (tVar i) := by
  intro pins s σ H Q I h
  obtain ⟨v, e, h⟩ := h
  obtain ⟨m, hn, hl⟩ := I.loc
  obtain ⟨u, r, l⟩ := hl i x v hN e hv
  have fin : EP X pins σ Q u s := ⟨v, H, I, r, h⟩
  rcases l with ⟨hk, hm⟩ | ⟨hk, c, hc, hcell⟩
  · exact wpAny_Name (wpAny_loadName_local I.ok.kind hk hn hm fin) hd
  · rcases hk with hk | hk
    · exact wpAny_Name (wpAny_loadName_cell I.ok.kind hk hc hcell fin) hd
    · exact wpAny_Name (wpAny_loadName_free I.ok.kind hk hc hcell fin hcd) hd
theorem pe_int {i j pos} : PE X (.Constant (.int i) j pos) (tC (.int i)) := fun _ _ _ H _ I h => wpAny_Constant_int ⟨.int i, H, I.tok _, ⟨_, rfl⟩, h⟩
theorem pe_bl {b j pos} : PE X (.Constant (.bool b) j pos) (tC (.bl b)) := fun _ _ _ H _ I h => Constant_bool ⟨.bl b, H, I, rfl, h⟩
theorem pe_non {j pos} : PE X (.Constant .none j pos) (tC .non) := fun _ _ _ H _ I h => Constant_none ⟨.non, H, I, rfl, h⟩
theorem pe_str {x j pos} : PE X (.Constant (.str x) j pos) (tC (.str x)) := fun _ _ _ H _ I h => Calls.Constant_str ⟨.str x, H, I.tok _, ⟨_, rfl⟩, h⟩
noncomputable def Gl (X : Cx) (x : Str) : Prop := X.env.kindOf x = some .globalImplicit
theorem ld_glob {E : Value → Shared → Prop} {pins : List (Addr × Obj)} {s : Shared} {σ : St} {H : Hp} {x : Str} {u : Value} {pos : Pos} {Q : Value → Shared → Prop} (I : Inv X pins σ H s) (hg : Gl X x) (hm : X.mg x = some u) (h : Q u s)
    (hd : (x == ("__debug__" : Str)) = false := by decide) : wpAny (model X.prog X.w) X.A (eval (.Name x pos) X.env) Q E s :=
  Calls.Name_function_global I.ok.kind hg (Calls.loadGlobal_global (by rw [I.ok.glob]; exact I.mod.glob.keeps I.bk) hm h) hd
theorem ld_blt {E : Value → Shared → Prop} {pins : List (Addr × Obj)} {s : Shared} {σ : St} {H : Hp} {x : Str} {u : Value} {pos : Pos} {Q : Value → Shared → Prop} (I : Inv X pins σ H s) (hg : Gl X x) (hm : X.mg x = none) (hv : bootBuiltins x = some u) (h : Q u s)
    (hn : x ≠ "__name__" := by decide) (hd : (x == ("__debug__" : Str)) = false := by decide) : wpAny (model X.prog X.w) X.A (eval (.Name x pos) X.env) Q E s := by
  obtain ⟨mb, h1, h2⟩ := I.mod.blt
  exact Calls.Name_function_global I.ok.kind hg (Calls.loadGlobal_builtin (by rw [I.ok.glob]; exact I.mod.glob.keeps I.bk) hm (by rw [I.ok.blt]; exact h1.keeps I.bk) ((h2 x hn).trans hv) h) hd
theorem pe_glob {x : Str} {v : V} {u : Value} {pos : Pos} (hg : Gl X x) (hm : X.mg x = some u) (r : RelV v u) (hd : (x == ("__debug__" : Str)) = false := by decide) : PE X (.Name x pos) (tC v) :=
  fun _ _ _ H _ I h => ld_glob I hg hm ⟨v, H, I, r, h⟩ hd
theorem pe_bltn {x : Str} {v : V} {u : Value} {pos : Pos} (hg : Gl X x) (hm : X.mg x = none) (hv : bootBuiltins x = some u) (r : RelV v u) (hn : x ≠ "__name__" := by decide) (hd : (x == ("__debug__" : Str)) = false := by decide) : PE X (.Name x pos) (tC v) :=
  fun _ _ _ H _ I h => ld_blt I hg hm hv ⟨v, H, I, r, h⟩ hn hd
variable {a b : Expr} {ta tb : TE} {pos : Pos}
variable {tA tB' : TT} {rest : List Expr}
noncomputable def tOr (t u : TT) : TT := fun σ H Q => t σ H fun c H1 => if c = true then Q true H1 else u σ H1 Q
noncomputable def tNot (t : TT) : TT := fun σ H Q => t σ H fun c H1 => Q (!c) H1
theorem pw_or1 (ha : PT X a tA) : PW X (.BoolOp .Or [a] pos) tA := by
  intro wh pins s σ H Q I h
  refine isTrue_or (thn (ha pins s σ H Q I h) fun c s1 e => ?_)
  cases c with
  | false => exact isTrue_or_nil e
  | true => exact e
theorem pw_or (ha : PT X a tA) (hb : PW X (.BoolOp .Or (b :: rest) pos) tB') : PW X (.BoolOp .Or (a :: b :: rest) pos) (tOr tA tB') := by
  intro wh pins s σ H Q I h
  refine isTrue_or (thn (ha pins s σ H _ I h) fun c s1 ⟨H1, I1, q1⟩ => ?_)
  cases c with
  | true => exact ⟨H1, I1, q1⟩
  | false => exact hb wh pins s1 σ H1 Q I1 q1
theorem pt_not (ha : PT X a tA) : PT X (.UnaryOp .Not a pos) (tNot tA) := by
  intro pins s σ H Q I h
  exact isTrue_not (ha pins s σ H (fun c H1 => Q (!c) H1) I h)
noncomputable def tAndV (ta tb : TE) : TE := fun σ H Q => ta σ H fun x H1 => ∃ c, x = .bl c ∧ if c = true then tb σ H1 Q else Q (.bl false) H1
noncomputable def tOrV (ta tb : TE) : TE := fun σ H Q => ta σ H fun x H1 => ∃ c, x = .bl c ∧ if c = true then Q (.bl true) H1 else tb σ H1 Q
noncomputable def tNotV (ta : TE) : TE := fun σ H Q => ta σ H fun x H1 => ∃ c, x = .bl c ∧ Q (.bl (!c)) H1
theorem pe_one {op} {t : TE} (h : PE X a t) : PE X (.BoolOp op [a] pos) t := fun pins s σ H Q I hw => BoolOp_one (h pins s σ H Q I hw)
theorem pe_and (ha : PE X a ta) (hb : PE X (.BoolOp .And (b :: rest) pos) tb) : PE X (.BoolOp .And (a :: b :: rest) pos) (tAndV ta tb) := by
  intro pins s σ H Q I h
  refine BoolOp_and (thn (ha pins s σ H _ I h) fun v s1 ⟨x, H1, I1, r1, q1⟩ => ?_)
  obtain ⟨c, rfl, q1⟩ := q1
  cases r1
  refine wpAny_truthy_bool ?_
  cases c with
  | true => exact hb pins s1 σ H1 Q I1 q1
  | false => exact ⟨.bl false, H1, I1, rfl, q1⟩
theorem pe_or (ha : PE X a ta) (hb : PE X (.BoolOp .Or (b :: rest) pos) tb) : PE X (.BoolOp .Or (a :: b :: rest) pos) (tOrV ta tb) := by
  intro pins s σ H Q I h
  refine BoolOp_or (thn (ha pins s σ H _ I h) fun v s1 ⟨x, H1, I1, r1, q1⟩ => ?_)
  obtain ⟨c, rfl, q1⟩ := q1
  cases r1
  refine wpAny_truthy_bool ?_
  cases c with
  | false => exact hb pins s1 σ H1 Q I1 q1
  | true => exact ⟨.bl true, H1, I1, rfl, q1⟩
theorem pe_not (ha : PE X a ta) : PE X (.UnaryOp .Not a pos) (tNotV ta) := by
  intro pins s σ H Q I h
  refine UnaryOp_ (thn (ha pins s σ H _ I h) fun v s1 ⟨x, H1, I1, r1, q1⟩ => ?_)
  obtain ⟨c, rfl, q1⟩ := q1
  cases r1
  exact not_of (wpAny_truthy_bool ⟨.bl (!c), H1, I1, rfl, q1⟩)
end
end L2
namespace L2
open PySem PySem.Spec PyProof.Rows
noncomputable def SqL (K : PySem.W.Frag) (H : Hp) (a : Addr) (xs : List V) : Prop :=
  Rd H a (.lst xs) ∨
    ∃ (o : Obj) (its : Array Value) (n : Nat), K.lookup a = some o ∧ o.cls = .type "list" ∧ o.dict = none ∧ o.data = .seq its n ∧ its.size ≤ sizeLine ∧ Vals xs its.toList
noncomputable def SqT (K : PySem.W.Frag) (H : Hp) (a : Addr) (xs : List V) : Prop :=
  Rd H a (.tup xs) ∨
    ∃ (o : Obj) (its : Array Value) (n : Nat), K.lookup a = some o ∧ o.cls = .type "tuple" ∧ o.data = .seq its n ∧ its.size ≤ sizeLine ∧ Vals xs its.toList
noncomputable def absV : Value → Option V
  | .none => some .non
  | .bool b => some (.bl b)
  | .int i _ => some (.int i)
  | .str x _ => some (.str x)
  | .bytes b _ => some (.byt b)
  | .float b _ => some (.flt b)
  | .ref a => some (.ref a)
  | .type n => some (.ty n)
  | _ => none
theorem RelV.abs {x : V} {u : Value} (r : RelV x u) : absV u = some x := by
  cases x with
  | non => cases r; rfl
  | bl _ => cases r; rfl
  | int _ => obtain ⟨t, rfl⟩ := r; rfl
  | str _ => obtain ⟨t, rfl⟩ := r; rfl
  | byt _ => obtain ⟨t, rfl⟩ := r; rfl
  | flt _ => obtain ⟨t, rfl⟩ := r; rfl
  | ref _ => cases r; rfl
  | ty _ => cases r; rfl
theorem RelV.inj {x y : V} {u : Value} (r : RelV x u) (q : RelV y u) : x = y := Option.some.inj (r.abs.symm.trans q.abs)
theorem Vals.inj : ∀ {xs ys : List V} {us : List Value}, Vals xs us → Vals ys us → xs = ys
  | _, _, _, .nil, .nil => rfl
  | _, _, _, .cons r t, .cons r' t' => by rw [r.inj r', Vals.inj t t']
section
variable {X : Cx} {pins : List (Addr × Obj)} {σ : St} {H : Hp} {s : Shared} {a : Addr} {xs ys : List V}
theorem SqL.of {K : PySem.W.Frag} (h : H a = some (.lst xs)) : SqL K H a xs := .inl (.inl h)
theorem SqT.of {K : PySem.W.Frag} (h : H a = some (.tup xs)) : SqT K H a xs := .inl (.inl h)
theorem Inv.list (I : Inv X pins σ H s) (h : SqL X.K H a xs) : ∃ its : List Value, Vals xs its ∧ PlainL s.heap a its.toArray ∧ xs.length ≤ sizeLine := by
  rcases h with h | ⟨o, its, n, hk, hc, hd, hs, hz, r⟩
  · obtain ⟨z, its, n, r, e⟩ := h.ok I.hok
    exact ⟨its, r, ⟨_, n, e, rfl, rfl, rfl⟩, z⟩
  · refine ⟨its.toList, r, ⟨o, n, I.kIn a o hk, hc, hd, by simpa using hs⟩, ?_⟩
    have e := r.length
    simp only [Array.length_toList] at e
    omega
theorem Inv.tuple (I : Inv X pins σ H s) (h : SqT X.K H a xs) : ∃ its : List Value, Vals xs its ∧ IsTup s.heap a its.toArray ∧ xs.length ≤ sizeLine := by
  rcases h with h | ⟨o, its, n, hk, hc, hs, hz, r⟩
  · obtain ⟨z, its, r, p⟩ := h.ok I.hok
    exact ⟨its, r, p, z⟩
  · refine ⟨its.toList, r, ⟨o, I.kIn a o hk, hc, n, by simpa using hs⟩, ?_⟩
    have e := r.length
    simp only [Array.length_toList] at e
    omega
theorem Inv.list_inj (I : Inv X pins σ H s) (h : SqL X.K H a xs) (h' : SqL X.K H a ys) : xs = ys := by
  obtain ⟨its, r, ⟨o, n, e, _, _, d⟩, _⟩ := I.list h
  obtain ⟨its', r', ⟨o', n', e', _, _, d'⟩, _⟩ := I.list h'
  rw [e] at e'; cases e'
  rw [d] at d'
  injection d' with d1 _
  have : its = its' := by simpa using congrArg Array.toList d1
  subst this
  exact r.inj r'
theorem Inv.tuple_inj (I : Inv X pins σ H s) (h : SqT X.K H a xs) (h' : SqT X.K H a ys) : xs = ys := by
  obtain ⟨its, r, ⟨o, e, _, n, d⟩, _⟩ := I.tuple h
  obtain ⟨its', r', ⟨o', e', _, n', d'⟩, _⟩ := I.tuple h'
  rw [e] at e'; cases e'
  rw [d] at d'
  injection d' with d1 _
  have : its = its' := by simpa using congrArg Array.toList d1
  subst this
  exact r.inj r'
end
noncomputable abbrev Cx.wish (X : Cx) (E : Value → Shared → Prop) : Cx := { X with xe := E }
noncomputable abbrev Cx.nox (X : Cx) : Cx := X.wish fun _ _ => False
theorem Cx.Ok.wish {X : Cx} (ok : X.Ok) (E : Value → Shared → Prop) : (X.wish E).Ok :=
  ⟨ok.mod, ok.kind, ok.glob, ok.blt, ok.above, ok.inj, ok.has, ok.cab, ok.hd, ok.frames, ok.stk, ok.exf, ok.bs, ok.bsz, ok.noex, ok.exfs, ok.funs, ok.frf⟩
theorem Cx.Ok.unwish {X : Cx} {E : Value → Shared → Prop} (ok : (X.wish E).Ok) : X.Ok :=
  ⟨ok.mod, ok.kind, ok.glob, ok.blt, ok.above, ok.inj, ok.has, ok.cab, ok.hd, ok.frames, ok.stk, ok.exf, ok.bs, ok.bsz, ok.noex, ok.exfs, ok.funs, ok.frf⟩
section
variable {X : Cx} {pins : List (Addr × Obj)} {σ : St} {H : Hp} {s : Shared} {E : Value → Shared → Prop}
theorem Inv.wish (I : Inv X pins σ H s) (E : Value → Shared → Prop) : Inv (X.wish E) pins σ H s := ⟨I.ok.wish E, I.os, I.bare, I.base, I.loc, I.cell, I.free, I.freeC, I.pin, I.hok, I.len⟩
theorem Inv.unwish (I : Inv (X.wish E) pins σ H s) : Inv X pins σ H s := ⟨I.ok.unwish, I.os, I.bare, I.base, I.loc, I.cell, I.free, I.freeC, I.pin, I.hok, I.len⟩
theorem SP.unwish {D : Ends} {f : Flow} {s' : Shared} (h : SP (X.wish E) pins D f s') : SP X pins D f s' := by
  cases f with
  | next => obtain ⟨σ', H', I, q⟩ := h; exact ⟨σ', H', I.unwish, q⟩
  | brk => obtain ⟨σ', H', I, q⟩ := h; exact ⟨σ', H', I.unwish, q⟩
  | cont => obtain ⟨σ', H', I, q⟩ := h; exact ⟨σ', H', I.unwish, q⟩
  | ret u => obtain ⟨v, σ', H', I, r, q⟩ := h; exact ⟨v, σ', H', I.unwish, r, q⟩
theorem PSs.nox {st : List Stmt} {t : TS} (h : PSs X.nox st t) : PSs X st t := fun pins s σ H D I hw =>
  wpAny_mono (h pins s σ H D (I.wish _) hw) (fun _ _ q => q.unwish) fun _ _ z => False.elim z
end
section
variable {X : Cx} {st : Stmt} {rest : List Stmt} {t u : TS} {e : Expr} {te : TE} {pos : Pos}
noncomputable def tNext : TS := fun D σ H => D.nx σ H
noncomputable def tSeq (t u : TS) : TS := fun D σ H => t { D with nx := u D } σ H
theorem pss_nil : PSs X [] tNext := fun _ _ σ H _ I h => wpAny_execs_nil ⟨σ, H, I, h⟩
theorem pss_cons (h1 : PS X st t) (h2 : PSs X rest u) : PSs X (st :: rest) (tSeq t u) := by
  intro pins s σ H D I h
  refine wpAny_execs_cons (thn (h1 pins s σ H { D with nx := u D } I h) fun f s1 q => ?_)
  cases f with
  | next =>
    obtain ⟨σ', H', I', q⟩ := q
    exact h2 pins s1 σ' H' D I' q
  | ret v => exact q
  | brk => exact q
  | cont => exact q
theorem pss_one (h1 : PS X st t) : PSs X [st] t := by
  intro pins s σ H D I h
  refine wpAny_execs_cons (thn (h1 pins s σ H D I h) fun f s1 q => ?_)
  cases f with
  | next => exact wpAny_execs_nil q
  | ret v => exact q
  | brk => exact q
  | cont => exact q
theorem Inv.quiet {pins : List (Addr × Obj)} {σ : St} {H : Hp} {s : Shared} (I : Inv X pins σ H s) : interactive X.env = false := by simp [interactive, I.ok.kind]
noncomputable def tDrop (te : TE) : TS := fun D σ H => te σ H fun _ H1 => D.nx σ H1
theorem ps_expr (he : PE X e te) (hs : swapsWith e none pos.line X.env = pure false := by rfl) : PS X (.Expr e pos) (tDrop te) := by
  intro pins s σ H D I h
  exact wpAny_Expr_any (thn (he pins s σ H _ I h) fun v s1 ⟨x, H1, I1, r1, q1⟩ => ⟨σ, H1, I1, q1⟩) I.quiet hs
noncomputable def tRet (te : TE) : TS := fun D σ H => te σ H D.rt
theorem ps_ret (he : PE X e te) : PS X (.Return (some e) pos) (tRet te) := by
  intro pins s σ H D I h
  exact wpAny_Return_some (thn (he pins s σ H _ I h) fun v s1 ⟨x, H1, I1, r1, q1⟩ => ⟨x, σ, H1, I1, r1, q1⟩)
noncomputable def tIfS (c : TT) (t u : TS) : TS := fun D σ H => c σ H fun b H1 => if b = true then t D σ H1 else u D σ H1
theorem ps_if {c : Expr} {a b : List Stmt} {tc : TT} (hc : PT X c tc) (ha : PSs X a t) (hb : PSs X b u) : PS X (.If c a b pos) (tIfS tc t u) := by
  intro pins s σ H D I h
  refine wpAny_If (thn (hc pins s σ H _ I h) fun d s1 ⟨H1, I1, q1⟩ => ?_)
  cases d with
  | true => exact ha pins s1 σ H1 D I1 q1
  | false => exact hb pins s1 σ H1 D I1 q1
noncomputable def tNever : TS := fun _ _ _ => False
theorem pss_never {sts : List Stmt} : PSs X sts tNever := fun _ _ _ _ _ _ h => h.elim
end
noncomputable abbrev TG := V → St → Hp → (St → Hp → Prop) → Prop
noncomputable abbrev TGs := List V → St → Hp → (St → Hp → Prop) → Prop
noncomputable def PG (X : Cx) (target : Expr) (t : TG) : Prop :=
  ∀ (pins : List (Addr × Obj)) (s : Shared) (σ : St) (H : Hp) (v : V) (u : Value) (Q : St → Hp → Prop), Inv X pins σ H s → RelV v u → t v σ H Q →
    wpAny (model X.prog X.w) X.A (assign target X.env u) (fun _ s' => ∃ σ' H', Inv X pins σ' H' s' ∧ Q σ' H') X.xe s
noncomputable def PGs (X : Cx) (ts : List Expr) (t : TGs) : Prop :=
  ∀ (pins : List (Addr × Obj)) (s : Shared) (σ : St) (H : Hp) (vs : List V) (us : List Value) (Q : St → Hp → Prop), Inv X pins σ H s → Vals vs us → t vs σ H Q →
    wpAny (model X.prog X.w) X.A (assignInOrder ((assignEach ts X.env).map (·.2)) us) (fun _ s' => ∃ σ' H', Inv X pins σ' H' s' ∧ Q σ' H') X.xe s
section
variable {X : Cx} {pos : Pos}
noncomputable def gName (i : Nat) : TG := fun v σ H Q => Q (σ.set i (some v)) H
theorem pg_name {i : Nat} {x : Str} (hN : X.N.Nodup) (hi : X.N[i]? = some x) (hx : Loc X.env.scope x) (hf : X.fn x = true ∨ X.env.scope.names.lookup x = some .local := by first | exact .inl rfl | exact .inr rfl | assumption) : PG X (.Name x pos) (gName i) := by
  intro pins s σ H v u Q I r h
  exact wpAny_assign_Name (store_ok I hN hi hx r (fun s' I' => ⟨_, H, I', h⟩) hf)
noncomputable def gNil : TGs := fun vs σ H Q => vs = [] ∧ Q σ H
noncomputable def gCons (t : TG) (u : TGs) : TGs := fun vs σ H Q => ∃ v r, vs = v :: r ∧ t v σ H fun σ' H' => u r σ' H' Q
theorem pgs_nil : PGs X [] gNil := by
  intro pins s σ H vs us Q I r h
  obtain ⟨e, h⟩ := h
  subst e
  cases r
  exact assignInOrder_nil ⟨σ, H, I, h⟩
theorem pgs_cons {e : Expr} {es : List Expr} {t : TG} {u : TGs} (h1 : PG X e t) (h2 : PGs X es u)
    (hs : (assignEach (e :: es) X.env).map (·.2) = assign e X.env :: (assignEach es X.env).map (·.2) := by rfl) : PGs X (e :: es) (gCons t u) := by
  intro pins s σ H vs us Q I r h
  obtain ⟨v, vr, e1, h⟩ := h
  subst e1
  cases r with
  | cons r rr =>
    rw [hs]
    refine assignInOrder_cons (thn (h1 pins s σ H _ _ _ I r h) fun _ s1 ⟨σ1, H1, I1, q1⟩ => ?_)
    exact h2 pins s1 σ1 H1 _ _ Q I1 rr q1
noncomputable def gTup (K : PySem.W.Frag) (n : Nat) (t : TGs) : TG := fun v σ H Q => ∃ a xs, v = .ref a ∧ SqT K H a xs ∧ xs.length = n ∧ t xs σ H Q
theorem pg_tup {es : List Expr} {k : Nat} {t : TGs} {n : Nat} (hc : X.calm = true) (h : PGs X es t)
    (hn : (assignEach es X.env).length = n := by rfl) (hst : (assignEach es X.env).findIdx? (·.1) = none := by rfl) : PG X (.Tuple es k pos) (gTup X.K n t) := by
  intro pins s σ H v u Q I r hw
  obtain ⟨a, xs, e1, hq, hl, hw⟩ := hw
  subst e1
  cases r
  obtain ⟨its, rv, ht, hz⟩ := I.tuple hq
  refine assign_Tuple_tuple (I.ok.hd hc) ht (by simp [hn, ← hl, rv.length]) hst fun h' hx => ?_
  have I1 : Inv X pins σ H { s with heap := h' } := I.kept (t' := s.toks) fun b o e => hx b o (Nat.ne_of_lt (Heap.lt_size e)) e
  exact h pins _ σ H xs _ Q I1 (by simpa using rv) hw
noncomputable def tAsg (te : TE) (g : TG) : TS := fun D σ H => te σ H fun x H1 => g x σ H1 D.nx
theorem ps_asg {tg e : Expr} {te : TE} {g : TG} (he : PE X e te) (hg : PG X tg g) (hs : swapsWithSole [tg] e pos.line X.env = pure false := by rfl) (hw : swappedStores [tg] e X.env = pure none := by rfl)
    (h1 : (assignEach [tg] X.env).map (·.2) = [assign tg X.env] := by rfl) : PS X (.Assign [tg] e pos) (tAsg te g) := by
  intro pins s σ H D I h
  refine wpAny_Assign_stores (thn (he pins s σ H _ I h) fun v s1 ⟨x, H1, I1, r1, q1⟩ => ?_) hs hw
  rw [h1]
  exact thn (hg pins s1 σ H1 x v _ I1 r1 q1) fun _ s2 q => q
theorem ps_set {i : Nat} {x : Str} {e : Expr} {te : TE} {pos' : Pos} (hN : X.N.Nodup) (hi : X.N[i]? = some x) (hx : Loc X.env.scope x) (he : PE X e te) (hs : swapsWith e (some (.Name x pos')) pos.line X.env = pure false := by rfl) (hf : X.fn x = true ∨ X.env.scope.names.lookup x = some .local := by first | exact .inl rfl | exact .inr rfl | assumption) :
    PS X (.Assign [.Name x pos'] e pos) (tAsg te (gName i)) := by
  intro pins s σ H D I h
  refine wpAny_Assign_Name (thn (he pins s σ H _ I h) fun v s1 ⟨y, H1, I1, r1, q1⟩ => ?_) hs
  exact store_ok I1 hN hi hx r1 (fun s2 I2 => ⟨_, H1, I2, q1⟩) hf
end
structure It where
  go : Nat → Hp → Prop
  yld : Nat → Hp → V → Hp → Prop
  stop : Nat → Hp → Prop
noncomputable def FpOk (X : Cx) (pins : List (Addr × Obj)) (H : Hp) (b : Addr) : Prop :=
  H b = none ∧ b ≠ X.env.locals ∧ b ∉ X.fs ∧ (b ∈ X.ex ∨ X.s₀.heap.objs.size ≤ b) ∧ (∀ x c, X.env.cells.lookup x = some c → c ≠ b) ∧ ∀ p ∈ X.pn ++ pins, p.1 ≠ b
theorem Inv.fpOk {X : Cx} {pins : List (Addr × Obj)} {σ : St} {H H' : Hp} {s : Shared} {b : Addr} (I : Inv X pins σ H s) (hb : s.heap.objs.size ≤ b) (hn : H' b = none) : FpOk X pins H' b := by
  refine ⟨hn, Nat.ne_of_gt (Nat.lt_of_lt_of_le I.lt hb), I.nofs hb, .inr (Nat.le_trans I.sz hb), fun x c e z => ?_, fun p hp z => ?_⟩
  · obtain ⟨v, q⟩ := I.cell x c e
    exact absurd (Nat.lt_of_lt_of_le q.lt (by rw [z]; exact hb)) (Nat.lt_irrefl _)
  · exact absurd (Nat.lt_of_lt_of_le (Heap.lt_size (I.pin p hp).1) (by rw [z]; exact hb)) (Nat.lt_irrefl _)
structure Turn (P : Program) (w : World) (K : PySem.W.Frag) (tg : Expr) (J : It) (fp : List Addr) (it : Addr) (tn : Nat → Heap → Prop) : Prop where
  mem : it ∈ fp
  obj : ∀ i h, tn i h → ∀ b ∈ fp, ∃ o, h.get? b = some o ∧ ∀ v, o.data ≠ .cell v
  keep : ∀ i h h', tn i h → (∀ b ∈ fp, ∀ o, h.get? b = some o → h'.get? b = some o) → tn i h'
  item : ∀ (X : Cx), X.prog = P → X.w = w → X.K = K → X.calm = true → ∀ (i : Nat) (pins : List (Addr × Obj)) (s : Shared) (σ : St) (H : Hp) (E : Value → Shared → Prop), Inv X pins σ H s → (∀ b ∈ fp, FpOk X pins H b) → tn i s.heap → J.go i H →
    wpAny (model P w) X.A (pyNext (.ref it)) (fun r s1 => ∃ u, r = some u ∧
      wpAny (model P w) X.A (letOwnedTupleGo tg (.ref it) u) (fun _ s2 => ∃ x H', Inv X pins σ H' s2 ∧ RelV x u ∧ J.yld i H x H' ∧ tn (i + 1) s2.heap ∧ ∀ b ∈ fp, H' b = none) E s1) E s
  done : ∀ (X : Cx), X.prog = P → X.w = w → X.K = K → X.calm = true → ∀ (i : Nat) (pins : List (Addr × Obj)) (s : Shared) (σ : St) (H : Hp) (E : Value → Shared → Prop), Inv X pins σ H s → (∀ b ∈ fp, FpOk X pins H b) → tn i s.heap → J.stop i H →
    wpAny (model P w) X.A (pyNext (.ref it)) (fun r s1 => r = none ∧ Inv X pins σ H s1) E s
  self : ∀ (A : Around) (i : Nat) (s : Shared) (Q : Value → Shared → Prop) (E : Value → Shared → Prop), tn i s.heap → Q (.ref it) s → wpAny (model P w) A (pyIter (.ref it)) Q E s
noncomputable abbrev TI := St → Hp → (It → Hp → Prop) → Prop
noncomputable def PIE (X : Cx) (pins : List (Addr × Obj)) (σ : St) (tg : Expr) (R : It → Hp → Prop) (itv : Value) (s2 : Shared) : Prop :=
  ∃ (it : Addr) (fp : List Addr) (tn : Nat → Heap → Prop) (J : It) (H' : Hp), itv = .ref it ∧ Inv X pins σ H' s2 ∧ Turn X.prog X.w X.K tg J fp it tn ∧ tn 0 s2.heap ∧ (∀ b ∈ fp, FpOk X pins H' b) ∧ R J H'
noncomputable def PI (X : Cx) (tg iter : Expr) (wi : TI) : Prop :=
  ∀ (pins : List (Addr × Obj)) (s : Shared) (σ : St) (H : Hp) (R : It → Hp → Prop), Inv X pins σ H s → wi σ H R →
    wpAny (model X.prog X.w) X.A (eval iter X.env) (fun v s1 => wpAny (model X.prog X.w) X.A (pyIter v) (PIE X pins σ tg R) X.xe s1) X.xe s
theorem go_of {M : Model} {A : Around} {E : Value → Shared → Prop} {s : Shared} {tg : Expr} {it : Addr} {u : Value} {o : Obj} {n : String} {vs : Array Value} {Q : Unit → Shared → Prop} (ho : s.heap.get? it = some o) (hc : o.cls = .type n) (hd : o.data = .fields vs)
    (hn : ["enumerate", "zip", "dict_itemiterator", "dict_reverseitemiterator", "odict_iterator", "itertools.zip_longest", "itertools.pairwise"].contains n = false) (hQ : Q () s) : wpAny M A (letOwnedTupleGo tg (.ref it) u) Q E s := by
  unfold letOwnedTupleGo
  cases tg <;> first
    | exact wpAny_pure hQ
    | (cases u <;> first
        | exact wpAny_pure hQ
        | (refine wpAny_bind (wpAny_load ho ?_)
           rw [hc, hd]
           show wpAny M A (if (["enumerate", "zip", "dict_itemiterator", "dict_reverseitemiterator", "odict_iterator", "itertools.zip_longest", "itertools.pairwise"].contains n && vs[0]? == some (rawInt _)) = true then _ else _) Q E s
           rw [if_neg (by intro h; rw [hn, Bool.false_and] at h; cases h)]
           exact wpAny_pure hQ))
noncomputable def Itl (K : PySem.W.Frag) (a : Addr) : It :=
  ⟨fun i H => ∃ xs x, SqL K H a xs ∧ xs[i]? = some x, fun i H x H' => H' = H ∧ ∀ xs, SqL K H a xs → xs[i]? = some x, fun i H => ∃ xs, SqL K H a xs ∧ xs.length ≤ i⟩
noncomputable def Itt (K : PySem.W.Frag) (a : Addr) : It :=
  ⟨fun i H => ∃ xs x, SqT K H a xs ∧ xs[i]? = some x, fun i H x H' => H' = H ∧ ∀ xs, SqT K H a xs → xs[i]? = some x, fun i H => ∃ xs, SqT K H a xs ∧ xs.length ≤ i⟩
noncomputable def Itr (lo : Int) (n : Nat) : It := ⟨fun i _ => i < n, fun i H x H' => H' = H ∧ x = .int (lo + i), fun i _ => n ≤ i⟩
theorem turn_list {P : Program} {w : World} {K : PySem.W.Frag} {tg : Expr} (a it : Addr) : Turn P w K tg (Itl K a) [it] it (fun i h => h.IsListIter it a i) where
  mem := by simp
  obj := fun i h st b hb => by
    have e : b = it := by simpa using hb
    subst e
    obtain ⟨o, e, c, d⟩ := st
    exact ⟨o, e, fun v z => by rw [d] at z; cases z⟩
  keep := fun i h h' st k => st.at fun o e => k it (by simp) o e
  item := by
    intro X hP hw hK hc i pins s σ H E I hf st hg
    subst hP hw hK
    obtain ⟨xs, x, hq, hx⟩ := hg
    obtain ⟨its, rv, p, hz⟩ := I.list hq
    obtain ⟨u, hu, ru⟩ := rv.get hx
    obtain ⟨f0, f1, f2, f3, f4, f5⟩ := hf it (by simp)
    refine wpAny_pyNext_list_item st p.isList (x := u) (by simpa using hu) fun h' st' sb => ?_
    have I1 : Inv X pins σ H { s with heap := h' } := I.turned (t' := s.toks) (fun b o hb e => (sb.2 b hb).trans e) f0 f1 f3 f4 f5
    obtain ⟨o, e, c, d⟩ := id st'
    exact ⟨u, rfl, go_of (s := { s with heap := h' }) e c d (by decide) ⟨x, H, I1, ru, ⟨rfl, fun ys hy => by rw [I.list_inj hy hq]; exact hx⟩, st', fun b hb => (hf b hb).1⟩⟩
  done := by
    intro X hP hw hK hc i pins s σ H E I hf st hg
    subst hP hw hK
    obtain ⟨xs, hq, hx⟩ := hg
    obtain ⟨its, rv, p, hz⟩ := I.list hq
    obtain ⟨f0, f1, f2, f3, f4, f5⟩ := hf it (by simp)
    have hl := rv.length
    exact wpAny_pyNext_list_end (I.ok.hd hc) st p.isList (by simp; omega) fun h' eb => ⟨rfl, I.turned (t' := s.toks) (fun b o hb e => eb b o hb e) f0 f1 f3 f4 f5⟩
  self := fun _ _ _ _ _ st h => wpAny_pyIter_listiter st h
theorem turn_tuple {P : Program} {w : World} {K : PySem.W.Frag} {tg : Expr} (a it : Addr) : Turn P w K tg (Itt K a) [it] it (fun i h => h.IsTupleIter it a i) where
  mem := by simp
  obj := fun i h st b hb => by
    have e : b = it := by simpa using hb
    subst e
    obtain ⟨o, e, c, d⟩ := st
    exact ⟨o, e, fun v z => by rw [d] at z; cases z⟩
  keep := fun i h h' st k => st.at fun o e => k it (by simp) o e
  item := by
    intro X hP hw hK hc i pins s σ H E I hf st hg
    subst hP hw hK
    obtain ⟨xs, x, hq, hx⟩ := hg
    obtain ⟨its, rv, p, hz⟩ := I.tuple hq
    obtain ⟨u, hu, ru⟩ := rv.get hx
    obtain ⟨f0, f1, f2, f3, f4, f5⟩ := hf it (by simp)
    refine wpAny_pyNext_tuple_item st (show s.heap.IsTuple a its.toArray from p) (x := u) (by simpa using hu) fun h' st' sb => ?_
    have I1 : Inv X pins σ H { s with heap := h' } := I.turned (t' := s.toks) (fun b o hb e => (sb.2 b hb).trans e) f0 f1 f3 f4 f5
    obtain ⟨o, e, c, d⟩ := id st'
    exact ⟨u, rfl, go_of (s := { s with heap := h' }) e c d (by decide) ⟨x, H, I1, ru, ⟨rfl, fun ys hy => by rw [I.tuple_inj hy hq]; exact hx⟩, st', fun b hb => (hf b hb).1⟩⟩
  done := by
    intro X hP hw hK hc i pins s σ H E I hf st hg
    subst hP hw hK
    obtain ⟨xs, hq, hx⟩ := hg
    obtain ⟨its, rv, p, hz⟩ := I.tuple hq
    obtain ⟨f0, f1, f2, f3, f4, f5⟩ := hf it (by simp)
    have hl := rv.length
    exact wpAny_pyNext_tuple_end (I.ok.hd hc) st (show s.heap.IsTuple a its.toArray from p) (by simp; omega) fun h' eb => ⟨rfl, I.turned (t' := s.toks) (fun b o hb e => eb b o hb e) f0 f1 f3 f4 f5⟩
  self := fun _ _ _ _ _ st h => wpAny_pyIter_tupleiter st h
theorem turn_range {P : Program} {w : World} {K : PySem.W.Frag} {tg : Expr} (it : Addr) (lo : Int) (n : Nat) : Turn P w K tg (Itr lo n) [it] it (fun i h => IsRangeIter h it (lo + (i : Nat) * 1) ((n : Int) - (i : Nat)) 1) where
  mem := by simp
  obj := fun i h st b hb => by
    have e : b = it := by simpa using hb
    subst e
    exact ⟨_, st, fun v z => by
      have z' : Data.fields _ = Data.cell v := z
      cases z'⟩
  keep := fun i h h' st k => k it (by simp) _ st
  item := by
    intro X hP hw hK hc i pins s σ H E I hf st hg
    subst hP hw hK
    obtain ⟨f0, f1, f2, f3, f4, f5⟩ := hf it (by simp)
    have W := Walks.range (prog := X.prog) (w := X.w) (I.ok.hd hc) it lo 1 n
    refine W.item i s _ _ hg st fun v h' tk hv st' kk => ?_
    obtain ⟨t, rfl⟩ := hv
    have I1 : Inv X pins σ H { s with heap := h', toks := tk } := I.turned (fun b o hb e => kk b o (by simpa using hb) e) f0 f1 f3 f4 f5
    refine ⟨_, rfl, go_of (s := { s with heap := h', toks := tk }) (n := "range_iterator") st' rfl rfl (by decide) ⟨.int (lo + i), H, I1, ⟨t, ?_⟩, ⟨rfl, rfl⟩, st', fun b hb => (hf b hb).1⟩⟩
    rw [Int.mul_one]
  done := by
    intro X hP hw hK hc i pins s σ H E I hf st hg
    subst hP hw hK
    obtain ⟨f0, f1, f2, f3, f4, f5⟩ := hf it (by simp)
    exact wpAny_pyNext_range_end (I.ok.hd hc) st (by have : n ≤ i := hg; omega) fun h' eb => ⟨rfl, I.turned (t' := s.toks) (fun b o hb e => eb b o hb e) f0 f1 f3 f4 f5⟩
  self := fun _ _ _ _ _ st h => wpAny_pyIter_rangeiter st h
end L2
namespace L2
open PySem PySem.Spec PyProof.Rows
section
variable {X : Cx} {tg : Expr}
theorem range_it {pins : List (Addr × Obj)} {σ : St} {H : Hp} {s : Shared} {R : It → Hp → Prop} {E : Value → Shared → Prop} {lo hi : Int} {t u v : Tok} {tk : Nat} (I : Inv X pins σ H s) (h1 : -(2 ^ 62) ≤ lo) (h2 : lo < 2 ^ 62) (h3 : -(2 ^ 62) ≤ hi) (h4 : hi < 2 ^ 62)
    (q : R (Itr lo (hi - lo).toNat) H) : wpAny (model X.prog X.w) X.A (pyIter (.ref s.heap.objs.size)) (PIE X pins σ tg R) E { s with heap := s.heap.push { cls := .type "range", data := .fields #[.int lo t, .int hi u, .int 1 v] }, toks := tk } := by
  refine wpAny_pyIter_range (IsRange.new ..) (small_one h1 h2 h3 h4) ?_
  have I1 : Inv X pins σ H { s with heap := s.heap.push { cls := .type "range", data := .fields #[.int lo t, .int hi u, .int 1 v] }, toks := tk } := I.kept fun b o e => Heap.get?_push_of_some _ e
  refine ⟨(s.heap.push { cls := .type "range", data := .fields #[.int lo t, .int hi u, .int 1 v] }).objs.size, [(s.heap.push { cls := .type "range", data := .fields #[.int lo t, .int hi u, .int 1 v] }).objs.size], _, _, H, rfl,
    I1.kept (t' := tk) fun b o e => Heap.get?_push_of_some _ e, turn_range _ lo (hi - lo).toNat, ?_, fun b hb => ?_, q⟩
  · have e1 : lo + ((0 : Nat) : Int) * 1 = lo := by simp
    have e2 : (((hi - lo).toNat : Nat) : Int) - ((0 : Nat) : Int) = Builtin.Range.rangeSize lo hi 1 := by rw [rangeSize_one]; split <;> omega
    show IsRangeIter _ _ (lo + ((0 : Nat) : Int) * 1) ((((hi - lo).toNat : Nat) : Int) - ((0 : Nat) : Int)) 1
    rw [e1, e2]
    exact Heap.get?_push_size _ rfl
  · have e : b = (s.heap.push { cls := .type "range", data := .fields #[.int lo t, .int hi u, .int 1 v] }).objs.size := by simpa using hb
    subst e
    exact I1.fpOk (Nat.le_refl _) (I1.hok.fresh (Nat.le_refl _))
noncomputable def iRng1 (ta : TA) : TI := fun σ H R => ta σ H fun vs H1 => ∃ j : Int, vs = [.int j] ∧ -(2 ^ 62) ≤ j ∧ j < 2 ^ 62 ∧ R (Itr 0 j.toNat) H1
theorem pi_range1 {a : Expr} {ta : TA} {p pos : Pos} (hg : Gl X "range") (hm : X.mg "range" = none) (ha : PA X [a] ta) (hs : starEach [a] X.env = [(false, eval a X.env)] := by rfl) : PI X tg (.Call (.Name "range" p) [a] [] pos) (iRng1 ta) := by
  intro pins s σ H R I h
  refine Call_ (ld_blt I hg hm boot_range (PyProof.Rows.callWith_type1 (thn (ha pos pins s σ H _ I h) fun us s1 ⟨vs, H1, I1, r1, q1⟩ => ?_) hs rfl))
  obtain ⟨j, e, q1, q2, q⟩ := q1
  subst e
  cases r1 with
  | cons r rr =>
    cases rr
    obtain ⟨t, rfl⟩ := r
    exact call_range_1 (range_it I1 (by omega) (by omega) q1 q2 (by simpa using q))
noncomputable def tFor (wi : TI) (g : TG) (tb : TS) : TS := fun D σ H => wi σ H fun J H1 => ∃ W : Nat → Nat → St → Hp → Prop, (∃ m, W 0 m σ H1) ∧ ∀ i m σ H, W i m σ H →
  (J.stop i H ∧ D.nx σ H) ∨ (J.go i H ∧ ∃ N : St → Hp → Prop, (∀ σ' H', N σ' H' → ∃ m', m' < m ∧ W (i + 1) m' σ' H') ∧ ∀ x H', J.yld i H x H' → g x σ H' fun σ2 H2 => tb { D with nx := N, ct := N, bk := D.nx } σ2 H2)
noncomputable def pinsAt (fp : List Addr) (h : Heap) : List (Addr × Obj) := fp.filterMap fun b => (h.get? b).map fun o => (b, o)
theorem mem_pinsAt {fp : List Addr} {h : Heap} {b : Addr} {o : Obj} (hb : b ∈ fp) (e : h.get? b = some o) : (b, o) ∈ pinsAt fp h := List.mem_filterMap.mpr ⟨b, hb, by rw [e]; rfl⟩
theorem of_pinsAt {fp : List Addr} {h : Heap} {p : Addr × Obj} (hp : p ∈ pinsAt fp h) : p.1 ∈ fp ∧ h.get? p.1 = some p.2 := by
  obtain ⟨b, hb, e⟩ := List.mem_filterMap.mp hp
  cases q : h.get? b with
  | none => rw [q] at e; cases e
  | some o =>
    rw [q] at e
    have e' : (b, o) = p := Option.some.inj e
    subst e'
    exact ⟨hb, q⟩
theorem Inv.pinned {pins : List (Addr × Obj)} {σ : St} {H : Hp} {s : Shared} {fp : List Addr} (I : Inv X pins σ H s) (hf : ∀ b ∈ fp, FpOk X pins H b) (ho : ∀ b ∈ fp, ∃ o, s.heap.get? b = some o ∧ ∀ v, o.data ≠ .cell v) : Inv X (pins ++ pinsAt fp s.heap) σ H s :=
  I.pins_of fun p hp => (List.mem_append.mp hp).elim (fun z => I.pin p (List.mem_append_right _ z)) fun z => by
    obtain ⟨hb, e⟩ := of_pinsAt z
    obtain ⟨f0, f1, f2, _⟩ := hf p.1 hb
    obtain ⟨o, e', d⟩ := ho p.1 hb
    rw [e] at e'; cases e'
    exact ⟨e, f0, f1, f2, d⟩
theorem Inv.unpinned {pins pl : List (Addr × Obj)} {σ : St} {H : Hp} {s : Shared} (I : Inv X (pins ++ pl) σ H s) : Inv X pins σ H s := I.pins_of fun p hp => I.pin p (List.mem_append_right _ (List.mem_append_left _ hp))
theorem ps_for {iter : Expr} {body : List Stmt} {wi : TI} {g : TG} {tb : TS} {pos : Pos} (hp : PassesOwn (model X.prog X.w) X.A X.env X.xe) (hc : X.calm = true) (hi : PI X tg iter wi) (hg : PG X tg g) (hb : PSs X body tb)
    (hs : ∀ x, foldedSetIterable iter X.env x = pure x := by intro _; rfl) : PS X (.For tg iter body [] pos) (tFor wi g tb) := by
  intro pins s σ H D I h
  refine wpAny_For (thn (hi pins s σ H _ I h) fun v s1 h1 => thn h1 fun itv s2 h2 => ?_) hs
  obtain ⟨it, fp, tn, J, H2, e, I2, T, st2, f2, W, ⟨m0, w0⟩, turn⟩ := h2
  subst e
  have stat : ∀ {H' : Hp}, (∀ b ∈ fp, H' b = none) → ∀ b ∈ fp, FpOk X pins H' b := fun hn b hb => ⟨hn b hb, (f2 b hb).2⟩
  refine codeAny_forLoop_any (fun n s' => ∃ i σ' H', Inv X pins σ' H' s' ∧ tn i s'.heap ∧ (∀ b ∈ fp, H' b = none) ∧ W i n σ' H') ?_ m0 ⟨0, σ, H2, I2, st2, fun b hb => (f2 b hb).1, w0⟩
  rintro n s3 ⟨i, σ3, H3, I3, st3, fr3, w3⟩
  rcases turn i n σ3 H3 w3 with ⟨stop, qn⟩ | ⟨go, N, hN, step⟩
  · refine wpAny_passesOwn hp (thn (T.done X rfl rfl rfl hc i pins s3 σ3 H3 X.xe I3 (stat fr3) st3 stop) fun r s4 ⟨hr, I4⟩ => ?_)
    subst hr
    exact wpAny_execs_nil ⟨σ3, H3, I4, qn⟩
  · refine wpAny_passesOwn hp (thn (T.item X rfl rfl rfl hc i pins s3 σ3 H3 X.xe I3 (stat fr3) st3 go) fun r s4 ⟨u, hr, h4⟩ => ?_)
    subst hr
    refine wpAny_passesOwn hp (thn h4 fun _ s5 ⟨x, H5, I5, r5, y5, st5, fr5⟩ => ?_)
    have I5' := I5.pinned (stat fr5) (T.obj _ _ st5)
    refine wpAny_passesOwn hp (thn (hg _ s5 σ3 H5 x u _ I5' r5 (step x H5 y5)) fun _ s6 ⟨σ6, H6, I6, q6⟩ => ?_)
    refine wpAny_passesOwn hp (thn (hb _ s6 σ6 H6 _ I6 q6) fun f s7 q7 => ?_)
    have again : ∀ {σ7 : St} {H7 : Hp}, Inv X (pins ++ pinsAt fp s5.heap) σ7 H7 s7 → N σ7 H7 → ∃ m, m < n ∧ ∃ i σ' H', Inv X pins σ' H' s7 ∧ tn i s7.heap ∧ (∀ b ∈ fp, H' b = none) ∧ W i m σ' H' := fun {σ7 H7} I7 n7 => by
      obtain ⟨m', hm, w7⟩ := hN σ7 H7 n7
      refine ⟨m', hm, i + 1, σ7, H7, I7.unpinned, T.keep _ _ _ st5 fun b hb o e => (I7.pin (b, o) (List.mem_append_right _ (List.mem_append_right _ (mem_pinsAt hb e)))).1, fun b hb => ?_, w7⟩
      obtain ⟨o, e, d⟩ := T.obj _ _ st5 b hb
      exact (I7.pin (b, o) (List.mem_append_right _ (List.mem_append_right _ (mem_pinsAt hb e)))).2.1
    cases f with
    | next => obtain ⟨σ7, H7, I7, n7⟩ := q7; exact again I7 n7
    | cont => obtain ⟨σ7, H7, I7, n7⟩ := q7; exact again I7 n7
    | brk => obtain ⟨σ7, H7, I7, q7⟩ := q7; exact ⟨σ7, H7, I7.unpinned, q7⟩
    | ret v => obtain ⟨x7, σ7, H7, I7, r7, q7⟩ := q7; exact ⟨x7, σ7, H7, I7.unpinned, r7, q7⟩
end
end L2
namespace L2
open PySem PySem.Spec PyProof.Rows
noncomputable abbrev R2 := V → V → Hp → VK → Prop
noncomputable def OpR (X : Cx) (f : Value → Value → Sem Value) (r : R2) : Prop :=
  ∀ (pins : List (Addr × Obj)) (s : Shared) (σ : St) (H : Hp) (x y : V) (v u : Value) (Q : VK), Inv X pins σ H s → RelV x v → RelV y u → r x y H Q →
    wpAny (model X.prog X.w) X.A (f v u) (EP X pins σ Q) X.xe s
noncomputable def CallR (X : Cx) (f : Value) (r : List V → Hp → VK → Prop) : Prop :=
  ∀ (pins : List (Addr × Obj)) (s : Shared) (σ : St) (H : Hp) (xs : List V) (us : List Value) (Q : VK), Inv X pins σ H s → Vals xs us → r xs H Q →
    wpAny (model X.prog X.w) X.A (call f us) (EP X pins σ Q) X.xe s
noncomputable def TruR (X : Cx) (r : V → Hp → (Bool → Hp → Prop) → Prop) : Prop :=
  ∀ (pins : List (Addr × Obj)) (s : Shared) (σ : St) (H : Hp) (x : V) (v : Value) (Q : Bool → Hp → Prop), Inv X pins σ H s → RelV x v → r x H Q →
    wpAny (model X.prog X.w) X.A (truthy v) (TP X pins σ Q) X.xe s
noncomputable def tOp (r : R2) (ta tb : TE) : TE := fun σ H Q => ta σ H fun x H1 => tb σ H1 fun y H2 => r x y H2 Q
noncomputable def tUn (r : V → Hp → VK → Prop) (ta : TE) : TE := fun σ H Q => ta σ H fun x H1 => r x H1 Q
noncomputable def rI (C : Int → Int → Prop) (g : Int → Int → V) : R2 := fun x y H Q => ∃ i j, x = .int i ∧ y = .int j ∧ C i j ∧ Q (g i j) H
noncomputable def rI0 (g : Int → Int → V) : R2 := fun x y H Q => ∃ i j, x = .int i ∧ y = .int j ∧ Q (g i j) H
section
variable {X : Cx} {a b c : Expr} {ta tb tc : TE} {pos : Pos}
theorem binT (ha : PE X a ta) (hb : PE X b tb) {pins : List (Addr × Obj)} {s : Shared} {σ : St} {H : Hp} {R : V → V → Hp → Prop} (I : Inv X pins σ H s)
    (h : ta σ H fun x H1 => tb σ H1 fun y H2 => R x y H2) {Q : Value → Shared → Prop} {f : Value → Value → Sem Value}
    (hf : ∀ v u s2 x y H2, Inv X pins σ H2 s2 → RelV x v → RelV y u → R x y H2 → wpAny (model X.prog X.w) X.A (f v u) Q X.xe s2) :
    wpAny (model X.prog X.w) X.A (eval a X.env) (fun v s₁ => wpAny (model X.prog X.w) X.A (eval b X.env) (fun u s₂ => wpAny (model X.prog X.w) X.A (f v u) Q X.xe s₂) X.xe s₁) X.xe s := by
  refine thn (ha pins s σ H _ I h) fun v s1 ⟨x, H1, I1, r1, q1⟩ => ?_
  refine thn (hb pins s1 σ H1 _ I1 q1) fun u s2 ⟨y, H2, I2, r2, q2⟩ => ?_
  exact hf v u s2 x y H2 I2 r1 r2 q2
theorem pe_op {op : Operator} {r : R2} (ho : OpR X (binaryOp op) r) (ha : PE X a ta) (hb : PE X b tb) : PE X (.BinOp a op b pos) (tOp r ta tb) := by
  intro pins s σ H Q I h
  exact wpAny_BinOp (binT ha hb I h fun v u s2 x y H2 I2 rx ry q => ho pins s2 σ H2 x y v u Q I2 rx ry q)
theorem opI {f : Value → Value → Sem Value} {C : Int → Int → Prop} {g : Int → Int → Int}
    (rule : ∀ (i j : Int) (t u : Tok) (s : Shared) (Q : Value → Shared → Prop) (E : Value → Shared → Prop), C i j → Q (.int (g i j) s.toks) { s with toks := s.toks + 1 } → wpAny (model X.prog X.w) X.A (f (.int i t) (.int j u)) Q E s) :
    OpR X f (rI C fun i j => .int (g i j)) := by
  intro pins s σ H x y v u Q I rx ry h
  obtain ⟨i, j, rfl, rfl, hc, q⟩ := h
  obtain ⟨t, rfl⟩ := rx
  obtain ⟨t', rfl⟩ := ry
  exact rule i j t t' s _ _ hc ⟨.int (g i j), H, I.tok _, ⟨_, rfl⟩, q⟩
theorem opI0 {f : Value → Value → Sem Value} {g : Int → Int → Int}
    (rule : ∀ (i j : Int) (t u : Tok) (s : Shared) (Q : Value → Shared → Prop) (E : Value → Shared → Prop), Q (.int (g i j) s.toks) { s with toks := s.toks + 1 } → wpAny (model X.prog X.w) X.A (f (.int i t) (.int j u)) Q E s) :
    OpR X f (rI0 fun i j => .int (g i j)) := by
  intro pins s σ H x y v u Q I rx ry h
  obtain ⟨i, j, rfl, rfl, q⟩ := h
  obtain ⟨t, rfl⟩ := rx
  obtain ⟨t', rfl⟩ := ry
  exact rule i j t t' s _ _ ⟨.int (g i j), H, I.tok _, ⟨_, rfl⟩, q⟩
theorem opB0 {f : Value → Value → Sem Value} {g : Int → Int → Bool}
    (rule : ∀ (i j : Int) (t u : Tok) (s : Shared) (Q : Value → Shared → Prop) (E : Value → Shared → Prop), Q (.bool (g i j)) s → wpAny (model X.prog X.w) X.A (f (.int i t) (.int j u)) Q E s) :
    OpR X f (rI0 fun i j => .bl (g i j)) := by
  intro pins s σ H x y v u Q I rx ry h
  obtain ⟨i, j, rfl, rfl, q⟩ := h
  obtain ⟨t, rfl⟩ := rx
  obtain ⟨t', rfl⟩ := ry
  exact rule i j t t' s _ _ ⟨.bl (g i j), H, I, rfl, q⟩
noncomputable def CPow (i j : Int) : Prop := 0 ≤ j ∧ j ≤ 1000000 ∧ i.natAbs < 2 ^ 64
noncomputable def CMul (i j : Int) : Prop := (-(2 ^ 64) < i ∧ i < 2 ^ 64) ∨ (-(2 ^ 64) < j ∧ j < 2 ^ 64)
theorem CMul.ok {i j : Int} (h : CMul i j) : IntMulOk i j := by
  rcases h with ⟨h1, h2⟩ | ⟨h1, h2⟩
  · exact .of_left (intBits_le_64 h1 h2)
  · exact .of_right (intBits_le_64 h1 h2)
theorem op_add : OpR X (binaryOp .Add) (rI0 fun i j => .int (i + j)) := opI0 fun _ _ _ _ _ _ _ q => add_int q
theorem op_mul : OpR X (binaryOp .Mult) (rI CMul fun i j => .int (i * j)) := opI fun _ _ _ _ _ _ _ hc q => mul_int q hc.ok
theorem op_mod : OpR X (binaryOp .Mod) (rI (fun _ j => 0 < j) fun i j => .int (i % j)) := opI fun i j _ _ _ _ _ hc q => by
  have h1 : (0 : Int) < j := hc
  exact mod_int' (by omega) (by rw [Int.fmod_eq_emod_of_nonneg i (by omega)]; exact q)
theorem op_pow : OpR X (binaryOp .Pow) (rI CPow fun i j => .int (i ^ j.toNat)) := opI fun _ _ _ _ _ _ _ hc q => pow_int_small hc.1 hc.2.1 hc.2.2 q
end
noncomputable def scal : V → V → Bool
  | .non, .non => true | .non, .int _ => true | .int _, .non => true | .non, .bl _ => true | .bl _, .non => true | .non, .str _ => true | .str _, .non => true
  | .int _, .int _ => true | .bl _, .bl _ => true | .str _, .str _ => true | .byt _, .byt _ => true
  | .int _, .str _ => true | .str _, .int _ => true | .bl _, .str _ => true | .str _, .bl _ => true
  | _, _ => false
noncomputable def rNe : R2 := fun x y H Q => scal x y = true ∧ Q (.bl (!decide (x = y))) H
theorem dec_int {i j : Int} : decide (V.int i = V.int j) = (i == j) := by
  rw [Bool.eq_iff_iff]
  simp
theorem dec_bl {i j : Bool} : decide (V.bl i = V.bl j) = (i == j) := by
  rw [Bool.eq_iff_iff]
  simp
theorem dec_str {i j : Str} : decide (V.str i = V.str j) = (i == j) := by
  rw [Bool.eq_iff_iff]
  simp
theorem dec_byt {i j : Array UInt8} : decide (V.byt i = V.byt j) = (i.toList == j.toList) := by
  rw [Bool.eq_iff_iff]
  cases i
  cases j
  simp
section
variable {X : Cx} {a b c : Expr} {ta tb tc : TE} {pos : Pos}
theorem fin_bl {pins : List (Addr × Obj)} {σ : St} {H : Hp} {s : Shared} {Q : VK} {k k' : Bool} (I : Inv X pins σ H s) (q : Q (.bl k) H) (e : k = k') : EP X pins σ Q (.bool k') s := by
  subst e
  exact ⟨.bl k, H, I, rfl, q⟩
theorem op_ne : OpR X (compareOp .NotEq) rNe := by
  intro pins s σ H x y v u Q I rx ry h
  obtain ⟨hs, q⟩ := h
  cases x with
  | non =>
    cases rx
    cases y with
    | non => cases ry; exact PySem.EqNone.ne_none_none (fin_bl I q (by simp))
    | bl j => cases ry; exact PySem.EqNone.ne_none_bool (fin_bl I q (by simp))
    | int j => obtain ⟨t', rfl⟩ := ry; exact PySem.EqNone.ne_none_int (fin_bl I q (by simp))
    | str j => obtain ⟨t', rfl⟩ := ry; exact PySem.EqNone.ne_none_str (fin_bl I q (by simp))
    | _ => exact absurd (show false = true from hs) Bool.false_ne_true
  | bl i =>
    cases rx
    cases y with
    | non => cases ry; exact PySem.EqNone.ne_bool_none (fin_bl I q (by simp))
    | bl j => cases ry; exact ne_bool (fin_bl I q (congrArg not dec_bl))
    | str j => obtain ⟨t', rfl⟩ := ry; exact PySem.EqMixed.ne_bool_str (fin_bl I q (by simp))
    | _ => exact absurd (show false = true from hs) Bool.false_ne_true
  | int i =>
    obtain ⟨t, rfl⟩ := rx
    cases y with
    | non => cases ry; exact PySem.EqNone.ne_int_none (fin_bl I q (by simp))
    | int j => obtain ⟨t', rfl⟩ := ry; exact ne_int (fin_bl I q (congrArg not dec_int))
    | str j => obtain ⟨t', rfl⟩ := ry; exact PySem.EqMixed.ne_int_str (fin_bl I q (by simp))
    | _ => exact absurd (show false = true from hs) Bool.false_ne_true
  | str i =>
    obtain ⟨t, rfl⟩ := rx
    cases y with
    | non => cases ry; exact PySem.EqNone.ne_str_none (fin_bl I q (by simp))
    | bl j => cases ry; exact PySem.EqMixed.ne_str_bool (fin_bl I q (by simp))
    | int j => obtain ⟨t', rfl⟩ := ry; exact PySem.EqMixed.ne_str_int (fin_bl I q (by simp))
    | str j => obtain ⟨t', rfl⟩ := ry; exact ne_str (fin_bl I q (congrArg not dec_str))
    | _ => exact absurd (show false = true from hs) Bool.false_ne_true
  | byt i =>
    obtain ⟨t, rfl⟩ := rx
    cases y with
    | byt j => obtain ⟨t', rfl⟩ := ry; exact PySem.W.ne_bytes (fin_bl I q (congrArg not dec_byt))
    | _ => exact absurd (show false = true from hs) Bool.false_ne_true
  | _ => cases y <;> exact absurd (show false = true from hs) Bool.false_ne_true
theorem op_lt : OpR X (compareOp .Lt) (rI0 fun i j => .bl (decide (i < j))) := opB0 fun _ _ _ _ _ _ _ q => lt_int q
theorem op_le : OpR X (compareOp .LtE) (rI0 fun i j => .bl (decide (i ≤ j))) := opB0 fun _ _ _ _ _ _ _ q => le_int q
theorem op_gt : OpR X (compareOp .Gt) (rI0 fun i j => .bl (decide (j < i))) := opB0 fun _ _ _ _ _ _ _ q => gt_int q
theorem op_ge : OpR X (compareOp .GtE) (rI0 fun i j => .bl (decide (j ≤ i))) := opB0 fun _ _ _ _ _ _ _ q => ge_int q
theorem op_isN : OpR X (compareOp .Is) (fun x y H Q => y = .non ∧ Q (.bl (decide (x = .non))) H) := by
  intro pins s σ H x y v u Q I rx ry h
  obtain ⟨rfl, q⟩ := h
  cases ry
  refine is_none_gen (fin_bl I q ?_)
  cases x <;> first
    | (cases rx; rfl)
    | (obtain ⟨t, rfl⟩ := rx; rfl)
theorem op_notN : OpR X (compareOp .IsNot) (fun x y H Q => y = .non ∧ Q (.bl (!decide (x = .non))) H) := by
  intro pins s σ H x y v u Q I rx ry h
  obtain ⟨rfl, q⟩ := h
  cases ry
  refine isnot_none_gen (fin_bl I q ?_)
  cases x <;> first
    | (cases rx; rfl)
    | (obtain ⟨t, rfl⟩ := rx; rfl)
noncomputable def isObj : HO → Bool
  | .lst _ => true
  | .ins _ _ _ => true
  | _ => false
theorem OpR.or {f : Value → Value → Sem Value} {r r' : R2} (h : OpR X f r) (h' : OpR X f r') : OpR X f (fun x y H Q => r x y H Q ∨ r' x y H Q) := by
  intro pins s σ H x y v u Q I rx ry q
  rcases q with q | q
  · exact h pins s σ H x y v u Q I rx ry q
  · exact h' pins s σ H x y v u Q I rx ry q
theorem nomark (b : Expr) {op : CmpOp} (h : op ≠ .In := by decide) (h2 : op ≠ .NotIn := by decide) : behindInMarks op b = false := by
  have e1 : (op == CmpOp.In) = false := by cases op <;> first | rfl | exact absurd rfl h
  have e2 : (op == CmpOp.NotIn) = false := by cases op <;> first | rfl | exact absurd rfl h2
  cases b <;> simp [behindInMarks, e1, e2]
theorem pe_cmpR {op : CmpOp} {r : R2} (ho : OpR X (compareOp op) r) (ha : PE X a ta) (hb : PE X b tb) (hm : behindInMarks op b = false) : PE X (.Compare a [op] [b] pos) (tOp r ta tb) := by
  intro pins s σ H Q I h
  exact wpAny_Compare1 (binT ha hb I h fun v u s2 x y H2 I2 rx ry q => ho pins s2 σ H2 x y v u Q I2 rx ry q) hm
noncomputable def tTest (t : TE) : TT := fun σ H Q => t σ H fun x H' => ∃ k, x = .bl k ∧ Q k H'
theorem pt_cmpR {op : CmpOp} {r : R2} (ho : OpR X (compareOp op) r) (ha : PE X a ta) (hb : PE X b tb) (hm : behindInMarks op b = false) : PT X (.Compare a [op] [b] pos) (tTest (tOp r ta tb)) := by
  intro pins s σ H Q I h
  refine wpAny_isTrue_Compare1 (thn (ha pins s σ H _ I h) fun v s1 ⟨x, H1, I1, r1, q1⟩ => thn (hb pins s1 σ H1 _ I1 q1) fun u s2 ⟨y, H2, I2, r2, q2⟩ =>
    thn (ho pins s2 σ H2 x y v u _ I2 r1 r2 q2) fun c s3 ⟨z, H3, I3, r3, k, e, q3⟩ => ?_) hm
  subst e
  cases r3
  exact wpAny_truthy_bool ⟨H3, I3, q3⟩
noncomputable def tChain (r r' : R2) (ta tb tc : TE) : TE := fun σ H Q => ta σ H fun x H1 => tb σ H1 fun y H2 => r x y H2 fun z H3 => ∃ k, z = .bl k ∧
  (if k = true then tc σ H3 fun w' H4 => r' y w' H4 Q else Q (.bl false) H3)
theorem pe_chain {op op' : CmpOp} {r r' : R2} (ho : OpR X (compareOp op) r) (ho' : OpR X (compareOp op') r') (ha : PE X a ta) (hb : PE X b tb) (hc : PE X c tc)
    (hm : lastMarks [op, op'] [b, c] = false := by with_unfolding_all rfl) : PE X (.Compare a [op, op'] [b, c] pos) (tChain r r' ta tb tc) := by
  intro pins s σ H Q I h
  refine Compare_chain (thn (ha pins s σ H _ I h) fun v s1 ⟨x, H1, I1, r1, q1⟩ => chain_link (thn (hb pins s1 σ H1 _ I1 q1) fun u s2 ⟨y, H2, I2, r2, q2⟩ =>
    thn (ho pins s2 σ H2 x y v u _ I2 r1 r2 q2) fun d s3 ⟨z, H3, I3, r3, k, e, q3⟩ => ?_)) hm
  subst e
  cases r3
  refine wpAny_truthy_bool ?_
  cases k with
  | false => exact ite_ff ⟨.bl false, H3, I3, rfl, q3⟩
  | true => exact ite_tt (chain_last (thn (hc pins s3 σ H3 _ I3 q3) fun w' s4 ⟨z', H4, I4, r4, q4⟩ => ho' pins s4 σ H4 y z' u w' Q I4 r2 r4 q4))
theorem pt_chain {op op' : CmpOp} {r r' : R2} (ho : OpR X (compareOp op) r) (ho' : OpR X (compareOp op') r') (ha : PE X a ta) (hb : PE X b tb) (hc : PE X c tc)
    (hm : lastMarks [op, op'] [b, c] = false := by with_unfolding_all rfl) : PT X (.Compare a [op, op'] [b, c] pos) (tTest (tChain r r' ta tb tc)) := by
  intro pins s σ H Q I h
  refine isTrue_chain (thn (ha pins s σ H _ I h) fun v s1 ⟨x, H1, I1, r1, q1⟩ => test_link (thn (hb pins s1 σ H1 _ I1 q1) fun u s2 ⟨y, H2, I2, r2, q2⟩ =>
    thn (ho pins s2 σ H2 x y v u _ I2 r1 r2 q2) fun d s3 ⟨z, H3, I3, r3, k, e, q3⟩ => ?_)) hm
  subst e
  cases r3
  refine wpAny_truthy_bool ?_
  cases k with
  | false =>
    obtain ⟨k', e', q'⟩ := q3
    cases e'
    exact ite_ff ⟨H3, I3, q'⟩
  | true =>
    refine ite_tt (test_last (thn (hc pins s3 σ H3 _ I3 q3) fun w' s4 ⟨z', H4, I4, r4, q4⟩ => thn (ho' pins s4 σ H4 y z' u w' _ I4 r2 r4 q4) fun d' s5 ⟨z2, H5, I5, r5, k2, e2, q5⟩ => ?_))
    subst e2
    cases r5
    exact wpAny_truthy_bool ⟨H5, I5, q5⟩
noncomputable def TruV (K : PySem.W.Frag) (x : V) (H : Hp) (k : Bool) : Prop :=
  match x with
  | .non => k = false
  | .bl b => k = b
  | .int i => k = (i != 0)
  | .str y => y.length ≤ sizeLine ∧ k = ((y.length : Int) != 0)
  | .byt y => y.size ≤ sizeLine ∧ k = ((y.size : Int) != 0)
  | .ref p => (∃ xs, SqL K H p xs ∧ k = !xs.isEmpty) ∨ (∃ xs, SqT K H p xs ∧ k = !xs.isEmpty) ∨ ∃ kvs, H p = some (.dK kvs) ∧ k = !kvs.isEmpty
  | _ => False
theorem isEmpty_kv {κ : Type} {kvs : List (κ × V)} {vs : List (κ × Value)} (r : KV kvs vs) : (!vs.isEmpty) = !kvs.isEmpty := by
  cases r <;> rfl
theorem isEmpty_of {xs : List V} {its : List Value} (r : Vals xs its) : (!its.toArray.isEmpty) = !xs.isEmpty := by
  cases r <;> simp
theorem line63 : (sizeLine : Nat) < 2 ^ 63 := by rw [sizeLine_eq]; decide
theorem tru_ok : TruR X (fun x H Q => ∃ k, TruV X.K x H k ∧ Q k H) := by
  intro pins s σ H x v Q I rx h
  obtain ⟨k, e, q⟩ := h
  have hl := line63
  have hs : sizeLine = 16777216 := sizeLine_eq
  cases x with
  | non =>
    cases rx
    have e' : k = false := e
    subst e'
    exact truthy_none ⟨H, I, q⟩
  | bl b =>
    cases rx
    have e' : k = b := e
    subst e'
    exact wpAny_truthy_bool ⟨H, I, q⟩
  | int i =>
    obtain ⟨t, rfl⟩ := rx
    have e' : k = (i != 0) := e
    subst e'
    exact PySem.P.truthy_int ⟨H, I, q⟩
  | str y =>
    obtain ⟨t, rfl⟩ := rx
    obtain ⟨hy, e'⟩ : y.length ≤ sizeLine ∧ k = ((y.length : Int) != 0) := e
    subst e'
    exact PySem.P.truthy_str (by omega) ⟨H, I.tok _, q⟩
  | byt y =>
    obtain ⟨t, rfl⟩ := rx
    obtain ⟨hy, e'⟩ : y.size ≤ sizeLine ∧ k = ((y.size : Int) != 0) := e
    subst e'
    exact PySem.W.truthy_bytes (by omega) ⟨H, I.tok _, q⟩
  | ref p =>
    cases rx
    have e' : (∃ xs, SqL X.K H p xs ∧ k = !xs.isEmpty) ∨ (∃ xs, SqT X.K H p xs ∧ k = !xs.isEmpty) ∨ ∃ kvs, H p = some (.dK kvs) ∧ k = !kvs.isEmpty := e
    rcases e' with ⟨xs, hx, e'⟩ | ⟨xs, hx, e'⟩ | ⟨kvs, hx, e'⟩
    · subst e'
      obtain ⟨its, r, pl, hz⟩ := I.list hx
      have hlen := r.length
      exact wpAny_truthy_list pl.isList (by simp only [List.size_toArray]; omega) ⟨H, I.tok _, by rw [isEmpty_of r]; exact q⟩
    · subst e'
      obtain ⟨its, r, pl, hz⟩ := I.tuple hx
      have hlen := r.length
      exact truthy_tuple pl (by simp only [List.size_toArray]; omega) ⟨H, I.tok _, by rw [isEmpty_of r]; exact q⟩
    · subst e'
      obtain ⟨hz, hS, vs, r, m⟩ : kvs.length ≤ sizeLine ∧ (p == sysModules) = false ∧ ∃ vs, KV kvs vs ∧ s.heap.DictOf (mixKind X.prog X.w) p vs := I.hok p _ hx
      have hlen : kvs.length = vs.length := Paired.length r
      exact wpAny_truthy_dict hS m (by omega) ⟨H, I.tok _, by rw [isEmpty_kv r]; exact q⟩
  | _ => exact (show False from e).elim
theorem pt_truth (ha : PE X a ta) (he : ∀ whole, isTrue a X.env whole = (do let v ← whole; standAt a.pos; holding [v] (truthy v))) :
    PT X a (fun σ H Q => ta σ H fun x H' => ∃ k, TruV X.K x H' k ∧ Q k H') := by
  intro pins s σ H Q I h
  exact isTrue_plain (thn (ha pins s σ H _ I h) fun v s1 ⟨x, H1, I1, r1, q1⟩ => tru_ok pins s1 σ H1 x v Q I1 r1 q1) (he _)
theorem op_add_str : OpR X (binaryOp .Add) (fun x y H Q => ∃ i j, x = .str i ∧ y = .str j ∧ i.length + j.length ≤ sizeLine ∧ Q (.str (i ++ j)) H) := by
  intro pins s σ H x y v u Q I rx ry h
  obtain ⟨i, j, rfl, rfl, hz, q⟩ := h
  obtain ⟨t, rfl⟩ := rx
  obtain ⟨t', rfl⟩ := ry
  exact add_str (fun t' tk => ⟨.str (i ++ j), H, I.tok _, ⟨_, rfl⟩, q⟩) hz
theorem vals1 {x : V} {us : List Value} (r : Vals [x] us) : ∃ u, us = [u] ∧ RelV x u := by
  cases r with
  | cons r1 r2 => cases r2; exact ⟨_, rfl, r1⟩
theorem call_int1 : CallR X (.type "int") (fun xs H Q => (∃ i, xs = [.int i] ∧ Q (.int i) H) ∨ ∃ k, xs = [.bl k] ∧ Q (.int (if k then 1 else 0)) H) := by
  intro pins s σ H xs us Q I r h
  rcases h with ⟨i, rfl, q⟩ | ⟨k, rfl, q⟩
  · obtain ⟨u, rfl, t, rfl⟩ := vals1 r
    exact call_int_int ⟨.int i, H, I, ⟨_, rfl⟩, q⟩
  · obtain ⟨u, rfl, r1⟩ := vals1 r
    cases r1
    exact call_int_bool ⟨.int (if k then 1 else 0), H, I.tok _, ⟨_, rfl⟩, q⟩
theorem call_str_int : CallR X (.type "str") (fun xs H Q => ∃ i, xs = [.int i] ∧ i.natAbs.log2 < 1920 ∧ Q (.str (toString i)) H) := by
  intro pins s σ H xs us Q I r h
  obtain ⟨i, rfl, hz, q⟩ := h
  obtain ⟨u, rfl, t, rfl⟩ := vals1 r
  exact PySem.P.str_of_int hz ⟨.str _, H, I.tok _, ⟨_, rfl⟩, q⟩
end
end L2
namespace L2
open PySem PySem.Spec PyProof.Rows
structure ObjM (h : Heap) (x dx C : Addr) (mA : Str → Option Value) : Prop where
  obj : h.get? x = some (PySem.W.instObj C dx)
  ns : h.Ns1 dx mA
  ne : dx ≠ x
theorem lookIn_ns {h : Heap} {dx : Addr} {mA : Str → Option Value} (n : h.Ns1 dx mA) : ∃ od, h.get? dx = some od ∧ ∀ name, PySem.W.lookIn name od = some (mA name) := by
  obtain ⟨o, es, ep, ho, hd, hk, _, hm⟩ := n
  refine ⟨o, ho, fun name => ?_⟩
  have e := hm name
  unfold nsFind findBy at e
  rw [← Array.find?_toList] at e
  unfold PySem.W.lookIn
  rw [hd]
  dsimp only
  split
  · rename_i y q
    rw [q] at e
    exact congrArg some e
  · rename_i q
    rw [q] at e
    have a : es.toList.any (·.refKey) = false := by
      rw [List.any_eq_false]
      intro y hy
      obtain ⟨z, t, hkey⟩ := hk y (Array.mem_toList_iff.mp hy)
      simp [DictEntry.refKey, hkey]
    have a' : ¬ es.toList.any (·.refKey) = true := by rw [a]; exact Bool.false_ne_true
    rw [if_neg a']
    exact congrArg some e
theorem ObjM.look {h : Heap} {x dx C : Addr} {mA : Str → Option Value} (I : ObjM h x dx C mA) : ∃ od, PySem.W.InstAt h x (PySem.W.instObj C dx) C (some od) ∧ ∀ name, PySem.W.lookIn name od = some (mA name) :=
  let ⟨od, ho, hl⟩ := lookIn_ns I.ns
  ⟨od, ⟨I.obj, rfl, rfl, ho⟩, hl⟩
section
variable {prog : Program} {w : World} {A : Around} {E : Value → Shared → Prop} {s : Shared} {K : PySem.W.Frag} {x dx C f : Addr} {mA : Str → Option Value} {name : Str} {v : Value}
theorem get_map {expr : Bool} {Q : Value → Shared → Prop} (X : K.In s.heap) (I : ObjM s.heap x dx C mA) (hg : PySem.W.plainGet K C name = true) (hh : PySem.W.hasDictIn K C = true)
    (ha : PySem.W.findIn K (.ref C) name = some none) (hv : mA name = some v) (hv' : PySem.W.handedIn v = true) (h : Q v { s with toks := s.toks + 1 }) :
    wpAny (model prog w) A (getAttr (.ref x) name expr) Q E s := by
  obtain ⟨od, J, hl⟩ := I.look
  exact PySem.W.get_value X J (PySem.W.plainGet_of hg).1 (PySem.W.findObj_own hh ha rfl (by rw [hl, hv])) hv' h
theorem get_meth {pl : Sem Bool} {Q : Value × List Value → Shared → Prop} (X : K.In s.heap) (I : ObjM s.heap x dx C mA) (hg : PySem.W.plainGet K C name = true)
    (hf : PySem.W.findIn K (.ref C) name = some (some (.ref f))) (ht : PySem.W.isFn K (.ref f) = true) (hv : mA name = none) (h : Q (.ref f, [.ref x]) s) :
    wpAny (model prog w) A (getMethod (.ref x) name pl) Q E s := by
  obtain ⟨od, J, hl⟩ := I.look
  exact PySem.W.method_fn X J (PySem.W.plainGet_of hg).1 (PySem.W.plainGet_of hg).2 hf (beq_iff_eq.mp ht) (by show (PySem.W.lookIn name od).map (·.isSome) = some false; rw [hl, hv]; rfl) h
theorem set_map {ns : List Str} {Q : Unit → Shared → Prop} (X : K.In s.heap) (I : ObjM s.heap x dx C mA)
    (hs : PySem.W.findIn K (.ref C) "__setattr__" = some (some (.builtin "object.__setattr__"))) (hp : PySem.W.plainOver K C = true) (ht : PySem.W.takerIn K C name = some none) (hh : PySem.W.hasDictIn K C = true)
    (hw : PySem.Within mA ns) (hsz : ns.length ≤ sizeLine)
    (h : ∀ h', ObjM h' x dx C (fun y => if y = name then some v else mA y) → Heap.SameBut dx s.heap h' → Q () { s with heap := h', toks := s.toks + 2 }) :
    wpAny (model prog w) A (setAttr (.ref x) name v) Q E s := by
  obtain ⟨od, J, hl⟩ := I.look
  refine PySem.W.set_plain X J hs (PySem.W.osa_open (s := { s with toks := s.toks + 1 }) (r := none) X J hp ht fun b => ?_)
  obtain ⟨cd, hc, hd'⟩ := PySem.W.any_some hh
  have hx : s.heap.get? x = some ⟨.ref C, some dx, .plain, #[]⟩ := I.obj
  refine wpAny_bind (wpAny_pure (wpAny_bind (wpAny_bind (wpAny_loadPart hx (wpAny_bind (PySem.W.Looks.here (s := { s with toks := s.toks + 1 }) (PySem.W.looks_clsIn X hc) ?_))))))
  rw [hd']
  refine wpAny_pure (a := some dx) (wpAny_bind (wpAny_pure (wpAny_bind ?_)))
  refine wpAny_nsSet1 (s := { s with toks := s.toks + 1 }) I.ns fun h' hn2 hs2 => ?_
  obtain ⟨oD, esD, epD, hoD, hdD, hcD⟩ := hn2.count (PySem.Within.cons name v hw)
  refine wpAny_bind (wpAny_lookBehind hoD (by rw [hdD]; exact pastItsLine_dict (Nat.le_trans hcD (by rw [List.length_cons]; omega))) ?_)
  exact wpAny_pure (h _ ⟨(hs2.2 _ (Ne.symm I.ne)).trans I.obj, hn2, I.ne⟩ hs2)
theorem make_map {R : Result → Shared → Prop} {vs : List Value} {kw : List (Str × Value)} (X : K.In s.heap) (hm : PySem.W.makesIn K C = true)
    (hi : PySem.W.findIn K (.ref C) "__init__" = some (some (.ref f))) (hf : PySem.W.typeIn K (.ref f) = some (.type "function"))
    (h : codeAny (model prog w) (A.under (.builtin "type.__call__" ⟨.ref C :: vs, kw⟩)) (.call (.ref f) ⟨.ref (s.heap.objs.size + 1) :: vs, kw⟩) (PySem.W.InitBack (s.heap.objs.size + 1) R)
      { s with heap := (s.heap.push PySem.W.emptyDict).push (PySem.W.instObj C s.heap.objs.size) }) :
    codeAny (model prog w) A (.call (.ref C) ⟨vs, kw⟩) R s := by
  obtain ⟨hh, g, d, t, os⟩ := s
  exact PySem.W.make_core (PySem.W.makes_of X hm) (PySem.W.looks_findIn X hi) (fun self => PySem.W.bind_fn X self hf) (.inl rfl) h
end
noncomputable def putF (f : Str) (v : V) : List (Str × V) → List (Str × V)
  | [] => [(f, v)]
  | (g, x) :: r => if g = f then (g, v) :: r else (g, x) :: putF f v r
theorem lookup_putF (f g : Str) (v : V) : ∀ fs : List (Str × V), (putF f v fs).lookup g = if g = f then some v else fs.lookup g
  | [] => by
    show List.lookup g [(f, v)] = _
    by_cases h : g = f
    · have hb : (g == f) = true := beq_iff_eq.mpr h
      simp only [List.lookup, hb, if_pos h]
    · have hb : (g == f) = false := beq_eq_false_iff_ne.mpr h
      simp only [List.lookup, hb, if_neg h]
  | (k, x) :: r => by
    have ih := lookup_putF f g v r
    rw [show putF f v ((k, x) :: r) = (if k = f then (k, v) :: r else (k, x) :: putF f v r) from rfl]
    by_cases hk : k = f
    · rw [if_pos hk]
      by_cases h : g = k
      · have hb : (g == k) = true := beq_iff_eq.mpr h
        simp only [List.lookup, hb, if_pos (h.trans hk)]
      · have hb : (g == k) = false := beq_eq_false_iff_ne.mpr h
        simp only [List.lookup, hb, if_neg (fun e : g = f => h (e.trans hk.symm))]
    · rw [if_neg hk]
      by_cases h : g = k
      · have hb : (g == k) = true := beq_iff_eq.mpr h
        simp only [List.lookup, hb, if_neg (fun e : g = f => hk (h.symm.trans e))]
      · have hb : (g == k) = false := beq_eq_false_iff_ne.mpr h
        simp only [List.lookup, hb]
        exact ih
theorem keys_putF (f : Str) (v : V) : ∀ fs : List (Str × V), f ∈ (putF f v fs).map (·.1) ∧ ∀ g, g ∈ fs.map (·.1) → g ∈ (putF f v fs).map (·.1)
  | [] => ⟨by simp [putF], fun g h => by simp at h⟩
  | (k, x) :: r => by
    obtain ⟨i1, i2⟩ := keys_putF f v r
    rw [show putF f v ((k, x) :: r) = (if k = f then (k, v) :: r else (k, x) :: putF f v r) from rfl]
    by_cases hk : k = f
    · rw [if_pos hk]
      subst hk
      exact ⟨by simp, fun g h => by simpa using h⟩
    · rw [if_neg hk]
      refine ⟨?_, fun g h => ?_⟩
      · rw [List.map_cons]
        exact List.mem_cons_of_mem _ i1
      · rw [List.map_cons] at h ⊢
        rcases List.mem_cons.mp h with e | e
        · exact List.mem_cons.mpr (.inl e)
        · exact List.mem_cons_of_mem _ (i2 g e)
theorem length_putF (f : Str) (v : V) : ∀ fs : List (Str × V), (putF f v fs).length ≤ fs.length + 1
  | [] => by simp [putF]
  | (k, x) :: r => by
    have ih := length_putF f v r
    rw [show putF f v ((k, x) :: r) = (if k = f then (k, v) :: r else (k, x) :: putF f v r) from rfl]
    by_cases hk : k = f
    · rw [if_pos hk, List.length_cons, List.length_cons]; omega
    · rw [if_neg hk, List.length_cons, List.length_cons]; omega
theorem RelO.some_of {v : V} {o : Option Value} (r : RelO (some v) o) : ∃ u, o = some u ∧ RelV v u := by
  cases o with
  | none => exact (show False from r).elim
  | some u => exact ⟨u, rfl, r⟩
theorem RelO.none_of {o : Option Value} (r : RelO none o) : o = none := by
  cases o with
  | none => rfl
  | some u => exact (show False from r).elim
theorem handed_of {v : V} {u : Value} (r : RelV v u) : PySem.W.handedIn u = true := by
  cases v with
  | non => cases (show u = Value.none from r); rfl
  | bl b => cases (show u = Value.bool b from r); rfl
  | int i => obtain ⟨t, e⟩ := (show ∃ t, u = Value.int i t from r); cases e; rfl
  | str x => obtain ⟨t, e⟩ := (show ∃ t, u = Value.str x t from r); cases e; rfl
  | byt b => obtain ⟨t, e⟩ := (show ∃ t, u = Value.bytes b t from r); cases e; rfl
  | flt b => obtain ⟨t, e⟩ := (show ∃ t, u = Value.float b t from r); cases e; rfl
  | ref a => cases (show u = Value.ref a from r); rfl
  | ty n => cases (show u = Value.type n from r); rfl
section
variable {P : Program} {w : World} {H H' : Hp} {h h' : Heap} {a C dx : Addr} {fs fs' : List (Str × V)}
theorem ins_get (hok : HOk P w H h) (e : H a = some (.ins C dx fs)) : ∃ mA, ObjM h a dx C mA ∧ (∀ f, RelO (fs.lookup f) (mA f)) ∧ PySem.Within mA (fs.map (·.1)) ∧ fs.length ≤ 1000 ∧ H dx = some (.own a) := by
  obtain ⟨d, z, ne, ob, mA, n, r, q⟩ := (show ObjOk P w H h a (.ins C dx fs) from hok a _ e)
  exact ⟨mA, ⟨ob, n, ne⟩, r, q, z, d⟩
end
structure Cls (K : PySem.W.Frag) (C : Addr) : Prop where
  pg : PySem.W.plainGet K C Str.empty = true
  hd : PySem.W.hasDictIn K C = true
  po : PySem.W.plainOver K C = true
  sa : PySem.W.findIn K (.ref C) "__setattr__" = some (some (.builtin "object.__setattr__"))
theorem Cls.get {K : PySem.W.Frag} {C : Addr} (c : Cls K C) (f : Str) : PySem.W.plainGet K C f = true := c.pg
noncomputable def NoAttr (K : PySem.W.Frag) (C : Addr) (f : Str) : Prop := PySem.W.findIn K (.ref C) f = some none
theorem NoAttr.taker {K : PySem.W.Frag} {C : Addr} {f : Str} (n : NoAttr K C f) : PySem.W.takerIn K C f = some none := by
  unfold PySem.W.takerIn
  rw [show PySem.W.findIn K (.ref C) f = some none from n]
  rfl
structure Con (K : PySem.W.Frag) (C : Addr) (f : Str) (v : V) (u : Value) : Prop where
  at_ : PySem.W.findIn K (.ref C) f = some (some u)
  rel : RelV v u
  get : PySem.W.specialIn K u "__get__" = some none
  cp : PySem.W.copiedNames.contains f = false
structure Meth (K : PySem.W.Frag) (C : Addr) (m : Str) (f : Addr) : Prop where
  at_ : PySem.W.findIn K (.ref C) m = some (some (.ref f))
  fn : PySem.W.isFn K (.ref f) = true
  kp : PySem.W.keepIn K (.ref f) = true
section
variable {X : Cx} {pins : List (Addr × Obj)} {σ : St} {H : Hp} {s : Shared} {a C dx : Addr} {fs : List (Str × V)} {f : Str} {v : V} {A : Around} {E : Value → Shared → Prop}
theorem getattr_ok {b : Bool} {Q : Value → Shared → Prop} (I : Inv X pins σ H s) (e : H a = some (.ins C dx fs)) (c : Cls X.K C) (n : NoAttr X.K C f) (l : fs.lookup f = some v)
    (h : ∀ u s', Inv X pins σ H s' → RelV v u → Q u s') : wpAny (model X.prog X.w) A (getAttr (.ref a) f b) Q E s := by
  obtain ⟨mA, O, r, _, _, _⟩ := ins_get I.hok e
  obtain ⟨u, hu, ru⟩ := RelO.some_of (v := v) (o := mA f) (by rw [← l]; exact r f)
  exact get_map I.kIn O (c.get f) c.hd n hu (handed_of ru) (h u _ (I.tok _) ru)
theorem getmeth_ok {m : Str} {g : Addr} {pl : Sem Bool} {Q : Value × List Value → Shared → Prop} (I : Inv X pins σ H s) (e : H a = some (.ins C dx fs)) (c : Cls X.K C) (k : Meth X.K C m g) (l : fs.lookup m = none)
    (h : Q (.ref g, [.ref a]) s) : wpAny (model X.prog X.w) A (getMethod (.ref a) m pl) Q E s := by
  obtain ⟨mA, O, r, _, _, _⟩ := ins_get I.hok e
  have hn : mA m = none := RelO.none_of (by rw [← l]; exact r m)
  exact get_meth I.kIn O (c.get m) k.at_ k.fn hn h
theorem setattr_ok {y : V} {u : Value} {Q : Unit → Shared → Prop} (I : Inv X pins σ H s) (e : H a = some (.ins C dx fs)) (c : Cls X.K C) (n : NoAttr X.K C f) (hl : fs.length < 1000) (ry : RelV y u)
    (h : ∀ s', Inv X pins σ (upd H a (.ins C dx (putF f y fs))) s' → Q () s') : wpAny (model X.prog X.w) A (setAttr (.ref a) f u) Q E s := by
  obtain ⟨mA, O, r, wi, _, ho⟩ := ins_get I.hok e
  have hz : (fs.map (·.1)).length ≤ sizeLine := by rw [List.length_map, sizeLine_eq]; omega
  refine set_map I.kIn O c.sa c.po n.taker c.hd wi hz fun h' O' sb => h _ ?_
  have hd : ∃ o, h'.get? dx = some o := let ⟨o, _, _, e', _⟩ := O'.ns; ⟨o, e'⟩
  refine I.write (x := a) (e := dx) (by rw [e]; exact True.intro) (.inr ho) (fun b q hb z => (sb.2 b hb).trans z) hd ?_
  refine ⟨by rw [upd_ne O.ne]; exact ho, ?_, O.ne, O'.obj, _, O'.ns, fun g => ?_, fun g hg => ?_⟩
  · have := length_putF f y fs; omega
  · show RelO ((putF f y fs).lookup g) (if g = f then some u else mA g)
    rw [lookup_putF]
    by_cases q : g = f
    · rw [if_pos q, if_pos q]; exact ry
    · rw [if_neg q, if_neg q]; exact r g
  · by_cases q : g = f
    · rw [q]; exact (keys_putF f y fs).1
    · refine (keys_putF f y fs).2 g (wi g fun z => hg ?_)
      show (if g = f then some u else mA g) = none
      rw [if_neg q]; exact z
theorem Inv.made (I : Inv X pins σ H s) : Inv X pins σ (upd (upd H s.heap.objs.size (.own (s.heap.objs.size + 1))) (s.heap.objs.size + 1) (.ins C s.heap.objs.size []))
    { s with heap := (s.heap.push PySem.W.emptyDict).push (PySem.W.instObj C s.heap.objs.size) } := by
  have e1 : (s.heap.push PySem.W.emptyDict).get? s.heap.objs.size = some PySem.W.emptyDict := Heap.get?_push_size s.heap rfl
  have e2 : ((s.heap.push PySem.W.emptyDict).push (PySem.W.instObj C s.heap.objs.size)).get? (s.heap.objs.size + 1) = some (PySem.W.instObj C s.heap.objs.size) := by
    have := Heap.get?_push_size (s.heap.push PySem.W.emptyDict) (o := PySem.W.instObj C s.heap.objs.size) rfl
    rwa [Heap.size_push] at this
  have e3 : (s.heap.push PySem.W.emptyDict).Ns s.heap.objs.size (fun _ => none) := ⟨PySem.W.emptyDict, #[], _, e1, rfl, (fun e he => absurd he (by simp)), fun _ => rfl⟩
  have I1 := I.laid (a := s.heap.objs.size) (o := .own (s.heap.objs.size + 1)) (h' := s.heap.push PySem.W.emptyDict) (t' := s.toks) (fun b u q => Heap.get?_push_of_some _ q) (Nat.le_refl _) ⟨_, e1⟩
  refine I1.laid (a := s.heap.objs.size + 1) (o := .ins C s.heap.objs.size []) (t' := s.toks) (fun b u q => Heap.get?_push_of_some _ q) (Nat.le_of_eq (Heap.size_push _ _)) ?_
  have ne : s.heap.objs.size ≠ s.heap.objs.size + 1 := Nat.ne_of_lt (Nat.lt_succ_self _)
  refine ⟨by rw [upd_ne ne, upd_same], Nat.zero_le _, ne, e2, fun _ => none, (Heap.Ns1.of_empty e3).at fun o q => Heap.get?_push_of_some _ q, fun _ => True.intro, fun y hy => absurd rfl hy⟩
theorem attr_of {prog : Program} {w : World} {env : Env} {e : Expr} {f : Str} {pos : Pos} {s : Shared} {Q : Value → Shared → Prop} (hb : attributeBase e f env (eval e env) = eval e env)
    (h : wpAny (model prog w) A (eval e env) (fun o s₁ => wpAny (model prog w) A (getAttr o f true) Q E s₁) E s) : wpAny (model prog w) A (eval (.Attribute e f pos) env) Q E s :=
  Attribute_any_ h (by rw [arm_eval_Attribute, hb])
end
noncomputable def tFld (K : PySem.W.Frag) (ta : TE) (f : Str) : TE := fun σ H Q => ta σ H fun x H1 => ∃ a C dx fs v, x = .ref a ∧ H1 a = some (.ins C dx fs) ∧ Cls K C ∧ NoAttr K C f ∧ fs.lookup f = some v ∧ Q v H1
noncomputable def sFld (K : PySem.W.Frag) (ta tv : TE) (f : Str) : TS := fun D σ H => tv σ H fun y H1 => ta σ H1 fun x H2 => ∃ a C dx fs, x = .ref a ∧ H2 a = some (.ins C dx fs) ∧ Cls K C ∧ NoAttr K C f ∧ fs.length < 1000 ∧
  D.nx σ (upd H2 a (.ins C dx (putF f y fs)))
section
variable {X : Cx} {o e value : Expr} {f : Str} {pos pos' tpos : Pos} {ta tv : TE}
theorem pe_fld (he : PE X e ta) (hb : attributeBase e f X.env (eval e X.env) = eval e X.env) : PE X (.Attribute e f pos) (tFld X.K ta f) := by
  intro pins s σ H Q I h
  refine attr_of hb (thn (he pins s σ H _ I h) fun u s1 ⟨x, H1, I1, rx, a, C, dx, fs, v, ex, ea, c, n, l, q⟩ => ?_)
  subst ex
  obtain rfl : u = Value.ref a := rx
  exact getattr_ok I1 ea c n l fun u' s2 I2 ru => ⟨v, H1, I2, ru, q⟩
theorem ps_fld (ha : PE X o ta) (hv : PE X value tv) (hs : swapsWith value (some (.Attribute o f pos')) pos.line X.env = pure false) : PS X (.Assign [.Attribute o f pos'] value pos) (sFld X.K ta tv f) := by
  intro pins s σ H D I h
  refine plainObj_wpAny_Assign_Attribute (thn (hv pins s σ H _ I h) fun u s1 ⟨y, H1, I1, ry, q⟩ => thn (ha pins s1 σ H1 _ I1 q) fun ov s2 ⟨x, H2, I2, rx, a, C, dx, fs, ex, ea, c, n, l, q2⟩ => ?_) hs
  subst ex
  obtain rfl : ov = Value.ref a := rx
  exact setattr_ok I2 ea c n l ry fun s3 I3 => ⟨σ, _, I3, q2⟩
theorem methcall_of {pl : Sem Bool} {m : Str} {apos : Pos} {args : List Expr} {pins : List (Addr × Obj)} {s : Shared} {σ : St} {H : Hp} {Q : Value → Shared → Prop} {te : TE} (he : PE X e te) (I : Inv X pins σ H s)
    (h : te σ H fun x H1 => ∃ a C dx fs g, x = .ref a ∧ H1 a = some (.ins C dx fs) ∧ Cls X.K C ∧ Meth X.K C m g ∧ fs.lookup m = none ∧
      ∀ s1, Inv X pins σ H1 s1 → wpAny (model X.prog X.w) X.A (callWith pos (.ref g) [.ref a] (backTo pos (starEach args X.env)) (backToKw pos (keywordEach [] X.env))) Q X.xe s1)
    (ht : eval (.Call (.Attribute e m apos) args [] pos) X.env = (do
      let ov ← eval e X.env
      standAt apos.atName
      let (f, first) ← holding [ov] (getMethod ov m pl)
      callWith pos f first (backTo pos (starEach args X.env)) (backToKw pos (keywordEach [] X.env)))) :
    wpAny (model X.prog X.w) X.A (eval (.Call (.Attribute e m apos) args [] pos) X.env) Q X.xe s := by
  refine PySem.W.methodCall_KW (pl := pl) (thn (he pins s σ H _ I h) fun u s1 ⟨x, H1, I1, rx, a, C, dx, fs, g, ex, ea, c, k, l, q⟩ => ?_) ht
  subst ex
  obtain rfl : u = Value.ref a := rx
  exact getmeth_ok I1 ea c k l (q s1 I1)
end
section
variable {X : Cx} {pins : List (Addr × Obj)} {σ : St} {H : Hp} {s : Shared} {A : Around} {E : Value → Shared → Prop} {Q : Value → Shared → Prop} {c : Value} {b : Bool}
inductive TyOf (K : PySem.W.Frag) (H : Hp) : V → Value → Prop where
  | non : TyOf K H .non (.type "NoneType")
  | bl (x : Bool) : TyOf K H (.bl x) (.type "bool")
  | int (i : Int) : TyOf K H (.int i) (.type "int")
  | str (x : Str) : TyOf K H (.str x) (.type "str")
  | flt (x : UInt64) : TyOf K H (.flt x) (.type "float")
  | lst {a : Addr} {xs : List V} (e : H a = some (.lst xs)) : TyOf K H (.ref a) (.type "list")
  | frz {a : Addr} {o : Obj} {xs : List V} (e : H a = some (.frz o (.lst xs))) : TyOf K H (.ref a) (.type "list")
  | tup {a : Addr} {xs : List V} (e : H a = some (.tup xs)) : TyOf K H (.ref a) (.type "tuple")
  | dK {a : Addr} {kvs : List (Key × V)} (e : H a = some (.dK kvs)) : TyOf K H (.ref a) (.type "dict")
  | dT {a : Addr} {kvs : List (List Key × V)} (e : H a = some (.dT kvs)) : TyOf K H (.ref a) (.type "dict")
  | ins {a C dx : Addr} {fs : List (Str × V)} (e : H a = some (.ins C dx fs)) (cl : Cls K C) (ha : PySem.W.findIn K (.ref C) "__class__" = some (some (.builtin "object.__class__")))
      (hn : PySem.W.specialIn K (.builtin "object.__class__") "__get__" = some (some (.builtin "getset_descriptor.__get__"))) (htk : PySem.W.takesIn K (.builtin "object.__class__") = some true)
      (hm : PySem.W.mroIn K C (.type "object") = some true) : TyOf K H (.ref a) (.ref C)
theorem isinst_ok {x : V} {u t : Value} (I : Inv X pins σ H s) (rx : RelV x u) (ty : TyOf X.K H x t) (e : PySem.W.kitOne X.K t c = some b) (h : ∀ tk, Q (.bool b) { s with toks := tk }) :
    wpAny (model X.prog X.w) A (call (.builtin "isinstance") [u, c]) Q E s := by
  cases ty with
  | non => cases (show u = Value.none from rx); exact PySem.W.kia_one PySem.W.kitx_none I.kIn True.intro e (fun z => nomatch z) h
  | bl y => cases (show u = Value.bool y from rx); exact PySem.W.kia_one PySem.W.kitx_bool I.kIn True.intro e (fun z => nomatch z) h
  | int i => obtain ⟨t, q⟩ := (show ∃ t, u = Value.int i t from rx); cases q; exact PySem.W.kia_one PySem.W.kitx_int I.kIn True.intro e (fun z => nomatch z) h
  | str y => obtain ⟨t, q⟩ := (show ∃ t, u = Value.str y t from rx); cases q; exact PySem.W.kia_one PySem.W.kitx_str I.kIn True.intro e (fun z => nomatch z) h
  | flt y => obtain ⟨t, q⟩ := (show ∃ t, u = Value.float y t from rx); cases q; exact PySem.W.kia_one PySem.W.kitx_float I.kIn True.intro e (fun z => nomatch z) h
  | @lst a xs ea =>
    cases (show u = Value.ref a from rx)
    obtain ⟨_, _, n, _, h1⟩ := (show ObjOk X.prog X.w H s.heap a (.lst xs) from I.hok a _ ea)
    exact PySem.W.kia_one PySem.W.kitx_list I.kIn ⟨_, h1, rfl⟩ e (fun z => nomatch z) h
  | @frz a ob xs ea =>
    cases (show u = Value.ref a from rx)
    obtain ⟨_, _, _, n, _, h1⟩ := (show ObjOk X.prog X.w H s.heap a (.frz ob (.lst xs)) from I.hok a _ ea)
    exact PySem.W.kia_one PySem.W.kitx_list I.kIn ⟨_, h1, rfl⟩ e (fun z => nomatch z) h
  | @tup a xs ea =>
    cases (show u = Value.ref a from rx)
    obtain ⟨_, _, _, p⟩ := (show ObjOk X.prog X.w H s.heap a (.tup xs) from I.hok a _ ea)
    obtain ⟨o, h1, h2, _⟩ := p
    exact PySem.W.kia_one PySem.W.kitx_tuple I.kIn ⟨o, h1, h2⟩ e (fun z => nomatch z) h
  | @dK a kvs ea =>
    cases (show u = Value.ref a from rx)
    obtain ⟨_, _, vs, _, p⟩ := (show ObjOk X.prog X.w H s.heap a (.dK kvs) from I.hok a _ ea)
    obtain ⟨o, es, ep, h1, h2, _⟩ := p
    exact PySem.W.kia_one PySem.W.kitx_dict I.kIn ⟨o, h1, h2.1⟩ e (fun z => nomatch z) h
  | @dT a kvs ea =>
    cases (show u = Value.ref a from rx)
    obtain ⟨_, _, xs, _, o, es, ep, h1, h2, _⟩ := (show ObjOk X.prog X.w H s.heap a (.dT kvs) from I.hok a _ ea)
    exact PySem.W.kia_one PySem.W.kitx_dict I.kIn ⟨o, h1, h2.1⟩ e (fun z => nomatch z) h
  | @ins a C dx fs ea cl ha hn htk hm =>
    cases (show u = Value.ref a from rx)
    obtain ⟨mA, O, _⟩ := ins_get I.hok ea
    obtain ⟨od, J, _⟩ := O.look
    exact PySem.W.kia_one (PySem.W.kitx_own (cl.get _) cl.hd ha hn htk hm) I.kIn J e (fun z => nomatch z) h
end
end L2
namespace L2
open PySem PySem.Spec PyProof.Rows
structure Room (k : Nat) (A : Around) : Prop where
  hd : A.handled = none
  dp : A.depth + 3 * k + 5 < recursionLimit
  un : A.units + 16 * k + 200 < cLine
theorem Room.mono {j k : Nat} {A : Around} (r : Room k A) (h : j ≤ k) : Room j A := ⟨r.hd, by have := r.dp; omega, by have := r.un; omega⟩
theorem Room.deeper {k : Nat} {A : Around} (r : Room (k + 1) A) (env : Env) : Room k (A.deeper env) :=
  ⟨r.hd, by have := r.dp; show A.depth + 1 + 3 * k + 5 < _; omega, by have := r.un; show A.units + 3 + 16 * k + 200 < _; omega⟩
theorem make_depth {A : Around} {C : Addr} {us : List Value} {kw : List (Str × Value)} : (A.under (.builtin "type.__call__" ⟨.ref C :: us, kw⟩)).depth = A.depth + 1 := by
  first | rfl | simp [Around.under, Code.weight, Code.isCreation, Code.isGuard, Code.isCaller, Code.frames, Code.isFrame, guardIds]
theorem make_units {A : Around} {C : Addr} {us : List Value} {kw : List (Str × Value)} : (A.under (.builtin "type.__call__" ⟨.ref C :: us, kw⟩)).units = A.units + 1 := by
  first | rfl | simp [Around.under, Code.cUnits, Code.frames, Code.isFrame]
theorem Room.make {k : Nat} {A : Around} (r : Room (k + 1) A) (C : Addr) (us : List Value) (kw : List (Str × Value)) : Room k (A.under (.builtin "type.__call__" ⟨.ref C :: us, kw⟩)) :=
  ⟨r.hd, by have := r.dp; rw [make_depth]; omega, by have := r.un; rw [make_units]; omega⟩
theorem Room.depth {k : Nat} {A : Around} (r : Room k A) : A.depth < recursionLimit := by have := r.dp; omega
theorem Room.units {k : Nat} {A : Around} (r : Room k A) : A.units + 64 < cLine := by have := r.un; omega
noncomputable def tNil : TA := fun _ H Q => Q [] H
noncomputable def tCons (ta : TE) (tr : TA) : TA := fun σ H Q => ta σ H fun x H1 => tr σ H1 fun xs H2 => Q (x :: xs) H2
section
variable {X : Cx} {e : Expr} {es : List Expr} {te : TE} {t : TA} {pos : Pos}
theorem pa_nil : PA X [] tNil := fun _ _ _ _ H Q I h => Calls.spliced_nil ⟨[], H, I, .nil, h⟩
theorem pa_cons (ha : PE X e te) (hr : PA X es t) (hs : starEach (e :: es) X.env = (false, eval e X.env) :: starEach es X.env := by rfl) : PA X (e :: es) (tCons te t) := by
  intro pos pins s σ H Q I h
  rw [hs]
  show wpAny _ _ (spliced ((false, eval e X.env) :: backTo pos (starEach es X.env))) _ _ s
  refine Calls.spliced_cons (thn (ha pins s σ H _ I h) fun u s1 ⟨x, H1, I1, r1, q1⟩ => ?_)
  exact thn (hr pos pins s1 σ H1 _ I1 q1) fun us s2 ⟨xs, H2, I2, r2, q2⟩ => ⟨x :: xs, H2, I2, .cons r1 r2, q2⟩
noncomputable def tTup (t : TA) : TE := fun σ H Q => t σ H fun xs H1 => xs.length ≤ sizeLine ∧ ∀ p, H1 p = none → Q (.ref p) (upd H1 p (.tup xs))
noncomputable def tLst (t : TA) : TE := fun σ H Q => t σ H fun xs H1 => xs.length ≤ sizeLine ∧ ∀ p, H1 p = none → Q (.ref p) (upd H1 p (.lst xs))
theorem pe_tup {x1} (h : PA X es t) : PE X (.Tuple es x1 pos) (tTup t) := by
  intro pins s σ H Q I hq
  refine wpAny_Tuple_spliced (thn (h pos pins s σ H _ I hq) fun us s1 ⟨xs, H1, I1, r, z, q⟩ => ⟨by rw [← r.length]; exact z, ?_⟩)
  have hf : H1 s1.heap.objs.size = none := I1.hok.fresh (Nat.le_refl _)
  refine ⟨.ref s1.heap.objs.size, upd H1 s1.heap.objs.size (.tup xs), I1.laid (t' := s1.toks) (fun b u e => Heap.get?_push_of_some _ e) (Nat.le_refl _) ?_, rfl, q _ hf⟩
  exact ⟨z, us, r, ⟨_, Heap.get?_push_size _ rfl, rfl, _, rfl⟩⟩
theorem pe_lst (h : PA X es t) : PE X (.List es pos) (tLst t) := by
  intro pins s σ H Q I hq
  refine wpAny_List_spliced (thn (h pos pins s σ H _ I hq) fun us s1 ⟨xs, H1, I1, r, z, q⟩ => ⟨by rw [← r.length]; exact z, ?_⟩)
  have hf : H1 s1.heap.objs.size = none := I1.hok.fresh (Nat.le_refl _)
  refine ⟨.ref s1.heap.objs.size, upd H1 s1.heap.objs.size (.lst xs), I1.laid (t' := s1.toks) (fun b u e => Heap.get?_push_of_some _ e) (Nat.le_refl _) ?_, rfl, q _ hf⟩
  exact ⟨z, us, 0, r, Heap.get?_push_size _ rfl⟩
end
noncomputable abbrev Sp := List V → Hp → VK → XK → Prop
noncomputable abbrev CXT := List Env → Hp → Shared → XK → Value → Shared → Prop
structure Env0 (P : Program) (w : World) (K : PySem.W.Frag) (mg : Str → Option Value) (base : Heap) (A : Around) (outer : List Env) (s : Shared) (H : Hp) : Prop where
  frames : A.frames = some outer
  mod : Mod K mg base
  bs : ∀ b o, base.get? b = some o → s.heap.get? b = some o ∧ H b = none
  bsz : base.objs.size ≤ s.heap.objs.size
  funs : s.heap.FunFrames base outer
  frf : ∀ b ∈ frs outer, H b = none
  hok : HOk P w H s.heap
  bare : AllBare s.gens
noncomputable def CE (outer : List Env) (P : Program) (w : World) (H : Hp) (s : Shared) (Q : VK) (u : Value) (s' : Shared) : Prop :=
  ∃ v H', s'.os = s.os ∧ AllBare s'.gens ∧ Un (frs outer) [] H H' s.heap s'.heap ∧ HOk P w H' s'.heap ∧ RelV v u ∧ Q v H'
noncomputable def CR (CX : CXT) (outer : List Env) (P : Program) (w : World) (H : Hp) (s : Shared) (Q : VK) (E : XK) (r : Result) (s' : Shared) : Prop :=
  match r with
  | .ok (.ret u) => CE outer P w H s Q u s'
  | .ok _ => False
  | .error e => CX outer H s E e s'
structure FnOk (P : Program) (w : World) (K : PySem.W.Frag) (mg : Str → Option Value) (base : Heap) (CX : CXT) (k : Nat) (f : Addr) (fd : FuncData) (ps : List Str) (sp : Sp) : Prop where
  len : ∀ vs H Q E, sp vs H Q E → vs.length = ps.length
  run : ∀ (A : Around) (outer : List Env) (s : Shared) (H : Hp) (args : Args) (us : List Value) (vs : List V) (Q : VK) (E : XK), Room k A → Env0 P w K mg base A outer s H → BindsTo s fd args (ps.zip us) → Vals vs us → sp vs H Q E →
    codeAny (model P w) A (.call (.ref f) args) (CR CX outer P w H s Q E) s
theorem Env0.make {P : Program} {w : World} {K : PySem.W.Frag} {mg : Str → Option Value} {base : Heap} {A : Around} {outer : List Env} {s : Shared} {H : Hp} (e : Env0 P w K mg base A outer s H) (C : Addr) (us : List Value) (kw : List (Str × Value)) :
    Env0 P w K mg base (A.under (.builtin "type.__call__" ⟨.ref C :: us, kw⟩)) outer s H := ⟨by first | exact e.frames | (simpa [Around.under, Code.envs, Code.isFrame, pushEnvs] using e.frames), e.mod, e.bs, e.bsz, e.funs, e.frf, e.hok, e.bare⟩
section
variable {X : Cx} {pins : List (Addr × Obj)} {σ : St} {H : Hp} {s s' : Shared}
theorem Inv.env0 (I : Inv X pins σ H s) : Env0 X.prog X.w X.K X.mg X.base X.A X.stack s H :=
  ⟨I.ok.frames, I.ok.mod, I.bs, Nat.le_trans I.ok.bsz I.sz, I.stack, I.stkFree, I.hok, I.bare⟩
theorem Inv.after {Q : VK} {u : Value} (I : Inv X pins σ H s) (h : CE X.stack X.prog X.w H s Q u s') : EP X pins σ Q u s' := by
  obtain ⟨v, H', os, bare, un, hok, r, q⟩ := h
  obtain ⟨hh, g, d, t, os'⟩ := s'
  obtain rfl : os' = s.os := os
  exact ⟨v, H', I.call (h' := hh) (g' := g) (d' := d) (t' := t) (ch := []) un hok bare (fun b z => absurd z (by simp)), r, q⟩
end
noncomputable def tCall (sp : Sp) (dvs : List V) (E : XK) (t : TA) : TE := fun σ H Q => t σ H fun vs H1 => sp (vs ++ dvs) H1 Q E
noncomputable def tMeth (C : Addr) (m : Str) (sp : Sp) (dvs : List V) (E : XK) (ta : TE) (t : TA) : TE := fun σ H Q => ta σ H fun x H1 => ∃ a dx fs, x = .ref a ∧ H1 a = some (.ins C dx fs) ∧ fs.lookup m = none ∧
  t σ H1 fun vs H2 => sp (x :: (vs ++ dvs)) H2 Q E
noncomputable def tMake (C : Addr) (sp : Sp) (dvs : List V) (E : XK) (t : TA) : TE := fun σ H Q => t σ H fun vs H1 => ∀ x dx, H1 x = none → H1 dx = none → dx ≠ x →
  sp (.ref x :: (vs ++ dvs)) (upd (upd H1 dx (.own x)) x (.ins C dx [])) (fun v H2 => v = .non ∧ Q (.ref x) H2) E
noncomputable def Binds (K : PySem.W.Frag) (fd : FuncData) (ps : List Str) (ds : List Value) : Prop :=
  ∀ (s : Shared) (us : List Value), K.In s.heap → (us ++ ds).length = ps.length → BindsTo s fd ⟨us, []⟩ (ps.zip (us ++ ds))
theorem Binds.all {K : PySem.W.Frag} {fd : FuncData} {ps : List Str} (h : ∀ us : List Value, us.length = ps.length → bindArgs fd ⟨us, []⟩ = pure (ps.zip us)) : Binds K fd ps [] := fun s us _ hl => by
  rw [List.append_nil] at hl ⊢
  exact .of_eq (h us hl)
noncomputable def Passes (CX : CXT) (X : Cx) (E : XK) : Prop := ∀ (pins : List (Addr × Obj)) (σ : St) (H : Hp) (s : Shared) (e : Value) (s' : Shared), Inv X pins σ H s → CX X.stack H s E e s' → X.xe e s'
section
variable {X : Cx} {CX : CXT} {k : Nat} {f C : Addr} {fd : FuncData} {ps : List Str} {sp : Sp} {dvs : List V} {ds : List Value} {E : XK} {x m : Str} {p pos apos : Pos} {e o : Expr} {es : List Expr} {ta : TE} {t : TA}
theorem run_fn {pins : List (Addr × Obj)} {σ : St} {H : Hp} {s : Shared} {Q : VK} {us : List Value} {vs : List V} (F : FnOk X.prog X.w X.K X.mg X.base CX k f fd ps sp) (hr : Room k X.A) (hb : Binds X.K fd ps ds) (hd : Vals dvs ds) (hx : Passes CX X E)
    (I : Inv X pins σ H s) (r : Vals vs us) (h : sp (vs ++ dvs) H Q E) : wpAny (model X.prog X.w) X.A (call (.ref f) us) (EP X pins σ Q) X.xe s := by
  have r2 : Vals (vs ++ dvs) (us ++ ds) := r.append hd
  have hl : (us ++ ds).length = ps.length := by rw [← r2.length]; exact F.len _ _ _ _ h
  refine wpAny_call (codeAny_mono (F.run X.A X.stack s H ⟨us, []⟩ (us ++ ds) (vs ++ dvs) Q E hr I.env0 (hb s us I.kIn hl) r2 h) fun r s' hq => ?_)
  cases r with
  | error e => exact hx pins σ H s e s' I hq
  | ok fl =>
    cases fl with
    | ret u => exact I.after hq
    | next => exact False.elim hq
    | brk => exact False.elim hq
    | cont => exact False.elim hq
theorem pe_call (F : FnOk X.prog X.w X.K X.mg X.base CX k f fd ps sp) (hr : Room k X.A) (hg : Gl X x) (hm : X.mg x = some (.ref f)) (hk : PySem.W.keepIn X.K (.ref f) = true) (hb : Binds X.K fd ps ds) (hd : Vals dvs ds) (hx : Passes CX X E)
    (ha : PA X (e :: es) t) (hdb : (x == ("__debug__" : Str)) = false := by decide) (he : starEach (e :: es) X.env = (false, eval e X.env) :: starEach es X.env := by rfl) (hpl : (backTo pos (starEach es X.env)).any (·.1) = false := by rfl) :
    PE X (.Call (.Name x p) (e :: es) [] pos) (tCall sp dvs E t) := by
  intro pins s σ H Q I h
  refine wpAny_Call_Name_kw (ld_glob I hg hm ?_ hdb)
  refine PySem.W.callWith_K (h₀ := X.base) I.ok.mod.kin hk (thn (ha pos pins s σ H _ I h) fun us s1 ⟨vs, H1, I1, r, q⟩ => ⟨I1.kIn, ?_⟩) he hpl
  exact run_fn F hr hb hd hx I1 r q
theorem pe_meth0 {pl : Sem Bool} (he : PE X o ta) (c : Cls X.K C) (hm : Meth X.K C m f) (F : FnOk X.prog X.w X.K X.mg X.base CX k f fd ps sp) (hr : Room k X.A) (hb : Binds X.K fd ps ds) (hd : Vals dvs ds) (hx : Passes CX X E)
    (ht : eval (.Call (.Attribute o m apos) [] [] pos) X.env = (do
      let ov ← eval o X.env
      standAt apos.atName
      let (f, first) ← holding [ov] (getMethod ov m pl)
      callWith pos f first (backTo pos (starEach [] X.env)) (backToKw pos (keywordEach [] X.env))) := by rfl) :
    PE X (.Call (.Attribute o m apos) [] [] pos) (tMeth C m sp dvs E ta tNil) := by
  intro pins s σ H Q I h
  refine PySem.W.methodCall_KW (pl := pl) (thn (he pins s σ H _ I h) fun u s1 ⟨x, H1, I1, rx, a, dx, fs, ex, ea, l, q⟩ => ?_) ht
  subst ex
  obtain rfl : u = Value.ref a := rx
  refine getmeth_ok I1 ea c hm l ?_
  exact PySem.W.callWith_K0 (first := [.ref a]) I1.kIn hm.kp (run_fn (us := [.ref a]) (vs := [.ref a]) F hr hb hd hx I1 (.cons rfl .nil) q)
structure Mk (K : PySem.W.Frag) (C f : Addr) : Prop where
  makes : PySem.W.makesIn K C = true
  init : PySem.W.findIn K (.ref C) "__init__" = some (some (.ref f))
  fn : PySem.W.isFn K (.ref f) = true
  kp : PySem.W.keepIn K (.ref C) = true
theorem run_make {pins : List (Addr × Obj)} {σ : St} {H : Hp} {s : Shared} {Q : VK} {us : List Value} {vs : List V} (M : Mk X.K C f) (F : FnOk X.prog X.w X.K X.mg X.base CX k f fd ps sp) (hr : Room (k + 1) X.A) (hb : Binds X.K fd ps ds) (hd : Vals dvs ds)
    (hx : Passes CX X E) (I : Inv X pins σ H s) (r : Vals vs us)
    (h : ∀ x dx, H x = none → H dx = none → dx ≠ x → sp (.ref x :: (vs ++ dvs)) (upd (upd H dx (.own x)) x (.ins C dx [])) (fun v H2 => v = .non ∧ Q (.ref x) H2) E) :
    wpAny (model X.prog X.w) X.A (call (.ref C) us) (EP X pins σ Q) X.xe s := by
  have hq := h (s.heap.objs.size + 1) s.heap.objs.size (I.hok.fresh (Nat.le_succ _)) (I.hok.fresh (Nat.le_refl _)) (Nat.ne_of_lt (Nat.lt_succ_self _))
  have I2 := Inv.made (C := C) I
  have r2 : Vals (V.ref (s.heap.objs.size + 1) :: (vs ++ dvs)) (Value.ref (s.heap.objs.size + 1) :: (us ++ ds)) := .cons rfl (r.append hd)
  have hl : (Value.ref (s.heap.objs.size + 1) :: us ++ ds).length = ps.length := by
    have e := r2.length
    rw [F.len _ _ _ _ hq] at e
    exact e.symm
  refine wpAny_call (make_map (f := f) I.kIn M.makes M.init (beq_iff_eq.mp M.fn) (codeAny_mono (F.run _ X.stack _ _ ⟨Value.ref (s.heap.objs.size + 1) :: us, []⟩ (Value.ref (s.heap.objs.size + 1) :: (us ++ ds)) _ _ E (hr.make C us [])
    (I2.env0.make C us []) (hb _ (Value.ref (s.heap.objs.size + 1) :: us) I2.kIn hl) r2 hq) fun r s' hq' => ?_))
  cases r with
  | error e => exact hx pins σ _ _ e s' I2 hq'
  | ok fl =>
    cases fl with
    | ret u =>
      obtain ⟨v, H', I3, rv, ev, q3⟩ := I2.after hq'
      subst ev
      exact ⟨rv, ⟨V.ref (s.heap.objs.size + 1), H', I3, rfl, q3⟩⟩
    | next => exact False.elim hq'
    | brk => exact False.elim hq'
    | cont => exact False.elim hq'
theorem pe_make (M : Mk X.K C f) (F : FnOk X.prog X.w X.K X.mg X.base CX k f fd ps sp) (hr : Room (k + 1) X.A) (hg : Gl X x) (hm : X.mg x = some (.ref C)) (hb : Binds X.K fd ps ds) (hd : Vals dvs ds) (hx : Passes CX X E)
    (ha : PA X (e :: es) t) (hdb : (x == ("__debug__" : Str)) = false := by decide) (he : starEach (e :: es) X.env = (false, eval e X.env) :: starEach es X.env := by rfl) (hpl : (backTo pos (starEach es X.env)).any (·.1) = false := by rfl) :
    PE X (.Call (.Name x p) (e :: es) [] pos) (tMake C sp dvs E t) := by
  intro pins s σ H Q I h
  refine wpAny_Call_Name_kw (ld_glob I hg hm ?_ hdb)
  refine PySem.W.callWith_K (h₀ := X.base) I.ok.mod.kin M.kp (thn (ha pos pins s σ H _ I h) fun us s1 ⟨vs, H1, I1, r, q⟩ => ⟨I1.kIn, ?_⟩) he hpl
  exact run_make M F hr hb hd hx I1 r q
end
section
variable {X : Cx} {CX : CXT} {k : Nat} {f C : Addr} {fd : FuncData} {ps ks : List Str} {sp : Sp} {E : XK} {x m : Str} {p pos apos kpos : Pos} {e o : Expr} {es : List Expr} {kws : List Keyword} {te ta : TE} {t tk : TA} {nm : Option Str}
structure KBinds (K : PySem.W.Frag) (fd : FuncData) (ps ks : List Str) (g : List Value → List Value → List Value) (gV : List V → List V → List V) : Prop where
  to : ∀ (s : Shared) (us ws : List Value), K.In s.heap → (g us ws).length = ps.length → BindsTo s fd ⟨us, ks.zip ws⟩ (ps.zip (g us ws))
  rel : ∀ {vs : List V} {us : List Value} {zs : List V} {ws : List Value}, Vals vs us → Vals zs ws → Vals (gV vs zs) (g us ws)
variable {g : List Value → List Value → List Value} {gV : List V → List V → List V}
end
structure FnScope (N P : List Str) (sc : Scope) : Prop where
  kind : sc.kind = .function
  co : sc.isCoroutine = false
  gen : sc.isGenerator = false
  nd : N.Nodup
  pre : N.take P.length = P
  par : ∀ x ∈ P, sc.names.lookup x = some .local ∨ sc.names.lookup x = some .cell
  nofree : ∀ y ∈ sc.names, y.2 ≠ .free
theorem bindL_out {kindOf : Str → Option NameKind} {x : Str} : ∀ {binds : List (Str × Value)} {m : Str → Option Value}, (∀ v, (x, v) ∉ binds) → bindL kindOf binds m x = m x
  | [], _, _ => rfl
  | (n, v) :: r, m, h => by
    unfold bindL
    rw [bindL_out fun w hw => h w (List.mem_cons_of_mem _ hw)]
    split
    · have : x ≠ n := by rintro rfl; exact h v List.mem_cons_self
      simp [this]
    · rfl
theorem bindC_out {kindOf : Str → Option NameKind} {x : Str} : ∀ {binds : List (Str × Value)} {m : Str → Option Value}, (∀ v, (x, v) ∉ binds) → bindC kindOf binds m x = m x
  | [], _, _ => rfl
  | (n, v) :: r, m, h => by
    unfold bindC
    rw [bindC_out fun w hw => h w (List.mem_cons_of_mem _ hw)]
    split
    · rfl
    · have : x ≠ n := by rintro rfl; exact h v List.mem_cons_self
      simp [this]
theorem bindL_get {kindOf : Str → Option NameKind} {x : Str} {v : Value} : ∀ {P : List Str} {vs : List Value} {i : Nat} {m : Str → Option Value}, P.Nodup → P[i]? = some x → vs[i]? = some v → kindOf x = some .local →
    bindL kindOf (P.zip vs) m x = some v
  | [], _, _, _, _, h, _, _ => by simp at h
  | _ :: _, [], _, _, _, _, h, _ => by simp at h
  | p :: P, w :: vs, 0, m, nd, h1, h2, hk => by
    simp at h1 h2; subst h1; subst h2
    show bindL kindOf ((p, w) :: P.zip vs) m p = _
    unfold bindL
    rw [bindL_out fun v hv => (List.nodup_cons.mp nd).1 (List.of_mem_zip hv).1, if_pos hk]
    simp
  | p :: P, w :: vs, i + 1, m, nd, h1, h2, hk => by
    show bindL kindOf ((p, w) :: P.zip vs) m x = _
    unfold bindL
    exact bindL_get (i := i) (List.nodup_cons.mp nd).2 (by simpa using h1) (by simpa using h2) hk
theorem bindC_get {kindOf : Str → Option NameKind} {x : Str} {v : Value} : ∀ {P : List Str} {vs : List Value} {i : Nat} {m : Str → Option Value}, P.Nodup → P[i]? = some x → vs[i]? = some v → kindOf x ≠ some .local →
    bindC kindOf (P.zip vs) m x = some v
  | [], _, _, _, _, h, _, _ => by simp at h
  | _ :: _, [], _, _, _, _, h, _ => by simp at h
  | p :: P, w :: vs, 0, m, nd, h1, h2, hk => by
    simp at h1 h2; subst h1; subst h2
    show bindC kindOf ((p, w) :: P.zip vs) m p = _
    unfold bindC
    rw [bindC_out fun v hv => (List.nodup_cons.mp nd).1 (List.of_mem_zip hv).1, if_neg hk]
    simp
  | p :: P, w :: vs, i + 1, m, nd, h1, h2, hk => by
    show bindC kindOf ((p, w) :: P.zip vs) m x = _
    unfold bindC
    exact bindC_get (i := i) (List.nodup_cons.mp nd).2 (by simpa using h1) (by simpa using h2) hk
noncomputable def start (N : List Str) (vs : List V) : St := vs.map some ++ List.replicate (N.length - vs.length) none
noncomputable def cxOf (CX : CXT) (P : Program) (w : World) (K : PySem.W.Frag) (mg : Str → Option Value) (base : Heap) (N : List Str) (qual : Str) (scope : Scope) (f : Addr) (cd : Value) (A : Around) (outer : List Env) (s : Shared) (H : Hp) (E : XK) : Cx where
  prog := P
  w := w
  K := K
  mg := mg
  base := base
  A := A.deeper (envOfC qual scope s.heap.objs.size f cd)
  N := N
  s₀ := s
  H₀ := H
  env := envOfC qual scope s.heap.objs.size f cd
  outer := outer
  stack := envOfC qual scope s.heap.objs.size f cd :: outer
  ex := []
  calm := true
  fn := fun _ => true
  pn := []
  xe := fun e s' => wpAny (model P w) (A.deeper (envOfC qual scope s.heap.objs.size f cd)) (leaving (envOfC qual scope s.heap.objs.size f cd) e) (fun _ s'' => CX outer H s E e s'') (fun e' s'' => CX outer H s E e' s'') s'
theorem cell_has {sc : Scope} {n : Nat} {x : Str} (h : sc.names.lookup x = some .cell) : ∃ c, (cellsFrom n sc.names []).lookup x = some c := by
  have q := PySem.W.cellsFrom_some sc.names n [] (.inl h)
  exact Option.isSome_iff_exists.mp q
theorem inv_start {CX : CXT} {P : Program} {w : World} {K : PySem.W.Frag} {mg : Str → Option Value} {base : Heap} {N ps : List Str} {qual : Str} {scope : Scope} {f : Addr} {cd : Value} {A : Around} {outer : List Env} {s s1 : Shared} {H : Hp} {E : XK} {us : List Value} {vs : List V}
    (S : FnScope N ps scope) (hd : A.handled = none) (e0 : Env0 P w K mg base A outer s H) (hl : vs.length = ps.length) (r : Vals vs us)
    (x : InCallC s s.heap.objs.size (bindL (envOfC qual scope s.heap.objs.size f cd).kindOf (ps.zip us) fun _ => none) (cellsFrom (s.heap.objs.size + 1) scope.names []) (bindC (envOfC qual scope s.heap.objs.size f cd).kindOf (ps.zip us) fun _ => none) s1) :
    Inv (cxOf CX P w K mg base N qual scope f cd A outer s H E) [] (start N vs) H s1 := by
  have hpl : ps.length ≤ N.length := by have := congrArg List.length S.pre; rw [List.length_take] at this; omega
  obtain ⟨h1, tk, rfl, hk⟩ := x.done
  have noA : ∀ b : Addr, b ∉ (cxOf CX P w K mg base N qual scope f cd A outer s H E).ex := fun b z => absurd (show b ∈ ([] : List Addr) from z) (by simp)
  refine ⟨⟨e0.mod, S.kind, rfl, rfl, Nat.le_refl _, fun y z c h1 h2 => ?_, fun y hy => ?_, fun y c _ h => ?_, fun _ => hd, Around.frames_deeper e0.frames, .inr ⟨rfl, rfl⟩, fun b z => absurd z (noA b), e0.bs, e0.bsz, fun b _ _ => noA b, fun b z => absurd z (noA b), e0.funs, e0.frf⟩,
    rfl, e0.bare, Un.kept hk, ⟨_, x.toInCall.ns, fun i y v h1 h2 h3 => ?_⟩, fun y c h => ⟨_, x.cell y c h⟩, e0.hok.fresh (Nat.le_refl _), fun y c h => ?_, fun p hp => absurd (show p ∈ ([] : List (Addr × Obj)) from hp) (by simp), e0.hok.kept hk, ?_⟩
  · exact name_of_addr x.apart (PySem.mem_of_lookup h1) (PySem.mem_of_lookup h2)
  · have hy : scope.names.lookup y = some .cell ∨ scope.names.lookup y = some .free := hy
    rcases hy with hy | hy
    · exact cell_has hy
    · exact absurd rfl (S.nofree _ (PySem.mem_of_lookup hy))
  · exact Nat.le_of_lt (x.above y c (PySem.mem_of_lookup h))
  · have hi : i < vs.length := by
      unfold start at h2
      by_cases hi : i < vs.length
      · exact hi
      · rw [List.getElem?_append_right (by simpa using hi)] at h2
        rw [List.getElem?_replicate] at h2
        split at h2 <;> cases h2
    have ha : vs[i]? = some v := by
      unfold start at h2
      rw [List.getElem?_append_left (by simpa using hi), List.getElem?_map] at h2
      cases e : vs[i]? with
      | none => rw [e] at h2; cases h2
      | some a => rw [e] at h2; cases h2; rfl
    obtain ⟨u, hu, rv⟩ := r.get ha
    have hp : ps[i]? = some y := by
      rw [← S.pre, List.getElem?_take_of_lt (by omega)]; exact h1
    have ndP : ps.Nodup := by rw [← S.pre]; exact S.nd.sublist (List.take_sublist _ _)
    refine ⟨u, rv, ?_⟩
    rcases S.par y (List.mem_of_getElem? hp) with k | k
    · exact .inl ⟨k, bindL_get ndP hp hu k⟩
    · obtain ⟨c, e⟩ := cell_has (n := s.heap.objs.size + 1) k
      refine .inr ⟨.inl k, c, e, ?_⟩
      have q := x.cell y c e
      rw [bindC_get ndP hp hu (by show scope.names.lookup y ≠ _; rw [k]; decide)] at q
      exact q
  · exact e0.hok.fresh (Nat.le_of_lt (x.above y c (PySem.mem_of_lookup h)))
  · unfold start
    show _ = N.length
    rw [List.length_append, List.length_map, List.length_replicate]
    omega
theorem fn_of {CX : CXT} {P : Program} {w : World} {K : PySem.W.Frag} {mg : Str → Option Value} {base : Heap} {k : Nat} {f : Addr} {name qual : Str} {params : Arguments} {body : List Stmt} {scope : Scope} {dV kV doc pm cdv ct oc : Value} {an od : Option Addr}
    {osl : Array (Option Value)} {N ps : List Str} {sp : Sp} (lk : K.lookup f = some ⟨oc, od, .func (PySem.W.fnOf name qual params body scope dV kV doc pm an cdv ct), osl⟩) (hcd : PySem.W.codeIn K cdv qual = true) (S : FnScope N ps scope)
    (len : ∀ vs H Q E, sp vs H Q E → vs.length = ps.length)
    (hbody : ∀ (A : Around) (outer : List Env) (s : Shared) (H : Hp) (vs : List V) (Q : VK) (E : XK), Room k (A.deeper (envOfC qual scope s.heap.objs.size f cdv)) → sp vs H Q E →
      ∃ t, PSs (cxOf CX P w K mg base N qual scope f cdv A outer s H E) body t ∧ t { nx := fun _ H' => Q .non H', rt := Q } (start N vs) H) :
    FnOk P w K mg base CX (k + 1) f (PySem.W.fnOf name qual params body scope dV kV doc pm an cdv ct) ps sp := by
  refine ⟨len, fun A outer s H args us vs Q E hr e0 hb r hsp => ?_⟩
  have hl := len _ _ _ _ hsp
  have KX : K.In s.heap := e0.mod.kin.keeps fun b o e => (e0.bs b o e).1
  have lim : s.heap.NoLimit := e0.mod.nolimit.keeps fun b o e => (e0.bs b o e).1
  have hkind : ∀ y ∈ ps.zip us, scope.names.lookup y.1 = some .local ∨ (scope.names.lookup y.1 = some .cell ∧ ((cellsFrom (s.heap.objs.size + 1) scope.names []).lookup y.1).isSome = true) := fun ⟨n, v⟩ hy => by
    rcases S.par n (List.of_mem_zip hy).1 with q | q
    · exact .inl q
    · exact .inr ⟨q, PySem.W.cellsFrom_some _ _ _ (.inl q)⟩
  refine codeAny_call_function hr.depth (KX _ _ lk) rfl S.co S.gen rfl (PySem.W.codeRec_of KX hcd) (hb _ _ _ _ ?_)
  refine wpAny_newFunctionEnv_cells S.kind hkind fun env he s1 x => ?_
  subst he
  refine ⟨lim.keeps x.toInCall.keep, codeAny_func ?_⟩
  obtain ⟨t, ht, hq⟩ := hbody A outer s H vs Q E (hr.deeper _) hsp
  have I : Inv (cxOf CX P w K mg base N qual scope f cdv A outer s H E) [] (start N vs) H s1 := inv_start S hr.hd e0 hl r x
  refine wpAny_mono (ht [] s1 (start N vs) H _ I hq) (fun fl s' hs => ?_) fun e s' hs => hs
  have fin : ∀ {σ' : St} {H' : Hp} {v : V} {u : Value}, Inv (cxOf CX P w K mg base N qual scope f cdv A outer s H E) [] σ' H' s' → RelV v u → Q v H' → CE outer P w H s Q u s' :=
    fun {σ' H' v u} J rv q => ⟨v, H', J.os, J.bare, J.base, J.hok, rv, q⟩
  cases fl with
  | ret u =>
    obtain ⟨v, σ', H', J, rv, q⟩ := hs
    exact fin J rv q
  | next =>
    obtain ⟨σ', H', J, q⟩ := hs
    exact fin (v := V.non) (u := Value.none) J rfl q
  | brk =>
    obtain ⟨_, _, _, q⟩ := hs
    exact False.elim q
  | cont =>
    obtain ⟨_, _, _, q⟩ := hs
    exact False.elim q
end L2
namespace L2
open PySem PySem.Spec PyProof.Rows
section
variable {X : Cx} {x : Str} {p pos : Pos} {e : Expr} {es : List Expr} {t : TA} {id T : String} {r : List V → Hp → VK → Prop}
noncomputable def tCB (r : List V → Hp → VK → Prop) (t : TA) : TE := fun σ H Q => t σ H fun vs H1 => r vs H1 Q
theorem pe_callB (hc : CallR X (.builtin id) r) (hg : Gl X x) (hm : X.mg x = none) (hv : bootBuiltins x = some (.builtin id)) (ha : PA X (e :: es) t) (hn : x ≠ "__name__" := by decide) (hdb : (x == ("__debug__" : Str)) = false := by decide)
    (he : starEach (e :: es) X.env = (false, eval e X.env) :: starEach es X.env := by rfl) (hpl : (backTo pos (starEach es X.env)).any (·.1) = false := by rfl) : PE X (.Call (.Name x p) (e :: es) [] pos) (tCB r t) := by
  intro pins s σ H Q I h
  refine wpAny_Call_Name_kw (ld_blt I hg hm hv ?_ hn hdb)
  exact PyProof.Rows.callWith_builtin1 (thn (ha pos pins s σ H _ I h) fun us s1 ⟨vs, H1, I1, r1, q1⟩ => hc pins s1 σ H1 vs us Q I1 r1 q1) he hpl
theorem pe_callTy (hc : CallR X (.type T) r) (hg : Gl X x) (hm : X.mg x = none) (hv : bootBuiltins x = some (.type T)) (ha : PA X (e :: es) t) (hn : x ≠ "__name__" := by decide) (hdb : (x == ("__debug__" : Str)) = false := by decide)
    (he : starEach (e :: es) X.env = (false, eval e X.env) :: starEach es X.env := by rfl) (hpl : (backTo pos (starEach es X.env)).any (·.1) = false := by rfl) : PE X (.Call (.Name x p) (e :: es) [] pos) (tCB r t) := by
  intro pins s σ H Q I h
  refine wpAny_Call_Name_kw (ld_blt I hg hm hv ?_ hn hdb)
  exact PyProof.Rows.callWith_type1 (thn (ha pos pins s σ H _ I h) fun us s1 ⟨vs, H1, I1, r1, q1⟩ => hc pins s1 σ H1 vs us Q I1 r1 q1) he hpl
end
end L2
namespace HT
open PySem PyProof.Rows
section
open PySem.SeqAt
open PySem.AutoSeq1 (wpAny_loadPart')
open PySem.MeetsSeq PySem.MeetsSeq2 PySem.MeetsSeq3
end
section
variable {prog : Program} {w : World} {A : Around} {E : Value → Shared → Prop} {s : Shared}
theorem cat_tup {t b : Addr} {vs ws : List Value} {Q : Value → Shared → Prop} (ht : IsTup s.heap t vs.toArray) (hb : IsTup s.heap b ws.toArray) (hv : vs ≠ [])
    (h1 : ws = [] → Q (.ref t) s) (h2 : ws ≠ [] → Q (.ref s.heap.objs.size) { s with heap := s.heap.push { cls := .type "tuple", data := .seq (vs ++ ws).toArray } })
    (hsz : vs.length + ws.length ≤ sizeLine) : wpAny (model prog w) A (binaryOp .Add (.ref t) (.ref b)) Q E s := by
  obtain ⟨⟨cls, dd, data, sl⟩, ho, hc, n, hd⟩ := id ht
  obtain ⟨⟨cls2, dd2, data2, sl2⟩, ho2, hc2, n2, hd2⟩ := id hb
  simp only at hc hd hc2 hd2
  subst hc hd hc2 hd2
  have e : vs.toArray ++ ws.toArray = (vs ++ ws).toArray := by simp
  by_cases hw : ws = []
  · exact concat_meets ⟨_, ho, rfl⟩ ⟨_, ho2, rfl⟩ noFill_tuple_add seq_tuple_add PySem.F.slot_tuple_add PySem.F.entry_tuple_add (PySem.F.args_tuple_add_2 _ _)
      (tuple_addW1 t b vs.toArray ws.toArray n n2 dd dd2 sl sl2 (by simpa using hv) (by simp [hw])) ⟨ho, ho2, h1 hw⟩
  · refine concat_meets ⟨_, ho, rfl⟩ ⟨_, ho2, rfl⟩ noFill_tuple_add seq_tuple_add PySem.F.slot_tuple_add PySem.F.entry_tuple_add (PySem.F.args_tuple_add_2 _ _)
      (tuple_addW2 t b vs.toArray ws.toArray n n2 dd dd2 sl sl2 (by simpa using hv) (by simpa using hw) (by rw [List.size_toArray, List.size_toArray]; exact hsz)) ⟨ho, ho2, ?_⟩
    rw [e]
    exact h2 hw
noncomputable def sIx (n d : Nat) : Option Int → Nat
  | none => d
  | some v => if v < 0 then (v + (n : Int)).toNat else min v.toNat n
theorem sIx_le (n d : Nat) (hd : d ≤ n) (o : Option Int) : sIx n d o ≤ n := by
  cases o with
  | none => exact hd
  | some v =>
    show (if v < 0 then (v + (n : Int)).toNat else min v.toNat n) ≤ n
    by_cases hv : v < 0
    · rw [if_pos hv]; omega
    · rw [if_neg hv]; exact Nat.min_le_right _ _
theorem clip_eq (v : Int) (n d : Nat) : (if v < 0 then max (v + (n : Int)) 0 else min v (n : Int)) = ((sIx n d (some v) : Nat) : Int) := by
  show (if v < 0 then max (v + (n : Int)) 0 else min v (n : Int)) = (((if v < 0 then (v + (n : Int)).toNat else min v.toNat n) : Nat) : Int)
  by_cases hv : v < 0
  · simp only [if_pos hv]; omega
  · simp only [if_neg hv]; omega
theorem adjust_gen (lo hi : Option Int) (n : Nat) : Builtin.Slice.sliceAdjust lo hi 1 (n : Int) = (((sIx n 0 lo : Nat) : Int), ((sIx n n hi : Nat) : Int)) := by
  have h1 : ¬ ((1 : Int) < 0) := by omega
  unfold Builtin.Slice.sliceAdjust
  simp only [h1, if_false]
  refine Prod.ext ?_ ?_
  · cases lo with
    | none => rfl
    | some v => exact clip_eq v n 0
  · cases hi with
    | none => rfl
    | some v => exact clip_eq v n n
theorem places_gen (i j : Nat) : Builtin.Slice.slicePlaces (i : Int) (j : Int) 1 = j - i := by
  unfold Builtin.Slice.slicePlaces
  have h1 : (1 : Int) > 0 := by omega
  simp only [h1, if_true, Int.ediv_one]
  split <;> omega
theorem slicePart_ {v : Value} {o : Option Int} {Q : Option Int → Shared → Prop} (p : IsPart v o) (h : Q o s) : wpAny (model prog w) A (Builtin.Slice.slicePartIndex v) Q E s := by
  cases p with
  | none => exact slicePart_none h
  | int i t => exact slicePart_int h
theorem sliceApplied_gen {sl : Addr} {vl vu : Value} {lo hi : Option Int} {n : Nat} {Q : Int × Int × Nat → Shared → Prop} (hs : s.heap.IsSliceOf sl vl vu .none) (pl : IsPart vl lo) (pu : IsPart vu hi)
    (h : Q (((sIx n 0 lo : Nat) : Int), 1, sIx n n hi - sIx n 0 lo) s) : wpAny (model prog w) A (Builtin.Slice.sliceApplied (.ref sl) (pure (n : Int))) Q E s := by
  obtain ⟨os, hos, hcs, hds⟩ := id hs
  unfold Builtin.Slice.sliceApplied Builtin.Slice.sliceFields
  refine wpAny_bind (wpAny_bind (wpAny_field hos hds (x := vl) rfl (wpAny_bind (wpAny_field hos hds (x := vu) rfl (wpAny_bind (wpAny_field hos hds (x := .none) rfl (wpAny_pure ?_)))))))
  refine wpAny_bind (slicePart_none ?_)
  show wpAny _ _ (if ((1 : Int) == 0) = true then _ else _) _ _ s
  rw [if_neg (by decide)]
  refine wpAny_bind (slicePart_ pl (wpAny_bind (slicePart_ pu (wpAny_bind (wpAny_pure ?_)))))
  show wpAny _ _ (match Builtin.Slice.sliceAdjust lo hi 1 (n : Int) with | (lo, hi) => pure (lo, (1 : Int), Builtin.Slice.slicePlaces lo hi 1)) _ _ s
  rw [adjust_gen lo hi n]
  show wpAny _ _ (pure (((sIx n 0 lo : Nat) : Int), (1 : Int), Builtin.Slice.slicePlaces ((sIx n 0 lo : Nat) : Int) ((sIx n n hi : Nat) : Int) 1)) _ _ s
  rw [places_gen]
  exact wpAny_pure h
theorem pick_gen (xs : Array Value) (i k : Nat) : ((List.range k).filterMap fun (m : Nat) => xs[((i : Int) + (m : Int) * 1).toNat]?).toArray = ((xs.toList.drop i).take k).toArray := by
  have e : (fun (m : Nat) => xs[((i : Int) + (m : Int) * 1).toNat]?) = fun m => xs[i + m]? := by
    funext m
    have : ((i : Int) + (m : Int) * 1).toNat = i + m := by omega
    rw [this]
  rw [e]
  have := pick_run xs i k
  rw [List.filterMap_map] at this
  have e2 : ((fun x => xs[x]?) ∘ fun x => i + x) = fun m => xs[i + m]? := rfl
  rw [e2] at this
  rw [this]
theorem getItem_tuple_cut {t sl : Addr} {items : Array Value} {vl vu : Value} {lo hi : Option Int} {Q : Value → Shared → Prop} (ht : IsTup s.heap t items) (hs : s.heap.IsSliceOf sl vl vu .none) (pl : IsPart vl lo) (pu : IsPart vu hi)
    (hw : ¬ (sIx items.size 0 lo = 0 ∧ sIx items.size items.size hi = items.size))
    (h : Q (.ref s.heap.objs.size) { s with heap := s.heap.push { cls := .type "tuple", data := .seq ((items.toList.drop (sIx items.size 0 lo)).take (sIx items.size items.size hi - sIx items.size 0 lo)).toArray } })
    (hsz : items.size ≤ sizeLine) : wpAny (model prog w) A (getItem (.ref t) (.ref sl)) Q E s := by
  have htake : sizeOk (.seq ((items.toList.drop (sIx items.size 0 lo)).take (sIx items.size items.size hi - sIx items.size 0 lo)).toArray) := by
    show ((items.toList.drop (sIx items.size 0 lo)).take (sIx items.size items.size hi - sIx items.size 0 lo)).toArray.size ≤ sizeLine
    rw [List.size_toArray, List.length_take, List.length_drop, Array.length_toList]
    omega
  have hj : sIx items.size items.size hi ≤ items.size := sIx_le _ _ (Nat.le_refl _) hi
  obtain ⟨os, hos, hcs, hds⟩ := id hs
  have hTs : s.TypeIs (.ref sl) "slice" := ⟨os, hos, hcs⟩
  unfold getItem
  try with_reducible refine wpAny_holding ?_
  first | refine wpAny_bind (wpAny_pure ?_) | skip
  refine wpAny_bind (wpAny_sequenceKey ht.typeIs (by decide) ?_)
  refine wpAny_bind (wpAny_callSpecial?_slot (name := Str.ofString "__getitem__") ht.typeIs PyProof.Rows.slot_tuple_getitem
    (wpAny_call_entry PyProof.Rows.slot_tuple_getitem ht.typeIs entry_tuple_getitem ?_ (args_tuple_getitem _ _)))
  show wpAny _ _ (Builtin.Tuple.tupleItemsOf (.ref t) >>= _) _ _ s
  refine wpAny_bind (tupleItemsOf_ ht ?_)
  refine wpAny_bind (wpAny_typeOf hTs ?_)
  rw [if_pos (by decide)]
  refine wpAny_bind (sliceApplied_gen hs pl pu ?_)
  have hno : ¬ ((((sIx items.size 0 lo : Nat) : Int) == 0 && (1 : Int) == 1 && (sIx items.size items.size hi - sIx items.size 0 lo) == items.size) = true) := by
    intro q
    rw [Bool.and_eq_true, Bool.and_eq_true] at q
    have q1 : ((sIx items.size 0 lo : Nat) : Int) = 0 := eq_of_beq q.1.1
    have q2 : sIx items.size items.size hi - sIx items.size 0 lo = items.size := eq_of_beq q.2
    exact hw ⟨by omega, by omega⟩
  show wpAny _ _ (if (((sIx items.size 0 lo : Nat) : Int) == 0 && (1 : Int) == 1 && (sIx items.size items.size hi - sIx items.size 0 lo) == items.size) = true then _ else _) _ _ s
  rw [if_neg hno, pick_gen]
  first
    | exact wpAny_bind (m := Builtin.Tuple.tupleExact _) (wpAny_newObj_type (wpAny_pure ⟨_, rfl, wpAny_pure h⟩) htake)
    | exact wpAny_bind (m := Builtin.Tuple.tupleExact _) (wpAny_newObj_type (wpAny_bind (wpAny_pure (wpAny_pure ⟨_, rfl, wpAny_pure h⟩))) htake)
    | exact wpAny_bind (wpAny_bind (m := Builtin.Tuple.tupleExact _) (wpAny_newObj_type (wpAny_pure (wpAny_pure ⟨_, rfl, wpAny_pure h⟩)) htake))
    | exact wpAny_bind (wpAny_bind (m := Builtin.Tuple.tupleExact _) (wpAny_newObj_type (wpAny_pure ⟨_, rfl, wpAny_pure h⟩) htake))
end
end HT
namespace L2
open PySem PySem.Spec PyProof.Rows
noncomputable abbrev TO := St → Hp → (Option Int → Hp → Prop) → Prop
noncomputable def PO (X : Cx) (e : Option Expr) (t : TO) : Prop :=
  ∀ (pins : List (Addr × Obj)) (s : Shared) (σ : St) (H : Hp) (Q : Option Int → Hp → Prop), Inv X pins σ H s → t σ H Q →
    wpAny (model X.prog X.w) X.A (evalPart e X.env) (fun u s' => ∃ o H', Inv X pins σ H' s' ∧ IsPart u o ∧ Q o H') X.xe s
noncomputable def tNoPart : TO := fun _ H Q => Q none H
noncomputable def tPart (t : TE) : TO := fun σ H Q => t σ H fun x H1 => ∃ i, x = .int i ∧ Q (some i) H1
theorem intsAre_of {ns : List Int} : ∀ {us : List Value}, Vals (ns.map V.int) us → IntsAre us ns := by
  induction ns with
  | nil => intro us r; rw [List.map_nil] at r; cases r; exact .nil
  | cons n ns ih =>
    intro us r
    rw [List.map_cons] at r
    cases r with
    | cons r1 r2 =>
      obtain ⟨t, e⟩ := r1
      subst e
      exact .cons n t (ih r2)
section
variable {X : Cx} {e : Expr} {te : TE} {lo hi : Option Expr} {tl th : TO} {pos p2 : Pos}
theorem po_none : PO X none tNoPart := by
  intro pins s σ H Q I h
  rw [evalPart_none]
  exact wpAny_pure ⟨none, H, I, .none, h⟩
theorem po_some (h : PE X e te) : PO X (some e) (tPart te) := by
  intro pins s σ H Q I hw
  rw [evalPart_some]
  refine thn (h pins s σ H _ I hw) fun u s1 ⟨x, H1, I1, r1, q1⟩ => ?_
  obtain ⟨i, rfl, q⟩ := q1
  obtain ⟨t, rfl⟩ := r1
  exact ⟨some i, H1, I1, .int i t, q⟩
noncomputable def SlR (X : Cx) (r : V → Option Int → Option Int → Hp → VK → Prop) : Prop :=
  ∀ (pins : List (Addr × Obj)) (s : Shared) (σ : St) (H : Hp) (x : V) (v vl vu : Value) (lo hi : Option Int) (sl : Addr) (Q : VK), Inv X pins σ H s → RelV x v → s.heap.IsSliceOf sl vl vu .none → IsPart vl lo → IsPart vu hi → r x lo hi H Q →
    ∃ T id, typeLookup (.type T) "__getitem__" = pure (some (.builtin id)) ∧ s.TypeIs v T ∧ wpAny (model X.prog X.w) X.A (getItem v (.ref sl)) (EP X pins σ Q) X.xe s
theorem SlR.or {r r' : V → Option Int → Option Int → Hp → VK → Prop} (h : SlR X r) (h' : SlR X r') : SlR X (fun x lo hi H Q => r x lo hi H Q ∨ r' x lo hi H Q) := by
  intro pins s σ H x v vl vu lo hi sl Q I rx hs pl pu q
  rcases q with q | q
  · exact h pins s σ H x v vl vu lo hi sl Q I rx hs pl pu q
  · exact h' pins s σ H x v vl vu lo hi sl Q I rx hs pl pu q
noncomputable def tSl (r : V → Option Int → Option Int → Hp → VK → Prop) (te : TE) (tl th : TO) : TE := fun σ H Q => te σ H fun x H1 => tl σ H1 fun l H2 => th σ H2 fun u H3 => r x l u H3 Q
theorem pe_slice {r : V → Option Int → Option Int → Hp → VK → Prop} (hr : SlR X r) (he : PE X e te) (hl : PO X lo tl) (hu : PO X hi th) : PE X (.Subscript e (.Slice lo hi none p2) pos) (tSl r te tl th) := by
  intro pins s σ H Q I h
  refine Subscript_ (thn (he pins s σ H _ I h) fun v s1 ⟨x, H1, I1, r1, q1⟩ => ?_)
  refine wpAny_Slice (thn (hl pins s1 σ H1 _ I1 q1) fun vl s2 ⟨l, H2, I2, pl, q2⟩ => thn (hu pins s2 σ H2 _ I2 q2) fun vu s3 ⟨u, H3, I3, pu, q3⟩ => ?_)
  rw [evalPart_none]
  refine wpAny_pure ?_
  have I4 : Inv X pins σ H3 { s3 with heap := s3.heap.push { cls := .type "slice", data := .fields #[vl, vu, .none] } } := I3.kept (t' := s3.toks) fun b ob q => Heap.get?_push_of_some _ q
  obtain ⟨T, id, hT, ht, hg⟩ := hr pins { s3 with heap := s3.heap.push { cls := .type "slice", data := .fields #[vl, vu, .none] } } σ H3 x v vl vu l u s3.heap.objs.size Q I4 r1 (Heap.IsSliceOf.new ..) pl pu q3
  show wpAny (model X.prog X.w) X.A (subscriptTail e (.Slice lo hi none p2) v (.ref s3.heap.objs.size)) (EP X pins σ Q) X.xe { s3 with heap := s3.heap.push { cls := .type "slice", data := .fields #[vl, vu, .none] } }
  exact tail_any (ops := [.ref s3.heap.objs.size, v]) ht hT hg (by with_unfolding_all rfl)
noncomputable def cutV (xs : List V) (lo hi : Option Int) : List V := (xs.drop (HT.sIx xs.length 0 lo)).take (HT.sIx xs.length xs.length hi - HT.sIx xs.length 0 lo)
theorem cutV_length (xs : List V) (lo hi : Option Int) : (cutV xs lo hi).length ≤ xs.length := by
  unfold cutV
  rw [List.length_take, List.length_drop]
  omega
noncomputable def rSlT (K : PySem.W.Frag) : V → Option Int → Option Int → Hp → VK → Prop := fun x lo hi H Q => ∃ a xs, x = .ref a ∧ SqT K H a xs ∧
  ¬ (HT.sIx xs.length 0 lo = 0 ∧ HT.sIx xs.length xs.length hi = xs.length) ∧ ∀ p, H p = none → Q (.ref p) (upd H p (.tup (cutV xs lo hi)))
theorem sl_tup : SlR X (rSlT X.K) := by
  intro pins s σ H x v vl vu lo hi sl Q I rx hs pl pu h
  obtain ⟨a, xs, rfl, hx, hw, q⟩ := h
  cases rx
  obtain ⟨its, r, ht, hz⟩ := I.tuple hx
  have hlen : its.toArray.size = xs.length := by rw [List.size_toArray]; exact r.length.symm
  refine ⟨"tuple", _, PyProof.Rows.slot_tuple_getitem.lookup, ht.typeIs, ?_⟩
  refine HT.getItem_tuple_cut ht hs pl pu (by rw [hlen]; exact hw) ?_ (by rw [hlen]; exact hz)
  rw [hlen]
  refine ⟨.ref s.heap.objs.size, _, I.laid (t' := s.toks) (o := .tup (cutV xs lo hi)) (fun b ob q => Heap.get?_push_of_some _ q) (Nat.le_refl _) ?_, rfl, q _ (I.hok.fresh (Nat.le_refl _))⟩
  exact ⟨Nat.le_trans (cutV_length xs lo hi) hz, _, (r.drop (HT.sIx xs.length 0 lo)).take (HT.sIx xs.length xs.length hi - HT.sIx xs.length 0 lo), IsTup.new _ _⟩
noncomputable def rCatT (K : PySem.W.Frag) : R2 := fun x y H Q => ∃ a b xs ys, x = .ref a ∧ y = .ref b ∧ SqT K H a xs ∧ SqT K H b ys ∧ xs ≠ [] ∧ xs.length + ys.length ≤ sizeLine ∧
  (ys = [] → Q (.ref a) H) ∧ (ys ≠ [] → ∀ p, H p = none → Q (.ref p) (upd H p (.tup (xs ++ ys))))
theorem Vals.nil_iff {xs : List V} {us : List Value} (r : Vals xs us) : us = [] ↔ xs = [] := by
  cases r with
  | nil => simp
  | cons _ _ => simp
theorem op_catT : OpR X (binaryOp .Add) (rCatT X.K) := by
  intro pins s σ H x y v u Q I rx ry h
  obtain ⟨a, b, xs, ys, rfl, rfl, ha, hb, hx, hz, q1, q2⟩ := h
  cases rx
  cases ry
  obtain ⟨its, r1, p1, _⟩ := I.tuple ha
  obtain ⟨its2, r2, p2, _⟩ := I.tuple hb
  refine HT.cat_tup p1 p2 (fun z => hx (r1.nil_iff.mp z)) (fun z => ⟨.ref a, H, I, rfl, q1 (r2.nil_iff.mp z)⟩) (fun z => ?_) (by rw [← r1.length, ← r2.length]; exact hz)
  refine ⟨.ref s.heap.objs.size, _, I.laid (t' := s.toks) (o := .tup (xs ++ ys)) (fun b ob q => Heap.get?_push_of_some _ q) (Nat.le_refl _) ?_, rfl, q2 (fun w => z (r2.nil_iff.mpr w)) _ (I.hok.fresh (Nat.le_refl _))⟩
  exact ⟨by rw [List.length_append]; exact hz, _, r1.append r2, IsTup.new _ _⟩
end
end L2
namespace L2
open PySem PySem.Spec PyProof.Rows
noncomputable def ixN (n : Nat) (i : Int) : Option Nat := if 0 ≤ i then (if i < n then some i.toNat else none) else if -(n : Int) ≤ i then some (i + n).toNat else none
noncomputable def atI {α : Type} (xs : List α) (i : Int) : Option α := (ixN xs.length i).bind fun j => xs[j]?
theorem ixN_seq {n : Nat} {i : Int} {j : Nat} (h : ixN n i = some j) : seqIndex? i n = some j ∧ j < n ∧ -(n : Int) ≤ i ∧ i < n := by
  unfold ixN at h
  by_cases h0 : 0 ≤ i
  · rw [if_pos h0] at h
    by_cases h1 : i < n
    · rw [if_pos h1] at h
      have e : i.toNat = j := Option.some.inj h
      exact ⟨by rw [seqIndex_of h0 h1, e], by omega, by omega, h1⟩
    · rw [if_neg h1] at h; cases h
  · rw [if_neg h0] at h
    by_cases h1 : -(n : Int) ≤ i
    · rw [if_pos h1] at h
      have e : (i + n).toNat = j := Option.some.inj h
      exact ⟨by rw [seqIndex_neg (by omega) h1, e], by omega, h1, by omega⟩
    · rw [if_neg h1] at h; cases h
theorem atI_get {α : Type} {xs : List α} {i : Int} {v : α} (h : atI xs i = some v) : ∃ j, seqIndex? i xs.length = some j ∧ xs[j]? = some v ∧ j < xs.length ∧ -(xs.length : Int) ≤ i ∧ i < xs.length := by
  unfold atI at h
  cases e : ixN xs.length i with
  | none => rw [e] at h; cases h
  | some j =>
    rw [e] at h
    obtain ⟨h1, h2, h3, h4⟩ := ixN_seq e
    exact ⟨j, h1, h, h2, h3, h4⟩
noncomputable def PlainIx (b : Expr) : Prop := ∀ o i, subscripted b false o i = operate [o, i] (getItem o i)
noncomputable def IxR (X : Cx) (r : R2) : Prop :=
  ∀ (value slice : Expr) (pins : List (Addr × Obj)) (s : Shared) (σ : St) (H : Hp) (x y : V) (v u : Value) (Q : VK), Inv X pins σ H s → RelV x v → RelV y u → r x y H Q →
    subscripted slice false v u = operate [v, u] (getItem v u) → wpAny (model X.prog X.w) X.A (subscriptTail value slice v u) (EP X pins σ Q) X.xe s
noncomputable def MtR (X : Cx) (id : String) (r : V → List V → Hp → VK → Prop) : Prop :=
  ∀ (pins : List (Addr × Obj)) (s : Shared) (σ : St) (H : Hp) (x : V) (xs : List V) (v : Value) (us : List Value) (Q : VK), Inv X pins σ H s → RelV x v → Vals xs us → r x xs H Q →
    wpAny (model X.prog X.w) X.A (call (.builtin id) (v :: us)) (EP X pins σ Q) X.xe s
section
variable {X : Cx} {a b : Expr} {ta tb : TE} {pos : Pos}
theorem IxR.or {r r' : R2} (h : IxR X r) (h' : IxR X r') : IxR X (fun x y H Q => r x y H Q ∨ r' x y H Q) := by
  intro value slice pins s σ H x y v u Q I rx ry q hs
  rcases q with q | q
  · exact h value slice pins s σ H x y v u Q I rx ry q hs
  · exact h' value slice pins s σ H x y v u Q I rx ry q hs
theorem pe_ix {r : R2} (hr : IxR X r) (ha : PE X a ta) (hb : PE X b tb) (hs : PlainIx b) : PE X (.Subscript a b pos) (tOp r ta tb) := by
  intro pins s σ H Q I h
  exact Subscript_ (binT ha hb I h fun v u s2 x y H2 I2 rx ry q => hr a b pins s2 σ H2 x y v u Q I2 rx ry q (hs _ _))
noncomputable def rIxL (K : PySem.W.Frag) : R2 := fun x y H Q => ∃ p xs i v, x = .ref p ∧ y = .int i ∧ SqL K H p xs ∧ atI xs i = some v ∧ Q v H
noncomputable def rIxT (K : PySem.W.Frag) : R2 := fun x y H Q => ∃ p xs i v, x = .ref p ∧ y = .int i ∧ SqT K H p xs ∧ atI xs i = some v ∧ Q v H
noncomputable def rIxS : R2 := fun x y H Q => ∃ z i c, x = .str z ∧ y = .int i ∧ z.length ≤ sizeLine ∧ atI z.cps.toList i = some c ∧ Q (.str ⟨#[c]⟩) H
theorem ix_list : IxR X (rIxL X.K) := by
  intro value slice pins s σ H x y v u Q I rx ry h hs
  obtain ⟨p, xs, i, z, rfl, rfl, hq, he, q⟩ := h
  cases rx
  obtain ⟨t, rfl⟩ := ry
  obtain ⟨its, r, pl, hz⟩ := I.list hq
  obtain ⟨j, h1, h2, h3, h4, h5⟩ := atI_get he
  obtain ⟨w, ew, rw'⟩ := r.get h2
  have hl := r.length
  have hn := line63
  have fin : EP X pins σ Q w s := ⟨z, H, I, rw', q⟩
  by_cases h0 : 0 ≤ i
  · have hj : i.toNat = j := by
      rw [seqIndex_of h0 h5] at h1
      exact Option.some.inj h1
    exact item_listR pl.isList h0 (by omega) (by rw [hj]; simpa using ew) fin hs
  · have hj : (i + (its.toArray.size : Int)).toNat = j := by
      rw [seqIndex_neg (by omega) h4] at h1
      rw [List.size_toArray, ← hl]
      exact Option.some.inj h1
    exact subscriptTail_builtinR (x := w) pl.isList.typeIs slot_list_getitem.lookup
      (wpAny_getItem_list_neg (Q := fun r s' => r = w ∧ EP X pins σ Q r s') pl.isList (by omega) (by rw [List.size_toArray] <;> omega) (by omega) (by rw [hj]; simpa using ew) ⟨rfl, fin⟩) hs
theorem ix_tup : IxR X (rIxT X.K) := by
  intro value slice pins s σ H x y v u Q I rx ry h hs
  obtain ⟨p, xs, i, z, rfl, rfl, hq, he, q⟩ := h
  cases rx
  obtain ⟨t, rfl⟩ := ry
  obtain ⟨its, r, pl, hz⟩ := I.tuple hq
  obtain ⟨j, h1, h2, h3, h4, h5⟩ := atI_get he
  obtain ⟨w, ew, rw'⟩ := r.get h2
  have hl := r.length
  have hn := line63
  have fin : EP X pins σ Q w s := ⟨z, H, I, rw', q⟩
  exact subscriptTail_builtinR (x := w) pl.typeIs slot_tuple_getitem.lookup
    (getItem_tuple (j := j) (Q := fun r s' => r = w ∧ EP X pins σ Q r s') pl (by omega) (by omega) (by rw [List.size_toArray, ← hl]; exact h1) (by simpa using ew) ⟨rfl, fin⟩) hs
theorem ix_str : IxR X rIxS := by
  intro value slice pins s σ H x y v u Q I rx ry h hs
  obtain ⟨z, i, c, rfl, rfl, hz, he, q⟩ := h
  obtain ⟨t, rfl⟩ := rx
  obtain ⟨t', rfl⟩ := ry
  obtain ⟨j, h1, h2, h3, h4, h5⟩ := atI_get he
  have hl : z.cps.toList.length = z.length := by simp [Str.length]
  rw [hl] at h1 h4 h5
  have hn := line63
  exact tail_any (typeIs_str s z t) slot_str_getitem.lookup (getItem_str (c := c) (by
    have e1 : decide (i < -(2 ^ 63 : Int)) = false := decide_eq_false (by omega)
    have e2 : decide (i ≥ 2 ^ 63) = false := decide_eq_false (by omega)
    rw [e1, e2, Bool.or_false]) (by rw [h1]; simpa using h2) ⟨.str ⟨#[c]⟩, H, I.tok _, ⟨_, rfl⟩, q⟩) hs
noncomputable def rIx (K : PySem.W.Frag) : R2 := fun x y H Q => rIxL K x y H Q ∨ rIxT K x y H Q ∨ rIxS x y H Q
theorem ix_seq : IxR X (rIx X.K) := ix_list.or (ix_tup.or ix_str)
theorem slice_bounds (lo hi : Option Int) (n : Nat) : (sliceBounds lo hi none n).1 = ((HT.sIx n 0 lo : Nat) : Int) ∧ (sliceBounds lo hi none n).2.1 = ((HT.sIx n n hi : Nat) : Int) ∧ (sliceBounds lo hi none n).2.2 = 1 := by
  refine ⟨?_, ?_, rfl⟩
  · cases lo with
    | none => simp [sliceBounds, HT.sIx]
    | some i =>
      simp only [sliceBounds, HT.sIx, Option.getD_none, show (1 : Int) > 0 by decide, if_true]
      by_cases h : i < 0
      · simp only [h, if_true] <;> omega
      · simp only [h, if_false] <;> omega
  · cases hi with
    | none => simp [sliceBounds, HT.sIx]
    | some i =>
      simp only [sliceBounds, HT.sIx, Option.getD_none, show (1 : Int) > 0 by decide, if_true]
      by_cases h : i < 0
      · simp only [h, if_true] <;> omega
      · simp only [h, if_false] <;> omega
theorem slicePick_cut (its : List Value) (lo hi : Option Int) : slicePick its.toArray lo hi none = ((its.drop (HT.sIx its.length 0 lo)).take (HT.sIx its.length its.length hi - HT.sIx its.length 0 lo)).toArray := by
  obtain ⟨h1, h2, h3⟩ := slice_bounds lo hi its.toArray.size
  unfold slicePick
  rw [h1, h2, h3]
  simp only [sliceRange_one, pick_run, List.size_toArray] <;> rfl
noncomputable def rSlL (K : PySem.W.Frag) : V → Option Int → Option Int → Hp → VK → Prop := fun x lo hi H Q => ∃ a xs, x = .ref a ∧ SqL K H a xs ∧ ∀ p, H p = none → Q (.ref p) (upd H p (.lst (cutV xs lo hi)))
theorem sl_list : SlR X (rSlL X.K) := by
  intro pins s σ H x v vl vu lo hi sl Q I rx hs pl pu h
  obtain ⟨a, xs, rfl, hx, q⟩ := h
  cases rx
  obtain ⟨its, r, ht, hz⟩ := I.list hx
  have hlen := r.length
  refine ⟨"list", _, slot_list_getitem.lookup, ht.isList.typeIs, ?_⟩
  refine wpAny_getItem_list_slice ht.isList hs pl pu .none (by simp) ?_ (by rw [List.size_toArray] <;> omega)
  rw [slicePick_cut, ← hlen]
  refine ⟨.ref s.heap.objs.size, _, I.laid (t' := s.toks) (o := .lst (cutV xs lo hi)) (fun b ob q => Heap.get?_push_of_some _ q) (Nat.le_refl _) ?_, rfl, q _ (I.hok.fresh (Nat.le_refl _))⟩
  exact ⟨Nat.le_trans (cutV_length xs lo hi) hz, _, 0, (r.drop (HT.sIx xs.length 0 lo)).take (HT.sIx xs.length xs.length hi - HT.sIx xs.length 0 lo), Heap.get?_push_size _ rfl⟩
noncomputable def flatV : V → Bool
  | .non => true
  | .bl _ => true
  | .int _ => true
  | .str _ => true
  | _ => false
noncomputable def eqV : V → V → Bool
  | .non, .non => true
  | .bl a, .bl b => a == b
  | .bl a, .int b => (if a then 1 else 0) == b
  | .int a, .bl b => a == (if b then 1 else 0)
  | .int a, .int b => a == b
  | .str a, .str b => a == b
  | _, _ => false
theorem call_len_seq : CallR X (.builtin "len") (fun xs H Q => ∃ p ys, xs = [.ref p] ∧ (SqL X.K H p ys ∨ SqT X.K H p ys) ∧ Q (.int ys.length) H) := by
  intro pins s σ H xs us Q I r h
  obtain ⟨p, ys, rfl, hq, q⟩ := h
  obtain ⟨u, rfl, rx⟩ := vals1 r
  cases rx
  have hn := line63
  rcases hq with hq | hq
  · obtain ⟨its, r', pl, hz⟩ := I.list hq
    have hlen := r'.length
    exact Calls.call_len_list pl.isList (by simp only [List.size_toArray] <;> omega) ⟨.int ys.length, H, I.tok _, ⟨s.toks + 1, by rw [List.size_toArray, hlen]⟩, q⟩
  · obtain ⟨its, r', pl, hz⟩ := I.tuple hq
    have hlen := r'.length
    exact len_tuple pl (by simp only [List.size_toArray] <;> omega) ⟨.int ys.length, H, I.tok _, ⟨s.toks + 1, by rw [List.size_toArray, hlen]⟩, q⟩
theorem call_list_of : CallR X (.type "list") (fun xs H Q => ∃ p ys, xs = [.ref p] ∧ (SqL X.K H p ys ∨ SqT X.K H p ys) ∧ ∀ l, H l = none → Q (.ref l) (upd H l (.lst ys))) := by
  intro pins s σ H xs us Q I r h
  obtain ⟨p, ys, rfl, hq, q⟩ := h
  obtain ⟨u, rfl, rx⟩ := vals1 r
  cases rx
  have fin : ∀ (its : List Value), Vals ys its → ys.length ≤ sizeLine → ∀ (h' : Heap) (c' : Nat), (∀ b o', s.heap.get? b = some o' → h'.get? b = some o') →
      h'.get? s.heap.objs.size = some { cls := .type "list", dict := none, data := .seq its.toArray c', slots := #[] } → EP X pins σ Q (.ref s.heap.objs.size) { s with heap := h' } := fun its r' hz h' c' kp e =>
    ⟨.ref s.heap.objs.size, _, I.laid (t' := s.toks) kp (Nat.le_refl _) (show ObjOk X.prog X.w _ h' _ (.lst ys) from ⟨hz, its, c', r', e⟩), rfl, q _ (I.hok.fresh (Nat.le_refl _))⟩
  rcases hq with hq | hq
  · obtain ⟨its, r', pl, hz⟩ := I.list hq
    have hlen := r'.length
    obtain ⟨o, ho, hc, n, hd⟩ := pl.isList
    exact call_list_seq p (.inl rfl) ho hc hd (fun h' c' kp e => fin its r' hz h' c' kp e) (by simp only [List.size_toArray] <;> omega)
  · obtain ⟨its, r', pl, hz⟩ := I.tuple hq
    have hlen := r'.length
    obtain ⟨o, ho, hc, n, hd⟩ := pl
    exact call_list_seq p (.inr rfl) ho hc hd (fun h' c' kp e => fin its r' hz h' c' kp e) (by simp only [List.size_toArray] <;> omega)
noncomputable def tyV (K : PySem.W.Frag) (T : String) (x : V) (H : Hp) : Prop := match x with
  | .str _ => T = "str"
  | .int _ => T = "int"
  | .ref p => (T = "list" ∧ ∃ xs, SqL K H p xs) ∨ (T = "tuple" ∧ ∃ o, K.lookup p = some o ∧ o.cls = .type "tuple" ∧ o.dict = none) ∨
      (T = "dict" ∧ ((∃ kvs, H p = some (.dK kvs)) ∨ ∃ kvs, H p = some (.dT kvs))) ∨ (T = "set" ∧ ∃ S n, H p = some (.set S n))
  | _ => False
theorem tyV_is {pins : List (Addr × Obj)} {σ : St} {H : Hp} {s : Shared} {T : String} {x : V} {v : Value} (I : Inv X pins σ H s) (r : RelV x v) (ty : tyV X.K T x H) :
    s.TypeIs v T ∧ ∀ a, v = .ref a → ∃ ob, s.heap.get? a = some ob ∧ ob.dict = none := by
  cases x with
  | str z =>
    obtain ⟨t, rfl⟩ := r
    cases (show T = "str" from ty)
    exact ⟨typeIs_str s z t, fun _ e => nomatch e⟩
  | int i =>
    obtain ⟨t, rfl⟩ := r
    cases (show T = "int" from ty)
    exact ⟨typeIs_int s i t, fun _ e => nomatch e⟩
  | ref p =>
    cases r
    rcases ty with ⟨rfl, xs, hq⟩ | ⟨rfl, o, hk, hc, hd⟩ | ⟨rfl, hk⟩ | ⟨rfl, S, n, hk⟩
    · obtain ⟨its, _, pl, _⟩ := I.list hq
      refine ⟨pl.isList.typeIs, fun a e => ?_⟩
      cases e
      obtain ⟨o, n, e, c, hd, _⟩ := pl
      exact ⟨o, e, hd⟩
    · refine ⟨⟨o, I.kIn p o hk, hc⟩, fun a e => ?_⟩
      cases e
      exact ⟨o, I.kIn _ o hk, hd⟩
    · have z : ∃ o, s.heap.get? p = some o ∧ o.ExactDict := by
        rcases hk with ⟨kvs, hk⟩ | ⟨kvs, hk⟩
        · obtain ⟨_, _, _, _, o, _, _, e, ex, _⟩ := I.hok p _ hk
          exact ⟨o, e, ex⟩
        · obtain ⟨_, _, _, _, o, _, _, e, ex, _⟩ := I.hok p _ hk
          exact ⟨o, e, ex⟩
      obtain ⟨o, e, ex⟩ := z
      refine ⟨⟨o, e, ex.1⟩, fun a e2 => ?_⟩
      cases e2
      exact ⟨o, e, ex.2.1⟩
    · obtain ⟨o, _, _, _, e, ex, _⟩ := I.hok p _ hk
      refine ⟨⟨o, e, ex.1⟩, fun a e2 => ?_⟩
      cases e2
      exact ⟨o, e, ex.2.1⟩
  | _ => exact False.elim ty
noncomputable def tBM0 (K : PySem.W.Frag) (T : String) (r : V → List V → Hp → VK → Prop) (to : TE) : TE := fun σ H Q => to σ H fun x H1 => tyV K T x H1 ∧ r x [] H1 Q
noncomputable def tBM (K : PySem.W.Frag) (T : String) (r : V → List V → Hp → VK → Prop) (to : TE) (t : TA) : TE := fun σ H Q => to σ H fun x H1 => tyV K T x H1 ∧ t σ H1 fun xs H2 => r x xs H2 Q
variable {o e : Expr} {es : List Expr} {to : TE} {t : TA} {name : Str} {apos cpos : Pos} {T id : String} {r : V → List V → Hp → VK → Prop}
theorem pe_bm0 (pa : PlainAttrs T) (slot : Slot T name id) (hty : typeOf (.builtin id) = pure (.type "method_descriptor")) (hm : MtR X id r) (ho : PE X o to)
    (hbase : attributeBase o name X.env (eval o X.env) = eval o X.env := by rfl) (hline : (apos.endLine == cpos.line) = true := by rfl) : PE X (.Call (.Attribute o name apos) [] [] cpos) (tBM0 X.K T r to) := by
  intro pins s σ H Q I h
  refine wpAny_Call_method0_late hbase hline (thn (ho pins s σ H _ I h) fun v s1 ⟨x, H1, I1, r1, ty, q1⟩ => ?_)
  obtain ⟨h1, h2⟩ := tyV_is I1 r1 ty
  exact ⟨T, id, pa, slot, hty, h1, h2, Calls.callWith_builtin rfl (PySem.evalArgs_none (hm pins s1 σ H1 x [] v [] Q I1 r1 .nil q1))⟩
theorem pe_bm (pa : PlainAttrs T) (slot : Slot T name id) (hty : typeOf (.builtin id) = pure (.type "method_descriptor")) (hm : MtR X id r) (ho : PE X o to) (ha : PA X (e :: es) t)
    (hbase : attributeBase o name X.env (eval o X.env) = eval o X.env := by rfl)
    (hfew : ((backTo cpos (starEach (e :: es) X.env)).all (fun x => !x.1) && (backToKw cpos (keywordEach [] X.env)).all (fun x => x.1.isSome)
      && decide ((e :: es).length + ([] : List Keyword).length + (if ([] : List Keyword).isEmpty then 0 else 1) < 30)) = true := by rfl)
    (hline : (apos.endLine == cpos.line) = true := by rfl) (hs : starEach (e :: es) X.env = (false, eval e X.env) :: starEach es X.env := by rfl) (hplain : (backTo cpos (starEach es X.env)).any (·.1) = false := by rfl) :
    PE X (.Call (.Attribute o name apos) (e :: es) [] cpos) (tBM X.K T r to t) := by
  intro pins s σ H Q I h
  refine wpAny_Call_method_late hbase hfew hline rfl (thn (ho pins s σ H _ I h) fun v s1 ⟨x, H1, I1, r1, ty, q1⟩ => ?_)
  obtain ⟨h1, h2⟩ := tyV_is I1 r1 ty
  refine ⟨T, id, pa, slot, hty, h1, h2, ?_⟩
  have hA := ha cpos pins s1 σ H1 _ I1 q1
  rw [hs] at hA ⊢
  refine Calls.callWith_builtin (by show (false || (backTo cpos (starEach es X.env)).any (·.1)) = false; rw [hplain] <;> rfl) (Calls.evalArgs_plain ?_)
  exact thn hA fun us s2 ⟨vs, H2, I2, r2, q2⟩ => hm pins s2 σ H2 x vs v us Q I2 r1 r2 q2
/- xs.append(e), list.index on a module's tuple .. are MtR facts of 06m -/
end
end L2
namespace L2
open PySem PySem.Spec PyProof.Rows
noncomputable def MtM (X : Cx) (id : String) (r : V → List V → Hp → VK → Prop) : Prop :=
  ∀ (pins : List (Addr × Obj)) (s : Shared) (σ : St) (H : Hp) (x : V) (xs : List V) (v : Value) (us : List Value) (Q : VK), Inv X pins σ H s → RelV x v → Vals xs us → r x xs H Q →
    wpAny (model X.prog X.w) X.A (call (.builtin id) (v :: us)) (EP X pins σ Q) X.xe s
theorem Vals.one : ∀ {x : V} {us : List Value}, Vals [x] us → ∃ u, us = [u] ∧ RelV x u
  | _, _, .cons r .nil => ⟨_, rfl, r⟩
theorem Vals.two : ∀ {x y : V} {us : List Value}, Vals [x, y] us → ∃ u v, us = [u, v] ∧ RelV x u ∧ RelV y v
  | _, _, _, .cons r (.cons q .nil) => ⟨_, _, rfl, r, q⟩
theorem Vals.zero : ∀ {us : List Value}, Vals [] us → us = []
  | _, .nil => rfl
section
variable {X : Cx} {pins : List (Addr × Obj)} {σ : St} {H : Hp} {s : Shared} {l b : Addr} {xs ys zs : List V}
theorem Inv.lset {its its' : List Value} {n : Nat} {f : Array Value → Array Value} {t' : Nat} (I : Inv X pins σ H s) (hH : H l = some (.lst xs))
    (e : s.heap.get? l = some { cls := .type "list", data := .seq its.toArray n }) (hf : f its.toArray = its'.toArray) (hv : Vals ys its') (hz : ys.length ≤ sizeLine) :
    Inv X pins σ (upd H l (.lst ys)) { s with heap := s.heap.update l (Obj.mapSeq f), toks := t' } := by
  have q := PySem.IsL.update e f
  rw [hf] at q
  refine I.write (x := l) (e := l) (by rw [hH]; exact trivial) (.inl rfl) (fun b' u hb hu => (Heap.get?_update_other s.heap (Obj.mapSeq f) (Ne.symm hb)).trans hu) ⟨_, q⟩ ?_
  exact ⟨hz, its', _, hv, q⟩
theorem Inv.lnew {its : List Value} {t' : Nat} (I : Inv X pins σ H s) (hv : Vals ys its) (hz : ys.length ≤ sizeLine) :
    Inv X pins σ (upd H s.heap.objs.size (.lst ys)) { s with heap := s.heap.push { cls := .type "list", data := .seq its.toArray }, toks := t' } :=
  I.laid (fun _ _ q => Heap.get?_push_of_some _ q) (Nat.le_refl _) ⟨hz, its, 0, hv, Heap.get?_push_size _ rfl⟩
theorem Inv.fresh (I : Inv X pins σ H s) : H s.heap.objs.size = none := I.hok.fresh (Nat.le_refl _)
theorem Inv.lstM (I : Inv X pins σ H s) (hH : H l = some (.lst xs)) : xs.length ≤ sizeLine ∧ ∃ (its : List Value) (n : Nat), Vals xs its ∧ xs.length = its.length ∧ s.heap.get? l = some { cls := .type "list", data := .seq its.toArray n } := by
  obtain ⟨z, its, n, r, e⟩ := I.hok l _ hH
  exact ⟨z, its, n, r, r.length, e⟩
theorem notLongL {n : Nat} (h : n ≤ sizeLine) : Builtin.List.listTooLong n = false := by
  unfold Builtin.List.listTooLong
  exact decide_eq_false (by omega)
end
section
variable {X : Cx}
noncomputable def rAppend : V → List V → Hp → VK → Prop := fun x vs H Q => ∃ l xs y, x = .ref l ∧ vs = [y] ∧ H l = some (.lst xs) ∧ xs.length < sizeLine ∧ Q .non (upd H l (.lst (xs ++ [y])))
theorem mt_append : MtM X "list.append" rAppend := by
  intro pins s σ H x vs v us Q I rx rv h
  obtain ⟨l, xs, y, rfl, rfl, hH, hz, q⟩ := h
  cases rx
  obtain ⟨u, rfl, ru⟩ := rv.one
  obtain ⟨z, its, n, r, hl, e⟩ := I.lstM hH
  refine call_meets F.slot_list_append ⟨_, e, rfl⟩ F.entry_list_append (F.args_list_append_2 _ _) (PySem.list_append l its.toArray n u (by rw [List.size_toArray]; omega)) ⟨e, ?_⟩
  refine ⟨.non, _, I.lset (its' := its ++ [u]) hH e (by simp) (r.append (.cons ru .nil)) ?_, rfl, q⟩
  rw [List.length_append, List.length_singleton]
  omega
noncomputable def rExtend : V → List V → Hp → VK → Prop := fun x vs H Q => ∃ l b xs zs, x = .ref l ∧ vs = [.ref b] ∧ H l = some (.lst xs) ∧ H b = some (.lst zs) ∧ xs.length + zs.length ≤ sizeLine ∧ Q .non (upd H l (.lst (xs ++ zs)))
theorem mt_extend : MtM X "list.extend" rExtend := by
  intro pins s σ H x vs v us Q I rx rv h
  obtain ⟨l, b, xs, zs, rfl, rfl, hH, hB, hz, q⟩ := h
  cases rx
  obtain ⟨u, rfl, ru⟩ := rv.one
  cases ru
  obtain ⟨z, its, n, r, hl, e⟩ := I.lstM hH
  obtain ⟨z2, its2, n2, r2, hl2, e2⟩ := I.lstM hB
  have hsz : its.toArray.size + its2.toArray.size ≤ sizeLine := by rw [List.size_toArray, List.size_toArray]; omega
  have hlong : ¬ (!its.toArray.isEmpty && Builtin.List.listTooLong (its.toArray.size + its2.toArray.size)) = true := by
    rw [notLongL hsz, Bool.and_false]
    exact Bool.false_ne_true
  refine call_meets F.slot_list_extend ⟨_, e, rfl⟩ F.entry_list_extend (F.args_list_extend_2 _ _)
    (AutoSeq1.list_extend_list_list_0 l its.toArray n b its2.toArray n2 hlong (by rw [List.size_toArray]; omega) (by omega)) ⟨e, e2, ?_⟩
  refine ⟨.non, _, I.lset (its' := its ++ its2) hH e (by simp) (r.append r2) ?_, rfl, q⟩
  rw [List.length_append]
  omega
noncomputable def rClear : V → List V → Hp → VK → Prop := fun x vs H Q => ∃ l xs, x = .ref l ∧ vs = [] ∧ H l = some (.lst xs) ∧ Q .non (upd H l (.lst []))
theorem mt_clear : MtM X "list.clear" rClear := by
  intro pins s σ H x vs v us Q I rx rv h
  obtain ⟨l, xs, rfl, rfl, hH, q⟩ := h
  cases rx
  have hus := rv.zero
  subst hus
  obtain ⟨z, its, n, r, hl, e⟩ := I.lstM hH
  refine call_meets F.slot_list_clear ⟨_, e, rfl⟩ F.entry_list_clear (F.args_list_clear_1 _) (AutoSeq1.list_clear_list_0 l its.toArray n (by rw [List.size_toArray]; omega)) ⟨e, ?_⟩
  exact ⟨.non, _, I.lset (its' := []) (ys := []) hH e rfl .nil (Nat.zero_le _), rfl, q⟩
end
end L2
namespace Att
open PySem PySem.W PySem.Calls PyProof.Rows
theorem ints_of_wellAll {P : Params} {h : Heap} : ∀ (ns : List Int) (vs : List Value), WellAll P h vs (ns.map WData.int) → IntsAre vs ns := by
  intro ns
  induction ns with
  | nil =>
    intro vs w
    rw [List.map_nil] at w
    cases w
    exact .nil
  | cons n ns ih =>
    intro vs w
    rw [List.map_cons] at w
    cases w with
    | cons a b =>
      cases a
      exact .cons _ _ (ih _ b)
theorem script_of {l : OpenLaw} {n : Nat} (hn : l.most = some n) {P : Params} {h : Heap} {args : List WData} {vals : List Value}
    (hpre : l.row.toRowW.claim.pre args = true) (hwl : WellAll P h vals args) :
    ∃ a vs ns, vals = [Value.ref a] ∧ args = [WData.list (ns.map WData.int)] ∧ h.get? a = some { cls := .type "list", data := .seq vs.toArray } ∧ IntsAre vs ns ∧ ns.length ≤ n := by
  have hsh : WShape.hasAll [] args [.list .int] = true := (pre_splitW hpre).1
  have hc : l.pre.holds [] { args := args } = true := (pre_splitW hpre).2
  obtain ⟨d, r, rfl, h1, h2⟩ := hasAllW_cons hsh
  obtain rfl := hasAllW_nil h2
  obtain ⟨xs, rfl, h3⟩ := hasW_list h1
  obtain ⟨ns, rfl⟩ := items_int h3
  have hlen : ns.length ≤ n := by
    unfold OpenLaw.pre at hc
    have h4 : (WTm.not (.lt (.lit (.int (n : Int))) (.len (.arg 0)))).holds [] { args := [.list (ns.map .int)] } = true := by
      have h4 := (holds_andW hc).1
      rw [hn] at h4
      exact h4
    have h5 := condW_of h4 (w_not (w_lt w_lit (w_len_list (w_arg rfl))))
    rw [List.length_map] at h5
    refine Nat.le_of_not_lt fun q => ?_
    have q' : (n : Int) < ((ns.length : Nat) : Int) := by omega
    first
      | (rw [decide_eq_true q'] at h5; exact absurd h5 (by decide))
      | (simp at h5; omega)
  cases hwl with
  | cons w1 w2 =>
    cases w2
    cases w1 with
    | list ho hall => exact ⟨_, _, ns, rfl, rfl, ho, ints_of_wellAll ns _ hall, hlen⟩
theorem post_true (l : OpenLaw) (args : List WData) : l.row.toRowW.claim.post args (.bool true) args = true :=
  postW_of (r := l.row.toRowW) (X := (true == true))
    (show WShape.has [] (.bool true) .bool = true by first | rfl | decide | simp [WShape.has, WShape.arms, WShape.armsAll])
    (show (WTm.eq .res (.lit (.bool true))).value [] { args := args, res := some (.bool true), after := args } = some (.bool (true == true)) from w_eq_bool (w_res rfl) w_lit) rfl
theorem attach_call {l : OpenLaw} {n : Nat} {q : Program} {loose : List Str} {XP : (Str → Option Value) → Heap → Prop} {YP : World → Heap → Prop} {d : DefRec}
    (hn : l.most = some n) (hdf : d.params.defaults = [])
    (call : ∀ (w : World) (s₀ s₁ : Shared) (mg mb : Str → Option Value) (fa : Addr) (o : Obj) (pm cd doc : Value) (a : Addr) (vs : List Value) (ns : List Int),
      Ground q loose [] XP w s₀ mg mb s₁.heap → YP w s₁.heap →
      s₁.heap.get? fa = some o → o.data = .func (docDef d.name d.params d.body d.scope pm cd doc) → s₁.heap.CodeRec cd d.name → mg d.name = some (.ref fa) →
      s₁.heap.get? a = some { cls := .type "list", data := .seq vs.toArray } → IntsAre vs ns → ns.length ≤ n → s₁.gens = #[] →
      codeAny (model l.prog w) callerA (.call (.ref fa) ⟨[.ref a], []⟩) (fun r s' => r = .ok (.ret (.bool true)) ∧ OldK s₁.heap s'.heap ∧ s'.os = s₁.os ∧ AllBare s'.gens) s₁) :
    WalkO q loose XP YP l.row.toRowW d [] (fun f vs => PySem.call f vs) := by
  intro w s₀ s₁ mg mb G Y fa o pm cd doc dV kV ho hd hcd hD hmg hg args vals as hpre hlay hrd hwl hlo
  obtain rfl : dV = .none := Dflts.none hD hdf
  obtain rfl : kV = .none := Dflts.noKw hD
  obtain ⟨a, vs, ns, rfl, rfl, hobj, hints, hlen⟩ := script_of hn hpre hwl
  refine enter_call (codeAny_mono (call w s₀ s₁ mg mb fa o pm cd doc a vs ns G Y ho (fd_plain hd) hcd hmg hobj hints hlen hg) fun r s' hq => ?_)
  obtain ⟨rfl, h2, h3, h4⟩ := hq
  exact ⟨.inl ⟨.bool true, .bool true, [], rfl, fun _ => rfl, .bool true, post_true l _, fun _ => ⟨List.Pairwise.nil, fun _ hm => (nomatch hm)⟩⟩, h2, h3, h4⟩
section
variable {prog : Program} {w : World} {A : Around} {E : Value → Shared → Prop} {s : Shared} {K : Frag}
theorem make_obj {R : Result → Shared → Prop} {C fI : Addr} {rest : List Value} {kw : List (Str × Value)}
    (X : K.In s.heap) (hm : makesIn K C = true) (hi : findIn K (.ref C) "__init__" = some (some (.ref fI))) (hf : isFn K (.ref fI) = true)
    (h : codeAny (model prog w) (A.under (.builtin "type.__call__" ⟨.ref C :: rest, kw⟩)) (.call (.ref fI) ⟨.ref (s.heap.objs.size + 1) :: rest, kw⟩) (InitBack (s.heap.objs.size + 1) R)
      { s with heap := (s.heap.push emptyDict).push (instObj C s.heap.objs.size) }) : codeAny (model prog w) A (.call (.ref C) ⟨rest, kw⟩) R s := by
  obtain ⟨hh, g, d, t, os⟩ := s
  exact make_core (makes_of X hm) (looks_findIn X hi) (fun self => bind_fn X self (beq_iff_eq.mp hf)) (.inl rfl) h
theorem get_field {x C : Addr} {ox : Obj} {es : List DictEntry} {n : Nat} {name : Str} {expr : Bool} {v : Value} {Q : Value → Shared → Prop}
    (X : K.In s.heap) (I : PySem.W.InstAt s.heap x ox C (some (dictOf es n))) (hg : plainGet K C name = true) (hh : hasDictIn K C = true) (ha : findIn K (.ref C) name = some none)
    (hl : getL name es = some (some v)) (hv : handedIn v = true) (h : Q v { s with toks := s.toks + 1 }) : wpAny (model prog w) A (getAttr (.ref x) name expr) Q E s :=
  get_value X I (plainGet_of hg).1 (findObj_own hh ha rfl hl) hv h
end
end Att
namespace L2
open PySem PySem.Spec PyProof.Rows
theorem vals_ints : ∀ {vs : List Value} {ns : List Int}, IntsAre vs ns → Vals (ns.map V.int) vs
  | _, _, .nil => .nil
  | _, _, .cons n t h => .cons ⟨t, rfl⟩ (vals_ints h)
noncomputable def Only (H : Hp) : Prop := ∀ b, H b = none ∨ ∃ o xs, H b = some (.frz o (.lst xs))
theorem law_call {P : Program} {w : World} {K : PySem.W.Frag} {mg mb : Str → Option Value} {CX : CXT} {k : Nat} {fa a : Addr} {fd : FuncData} {x : Str} {sp : Sp} {s₁ : Shared} {vs : List Value} {ns : List Int}
    (KX : K.In s₁.heap) (hns : s₁.heap.Ns mainGlobals mg) (hb : s₁.heap.Ns builtinsNs mb) (hbb : ∀ x : Str, x ≠ "__name__" → mb x = bootBuiltins x) (hlim : s₁.heap.NoLimit) (hg : s₁.gens = #[])
    (ha : s₁.heap.get? a = some { cls := .type "list", data := .seq vs.toArray }) (hi : IntsAre vs ns) (hl : ns.length ≤ sizeLine) (hr : Room k callerA)
    (F : ∀ base : Heap, K.In base → base.Ns mainGlobals mg → FnOk P w K mg base CX k fa fd [x] sp) (hbind : ∀ (s : Shared) (u : Value), BindsTo s fd ⟨[u], []⟩ [(x, u)])
    (hsp : ∀ H : Hp, Only H → SqL K H a (ns.map V.int) → sp [.ref a] H (fun v _ => v = .bl true) fun _ _ _ => False)
    (hCX : ∀ H e s', CX [] H s₁ (fun _ _ _ => False) e s' → False) :
    codeAny (model P w) callerA (.call (.ref fa) ⟨[.ref a], []⟩) (fun r s' => r = .ok (.ret (.bool true)) ∧ OldK s₁.heap s'.heap ∧ s'.os = s₁.os ∧ AllBare s'.gens) s₁ := by
  have rv := vals_ints hi
  have lenV := hi.length
  have core : ∀ H : Hp, Only H → SqL K H a (ns.map V.int) → HOk P w H s₁.heap → (∀ b, H b ≠ none → b = a) → (H a ≠ none → K.lookup a = none) →
      codeAny (model P w) callerA (.call (.ref fa) ⟨[.ref a], []⟩) (fun r s' => r = .ok (.ret (.bool true)) ∧ OldK s₁.heap s'.heap ∧ s'.os = s₁.os ∧ AllBare s'.gens) s₁ := by
    intro H hO hS hok hA hK
    have base_of : ∀ {b : Addr} {o : Obj}, s₁.heap.get? b = some o → H b = none → (hidT s₁.heap H).get? b = some o := fun e n => hidT_get e n
    have noA : ∀ {b : Addr} {o : Obj} {es : Array DictEntry} {ep : Nat}, s₁.heap.get? b = some o → o.data = .dict es ep → H b = none := fun {b o es ep} e d => by
      cases q : H b with
      | none => rfl
      | some u =>
        have e' : b = a := hA b (by rw [q]; simp)
        subst e'
        rw [ha] at e; cases e
        have d' : Data.seq vs.toArray _ = Data.dict es ep := d
        cases d'
    have nsK : ∀ {b : Addr} {m : Str → Option Value}, s₁.heap.Ns b m → (hidT s₁.heap H).Ns b m := fun {b m} ⟨o, es, ep, e, d, r⟩ => ⟨o, es, ep, base_of e (noA e d), d, r⟩
    have hKb : K.In (hidT s₁.heap H) := fun b o e => base_of (KX b o e) (by
      cases q : H b with
      | none => rfl
      | some u =>
        have e' : b = a := hA b (by rw [q]; simp)
        subst e'
        rw [hK (by rw [q]; simp)] at e; cases e)
    have hM : Mod K mg (hidT s₁.heap H) := ⟨hKb, nsK hns, ⟨mb, nsK hb, hbb⟩, let ⟨mc, h1, h2⟩ := hlim; ⟨mc, nsK h1, h2⟩⟩
    have e0 : Env0 P w K mg (hidT s₁.heap H) callerA [] s₁ H := ⟨rfl, hM, fun b o e => of_hidT e, Nat.le_of_eq (hidT_size _ _), trivial, fun b hb => absurd (show b ∈ ([] : List Addr) from hb) (by simp), hok, .of_eq hg⟩
    refine codeAny_mono ((F _ hKb (nsK hns)).run callerA [] s₁ H ⟨[.ref a], []⟩ [.ref a] [.ref a] _ _ hr e0 (hbind s₁ (.ref a)) (.cons rfl .nil) (hsp H hO hS)) fun r s' h => ?_
    cases r with
    | error e => exact (hCX H e s' h).elim
    | ok fl =>
      cases fl with
      | next => exact False.elim h
      | brk => exact False.elim h
      | cont => exact False.elim h
      | ret u =>
        obtain ⟨v, H', os, bare, un, hok', r', q⟩ := h
        have q' : v = .bl true := q
        subst q'
        obtain rfl : u = Value.bool true := r'
        refine ⟨rfl, OldK.of_keep fun b o e => ?_, os, bare⟩
        cases q : H b with
        | none => exact un.keep b o e q (by intro z; exact absurd (show b ∈ ([] : List Addr) from z) (by simp)) (by simp)
        | some u =>
          rcases hO b with z | ⟨ob, xs, z⟩
          · rw [q] at z; cases z
          · have z2 := un.frzs b ob _ z
            obtain ⟨e1, _⟩ := hok b _ z
            obtain ⟨e2, _⟩ := hok' b _ z2
            rw [e] at e1; cases e1
            exact e2
  cases hk : K.lookup a with
  | some o =>
    have e := KX a o hk
    rw [ha] at e
    cases e
    refine core (fun _ => none) (fun _ => .inl rfl) (.inr ⟨_, vs.toArray, _, hk, rfl, rfl, rfl, by rw [List.size_toArray, lenV]; exact hl, by simpa using rv⟩) (fun b u z => by have z' : (none : Option HO) = some u := z; cases z') (fun b z => absurd rfl z) fun z => absurd rfl z
  | none =>
    refine core (fun b => if b = a then some (.frz { cls := .type "list", data := .seq vs.toArray } (.lst (ns.map V.int))) else none) (fun b => ?_) (.inl (.inr ⟨{ cls := .type "list", data := .seq vs.toArray }, if_pos rfl⟩)) (fun b u z => ?_) (fun b z => ?_) fun _ => hk
    · by_cases hb : b = a
      · exact .inr ⟨_, _, if_pos hb⟩
      · exact .inl (if_neg hb)
    · by_cases hb : b = a
      · have z' := (if_pos hb).symm.trans z
        cases z'
        subst hb
        exact ⟨ha, by rw [List.length_map]; exact hl, vs, _, rv, ha⟩
      · have z' := (if_neg hb).symm.trans z
        cases z'
    · by_cases hb : b = a
      · exact hb
      · exact absurd (if_neg hb) z
end L2
namespace L2
open PySem PySem.Spec PyProof.Rows
theorem walk_of {l : PySem.W.OpenLaw} {n k : Nat} {q : Program} {loose : List Str} {XP : (Str → Option Value) → Heap → Prop} {YP : World → Heap → Prop} {d : DefRec} {K : Params → PySem.W.Frag} {CX : World → CXT} {sp : World → Sp} {x : Str}
    (hn : l.most = some n) (hn2 : n ≤ sizeLine) (hdf : d.params.defaults = []) (hr : Room k callerA)
    (hY : ∀ (w : World) (h : Heap), YP w h → (K w.params).In h)
    (F : ∀ (w : World) (mg : Str → Option Value) (fa : Addr) (h : Heap), (K w.params).In h → h.Ns mainGlobals mg → mg d.name = some (.ref fa) →
      ∃ fd : FuncData, (∀ (s : Shared) (u : Value), BindsTo s fd ⟨[u], []⟩ [(x, u)]) ∧
        ∀ base : Heap, (K w.params).In base → base.Ns mainGlobals mg → FnOk l.prog w (K w.params) mg base (CX w) k fa fd [x] (sp w))
    (hsp : ∀ (w : World) (H : Hp) (a : Addr) (ns : List Int), ns.length ≤ n → Only H → SqL (K w.params) H a (ns.map V.int) → sp w [.ref a] H (fun v _ => v = .bl true) fun _ _ _ => False)
    (hCX : ∀ (w : World) (H : Hp) (s : Shared) (e : Value) (s' : Shared), CX w [] H s (fun _ _ _ => False) e s' → False) :
    PySem.W.WalkO q loose XP YP l.row.toRowW d [] (fun f vs => PySem.call f vs) := by
  refine Att.attach_call hn hdf fun w s₀ s₁ mg mb fa o pm cd doc a vs ns G Y ho hd hcd hmg hobj hints hlen hg => ?_
  have KX := hY w _ Y
  obtain ⟨fd, hb, hF⟩ := F w mg fa _ KX G.T.g hmg
  exact law_call KX G.T.g G.T.b G.T.builtins G.T.nolimit hg hobj hints (Nat.le_trans hlen hn2) hr hF hb (fun H hO hS => hsp w H a ns hlen hO hS) fun H e s' => hCX w H s₁ e s'
end L2
namespace L2
open PySem PySem.Spec PyProof.Rows
noncomputable def inClass (s : Stmt) (j : Nat) : Stmt := match s with
  | .ClassDef _ _ _ body _ _ _ _ _ _ _ => body.getD j (.Pass ⟨0, 0, 0, 0⟩)
  | _ => .Pass ⟨0, 0, 0, 0⟩
noncomputable def defArgs (s : Stmt) : Arguments := match s with
  | .FunctionDef _ a _ _ _ _ _ _ _ _ => a
  | _ => { posonlyargs := [], args := [], vararg := none, kwonlyargs := [], kw_defaults := [], kwarg := none, defaults := [] }
noncomputable def defBody (s : Stmt) : List Stmt := match s with
  | .FunctionDef _ _ b _ _ _ _ _ _ _ => b
  | _ => []
noncomputable def defScope (s : Stmt) : Scope := match s with
  | .FunctionDef _ _ _ _ _ _ sc _ _ _ => sc
  | _ => { kind := .function, names := [], isGenerator := false, isCoroutine := false }
noncomputable abbrev CX0 : CXT := fun _ _ _ _ _ _ => False
noncomputable abbrev E0 : XK := fun _ _ _ => False
theorem pass0 {X : Cx} : Passes CX0 X E0 := fun _ _ _ _ _ _ _ h => h.elim
structure Fun (K : PySem.W.Frag) (x qual : Str) (st : Stmt) (f : Addr) (fd : FuncData) : Prop where
  ex : ∃ (oc : Value) (od : Option Addr) (kV doc pm : Value) (an : Option Addr) (cdv ct : Value) (osl : Array (Option Value)),
    fd = PySem.W.fnOf x qual (defArgs st) (defBody st) (defScope st) .none kV doc pm an cdv ct ∧ K.lookup f = some ⟨oc, od, .func fd, osl⟩ ∧ PySem.W.codeIn K cdv qual = true
  kp : PySem.W.keepIn K (.ref f) = true
section
variable {P : Program} {w : World} {K : PySem.W.Frag} {mg : Str → Option Value} {base : Heap}
theorem Fun.binds {x qual : Str} {st : Stmt} {f : Addr} {fd : FuncData} {ps : List Str} (F : Fun K x qual st f fd)
    (h : ∀ (kV doc pm : Value) (an : Option Addr) (cdv ct : Value) (us : List Value), us.length = ps.length → bindArgs (PySem.W.fnOf x qual (defArgs st) (defBody st) (defScope st) .none kV doc pm an cdv ct) ⟨us, []⟩ = pure (ps.zip us)) : Binds K fd ps [] := by
  obtain ⟨oc, od, kV, doc, pm, an, cdv, ct, osl, rfl, lk, hcd⟩ := F.ex
  exact .all (h kV doc pm an cdv ct)
theorem fun_mk {x qual : Str} {st : Stmt} {f : Addr} {oc : Value} {od an : Option Addr} {osl : Array (Option Value)} {kV doc pm cdv ct : Value} (l : K.lookup f = some ⟨oc, od, .func (PySem.W.fnOf x qual (defArgs st) (defBody st) (defScope st) .none kV doc pm an cdv ct), osl⟩)
    (c : PySem.W.codeIn K cdv qual = true) (k : PySem.W.keepIn K (.ref f) = true) : Fun K x qual st f (PySem.W.fnOf x qual (defArgs st) (defBody st) (defScope st) .none kV doc pm an cdv ct) := ⟨⟨oc, od, kV, doc, pm, an, cdv, ct, osl, rfl, l, c⟩, k⟩
end
section
variable {X : Cx}
theorem pv (i : Nat) {x : Str} {pos : Pos} (hN : X.N[i]? = some x := by rfl) (hv : Vis X.env.scope x := by first | exact Or.inl rfl | exact Or.inr (Or.inl rfl) | exact Or.inr (Or.inr rfl)) (hd : (x == ("__debug__" : Str)) = false := by decide)
    (hcd : (x == ("__classdict__" : Str)) = false := by decide) : PE X (.Name x pos) (tVar i) := pe_var hN hv hd hcd
end
theorem iteF {A B : Prop} (h : B) : if false = true then A else B := by
  rw [if_neg Bool.false_ne_true]
  exact h
theorem iteNS {c A B : Prop} [Decidable c] (hc : c) (h : B) : if (!decide c) = true then A else B := by
  rw [decide_eq_true hc]
  exact iteF h
noncomputable def Same (H H' : Hp) : Prop := ∀ b o, H b = some o → H' b = some o
theorem Same.refl (H : Hp) : Same H H := fun _ _ h => h
theorem Same.trans {H H1 H2 : Hp} (a : Same H H1) (b : Same H1 H2) : Same H H2 := fun c o h => b c o (a c o h)
theorem Same.free {H H' : Hp} (e : Same H H') {l : Addr} (h : H' l = Option.none) : H l = Option.none := by
  cases q : H l with
  | none => rfl
  | some o =>
    rw [e l o q] at h
    cases h
end L2
set_option maxHeartbeats 4000000
namespace L2
open PySem PySem.Spec PyProof.Rows
noncomputable def clOf (cells : List (Str × Addr)) : List (Str × NameKind) → List (Str × Addr) → List (Str × Addr)
  | [], acc => acc
  | (x, k) :: r, acc => clOf cells r (if (k == NameKind.free) = true then (x, (cells.lookup x).getD 0) :: acc else acc)
theorem gt_ne {a b c : Addr} (h1 : b < a) (h2 : a < c) : c ≠ b := by
  rintro rfl
  exact absurd (Nat.lt_trans h1 h2) (Nat.lt_irrefl _)
theorem lt_ne {a b : Addr} {n : Nat} (h1 : a < n) (h2 : n ≤ b) : a ≠ b := by
  rintro rfl
  exact absurd (Nat.lt_of_lt_of_le h1 h2) (Nat.lt_irrefl _)
theorem clOf_cases {cells : List (Str × Addr)} {x : Str} {c : Addr} : ∀ (ns : List (Str × NameKind)) (acc : List (Str × Addr)), (clOf cells ns acc).lookup x = some c →
    ((x, NameKind.free) ∈ ns ∧ c = (cells.lookup x).getD 0) ∨ acc.lookup x = some c
  | [], _, h => .inr h
  | (y, k) :: r, acc, h => by
    unfold clOf at h
    rcases clOf_cases r _ h with ⟨m, e⟩ | q
    · exact .inl ⟨List.mem_cons_of_mem _ m, e⟩
    · by_cases hk : (k == NameKind.free) = true
      · rw [if_pos hk, List.lookup_cons] at q
        cases hy : x == y with
        | true =>
          rw [hy] at q
          have e1 := eq_of_beq hy
          have e2 := eq_of_beq hk
          subst e1 e2
          exact .inl ⟨List.mem_cons_self, (Option.some.inj q).symm⟩
        | false => rw [hy] at q; exact .inr q
      · rw [if_neg hk] at q; exact .inr q
theorem clOf_some {cells : List (Str × Addr)} {x : Str} : ∀ (ns : List (Str × NameKind)) (acc : List (Str × Addr)), ((x, NameKind.free) ∈ ns ∨ (acc.lookup x).isSome = true) → ((clOf cells ns acc).lookup x).isSome = true
  | [], _, h => h.elim (fun z => nomatch z) id
  | (y, k) :: r, acc, h => by
    unfold clOf
    refine clOf_some r _ ?_
    rcases h with h | h
    · rcases List.mem_cons.mp h with e | h
      · cases e
        refine .inr ?_
        rw [if_pos (by decide), List.lookup_cons]
        simp
      · exact .inl h
    · refine .inr ?_
      by_cases hk : (k == NameKind.free) = true
      · rw [if_pos hk, List.lookup_cons]
        cases hy : x == y with
        | true => rfl
        | false => exact h
      · rw [if_neg hk]; exact h
theorem cells_cases {x : Str} {c : Addr} : ∀ (ns : List (Str × NameKind)) (n : Nat) (acc : List (Str × Addr)), (cellsFrom n ns acc).lookup x = some c → (n ≤ c ∧ (x, NameKind.cell) ∈ ns) ∨ acc.lookup x = some c
  | [], _, _, h => .inr h
  | (y, k) :: r, n, acc, h => by
    unfold cellsFrom at h
    by_cases hk : (k == NameKind.cell) = true
    · rw [if_pos hk] at h
      rcases cells_cases r (n + 1) _ h with ⟨a, m⟩ | q
      · exact .inl ⟨by omega, List.mem_cons_of_mem _ m⟩
      · rw [List.lookup_cons] at q
        cases hy : x == y with
        | true =>
          rw [hy] at q
          have e1 := eq_of_beq hy
          have e2 := eq_of_beq hk
          have e3 := Option.some.inj q
          subst e1 e2 e3
          exact .inl ⟨Nat.le_refl _, List.mem_cons_self⟩
        | false => rw [hy] at q; exact .inr q
    · rw [if_neg hk] at h
      rcases cells_cases r n acc h with ⟨a, m⟩ | q
      · exact .inl ⟨a, List.mem_cons_of_mem _ m⟩
      · exact .inr q
theorem cells_inj : ∀ (ns : List (Str × NameKind)) (n : Nat) (acc : List (Str × Addr)), (∀ x y c, acc.lookup x = some c → acc.lookup y = some c → x = y) → (∀ x c, acc.lookup x = some c → c < n) →
    ∀ x y c, (cellsFrom n ns acc).lookup x = some c → (cellsFrom n ns acc).lookup y = some c → x = y
  | [], _, _, hi, _ => hi
  | (z, k) :: r, n, acc, hi, hl => by
    unfold cellsFrom
    by_cases hk : (k == NameKind.cell) = true
    · rw [if_pos hk]
      refine cells_inj r (n + 1) _ (fun x y c h1 h2 => ?_) (fun x c h1 => ?_)
      · rw [List.lookup_cons] at h1 h2
        cases hx : x == z with
        | true =>
          rw [hx] at h1
          have e1 := Option.some.inj h1
          cases hy : y == z with
          | true => rw [eq_of_beq hx, eq_of_beq hy]
          | false =>
            rw [hy] at h2
            have h3 := hl y c h2
            rw [← e1] at h3
            exact absurd h3 (Nat.lt_irrefl _)
        | false =>
          rw [hx] at h1
          cases hy : y == z with
          | true =>
            rw [hy] at h2
            have e2 := Option.some.inj h2
            have h3 := hl x c h1
            rw [← e2] at h3
            exact absurd h3 (Nat.lt_irrefl _)
          | false =>
            rw [hy] at h2
            exact hi x y c h1 h2
      · rw [List.lookup_cons] at h1
        cases hx : x == z with
        | true =>
          rw [hx] at h1
          have e1 := Option.some.inj h1
          rw [← e1]
          exact Nat.lt_succ_self _
        | false =>
          rw [hx] at h1
          exact Nat.lt_succ_of_lt (hl x c h1)
    · rw [if_neg hk]
      exact cells_inj r n acc hi hl
theorem push_cells {x : Str} {c : Addr} : ∀ (ns : List (Str × NameKind)) (h : Heap) (acc : List (Str × Addr)), (cellsFrom h.objs.size ns acc).lookup x = some c →
    acc.lookup x = some c ∨ (h.objs.size ≤ c ∧ (pushCells h ns).IsCell c none)
  | [], _, _, e => .inl e
  | (y, k) :: r, h, acc, e => by
    unfold cellsFrom at e
    unfold pushCells
    by_cases hk : (k == NameKind.cell) = true
    · rw [if_pos hk] at e ⊢
      have q := push_cells (x := x) (c := c) r (h.push { cls := .type "cell", data := .cell none }) ((y, h.objs.size) :: acc) (by rw [Heap.size_push]; exact e)
      rcases q with q | ⟨q1, q2⟩
      · rw [List.lookup_cons] at q
        cases hy : x == y with
        | true =>
          rw [hy] at q
          have e1 := Option.some.inj q
          subst e1
          exact .inr ⟨Nat.le_refl _, Heap.IsCell.keeps ⟨_, Heap.get?_push_size _ rfl, rfl⟩ (pushCells_keeps r _)⟩
        | false => rw [hy] at q; exact .inl q
      · rw [Heap.size_push] at q1
        exact .inr ⟨by omega, q2⟩
    · rw [if_neg hk] at e ⊢
      exact push_cells r h acc e
theorem forIn_clos {env : Env} (f : Str × NameKind → List (Str × Addr) → Sem (ForInStep (List (Str × Addr))))
    (hf : ∀ n k cs, f (n, k) cs = if (k == NameKind.free) = true then (do let a ← cellOf env n; pure (.yield ((n, a) :: cs))) else pure (.yield cs)) :
    ∀ (ns : List (Str × NameKind)) (acc : List (Str × Addr)), (∀ x ∈ ns, x.2 = NameKind.free → ∃ c, env.cells.lookup x.1 = some c) → forIn ns acc f = (pure (clOf env.cells ns acc) : Sem _)
  | [], acc, _ => by rw [List.forIn_nil]; rfl
  | (y, k) :: r, acc, hc => by
    have hr : ∀ x ∈ r, x.2 = NameKind.free → ∃ c, env.cells.lookup x.1 = some c := fun x hx => hc x (List.mem_cons_of_mem _ hx)
    rw [List.forIn_cons, hf]
    unfold clOf
    by_cases hk : (k == NameKind.free) = true
    · rw [if_pos hk, if_pos hk]
      obtain ⟨c, e⟩ := hc (y, k) List.mem_cons_self (eq_of_beq hk)
      have e' : env.cells.lookup y = some c := e
      have e2 : cellOf env y = pure c := by unfold cellOf; rw [e']
      rw [e2, e']
      exact forIn_clos f hf r _ hr
    · rw [if_neg hk, if_neg hk]
      exact forIn_clos f hf r _ hr
theorem closure_eq {scope : Scope} {env : Env} (hc : ∀ x ∈ scope.names, x.2 = NameKind.free → ∃ c, env.cells.lookup x.1 = some c) : closureFor scope env = pure (clOf env.cells scope.names []) := by
  simp only [closureFor]
  rw [forIn_clos (env := env) _ (fun n k cs => by cases h : (k == NameKind.free) <;> simp [h]) scope.names [] hc]
  rfl
theorem new_block {M : Model} {A : Around} {E : Value → Shared → Prop} {s : Shared} {scope : Scope} {gl : Addr} {cl : List (Str × Addr)} {qual : Str} {around : Env} {Q : Env → Shared → Prop}
    (hQ : ∀ h1 : Heap, (∀ b o, s.heap.get? b = some o → h1.get? b = some o) → h1.Ns s.heap.objs.size (fun _ => none) →
      (∀ x c, (cellsFrom (s.heap.objs.size + 1) scope.names cl).lookup x = some c → cl.lookup x = some c ∨ (s.heap.objs.size < c ∧ h1.IsCell c none)) →
      Q { scope := scope, locals := s.heap.objs.size, globals := gl, cells := cellsFrom (s.heap.objs.size + 1) scope.names cl, qual := qual, func := none, code := around.code, frame := around.frame, builtins := around.builtins } { s with heap := h1 }) :
    wpAny M A (newFunctionEnv scope gl cl [] qual none .none (some around)) Q E s := by
  simp only [newFunctionEnv, Option.isSome_some, if_true]
  refine wpAny_bind (wpAny_alloc ?_)
  refine wpAny_bind (wpAny_layCells _ (fun name kind cells => by cases hkc : kind == NameKind.cell <;> simp [hkc]) _ _ _ _ ?_)
  rw [show ({ s with heap := s.heap.push { cls := .type "dict", data := .dict #[] } } : Shared).heap.objs.size = s.heap.objs.size + 1 from Heap.size_push ..]
  rw [List.forIn_nil]
  refine wpAny_bind (wpAny_pure (wpAny_pure ?_))
  refine hQ _ (fun b o e => pushCells_keeps _ _ b o (Heap.get?_push_of_some _ e)) ((Heap.Ns.new s.heap (.type "dict")).keeps (pushCells_keeps _ _)) fun x c e => ?_
  have q := push_cells (x := x) (c := c) scope.names (s.heap.push { cls := .type "dict", data := .dict #[] }) cl (by rw [Heap.size_push]; exact e)
  rw [Heap.size_push] at q
  exact q.imp id fun ⟨a, b⟩ => ⟨by omega, b⟩
theorem relab_free {env : Env} {x : Str} : ∀ {ns : List (Str × NameKind)}, ns.lookup x = some .free →
    (ns.map fun (n, k) => if (k == NameKind.free && env.scope.kind == .function && env.kindOf n == some .cell) then (n, NameKind.cell) else (n, k)).lookup x = some .cell ∨
    (ns.map fun (n, k) => if (k == NameKind.free && env.scope.kind == .function && env.kindOf n == some .cell) then (n, NameKind.cell) else (n, k)).lookup x = some .free
  | [], h => by simp at h
  | (n, k) :: r, h => by
    have ih := @relab_free env x r
    rw [List.map_cons]
    dsimp only
    by_cases hc : (k == NameKind.free && env.scope.kind == .function && env.kindOf n == some .cell) = true
    · rw [if_pos hc, List.lookup_cons]
      cases hx : x == n with
      | true => exact .inl rfl
      | false => rw [List.lookup_cons, hx] at h; exact ih h
    · rw [if_neg hc, List.lookup_cons]
      cases hx : x == n with
      | true =>
        rw [List.lookup_cons, hx] at h
        have e := Option.some.inj h
        subst e
        exact .inr rfl
      | false => rw [List.lookup_cons, hx] at h; exact ih h
theorem relab_back {env : Env} {x : Str} : ∀ {ns : List (Str × NameKind)},
    ((ns.map fun (n, k) => if (k == NameKind.free && env.scope.kind == .function && env.kindOf n == some .cell) then (n, NameKind.cell) else (n, k)).lookup x = some .cell ∨
    (ns.map fun (n, k) => if (k == NameKind.free && env.scope.kind == .function && env.kindOf n == some .cell) then (n, NameKind.cell) else (n, k)).lookup x = some .free) →
    ns.lookup x = some .cell ∨ ns.lookup x = some .free
  | [], h => by simp at h
  | (n, k) :: r, h => by
    have ih := @relab_back env x r
    rw [List.map_cons] at h
    dsimp only at h
    by_cases hc : (k == NameKind.free && env.scope.kind == .function && env.kindOf n == some .cell) = true
    · rw [if_pos hc, List.lookup_cons] at h
      rw [List.lookup_cons]
      cases hx : x == n with
      | true =>
        have : k = NameKind.free := by
          rw [Bool.and_eq_true, Bool.and_eq_true] at hc
          exact eq_of_beq hc.1.1
        subst this
        exact .inr rfl
      | false => rw [hx] at h; exact ih h
    · rw [if_neg hc, List.lookup_cons] at h
      rw [List.lookup_cons]
      cases hx : x == n with
      | true => rw [hx] at h; exact h
      | false => rw [hx] at h; exact ih h
noncomputable def cxComp (X : Cx) (N' : List Str) (sc : Scope) (L : Addr) (cs : List (Str × Addr)) (s : Shared) (H : Hp) (fp : List Addr) : Cx :=
  { X with
    N := N', s₀ := s, H₀ := H, outer := X.stack, ex := fp, pn := [], xe := fun _ _ => False
    fn := fun x => !(sc.names.any fun p => p.1 == x && p.2 == NameKind.free)
    env := { scope := relabel sc X.env, locals := L, globals := X.env.globals, cells := cs, qual := X.env.qual, func := none, code := X.env.code, frame := X.env.frame, builtins := X.env.builtins } }
noncomputable def inS (ix : List (Option Nat)) (σ : St) : St := ix.map fun o => match o with
  | none => none
  | some j => (σ[j]?).join
noncomputable def compOk (N : List Str) (osc : Scope) (N' : List Str) (sc : Scope) (ix : List (Option Nat)) : Bool :=
  decide (ix.length = N'.length) &&
  ((List.range ix.length).all fun i => match ix[i]? with
    | some (some j) => (match N'[i]?, N[j]? with
      | some x, some y => x == y && sc.names.lookup x == some NameKind.free
      | _, _ => false)
    | _ => true) &&
  (sc.names.all fun p => (p.2 != NameKind.free || (osc.names.lookup p.1 == some NameKind.cell || osc.names.lookup p.1 == some NameKind.free)) && (p.2 != NameKind.local || sc.names.lookup p.1 == some NameKind.local)) &&
  (sc.names.all fun p => sc.names.all fun q => !(p.1 == q.1) || p.2 == q.2)
section
variable {X : Cx} {pins : List (Addr × Obj)} {σ : St} {H : Hp} {s : Shared} {N' : List Str} {sc : Scope} {ix : List (Option Nat)}
theorem compOk.len (ok : compOk X.N X.env.scope N' sc ix = true) : ix.length = N'.length := by
  unfold compOk at ok
  rw [Bool.and_eq_true, Bool.and_eq_true, Bool.and_eq_true] at ok
  exact of_decide_eq_true ok.1.1.1
theorem compOk.at (ok : compOk X.N X.env.scope N' sc ix = true) {i j : Nat} {x : Str} (h : ix[i]? = some (some j)) (hx : N'[i]? = some x) : X.N[j]? = some x ∧ sc.names.lookup x = some .free := by
  unfold compOk at ok
  rw [Bool.and_eq_true, Bool.and_eq_true, Bool.and_eq_true] at ok
  have q := List.all_eq_true.mp ok.1.1.2 i (List.mem_range.mpr (List.getElem?_eq_some_iff.mp h).1)
  rw [h, hx] at q
  dsimp only at q
  cases e : X.N[j]? with
  | none => rw [e] at q; cases q
  | some y =>
    rw [e] at q
    dsimp only at q
    rw [Bool.and_eq_true] at q
    exact ⟨by rw [eq_of_beq q.1], eq_of_beq q.2⟩
theorem compOk.fr (ok : compOk X.N X.env.scope N' sc ix = true) {x : Str} (h : (x, NameKind.free) ∈ sc.names) : X.env.kindOf x = some .cell ∨ X.env.kindOf x = some .free := by
  unfold compOk at ok
  rw [Bool.and_eq_true, Bool.and_eq_true] at ok
  have q := List.all_eq_true.mp ok.1.2 _ h
  rw [Bool.and_eq_true] at q
  have q1 := q.1
  rw [Bool.or_eq_true] at q1
  rcases q1 with z | z
  · exact absurd z (by simp)
  · rw [Bool.or_eq_true] at z
    exact z.imp (fun e => eq_of_beq e) fun e => eq_of_beq e
theorem compOk.loc (ok : compOk X.N X.env.scope N' sc ix = true) : ∀ x ∈ sc.names, x.2 = NameKind.local → sc.names.lookup x.1 = some .local := fun x hx e => by
  unfold compOk at ok
  rw [Bool.and_eq_true, Bool.and_eq_true] at ok
  have q := List.all_eq_true.mp ok.1.2 _ hx
  rw [Bool.and_eq_true] at q
  have q1 := q.2
  rw [Bool.or_eq_true] at q1
  rcases q1 with z | z
  · rw [e] at z; exact absurd z (by decide)
  · exact eq_of_beq z
theorem compOk.apart (ok : compOk X.N X.env.scope N' sc ix = true) {x : Str} (h1 : (x, NameKind.cell) ∈ sc.names) (h2 : (x, NameKind.free) ∈ sc.names) : False := by
  unfold compOk at ok
  rw [Bool.and_eq_true] at ok
  have q := List.all_eq_true.mp (List.all_eq_true.mp ok.2 _ h1) _ h2
  simp at q
theorem comp_free (I : Inv X pins σ H s) (ok : compOk X.N X.env.scope N' sc ix = true) : ∀ x ∈ sc.names, x.2 = NameKind.free → ∃ c, X.env.cells.lookup x.1 = some c := fun x hx e => by
  obtain ⟨n, k⟩ := x
  have e' : k = NameKind.free := e
  subst e'
  exact I.ok.has n (compOk.fr ok hx)
theorem comp_cl (I : Inv X pins σ H s) (ok : compOk X.N X.env.scope N' sc ix = true) {x : Str} {c : Addr} (h : (clOf X.env.cells sc.names []).lookup x = some c) : (x, NameKind.free) ∈ sc.names ∧ X.env.cells.lookup x = some c := by
  rcases clOf_cases _ _ h with ⟨m, e⟩ | z
  · obtain ⟨d, hd⟩ := comp_free I ok _ m rfl
    have hd' : X.env.cells.lookup x = some d := hd
    rw [hd'] at e
    have e2 : c = d := e
    subst e2
    exact ⟨m, hd'⟩
  · simp at z
theorem comp_inv {fp : List Addr} {L : Addr} {h1 : Heap} (I : Inv X pins σ H s) (hf : ∀ b ∈ fp, FpOk X pins H b) (hb : ∀ b ∈ fp, ∃ o, s.heap.get? b = some o) (ok : compOk X.N X.env.scope N' sc ix = true) (hk : sc.kind = .function) (hL : s.heap.objs.size ≤ L)
    (kp : ∀ b o, s.heap.get? b = some o → h1.get? b = some o) (ns : h1.Ns L fun _ => none)
    (hc : ∀ x c, (cellsFrom (L + 1) sc.names (clOf X.env.cells sc.names [])).lookup x = some c → (clOf X.env.cells sc.names []).lookup x = some c ∨ (L < c ∧ h1.IsCell c none)) :
    Inv (cxComp X N' sc L (cellsFrom (L + 1) sc.names (clOf X.env.cells sc.names [])) s H fp) [] (inS ix σ) H { s with heap := h1 } := by
  have cc : ∀ x c, (clOf X.env.cells sc.names []).lookup x = some c → (x, NameKind.free) ∈ sc.names ∧ X.env.cells.lookup x = some c ∧ (∃ v, s.heap.IsCell c v) ∧ c < s.heap.objs.size := fun x c e => by
    obtain ⟨m, e'⟩ := comp_cl I ok e
    obtain ⟨v, z⟩ := I.cell x c e'
    exact ⟨m, e', ⟨v, z⟩, z.lt⟩
  have fpl : ∀ b ∈ fp, b < s.heap.objs.size := fun b z => let ⟨o, e⟩ := hb b z; Heap.lt_size e
  have cne : ∀ b ∈ fp, ∀ x c, (cellsFrom (L + 1) sc.names (clOf X.env.cells sc.names [])).lookup x = some c → c ≠ b := fun b z x c e => by
    have hlt := fpl b z
    rcases hc x c e with q | ⟨q, _⟩
    · exact (hf b z).2.2.2.2.1 x c (cc x c q).2.1
    · exact gt_ne (Nat.lt_of_lt_of_le hlt hL) q
  have okk : (cxComp X N' sc L (cellsFrom (L + 1) sc.names (clOf X.env.cells sc.names [])) s H fp).Ok := by
    refine ⟨I.ok.mod, hk, I.ok.glob, I.ok.blt, hL, ?_, ?_, ?_, I.ok.hd, I.ok.frames, .inl rfl, ?_, I.bs, Nat.le_trans I.ok.bsz I.sz, ?_, ?_, I.stack, I.stkFree⟩
    · refine cells_inj sc.names (L + 1) _ (fun x y c e1 e2 => I.ok.inj x y c (cc x c e1).2.1 (cc y c e2).2.1) fun x c e => ?_
      exact Nat.lt_succ_of_lt (Nat.lt_of_lt_of_le (cc x c e).2.2.2 hL)
    · intro x hx
      have hx' := relab_back (env := X.env) (x := x) (ns := sc.names) hx
      have q : ((cellsFrom (L + 1) sc.names (clOf X.env.cells sc.names [])).lookup x).isSome = true := by
        rcases hx' with z | z
        · exact PySem.W.cellsFrom_some _ _ _ (.inl z)
        · exact PySem.W.cellsFrom_some _ _ _ (.inr (clOf_some _ _ (.inl (PySem.mem_of_lookup z))))
      exact Option.isSome_iff_exists.mp q
    · intro x c hfn e
      show s.heap.objs.size ≤ c
      rcases hc x c e with q | ⟨q, _⟩
      · have m := (cc x c q).1
        have hfn' : (!(sc.names.any fun p => p.1 == x && p.2 == NameKind.free)) = true := hfn
        have z : (sc.names.any fun p => p.1 == x && p.2 == NameKind.free) = true := List.any_eq_true.mpr ⟨_, m, by simp⟩
        rw [z] at hfn'
        cases hfn'
      · exact Nat.le_trans hL (Nat.le_of_lt q)
    · intro b z
      have hlt := fpl b z
      exact ⟨Nat.ne_of_lt (Nat.lt_of_lt_of_le hlt hL), cne b z⟩
    · intro b o e z
      rcases (hf b z).2.2.2.1 with q | q
      · exact I.ok.noex b o e q
      · exact absurd (Nat.lt_of_lt_of_le (Heap.lt_size e) (Nat.le_trans I.ok.bsz q)) (Nat.lt_irrefl _)
    · intro b z hs
      rcases List.mem_cons.mp (I.stkSub b hs) with q | q
      · exact (hf b z).2.1 q
      · exact (hf b z).2.2.1 q
  refine ⟨okk, rfl, I.bare, Un.kept kp, ⟨_, ns, fun i x v h1' h2 h3 => ?_⟩, fun x c e => ?_, I.hok.fresh hL, fun x c e => ?_, fun p hp => absurd hp (by simp [cxComp]), I.hok.kept kp, ?_⟩
  · have hix : ∃ j, ix[i]? = some (some j) ∧ σ[j]? = some (some v) := by
      unfold inS at h2
      rw [List.getElem?_map] at h2
      cases e : ix[i]? with
      | none => rw [e] at h2; cases h2
      | some o =>
        rw [e] at h2
        cases o with
        | none => cases h2
        | some j =>
          have h2' : (σ[j]?).join = some v := Option.some.inj h2
          refine ⟨j, rfl, ?_⟩
          cases e2 : σ[j]? with
          | none => rw [e2] at h2'; cases h2'
          | some w =>
            rw [e2] at h2'
            have h2'' : w = some v := h2'
            rw [h2'']
    obtain ⟨j, e1, e2⟩ := hix
    obtain ⟨e3, e4⟩ := compOk.at ok e1 h1'
    have hfr := compOk.fr ok (PySem.mem_of_lookup e4)
    obtain ⟨m, hn, hl⟩ := I.loc
    obtain ⟨u, r, l⟩ := hl j x v e3 e2 (hfr.elim (fun z => .inr (.inl z)) fun z => .inr (.inr z))
    refine ⟨u, r, .inr ⟨relab_free (env := X.env) (x := x) (ns := sc.names) e4, ?_⟩⟩
    rcases l with ⟨k, _⟩ | ⟨k, c, e, z⟩
    · rcases hfr with q | q <;> rw [q] at k <;> cases k
    · have q1 := clOf_some (cells := X.env.cells) sc.names [] (.inl (PySem.mem_of_lookup e4))
      obtain ⟨c2, q2⟩ := Option.isSome_iff_exists.mp q1
      have q3 := (cc x c2 q2).2.1
      rw [e] at q3
      cases q3
      have q4 := PySem.W.cellsFrom_some (x := x) sc.names (L + 1) (clOf X.env.cells sc.names []) (.inr q1)
      obtain ⟨c3, q5⟩ := Option.isSome_iff_exists.mp q4
      rcases hc x c3 q5 with q6 | ⟨q6, q7⟩
      · rw [q2] at q6
        cases q6
        exact ⟨c, q5, z.keeps kp⟩
      · exfalso
        rcases cells_cases _ _ _ q5 with ⟨_, m'⟩ | q8
        · exact compOk.apart ok m' (PySem.mem_of_lookup e4)
        · rw [q2] at q8
          cases q8
          exact absurd (Nat.lt_trans (Nat.lt_of_lt_of_le (cc x c q2).2.2.2 hL) q6) (Nat.lt_irrefl _)
  · rcases hc x c e with q | ⟨_, q⟩
    · obtain ⟨v, z⟩ := (cc x c q).2.2.1
      exact ⟨v, z.keeps kp⟩
    · exact ⟨_, q⟩
  · rcases hc x c e with q | ⟨q, _⟩
    · exact I.freeC x c (cc x c q).2.1
    · exact I.hok.fresh (Nat.le_trans hL (Nat.le_of_lt q))
  · show (inS ix σ).length = N'.length
    unfold inS
    rw [List.length_map]
    exact compOk.len ok
end
noncomputable def PTs (X : Cx) (ifs : List Expr) (t : TT) : Prop :=
  ∀ (pins : List (Addr × Obj)) (s : Shared) (σ : St) (H : Hp) (Q : Bool → Hp → Prop), Inv X pins σ H s → t σ H Q →
    wpAny (model X.prog X.w) X.A (forIn ifs true fun c r => if r = true then do let ok ← isTrue c X.env (eval c X.env); pure (ForInStep.yield ok) else pure (ForInStep.yield r)) (TP X pins σ Q) X.xe s
noncomputable def tYes : TT := fun _ H Q => Q true H
theorem pts_nil {X : Cx} : PTs X [] tYes := fun _ _ _ H _ I h => wpAny_tests_nil ⟨H, I, h⟩
theorem compLoop_any {prog : Program} {w : World} {A : Around} {R : Result → Shared → Prop} {s : Shared} {elt tg iter : Expr} {ifs : List Expr} {scope : Scope} {pos : Pos} {it acc : Value} {env : Env} (J : Nat → Shared → Prop)
    (turn : ∀ n s, J n s → wpAny (model prog w) A (pyNext it) (fun r s1 => match r with
      | none => R (.ok .next) s1
      | some v => wpAny (model prog w) A (letOwnedTupleGo tg it v) (fun _ s1' => wpAny (model prog w) A (assign tg env v) (fun _ s2 =>
          wpAny (model prog w) A (forIn ifs true fun c r => if r = true then do let ok ← isTrue c env (eval c env); pure (ForInStep.yield ok) else pure (ForInStep.yield r)) (fun ok s3 =>
            if ok = true then wpAny (model prog w) A (eval elt env) (fun x s4 => wpAny (model prog w) A (call (.builtin "list.append") [acc, x]) (fun _ s5 => ∃ m, m < n ∧ J m s5) (fun _ _ => False) s4) (fun _ _ => False) s3
            else ∃ m, m < n ∧ J m s3) (fun _ _ => False) s2) (fun _ _ => False) s1') (fun _ _ => False) s1) (fun _ _ => False) s)
    (n : Nat) (h : J n s) : codeAny (model prog w) A (.compLoop (.ListComp elt [⟨tg, iter, ifs, 0⟩] scope pos) 0 it acc env) R s := by
  refine codeAny_loop rfl J (fun n s hJ => ?_) n h
  show wpAny _ A ((compTurn (.ListComp elt [⟨tg, iter, ifs, 0⟩] scope pos) 0 it acc env).onRaise (fun x => do noteFrame x env; theTreesLotGoes x)) _ _ s
  refine wpAny_noted ?_
  rw [compTurn_list]
  refine wpAny_bind (wpAny_standAt (wpAny_bind (wpAny_mono (turn n s hJ) (fun r s1 h1 => ?_) fun _ _ z => z.elim)))
  cases r with
  | none => exact wpAny_pure h1
  | some v =>
    refine wpAny_bind (wpAny_mono h1 (fun _ s1' h1' => ?_) fun _ _ z => z.elim)
    refine wpAny_bind (wpAny_mono h1' (fun _ s2 h2 => wpAny_bind (wpAny_mono h2 (fun ok s3 h3 => ?_) fun _ _ z => z.elim)) fun _ _ z => z.elim)
    cases ok with
    | false => exact wpAny_pure ⟨rfl, h3⟩
    | true =>
      exact wpAny_bind (wpAny_bind (wpAny_mono h3 (fun x s4 h4 => wpAny_bind (wpAny_mono h4 (fun _ s5 h5 => wpAny_pure (wpAny_pure ⟨rfl, h5⟩)) fun _ _ z => z.elim)) fun _ _ z => z.elim))
noncomputable def compTurns (J : It) (ix : List (Option Nat)) (g : TG) (tt : TT) (te : TE) (σ : St) (F : List V → Hp → Prop) (H : Hp) : Prop :=
  ∃ W : Nat → Nat → List V → Hp → Prop, (∃ m, W 0 m [] H) ∧ ∀ i m ys H, W i m ys H →
    (J.stop i H ∧ ys.length ≤ sizeLine ∧ F ys H) ∨ (J.go i H ∧ ys.length ≤ sizeLine ∧ ∃ N : List V → Hp → Prop, (∀ ys' H', N ys' H' → ∃ m', m' < m ∧ W (i + 1) m' ys' H') ∧
      ∀ x H', J.yld i H x H' → g x (inS ix σ) H' fun σ2 H2 => tt σ2 H2 fun b H3 => if b = true then te σ2 H3 fun y H4 => N (ys ++ [y]) H4 else N ys H3)
section
variable {X : Cx} {pins : List (Addr × Obj)} {σ : St} {H : Hp} {s : Shared} {N' : List Str} {sc : Scope} {ix : List (Option Nat)}
theorem Inv.slots0 {X : Cx} {σ' : St} (I : Inv X pins σ' H s) (h : ∀ (i : Nat) v, (inS ix σ)[i]? = some (some v) → σ'[i]? = some (some v)) (hl : (inS ix σ).length = X.N.length) : Inv X pins (inS ix σ) H s :=
  I.weak (by rw [hl, I.len]) h
theorem comp_core {tg elt iter : Expr} {ifs : List Expr} {pos : Pos} {g : TG} {tt : TT} {te : TE} {J : It} {fp : List Addr} {it : Addr} {tn : Nat → Heap → Prop} {F : List V → Hp → Prop} {E : Value → Shared → Prop}
    (hc : X.calm = true) (I : Inv X pins σ H s) (T : Turn X.prog X.w X.K tg J fp it tn) (st : tn 0 s.heap) (hf : ∀ b ∈ fp, FpOk X pins H b) (ok : compOk X.N X.env.scope N' sc ix = true) (hk : sc.kind = .function)
    (hg : ∀ L cs s H fp, PG (cxComp X N' sc L cs s H fp) tg g) (hkeep : ∀ x σ' H' (Q : St → Hp → Prop), g x σ' H' Q → g x σ' H' fun σ2 H2 => Q σ2 H2 ∧ ∀ (i : Nat) v, σ'[i]? = some (some v) → (∃ j, ix[i]? = some (some j)) → σ2[i]? = some (some v))
    (ht : ∀ L cs s H fp, PTs (cxComp X N' sc L cs s H fp) ifs tt) (he : ∀ L cs s H fp, PE (cxComp X N' sc L cs s H fp) elt te)
    (tr : compTurns J ix g tt te σ F H) :
    wpAny (model X.prog X.w) X.A (newList []) (fun acc s3 => wpAny (model X.prog X.w) X.A (newFunctionEnv sc X.env.globals (clOf X.env.cells sc.names []) [] X.env.qual none .none (some X.env)) (fun cenv s4 =>
      codeAny (model X.prog X.w) X.A (.compStart (.ListComp elt [⟨tg, iter, ifs, 0⟩] sc pos) 0 (.ref it) acc { cenv with scope := relabel sc X.env }) (fun r s' => (∃ fl, r = .ok fl) ∧
        ∃ (p : Addr) (ys : List V) (H2 : Hp), acc = .ref p ∧ Inv X pins σ (upd H2 p (.lst ys)) s' ∧ H2 p = none ∧ F ys H2 ∧ (∃ m, s'.heap.Ns cenv.locals m) ∧ (upd H2 p (.lst ys)) cenv.locals = none ∧ cenv.locals ≠ X.env.locals ∧
          X.s₀.heap.objs.size ≤ cenv.locals ∧ (∀ x c, X.env.cells.lookup x = some c → c ≠ cenv.locals) ∧ ∀ q ∈ X.pn ++ pins, q.1 ≠ cenv.locals) s4) E s3) E s := by
  obtain ⟨W, ⟨m0, w0⟩, turn⟩ := tr
  refine wpAny_newObj_type (new_block fun h1 kp ns hcl => ?_)
  dsimp only at kp ns hcl ⊢
  generalize hH2 : s.heap.push { cls := .type "list", dict := none, data := .seq ([] : List Value).toArray } = HH at kp ns hcl ⊢
  have eL : HH.objs.size = s.heap.objs.size + 1 := by rw [← hH2, Heap.size_push]
  have kp0 : ∀ b o, s.heap.get? b = some o → h1.get? b = some o := fun b o e => kp b o (hH2 ▸ Heap.get?_push_of_some _ e)
  have hD0 : h1.PlainList s.heap.objs.size #[] := ⟨_, kp _ _ (hH2 ▸ Heap.get?_push_size _ rfl)⟩
  have fpo : ∀ b ∈ fp, ∃ o, s.heap.get? b = some o := fun b z => let ⟨o, e, _⟩ := T.obj 0 _ st b z; ⟨o, e⟩
  have fpl : ∀ b ∈ fp, b < s.heap.objs.size := fun b z => let ⟨o, e⟩ := fpo b z; Heap.lt_size e
  have sL : s.heap.objs.size ≤ HH.objs.size := by rw [eL]; exact Nat.le_succ _
  have sL' : s.heap.objs.size < HH.objs.size := by rw [eL]; exact Nat.lt_succ_self _
  have I0 := comp_inv (h1 := h1) I hf fpo ok hk sL kp0 ns hcl
  generalize hXX : cxComp X N' sc HH.objs.size (cellsFrom (HH.objs.size + 1) sc.names (clOf X.env.cells sc.names [])) s H fp = Y at I0
  have eY1 : Y.prog = X.prog := by subst hXX; rfl
  have eY2 : Y.w = X.w := by subst hXX; rfl
  have eY3 : Y.K = X.K := by subst hXX; rfl
  have eY4 : Y.calm = true := by subst hXX; exact hc
  have eY5 : Y.A = X.A := by subst hXX; rfl
  have eY6 : Y.env = { scope := relabel sc X.env, locals := HH.objs.size, globals := X.env.globals, cells := cellsFrom (HH.objs.size + 1) sc.names (clOf X.env.cells sc.names []), qual := X.env.qual, func := none, code := X.env.code, frame := X.env.frame, builtins := X.env.builtins } := by subst hXX; rfl
  have eY7 : Y.xe = fun _ _ => False := by subst hXX; rfl
  have eY8 : Y.pn = [] := by subst hXX; rfl
  have eY9 : Y.fs = frs X.stack := by subst hXX; rfl
  have eY10 : Y.s₀ = s := by subst hXX; rfl
  have eY11 : Y.H₀ = H := by subst hXX; rfl
  have eY12 : Y.ex = fp := by subst hXX; rfl
  have eY13 : Y.N = N' := by subst hXX; rfl
  have hgY : PG Y tg g := by subst hXX; exact hg _ _ _ _ _
  have htY : PTs Y ifs tt := by subst hXX; exact ht _ _ _ _ _
  have heY : PE Y elt te := by subst hXX; exact he _ _ _ _ _
  have lenI : (inS ix σ).length = Y.N.length := by rw [eY13]; unfold inS; rw [List.length_map]; exact compOk.len ok
  have cellN : ∀ (b : Addr), b ≤ HH.objs.size → (∀ x c, X.env.cells.lookup x = some c → c ≠ b) → ∀ x c, Y.env.cells.lookup x = some c → c ≠ b := fun b hb hx x c e => by
    rw [eY6] at e
    rcases hcl x c e with q | ⟨q, _⟩
    · exact hx x c (comp_cl I ok q).2
    · exact (lt_ne (Nat.lt_of_le_of_lt hb (Nat.lt_succ_self _)) q).symm
  have oldc : ∀ x c, X.env.cells.lookup x = some c → c < s.heap.objs.size := fun x c e => let ⟨v, z⟩ := I.cell x c e; z.lt
  have nfs : ∀ b, s.heap.objs.size ≤ b → b ∉ frs X.stack := fun b hb z => by
    rcases List.mem_cons.mp (I.stkSub b z) with q | q
    · exact lt_ne I.lt hb q.symm
    · exact I.nofs hb q
  have fpY : ∀ (pp : List (Addr × Obj)) (H' : Hp), (∀ b ∈ fp, H' b = none) → (∀ q ∈ pp, q.1 ∉ fp) → ∀ b ∈ fp, FpOk Y pp H' b := fun pp H' hn hq b z => by
    have hlt := fpl b z
    refine ⟨hn b z, ?_, ?_, .inl (by rw [eY12]; exact z), cellN b (Nat.le_of_lt (Nat.lt_trans hlt sL')) ((hf b z).2.2.2.2.1), fun q hq' e => ?_⟩
    · rw [eY6]; exact lt_ne hlt sL
    · rw [eY9]; intro hs
      rcases List.mem_cons.mp (I.stkSub b hs) with q | q
      · exact (hf b z).2.1 q
      · exact (hf b z).2.2.1 q
    · rw [eY8] at hq'
      exact hq q (by simpa using hq') (by rw [e]; exact z)
  have Dfp : s.heap.objs.size ∉ fp := fun z => absurd (fpl _ z) (Nat.lt_irrefl _)
  have Dok : ∀ (pp : List (Addr × Obj)) (H' : Hp), H' s.heap.objs.size = none → (∀ q ∈ pp, q.1 ≠ s.heap.objs.size) → FpOk Y pp H' s.heap.objs.size := fun pp H' hn hq => by
    refine ⟨hn, ?_, by rw [eY9]; exact nfs _ (Nat.le_refl _), .inr (by rw [eY10]; exact Nat.le_refl _), cellN _ sL (fun x c e => Nat.ne_of_lt (oldc x c e)), fun q hq' => ?_⟩
    · rw [eY6]; exact Nat.ne_of_lt sL'
    · rw [eY8] at hq'
      exact hq q (by simpa using hq')
  have loop : codeAny (model X.prog X.w) X.A (.compLoop (.ListComp elt [⟨tg, iter, ifs, 0⟩] sc pos) 0 (.ref it) (.ref s.heap.objs.size) Y.env) (fun r s' => (∃ fl, r = .ok fl) ∧
        ∃ (p : Addr) (ys : List V) (H2 : Hp), Value.ref s.heap.objs.size = .ref p ∧ Inv X pins σ (upd H2 p (.lst ys)) s' ∧ H2 p = none ∧ F ys H2 ∧ (∃ m, s'.heap.Ns HH.objs.size m) ∧ (upd H2 p (.lst ys)) HH.objs.size = none ∧ HH.objs.size ≠ X.env.locals ∧
          X.s₀.heap.objs.size ≤ HH.objs.size ∧ (∀ x c, X.env.cells.lookup x = some c → c ≠ HH.objs.size) ∧ ∀ q ∈ X.pn ++ pins, q.1 ≠ HH.objs.size) { s with heap := h1 } := by
    refine compLoop_any (fun n s' => ∃ i ys its H', Inv Y [] (inS ix σ) H' s' ∧ tn i s'.heap ∧ (∀ b ∈ fp, H' b = none) ∧ H' s.heap.objs.size = none ∧ s'.heap.PlainList s.heap.objs.size its ∧ Vals ys its.toList ∧ W i n ys H') ?_ m0
      ⟨0, [], #[], H, I0, T.keep _ _ _ st fun b _ o e => kp0 b o e, fun b z => (hf b z).1, I.hok.fresh (Nat.le_refl _), hD0, .nil, w0⟩
    rintro n s3 ⟨i, ys, its, H3, I3, st3, fr3, hD3, pl3, vs3, w3⟩
    obtain ⟨nD, oD⟩ := pl3
    have hpD : ∀ q ∈ [((s.heap.objs.size : Addr), ({ cls := .type "list", data := .seq its nD } : Obj))], q.1 ∉ fp := fun q hq => by
      have : q = _ := List.mem_singleton.mp hq
      rw [this]; exact Dfp
    have I3' : Inv Y [((s.heap.objs.size : Addr), ({ cls := .type "list", data := .seq its nD } : Obj))] (inS ix σ) H3 s3 := I3.pins_of fun q hq => by
      have e : q = _ := List.mem_singleton.mp hq
      obtain ⟨d0, d1, d2, _⟩ := Dok [] H3 hD3 (fun _ z => nomatch z)
      rw [e]
      exact ⟨oD, d0, d1, d2, fun v z => by cases z⟩
    rcases turn i n ys H3 w3 with ⟨stop, ln, qn⟩ | ⟨go, ln, NN, hNN, step⟩
    · have h1 := T.done Y eY1 eY2 eY3 eY4 i _ s3 _ H3 (fun _ _ => False) I3' (fpY _ H3 fr3 hpD) st3 stop
      rw [eY5] at h1
      refine wpAny_mono h1 (fun r s4 ⟨hr, I4⟩ => ?_) fun _ _ z => z
      subst hr
      obtain ⟨oD4, hD4, _⟩ := I4.pin ((s.heap.objs.size : Addr), ({ cls := .type "list", data := .seq its nD } : Obj)) (by rw [eY8]; simp)
      refine ⟨⟨_, rfl⟩, s.heap.objs.size, ys, H3, rfl, ?_, hD3, qn, ?_, ?_, ?_, ?_, ?_, ?_⟩
      · have ub : Un (frs X.stack) fp H H3 s.heap s4.heap := by
          have := I4.base
          rw [eY9, eY10, eY11, eY12] at this
          exact this
        have hok4 : HOk X.prog X.w H3 s4.heap := by
          have := I4.hok
          rw [eY1, eY2] at this
          exact this
        refine I.call' (ch := fp) (by have := I4.os; rw [eY10] at this; exact this) ⟨ub.keep, ub.slot, fun b o e nn hx => ?_, ub.there, fun b xs q => ?_, fun b o u q => ?_, fun b ps q => ?_⟩ (fun b u e => ?_) I4.bare (fun b hb => ?_)
        · rw [upd_ne (Nat.ne_of_lt (Heap.lt_size e))]; exact ub.free b o e nn hx
        · rw [upd_ne (ne_of_none (ub.tups b xs q) hD3)]; exact ub.tups b xs q
        · rw [upd_ne (ne_of_none (ub.frzs b o u q) hD3)]; exact ub.frzs b o u q
        · obtain ⟨more, z⟩ := ub.tbls b ps q
          exact ⟨more, by rw [upd_ne (ne_of_none z hD3)]; exact z⟩
        · by_cases hb : b = s.heap.objs.size
          · subst hb
            rw [upd_same] at e
            cases e
            exact ⟨ln, its.toList, nD, vs3, by simpa using oD4⟩
          · rw [upd_ne hb] at e
            exact (hok4 b u e).stay (fun _ _ _ q => q) (fun c q => by rw [upd_ne (ne_of_none q hD3)]; exact q) fun c xs q => by rw [upd_ne (ne_of_none q hD3)]; exact q
        · obtain ⟨f0, f1, f2, f3, f4, f5⟩ := hf b hb
          exact ⟨f3, f1, f4, f5⟩
      · obtain ⟨m, hn, _⟩ := I4.loc
        rw [eY6] at hn
        exact ⟨m, hn⟩
      · rw [upd_ne (Nat.ne_of_gt sL')]
        have := I4.free
        rw [eY6] at this
        exact this
      · exact Nat.ne_of_gt (Nat.lt_trans I.lt sL')
      · exact Nat.le_trans I.sz sL
      · exact fun x c e => lt_ne (oldc x c e) sL
      · exact fun q hq => lt_ne (Heap.lt_size (I.pin q hq).1) sL
    · have h1 := T.item Y eY1 eY2 eY3 eY4 i _ s3 _ H3 (fun _ _ => False) I3' (fpY _ H3 fr3 hpD) st3 go
      rw [eY5] at h1
      refine wpAny_mono h1 (fun r s4 ⟨u, hr, h4⟩ => ?_) fun _ _ z => z
      subst hr
      refine wpAny_mono h4 (fun _ s5 ⟨x, H5, I5, r5, y5, st5, fr5⟩ => ?_) fun _ _ z => z
      have I5' := I5.pinned (fpY _ H5 fr5 hpD) (T.obj _ _ st5)
      have h5 := hgY _ s5 _ H5 x u _ I5' r5 (hkeep x _ H5 _ (step x H5 y5))
      rw [eY1, eY2, eY5, eY7] at h5
      refine wpAny_mono h5 (fun _ s6 ⟨σ6, H6, I6, q6, k6⟩ => ?_) fun _ _ z => z
      have h6 := htY _ s6 σ6 H6 _ I6 q6
      rw [eY1, eY2, eY5, eY7] at h6
      refine wpAny_mono h6 (fun b s7 ⟨H7, I7, q7⟩ => ?_) fun _ _ z => z
      have back : ∀ {s8 : Shared} {H8 : Hp}, Inv Y ([((s.heap.objs.size : Addr), ({ cls := .type "list", data := .seq its nD } : Obj))] ++ pinsAt fp s5.heap) σ6 H8 s8 → Inv Y [] (inS ix σ) H8 s8 ∧ tn (i + 1) s8.heap ∧ (∀ b ∈ fp, H8 b = none) ∧ H8 s.heap.objs.size = none ∧ s8.heap.get? s.heap.objs.size = some { cls := .type "list", data := .seq its nD } := fun {s8 H8} I8 => by
        obtain ⟨a1, a2, _⟩ := I8.pin ((s.heap.objs.size : Addr), ({ cls := .type "list", data := .seq its nD } : Obj)) (by rw [eY8]; simp)
        refine ⟨(I8.pins_of (pins' := []) fun _ z => nomatch z).slots0 (fun k v e => ?_) lenI, T.keep _ _ _ st5 fun b hb o e => (I8.pin (b, o) (List.mem_append_right _ (List.mem_append_right _ (mem_pinsAt hb e)))).1, fun b hb => ?_, a2, a1⟩
        · refine k6 k v e ?_
          unfold inS at e
          rw [List.getElem?_map] at e
          cases e2 : ix[k]? with
          | none => rw [e2] at e; cases e
          | some o =>
            cases o with
            | none => rw [e2] at e; cases e
            | some j => exact ⟨j, rfl⟩
        · obtain ⟨o, e, d⟩ := T.obj _ _ st5 b hb
          exact (I8.pin (b, o) (List.mem_append_right _ (List.mem_append_right _ (mem_pinsAt hb e)))).2.1
      cases b with
      | false =>
        rw [if_neg Bool.false_ne_true] at q7 ⊢
        obtain ⟨m', hm, w7⟩ := hNN _ _ q7
        obtain ⟨b1, b2, b3, b4, b5⟩ := back I7
        exact ⟨m', hm, i + 1, ys, its, H7, b1, b2, b3, b4, ⟨nD, b5⟩, vs3, w7⟩
      | true =>
        rw [if_pos rfl] at q7 ⊢
        have h7 := heY _ s7 σ6 H7 _ I7 q7
        rw [eY1, eY2, eY5, eY7, eY6] at h7
        rw [eY6]
        refine wpAny_mono h7 (fun uu s8 ⟨y, H8, I8, r8, q8⟩ => ?_) fun _ _ z => z
        obtain ⟨m', hm, w8⟩ := hNN _ _ q8
        obtain ⟨b1, b2, b3, b4, b5⟩ := back I8
        have ez : its.size ≤ sizeLine := by
          have h1 := vs3.length
          have h2 : its.toList.length = its.size := by simp
          omega
        refine wpAny_list_append_plain (hsz := ez) ⟨nD, b5⟩ fun h9 pl9 sb9 => ?_
        obtain ⟨d0, d1, d2, d3, d4, d5⟩ := Dok [] H8 b4 (fun _ z => nomatch z)
        refine ⟨m', hm, i + 1, ys ++ [y], its.push uu, H8, b1.turned (t' := s8.toks) (fun b o hb e => (sb9.2 b hb).trans e) d0 d1 d3 d4 d5, T.keep _ _ _ b2 fun b hb o e => (sb9.2 b ?_).trans e, b3, b4, pl9, ?_, w8⟩
        · exact lt_ne (fpl b hb) (Nat.le_refl _)
        · rw [Array.toList_push]
          exact vs3.append (.cons r8 .nil)
  rw [eY6] at loop
  exact codeAny_compStart_list loop (T.self X.A 0 _ _ _ (T.keep _ _ _ st fun b _ o e => kp0 b o e) loop)
end
noncomputable def tComp (wi : TI) (ix : List (Option Nat)) (g : TG) (tt : TT) (te : TE) : TE := fun σ H Q => wi σ H fun J H1 => compTurns J ix g tt te σ (fun ys H2 => ∀ p, H2 p = none → Q (.ref p) (upd H2 p (.lst ys))) H1
noncomputable def Leaves (ix : List (Option Nat)) (g : TG) : Prop := ∀ x σ' H' (Q : St → Hp → Prop), g x σ' H' Q → g x σ' H' fun σ2 H2 => Q σ2 H2 ∧ ∀ (i : Nat) v, σ'[i]? = some (some v) → (∃ j, ix[i]? = some (some j)) → σ2[i]? = some (some v)
theorem leaves_name {ix : List (Option Nat)} {k : Nat} (h : ix[k]? = some none) : Leaves ix (gName k) := fun x σ' H' Q q => ⟨q, fun i v e ⟨j, hj⟩ => by
  have : k ≠ i := by rintro rfl; rw [h] at hj; cases hj
  rw [List.getElem?_set_ne this]; exact e⟩
section
variable {X : Cx} {N' : List Str} {sc : Scope} {ix : List (Option Nat)} {tg elt iter : Expr} {ifs : List Expr} {pos spos py : Pos} {wi : TI} {g : TG} {tt : TT} {te : TE}
theorem pe_comp (N' : List Str) (ix : List (Option Nat)) (hc : X.calm = true) (hi : PI X tg iter wi) (hg : ∀ L cs s H fp, PG (cxComp X N' sc L cs s H fp) tg g) (hl : Leaves ix g)
    (ht : ∀ L cs s H fp, PTs (cxComp X N' sc L cs s H fp) ifs tt) (he : ∀ L cs s H fp, PE (cxComp X N' sc L cs s H fp) elt te)
    (ok : compOk X.N X.env.scope N' sc ix = true := by rfl) (hk : sc.kind = .function := by rfl) (hs : ∀ x, foldedSetIterable iter X.env x = pure x := by intro _; rfl) :
    PE X (.ListComp elt [⟨tg, iter, ifs, 0⟩] sc pos) (tComp wi ix g tt te) := by
  intro pins s σ H Q I h
  rw [eval_ListComp]
  refine wpAny_comprehension_free (use := none) rfl hs (closure_eq (comp_free I ok)) hk (compOk.loc ok) (thn (hi pins s σ H _ I h) fun v s1 h1 => thn h1 fun itv s2 h2 => ?_)
  obtain ⟨it, fp, tn, J, H2, e, I2, T, st2, f2, tr⟩ := h2
  subst e
  refine thn (comp_core hc I2 T st2 f2 ok hk hg hl ht he tr) fun acc s3 h3 => thn h3 fun cenv s4 h4 => codeAny_mono h4 fun r s5 hr => ?_
  obtain ⟨⟨fl, e1⟩, p, ys, H5, e2, I5, hp, q, ⟨m, hn⟩, c0, c1, c2, c3, c4⟩ := hr
  subst e1
  subst e2
  exact ⟨m, hn, fun h' sb => ⟨.ref p, _, I5.turned (t' := s5.toks) (fun b o hb e => (sb.2 b hb).trans e) c0 c1 (.inr c2) c3 c4, rfl, q p hp⟩⟩
noncomputable def tSetComp (j : Nat) (wi : TI) (ix : List (Option Nat)) (g : TG) (tt : TT) (te : TE) : TS := fun D σ H => wi σ H fun J H1 => compTurns J ix g tt te σ (fun ys H2 => ∀ p, H2 p = none → D.nx (σ.set j (some (.ref p))) (upd H2 p (.lst ys))) H1
theorem ps_setComp (N' : List Str) (ix : List (Option Nat)) {j : Nat} {y : Str} (hN : X.N.Nodup) (hj : X.N[j]? = some y) (hy : X.env.scope.names.lookup y = some .local) (hc : X.calm = true) (hi : PI X tg iter wi) (hg : ∀ L cs s H fp, PG (cxComp X N' sc L cs s H fp) tg g) (hl : Leaves ix g)
    (ht : ∀ L cs s H fp, PTs (cxComp X N' sc L cs s H fp) ifs tt) (he : ∀ L cs s H fp, PE (cxComp X N' sc L cs s H fp) elt te)
    (hsw : swapsWith (.ListComp elt [⟨tg, iter, ifs, 0⟩] sc pos) (some (.Name y py)) spos.line X.env = pure true := by rfl)
    (ok : compOk X.N X.env.scope N' sc ix = true := by rfl) (hk : sc.kind = .function := by rfl) (hs : ∀ x, foldedSetIterable iter X.env x = pure x := by intro _; rfl) :
    PS X (.Assign [.Name y py] (.ListComp elt [⟨tg, iter, ifs, 0⟩] sc pos) spos) (tSetComp j wi ix g tt te) := by
  intro pins s σ H D I h
  rw [exec_Assign_Name_used _ _ _ _ hsw]
  refine wpAny_bind (wpAny_standAt (wpAny_bind ?_))
  show wpAny _ X.A (do let _ ← comprehension (.ListComp elt [⟨tg, iter, ifs, 0⟩] sc pos) sc X.env _ (newList []) false (eval iter X.env) (some (assign (.Name y py) X.env))) _ _ s
  refine wpAny_bind (wpAny_mono (wpAny_comprehension_free (use := some (assign (.Name y py) X.env)) (Q := fun _ s' => SP X pins D .next s') rfl hs (closure_eq (comp_free I ok)) hk (compOk.loc ok) (thn (hi pins s σ H _ I h) fun v s1 h1 => thn h1 fun itv s2 h2 => ?_)) (fun _ s' hq => wpAny_pure (wpAny_pure hq)) fun _ _ z => z)
  obtain ⟨it, fp, tn, J, H2, e, I2, T, st2, f2, tr⟩ := h2
  subst e
  refine thn (comp_core hc I2 T st2 f2 ok hk hg hl ht he tr) fun acc s3 h3 => thn h3 fun cenv s4 h4 => codeAny_mono h4 fun r s5 hr => ?_
  obtain ⟨⟨fl, e1⟩, p, ys, H5, e2, I5, hp, q, ⟨m, hn⟩, c0, c1, c2, c3, c4⟩ := hr
  subst e1
  subst e2
  show wpAny _ X.A (assign (.Name y py) X.env (.ref p)) _ _ s5
  refine wpAny_assign_Name (store_ok2 (v := .ref p) I5 hN hj (.inl hy) rfl (fun s6 I6 ⟨a, sb, ha⟩ => ?_) (.inr hy))
  have ea : cenv.locals ≠ a := by
    rcases ha with z | z
    · rw [z]; exact c1
    · exact fun e => c3 y a z e.symm
  refine ⟨m, hn.sameBut sb ea, fun h' sb' => ?_⟩
  exact ⟨_, _, I6.turned (t' := s6.toks) (fun b o hb e => (sb'.2 b hb).trans e) c0 c1 (.inr c2) c3 c4, q p hp⟩
end
end L2
namespace L2
open PySem PySem.Spec PyProof.Rows
section
variable {X : Cx}
theorem bools_of : ∀ {bs : List Bool} {us : List Value}, Vals (bs.map V.bl) us → LSm.BoolsAre us bs
  | [], _, .nil => .nil
  | b :: r, _, .cons e t => by cases e; exact .cons b (bools_of t)
theorem call_all (hc : X.calm = true) : CallR X (.builtin "all") (fun xs H Q => ∃ (a : Addr) (bs : List Bool), xs = [.ref a] ∧ SqL X.K H a (bs.map V.bl) ∧ Q (.bl (bs.all id)) H) := by
  intro pins s σ H xs us Q I r h
  obtain ⟨a, bs, rfl, hq, q⟩ := h
  obtain ⟨u, rfl, ru⟩ := r.one
  cases ru
  obtain ⟨its, rv, p, hz⟩ := I.list hq
  have hb := bools_of rv
  have hl := p.isList
  have hlt : a < s.heap.objs.size := by obtain ⟨_, e, _⟩ := hl; exact Heap.lt_size e
  refine call_all_walk (wpAny_pyIter_list hl ?_)
  refine ⟨s.heap.objs.size, [s.heap.objs.size, a], [s.heap.objs.size], its.toArray.size, _, _, fun i => (bs[i]?).getD true, rfl, Walks.list (A := X.A.in1) (I.ok.hd hc) _ a (Nat.ne_of_lt hlt) its.toArray,
    ⟨⟨_, Heap.get?_push_size _ rfl, rfl, rfl⟩, hl.push _⟩, fun i v s' Q' E' hP hQ => ?_, fun h' tk hk => ?_⟩
  · obtain ⟨b, e, rfl⟩ := hb.get i v (by simpa using hP)
    simp only [e, Option.getD_some] at hQ
    exact wpAny_truthy_bool hQ
  · have e : ((List.range its.toArray.size).all fun i => (bs[i]?).getD true) = bs.all id := by
      rw [List.size_toArray, hb.length]; exact LSm.range_all bs
    rw [e]
    exact ⟨.bl (bs.all id), H, I.kept (LSm.kept_iter hk), rfl, q⟩
noncomputable def clsV : V → Option Value
  | .ty n => some (.type n)
  | .ref a => some (.ref a)
  | _ => none
theorem clsV_is {y : V} {c u : Value} (h : clsV y = some c) (r : RelV y u) : u = c := by
  cases y with
  | ty n => cases r; exact Option.some.inj h
  | ref a => cases r; exact Option.some.inj h
  | _ => cases h
theorem call_isi : CallR X (.builtin "isinstance") (fun xs H Q => ∃ x y c t b, xs = [x, y] ∧ clsV y = some c ∧ TyOf X.K H x t ∧ PySem.W.kitOne X.K t c = some b ∧ Q (.bl b) H) := by
  intro pins s σ H xs us Q I r h
  obtain ⟨x, y, c, t, b, rfl, hc, ty, e, q⟩ := h
  obtain ⟨u, v, rfl, ru, rv⟩ := r.two
  have ev := clsV_is hc rv
  subst ev
  exact isinst_ok I ru ty e fun tk => ⟨.bl b, H, I.tok tk, rfl, q⟩
inductive EqV (K : PySem.W.Frag) (H : Hp) : Nat → V → V → Bool → Prop where
  | flat {n : Nat} {x y : V} (hx : flatV x = true) (hy : flatV y = true) : EqV K H n x y (eqV x y)
  | same {n : Nat} {a : Addr} : EqV K H n (.ref a) (.ref a) true
  | lists {n : Nat} {a b : Addr} {xs ys : List V} {e : Nat → Bool} (ha : SqL K H a xs) (hb : SqL K H b ys) (hl : xs.length = ys.length) (ne : a ≠ b)
      (he : ∀ j x y, xs[j]? = some x → ys[j]? = some y → EqV K H n x y (e j)) : EqV K H (n + 1) (.ref a) (.ref b) ((List.range xs.length).all e)
  | listsL {n : Nat} {a b : Addr} {xs ys : List V} (ha : SqL K H a xs) (hb : SqL K H b ys) (hl : xs.length ≠ ys.length) (ne : a ≠ b) : EqV K H (n + 1) (.ref a) (.ref b) false
  | tups {n : Nat} {a b : Addr} {xs ys : List V} {e : Nat → Bool} (ha : SqT K H a xs) (hb : SqT K H b ys) (ne : a ≠ b)
      (he : ∀ j x y, xs[j]? = some x → ys[j]? = some y → EqV K H n x y (e j)) : EqV K H (n + 1) (.ref a) (.ref b) ((List.range (min xs.length ys.length)).all e && xs.length == ys.length)
theorem Vals.atA {xs : List V} {us : List Value} (r : Vals xs us) {j : Nat} (h : j < us.toArray.size) : ∃ x, xs[j]? = some x ∧ RelV x us.toArray[j] := by
  have hl := r.length
  have hj : j < xs.length := by rw [hl]; simpa using h
  obtain ⟨u, e1, e2⟩ := r.get (i := j) (x := xs[j]) (by simp [hj])
  refine ⟨xs[j], by simp [hj], ?_⟩
  have : us.toArray[j] = u := by
    have h' : j < us.length := by simpa using h
    rw [List.getElem?_eq_getElem h'] at e1
    simpa using Option.some.inj e1
  rw [this]; exact e2
end
end L2
namespace L2
open PySem PySem.Spec PyProof.Rows
section
variable {X : Cx} {x : Str} {pos : Pos}
theorem pe_tyN {T : String} (hg : Gl X x) (hm : X.mg x = none) (hv : bootBuiltins x = some (.type T)) (hn : x ≠ "__name__" := by decide) (hd : (x == ("__debug__" : Str)) = false := by decide) : PE X (.Name x pos) (tC (.ty T)) := pe_bltn (v := .ty T) hg hm hv rfl hn hd
theorem pe_gint {n : Int} (hg : Gl X x) (hm : ∃ t, X.mg x = some (.int n t)) (hd : (x == ("__debug__" : Str)) = false := by decide) : PE X (.Name x pos) (tC (.int n)) := by
  obtain ⟨t, e⟩ := hm
  exact pe_glob (v := .int n) hg e ⟨t, rfl⟩ hd
end
section
variable {P : Program} {w : World} {K : PySem.W.Frag} {mg : Str → Option Value} {base : Heap} {CX : CXT}
theorem Fun.okX {x qual : Str} {st : Stmt} {f : Addr} {fd : FuncData} {N ps : List Str} {k : Nat} {sp : Sp} (F : Fun K x qual st f fd) (S : FnScope N ps (defScope st)) (len : ∀ vs H Q E, sp vs H Q E → vs.length = ps.length)
    (hbody : ∀ (cdv : Value) (A : Around) (outer : List Env) (s : Shared) (H : Hp) (vs : List V) (Q : VK) (E : XK), Room k (A.deeper (envOfC qual (defScope st) s.heap.objs.size f cdv)) → sp vs H Q E →
      ∃ t, PSs (cxOf CX P w K mg base N qual (defScope st) f cdv A outer s H E).nox (defBody st) t ∧ t { nx := fun _ H' => Q .non H', rt := Q } (start N vs) H) : FnOk P w K mg base CX (k + 1) f fd ps sp := by
  obtain ⟨oc, od, kV, doc, pm, an, cdv, ct, osl, rfl, lk, hcd⟩ := F.ex
  refine fn_of lk hcd S len fun A outer s H vs Q E hr hsp => ?_
  obtain ⟨t, h, q⟩ := hbody cdv A outer s H vs Q E hr hsp
  exact ⟨t, h.nox, q⟩
structure Def (K : PySem.W.Frag) (mg : Str → Option Value) (x : Str) (st : Stmt) (ps : List Str) (f : Addr) (fd : FuncData) : Prop where
  fn : Fun K x x st f fd
  mg : mg x = some (.ref f)
  bd : Binds K fd ps []
theorem def_of {h : Heap} (KX : K.In h) (G : h.Ns mainGlobals mg) {x : Str} {st : Stmt} {ps : List Str} {f : Addr} {oc : Value} {od an : Option Addr} {osl : Array (Option Value)} {kV doc pm cdv ct : Value}
    (a : PySem.W.nsIn K mainGlobals x = some (some (.ref f))) (l : K.lookup f = some ⟨oc, od, .func (PySem.W.fnOf x x (defArgs st) (defBody st) (defScope st) .none kV doc pm an cdv ct), osl⟩) (c : PySem.W.codeIn K cdv x = true) (k : PySem.W.keepIn K (.ref f) = true)
    (hb : ∀ (kV doc pm : Value) (an : Option Addr) (cdv ct : Value) (us : List Value), us.length = ps.length → bindArgs (PySem.W.fnOf x x (defArgs st) (defBody st) (defScope st) .none kV doc pm an cdv ct) ⟨us, []⟩ = pure (ps.zip us)) :
    Def K mg x st ps f (PySem.W.fnOf x x (defArgs st) (defBody st) (defScope st) .none kV doc pm an cdv ct) :=
  ⟨fun_mk l c k, PySem.W.mg_of KX G a, (fun_mk l c k).binds hb⟩
structure Mth (K : PySem.W.Frag) (C : Addr) (x qual : Str) (st : Stmt) (ps : List Str) (f : Addr) (fd : FuncData) : Prop where
  fn : Fun K x qual st f fd
  mt : Meth K C x f
  bd : Binds K fd ps []
theorem mth_of {C : Addr} {x qual : Str} {st : Stmt} {ps : List Str} {f : Addr} {oc : Value} {od an : Option Addr} {osl : Array (Option Value)} {kV doc pm cdv ct : Value}
    (a : PySem.W.findIn K (.ref C) x = some (some (.ref f))) (i : PySem.W.isFn K (.ref f) = true) (l : K.lookup f = some ⟨oc, od, .func (PySem.W.fnOf x qual (defArgs st) (defBody st) (defScope st) .none kV doc pm an cdv ct), osl⟩) (c : PySem.W.codeIn K cdv qual = true) (k : PySem.W.keepIn K (.ref f) = true)
    (hb : ∀ (kV doc pm : Value) (an : Option Addr) (cdv ct : Value) (us : List Value), us.length = ps.length → bindArgs (PySem.W.fnOf x qual (defArgs st) (defBody st) (defScope st) .none kV doc pm an cdv ct) ⟨us, []⟩ = pure (ps.zip us)) :
    Mth K C x qual st ps f (PySem.W.fnOf x qual (defArgs st) (defBody st) (defScope st) .none kV doc pm an cdv ct) :=
  ⟨fun_mk l c k, ⟨a, i, k⟩, (fun_mk l c k).binds hb⟩
structure Kls (K : PySem.W.Frag) (mg : Str → Option Value) (x : Str) (C : Addr) : Prop where
  cl : Cls K C
  mg : mg x = some (.ref C)
  mks : PySem.W.makesIn K C = true
  kp : PySem.W.keepIn K (.ref C) = true
  c1 : PySem.W.findIn K (.ref C) "__class__" = some (some (.builtin "object.__class__"))
  c2 : PySem.W.specialIn K (.builtin "object.__class__") "__get__" = some (some (.builtin "getset_descriptor.__get__"))
  c3 : PySem.W.takesIn K (.builtin "object.__class__") = some true
  c4 : PySem.W.mroIn K C (.type "object") = some true
theorem Kls.ty {x : Str} {C a dx : Addr} {fs : List (Str × V)} {H : Hp} (k : Kls K mg x C) (e : H a = some (.ins C dx fs)) : TyOf K H (.ref a) (.ref C) := .ins e k.cl k.c1 k.c2 k.c3 k.c4
theorem kls_of {h : Heap} (KX : K.In h) (G : h.Ns mainGlobals mg) {x : Str} {C : Addr} (a : PySem.W.nsIn K mainGlobals x = some (some (.ref C)))
    (pg : PySem.W.plainGet K C Str.empty = true) (hd : PySem.W.hasDictIn K C = true) (po : PySem.W.plainOver K C = true) (sa : PySem.W.findIn K (.ref C) "__setattr__" = some (some (.builtin "object.__setattr__"))) (mk : PySem.W.makesIn K C = true) (kp : PySem.W.keepIn K (.ref C) = true)
    (c1 : PySem.W.findIn K (.ref C) "__class__" = some (some (.builtin "object.__class__"))) (c2 : PySem.W.specialIn K (.builtin "object.__class__") "__get__" = some (some (.builtin "getset_descriptor.__get__")))
    (c3 : PySem.W.takesIn K (.builtin "object.__class__") = some true) (c4 : PySem.W.mroIn K C (.type "object") = some true) : Kls K mg x C :=
  ⟨⟨pg, hd, po, sa⟩, PySem.W.mg_of KX G a, mk, kp, c1, c2, c3, c4⟩
end
section
variable {X : Cx} {K : PySem.W.Frag}
theorem call_isiK (hK : X.K = K := by rfl) : CallR X (.builtin "isinstance") (fun xs H Q => ∃ x y c t b, xs = [x, y] ∧ clsV y = some c ∧ TyOf K H x t ∧ PySem.W.kitOne K t c = some b ∧ Q (.bl b) H) := by subst hK; exact call_isi
theorem pg_c {N' : List Str} {sc : Scope} {L : Addr} {cs : List (Str × Addr)} {s : Shared} {H : Hp} {fp : List Addr} {pos : Pos} {i : Nat} {x : Str} (hN : N'.Nodup) (hi : N'[i]? = some x) (hx : Loc (cxComp X N' sc L cs s H fp).env.scope x)
    (hf : (cxComp X N' sc L cs s H fp).fn x = true ∨ (cxComp X N' sc L cs s H fp).env.scope.names.lookup x = some .local := by first | exact .inl rfl | exact .inr rfl | assumption) : PG (cxComp X N' sc L cs s H fp) (.Name x pos) (gName i) := pg_name hN hi hx hf
end
structure Grid (H : Hp) (a : Addr) (as : List Addr) (rows : List (List Int)) : Prop where
  top : H a = some (.lst (as.map V.ref))
  len : as.length = rows.length
  row : ∀ (i : Nat) (b : Addr) (r : List Int), as[i]? = some b → rows[i]? = some r → H b = some (.lst (r.map V.int))
theorem Same.upd {H : Hp} {a : Addr} {o : HO} (h : H a = none) : Same H (upd H a o) := fun b u e => by rw [upd_ne (ne_of_none e h)]; exact e
end L2
namespace L2
open PySem PySem.Spec PyProof.Rows
section
variable {X : Cx} {CX : CXT} {k : Nat} {f C : Addr} {fd : FuncData} {ps : List Str} {sp : Sp} {dvs : List V} {ds : List Value} {E : XK} {x m : Str} {p pos apos : Pos} {e : Expr} {es : List Expr} {t : TA} {mc : Value}
structure Stat (K : PySem.W.Frag) (C : Addr) (mc : Value) (m : Str) (f : Addr) : Prop where
  s1 : PySem.W.specialIn K (.ref C) "__getattribute__" = some (some (.builtin "type.__getattribute__"))
  s2 : PySem.W.readsIn K C mc = true
  s3 : PySem.W.findCls K (.ref C) mc m = some (.val (.ref f))
  s4 : PySem.W.keepIn K (.ref f) = true
theorem pe_cmeth {pl : Sem Bool} (S : Stat X.K C mc m f) (hg : Gl X x) (hm : X.mg x = some (.ref C)) (F : FnOk X.prog X.w X.K X.mg X.base CX k f fd ps sp) (hr : Room k X.A) (hb : Binds X.K fd ps ds) (hd : Vals dvs ds) (hx : Passes CX X E) (ha : PA X (e :: es) t)
    (hdb : (x == ("__debug__" : Str)) = false := by decide)
    (hst : starEach (e :: es) X.env = (false, eval e X.env) :: starEach es X.env := by rfl) (hpl : (backTo pos (starEach es X.env)).any (·.1) = false := by rfl)
    (ht : eval (.Call (.Attribute (.Name x p) m apos) (e :: es) [] pos) X.env = (do
      let ov ← eval (.Name x p) X.env
      standAt apos.atName
      let (f, first) ← holding [ov] (getMethod ov m pl)
      callWith pos f first (backTo pos (starEach (e :: es) X.env)) (backToKw pos (keywordEach [] X.env))) := by rfl) :
    PE X (.Call (.Attribute (.Name x p) m apos) (e :: es) [] pos) (tCall sp dvs E t) := by
  intro pins s σ H Q I h
  refine PySem.W.methodCall_KW (pl := pl) (ld_glob I hg hm ?_ hdb) ht
  refine PySem.W.method_cls I.kIn S.s1 (PySem.W.cls_value I.kIn S.s2 S.s3 rfl ?_)
  refine PySem.W.callWith_K (first := []) (h₀ := X.base) I.ok.mod.kin S.s4 (thn (ha pos pins _ σ H _ (I.tok (s.toks + 1)) h) fun us s2 ⟨vs, H2, I2, r, q2⟩ => ⟨I2.kIn, ?_⟩) hst hpl
  exact run_fn (us := us) (vs := vs) F hr hb hd hx I2 r q2
end
end L2
namespace L2
open PySem PySem.Spec PyProof.Rows
section
variable {X : Cx} {a b c d : Expr} {ta tb tc td : TE} {pos : Pos}
theorem Same.tup {K : PySem.W.Frag} {H H' : Hp} {a : Addr} {xs : List V} (e : Same H H') (h : SqT K H a xs) : SqT K H' a xs := by
  rcases h with (h | ⟨o, h⟩) | h
  · exact .inl (.inl (e _ _ h))
  · exact .inl (.inr ⟨o, e _ _ h⟩)
  · exact .inr h
end
end L2
namespace L2
open PySem PySem.Spec PyProof.Rows
theorem tyV_list {K : PySem.W.Frag} {a : Addr} {H : Hp} {xs : List V} (h : H a = some (.lst xs)) : tyV K "list" (.ref a) H := .inl ⟨rfl, _, SqL.of h⟩
inductive Dat where
  | non | bl (b : Bool) | int (i : Int) | str (x : Str) | tup (ds : List Dat) | lst (ds : List Dat) | ins (C : Addr) (fs : List (Str × Dat)) | dic (ks : List (List Int × Dat)) | dil (ks : List (Int × List (List Int)))
noncomputable abbrev DRow := List Int × Addr × V
noncomputable def tHash (ks : List Int) : Int := reduceHash (PySem.Builtin.Tuple.tupleHashOf (ks.map hashInt))
noncomputable def rowE (x : List Int × Addr × Value) : DictEntry := ⟨tHash x.1, .ref x.2.1, x.2.2⟩
noncomputable def RowRel (p : DRow) (q : List Int × Addr × Value) : Prop := p.1 = q.1 ∧ p.2.1 = q.2.1 ∧ RelV p.2.2 q.2.2
noncomputable def DicOk (h : Heap) (a : Addr) (xs : List DRow) (ep : Nat) : Prop := ∃ vs : List (List Int × Addr × Value), Paired RowRel xs vs ∧ (a == sysModules) = false ∧ xs.length ≤ sizeLine ∧ (vs.map (·.1)).Nodup ∧ ∃ o es, h.get? a = some o ∧ o.ExactDict ∧ o.data = .dict es ep ∧ es.toList = vs.map rowE
noncomputable def DicO (a : Addr) (xs : List DRow) (ep : Nat) : HO := .ext fun h => DicOk h a xs ep
noncomputable abbrev LK := Int × List (List Int)
noncomputable def lHash (k : LK) : Int := reduceHash (PySem.Builtin.Tuple.tupleHashOf [hashInt k.1, reduceHash (PySem.Builtin.Tuple.tupleHashOf (k.2.map tHash))])
noncomputable def rowL (x : LK × Addr) : DictEntry := ⟨lHash x.1, .ref x.2, .bool true⟩
noncomputable def DilOk (h : Heap) (a : Addr) (xs : List (LK × Addr)) (ep : Nat) : Prop := (a == sysModules) = false ∧ xs.length ≤ sizeLine ∧ (xs.map (·.1)).Nodup ∧ ∃ o es, h.get? a = some o ∧ o.ExactDict ∧ o.data = .dict es ep ∧ es.toList = xs.map rowL
noncomputable def DilO (a : Addr) (xs : List (LK × Addr)) (ep : Nat) : HO := .ext fun h => DilOk h a xs ep
noncomputable def LabAt (K : PySem.W.Frag) (F : Hp) (b : Addr) (k : LK) : Prop := ∃ (r : Addr) (bs : List Addr), SqT K F b [V.int k.1, V.ref r] ∧ SqT K F r (bs.map V.ref) ∧ bs.length = k.2.length ∧ ∀ (j : Nat) (row : List Int) (c : Addr), k.2[j]? = some row → bs[j]? = some c → SqT K F c (row.map V.int)
noncomputable def DeepL (K : PySem.W.Frag) (F : Hp) (ks : List LK) (xs : List (LK × Addr)) : Prop := xs.map (·.1) = ks ∧ ∀ x ∈ xs, LabAt K F x.2 x.1
mutual
noncomputable def Deep (K : PySem.W.Frag) (F : Hp) : Dat → V → Prop
  | .non, v => v = .non
  | .bl b, v => v = .bl b
  | .int i, v => v = .int i
  | .str x, v => v = .str x
  | .tup ds, v => ∃ a xs, v = .ref a ∧ SqT K F a xs ∧ Deeps K F ds xs
  | .lst ds, v => ∃ a xs, v = .ref a ∧ SqL K F a xs ∧ Deeps K F ds xs
  | .ins C gs, v => ∃ a dx fs, v = .ref a ∧ F a = some (.ins C dx fs) ∧ DeepF K F gs fs
  | .dic ks, v => ∃ a xs, v = .ref a ∧ (∃ ep, F a = some (DicO a xs ep)) ∧ DeepK K F ks xs
  | .dil ks, v => ∃ a xs, v = .ref a ∧ (∃ ep, F a = some (DilO a xs ep)) ∧ DeepL K F ks xs
noncomputable def Deeps (K : PySem.W.Frag) (F : Hp) : List Dat → List V → Prop
  | [], xs => xs = []
  | d :: ds, xs => ∃ v vs, xs = v :: vs ∧ Deep K F d v ∧ Deeps K F ds vs
noncomputable def DeepF (K : PySem.W.Frag) (F : Hp) : List (Str × Dat) → List (Str × V) → Prop
  | [], fs => fs = []
  | (f, d) :: gs, fs => ∃ v r, fs = (f, v) :: r ∧ Deep K F d v ∧ DeepF K F gs r
noncomputable def DeepK (K : PySem.W.Frag) (F : Hp) : List (List Int × Dat) → List DRow → Prop
  | [], xs => xs = []
  | (k, d) :: ks, xs => ∃ b v r, xs = (k, b, v) :: r ∧ SqT K F b (k.map .int) ∧ Deep K F d v ∧ DeepK K F ks r
end
mutual
noncomputable def flatD : Dat → Bool
  | .tup ds => flatDs ds
  | .lst _ => false
  | .ins _ _ => false
  | .dic _ => false
  | .dil _ => false
  | _ => true
noncomputable def flatDs : List Dat → Bool
  | [] => true
  | d :: ds => flatD d && flatDs ds
end
theorem Same.lst {K : PySem.W.Frag} {H H' : Hp} {a : Addr} {xs : List V} (e : Same H H') (h : SqL K H a xs) : SqL K H' a xs := by
  rcases h with (h | ⟨o, h⟩) | h
  · exact .inl (.inl (e _ _ h))
  · exact .inl (.inr ⟨o, e _ _ h⟩)
  · exact .inr h
theorem LabAt.mono {K : PySem.W.Frag} {F F' : Hp} (s : Same F F') {b : Addr} {k : LK} (h : LabAt K F b k) : LabAt K F' b k :=
  let ⟨r, bs, t1, t2, l, t3⟩ := h; ⟨r, bs, s.tup t1, s.tup t2, l, fun j row c e1 e2 => s.tup (t3 j row c e1 e2)⟩
theorem DeepL.mono {K : PySem.W.Frag} {F F' : Hp} (s : Same F F') {ks : List LK} {xs : List (LK × Addr)} (h : DeepL K F ks xs) : DeepL K F' ks xs := ⟨h.1, fun x hx => (h.2 x hx).mono s⟩
mutual
theorem Deep.mono {K : PySem.W.Frag} {F F' : Hp} (s : Same F F') : ∀ {d : Dat} {v : V}, Deep K F d v → Deep K F' d v
  | .non, _, h => h
  | .bl _, _, h => h
  | .int _, _, h => h
  | .str _, _, h => h
  | .tup _, _, ⟨a, xs, e, q, r⟩ => ⟨a, xs, e, s.tup q, Deeps.mono s r⟩
  | .lst _, _, ⟨a, xs, e, q, r⟩ => ⟨a, xs, e, s.lst q, Deeps.mono s r⟩
  | .ins _ _, _, ⟨a, dx, fs, e, q, r⟩ => ⟨a, dx, fs, e, s _ _ q, DeepF.mono s r⟩
  | .dic _, _, ⟨a, xs, e, ⟨ep, q⟩, r⟩ => ⟨a, xs, e, ⟨ep, s _ _ q⟩, DeepK.mono s r⟩
  | .dil _, _, ⟨a, xs, e, ⟨ep, q⟩, r⟩ => ⟨a, xs, e, ⟨ep, s _ _ q⟩, DeepL.mono s r⟩
theorem Deeps.mono {K : PySem.W.Frag} {F F' : Hp} (s : Same F F') : ∀ {ds : List Dat} {xs : List V}, Deeps K F ds xs → Deeps K F' ds xs
  | [], _, h => h
  | _ :: _, _, ⟨v, vs, e, q, r⟩ => ⟨v, vs, e, Deep.mono s q, Deeps.mono s r⟩
theorem DeepF.mono {K : PySem.W.Frag} {F F' : Hp} (s : Same F F') : ∀ {gs : List (Str × Dat)} {fs : List (Str × V)}, DeepF K F gs fs → DeepF K F' gs fs
  | [], _, h => h
  | (_, _) :: _, _, ⟨v, r, e, q, t⟩ => ⟨v, r, e, Deep.mono s q, DeepF.mono s t⟩
theorem DeepK.mono {K : PySem.W.Frag} {F F' : Hp} (s : Same F F') : ∀ {ks : List (List Int × Dat)} {xs : List DRow}, DeepK K F ks xs → DeepK K F' ks xs
  | [], _, h => h
  | (_, _) :: _, _, ⟨b, v, r, e, t, q, z⟩ => ⟨b, v, r, e, s.tup t, Deep.mono s q, DeepK.mono s z⟩
end
mutual
theorem Deep.flat {K : PySem.W.Frag} {F F' : Hp} (s : ∀ a xs, SqT K F a xs → SqT K F' a xs) : ∀ {d : Dat} {v : V}, flatD d = true → Deep K F d v → Deep K F' d v
  | .non, _, _, h => h
  | .bl _, _, _, h => h
  | .int _, _, _, h => h
  | .str _, _, _, h => h
  | .tup ds, _, f, ⟨a, xs, e, q, r⟩ => ⟨a, xs, e, s _ _ q, Deeps.flat s (by simpa [flatD] using f) r⟩
  | .lst _, _, f, _ => by simp [flatD] at f
  | .ins _ _, _, f, _ => by simp [flatD] at f
  | .dic _, _, f, _ => by simp [flatD] at f
  | .dil _, _, f, _ => by simp [flatD] at f
theorem Deeps.flat {K : PySem.W.Frag} {F F' : Hp} (s : ∀ a xs, SqT K F a xs → SqT K F' a xs) : ∀ {ds : List Dat} {xs : List V}, flatDs ds = true → Deeps K F ds xs → Deeps K F' ds xs
  | [], _, _, h => h
  | d :: ds, _, f, ⟨v, vs, e, q, r⟩ => by
    simp only [flatDs, Bool.and_eq_true] at f
    exact ⟨v, vs, e, Deep.flat s f.1 q, Deeps.flat s f.2 r⟩
end
theorem Deeps.length {K : PySem.W.Frag} {F : Hp} : ∀ {ds : List Dat} {xs : List V}, Deeps K F ds xs → xs.length = ds.length
  | [], _, h => by rw [show _ = [] from h]; rfl
  | _ :: _, _, ⟨_, _, e, _, r⟩ => by rw [e, List.length_cons, List.length_cons, Deeps.length r]
theorem Deeps.get {K : PySem.W.Frag} {F : Hp} : ∀ {ds : List Dat} {xs : List V} {i : Nat} {d : Dat}, Deeps K F ds xs → ds[i]? = some d → ∃ v, xs[i]? = some v ∧ Deep K F d v
  | [], _, _, _, _, e => by simp at e
  | _ :: _, _, 0, _, ⟨v, vs, e, q, _⟩, h => by
    simp only [List.getElem?_cons_zero, Option.some.injEq] at h
    subst h e
    exact ⟨v, rfl, q⟩
  | _ :: _, _, i + 1, _, ⟨v, vs, e, _, r⟩, h => by
    subst e
    simp only [List.getElem?_cons_succ] at h ⊢
    exact Deeps.get r h
theorem Deeps.at {K : PySem.W.Frag} {F : Hp} {ds : List Dat} {xs : List V} {i : Nat} {v : V} (r : Deeps K F ds xs) (h : xs[i]? = some v) : ∃ d, ds[i]? = some d ∧ Deep K F d v := by
  have hi : i < ds.length := by rw [← r.length]; exact (List.getElem?_eq_some_iff.mp h).1
  obtain ⟨w, e, q⟩ := r.get (i := i) (d := ds[i]) (by simp [hi])
  rw [h] at e
  have e' := Option.some.inj e
  subst e'
  exact ⟨ds[i], by simp [hi], q⟩
theorem Deeps.cons {K : PySem.W.Frag} {F : Hp} {d : Dat} {v : V} {ds : List Dat} {xs : List V} (q : Deep K F d v) (r : Deeps K F ds xs) : Deeps K F (d :: ds) (v :: xs) := ⟨v, xs, rfl, q, r⟩
theorem Deeps.append {K : PySem.W.Frag} {F : Hp} : ∀ {ds es : List Dat} {xs ys : List V}, Deeps K F ds xs → Deeps K F es ys → Deeps K F (ds ++ es) (xs ++ ys)
  | [], _, _, _, h, r => by rw [show _ = [] from h]; exact r
  | _ :: _, _, _, _, ⟨v, vs, e, q, t⟩, r => by subst e; exact ⟨v, _, rfl, q, Deeps.append t r⟩
theorem Deeps.take {K : PySem.W.Frag} {F : Hp} : ∀ {ds : List Dat} {xs : List V} (n : Nat), Deeps K F ds xs → Deeps K F (ds.take n) (xs.take n)
  | _, _, 0, _ => rfl
  | [], _, _ + 1, h => by rw [show _ = [] from h]; rfl
  | _ :: _, _, n + 1, ⟨v, vs, e, q, r⟩ => by subst e; exact ⟨v, _, rfl, q, Deeps.take n r⟩
theorem Deeps.drop {K : PySem.W.Frag} {F : Hp} : ∀ {ds : List Dat} {xs : List V} (n : Nat), Deeps K F ds xs → Deeps K F (ds.drop n) (xs.drop n)
  | _, _, 0, h => h
  | [], _, _ + 1, h => by rw [show _ = [] from h]; rfl
  | _ :: _, _, n + 1, ⟨v, vs, e, q, r⟩ => by subst e; exact Deeps.drop n r
theorem Deeps.of_get {K : PySem.W.Frag} {F : Hp} : ∀ {ds : List Dat} {xs : List V}, xs.length = ds.length → (∀ (i : Nat) d v, ds[i]? = some d → xs[i]? = some v → Deep K F d v) → Deeps K F ds xs
  | [], [], _, _ => rfl
  | [], _ :: _, h, _ => by simp at h
  | _ :: _, [], h, _ => by simp at h
  | d :: ds, v :: vs, h, q => ⟨v, vs, rfl, q 0 d v rfl rfl, Deeps.of_get (by simpa using h) fun i e w h1 h2 => q (i + 1) e w (by simpa using h1) (by simpa using h2)⟩
structure Step (F H F' H' : Hp) : Prop where
  ff : Same F F'
  hh : Same H H'
  fh : Same F' H'
  nw : ∀ b o, F' b = some o → F b = some o ∨ H b = none
theorem Step.refl {F H : Hp} (s : Same F H) : Step F H F H := ⟨Same.refl _, Same.refl _, s, fun _ _ h => .inl h⟩
theorem Step.trans {F H F1 H1 F2 H2 : Hp} (a : Step F H F1 H1) (b : Step F1 H1 F2 H2) : Step F H F2 H2 :=
  ⟨a.ff.trans b.ff, a.hh.trans b.hh, b.fh, fun x o h => (b.nw x o h).elim (fun z => a.nw x o z) fun z => .inr (a.hh.free z)⟩
theorem Step.lay {F H : Hp} {p : Addr} {o : HO} (s : Same F H) (hp : H p = none) : Step F H (upd F p o) (upd H p o) :=
  ⟨Same.upd (s.free hp), Same.upd hp, fun b u h => by
    by_cases e : b = p
    · subst e; rw [upd_same] at h ⊢; exact h
    · rw [upd_ne e] at h ⊢; exact s b u h, fun b u h => by
    by_cases e : b = p
    · subst e; exact .inr hp
    · rw [upd_ne e] at h; exact .inl h⟩
theorem Step.grow {F H : Hp} {p : Addr} {o : HO} (s : Same F H) (hp : H p = none) : Step F H F (upd H p o) :=
  ⟨Same.refl _, Same.upd hp, s.trans (Same.upd hp), fun _ _ h => .inl h⟩
noncomputable def OwnD (K : PySem.W.Frag) (F H0 H : Hp) : Dat → V → Prop
  | .lst ds, v => ∃ a xs, v = .ref a ∧ H a = some (.lst xs) ∧ F a = none ∧ H0 a = none ∧ Deeps K F ds xs
  | .dic ks, v => ∃ a xs, v = .ref a ∧ (∃ ep, H a = some (DicO a xs ep)) ∧ F a = none ∧ H0 a = none ∧ DeepK K F ks xs
  | .dil ks, v => ∃ a xs, v = .ref a ∧ (∃ ep, H a = some (DilO a xs ep)) ∧ F a = none ∧ H0 a = none ∧ DeepL K F ks xs
  | d, v => Deep K F d v
noncomputable def isO : Dat → Bool
  | .lst _ => true
  | .dic _ => true
  | .dil _ => true
  | _ => false
noncomputable def isMu : HO → Bool
  | .lst _ => true
  | .ext _ => true
  | _ => false
theorem OwnD.non {K : PySem.W.Frag} {F H0 H : Hp} {d : Dat} {v : V} (hd : isO d = false) : OwnD K F H0 H d v = Deep K F d v := by
  cases d <;> first | rfl | cases hd
theorem OwnD.top {K : PySem.W.Frag} {F H0 H : Hp} {d : Dat} {v : V} (hd : isO d = true) (q : OwnD K F H0 H d v) : ∃ a o, v = .ref a ∧ H a = some o ∧ isMu o = true ∧ F a = none ∧ H0 a = none := by
  cases d with
  | lst ds => obtain ⟨a, xs, e, p, f, z, _⟩ := q; exact ⟨a, _, e, p, rfl, f, z⟩
  | dic ks => obtain ⟨a, xs, e, ⟨ep, p⟩, f, z, _⟩ := q; exact ⟨a, _, e, p, rfl, f, z⟩
  | dil ks => obtain ⟨a, xs, e, ⟨ep, p⟩, f, z, _⟩ := q; exact ⟨a, _, e, p, rfl, f, z⟩
  | _ => cases hd
theorem OwnD.re {K : PySem.W.Frag} {F F' H0 H H' : Hp} {d : Dat} {a : Addr} (hd : isO d = true) (q : OwnD K F H0 H d (.ref a)) (ff : Same F F') (fa : F' a = none) (hh : ∀ o, H a = some o → H' a = some o) : OwnD K F' H0 H' d (.ref a) := by
  cases d with
  | lst ds => obtain ⟨b, xs, e, p, f, z, r⟩ := q; cases e; exact ⟨a, xs, rfl, hh _ p, fa, z, r.mono ff⟩
  | dic ks => obtain ⟨b, xs, e, ⟨ep, p⟩, f, z, r⟩ := q; cases e; exact ⟨a, xs, rfl, ⟨ep, hh _ p⟩, fa, z, r.mono ff⟩
  | dil ks => obtain ⟨b, xs, e, ⟨ep, p⟩, f, z, r⟩ := q; cases e; exact ⟨a, xs, rfl, ⟨ep, hh _ p⟩, fa, z, r.mono ff⟩
  | _ => cases hd
theorem OwnD.give {K : PySem.W.Frag} {F F' H0 H : Hp} {d : Dat} {a : Addr} (hd : isO d = true) (q : OwnD K F H0 H d (.ref a)) (ff : Same F F') (fa : F' a = H a) : Deep K F' d (.ref a) := by
  cases d with
  | lst ds => obtain ⟨b, xs, e, p, f, z, r⟩ := q; cases e; exact ⟨a, xs, rfl, SqL.of (fa.trans p), r.mono ff⟩
  | dic ks => obtain ⟨b, xs, e, ⟨ep, p⟩, f, z, r⟩ := q; cases e; exact ⟨a, xs, rfl, ⟨ep, fa.trans p⟩, r.mono ff⟩
  | dil ks => obtain ⟨b, xs, e, ⟨ep, p⟩, f, z, r⟩ := q; cases e; exact ⟨a, xs, rfl, ⟨ep, fa.trans p⟩, r.mono ff⟩
  | _ => cases hd
noncomputable def Val (K : PySem.W.Frag) (own : Bool) (F H0 H : Hp) (d : Dat) (v : V) : Prop := if own = true then OwnD K F H0 H d v else Deep K F d v
theorem OwnD.back {K : PySem.W.Frag} {F H0 H1 H : Hp} {d : Dat} {v : V} (s : Same H0 H1) (h : OwnD K F H1 H d v) : OwnD K F H0 H d v := by
  cases d with
  | lst ds => obtain ⟨a, xs, e, p, q, z, r⟩ := h; exact ⟨a, xs, e, p, q, s.free z, r⟩
  | dic ks => obtain ⟨a, xs, e, p, q, z, r⟩ := h; exact ⟨a, xs, e, p, q, s.free z, r⟩
  | dil ks => obtain ⟨a, xs, e, p, q, z, r⟩ := h; exact ⟨a, xs, e, p, q, s.free z, r⟩
  | _ => exact h
theorem Val.back {K : PySem.W.Frag} {own : Bool} {F H0 H1 H : Hp} {d : Dat} {v : V} (s : Same H0 H1) (h : Val K own F H1 H d v) : Val K own F H0 H d v := by
  cases own with
  | true => exact OwnD.back s h
  | false => exact h
theorem OwnD.freeze {K : PySem.W.Frag} {F H0 H : Hp} {d : Dat} {v : V} (s : Same F H) (h : OwnD K F H0 H d v) : ∃ F', Same F F' ∧ Same F' H ∧ (∀ b o, F' b = some o → F b = some o ∨ H0 b = none) ∧ Deep K F' d v := by
  cases hd : isO d with
  | true =>
    obtain ⟨a, u, e, p, _, q, z⟩ := h.top hd
    subst e
    refine ⟨upd F a u, Same.upd q, fun b o h => ?_, fun b o h => ?_, h.give hd (Same.upd q) (by rw [upd_same, p])⟩
    · by_cases e : b = a
      · subst e; rw [upd_same] at h; rw [p, ← h]
      · rw [upd_ne e] at h; exact s b o h
    · by_cases e : b = a
      · subst e; exact .inr z
      · rw [upd_ne e] at h; exact .inl h
  | false => rw [OwnD.non hd] at h; exact ⟨F, Same.refl _, s, fun _ _ z => .inl z, h⟩
inductive Err where
  | stuck | exc (C : Addr) (fs : List (Str × Dat))
noncomputable abbrev M := Except Err
noncomputable abbrev Env' := List (Option Dat)
structure Wish where
  p : Err → Hp → Hp → Prop
  mono : ∀ {e : Err} {F H F' H' : Hp}, p e F H → Step F H F' H' → p e F' H'
  ns : ∀ {F H : Hp}, p .stuck F H → False
noncomputable def Wno : Wish := ⟨fun _ _ _ => False, fun h _ => h, fun h => h⟩
noncomputable def Post (K : PySem.W.Frag) (W : Wish) (own : Bool) (F H : Hp) (r : M Dat) (Q : VK) : Prop := match r with
  | .ok d => ∀ v F' H', Step F H F' H' → Val K own F' H H' d v → Q v H'
  | .error e => W.p e F H
theorem Post.step {K : PySem.W.Frag} {W : Wish} {own : Bool} {F H F1 H1 : Hp} {r : M Dat} {Q : VK} (p : Post K W own F H r Q) (s : Step F H F1 H1) : Post K W own F1 H1 r Q := by
  cases r with
  | ok d => exact fun v F' H' t q => p v F' H' (s.trans t) (q.back s.hh)
  | error e => exact W.mono p s
theorem Post.frz {K : PySem.W.Frag} {W : Wish} {F H : Hp} {r : M Dat} {Q : VK} (p : Post K W false F H r Q) : Post K W true F H r Q := by
  cases r with
  | ok d =>
    intro v F' H' t q
    obtain ⟨F2, s1, s2, n, z⟩ := OwnD.freeze t.fh q
    exact p v F2 H' ⟨t.ff.trans s1, t.hh, s2, fun b o h => (n b o h).elim (fun z => t.nw b o z) .inr⟩ z
  | error e => exact p
structure RepE (K : PySem.W.Frag) (F : Hp) (σ : St) (ρ : Env') : Prop where
  len : ρ.length = σ.length
  sl : ∀ (i : Nat) (d : Dat), ρ[i]? = some (some d) → ∃ v, σ[i]? = some (some v) ∧ Deep K F d v
theorem RepE.mono {K : PySem.W.Frag} {F F' : Hp} {σ : St} {ρ : Env'} (r : RepE K F σ ρ) (s : Same F F') : RepE K F' σ ρ :=
  ⟨r.len, fun i d e => let ⟨v, h, q⟩ := r.sl i d e; ⟨v, h, q.mono s⟩⟩
theorem RepE.set {K : PySem.W.Frag} {F : Hp} {σ : St} {ρ : Env'} {d : Dat} {v : V} (r : RepE K F σ ρ) (q : Deep K F d v) (i : Nat) : RepE K F (σ.set i (some v)) (ρ.set i (some d)) :=
  ⟨by rw [List.length_set, List.length_set, r.len], fun j e h => by
    by_cases hij : i = j
    · subst hij
      have hi : i < ρ.length := by
        have := (List.getElem?_eq_some_iff.mp h).1
        simpa using this
      rw [List.getElem?_set_self hi] at h
      cases h
      exact ⟨v, by rw [List.getElem?_set_self (by rw [← r.len]; exact hi)], q⟩
    · rw [List.getElem?_set_ne hij] at h
      obtain ⟨w, h1, h2⟩ := r.sl j e h
      exact ⟨w, by rw [List.getElem?_set_ne hij]; exact h1, h2⟩⟩
noncomputable def tD (K : PySem.W.Frag) (W : Wish) (own : Bool) (f : Env' → M Dat) : TE := fun σ H Q => ∃ F ρ, RepE K F σ ρ ∧ Same F H ∧ Post K W own F H (f ρ) Q
theorem tD_run {K : PySem.W.Frag} {W : Wish} {own : Bool} {f : Env' → M Dat} {σ : St} {ρ : Env'} {F H : Hp} {R : VK} (r : RepE K F σ ρ) (s : Same F H) (hE : ∀ e, f ρ = .error e → W.p e F H)
    (hO : ∀ d, f ρ = .ok d → ∀ v F1 H1, Step F H F1 H1 → Val K own F1 H H1 d v → R v H1) : tD K W own f σ H R := by
  refine ⟨F, ρ, r, s, ?_⟩
  cases e : f ρ with
  | ok d => exact hO d e
  | error x => exact hE x e
noncomputable def tDT (K : PySem.W.Frag) (W : Wish) (f : Env' → M Bool) : TT := fun σ H Q => ∃ F ρ, RepE K F σ ρ ∧ Same F H ∧ (match f ρ with
  | .ok b => ∀ F' H', Step F H F' H' → Q b H'
  | .error e => W.p e F H)
theorem tDT_run {K : PySem.W.Frag} {W : Wish} {f : Env' → M Bool} {σ : St} {ρ : Env'} {F H : Hp} {R : Bool → Hp → Prop} (r : RepE K F σ ρ) (s : Same F H) (hE : ∀ e, f ρ = .error e → W.p e F H)
    (hO : ∀ b, f ρ = .ok b → ∀ F1 H1, Step F H F1 H1 → R b H1) : tDT K W f σ H R := by
  refine ⟨F, ρ, r, s, ?_⟩
  cases e : f ρ with
  | ok d => exact hO d e
  | error x => exact hE x e
noncomputable def tDA (K : PySem.W.Frag) (W : Wish) (f : Env' → M (List Dat)) : TA := fun σ H Q => ∃ F ρ, RepE K F σ ρ ∧ Same F H ∧ (match f ρ with
  | .ok ds => ∀ vs F' H', Step F H F' H' → Deeps K F' ds vs → Q vs H'
  | .error e => W.p e F H)
theorem tDA_run {K : PySem.W.Frag} {W : Wish} {f : Env' → M (List Dat)} {σ : St} {ρ : Env'} {F H : Hp} {R : List V → Hp → Prop} (r : RepE K F σ ρ) (s : Same F H) (hE : ∀ e, f ρ = .error e → W.p e F H)
    (hO : ∀ ds, f ρ = .ok ds → ∀ vs F1 H1, Step F H F1 H1 → Deeps K F1 ds vs → R vs H1) : tDA K W f σ H R := by
  refine ⟨F, ρ, r, s, ?_⟩
  cases e : f ρ with
  | ok d => exact hO d e
  | error x => exact hE x e
noncomputable def fVar (i : Nat) : Env' → M Dat := fun ρ => match ρ[i]? with
  | some (some d) => .ok d
  | _ => .error .stuck
noncomputable def fC (d : Dat) : Env' → M Dat := fun _ => .ok d
noncomputable def f1 (g : Dat → M Dat) (fa : Env' → M Dat) : Env' → M Dat := fun ρ => (fa ρ).bind g
noncomputable def f2 (g : Dat → Dat → M Dat) (fa fb : Env' → M Dat) : Env' → M Dat := fun ρ => (fa ρ).bind fun a => (fb ρ).bind fun b => g a b
noncomputable def fNil : Env' → M (List Dat) := fun _ => .ok []
noncomputable def fCons (fa : Env' → M Dat) (fr : Env' → M (List Dat)) : Env' → M (List Dat) := fun ρ => (fa ρ).bind fun a => (fr ρ).bind fun r => .ok (a :: r)
noncomputable def fL (g : List Dat → M Dat) (fr : Env' → M (List Dat)) : Env' → M Dat := fun ρ => (fr ρ).bind g
noncomputable def mkTup (ds : List Dat) : M Dat := if ds.length ≤ sizeLine then .ok (.tup ds) else .error .stuck
noncomputable def mkLst (ds : List Dat) : M Dat := if ds.length ≤ sizeLine then .ok (.lst ds) else .error .stuck
noncomputable def fOr (ft fu : Env' → M Bool) : Env' → M Bool := fun ρ => (ft ρ).bind fun b => if b = true then .ok true else fu ρ
noncomputable def fNot (ft : Env' → M Bool) : Env' → M Bool := fun ρ => (ft ρ).bind fun b => .ok (!b)
noncomputable def asB : Dat → M Bool
  | .bl b => .ok b
  | _ => .error .stuck
noncomputable def fB (fa : Env' → M Dat) : Env' → M Bool := fun ρ => (fa ρ).bind asB
noncomputable def fAndV (fa fb : Env' → M Dat) : Env' → M Dat := fun ρ => (fa ρ).bind fun a => (asB a).bind fun b => if b = true then fb ρ else .ok (.bl false)
noncomputable def fOrV (fa fb : Env' → M Dat) : Env' → M Dat := fun ρ => (fa ρ).bind fun a => (asB a).bind fun b => if b = true then .ok (.bl true) else fb ρ
noncomputable def notD : Dat → M Dat
  | .bl b => .ok (.bl (!b))
  | _ => .error .stuck
noncomputable def truD : Dat → M Bool
  | .non => .ok false
  | .bl b => .ok b
  | .int i => .ok (i != 0)
  | .str x => if x.length ≤ sizeLine then .ok ((x.length : Int) != 0) else .error .stuck
  | .tup ds => .ok (!ds.isEmpty)
  | .lst ds => .ok (!ds.isEmpty)
  | _ => .error .stuck
noncomputable def fTru (fa : Env' → M Dat) : Env' → M Bool := fun ρ => (fa ρ).bind truD
noncomputable def fChain (g g' : Dat → Dat → M Dat) (fa fb fc : Env' → M Dat) : Env' → M Dat := fun ρ => (fa ρ).bind fun a => (fb ρ).bind fun b => (g a b).bind fun x => (asB x).bind fun k => if k = true then (fc ρ).bind fun c => g' b c else .ok (.bl false)
noncomputable def rD2 (K : PySem.W.Frag) (W : Wish) (own : Bool) (g : Dat → Dat → M Dat) : R2 := fun x y H Q => ∃ F a b, Same F H ∧ Deep K F a x ∧ Deep K F b y ∧ Post K W own F H (g a b) Q
noncomputable def rD1 (K : PySem.W.Frag) (W : Wish) (own : Bool) (g : Dat → M Dat) : V → Hp → VK → Prop := fun x H Q => ∃ F a, Same F H ∧ Deep K F a x ∧ Post K W own F H (g a) Q
noncomputable def rDL (K : PySem.W.Frag) (W : Wish) (own : Bool) (g : List Dat → M Dat) : List V → Hp → VK → Prop := fun xs H Q => ∃ F ds, Same F H ∧ Deeps K F ds xs ∧ Post K W own F H (g ds) Q
section
variable {K : PySem.W.Frag} {W : Wish} {own : Bool} {σ : St} {H : Hp} {Q : VK} {fa fb fc : Env' → M Dat}
theorem rd_var {i : Nat} (h : tD K W false (fVar i) σ H Q) : tVar i σ H Q := by
  obtain ⟨F, ρ, r, s, p⟩ := h
  unfold fVar at p
  match e : ρ[i]? with
  | some (some d) =>
    rw [e] at p
    obtain ⟨v, e1, q⟩ := r.sl i d e
    exact ⟨v, e1, p v F H (Step.refl s) q⟩
  | some none => rw [e] at p; exact (W.ns p).elim
  | none => rw [e] at p; exact (W.ns p).elim
theorem rd_c {d : Dat} {v : V} (hd : ∀ F, Deep K F d v) (h : tD K W false (fC d) σ H Q) : tC v σ H Q := by
  obtain ⟨F, ρ, r, s, p⟩ := h
  exact p v F H (Step.refl s) (hd F)
theorem Post.err {F : Hp} {x : M Dat} {e : Err} (p : Post K W own F H x Q) (h : x = .error e) : W.p e F H := by rw [h] at p; exact p
theorem rd_1 {g : Dat → M Dat} (h : tD K W own (f1 g fa) σ H Q) : tUn (rD1 K W own g) (tD K W false fa) σ H Q := by
  obtain ⟨F, ρ, r, s, p⟩ := h
  refine tD_run r s (fun e he => p.err (by unfold f1; rw [he]; rfl)) fun a ha x F1 H1 s1 q1 => ?_
  refine ⟨F1, a, s1.fh, q1, ?_⟩
  have e : f1 g fa ρ = g a := by unfold f1; rw [ha]; rfl
  rw [e] at p
  exact p.step s1
theorem rd_2 {g : Dat → Dat → M Dat} (h : tD K W own (f2 g fa fb) σ H Q) : tOp (rD2 K W own g) (tD K W false fa) (tD K W false fb) σ H Q := by
  obtain ⟨F, ρ, r, s, p⟩ := h
  refine tD_run r s (fun e he => p.err (by unfold f2; rw [he]; rfl)) fun a ha x F1 H1 s1 q1 => ?_
  refine tD_run (r.mono s1.ff) s1.fh (fun e he => (p.step s1).err (by unfold f2; rw [ha]; show (fb ρ).bind _ = _; rw [he]; rfl)) fun b hb y F2 H2 s2 q2 => ?_
  refine ⟨F2, a, b, s2.fh, Deep.mono s2.ff q1, q2, ?_⟩
  have e : f2 g fa fb ρ = g a b := by unfold f2; rw [ha]; show (fb ρ).bind _ = _; rw [hb]; rfl
  rw [e] at p
  exact p.step (s1.trans s2)
theorem rd_nil {R : List V → Hp → Prop} (h : tDA K W fNil σ H R) : tNil σ H R := by
  obtain ⟨F, ρ, r, s, p⟩ := h
  exact p [] F H (Step.refl s) rfl
theorem rd_cons {fr : Env' → M (List Dat)} {R : List V → Hp → Prop} (h : tDA K W (fCons fa fr) σ H R) : tCons (tD K W false fa) (tDA K W fr) σ H R := by
  obtain ⟨F, ρ, r, s, p⟩ := h
  refine tD_run r s (fun e he => ?_) fun a ha x F1 H1 s1 q1 => tDA_run (r.mono s1.ff) s1.fh (fun e he => ?_) fun ds hd xs F2 H2 s2 q2 => ?_
  · have z : fCons fa fr ρ = .error e := by unfold fCons; rw [he]; rfl
    rw [z] at p
    exact p
  · have z : fCons fa fr ρ = .error e := by unfold fCons; rw [ha]; show (fr ρ).bind _ = _; rw [he]; rfl
    rw [z] at p
    exact W.mono p s1
  · have z : fCons fa fr ρ = .ok (a :: ds) := by unfold fCons; rw [ha]; show (fr ρ).bind _ = _; rw [hd]; rfl
    rw [z] at p
    exact p (x :: xs) F2 H2 (s1.trans s2) ⟨x, xs, rfl, Deep.mono s2.ff q1, q2⟩
theorem rd_L {g : List Dat → M Dat} {fr : Env' → M (List Dat)} (h : tD K W own (fL g fr) σ H Q) : tDA K W fr σ H fun xs H1 => rDL K W own g xs H1 Q := by
  obtain ⟨F, ρ, r, s, p⟩ := h
  refine tDA_run r s (fun e he => p.err (by unfold fL; rw [he]; rfl)) fun ds hd xs F1 H1 s1 q1 => ⟨F1, ds, s1.fh, q1, ?_⟩
  have e : fL g fr ρ = g ds := by unfold fL; rw [hd]; rfl
  rw [e] at p
  exact p.step s1
theorem rd_tup {fr : Env' → M (List Dat)} (h : tD K W own (fL mkTup fr) σ H Q) : tTup (tDA K W fr) σ H Q := by
  obtain ⟨F, ρ, r, s, p⟩ := rd_L h
  refine ⟨F, ρ, r, s, ?_⟩
  cases e : fr ρ with
  | error x => rw [e] at p; exact p
  | ok ds =>
    rw [e] at p
    intro vs F' H' t q
    obtain ⟨F1, es, s1, q1, z⟩ := p vs F' H' t q
    unfold mkTup at z
    by_cases hl : es.length ≤ sizeLine
    · rw [if_pos hl] at z
      refine ⟨by rw [q1.length]; exact hl, fun a ha => z (.ref a) _ _ (Step.lay s1 ha) ?_⟩
      have : Deep K (upd F1 a (.tup vs)) (.tup es) (.ref a) := ⟨a, vs, rfl, SqT.of upd_same, q1.mono (Same.upd (s1.free ha))⟩
      cases own with
      | true => exact this
      | false => exact this
    · rw [if_neg hl] at z
      exact (W.ns z).elim
theorem rd_lst {fr : Env' → M (List Dat)} (h : tD K W true (fL mkLst fr) σ H Q) : tLst (tDA K W fr) σ H Q := by
  obtain ⟨F, ρ, r, s, p⟩ := rd_L h
  refine ⟨F, ρ, r, s, ?_⟩
  cases e : fr ρ with
  | error x => rw [e] at p; exact p
  | ok ds =>
    rw [e] at p
    intro vs F' H' t q
    obtain ⟨F1, es, s1, q1, z⟩ := p vs F' H' t q
    unfold mkLst at z
    by_cases hl : es.length ≤ sizeLine
    · rw [if_pos hl] at z
      exact ⟨by rw [q1.length]; exact hl, fun a ha => z (.ref a) F1 _ (Step.grow s1 ha) ⟨a, vs, rfl, upd_same, s1.free ha, ha, q1⟩⟩
    · rw [if_neg hl] at z
      exact (W.ns z).elim
theorem tDT_mono {f : Env' → M Bool} {F F1 H1 : Hp} {ρ : Env'} {R : Bool → Hp → Prop} (r : RepE K F σ ρ) (s1 : Step F H F1 H1) (p : match f ρ with
  | .ok b => ∀ F' H', Step F H F' H' → R b H'
  | .error e => W.p e F H) : tDT K W f σ H1 R := by
  refine ⟨F1, ρ, r.mono s1.ff, s1.fh, ?_⟩
  cases e : f ρ with
  | ok b => rw [e] at p; exact fun F' H' t => p F' H' (s1.trans t)
  | error x => rw [e] at p; exact W.mono p s1
theorem rd_or {ft fu : Env' → M Bool} {R : Bool → Hp → Prop} (h : tDT K W (fOr ft fu) σ H R) : tOr (tDT K W ft) (tDT K W fu) σ H R := by
  obtain ⟨F, ρ, r, s, p⟩ := h
  refine tDT_run r s (fun e he => ?_) fun b hb F1 H1 s1 => ?_
  · have z : fOr ft fu ρ = .error e := by unfold fOr; rw [he]; rfl
    rw [z] at p; exact p
  · have z : fOr ft fu ρ = if b = true then .ok true else fu ρ := by unfold fOr; rw [hb]; rfl
    rw [z] at p
    cases b with
    | false => exact tDT_mono r s1 p
    | true => exact p F1 H1 s1
theorem rd_not {ft : Env' → M Bool} {R : Bool → Hp → Prop} (h : tDT K W (fNot ft) σ H R) : tNot (tDT K W ft) σ H R := by
  obtain ⟨F, ρ, r, s, p⟩ := h
  refine tDT_run r s (fun e he => ?_) fun b hb F1 H1 s1 => ?_
  · have z : fNot ft ρ = .error e := by unfold fNot; rw [he]; rfl
    rw [z] at p; exact p
  · have z : fNot ft ρ = .ok (!b) := by unfold fNot; rw [hb]; rfl
    rw [z] at p; exact p F1 H1 s1
theorem rd_B {R : Bool → Hp → Prop} (h : tDT K W (fB fa) σ H R) : tTest (tD K W false fa) σ H R := by
  obtain ⟨F, ρ, r, s, p⟩ := h
  refine tD_run r s (fun e he => ?_) fun a ha x F1 H1 s1 q1 => ?_
  · have z : fB fa ρ = .error e := by unfold fB; rw [he]; rfl
    rw [z] at p; exact p
  · have z : fB fa ρ = asB a := by unfold fB; rw [ha]; rfl
    rw [z] at p
    cases a with
    | bl b => exact ⟨b, q1, p F1 H1 s1⟩
    | _ => exact (W.ns p).elim
theorem tru_of {F H1 : Hp} {a : Dat} {x : V} {b : Bool} (s : Same F H1) (q : Deep K F a x) (h : truD a = .ok b) : TruV K x H1 b := by
  cases a with
  | non => rw [show x = .non from q]; exact (Except.ok.inj h).symm
  | bl c => rw [show x = .bl c from q]; exact (Except.ok.inj h).symm
  | int i => rw [show x = .int i from q]; exact (Except.ok.inj h).symm
  | str y =>
    rw [show x = .str y from q]
    have h' : (if y.length ≤ sizeLine then Except.ok ((y.length : Int) != 0) else Except.error Err.stuck) = Except.ok b := h
    by_cases hy : y.length ≤ sizeLine
    · rw [if_pos hy] at h'
      exact ⟨hy, (Except.ok.inj h').symm⟩
    · rw [if_neg hy] at h'
      cases h'
  | tup ds =>
    obtain ⟨p, xs, e, t, r⟩ := q
    subst e
    refine .inr (.inl ⟨xs, s.tup t, ?_⟩)
    rw [← Except.ok.inj h]
    cases ds with
    | nil => rw [show xs = [] from r]; rfl
    | cons d ds => obtain ⟨v, vs, e, _⟩ := r; rw [e]; rfl
  | lst ds =>
    obtain ⟨p, xs, e, t, r⟩ := q
    subst e
    refine .inl ⟨xs, s.lst t, ?_⟩
    rw [← Except.ok.inj h]
    cases ds with
    | nil => rw [show xs = [] from r]; rfl
    | cons d ds => obtain ⟨v, vs, e, _⟩ := r; rw [e]; rfl
  | ins C fs => cases h
  | dic ks => cases h
  | dil ks => cases h
theorem rd_tru {R : Bool → Hp → Prop} (h : tDT K W (fTru fa) σ H R) : tD K W false fa σ H fun x H1 => ∃ k, TruV K x H1 k ∧ R k H1 := by
  obtain ⟨F, ρ, r, s, p⟩ := h
  refine tD_run r s (fun e he => ?_) fun a ha x F1 H1 s1 q1 => ?_
  · have z : fTru fa ρ = .error e := by unfold fTru; rw [he]; rfl
    rw [z] at p; exact p
  · have z : fTru fa ρ = truD a := by unfold fTru; rw [ha]; rfl
    rw [z] at p
    cases e : truD a with
    | ok b => rw [e] at p; exact ⟨b, tru_of s1.fh q1 e, p F1 H1 s1⟩
    | error x =>
      rw [e] at p
      have : x = .stuck := by
        cases a with
        | str y =>
          have e' : (if y.length ≤ sizeLine then Except.ok ((y.length : Int) != 0) else Except.error Err.stuck) = Except.error x := e
          by_cases hy : y.length ≤ sizeLine
          · rw [if_pos hy] at e'
            cases e'
          · rw [if_neg hy] at e'
            cases e'
            rfl
        | ins C fs => cases e; rfl
        | dic ks => cases e; rfl
        | dil ks => cases e; rfl
        | _ => cases e
      subst this
      exact (W.ns p).elim
theorem rd_andV (h : tD K W false (fAndV fa fb) σ H Q) : tAndV (tD K W false fa) (tD K W false fb) σ H Q := by
  obtain ⟨F, ρ, r, s, p⟩ := h
  refine tD_run r s (fun e he => p.err (by unfold fAndV; rw [he]; rfl)) fun a ha x F1 H1 s1 q1 => ?_
  have z : fAndV fa fb ρ = (asB a).bind fun b => if b = true then fb ρ else .ok (.bl false) := by unfold fAndV; rw [ha]; rfl
  rw [z] at p
  cases a with
  | bl b =>
    refine ⟨b, q1, ?_⟩
    cases b with
    | true => exact ⟨F1, ρ, r.mono s1.ff, s1.fh, Post.step (own := false) (r := fb ρ) p s1⟩
    | false => exact p (.bl false) F1 H1 s1 rfl
  | _ => exact (W.ns p).elim
theorem rd_orV (h : tD K W false (fOrV fa fb) σ H Q) : tOrV (tD K W false fa) (tD K W false fb) σ H Q := by
  obtain ⟨F, ρ, r, s, p⟩ := h
  refine tD_run r s (fun e he => p.err (by unfold fOrV; rw [he]; rfl)) fun a ha x F1 H1 s1 q1 => ?_
  have z : fOrV fa fb ρ = (asB a).bind fun b => if b = true then .ok (.bl true) else fb ρ := by unfold fOrV; rw [ha]; rfl
  rw [z] at p
  cases a with
  | bl b =>
    refine ⟨b, q1, ?_⟩
    cases b with
    | false => exact ⟨F1, ρ, r.mono s1.ff, s1.fh, Post.step (own := false) (r := fb ρ) p s1⟩
    | true => exact p (.bl true) F1 H1 s1 rfl
  | _ => exact (W.ns p).elim
theorem rd_notV (h : tD K W false (f1 notD fa) σ H Q) : tNotV (tD K W false fa) σ H Q := by
  obtain ⟨F, ρ, r, s, p⟩ := h
  refine tD_run r s (fun e he => p.err (by unfold f1; rw [he]; rfl)) fun a ha x F1 H1 s1 q1 => ?_
  have z : f1 notD fa ρ = notD a := by unfold f1; rw [ha]; rfl
  rw [z] at p
  cases a with
  | bl b => exact ⟨b, q1, p (.bl (!b)) F1 H1 s1 rfl⟩
  | _ => exact (W.ns p).elim
theorem rd_chain {g g' : Dat → Dat → M Dat} (h : tD K W false (fChain g g' fa fb fc) σ H Q) : tChain (rD2 K W false g) (rD2 K W false g') (tD K W false fa) (tD K W false fb) (tD K W false fc) σ H Q := by
  obtain ⟨F, ρ, r, s, p⟩ := h
  refine tD_run r s (fun e he => p.err (by unfold fChain; rw [he]; rfl)) fun a ha x F1 H1 s1 q1 => ?_
  refine tD_run (r.mono s1.ff) s1.fh (fun e he => (p.step s1).err (by unfold fChain; rw [ha]; show (fb ρ).bind _ = _; rw [he]; rfl)) fun b hb y F2 H2 s2 q2 => ?_
  have z : fChain g g' fa fb fc ρ = (g a b).bind fun x => (asB x).bind fun k => if k = true then (fc ρ).bind fun c => g' b c else .ok (.bl false) := by unfold fChain; rw [ha]; show (fb ρ).bind _ = _; rw [hb]; rfl
  rw [z] at p
  refine ⟨F2, a, b, s2.fh, Deep.mono s2.ff q1, q2, ?_⟩
  have p2 := p.step (s1.trans s2)
  cases e : g a b with
  | error x => rw [e] at p2; exact p2
  | ok d =>
    rw [e] at p2
    intro v F3 H3 s3 q3
    have p3 : Post K W false F3 H3 ((asB d).bind fun k => if k = true then (fc ρ).bind fun c => g' b c else .ok (.bl false)) Q := Post.step p2 s3
    cases d with
    | bl k =>
      refine ⟨k, q3, ?_⟩
      cases k with
      | false => exact p3 (.bl false) F3 H3 (Step.refl s3.fh) rfl
      | true =>
        have p4 : Post K W false F3 H3 ((fc ρ).bind fun c => g' b c) Q := p3
        refine tD_run (r.mono (s1.trans (s2.trans s3)).ff) s3.fh (fun e he => p4.err (by rw [he]; rfl)) fun c hc w F4 H4 s4 q4 => ⟨F4, b, c, s4.fh, Deep.mono (s3.trans s4).ff q2, q4, ?_⟩
        rw [hc] at p4
        exact p4.step s4
    | _ => exact (W.ns p3).elim
end
inductive Pat where
  | nm (i : Nat) | tp (is : List Nat)
noncomputable def setAll : List Nat → List Dat → Env' → Env'
  | i :: is, d :: ds, ρ => setAll is ds (ρ.set i (some d))
  | _, _, ρ => ρ
noncomputable def bindP : Pat → Dat → Env' → M Env'
  | .nm i, d, ρ => .ok (ρ.set i (some d))
  | .tp is, .tup ds, ρ => if ds.length = is.length then .ok (setAll is ds ρ) else .error .stuck
  | .tp _, _, _ => .error .stuck
noncomputable def gNames : List Nat → TGs
  | [] => gNil
  | i :: is => gCons (gName i) (gNames is)
noncomputable def gP (K : PySem.W.Frag) : Pat → TG
  | .nm i => gName i
  | .tp is => gTup K is.length (gNames is)
theorem gNames_run {K : PySem.W.Frag} {F H : Hp} {R : St → Hp → Prop} : ∀ {is : List Nat} {ds : List Dat} {vs : List V} {σ : St} {ρ : Env'}, RepE K F σ ρ → Deeps K F ds vs → ds.length = is.length → (∀ σ', RepE K F σ' (setAll is ds ρ) → R σ' H) → gNames is vs σ H R
  | [], [], _, σ, ρ, r, q, _, h => ⟨q, h σ r⟩
  | [], _ :: _, _, _, _, _, _, e, _ => by simp at e
  | _ :: _, [], _, _, _, _, _, e, _ => by simp at e
  | i :: is, d :: ds, _, σ, ρ, r, ⟨v, vs, e, q, t⟩, l, h => ⟨v, vs, e, gNames_run (r.set q i) t (by simpa using l) h⟩
theorem gP_run {K : PySem.W.Frag} {F H : Hp} {R : St → Hp → Prop} {p : Pat} {d : Dat} {v : V} {σ : St} {ρ ρ' : Env'} (r : RepE K F σ ρ) (s : Same F H) (q : Deep K F d v) (e : bindP p d ρ = .ok ρ') (h : ∀ σ', RepE K F σ' ρ' → R σ' H) : gP K p v σ H R := by
  cases p with
  | nm i =>
    have := Except.ok.inj e
    subst this
    exact h _ (r.set q i)
  | tp is =>
    cases d with
    | tup ds =>
      have e' : (if ds.length = is.length then Except.ok (setAll is ds ρ) else Except.error Err.stuck) = Except.ok ρ' := e
      by_cases hl : ds.length = is.length
      · rw [if_pos hl] at e'
        have := Except.ok.inj e'
        subst this
        obtain ⟨a, xs, ev, t, z⟩ := q
        exact ⟨a, xs, ev, s.tup t, by rw [z.length, hl], gNames_run r z hl h⟩
      · rw [if_neg hl] at e'
        cases e'
    | _ => cases e
theorem bindP_err {p : Pat} {d : Dat} {ρ : Env'} {e : Err} (h : bindP p d ρ = .error e) : e = .stuck := by
  cases p with
  | nm i => cases h
  | tp is =>
    cases d with
    | tup ds =>
      have e' : (if ds.length = is.length then Except.ok (setAll is ds ρ) else Except.error Err.stuck) = Except.error e := h
      by_cases hl : ds.length = is.length
      · rw [if_pos hl] at e'; cases e'
      · rw [if_neg hl] at e'; cases e'; rfl
    | _ => cases h; rfl
structure IterD (K : PySem.W.Frag) (F1 : Hp) (J : It) (ds : List Dat) : Prop where
  go : ∀ (i : Nat) (F H : Hp), Same F1 F → Same F H → i < ds.length → J.go i H
  yl : ∀ (i : Nat) (F H : Hp) (x : V) (H' : Hp) (d : Dat), Same F1 F → Same F H → ds[i]? = some d → J.yld i H x H' → ∃ F', Step F H F' H' ∧ Deep K F' d x
  st : ∀ (F H : Hp), Same F1 F → Same F H → J.stop ds.length H
noncomputable def iD (K : PySem.W.Frag) (W : Wish) (f : Env' → M (List Dat)) : TI := fun σ H R => ∃ F ρ, RepE K F σ ρ ∧ Same F H ∧ (match f ρ with
  | .ok ds => ∀ J F1 H1, Step F H F1 H1 → IterD K F1 J ds → R J H1
  | .error e => W.p e F H)
noncomputable def itemsD : Dat → M (List Dat)
  | .lst ds => .ok ds
  | .tup ds => .ok ds
  | _ => .error .stuck
noncomputable def fIt (fa : Env' → M Dat) : Env' → M (List Dat) := fun ρ => (fa ρ).bind itemsD
noncomputable def iSeq (K : PySem.W.Frag) (tl : TE) : TI := fun σ H R => tl σ H fun x H1 => ∃ a, x = .ref a ∧ ((∃ xs, SqL K H1 a xs) ∧ R (Itl K a) H1 ∨ (∃ xs, SqT K H1 a xs) ∧ R (Itt K a) H1)
theorem iter_list {K : PySem.W.Frag} {F : Hp} {a : Addr} {xs : List V} {ds : List Dat} (t : SqL K F a xs) (z : Deeps K F ds xs) : IterD K F (Itl K a) ds where
  go := fun i F' H' s1 s2 hi => ⟨xs, xs[i]'(by rw [z.length]; exact hi), s2.lst (s1.lst t), by simp [z.length, hi]⟩
  yl := fun i F' H' x H2 d s1 s2 hd hy => by
    obtain ⟨e, hy⟩ := hy
    subst e
    obtain ⟨v, e1, q⟩ := z.get hd
    have e2 := hy xs (s2.lst (s1.lst t))
    rw [e1] at e2
    cases e2
    exact ⟨F', Step.refl s2, q.mono s1⟩
  st := fun F' H' s1 s2 => ⟨xs, s2.lst (s1.lst t), by rw [z.length]; exact Nat.le_refl _⟩
theorem iter_tup {K : PySem.W.Frag} {F : Hp} {a : Addr} {xs : List V} {ds : List Dat} (t : SqT K F a xs) (z : Deeps K F ds xs) : IterD K F (Itt K a) ds where
  go := fun i F' H' s1 s2 hi => ⟨xs, xs[i]'(by rw [z.length]; exact hi), s2.tup (s1.tup t), by simp [z.length, hi]⟩
  yl := fun i F' H' x H2 d s1 s2 hd hy => by
    obtain ⟨e, hy⟩ := hy
    subst e
    obtain ⟨v, e1, q⟩ := z.get hd
    have e2 := hy xs (s2.tup (s1.tup t))
    rw [e1] at e2
    cases e2
    exact ⟨F', Step.refl s2, q.mono s1⟩
  st := fun F' H' s1 s2 => ⟨xs, s2.tup (s1.tup t), by rw [z.length]; exact Nat.le_refl _⟩
noncomputable def rangeL (lo : Int) (n : Nat) : List Dat := (List.range n).map fun k : Nat => Dat.int (lo + k)
theorem iter_range {K : PySem.W.Frag} {F : Hp} {lo : Int} {n : Nat} : IterD K F (Itr lo n) (rangeL lo n) where
  go := fun i F' H' s1 s2 hi => by show i < n; simpa [rangeL] using hi
  yl := fun i F' H' x H2 d s1 s2 hd hy => by
    obtain ⟨e, hy⟩ := hy
    subst e hy
    unfold rangeL at hd
    rw [List.getElem?_map] at hd
    have hi : i < n := by
      have := (List.getElem?_eq_some_iff.mp (show ((List.range n).map fun k : Nat => Dat.int (lo + k))[i]? = some d by rw [List.getElem?_map]; exact hd)).1
      simpa using this
    rw [List.getElem?_range hi] at hd
    cases hd
    exact ⟨F', Step.refl s2, rfl⟩
  st := fun F' H' s1 s2 => by show n ≤ _; simp [rangeL]
noncomputable def small62 (i : Int) : Bool := decide (-(2 ^ 62) ≤ i) && decide (i < 2 ^ 62)
noncomputable def rng1 : List Dat → M (List Dat)
  | [.int j] => if small62 j = true then .ok (rangeL 0 j.toNat) else .error .stuck
  | _ => .error .stuck
noncomputable def fRng (g : List Dat → M (List Dat)) (fr : Env' → M (List Dat)) : Env' → M (List Dat) := fun ρ => (fr ρ).bind g
section
variable {K : PySem.W.Frag} {W : Wish} {own : Bool} {σ : St} {H : Hp} {Q : VK} {fa fb fc : Env' → M Dat}
theorem ri_seq {R : It → Hp → Prop} (h : iD K W (fIt fa) σ H R) : iSeq K (tD K W false fa) σ H R := by
  obtain ⟨F, ρ, r, s, p⟩ := h
  refine tD_run r s (fun e he => ?_) fun a ha x F1 H1 s1 q1 => ?_
  · have z : fIt fa ρ = .error e := by unfold fIt; rw [he]; rfl
    rw [z] at p; exact p
  · have z : fIt fa ρ = itemsD a := by unfold fIt; rw [ha]; rfl
    rw [z] at p
    cases a with
    | lst ds =>
      obtain ⟨b, xs, e, t, z⟩ := q1
      exact ⟨b, e, .inl ⟨⟨xs, s1.fh.lst t⟩, p _ F1 H1 s1 (iter_list t z)⟩⟩
    | tup ds =>
      obtain ⟨b, xs, e, t, z⟩ := q1
      exact ⟨b, e, .inr ⟨⟨xs, s1.fh.tup t⟩, p _ F1 H1 s1 (iter_tup t z)⟩⟩
    | _ => exact (W.ns p).elim
theorem ri_rng1 {fr : Env' → M (List Dat)} {R : It → Hp → Prop} (h : iD K W (fRng rng1 fr) σ H R) : iRng1 (tDA K W fr) σ H R := by
  obtain ⟨F, ρ, r, s, p⟩ := h
  refine tDA_run r s (fun e he => ?_) fun ds hd xs F1 H1 s1 q1 => ?_
  · have z : fRng rng1 fr ρ = .error e := by unfold fRng; rw [he]; rfl
    rw [z] at p; exact p
  · have z : fRng rng1 fr ρ = rng1 ds := by unfold fRng; rw [hd]; rfl
    rw [z] at p
    match ds, q1, p with
    | [.int j], ⟨v, vs, e, q, t⟩, p =>
      have p' : match (if small62 j = true then Except.ok (rangeL 0 j.toNat) else Except.error Err.stuck : M (List Dat)) with
        | .ok ds => ∀ J F1 H1, Step F H F1 H1 → IterD K F1 J ds → R J H1
        | .error e => W.p e F H := p
      by_cases hj : small62 j = true
      · rw [if_pos hj] at p'
        unfold small62 at hj
        simp only [Bool.and_eq_true, decide_eq_true_eq] at hj
        exact ⟨j, by rw [e, show v = .int j from q, show vs = [] from t], hj.1, hj.2, p' _ F1 H1 s1 iter_range⟩
      · rw [if_neg hj] at p'
        exact (W.ns p').elim
    | [], _, p => exact (W.ns p).elim
    | .non :: _, _, p => exact (W.ns p).elim
    | .bl _ :: _, _, p => exact (W.ns p).elim
    | .str _ :: _, _, p => exact (W.ns p).elim
    | .tup _ :: _, _, p => exact (W.ns p).elim
    | .lst _ :: _, _, p => exact (W.ns p).elim
    | .ins _ _ :: _, _, p => exact (W.ns p).elim
    | .dic _ :: _, _, p => exact (W.ns p).elim
    | .dil _ :: _, _, p => exact (W.ns p).elim
    | .int _ :: _ :: _, _, p => exact (W.ns p).elim
noncomputable def inSE (ix : List (Option Nat)) (ρ : Env') : Env' := ix.map fun o => match o with
  | none => none
  | some j => (ρ[j]?).join
noncomputable def compD (p : Pat) (ft : Env' → M Bool) (fe : Env' → M Dat) (ρ0 : Env') : List Dat → M (List Dat)
  | [] => .ok []
  | d :: ds => (bindP p d ρ0).bind fun ρ => (ft ρ).bind fun b => if b = true then (fe ρ).bind fun y => (compD p ft fe ρ0 ds).bind fun r => .ok (y :: r) else compD p ft fe ρ0 ds
noncomputable def fComp (fi : Env' → M (List Dat)) (ix : List (Option Nat)) (p : Pat) (ft : Env' → M Bool) (fe : Env' → M Dat) : Env' → M Dat := fun ρ => (fi ρ).bind fun ds => if ds.length ≤ sizeLine then (compD p ft fe (inSE ix ρ) ds).bind fun r => .ok (.lst r) else .error .stuck
noncomputable def fYes : Env' → M Bool := fun _ => .ok true
theorem RepE.inS {F : Hp} {ρ : Env'} (r : RepE K F σ ρ) (ix : List (Option Nat)) : RepE K F (L2.inS ix σ) (inSE ix ρ) :=
  ⟨by simp [L2.inS, inSE], fun i d e => by
    unfold inSE at e
    unfold L2.inS
    rw [List.getElem?_map] at e ⊢
    cases h : ix[i]? with
    | none => rw [h] at e; cases e
    | some o =>
      rw [h] at e
      cases o with
      | none => cases e
      | some j =>
        simp only [Option.map_some, Option.some.injEq] at e ⊢
        have e1 : ρ[j]? = some (some d) := by
          cases z : ρ[j]? with
          | none => rw [z] at e; cases e
          | some w => rw [z] at e; simp at e; rw [e]
        obtain ⟨v, h1, h2⟩ := r.sl j d e1
        exact ⟨v, by rw [h1]; rfl, h2⟩⟩
theorem rd_comp {fi : Env' → M (List Dat)} {ix : List (Option Nat)} {p : Pat} {ft : Env' → M Bool} {fe : Env' → M Dat} (h : tD K W true (fComp fi ix p ft fe) σ H Q) :
    tComp (iD K W fi) ix (gP K p) (tDT K W ft) (tD K W false fe) σ H Q := by
  obtain ⟨F, ρ, r, s, q⟩ := h
  refine ⟨F, ρ, r, s, ?_⟩
  cases hf : fi ρ with
  | error e => exact q.err (by unfold fComp; rw [hf]; rfl)
  | ok ds =>
    intro J F1 H1 s1 it
    have e0 : fComp fi ix p ft fe ρ = if ds.length ≤ sizeLine then (compD p ft fe (inSE ix ρ) ds).bind fun r => .ok (.lst r) else .error .stuck := by unfold fComp; rw [hf]; rfl
    rw [e0] at q
    by_cases hl : ds.length ≤ sizeLine
    · rw [if_pos hl] at q
      refine ⟨fun i m ys H2 => m = ds.length - i ∧ i ≤ ds.length ∧ ∃ F2 yd, Step F1 H1 F2 H2 ∧ Deeps K F2 yd ys ∧ yd.length ≤ i ∧
        (match compD p ft fe (inSE ix ρ) (ds.drop i) with
          | .ok rr => compD p ft fe (inSE ix ρ) ds = .ok (yd ++ rr)
          | .error e => W.p e F H), ⟨ds.length, by omega, Nat.zero_le _, F1, [], Step.refl s1.fh, rfl, Nat.zero_le _, ?_⟩, ?_⟩
      · rw [List.drop_zero]
        cases e : compD p ft fe (inSE ix ρ) ds with
        | ok rr => rfl
        | error x => exact q.err (by rw [e]; rfl)
      · rintro i m ys H2 ⟨rfl, hi, F2, yd, s2, dy, ly, hc⟩
        have lys : ys.length ≤ sizeLine := by rw [dy.length]; omega
        by_cases hlt : i < ds.length
        · have ed : ds.drop i = ds[i] :: ds.drop (i + 1) := List.drop_eq_getElem_cons hlt
          rw [ed] at hc
          refine .inr ⟨it.go i F2 H2 s2.ff s2.fh hlt, lys, fun ys' H' => (i + 1 ≤ ds.length ∧ ∃ F2 yd, Step F1 H1 F2 H' ∧ Deeps K F2 yd ys' ∧ yd.length ≤ i + 1 ∧
            (match compD p ft fe (inSE ix ρ) (ds.drop (i + 1)) with
              | .ok rr => compD p ft fe (inSE ix ρ) ds = .ok (yd ++ rr)
              | .error e => W.p e F H)), fun ys' H' n => ⟨ds.length - (i + 1), by omega, rfl, n⟩, fun x H' y => ?_⟩
          obtain ⟨F3, s3, q3⟩ := it.yl i F2 H2 x H' ds[i] s2.ff s2.fh (by simp [hlt]) y
          have r3 : RepE K F3 (L2.inS ix σ) (inSE ix ρ) := (r.mono (s1.trans (s2.trans s3)).ff).inS ix
          have st3 : Step F H F3 H' := s1.trans (s2.trans s3)
          have ec : compD p ft fe (inSE ix ρ) (ds[i] :: ds.drop (i + 1)) = (bindP p ds[i] (inSE ix ρ)).bind fun ρ1 => (ft ρ1).bind fun b => if b = true then (fe ρ1).bind fun y => (compD p ft fe (inSE ix ρ) (ds.drop (i + 1))).bind fun r => .ok (y :: r) else compD p ft fe (inSE ix ρ) (ds.drop (i + 1)) := by rw [compD]
          rw [ec] at hc
          cases hb : bindP p ds[i] (inSE ix ρ) with
          | error e =>
            rw [hb] at hc
            have := bindP_err hb
            subst this
            exact (W.ns hc).elim
          | ok ρ1 =>
            rw [hb] at hc
            refine gP_run r3 s3.fh q3 hb fun σ2 r4 => ?_
            have hc1 : match ((ft ρ1).bind fun b => if b = true then (fe ρ1).bind fun y => (compD p ft fe (inSE ix ρ) (ds.drop (i + 1))).bind fun r => .ok (y :: r) else compD p ft fe (inSE ix ρ) (ds.drop (i + 1))) with
              | .ok rr => compD p ft fe (inSE ix ρ) ds = .ok (yd ++ rr)
              | .error e => W.p e F H := hc
            refine tDT_run r4 s3.fh (fun e he => by rw [he] at hc1; exact W.mono hc1 st3) fun b hb2 F5 H5 s5 => ?_
            rw [hb2] at hc1
            cases b with
            | false =>
              have hc2 : match compD p ft fe (inSE ix ρ) (ds.drop (i + 1)) with
                | .ok rr => compD p ft fe (inSE ix ρ) ds = .ok (yd ++ rr)
                | .error e => W.p e F H := hc1
              exact ⟨hlt, F5, yd, s2.trans (s3.trans s5), dy.mono (s3.trans s5).ff, by omega, hc2⟩
            | true =>
              have hc2 : match ((fe ρ1).bind fun y => (compD p ft fe (inSE ix ρ) (ds.drop (i + 1))).bind fun r => .ok (y :: r)) with
                | .ok rr => compD p ft fe (inSE ix ρ) ds = .ok (yd ++ rr)
                | .error e => W.p e F H := hc1
              refine tD_run (r4.mono s5.ff) s5.fh (fun e he => by rw [he] at hc2; exact W.mono hc2 (st3.trans s5)) fun d hd v F6 H6 s6 q6 => ?_
              rw [hd] at hc2
              refine ⟨hlt, F6, yd ++ [d], s2.trans (s3.trans (s5.trans s6)), Deeps.append (dy.mono (s3.trans (s5.trans s6)).ff) ⟨v, [], rfl, q6, rfl⟩, by simp; omega, ?_⟩
              have hc3 : match ((compD p ft fe (inSE ix ρ) (ds.drop (i + 1))).bind fun r => .ok (d :: r) : M (List Dat)) with
                | .ok rr => compD p ft fe (inSE ix ρ) ds = .ok (yd ++ rr)
                | .error e => W.p e F H := hc2
              cases e7 : compD p ft fe (inSE ix ρ) (ds.drop (i + 1)) with
              | ok rr =>
                rw [e7] at hc3
                show _ = Except.ok ((yd ++ [d]) ++ rr)
                rw [List.append_assoc]
                exact hc3
              | error x => rw [e7] at hc3; exact hc3
        · have : i = ds.length := by omega
          subst this
          rw [List.drop_length] at hc
          have hc' : compD p ft fe (inSE ix ρ) ds = .ok (yd ++ []) := hc
          rw [List.append_nil] at hc'
          rw [hc'] at q
          refine .inl ⟨it.st F2 H2 s2.ff s2.fh, lys, fun a ha => ?_⟩
          have st : Step F H F2 H2 := s1.trans s2
          exact q (.ref a) F2 _ (st.trans (Step.grow s2.fh ha)) ⟨a, ys, rfl, upd_same, s2.fh.free ha, st.hh.free ha, dy⟩
    · rw [if_neg hl] at q
      exact (W.ns q).elim
end
inductive Flo where
  | nx (ρ : Env') | rt (d : Dat) | bk (ρ : Env') | ct (ρ : Env')
structure Rep (K : PySem.W.Frag) (F0 H0 FB : Hp) (O : List Nat) (F H : Hp) (σ : St) (ρ : Env') : Prop where
  st : Step F0 H0 F H
  fb : Same FB F
  len : ρ.length = σ.length
  fz : ∀ (i : Nat) (d : Dat), ρ[i]? = some (some d) → i ∉ O → ∃ v, σ[i]? = some (some v) ∧ Deep K F d v
  ow : ∀ (i : Nat) (d : Dat), ρ[i]? = some (some d) → i ∈ O → ∃ v, σ[i]? = some (some v) ∧ OwnD K F H0 H d v
  ap : ∀ (i j : Nat) (d e : Dat) (a : Addr), i ∈ O → j ∈ O → (ρ[i]? = some (some d) ∧ isO d = true) → (ρ[j]? = some (some e) ∧ isO e = true) → σ[i]? = some (some (.ref a)) → σ[j]? = some (some (.ref a)) → i = j
noncomputable def Own' (O O2 : List Nat) (σ : St) (ρ : Env') (b : Addr) : Prop := ∃ (i : Nat) (d : Dat), i ∈ O ∧ i ∉ O2 ∧ isO d = true ∧ ρ[i]? = some (some d) ∧ σ[i]? = some (some (.ref b))
open Classical in
noncomputable def plus (F H : Hp) (A : Addr → Prop) : Hp := fun b => if A b then H b else F b
open Classical in
noncomputable def minus (F : Hp) (A : Addr → Prop) : Hp := fun b => if A b then none else F b
theorem plus_in {F H : Hp} {A : Addr → Prop} {b : Addr} (h : A b) : plus F H A b = H b := by unfold plus; rw [if_pos h]
theorem plus_out {F H : Hp} {A : Addr → Prop} {b : Addr} (h : ¬ A b) : plus F H A b = F b := by unfold plus; rw [if_neg h]
theorem minus_in {F : Hp} {A : Addr → Prop} {b : Addr} (h : A b) : minus F A b = none := by unfold minus; rw [if_pos h]
theorem minus_out {F : Hp} {A : Addr → Prop} {b : Addr} (h : ¬ A b) : minus F A b = F b := by unfold minus; rw [if_neg h]
section
variable {K : PySem.W.Frag} {F0 H0 FB F H : Hp} {O O2 : List Nat} {σ : St} {ρ : Env'}
theorem Rep.own (r : Rep K F0 H0 FB O F H σ ρ) {b : Addr} (h : Own' O O2 σ ρ b) : F b = none ∧ H0 b = none ∧ ∃ o, H b = some o ∧ isMu o = true := by
  obtain ⟨i, d, hi, _, hd, e1, e2⟩ := h
  obtain ⟨v, e3, q⟩ := r.ow i _ e1 hi
  rw [e2] at e3
  cases e3
  obtain ⟨a, o, e, p, m, f, z⟩ := q.top hd
  cases e
  exact ⟨f, z, o, p, m⟩
theorem Rep.plus_ff (r : Rep K F0 H0 FB O F H σ ρ) : Same F (plus F H (Own' O O2 σ ρ)) := fun b o h => by
  by_cases hb : Own' O O2 σ ρ b
  · rw [(r.own hb).1] at h; cases h
  · rw [plus_out hb]; exact h
theorem Rep.plus_fh (r : Rep K F0 H0 FB O F H σ ρ) : Same (plus F H (Own' O O2 σ ρ)) H := fun b o h => by
  by_cases hb : Own' O O2 σ ρ b
  · rw [plus_in hb] at h; exact h
  · rw [plus_out hb] at h; exact r.st.fh b o h
theorem Rep.freeze (r : Rep K F0 H0 FB O F H σ ρ) (hs : ∀ i ∈ O2, i ∈ O) : Rep K F0 H0 FB O2 (plus F H (Own' O O2 σ ρ)) H σ ρ where
  st := ⟨r.st.ff.trans r.plus_ff, r.st.hh, r.plus_fh, fun b o h => by
    by_cases hb : Own' O O2 σ ρ b
    · exact .inr (r.own hb).2.1
    · rw [plus_out hb] at h; exact r.st.nw b o h⟩
  fb := r.fb.trans r.plus_ff
  len := r.len
  fz := fun i d e hi => by
    by_cases ho : i ∈ O
    · obtain ⟨v, e3, q⟩ := r.ow i d e ho
      refine ⟨v, e3, ?_⟩
      cases hd : isO d with
      | true =>
        obtain ⟨a, _, ev, _⟩ := q.top hd
        subst ev
        exact q.give hd r.plus_ff (plus_in ⟨i, d, ho, hi, hd, e, e3⟩)
      | false => rw [OwnD.non hd] at q; exact q.mono r.plus_ff
    · obtain ⟨v, e3, q⟩ := r.fz i d e ho
      exact ⟨v, e3, q.mono r.plus_ff⟩
  ow := fun i d e hi => by
    obtain ⟨v, e3, q⟩ := r.ow i d e (hs i hi)
    refine ⟨v, e3, ?_⟩
    cases hd : isO d with
    | true =>
      obtain ⟨a, o, ev, p, _, f, z⟩ := q.top hd
      subst ev
      refine q.re hd r.plus_ff ?_ fun _ h => h
      have : ¬ Own' O O2 σ ρ a := fun ⟨j, d', hj, hj2, hd', f1, f2⟩ => by
        have := r.ap i j d d' a (hs i hi) hj ⟨e, hd⟩ ⟨f1, hd'⟩ e3 f2
        subst this
        exact hj2 hi
      rw [plus_out this]
      exact f
    | false => rw [OwnD.non hd] at q ⊢; exact q.mono r.plus_ff
  ap := fun i j d e a hi hj => r.ap i j d e a (hs i hi) (hs j hj)
theorem Rep.repE (r : Rep K F0 H0 FB [] F H σ ρ) : RepE K F σ ρ := ⟨r.len, fun i d e => r.fz i d e (by simp)⟩
theorem Rep.repAll (r : Rep K F0 H0 FB O F H σ ρ) : RepE K (plus F H (Own' O [] σ ρ)) σ ρ := (r.freeze (O2 := []) (by simp)).repE
noncomputable def erase : List Nat → Env' → Env'
  | [], ρ => ρ
  | i :: is, ρ => erase is (ρ.set i none)
theorem erase_len : ∀ (O : List Nat) (ρ : Env'), (erase O ρ).length = ρ.length
  | [], _ => rfl
  | i :: is, ρ => by rw [erase, erase_len, List.length_set]
theorem erase_get : ∀ (O : List Nat) (ρ : Env') (i : Nat) (d : Dat), (erase O ρ)[i]? = some (some d) → ρ[i]? = some (some d) ∧ i ∉ O
  | [], _, _, _, h => ⟨h, by simp⟩
  | j :: is, ρ, i, d, h => by
    obtain ⟨h1, h2⟩ := erase_get is (ρ.set j none) i d h
    by_cases e : j = i
    · subst e
      have hj : j < ρ.length := by
        have := (List.getElem?_eq_some_iff.mp h1).1
        simpa using this
      rw [List.getElem?_set_self hj] at h1
      cases h1
    · rw [List.getElem?_set_ne e] at h1
      exact ⟨h1, by simp [h2]; omega⟩
theorem Rep.repErase (r : Rep K F0 H0 FB O F H σ ρ) : RepE K F σ (erase O ρ) :=
  ⟨by rw [erase_len, r.len], fun i d e => let ⟨h1, h2⟩ := erase_get O ρ i d e; r.fz i d h1 h2⟩
theorem Rep.step {F1 H1 : Hp} (r : Rep K F0 H0 FB O F H σ ρ) (s : Step F H F1 H1) : Rep K F0 H0 FB O F1 H1 σ ρ where
  st := r.st.trans s
  fb := r.fb.trans s.ff
  len := r.len
  fz := fun i d e hi => let ⟨v, e3, q⟩ := r.fz i d e hi; ⟨v, e3, q.mono s.ff⟩
  ow := fun i d e hi => by
    obtain ⟨v, e3, q⟩ := r.ow i d e hi
    refine ⟨v, e3, ?_⟩
    cases hd : isO d with
    | true =>
      obtain ⟨a, u, ev, p, _, f, z⟩ := q.top hd
      subst ev
      refine q.re hd s.ff ?_ (s.hh a)
      cases e1 : F1 a with
      | none => rfl
      | some o =>
        rcases s.nw a o e1 with h | h
        · rw [f] at h; cases h
        · rw [p] at h; cases h
    | false => rw [OwnD.non hd] at q ⊢; exact q.mono s.ff
  ap := r.ap
theorem Rep.stepAll {F1 H1 : Hp} (r : Rep K F0 H0 FB O F H σ ρ) (s : Step (plus F H (Own' O [] σ ρ)) H F1 H1) : Rep K F0 H0 FB O (minus F1 (Own' O [] σ ρ)) H1 σ ρ := by
  refine r.step ⟨fun b o h => ?_, s.hh, fun b o h => ?_, fun b o h => ?_⟩
  · by_cases hb : Own' O [] σ ρ b
    · rw [(r.own hb).1] at h; cases h
    · rw [minus_out hb]; exact s.ff b o (by rw [plus_out hb]; exact h)
  · by_cases hb : Own' O [] σ ρ b
    · rw [minus_in hb] at h; cases h
    · rw [minus_out hb] at h; exact s.fh b o h
  · by_cases hb : Own' O [] σ ρ b
    · rw [minus_in hb] at h; cases h
    · rw [minus_out hb] at h
      rcases s.nw b o h with z | z
      · rw [plus_out hb] at z; exact .inl z
      · exact .inr z
theorem Rep.set {d : Dat} {v : V} (r : Rep K F0 H0 FB O F H σ ρ) (q : Deep K F d v) (i : Nat) : Rep K F0 H0 FB (O.filter (· != i)) F H (σ.set i (some v)) (ρ.set i (some d)) where
  st := r.st
  fb := r.fb
  len := by rw [List.length_set, List.length_set, r.len]
  fz := fun j e h hj => by
    by_cases hij : i = j
    · subst hij
      have hi : i < ρ.length := by
        have := (List.getElem?_eq_some_iff.mp h).1
        simpa using this
      rw [List.getElem?_set_self hi] at h
      cases h
      exact ⟨v, by rw [List.getElem?_set_self (by rw [← r.len]; exact hi)], q⟩
    · rw [List.getElem?_set_ne hij] at h
      rw [List.getElem?_set_ne hij]
      exact r.fz j e h fun z => hj (List.mem_filter.mpr ⟨z, by simpa using Ne.symm hij⟩)
  ow := fun j e h hj => by
    obtain ⟨h1, h2⟩ := List.mem_filter.mp hj
    have hij : i ≠ j := fun z => by simp [z] at h2
    rw [List.getElem?_set_ne hij] at h ⊢
    exact r.ow j e h h1
  ap := fun j k ds es a hj hk e1 e2 e3 e4 => by
    obtain ⟨j1, j2⟩ := List.mem_filter.mp hj
    obtain ⟨k1, k2⟩ := List.mem_filter.mp hk
    have hij : i ≠ j := fun z => by simp [z] at j2
    have hik : i ≠ k := fun z => by simp [z] at k2
    rw [List.getElem?_set_ne hij] at e1 e3
    rw [List.getElem?_set_ne hik] at e2 e4
    exact r.ap j k ds es a j1 k1 e1 e2 e3 e4
theorem Rep.setOwn {d : Dat} {v : V} (r : Rep K F0 H0 FB O F H σ ρ) (q : OwnD K F H0 H d v) (nw : ∀ a, v = .ref a → isO d = true → ¬ Own' O [i] σ ρ a) : Rep K F0 H0 FB (i :: O.filter (· != i)) F H (σ.set i (some v)) (ρ.set i (some d)) where
  st := r.st
  fb := r.fb
  len := by rw [List.length_set, List.length_set, r.len]
  fz := fun j e h hj => by
    simp only [List.mem_cons, not_or] at hj
    have hij : i ≠ j := fun z => hj.1 z.symm
    rw [List.getElem?_set_ne hij] at h ⊢
    exact r.fz j e h fun z => hj.2 (List.mem_filter.mpr ⟨z, by simpa using Ne.symm hij⟩)
  ow := fun j e h hj => by
    by_cases hij : i = j
    · subst hij
      have hi : i < ρ.length := by
        have := (List.getElem?_eq_some_iff.mp h).1
        simpa using this
      rw [List.getElem?_set_self hi] at h
      cases h
      exact ⟨v, by rw [List.getElem?_set_self (by rw [← r.len]; exact hi)], q⟩
    · rw [List.getElem?_set_ne hij] at h ⊢
      rcases List.mem_cons.mp hj with z | z
      · exact absurd z.symm hij
      · exact r.ow j e h (List.mem_filter.mp z).1
  ap := fun j k ds es a hj hk e1 e2 e3 e4 => by
    have key : ∀ {k' : Nat} {ds' es' : Dat}, k' ∈ O → k' ≠ i → ((ρ.set i (some d))[i]? = some (some ds') ∧ isO ds' = true) → ((ρ.set i (some d))[k']? = some (some es') ∧ isO es' = true) → (σ.set i (some v))[i]? = some (some (.ref a)) → (σ.set i (some v))[k']? = some (some (.ref a)) → False := by
      intro k' ds' es' hk' hne f1 f2 f3 f4
      have hi : i < ρ.length := by
        have := (List.getElem?_eq_some_iff.mp f1.1).1
        simpa using this
      rw [List.getElem?_set_self hi] at f1
      rw [List.getElem?_set_self (by rw [← r.len]; exact hi)] at f3
      rw [List.getElem?_set_ne (Ne.symm hne)] at f2 f4
      have z1 : v = .ref a := by simpa using f3
      have z2 : d = ds' := by simpa using f1.1
      exact nw a z1 (z2 ▸ f1.2) ⟨k', es', hk', by simpa using hne, f2.2, f2.1, f4⟩
    rcases List.mem_cons.mp hj with zj | zj
    · rcases List.mem_cons.mp hk with zk | zk
      · rw [zj, zk]
      · obtain ⟨k1, k2⟩ := List.mem_filter.mp zk
        subst zj
        exact (key k1 (by simpa using k2) e1 e2 e3 e4).elim
    · obtain ⟨j1, j2⟩ := List.mem_filter.mp zj
      have hij : i ≠ j := fun z => by simp [z] at j2
      rcases List.mem_cons.mp hk with zk | zk
      · subst zk
        exact (key j1 (Ne.symm hij) e2 e1 e4 e3).elim
      · obtain ⟨k1, k2⟩ := List.mem_filter.mp zk
        have hik : i ≠ k := fun z => by simp [z] at k2
        rw [List.getElem?_set_ne hij] at e1 e3
        rw [List.getElem?_set_ne hik] at e2 e4
        exact r.ap j k ds es a j1 k1 e1 e2 e3 e4
end
section
variable {K : PySem.W.Frag} {F0 H0 FB F H : Hp} {O O2 : List Nat} {σ : St} {ρ : Env'}
theorem filter_out {i : Nat} {O : List Nat} (h : i ∉ O) : O.filter (· != i) = O := by
  rw [List.filter_eq_self]
  intro a ha
  simp
  intro e
  exact h (e ▸ ha)
theorem Rep.set' {d : Dat} {v : V} (r : Rep K F0 H0 FB O F H σ ρ) (q : Deep K F d v) {i : Nat} (hi : i ∉ O) : Rep K F0 H0 FB O F H (σ.set i (some v)) (ρ.set i (some d)) := by
  have := r.set q i
  rw [filter_out hi] at this
  exact this
theorem Rep.base {FB' : Hp} (r : Rep K F0 H0 FB O F H σ ρ) (s : Same FB' FB) : Rep K F0 H0 FB' O F H σ ρ := ⟨r.st, s.trans r.fb, r.len, r.fz, r.ow, r.ap⟩
theorem Rep.writeO {i : Nat} {a : Addr} {d d' : Dat} {u : HO} (r : Rep K F0 H0 FB O F H σ ρ) (hi : i ∈ O) (e1 : ρ[i]? = some (some d)) (hd : isO d = true) (e2 : σ[i]? = some (some (.ref a))) (q : F a = none → H0 a = none → OwnD K F H0 (upd H a u) d' (.ref a)) : Rep K F0 H0 FB O F (upd H a u) σ (ρ.set i (some d')) := by
  have ho : F a = none ∧ H0 a = none ∧ ∃ o, H a = some o ∧ isMu o = true := r.own (O2 := []) ⟨i, d, hi, by simp, hd, e1, e2⟩
  have hil : i < ρ.length := (List.getElem?_eq_some_iff.mp e1).1
  refine ⟨⟨r.st.ff, fun b o h => ?_, fun b o h => ?_, r.st.nw⟩, r.fb, by rw [List.length_set, r.len], fun j e h hj => ?_, fun j e h hj => ?_, fun j k es fs b hj hk f1 f2 f3 f4 => ?_⟩
  · rw [upd_ne (ne_of_none h ho.2.1)]; exact r.st.hh b o h
  · rw [upd_ne (ne_of_none h ho.1)]; exact r.st.fh b o h
  · have hij : i ≠ j := fun z => hj (z ▸ hi)
    rw [List.getElem?_set_ne hij] at h
    exact r.fz j e h hj
  · by_cases hij : i = j
    · subst hij
      rw [List.getElem?_set_self hil] at h
      cases h
      exact ⟨.ref a, e2, q ho.1 ho.2.1⟩
    · rw [List.getElem?_set_ne hij] at h
      obtain ⟨v, e3, z⟩ := r.ow j e h hj
      refine ⟨v, e3, ?_⟩
      cases he : isO e with
      | true =>
        obtain ⟨b, o, ev, p, _, f, _⟩ := z.top he
        subst ev
        have hab : b ≠ a := fun z => by
          subst z
          exact hij (r.ap i j d e b hi hj ⟨e1, hd⟩ ⟨h, he⟩ e2 e3)
        exact z.re he (Same.refl _) f fun o h => by rw [upd_ne hab]; exact h
      | false => rw [OwnD.non he] at z ⊢; exact z
  · have fix : ∀ {j : Nat} {e : Dat}, ((ρ.set i (some d'))[j]? = some (some e) ∧ isO e = true) → ∃ e', ρ[j]? = some (some e') ∧ isO e' = true := fun {j e} f => by
      by_cases hij : i = j
      · subst hij; exact ⟨d, e1, hd⟩
      · rw [List.getElem?_set_ne hij] at f; exact ⟨e, f⟩
    obtain ⟨es', g1⟩ := fix f1
    obtain ⟨fs', g2⟩ := fix f2
    exact r.ap j k es' fs' b hj hk g1 g2 f3 f4
theorem Rep.write {i : Nat} {a : Addr} {ds ds' : List Dat} {xs' : List V} (r : Rep K F0 H0 FB O F H σ ρ) (hi : i ∈ O) (e1 : ρ[i]? = some (some (.lst ds))) (e2 : σ[i]? = some (some (.ref a))) (q : Deeps K F ds' xs') : Rep K F0 H0 FB O F (upd H a (.lst xs')) σ (ρ.set i (some (.lst ds'))) :=
  r.writeO hi e1 rfl e2 fun f z => ⟨a, xs', rfl, upd_same, f, z, q⟩
noncomputable def Pat.names : Pat → List Nat
  | .nm i => [i]
  | .tp is => is
theorem gNames_rep {R : St → Hp → Prop} : ∀ {is : List Nat} {ds : List Dat} {vs : List V} {σ : St} {ρ : Env'}, Rep K F0 H0 FB O F H σ ρ → (∀ i ∈ is, i ∉ O) → Deeps K F ds vs → ds.length = is.length → (∀ σ', Rep K F0 H0 FB O F H σ' (setAll is ds ρ) → R σ' H) → gNames is vs σ H R
  | [], [], _, σ, ρ, r, _, q, _, h => ⟨q, h σ r⟩
  | [], _ :: _, _, _, _, _, _, _, e, _ => by simp at e
  | _ :: _, [], _, _, _, _, _, _, e, _ => by simp at e
  | i :: is, d :: ds, _, σ, ρ, r, n, ⟨v, vs, e, q, t⟩, l, h => ⟨v, vs, e, gNames_rep (r.set' q (n i (by simp))) (fun j hj => n j (by simp [hj])) t (by simpa using l) h⟩
theorem gP_rep {R : St → Hp → Prop} {p : Pat} {d : Dat} {v : V} {ρ' : Env'} (r : Rep K F0 H0 FB O F H σ ρ) (n : ∀ i ∈ p.names, i ∉ O) (q : Deep K F d v) (e : bindP p d ρ = .ok ρ') (h : ∀ σ', Rep K F0 H0 FB O F H σ' ρ' → R σ' H) : gP K p v σ H R := by
  cases p with
  | nm i =>
    have := Except.ok.inj e
    subst this
    exact h _ (r.set' q (n i (by simp [Pat.names])))
  | tp is =>
    cases d with
    | tup ds =>
      have e' : (if ds.length = is.length then Except.ok (setAll is ds ρ) else Except.error Err.stuck) = Except.ok ρ' := e
      by_cases hl : ds.length = is.length
      · rw [if_pos hl] at e'
        have := Except.ok.inj e'
        subst this
        obtain ⟨a, xs, ev, t, z⟩ := q
        exact ⟨a, xs, ev, r.st.fh.tup t, by rw [z.length, hl], gNames_rep r n z hl h⟩
      · rw [if_neg hl] at e'
        cases e'
    | _ => cases e
end
noncomputable def PostS (K : PySem.W.Frag) (W : Wish) (ro : Bool) (F0 H0 FB : Hp) (OL O' : List Nat) (D : Ends) (r : M Flo) : Prop := match r with
  | .ok (.nx ρ) => ∀ σ F H, Rep K F0 H0 FB O' F H σ ρ → D.nx σ H
  | .ok (.rt d) => ∀ v F H, Step F0 H0 F H → Val K ro F H0 H d v → D.rt v H
  | .ok (.bk ρ) => ∀ σ F H, Rep K F0 H0 FB OL F H σ ρ → D.bk σ H
  | .ok (.ct ρ) => ∀ σ F H, Rep K F0 H0 FB OL F H σ ρ → D.ct σ H
  | .error e => W.p e F0 H0
noncomputable def tS (K : PySem.W.Frag) (W : Wish) (ro : Bool) (F0 H0 : Hp) (OL O O' : List Nat) (g : Env' → M Flo) : TS := fun D σ H => ∃ FB F ρ, Rep K F0 H0 FB O F H σ ρ ∧ PostS K W ro F0 H0 FB OL O' D (g ρ)
noncomputable def sNext : Env' → M Flo := fun ρ => .ok (.nx ρ)
noncomputable def sSeq (g h : Env' → M Flo) : Env' → M Flo := fun ρ => (g ρ).bind fun fl => match fl with
  | .nx ρ' => h ρ'
  | fl => .ok fl
noncomputable def sIf (ft : Env' → M Bool) (g h : Env' → M Flo) : Env' → M Flo := fun ρ => (ft ρ).bind fun b => if b = true then g ρ else h ρ
noncomputable def sSetB (O : List Nat) (i : Nat) (f : Env' → M Dat) : Env' → M Flo := fun ρ => (f (erase O ρ)).bind fun d => .ok (.nx (ρ.set i (some d)))
noncomputable def sUnpB (O : List Nat) (p : Pat) (f : Env' → M Dat) : Env' → M Flo := fun ρ => (f (erase O ρ)).bind fun d => (bindP p d ρ).bind fun ρ' => .ok (.nx ρ')
noncomputable def lstAt (ρ : Env') (i : Nat) : M (List Dat) := match ρ[i]? with
  | some (some (.lst ds)) => .ok ds
  | _ => .error .stuck
noncomputable def put (ρ : Env') (i : Nat) (ds : List Dat) : M Flo := .ok (.nx (ρ.set i (some (.lst ds))))
noncomputable def sAppB (O : List Nat) (i : Nat) (f : Env' → M Dat) : Env' → M Flo := fun ρ => (lstAt ρ i).bind fun ds => (f (erase O ρ)).bind fun d => if ds.length < sizeLine then put ρ i (ds ++ [d]) else .error .stuck
noncomputable def asI : Dat → M Int
  | .int i => .ok i
  | _ => .error .stuck
noncomputable def sRet (f : Env' → M Dat) : Env' → M Flo := fun ρ => (f ρ).bind fun d => .ok (.rt d)
noncomputable def forD (p : Pat) (g : Env' → M Flo) : List Dat → Env' → M Flo
  | [], ρ => .ok (.nx ρ)
  | d :: ds, ρ => (bindP p d ρ).bind fun ρ1 => (g ρ1).bind fun fl => match fl with
    | .nx ρ2 => forD p g ds ρ2
    | .ct ρ2 => forD p g ds ρ2
    | .bk ρ2 => .ok (.nx ρ2)
    | .rt d => .ok (.rt d)
noncomputable def sFor (O : List Nat) (fi : Env' → M (List Dat)) (p : Pat) (g : Env' → M Flo) : Env' → M Flo := fun ρ => (fi (erase O ρ)).bind fun ds => forD p g ds ρ
section
variable {K : PySem.W.Frag} {W : Wish} {ro own : Bool} {F0 H0 FB F H : Hp} {OL O O' O2 : List Nat} {D : Ends} {σ : St} {ρ : Env'} {g h : Env' → M Flo} {f fi : Env' → M Dat} {ft : Env' → M Bool}
theorem PostS.err {x : M Flo} {e : Err} (p : PostS K W ro F0 H0 FB OL O' D x) (h : x = .error e) : W.p e F0 H0 := by rw [h] at p; exact p
theorem PostS.errAt {x : M Flo} {e : Err} (p : PostS K W ro F0 H0 FB OL O' D x) (s : Step F0 H0 F H) (h : x = .error e) : W.p e F H := W.mono (p.err h) s
theorem PostS.stuck {x : M Flo} {P : Prop} (p : PostS K W ro F0 H0 FB OL O' D x) (h : x = .error .stuck) : P := (W.ns (p.err h)).elim
theorem tS.enter (hs : ∀ i ∈ O2, i ∈ O) (t : tS K W ro F0 H0 OL O O' g D σ H) : tS K W ro F0 H0 OL O2 O' g D σ H := by
  obtain ⟨FB, F, ρ, r, p⟩ := t
  exact ⟨FB, _, ρ, r.freeze hs, p⟩
theorem rs_next (t : tS K W ro F0 H0 OL O O sNext D σ H) : tNext D σ H := by
  obtain ⟨FB, F, ρ, r, p⟩ := t
  exact p σ F H r
theorem rs_seq (t : tS K W ro F0 H0 OL O O2 (sSeq g h) D σ H) : tSeq (tS K W ro F0 H0 OL O O' g) (tS K W ro F0 H0 OL O' O2 h) D σ H := by
  obtain ⟨FB, F, ρ, r, p⟩ := t
  refine ⟨FB, F, ρ, r, ?_⟩
  unfold sSeq at p
  cases e : g ρ with
  | error x => exact p.err (by rw [e]; rfl)
  | ok fl =>
    rw [e] at p
    cases fl with
    | nx ρ' => exact fun σ' F' H' r' => ⟨FB, F', ρ', r', p⟩
    | rt d => exact p
    | bk ρ' => exact p
    | ct ρ' => exact p
theorem rs_if (t : tS K W ro F0 H0 OL O O' (sIf ft g h) D σ H) : tIfS (tDT K W ft) (tS K W ro F0 H0 OL O O' g) (tS K W ro F0 H0 OL O O' h) D σ H := by
  obtain ⟨FB, F, ρ, r, p⟩ := t
  refine tDT_run r.repAll r.plus_fh (fun e he => p.errAt (r.freeze (O2 := []) (by simp)).st (by unfold sIf; rw [he]; rfl)) fun b hb F1 H1 s1 => ?_
  have z : sIf ft g h ρ = if b = true then g ρ else h ρ := by unfold sIf; rw [hb]; rfl
  rw [z] at p
  cases b with
  | true => exact ⟨FB, _, ρ, r.stepAll s1, p⟩
  | false => exact ⟨FB, _, ρ, r.stepAll s1, p⟩
noncomputable def aft (own : Bool) (i : Nat) (O : List Nat) : List Nat := if own = true then i :: O.filter (· != i) else O.filter (· != i)
theorem Rep.bindV {i : Nat} {d : Dat} {v : V} {H2 : Hp} (r : Rep K F0 H0 FB O F H σ ρ) (q : Val K own F H2 H d v) (h2 : Same H0 H2) (nw : ∀ a, Own' O [] σ ρ a → ∃ o, H2 a = some o) : Rep K F0 H0 FB (aft own i O) F H (σ.set i (some v)) (ρ.set i (some d)) := by
  cases own with
  | false => exact r.set q i
  | true =>
    refine r.setOwn (OwnD.back h2 q) fun a ha hd z => ?_
    subst ha
    obtain ⟨b, _, e, _, _, _, n⟩ := OwnD.top hd q
    cases e
    obtain ⟨j, es, h1, h2, h3, h4, h5⟩ := z
    obtain ⟨o, ho⟩ := nw a ⟨j, es, h1, by simp, h3, h4, h5⟩
    rw [n] at ho
    cases ho
theorem rs_setB {i : Nat} (t : tS K W ro F0 H0 OL O (aft own i O) (sSetB O i f) D σ H) : tAsg (tD K W own f) (gName i) D σ H := by
  obtain ⟨FB, F, ρ, r, p⟩ := t
  refine tD_run r.repErase r.st.fh (fun e he => p.errAt r.st (by unfold sSetB; rw [he]; rfl)) fun d hd v F1 H1 s1 q => ?_
  have z : sSetB O i f ρ = .ok (.nx (ρ.set i (some d))) := by unfold sSetB; rw [hd]; rfl
  rw [z] at p
  exact p _ F1 H1 ((r.step s1).bindV q r.st.hh fun a ha => let ⟨_, _, _, e, _⟩ := r.own ha; ⟨_, e⟩)
theorem rs_unpB {pt : Pat} (n : ∀ i ∈ pt.names, i ∉ O) (t : tS K W ro F0 H0 OL O O (sUnpB O pt f) D σ H) : tAsg (tD K W false f) (gP K pt) D σ H := by
  obtain ⟨FB, F, ρ, r, p⟩ := t
  refine tD_run r.repErase r.st.fh (fun e he => p.errAt r.st (by unfold sUnpB; rw [he]; rfl)) fun d hd v F1 H1 s1 q => ?_
  have z : sUnpB O pt f ρ = (bindP pt d ρ).bind fun ρ' => .ok (.nx ρ') := by unfold sUnpB; rw [hd]; rfl
  rw [z] at p
  cases e : bindP pt d ρ with
  | error x =>
    have := bindP_err e
    subst this
    exact p.stuck (by rw [e]; rfl)
  | ok ρ' =>
    rw [e] at p
    exact gP_rep (r.step s1) n q e fun σ' r' => p σ' F1 H1 r'
theorem lstAt_ok {i : Nat} {ds : List Dat} (h : lstAt ρ i = .ok ds) : ρ[i]? = some (some (.lst ds)) := by
  unfold lstAt at h
  split at h
  · cases h; assumption
  · cases h
theorem lstAt_err {i : Nat} {e : Err} (h : lstAt ρ i = .error e) : e = .stuck := by
  unfold lstAt at h
  split at h
  · cases h
  · cases h; rfl
theorem Rep.lstOwn {i : Nat} {ds : List Dat} (r : Rep K F0 H0 FB O F H σ ρ) (hi : i ∈ O) (e : ρ[i]? = some (some (.lst ds))) : ∃ a xs, σ[i]? = some (some (.ref a)) ∧ H a = some (.lst xs) ∧ Deeps K F ds xs := by
  obtain ⟨v, e3, a, xs, ev, p, _, _, t⟩ := r.ow i _ e hi
  subst ev
  exact ⟨a, xs, e3, p, t⟩
noncomputable def tApp (K : PySem.W.Frag) (i : Nat) (te : TE) : TS := tDrop (tBM K "list" rAppend (tVar i) (tCons te tNil))
theorem rs_appB {i : Nat} (hi : i ∈ O) (t : tS K W ro F0 H0 OL O O (sAppB O i f) D σ H) : tApp K i (tD K W false f) D σ H := by
  obtain ⟨FB, F, ρ, r, p⟩ := t
  cases hl : lstAt ρ i with
  | error e =>
    have := lstAt_err hl
    subst this
    exact p.stuck (by unfold sAppB; rw [hl]; rfl)
  | ok ds =>
    obtain ⟨a, xs, e2, ha, z⟩ := r.lstOwn hi (lstAt_ok hl)
    refine ⟨.ref a, e2, tyV_list ha, ?_⟩
    refine tD_run r.repErase r.st.fh (fun e he => p.errAt r.st (by unfold sAppB; rw [hl]; show (f (erase O ρ)).bind _ = _; rw [he]; rfl)) fun d hd v F1 H1 s1 q => ?_
    have ez : sAppB O i f ρ = if ds.length < sizeLine then put ρ i (ds ++ [d]) else .error .stuck := by unfold sAppB; rw [hl]; show (f (erase O ρ)).bind _ = _; rw [hd]; rfl
    rw [ez] at p
    by_cases hs : ds.length < sizeLine
    · rw [if_pos hs] at p
      exact ⟨a, xs, v, rfl, rfl, s1.hh _ _ ha, by rw [z.length]; exact hs, p σ F1 _ ((r.step s1).write hi (lstAt_ok hl) e2 (Deeps.append (z.mono s1.ff) ⟨v, [], rfl, q, rfl⟩))⟩
    · rw [if_neg hs] at p
      exact p.stuck rfl
theorem rs_ret (t : tS K W ro F0 H0 OL O O' (sRet f) D σ H) : tRet (tD K W ro f) D σ H := by
  obtain ⟨FB, F, ρ, r, p⟩ := t
  have rf := r.freeze (O2 := []) (by simp)
  refine tD_run r.repAll r.plus_fh (fun e he => p.errAt rf.st (by unfold sRet; rw [he]; rfl)) fun d hd v F1 H1 s1 q => ?_
  have z : sRet f ρ = .ok (.rt d) := by unfold sRet; rw [hd]; rfl
  rw [z] at p
  exact p v F1 H1 (rf.st.trans s1) (q.back r.st.hh)
theorem rs_retV {i : Nat} (hi : i ∈ O) (t : tS K W true F0 H0 OL O O' (sRet (fVar i)) D σ H) : tRet (tVar i) D σ H := by
  obtain ⟨FB, F, ρ, r, p⟩ := t
  unfold sRet fVar at p
  match e : ρ[i]? with
  | some (some d) =>
    rw [e] at p
    obtain ⟨v, e3, q⟩ := r.ow i d e hi
    exact ⟨v, e3, p v F H r.st q⟩
  | some none => rw [e] at p; exact p.stuck rfl
  | none => rw [e] at p; exact p.stuck rfl
theorem rs_for {fs : Env' → M (List Dat)} {pt : Pat} (n : ∀ i ∈ pt.names, i ∉ O) (t : tS K W ro F0 H0 OL O O (sFor O fs pt g) D σ H) : tFor (iD K W fs) (gP K pt) (tS K W ro F0 H0 O O O g) D σ H := by
  obtain ⟨FB, F, ρ, r, p⟩ := t
  refine ⟨F, erase O ρ, r.repErase, r.st.fh, ?_⟩
  cases e : fs (erase O ρ) with
  | error x => exact p.errAt r.st (by unfold sFor; rw [e]; rfl)
  | ok ds =>
    have z : sFor O fs pt g ρ = forD pt g ds ρ := by unfold sFor; rw [e]; rfl
    rw [z] at p
    intro J F1 H1 s1 it
    refine ⟨fun i m σ H => ∃ F ρ, Rep K F0 H0 F1 O F H σ ρ ∧ i ≤ ds.length ∧ m = ds.length - i ∧ PostS K W ro F0 H0 FB OL O D (forD pt g (ds.drop i) ρ), ⟨ds.length, F1, ρ, ?_, Nat.zero_le _, by omega, by rw [List.drop_zero]; exact p⟩, ?_⟩
    · have r1 := r.step s1
      exact ⟨r1.st, Same.refl _, r1.len, r1.fz, r1.ow, r1.ap⟩
    · rintro i m σ2 H2 ⟨F2, ρ2, r2, hi, rfl, p2⟩
      by_cases hlt : i < ds.length
      · have ed : ds.drop i = ds[i] :: ds.drop (i + 1) := List.drop_eq_getElem_cons hlt
        rw [ed] at p2
        refine .inr ⟨it.go i F2 H2 r2.fb r2.st.fh hlt, fun σ' H' => (∃ F ρ, Rep K F0 H0 F1 O F H' σ' ρ ∧ PostS K W ro F0 H0 FB OL O D (forD pt g (ds.drop (i + 1)) ρ)), fun σ' H' ⟨F, ρ, r, p⟩ => ⟨ds.length - (i + 1), by omega, F, ρ, r, hlt, rfl, p⟩, fun x H' y => ?_⟩
        obtain ⟨F3, s3, q3⟩ := it.yl i F2 H2 x H' ds[i] r2.fb r2.st.fh (by simp [hlt]) y
        have ef : forD pt g (ds[i] :: ds.drop (i + 1)) ρ2 = (bindP pt ds[i] ρ2).bind fun ρ1 => (g ρ1).bind fun fl => match fl with
          | .nx ρ2 => forD pt g (ds.drop (i + 1)) ρ2
          | .ct ρ2 => forD pt g (ds.drop (i + 1)) ρ2
          | .bk ρ2 => .ok (.nx ρ2)
          | .rt d => .ok (.rt d) := by rw [forD]
        rw [ef] at p2
        cases eb : bindP pt ds[i] ρ2 with
        | error x =>
          have := bindP_err eb
          subst this
          exact p2.stuck (by rw [eb]; rfl)
        | ok ρ3 =>
          rw [eb] at p2
          have p2 : PostS K W ro F0 H0 FB OL O D ((g ρ3).bind fun fl => match fl with
            | .nx ρ2 => forD pt g (ds.drop (i + 1)) ρ2
            | .ct ρ2 => forD pt g (ds.drop (i + 1)) ρ2
            | .bk ρ2 => .ok (.nx ρ2)
            | .rt d => .ok (.rt d)) := p2
          refine gP_rep (r2.step s3) n q3 eb fun σ4 r4 => ⟨F1, F3, ρ3, r4, ?_⟩
          have fb1 : Same FB F1 := (r.step s1).fb
          cases eg : g ρ3 with
          | error x => exact p2.err (by rw [eg]; rfl)
          | ok fl =>
            rw [eg] at p2
            cases fl with
            | nx ρ5 => exact fun σ' F' H' r' => ⟨F', ρ5, r', p2⟩
            | ct ρ5 => exact fun σ' F' H' r' => ⟨F', ρ5, r', p2⟩
            | bk ρ5 => exact fun σ' F' H' r' => p2 σ' F' H' (r'.base fb1)
            | rt d => exact p2
      · have : i = ds.length := by omega
        subst this
        rw [List.drop_length] at p2
        exact .inl ⟨it.st F2 H2 r2.fb r2.st.fh, p2 σ2 F2 H2 (r2.base (r.step s1).fb)⟩
end
noncomputable def stk {α : Type} : M α := .error .stuck
noncomputable def addD : Dat → Dat → M Dat
  | .int i, .int j => .ok (.int (i + j))
  | .str x, .str y => if x.length + y.length ≤ sizeLine then .ok (.str (x ++ y)) else stk
  | .lst xs, .lst ys => if xs.length + ys.length ≤ sizeLine then .ok (.lst (xs ++ ys)) else stk
  | .tup xs, .tup ys => if xs.length + ys.length ≤ sizeLine then .ok (.tup (xs ++ ys)) else stk
  | _, _ => stk
noncomputable def small64 (i : Int) : Bool := decide (-(2 ^ 64) < i) && decide (i < 2 ^ 64)
noncomputable def mulD : Dat → Dat → M Dat
  | .int i, .int j => if (small64 i || small64 j) = true then .ok (.int (i * j)) else stk
  | _, _ => stk
noncomputable def fdivD : Dat → Dat → M Dat
  | .int i, .int j => if (decide (0 < j) && decide (j < 18446744073709551616)) = true then .ok (.int (i / j)) else stk
  | _, _ => stk
noncomputable def modD : Dat → Dat → M Dat
  | .int i, .int j => if 0 < j then .ok (.int (i % j)) else stk
  | _, _ => stk
noncomputable def powD : Dat → Dat → M Dat
  | .int i, .int j => if (decide (0 ≤ j) && decide (j ≤ 1000000) && decide (i.natAbs < 2 ^ 64)) = true then .ok (.int (i ^ j.toNat)) else stk
  | _, _ => stk
noncomputable def ltD : Dat → Dat → M Dat
  | .int i, .int j => .ok (.bl (decide (i < j)))
  | _, _ => stk
noncomputable def leD : Dat → Dat → M Dat
  | .int i, .int j => .ok (.bl (decide (i ≤ j)))
  | _, _ => stk
noncomputable def gtD : Dat → Dat → M Dat
  | .int i, .int j => .ok (.bl (decide (j < i)))
  | _, _ => stk
noncomputable def geD : Dat → Dat → M Dat
  | .int i, .int j => .ok (.bl (decide (j ≤ i)))
  | _, _ => stk
noncomputable def b2z (b : Bool) : Int := if b then 1 else 0
mutual
noncomputable def eqD : Dat → Dat → Bool
  | .non, .non => true
  | .bl a, .bl b => a == b
  | .bl a, .int b => b2z a == b
  | .int a, .bl b => a == b2z b
  | .int a, .int b => a == b
  | .str a, .str b => a == b
  | .tup xs, .tup ys => eqDs xs ys
  | .lst xs, .lst ys => eqDs xs ys
  | _, _ => false
noncomputable def eqDs : List Dat → List Dat → Bool
  | [], [] => true
  | d :: ds, e :: es => eqD d e && eqDs ds es
  | _, _ => false
end
mutual
noncomputable def okE : Dat → Nat → Bool
  | .tup ds, n => (match n with
    | 0 => false
    | n + 1 => okEs ds n)
  | .lst ds, n => (match n with
    | 0 => false
    | n + 1 => okEs ds n)
  | .ins _ _, _ => false
  | .dic _, _ => false
  | .dil _, _ => false
  | .non, _ => true
  | .bl _, _ => true
  | .int _, _ => true
  | .str _, _ => true
noncomputable def okEs : List Dat → Nat → Bool
  | [], _ => true
  | d :: ds, n => okE d n && okEs ds n
end
noncomputable def eqM (a b : Dat) : M Dat := if (okE a 40 && okE b 40) = true then .ok (.bl (eqD a b)) else stk
noncomputable def neM (a b : Dat) : M Dat := if (okE a 40 && okE b 40) = true then .ok (.bl (!eqD a b)) else stk
noncomputable def isND : Dat → Dat → M Dat
  | .non, .non => .ok (.bl true)
  | _, .non => .ok (.bl false)
  | _, _ => stk
noncomputable def notND : Dat → Dat → M Dat
  | .non, .non => .ok (.bl false)
  | _, .non => .ok (.bl true)
  | _, _ => stk
noncomputable def getI (ds : List Dat) (i : Int) : M Dat := match atI ds i with
  | some d => .ok d
  | none => stk
noncomputable def ixD : Dat → Dat → M Dat
  | .lst ds, .int i => getI ds i
  | .tup ds, .int i => getI ds i
  | _, _ => stk
noncomputable def lenD : List Dat → M Dat
  | [.lst ds] => .ok (.int ds.length)
  | [.tup ds] => .ok (.int ds.length)
  | _ => stk
noncomputable def boolsD : List Dat → M (List Bool)
  | [] => .ok []
  | d :: ds => (asB d).bind fun b => (boolsD ds).bind fun r => .ok (b :: r)
noncomputable def intsD : List Dat → M (List Int)
  | [] => .ok []
  | d :: ds => (asI d).bind fun b => (intsD ds).bind fun r => .ok (b :: r)
noncomputable def allD : List Dat → M Dat
  | [.lst ds] => (boolsD ds).bind fun bs => .ok (.bl (bs.all id))
  | _ => stk
noncomputable def listD : List Dat → M Dat
  | [.lst ds] => .ok (.lst ds)
  | [.tup ds] => .ok (.lst ds)
  | _ => stk
noncomputable def intD : List Dat → M Dat
  | [.int i] => .ok (.int i)
  | [.bl b] => .ok (.int (b2z b))
  | _ => stk
noncomputable def isi_intD : Dat → M Dat
  | .int _ => .ok (.bl true)
  | .bl _ => .ok (.bl true)
  | .ins _ _ => stk
  | .dic _ => stk
  | .dil _ => stk
  | _ => .ok (.bl false)
noncomputable def isi_boolD : Dat → M Dat
  | .bl _ => .ok (.bl true)
  | .ins _ _ => stk
  | .dic _ => stk
  | .dil _ => stk
  | _ => .ok (.bl false)
noncomputable def isi_listD : Dat → M Dat
  | .lst _ => .ok (.bl true)
  | .ins _ _ => stk
  | .dic _ => stk
  | .dil _ => stk
  | _ => .ok (.bl false)
noncomputable def isi_tupleD : Dat → M Dat
  | .tup _ => .ok (.bl true)
  | .ins _ _ => stk
  | .dic _ => stk
  | .dil _ => stk
  | _ => .ok (.bl false)
noncomputable def itemsL : Dat → M (List Dat)
  | .lst ds => .ok ds
  | _ => .error .stuck
noncomputable def zipL : List Dat → List Dat → List Dat
  | d :: ds, e :: es => .tup [d, e] :: zipL ds es
  | _, _ => []
noncomputable def fZip (fa fb : Env' → M Dat) : Env' → M (List Dat) := fun ρ => (fa ρ).bind fun a => (fb ρ).bind fun b => (itemsL a).bind fun ds => (itemsL b).bind fun es => .ok (zipL ds es)
noncomputable def runB (nN n : Nat) (g : Env' → M Flo) (ds : List Dat) : M Dat := if ds.length = n then (g (ds.map some ++ List.replicate (nN - ds.length) none)).bind fun fl => match fl with
  | .nx _ => .ok .non
  | .rt d => .ok d
  | _ => stk else stk
@[simp] theorem bind_ok {α β : Type} (a : α) (f : α → M β) : Except.bind (Except.ok a : M α) f = f a := id rfl
@[simp] theorem bind_er {α β : Type} (e : Err) (f : α → M β) : Except.bind (Except.error e : M α) f = .error e := id rfl
@[simp] theorem intsD_map : ∀ is : List Int, intsD (is.map Dat.int) = .ok is
  | [] => rfl
  | i :: is => by simp [intsD, asI, intsD_map is]
@[simp] theorem boolsD_map : ∀ is : List Bool, boolsD (is.map Dat.bl) = .ok is
  | [] => rfl
  | i :: is => by simp [boolsD, asB, boolsD_map is]
theorem getI_nat {ds : List Dat} {k : Nat} (h : k < ds.length) : getI ds (k : Int) = .ok ds[k] := by
  unfold getI atI ixN
  rw [if_pos (by omega), if_pos (by omega)]
  simp [h]
theorem getI_int {is : List Int} {k : Int} (h0 : 0 ≤ k) (h : k < is.length) : getI (is.map Dat.int) k = .ok (.int (is[k.toNat]'(by omega))) := by
  have hj : k.toNat < (is.map Dat.int).length := by simp; omega
  have e : k = (k.toNat : Int) := by omega
  have := getI_nat hj
  rw [← e] at this
  rw [this]
  simp
theorem forD_inv {p : Pat} {g : Env' → M Flo} (P : Nat → Env' → Prop) : ∀ (ds : List Dat) (k : Nat) (ρ : Env'), P k ρ →
    (∀ (i : Nat) (d : Dat) (ρ : Env'), ds[i]? = some d → P (k + i) ρ → ∃ ρ1, bindP p d ρ = .ok ρ1 ∧ ∃ ρ2, (g ρ1 = .ok (.nx ρ2) ∨ g ρ1 = .ok (.ct ρ2)) ∧ P (k + i + 1) ρ2) → ∃ ρ', forD p g ds ρ = .ok (.nx ρ') ∧ P (k + ds.length) ρ'
  | [], k, ρ, h, _ => ⟨ρ, rfl, h⟩
  | d :: ds, k, ρ, h, st => by
    obtain ⟨ρ1, e1, ρ2, e2, h2⟩ := st 0 d ρ rfl h
    obtain ⟨ρ', e3, h3⟩ := forD_inv P ds (k + 1) ρ2 h2 fun i d' ρ he hp => by
      have := st (i + 1) d' ρ (by simpa using he) (by rw [show k + (i + 1) = k + 1 + i by omega]; exact hp)
      rw [show k + (i + 1) + 1 = k + 1 + i + 1 by omega] at this
      exact this
    refine ⟨ρ', ?_, by rw [show k + (d :: ds).length = k + 1 + ds.length by simp; omega]; exact h3⟩
    rw [forD, e1]
    rcases e2 with e2 | e2
    · simp only [bind_ok, e2]; exact e3
    · simp only [bind_ok, e2]; exact e3
theorem compD_map {p : Pat} {fe : Env' → M Dat} {ρ0 : Env'} (f : Dat → Dat) : ∀ (ds : List Dat), (∀ d ∈ ds, ∃ ρ, bindP p d ρ0 = .ok ρ ∧ fe ρ = .ok (f d)) → compD p fYes fe ρ0 ds = .ok (ds.map f)
  | [], _ => rfl
  | d :: ds, h => by
    obtain ⟨ρ, e1, e2⟩ := h d (by simp)
    rw [compD, e1]
    simp only [bind_ok, fYes, e2, compD_map f ds fun x hx => h x (by simp [hx])]
    simp
@[simp] theorem small_def (i : Int) : small64 i = (decide (-(2 ^ 64) < i) && decide (i < 2 ^ 64)) := id rfl
@[simp] theorem small_def2 (i : Int) : small62 i = (decide (-(2 ^ 62) ≤ i) && decide (i < 2 ^ 62)) := id rfl
section
variable {ρ : Env'} {fa fb fc : Env' → M Dat} {fr : Env' → M (List Dat)} {ft fu : Env' → M Bool} {g h : Env' → M Flo}
@[simp] theorem e_var0 (d : Dat) (r : Env') : fVar 0 (some d :: r) = .ok d := id rfl
@[simp] theorem e_varS (i : Nat) (o : Option Dat) (r : Env') : fVar (i + 1) (o :: r) = fVar i r := by simp [fVar]
@[simp] theorem e_c (d : Dat) : fC d ρ = .ok d := id rfl
@[simp] theorem e_1 (k : Dat → M Dat) : f1 k fa ρ = (fa ρ).bind k := id rfl
@[simp] theorem e_2 (k : Dat → Dat → M Dat) : f2 k fa fb ρ = (fa ρ).bind fun a => (fb ρ).bind fun b => k a b := id rfl
@[simp] theorem e_nil : fNil ρ = .ok [] := id rfl
@[simp] theorem e_cons : fCons fa fr ρ = (fa ρ).bind fun a => (fr ρ).bind fun r => .ok (a :: r) := id rfl
@[simp] theorem e_L (k : List Dat → M Dat) : fL k fr ρ = (fr ρ).bind k := id rfl
@[simp] theorem e_or : fOr ft fu ρ = (ft ρ).bind fun b => if b = true then .ok true else fu ρ := id rfl
@[simp] theorem e_not : fNot ft ρ = (ft ρ).bind fun b => .ok (!b) := id rfl
@[simp] theorem e_B : fB fa ρ = (fa ρ).bind asB := id rfl
@[simp] theorem e_andV : fAndV fa fb ρ = (fa ρ).bind fun a => (asB a).bind fun b => if b = true then fb ρ else .ok (.bl false) := id rfl
@[simp] theorem e_orV : fOrV fa fb ρ = (fa ρ).bind fun a => (asB a).bind fun b => if b = true then .ok (.bl true) else fb ρ := id rfl
@[simp] theorem e_tru : fTru fa ρ = (fa ρ).bind truD := id rfl
@[simp] theorem e_chain (k k' : Dat → Dat → M Dat) : fChain k k' fa fb fc ρ = (fa ρ).bind fun a => (fb ρ).bind fun b => (k a b).bind fun x => (asB x).bind fun z => if z = true then (fc ρ).bind fun c => k' b c else .ok (.bl false) := id rfl
@[simp] theorem e_yes : fYes ρ = .ok true := id rfl
@[simp] theorem e_it : fIt fa ρ = (fa ρ).bind itemsD := id rfl
@[simp] theorem e_rng (k : List Dat → M (List Dat)) : fRng k fr ρ = (fr ρ).bind k := id rfl
@[simp] theorem e_zip : fZip fa fb ρ = (fa ρ).bind fun a => (fb ρ).bind fun b => (itemsL a).bind fun ds => (itemsL b).bind fun es => .ok (zipL ds es) := id rfl
@[simp] theorem e_comp (fi : Env' → M (List Dat)) (ix : List (Option Nat)) (p : Pat) : fComp fi ix p ft fa ρ = (fi ρ).bind fun ds => if ds.length ≤ sizeLine then (compD p ft fa (inSE ix ρ) ds).bind fun r => .ok (.lst r) else .error .stuck := id rfl
@[simp] theorem e_asB (b : Bool) : asB (.bl b) = .ok b := id rfl
@[simp] theorem e_asI (b : Int) : asI (.int b) = .ok b := id rfl
@[simp] theorem e_itemsL (ds : List Dat) : itemsD (.lst ds) = .ok ds := id rfl
@[simp] theorem e_itemsT (ds : List Dat) : itemsD (.tup ds) = .ok ds := id rfl
@[simp] theorem e_notD (b : Bool) : notD (.bl b) = .ok (.bl (!b)) := id rfl
@[simp] theorem e_truB (b : Bool) : truD (.bl b) = .ok b := id rfl
@[simp] theorem e_addI (i j : Int) : addD (.int i) (.int j) = .ok (.int (i + j)) := id rfl
@[simp] theorem e_ltI (i j : Int) : ltD (.int i) (.int j) = .ok (.bl (decide (i < j))) := id rfl
@[simp] theorem e_leI (i j : Int) : leD (.int i) (.int j) = .ok (.bl (decide (i ≤ j))) := id rfl
@[simp] theorem e_gtI (i j : Int) : gtD (.int i) (.int j) = .ok (.bl (decide (j < i))) := id rfl
@[simp] theorem e_geI (i j : Int) : geD (.int i) (.int j) = .ok (.bl (decide (j ≤ i))) := id rfl
@[simp] theorem e_ixL (ds : List Dat) (i : Int) : ixD (.lst ds) (.int i) = getI ds i := id rfl
@[simp] theorem e_ixT (ds : List Dat) (i : Int) : ixD (.tup ds) (.int i) = getI ds i := id rfl
@[simp] theorem e_lenL (ds : List Dat) : lenD [.lst ds] = .ok (.int ds.length) := id rfl
@[simp] theorem e_lenT (ds : List Dat) : lenD [.tup ds] = .ok (.int ds.length) := id rfl
@[simp] theorem e_all (ds : List Dat) : allD [.lst ds] = (boolsD ds).bind fun bs => .ok (.bl (bs.all id)) := id rfl
@[simp] theorem e_listL (ds : List Dat) : listD [.lst ds] = .ok (.lst ds) := id rfl
@[simp] theorem e_intB (b : Bool) : intD [.bl b] = .ok (.int (b2z b)) := id rfl
@[simp] theorem e_isiBI (i : Int) : isi_boolD (.int i) = .ok (.bl false) := id rfl
@[simp] theorem e_isiII (i : Int) : isi_intD (.int i) = .ok (.bl true) := id rfl
@[simp] theorem e_isiLL (ds : List Dat) : isi_listD (.lst ds) = .ok (.bl true) := id rfl
@[simp] theorem e_isiTT (ds : List Dat) : isi_tupleD (.tup ds) = .ok (.bl true) := id rfl
@[simp] theorem e_isN (d : Dat) : isND d .non = .ok (.bl (match d with | .non => true | _ => false)) := by cases d <;> rfl
@[simp] theorem e_notN (d : Dat) : notND d .non = .ok (.bl (match d with | .non => false | _ => true)) := by cases d <;> rfl
@[simp] theorem e_next : sNext ρ = .ok (.nx ρ) := id rfl
@[simp] theorem e_seq : sSeq g h ρ = (g ρ).bind fun fl => match fl with
  | .nx ρ' => h ρ'
  | fl => .ok fl := id rfl
@[simp] theorem e_if : sIf ft g h ρ = (ft ρ).bind fun b => if b = true then g ρ else h ρ := id rfl
@[simp] theorem e_setB (O : List Nat) (i : Nat) : sSetB O i fa ρ = (fa (erase O ρ)).bind fun d => .ok (.nx (ρ.set i (some d))) := id rfl
@[simp] theorem e_ret : sRet fa ρ = (fa ρ).bind fun d => .ok (.rt d) := id rfl
@[simp] theorem e_for (O : List Nat) (fi : Env' → M (List Dat)) (p : Pat) : sFor O fi p g ρ = (fi (erase O ρ)).bind fun ds => forD p g ds ρ := id rfl
@[simp] theorem e_unpB (O : List Nat) (p : Pat) : sUnpB O p fa ρ = (fa (erase O ρ)).bind fun d => (bindP p d ρ).bind fun ρ' => .ok (.nx ρ') := id rfl
@[simp] theorem e_appB (O : List Nat) (i : Nat) : sAppB O i fa ρ = (lstAt ρ i).bind fun ds => (fa (erase O ρ)).bind fun d => if ds.length < sizeLine then put ρ i (ds ++ [d]) else .error .stuck := id rfl
@[simp] theorem e_put (i : Nat) (ds : List Dat) : put ρ i ds = .ok (.nx (ρ.set i (some (.lst ds)))) := id rfl
@[simp] theorem e_lst0 (ds : List Dat) (r : Env') : lstAt (some (.lst ds) :: r) 0 = .ok ds := id rfl
@[simp] theorem e_lstS (i : Nat) (o : Option Dat) (r : Env') : lstAt (o :: r) (i + 1) = lstAt r i := by simp [lstAt]
@[simp] theorem e_er0 : erase [] ρ = ρ := id rfl
@[simp] theorem e_erS (i : Nat) (O : List Nat) : erase (i :: O) ρ = erase O (ρ.set i none) := id rfl
@[simp] theorem e_bnm (i : Nat) (d : Dat) : bindP (.nm i) d ρ = .ok (ρ.set i (some d)) := id rfl
@[simp] theorem e_btp (is : List Nat) (ds : List Dat) : bindP (.tp is) (.tup ds) ρ = if ds.length = is.length then .ok (setAll is ds ρ) else .error .stuck := id rfl
@[simp] theorem e_sa0 (ds : List Dat) : setAll [] ds ρ = ρ := by cases ds <;> rfl
@[simp] theorem e_saS (i : Nat) (is : List Nat) (d : Dat) (ds : List Dat) : setAll (i :: is) (d :: ds) ρ = setAll is ds (ρ.set i (some d)) := id rfl
@[simp] theorem e_in0 : inSE [] ρ = [] := id rfl
@[simp] theorem e_inN (ix : List (Option Nat)) : inSE (none :: ix) ρ = none :: inSE ix ρ := id rfl
@[simp] theorem e_inS (j : Nat) (ix : List (Option Nat)) : inSE (some j :: ix) ρ = (ρ[j]?).join :: inSE ix ρ := id rfl
@[simp] theorem e_tup (ds : List Dat) : mkTup ds = if ds.length ≤ sizeLine then .ok (.tup ds) else .error .stuck := id rfl
@[simp] theorem e_lst (ds : List Dat) : mkLst ds = if ds.length ≤ sizeLine then .ok (.lst ds) else .error .stuck := id rfl
@[simp] theorem e_line : sizeLine = 16777216 := sizeLine_eq
@[simp] theorem e_run (a b : Nat) (ds : List Dat) : runB a b g ds = if ds.length = b then (g (ds.map some ++ List.replicate (a - ds.length) none)).bind fun fl => match fl with
  | .nx _ => .ok .non
  | .rt d => .ok d
  | _ => stk else stk := id rfl
@[simp] theorem e_rng1 {j : Int} (h : small62 j = true) : rng1 [.int j] = .ok (rangeL 0 j.toNat) := by show (if small62 j = true then _ else _) = _; rw [if_pos h]
@[simp] theorem e_mod {i j : Int} (h : 0 < j) : modD (.int i) (.int j) = .ok (.int (i % j)) := by simp [modD, h]
@[simp] theorem e_fdiv {i j : Int} (h : 0 < j) (h2 : j < 18446744073709551616) : fdivD (.int i) (.int j) = .ok (.int (i / j)) := by simp [fdivD, h, h2]
@[simp] theorem e_mulR {i j : Int} (h : small64 j = true) : mulD (.int i) (.int j) = .ok (.int (i * j)) := by show (if (small64 i || small64 j) = true then _ else _) = _; rw [h, Bool.or_true, if_pos rfl]
@[simp] theorem e_mulL {i j : Int} (h : small64 i = true) : mulD (.int i) (.int j) = .ok (.int (i * j)) := by show (if (small64 i || small64 j) = true then _ else _) = _; rw [h, Bool.true_or, if_pos rfl]
end
end L2
namespace L2
open PySem PySem.Spec PyProof.Rows
section
variable {X : Cx} {K : PySem.W.Frag} {W : Wish} {own ro : Bool} {e a b c : Expr} {es rest : List Expr} {x : Str} {pos p : Pos} {f fa fb fc : Env' → M Dat} {fr : Env' → M (List Dat)} {ft fu : Env' → M Bool}
theorem PE.imp {t t' : TE} (h : PE X e t) (q : ∀ σ H Q, t' σ H Q → t σ H Q) : PE X e t' := fun pins s σ H Q I z => h pins s σ H Q I (q σ H Q z)
theorem PT.imp {t t' : TT} (h : PT X e t) (q : ∀ σ H Q, t' σ H Q → t σ H Q) : PT X e t' := fun pins s σ H Q I z => h pins s σ H Q I (q σ H Q z)
theorem PW.imp {t t' : TT} (h : PW X e t) (q : ∀ σ H Q, t' σ H Q → t σ H Q) : PW X e t' := fun wh pins s σ H Q I z => h wh pins s σ H Q I (q σ H Q z)
theorem PA.imp {t t' : TA} (h : PA X es t) (q : ∀ σ H Q, t' σ H Q → t σ H Q) : PA X es t' := fun ps pins s σ H Q I z => h ps pins s σ H Q I (q σ H Q z)
theorem PI.imp {tg : Expr} {t t' : TI} (h : PI X tg e t) (q : ∀ σ H Q, t' σ H Q → t σ H Q) : PI X tg e t' := fun pins s σ H Q I z => h pins s σ H Q I (q σ H Q z)
theorem PS.imp {st : Stmt} {t t' : TS} (h : PS X st t) (q : ∀ D σ H, t' D σ H → t D σ H) : PS X st t' := fun pins s σ H D I z => h pins s σ H D I (q D σ H z)
theorem PSs.imp {st : List Stmt} {t t' : TS} (h : PSs X st t) (q : ∀ D σ H, t' D σ H → t D σ H) : PSs X st t' := fun pins s σ H D I z => h pins s σ H D I (q D σ H z)
noncomputable abbrev DE (K : PySem.W.Frag) (W : Wish) (own : Bool) (X : Cx) (e : Expr) (f : Env' → M Dat) : Prop := PE X e (tD K W own f)
noncomputable abbrev DT (K : PySem.W.Frag) (W : Wish) (X : Cx) (e : Expr) (f : Env' → M Bool) : Prop := PT X e (tDT K W f)
noncomputable abbrev DW (K : PySem.W.Frag) (W : Wish) (X : Cx) (e : Expr) (f : Env' → M Bool) : Prop := PW X e (tDT K W f)
noncomputable abbrev DA (K : PySem.W.Frag) (W : Wish) (X : Cx) (es : List Expr) (f : Env' → M (List Dat)) : Prop := PA X es (tDA K W f)
noncomputable abbrev DI (K : PySem.W.Frag) (W : Wish) (X : Cx) (tg e : Expr) (f : Env' → M (List Dat)) : Prop := PI X tg e (iD K W f)
noncomputable abbrev DG (K : PySem.W.Frag) (X : Cx) (tg : Expr) (p : Pat) : Prop := PG X tg (gP K p)
noncomputable abbrev DS (K : PySem.W.Frag) (W : Wish) (ro : Bool) (X : Cx) (OL O O' : List Nat) (st : Stmt) (g : Env' → M Flo) : Prop := ∀ F0 H0 : Hp, PS X st (tS K W ro F0 H0 OL O O' g)
noncomputable abbrev DSs (K : PySem.W.Frag) (W : Wish) (ro : Bool) (X : Cx) (OL O O' : List Nat) (st : List Stmt) (g : Env' → M Flo) : Prop := ∀ F0 H0 : Hp, PSs X st (tS K W ro F0 H0 OL O O' g)
noncomputable abbrev Op2 (K : PySem.W.Frag) (W : Wish) (own : Bool) (X : Cx) (o : Value → Value → Sem Value) (g : Dat → Dat → M Dat) : Prop := OpR X o (rD2 K W own g)
noncomputable abbrev CallD (K : PySem.W.Frag) (W : Wish) (own : Bool) (X : Cx) (v : Value) (g : List Dat → M Dat) : Prop := CallR X v (rDL K W own g)
theorem de_v (i : Nat) (hN : X.N[i]? = some x := by rfl) (hv : Vis X.env.scope x := by first | exact Or.inl rfl | exact Or.inr (Or.inl rfl) | exact Or.inr (Or.inr rfl)) (hd : (x == ("__debug__" : Str)) = false := by decide)
    (hcd : (x == ("__classdict__" : Str)) = false := by decide) : DE K W false X (.Name x pos) (fVar i) := (pv i hN hv hd hcd).imp fun _ _ _ => rd_var
theorem de_int {i : Int} {j} : DE K W false X (.Constant (.int i) j pos) (fC (.int i)) := pe_int.imp fun _ _ _ => rd_c fun _ => rfl
theorem de_bl {k : Bool} {j} : DE K W false X (.Constant (.bool k) j pos) (fC (.bl k)) := pe_bl.imp fun _ _ _ => rd_c fun _ => rfl
theorem de_non {j} : DE K W false X (.Constant .none j pos) (fC .non) := pe_non.imp fun _ _ _ => rd_c fun _ => rfl
theorem de_str {z : Str} {j} : DE K W false X (.Constant (.str z) j pos) (fC (.str z)) := pe_str.imp fun _ _ _ => rd_c fun _ => rfl
theorem de_gint {n : Int} (hm : ∃ t, X.mg x = some (.int n t)) (hg : Gl X x := by rfl) (hd : (x == ("__debug__" : Str)) = false := by decide) : DE K W false X (.Name x pos) (fC (.int n)) := (pe_gint hg hm hd).imp fun _ _ _ => rd_c fun _ => rfl
theorem de_frz (h : DE K W true X e f) : DE K W false X e f := PE.imp h fun _ _ _ ⟨F, ρ, r, s, p⟩ => ⟨F, ρ, r, s, p.frz⟩
theorem de_op {op : Operator} {g : Dat → Dat → M Dat} (ho : Op2 K W own X (binaryOp op) g) (ha : DE K W false X a fa) (hb : DE K W false X b fb) : DE K W own X (.BinOp a op b pos) (f2 g fa fb) := (pe_op ho ha hb).imp fun _ _ _ => rd_2
theorem de_cmp {op : CmpOp} {g : Dat → Dat → M Dat} (ho : Op2 K W false X (compareOp op) g) (ha : DE K W false X a fa) (hb : DE K W false X b fb) (hm : behindInMarks op b = false := by first | exact nomark _ | with_unfolding_all rfl) : DE K W false X (.Compare a [op] [b] pos) (f2 g fa fb) :=
  (pe_cmpR ho ha hb hm).imp fun _ _ _ => rd_2
theorem dt_cmp {op : CmpOp} {g : Dat → Dat → M Dat} (ho : Op2 K W false X (compareOp op) g) (ha : DE K W false X a fa) (hb : DE K W false X b fb) (hm : behindInMarks op b = false := by first | exact nomark _ | with_unfolding_all rfl) : DT K W X (.Compare a [op] [b] pos) (fB (f2 g fa fb)) :=
  (pt_cmpR ho ha hb hm).imp fun σ H Q h => by
    have q := rd_B h
    exact rd_2 (own := false) q
theorem de_chain {op op' : CmpOp} {g g' : Dat → Dat → M Dat} (ho : Op2 K W false X (compareOp op) g) (ho' : Op2 K W false X (compareOp op') g') (ha : DE K W false X a fa) (hb : DE K W false X b fb) (hc : DE K W false X c fc)
    (hm : lastMarks [op, op'] [b, c] = false := by with_unfolding_all rfl) : DE K W false X (.Compare a [op, op'] [b, c] pos) (fChain g g' fa fb fc) := (pe_chain ho ho' ha hb hc hm).imp fun _ _ _ => rd_chain
theorem dt_chain {op op' : CmpOp} {g g' : Dat → Dat → M Dat} (ho : Op2 K W false X (compareOp op) g) (ho' : Op2 K W false X (compareOp op') g') (ha : DE K W false X a fa) (hb : DE K W false X b fb) (hc : DE K W false X c fc)
    (hm : lastMarks [op, op'] [b, c] = false := by with_unfolding_all rfl) : DT K W X (.Compare a [op, op'] [b, c] pos) (fB (fChain g g' fa fb fc)) := (pt_chain ho ho' ha hb hc hm).imp fun σ H Q h => by
    have q := rd_B h
    exact rd_chain q
theorem dt_tru (ha : DE K W false X a fa) (hK : X.K = K := by rfl) (he : ∀ whole, isTrue a X.env whole = (do let v ← whole; standAt a.pos; holding [v] (truthy v)) := by intro _; rfl) : DT K W X a (fTru fa) := by
  subst hK
  exact (pt_truth ha he).imp fun _ _ _ => rd_tru
theorem dt_not (ha : DT K W X a ft) : DT K W X (.UnaryOp .Not a pos) (fNot ft) := (pt_not ha).imp fun _ _ _ => rd_not
theorem dw_or1 (ha : DT K W X a ft) : DW K W X (.BoolOp .Or [a] pos) ft := pw_or1 ha
theorem dw_or (ha : DT K W X a ft) (hb : DW K W X (.BoolOp .Or (b :: rest) pos) fu) : DW K W X (.BoolOp .Or (a :: b :: rest) pos) (fOr ft fu) := (pw_or ha hb).imp fun _ _ _ => rd_or
theorem de_one {op} (h : DE K W false X a f) : DE K W false X (.BoolOp op [a] pos) f := pe_one h
theorem de_and (ha : DE K W false X a fa) (hb : DE K W false X (.BoolOp .And (b :: rest) pos) fb) : DE K W false X (.BoolOp .And (a :: b :: rest) pos) (fAndV fa fb) := (pe_and ha hb).imp fun _ _ _ => rd_andV
theorem de_or (ha : DE K W false X a fa) (hb : DE K W false X (.BoolOp .Or (b :: rest) pos) fb) : DE K W false X (.BoolOp .Or (a :: b :: rest) pos) (fOrV fa fb) := (pe_or ha hb).imp fun _ _ _ => rd_orV
theorem de_not (ha : DE K W false X a fa) : DE K W false X (.UnaryOp .Not a pos) (f1 notD fa) := (pe_not ha).imp fun _ _ _ => rd_notV
theorem da_nil : DA K W X [] fNil := pa_nil.imp fun _ _ _ => rd_nil
theorem da_cons (ha : DE K W false X e fa) (hr : DA K W X es fr) (hs : starEach (e :: es) X.env = (false, eval e X.env) :: starEach es X.env := by rfl) : DA K W X (e :: es) (fCons fa fr) := (pa_cons ha hr hs).imp fun _ _ _ => rd_cons
theorem de_tup {x1} (h : DA K W X es fr) : DE K W own X (.Tuple es x1 pos) (fL mkTup fr) := (pe_tup h).imp fun _ _ _ => rd_tup
theorem de_lst (h : DA K W X es fr) : DE K W true X (.List es pos) (fL mkLst fr) := (pe_lst h).imp fun _ _ _ => rd_lst
theorem de_callB {id : String} {g : List Dat → M Dat} (hc : CallD K W own X (.builtin id) g) (hm : X.mg x = none) (hv : bootBuiltins x = some (.builtin id)) (ha : DA K W X (e :: es) fr) (hg : Gl X x := by rfl) (hn : x ≠ "__name__" := by decide) (hdb : (x == ("__debug__" : Str)) = false := by decide)
    (hst : starEach (e :: es) X.env = (false, eval e X.env) :: starEach es X.env := by rfl) (hpl : (backTo pos (starEach es X.env)).any (·.1) = false := by rfl) : DE K W own X (.Call (.Name x p) (e :: es) [] pos) (fL g fr) :=
  (pe_callB hc hg hm hv ha hn hdb hst hpl).imp fun _ _ _ => rd_L
theorem de_callTy {T : String} {g : List Dat → M Dat} (hc : CallD K W own X (.type T) g) (hm : X.mg x = none) (hv : bootBuiltins x = some (.type T)) (ha : DA K W X (e :: es) fr) (hg : Gl X x := by rfl) (hn : x ≠ "__name__" := by decide) (hdb : (x == ("__debug__" : Str)) = false := by decide)
    (hst : starEach (e :: es) X.env = (false, eval e X.env) :: starEach es X.env := by rfl) (hpl : (backTo pos (starEach es X.env)).any (·.1) = false := by rfl) : DE K W own X (.Call (.Name x p) (e :: es) [] pos) (fL g fr) :=
  (pe_callTy hc hg hm hv ha hn hdb hst hpl).imp fun _ _ _ => rd_L
theorem de_ix {g : Dat → Dat → M Dat} (hr : IxR X (rD2 K W own g)) (ha : DE K W false X a fa) (hb : DE K W false X b fb) (hs : PlainIx b := by exact fun _ _ => rfl) : DE K W own X (.Subscript a b pos) (f2 g fa fb) := (pe_ix hr ha hb hs).imp fun _ _ _ => rd_2
theorem dg_nm {i : Nat} (hN : X.N.Nodup) (hi : X.N[i]? = some x := by rfl) (hx : Loc X.env.scope x := by first | exact Or.inl rfl | exact Or.inr rfl) (hf : X.fn x = true ∨ X.env.scope.names.lookup x = some .local := by first | exact .inl rfl | exact .inr rfl | assumption) : DG K X (.Name x pos) (.nm i) := pg_name hN hi hx hf
theorem di_seq {tg : Expr} (hl : DE K W false X e fa) (hK : X.K = K := by rfl) : DI K W X tg e (fIt fa) := by
  subst hK
  refine PI.imp (t := iSeq X.K (tD X.K W false fa)) ?_ fun _ _ _ => ri_seq
  intro pins s σ H R I h
  refine thn (hl pins s σ H _ I h) fun v s1 ⟨y, H1, I1, r1, q1⟩ => ?_
  obtain ⟨l, e1, q⟩ := q1
  subst e1
  cases r1
  rcases q with ⟨⟨xs, hq⟩, q⟩ | ⟨⟨xs, hq⟩, q⟩
  · obtain ⟨its, rv, p, hz⟩ := I1.list hq
    refine wpAny_pyIter_list p.isList ?_
    refine ⟨s1.heap.objs.size, [s1.heap.objs.size], _, _, H1, rfl, I1.kept (t' := s1.toks) fun b o e => Heap.get?_push_of_some _ e, turn_list l _, ⟨_, Heap.get?_push_size _ rfl, rfl, rfl⟩, fun b hb => ?_, q⟩
    have e : b = s1.heap.objs.size := by simpa using hb
    subst e
    exact I1.fpOk (Nat.le_refl _) (I1.hok.fresh (Nat.le_refl _))
  · obtain ⟨its, rv, p, hz⟩ := I1.tuple hq
    refine wpAny_pyIter_tuple (show s1.heap.IsTuple l its.toArray from p) ?_
    refine ⟨s1.heap.objs.size, [s1.heap.objs.size], _, _, H1, rfl, I1.kept (t' := s1.toks) fun b o e => Heap.get?_push_of_some _ e, turn_tuple l _, ⟨_, Heap.get?_push_size _ rfl, rfl, rfl⟩, fun b hb => ?_, q⟩
    have e : b = s1.heap.objs.size := by simpa using hb
    subst e
    exact I1.fpOk (Nat.le_refl _) (I1.hok.fresh (Nat.le_refl _))
theorem di_rng1 {tg : Expr} (hm : X.mg "range" = none) (ha : DA K W X [a] fr) (hg : Gl X "range" := by rfl) (hs : starEach [a] X.env = [(false, eval a X.env)] := by rfl) : DI K W X tg (.Call (.Name "range" p) [a] [] pos) (fRng rng1 fr) := (pi_range1 hg hm ha hs).imp fun _ _ _ => ri_rng1
variable {OL O O' O2 : List Nat} {st : Stmt} {sts : List Stmt} {g h : Env' → M Flo}
theorem ds_nil : DSs K W ro X OL O O [] sNext := fun _ _ => pss_nil.imp fun _ _ _ => rs_next
theorem ds_cons (h1 : DS K W ro X OL O O' st g) (h2 : DSs K W ro X OL O' O2 sts h) : DSs K W ro X OL O O2 (st :: sts) (sSeq g h) := fun F0 H0 => (pss_cons (h1 F0 H0) (h2 F0 H0)).imp fun _ _ _ => rs_seq
theorem ds_one (h1 : DS K W ro X OL O O' st g) : DSs K W ro X OL O O' [st] g := fun F0 H0 => pss_one (h1 F0 H0)
theorem ds_enter (h1 : DSs K W ro X OL O2 O' sts g) (hs : ∀ i ∈ O2, i ∈ O := by decide) : DSs K W ro X OL O O' sts g := fun F0 H0 => PSs.imp (h1 F0 H0) fun _ _ _ => tS.enter hs
theorem ds_if {sa sb : List Stmt} (hc : DT K W X c ft) (ha : DSs K W ro X OL O O' sa g) (hb : DSs K W ro X OL O O' sb h) : DS K W ro X OL O O' (.If c sa sb pos) (sIf ft g h) := fun F0 H0 => (ps_if hc (ha F0 H0) (hb F0 H0)).imp fun _ _ _ => rs_if
theorem ds_setB {i : Nat} {pos' : Pos} (hN : X.N.Nodup) (he : DE K W own X e f) (hi : X.N[i]? = some x := by rfl) (hx : Loc X.env.scope x := by first | exact Or.inl rfl | exact Or.inr rfl) (hs : swapsWith e (some (.Name x pos')) pos.line X.env = pure false := by rfl) (hf : X.fn x = true ∨ X.env.scope.names.lookup x = some .local := by first | exact .inl rfl | exact .inr rfl | assumption) :
    DS K W ro X OL O (aft own i O) (.Assign [.Name x pos'] e pos) (sSetB O i f) := fun F0 H0 => (ps_set hN hi hx he hs hf).imp fun _ _ _ => rs_setB
theorem ds_ret (he : DE K W ro X e f) : DS K W ro X OL O O' (.Return (some e) pos) (sRet f) := fun F0 H0 => (ps_ret he).imp fun _ _ _ => rs_ret
theorem ds_retV {i : Nat} (ho : i ∈ O := by decide) (hN : X.N[i]? = some x := by rfl) (hv : Vis X.env.scope x := by first | exact Or.inl rfl | exact Or.inr (Or.inl rfl) | exact Or.inr (Or.inr rfl)) (hd : (x == ("__debug__" : Str)) = false := by decide)
    (hcd : (x == ("__classdict__" : Str)) = false := by decide) : DS K W true X OL O O' (.Return (some (.Name x p)) pos) (sRet (fVar i)) := fun F0 H0 => (ps_ret (pv i hN hv hd hcd)).imp fun _ _ _ => rs_retV ho
theorem ds_for {tg iter : Expr} {body : List Stmt} {fs : Env' → M (List Dat)} {pt : Pat} (hi : DI K W X tg iter fs) (hg : DG K X tg pt) (hb : DSs K W ro X O O O body g) (n : ∀ i ∈ pt.names, i ∉ O := by decide) (hp : PassesOwn (model X.prog X.w) X.A X.env X.xe := by exact PassesOwn.never) (hc : X.calm = true := by rfl)
    (hs : ∀ x, foldedSetIterable iter X.env x = pure x := by intro _; rfl) : DS K W ro X OL O O (.For tg iter body [] pos) (sFor O fs pt g) := fun F0 H0 => (ps_for hp hc hi hg (hb F0 H0) hs).imp fun _ _ _ => rs_for n
theorem ds_appB {i : Nat} {apos : Pos} {q : Pos} (he : DE K W false X e f) (ho : i ∈ O := by decide) (hN : X.N[i]? = some x := by rfl) (hv : Vis X.env.scope x := by first | exact Or.inl rfl | exact Or.inr (Or.inl rfl) | exact Or.inr (Or.inr rfl)) (hd : (x == ("__debug__" : Str)) = false := by decide) (hcd : (x == ("__classdict__" : Str)) = false := by decide) (hK : X.K = K := by rfl)
    (hst : starEach [e] X.env = [(false, eval e X.env)] := by rfl) (hbase : attributeBase (.Name x p) "append" X.env (eval (.Name x p) X.env) = eval (.Name x p) X.env := by rfl) (hfew : ((backTo q (starEach [e] X.env)).all (fun x => !x.1) && (backToKw q (keywordEach [] X.env)).all (fun x => x.1.isSome) && decide ([e].length + ([] : List Keyword).length + (if ([] : List Keyword).isEmpty then 0 else 1) < 30)) = true := by rfl) (hplain : (backTo q (starEach [] X.env)).any (·.1) = false := by rfl) (hline : (apos.endLine == q.line) = true := by rfl) (hsw : swapsWith (.Call (.Attribute (.Name x p) "append" apos) [e] [] q) none pos.line X.env = pure false := by rfl) :
    DS K W ro X OL O O (.Expr (.Call (.Attribute (.Name x p) "append" apos) [e] [] q) pos) (sAppB O i f) := fun F0 H0 => by
  subst hK
  exact PS.imp (ps_expr (pe_bm PySem.F.plainAttrs_list PySem.F.slot_list_append PySem.F.type_list_append mt_append (pv i hN hv hd hcd) (pa_cons he pa_nil hst) hbase hfew hline hst hplain) hsw) fun _ _ _ => rs_appB ho
end
end L2
namespace L2
open PySem PySem.Spec PyProof.Rows
section
variable {X : Cx} {K : PySem.W.Frag} {W : Wish} {own : Bool}
theorem OpR.imp {f : Value → Value → Sem Value} {r r' : R2} (h : OpR X f r) (q : ∀ x y H Q, r' x y H Q → r x y H Q) : OpR X f r' := fun pins s σ H x y v u Q I rx ry z => h pins s σ H x y v u Q I rx ry (q x y H Q z)
theorem CallR.imp {f : Value} {r r' : List V → Hp → VK → Prop} (h : CallR X f r) (q : ∀ x H Q, r' x H Q → r x H Q) : CallR X f r' := fun pins s σ H x v Q I rx z => h pins s σ H x v Q I rx (q x H Q z)
theorem IxR.imp {r r' : R2} (h : IxR X r) (q : ∀ x y H Q, r' x y H Q → r x y H Q) : IxR X r' := fun va sl pins s σ H x y v u Q I rx ry z e => h va sl pins s σ H x y v u Q I rx ry (q x y H Q z) e
theorem Post.stuck {F H : Hp} {Q : VK} {P : Prop} (p : Post K W own F H (stk) Q) : P := (W.ns p).elim
theorem Post.int {F H : Hp} {Q : VK} {i : Int} (p : Post K W own F H (.ok (.int i)) Q) (s : Same F H) : Q (.int i) H := p _ F H (Step.refl s) (by cases own <;> rfl)
theorem Post.bl {F H : Hp} {Q : VK} {b : Bool} (p : Post K W own F H (.ok (.bl b)) Q) (s : Same F H) : Q (.bl b) H := p _ F H (Step.refl s) (by cases own <;> rfl)
theorem Post.str {F H : Hp} {Q : VK} {x : Str} (p : Post K W own F H (.ok (.str x)) Q) (s : Same F H) : Q (.str x) H := p _ F H (Step.refl s) (by cases own <;> rfl)
theorem Post.tup {F H : Hp} {Q : VK} {ds : List Dat} {xs : List V} {a : Addr} (p : Post K W own F H (.ok (.tup ds)) Q) (s : Same F H) (q : Deeps K F ds xs) (ha : H a = none) : Q (.ref a) (upd H a (.tup xs)) :=
  p _ _ _ (Step.lay s ha) (by
    have : Deep K (upd F a (.tup xs)) (.tup ds) (.ref a) := ⟨a, xs, rfl, SqT.of upd_same, q.mono (Same.upd (s.free ha))⟩
    cases own <;> exact this)
theorem Post.same {F H : Hp} {Q : VK} {ds : List Dat} {v : V} (p : Post K W own F H (.ok (.tup ds)) Q) (s : Same F H) (q : Deep K F (.tup ds) v) : Q v H := p _ F H (Step.refl s) (by cases own <;> exact q)
theorem Post.lst {F H : Hp} {Q : VK} {ds : List Dat} {xs : List V} {a : Addr} (p : Post K W true F H (.ok (.lst ds)) Q) (s : Same F H) (q : Deeps K F ds xs) (ha : H a = none) : Q (.ref a) (upd H a (.lst xs)) :=
  p _ F _ (Step.grow s ha) ⟨a, xs, rfl, upd_same, s.free ha, ha, q⟩
theorem two_ints {g : Dat → Dat → M Dat} (hg : ∀ a b, (∃ i j, a = .int i ∧ b = .int j) ∨ g a b = stk) {x y : V} {H : Hp} {Q : VK} (h : rD2 K W own g x y H Q) : ∃ F i j, Same F H ∧ x = .int i ∧ y = .int j ∧ Post K W own F H (g (.int i) (.int j)) Q := by
  obtain ⟨F, a, b, s, qa, qb, p⟩ := h
  rcases hg a b with ⟨i, j, rfl, rfl⟩ | e
  · exact ⟨F, i, j, s, qa, qb, p⟩
  · rw [e] at p; exact p.stuck
theorem o_mul : Op2 K W own X (binaryOp .Mult) mulD := op_mul.imp fun x y H Q h => by
  obtain ⟨F, i, j, s, e1, e2, p⟩ := two_ints (fun a b => by cases a <;> cases b <;> first | exact .inr rfl | exact .inl ⟨_, _, rfl, rfl⟩) h
  have p' : Post K W own F H (if (small64 i || small64 j) = true then .ok (.int (i * j)) else stk) Q := p
  by_cases hc : (small64 i || small64 j) = true
  · rw [if_pos hc] at p'
    refine ⟨i, j, e1, e2, ?_, p'.int s⟩
    unfold small64 at hc
    simp only [Bool.or_eq_true, Bool.and_eq_true, decide_eq_true_eq] at hc
    exact hc
  · rw [if_neg hc] at p'; exact p'.stuck
theorem log_small {j : Int} (h0 : 0 < j) (h1 : j < 18446744073709551616) : j.natAbs.log2 < 9000 := by
  have a : j.natAbs < 2 ^ 64 := by omega
  have b := (Nat.log2_lt (n := j.natAbs) (k := 64) (by omega)).mpr a
  omega
theorem op_fdiv64 : OpR X (binaryOp .FloorDiv) (rI (fun _ j => 0 < j ∧ j < 18446744073709551616) fun i j => .int (i / j)) := opI fun i j _ _ _ _ _ hc q => by
  obtain ⟨c1, c2⟩ := hc
  exact floordiv_int (by omega) (by rw [Int.fdiv_eq_ediv_of_nonneg i (by omega)]; exact q) (.inl (PyProof.noPylong_of_log2 (log_small c1 c2)))
theorem o_fdiv : Op2 K W own X (binaryOp .FloorDiv) fdivD := op_fdiv64.imp fun x y H Q h => by
  obtain ⟨F, i, j, s, e1, e2, p⟩ := two_ints (fun a b => by cases a <;> cases b <;> first | exact .inr rfl | exact .inl ⟨_, _, rfl, rfl⟩) h
  have p' : Post K W own F H (if (decide (0 < j) && decide (j < 18446744073709551616)) = true then .ok (.int (i / j)) else stk) Q := p
  by_cases hc : (decide (0 < j) && decide (j < 18446744073709551616)) = true
  · rw [if_pos hc] at p'
    simp only [Bool.and_eq_true, decide_eq_true_eq] at hc
    exact ⟨i, j, e1, e2, hc, p'.int s⟩
  · rw [if_neg hc] at p'; exact p'.stuck
theorem o_mod : Op2 K W own X (binaryOp .Mod) modD := op_mod.imp fun x y H Q h => by
  obtain ⟨F, i, j, s, e1, e2, p⟩ := two_ints (fun a b => by cases a <;> cases b <;> first | exact .inr rfl | exact .inl ⟨_, _, rfl, rfl⟩) h
  have p' : Post K W own F H (if 0 < j then .ok (.int (i % j)) else stk) Q := p
  by_cases hc : 0 < j
  · rw [if_pos hc] at p'
    exact ⟨i, j, e1, e2, hc, p'.int s⟩
  · rw [if_neg hc] at p'; exact p'.stuck
theorem o_pow : Op2 K W own X (binaryOp .Pow) powD := op_pow.imp fun x y H Q h => by
  obtain ⟨F, i, j, s, e1, e2, p⟩ := two_ints (fun a b => by cases a <;> cases b <;> first | exact .inr rfl | exact .inl ⟨_, _, rfl, rfl⟩) h
  have p' : Post K W own F H (if (decide (0 ≤ j) && decide (j ≤ 1000000) && decide (i.natAbs < 2 ^ 64)) = true then .ok (.int (i ^ j.toNat)) else stk) Q := p
  by_cases hc : (decide (0 ≤ j) && decide (j ≤ 1000000) && decide (i.natAbs < 2 ^ 64)) = true
  · rw [if_pos hc] at p'
    simp only [Bool.and_eq_true, decide_eq_true_eq] at hc
    exact ⟨i, j, e1, e2, ⟨hc.1.1, hc.1.2, hc.2⟩, p'.int s⟩
  · rw [if_neg hc] at p'; exact p'.stuck
theorem o_lt : Op2 K W own X (compareOp .Lt) ltD := op_lt.imp fun x y H Q h => by
  obtain ⟨F, i, j, s, e1, e2, p⟩ := two_ints (fun a b => by cases a <;> cases b <;> first | exact .inr rfl | exact .inl ⟨_, _, rfl, rfl⟩) h
  exact ⟨i, j, e1, e2, p.bl s⟩
theorem o_le : Op2 K W own X (compareOp .LtE) leD := op_le.imp fun x y H Q h => by
  obtain ⟨F, i, j, s, e1, e2, p⟩ := two_ints (fun a b => by cases a <;> cases b <;> first | exact .inr rfl | exact .inl ⟨_, _, rfl, rfl⟩) h
  exact ⟨i, j, e1, e2, p.bl s⟩
theorem o_gt : Op2 K W own X (compareOp .Gt) gtD := op_gt.imp fun x y H Q h => by
  obtain ⟨F, i, j, s, e1, e2, p⟩ := two_ints (fun a b => by cases a <;> cases b <;> first | exact .inr rfl | exact .inl ⟨_, _, rfl, rfl⟩) h
  exact ⟨i, j, e1, e2, p.bl s⟩
theorem o_ge : Op2 K W own X (compareOp .GtE) geD := op_ge.imp fun x y H Q h => by
  obtain ⟨F, i, j, s, e1, e2, p⟩ := two_ints (fun a b => by cases a <;> cases b <;> first | exact .inr rfl | exact .inl ⟨_, _, rfl, rfl⟩) h
  exact ⟨i, j, e1, e2, p.bl s⟩
theorem op_catL : OpR X (binaryOp .Add) (fun x y H Q => ∃ l b xs zs, x = .ref l ∧ y = .ref b ∧ SqL X.K H l xs ∧ SqL X.K H b zs ∧ xs.length + zs.length ≤ sizeLine ∧ ∀ p, H p = none → Q (.ref p) (upd H p (.lst (xs ++ zs)))) := by
  intro pins s σ H x y v u Q I rx ry h
  obtain ⟨l, b, xs, zs, rfl, rfl, hH, hB, hz, q⟩ := h
  cases rx
  cases ry
  obtain ⟨its, r, p1, hl⟩ := I.list hH
  obtain ⟨its2, r2, p2, hl2⟩ := I.list hB
  have z1 := r.length
  have z2 := r2.length
  obtain ⟨⟨cls, dd, data, sl⟩, ho, hc, n, hd⟩ := id p1.isList
  obtain ⟨⟨cls2, dd2, data2, sl2⟩, ho2, hc2, n2, hd2⟩ := id p2.isList
  simp only at hc hd hc2 hd2
  subst hc hd hc2 hd2
  refine concat_meets ⟨_, ho, rfl⟩ ⟨_, ho2, rfl⟩ noFill_list_add seq_list_add PySem.F.slot_list_add PySem.F.entry_list_add (PySem.F.args_list_add_2 _ _) (list_addW l b its.toArray its2.toArray n n2 dd dd2 sl sl2 (by simp only [List.size_toArray]; omega)) ⟨ho, ho2, ?_⟩
  have ea : its.toArray ++ its2.toArray = (its ++ its2).toArray := by simp
  rw [ea]
  exact ⟨.ref _, _, I.lnew (t' := s.toks) (r.append r2) (by rw [List.length_append]; omega), rfl, q _ I.fresh⟩
theorem op_cat3 : OpR X (binaryOp .Add) (fun x y H Q => ∃ a b xs ys, x = .ref a ∧ y = .ref b ∧ SqT X.K H a xs ∧ SqT X.K H b ys ∧ xs.length + ys.length ≤ sizeLine ∧ (xs = [] → Q (.ref b) H) ∧ (ys = [] → Q (.ref a) H) ∧ ∀ p, H p = none → Q (.ref p) (upd H p (.tup (xs ++ ys)))) := by
  intro pins s σ H x y v u Q I rx ry h
  obtain ⟨a, b, xs, ys, rfl, rfl, ha, hb, hz, q1, q2, q3⟩ := h
  by_cases hx : xs = []
  · subst hx
    cases rx
    cases ry
    obtain ⟨its, r1, p1, _⟩ := I.tuple ha
    obtain ⟨its2, r2, p2, _⟩ := I.tuple hb
    cases r1
    obtain ⟨⟨cls, dd, data, sl⟩, ho, hc, n, hd⟩ := id p1
    obtain ⟨⟨cls2, dd2, data2, sl2⟩, ho2, hc2, n2, hd2⟩ := id p2
    simp only at hc hd hc2 hd2
    subst hc hd hc2 hd2
    exact concat_meets ⟨_, ho, rfl⟩ ⟨_, ho2, rfl⟩ noFill_tuple_add seq_tuple_add PySem.F.slot_tuple_add PySem.F.entry_tuple_add (PySem.F.args_tuple_add_2 _ _)
      (tuple_addW0 a b #[] its2.toArray n n2 dd dd2 sl sl2 rfl) ⟨ho, ho2, ⟨.ref b, H, I, rfl, q1 rfl⟩⟩
  · exact op_catT pins s σ H _ _ v u Q I rx ry ⟨a, b, xs, ys, rfl, rfl, ha, hb, hx, hz, fun e => q2 e, fun _ p hp => q3 p hp⟩
theorem o_add (hK : X.K = K := by rfl) : Op2 K W true X (binaryOp .Add) addD := by
  subst hK
  refine (op_add.or (op_add_str.or (op_catL.or op_cat3))).imp fun x y H Q h => ?_
  obtain ⟨F, a, b, s, qa, qb, p⟩ := h
  cases a with
  | int i =>
    cases b with
    | int j => exact .inl ⟨i, j, qa, qb, p.int s⟩
    | _ => exact Post.stuck p
  | str z =>
    cases b with
    | str w =>
      have p' : Post X.K W true F H (if z.length + w.length ≤ sizeLine then .ok (.str (z ++ w)) else stk) Q := p
      by_cases hc : z.length + w.length ≤ sizeLine
      · rw [if_pos hc] at p'
        exact .inr (.inl ⟨z, w, qa, qb, hc, p'.str s⟩)
      · rw [if_neg hc] at p'; exact p'.stuck
    | _ => exact Post.stuck p
  | lst ds =>
    cases b with
    | lst es =>
      obtain ⟨a, xs, e1, t1, r1⟩ := qa
      obtain ⟨b, ys, e2, t2, r2⟩ := qb
      have p' : Post X.K W true F H (if ds.length + es.length ≤ sizeLine then .ok (.lst (ds ++ es)) else stk) Q := p
      by_cases hc : ds.length + es.length ≤ sizeLine
      · rw [if_pos hc] at p'
        exact .inr (.inr (.inl ⟨a, b, xs, ys, e1, e2, s.lst t1, s.lst t2, by rw [r1.length, r2.length]; exact hc, fun l hl => p'.lst s (r1.append r2) hl⟩))
      · rw [if_neg hc] at p'; exact p'.stuck
    | _ => exact Post.stuck p
  | tup ds =>
    cases b with
    | tup es =>
      obtain ⟨a, xs, e1, t1, r1⟩ := qa
      obtain ⟨b, ys, e2, t2, r2⟩ := qb
      have p' : Post X.K W true F H (if ds.length + es.length ≤ sizeLine then .ok (.tup (ds ++ es)) else stk) Q := p
      by_cases hc : ds.length + es.length ≤ sizeLine
      · rw [if_pos hc] at p'
        refine .inr (.inr (.inr ⟨a, b, xs, ys, e1, e2, s.tup t1, s.tup t2, by rw [r1.length, r2.length]; exact hc, fun e => ?_, fun e => ?_, fun l hl => p'.tup s (r1.append r2) hl⟩))
        · have z : ds = [] := by have := r1.length; rw [e] at this; exact List.length_eq_zero_iff.mp this.symm
          subst z
          exact p'.same s ⟨b, ys, rfl, t2, r2⟩
        · have z : es = [] := by have := r2.length; rw [e] at this; exact List.length_eq_zero_iff.mp this.symm
          subst z
          rw [List.append_nil] at p'
          exact p'.same s ⟨a, xs, rfl, t1, r1⟩
      · rw [if_neg hc] at p'; exact p'.stuck
    | _ => exact Post.stuck p
  | _ => exact Post.stuck p
theorem o_isN : Op2 K W own X (compareOp .Is) isND := op_isN.imp fun x y H Q h => by
  obtain ⟨F, a, b, s, qa, qb, p⟩ := h
  have key : ∀ {k : Bool}, isND a b = .ok (.bl k) → b = .non → (decide (x = V.non) = k) → y = V.non ∧ Q (.bl (decide (x = V.non))) H := fun {k} e1 e2 e3 => by
    subst e2
    rw [e1] at p
    rw [e3]
    exact ⟨qb, p.bl s⟩
  cases b with
  | non =>
    cases a with
    | non => exact key rfl rfl (by rw [show x = .non from qa]; rfl)
    | bl k => exact key rfl rfl (by rw [show x = .bl k from qa]; rfl)
    | int k => exact key rfl rfl (by rw [show x = .int k from qa]; rfl)
    | str k => exact key rfl rfl (by rw [show x = .str k from qa]; rfl)
    | tup ds => obtain ⟨l, xs, e, _⟩ := qa; exact key rfl rfl (by rw [e]; rfl)
    | lst ds => obtain ⟨l, xs, e, _⟩ := qa; exact key rfl rfl (by rw [e]; rfl)
    | ins C fs => obtain ⟨l, dx, xs, e, _⟩ := qa; exact key rfl rfl (by rw [e]; rfl)
    | dic ks => obtain ⟨l, xs, e, _⟩ := qa; exact key rfl rfl (by rw [e]; rfl)
    | dil ks => obtain ⟨l, xs, e, _⟩ := qa; exact key rfl rfl (by rw [e]; rfl)
  | _ => cases a <;> exact Post.stuck p
theorem o_notN : Op2 K W own X (compareOp .IsNot) notND := op_notN.imp fun x y H Q h => by
  obtain ⟨F, a, b, s, qa, qb, p⟩ := h
  have key : ∀ {k : Bool}, notND a b = .ok (.bl k) → b = .non → ((!decide (x = V.non)) = k) → y = V.non ∧ Q (.bl (!decide (x = V.non))) H := fun {k} e1 e2 e3 => by
    subst e2
    rw [e1] at p
    rw [e3]
    exact ⟨qb, p.bl s⟩
  cases b with
  | non =>
    cases a with
    | non => exact key rfl rfl (by rw [show x = .non from qa]; rfl)
    | bl k => exact key rfl rfl (by rw [show x = .bl k from qa]; rfl)
    | int k => exact key rfl rfl (by rw [show x = .int k from qa]; rfl)
    | str k => exact key rfl rfl (by rw [show x = .str k from qa]; rfl)
    | tup ds => obtain ⟨l, xs, e, _⟩ := qa; exact key rfl rfl (by rw [e]; rfl)
    | lst ds => obtain ⟨l, xs, e, _⟩ := qa; exact key rfl rfl (by rw [e]; rfl)
    | ins C fs => obtain ⟨l, dx, xs, e, _⟩ := qa; exact key rfl rfl (by rw [e]; rfl)
    | dic ks => obtain ⟨l, xs, e, _⟩ := qa; exact key rfl rfl (by rw [e]; rfl)
    | dil ks => obtain ⟨l, xs, e, _⟩ := qa; exact key rfl rfl (by rw [e]; rfl)
  | _ => cases a <;> exact Post.stuck p
theorem getI_at {F H : Hp} {Q : VK} {ds : List Dat} {xs : List V} {i : Int} (p : Post K W false F H (getI ds i) Q) (s : Same F H) (r : Deeps K F ds xs) : ∃ v, atI xs i = some v ∧ Q v H := by
  unfold getI at p
  cases e : atI ds i with
  | none => rw [e] at p; exact Post.stuck p
  | some d =>
    rw [e] at p
    unfold atI at e
    cases hj : ixN ds.length i with
    | none => rw [hj] at e; cases e
    | some j =>
      rw [hj] at e
      obtain ⟨v, e1, q⟩ := r.get (show ds[j]? = some d from e)
      refine ⟨v, ?_, p v F H (Step.refl s) q⟩
      unfold atI
      rw [r.length, hj]
      exact e1
theorem x_ix (hK : X.K = K := by rfl) : IxR X (rD2 K W false ixD) := by
  subst hK
  refine ix_seq.imp fun x y H Q h => ?_
  obtain ⟨F, a, b, s, qa, qb, p⟩ := h
  cases a with
  | lst ds =>
    cases b with
    | int i =>
      obtain ⟨a, xs, e1, t1, r1⟩ := qa
      obtain ⟨v, e2, q⟩ := getI_at p s r1
      exact .inl ⟨a, xs, i, v, e1, qb, s.lst t1, e2, q⟩
    | _ => exact Post.stuck p
  | tup ds =>
    cases b with
    | int i =>
      obtain ⟨a, xs, e1, t1, r1⟩ := qa
      obtain ⟨v, e2, q⟩ := getI_at p s r1
      exact .inr (.inl ⟨a, xs, i, v, e1, qb, s.tup t1, e2, q⟩)
    | _ => exact Post.stuck p
  | _ => exact Post.stuck p
theorem c_len (hK : X.K = K := by rfl) : CallD K W own X (.builtin "len") lenD := by
  subst hK
  refine call_len_seq.imp fun xs H Q h => ?_
  obtain ⟨F, ds, s, q, p⟩ := h
  match ds, q, p with
  | [.lst es], ⟨v, vs, e, ⟨a, ys, e1, t, r⟩, e2⟩, p =>
    refine ⟨a, ys, by rw [e, e1, show vs = [] from e2], .inl (s.lst t), ?_⟩
    rw [r.length]
    exact Post.int (own := own) p s
  | [.tup es], ⟨v, vs, e, ⟨a, ys, e1, t, r⟩, e2⟩, p =>
    refine ⟨a, ys, by rw [e, e1, show vs = [] from e2], .inr (s.tup t), ?_⟩
    rw [r.length]
    exact Post.int (own := own) p s
  | [], _, p => exact Post.stuck p
  | [.non], _, p => exact Post.stuck p
  | [.bl _], _, p => exact Post.stuck p
  | [.int _], _, p => exact Post.stuck p
  | [.str _], _, p => exact Post.stuck p
  | [.ins _ _], _, p => exact Post.stuck p
  | [.dic _], _, p => exact Post.stuck p
  | [.dil _], _, p => exact Post.stuck p
  | .non :: _ :: _, _, p => exact Post.stuck p
  | .bl _ :: _ :: _, _, p => exact Post.stuck p
  | .int _ :: _ :: _, _, p => exact Post.stuck p
  | .str _ :: _ :: _, _, p => exact Post.stuck p
  | .ins _ _ :: _ :: _, _, p => exact Post.stuck p
  | .dic _ :: _ :: _, _, p => exact Post.stuck p
  | .dil _ :: _ :: _, _, p => exact Post.stuck p
  | .lst _ :: _ :: _, _, p => exact Post.stuck p
  | .tup _ :: _ :: _, _, p => exact Post.stuck p
end
end L2
namespace L2
open PySem PySem.Spec PyProof.Rows
section
variable {X : Cx} {K : PySem.W.Frag} {W : Wish} {own ro : Bool}
theorem one_arg {g : List Dat → M Dat} (hg : ∀ ds, (∃ d, ds = [d]) ∨ g ds = stk) {xs : List V} {H : Hp} {Q : VK} (h : rDL K W own g xs H Q) : ∃ F d x, Same F H ∧ xs = [x] ∧ Deep K F d x ∧ Post K W own F H (g [d]) Q := by
  obtain ⟨F, ds, s, q, p⟩ := h
  rcases hg ds with ⟨d, rfl⟩ | e
  · obtain ⟨v, vs, e, q1, e2⟩ := q
    exact ⟨F, d, v, s, by rw [e, show vs = [] from e2], q1, p⟩
  · rw [e] at p; exact p.stuck
theorem bools_deep {F : Hp} : ∀ {ds : List Dat} {xs : List V} {bs : List Bool}, Deeps K F ds xs → boolsD ds = .ok bs → xs = bs.map V.bl
  | [], _, _, q, e => by cases e; exact q
  | d :: ds, _, bs, ⟨v, vs, e1, q, r⟩, e => by
    cases d with
    | bl b =>
      cases e2 : boolsD ds with
      | error x => simp only [boolsD, asB, bind_ok, e2, bind_er] at e; cases e
      | ok cs =>
        simp only [boolsD, asB, bind_ok, e2] at e
        cases e
        rw [e1, show v = .bl b from q, bools_deep r e2]
        rfl
    | _ => cases e
theorem boolsD_err : ∀ {ds : List Dat} {e : Err}, boolsD ds = .error e → e = .stuck
  | [], _, h => by cases h
  | d :: ds, e, h => by
    cases d with
    | bl b =>
      cases e2 : boolsD ds with
      | error x => simp only [boolsD, asB, bind_ok, e2, bind_er] at h; cases h; exact boolsD_err e2
      | ok cs => simp only [boolsD, asB, bind_ok, e2] at h; cases h
    | _ => cases h; rfl
theorem ints_deep {F : Hp} : ∀ {ds : List Dat} {xs : List V} {bs : List Int}, Deeps K F ds xs → intsD ds = .ok bs → xs = bs.map V.int
  | [], _, _, q, e => by cases e; exact q
  | d :: ds, _, bs, ⟨v, vs, e1, q, r⟩, e => by
    cases d with
    | int b =>
      cases e2 : intsD ds with
      | error x => simp only [intsD, asI, bind_ok, e2, bind_er] at e; cases e
      | ok cs =>
        simp only [intsD, asI, bind_ok, e2] at e
        cases e
        rw [e1, show v = .int b from q, ints_deep r e2]
        rfl
    | _ => cases e
theorem intsD_err : ∀ {ds : List Dat} {e : Err}, intsD ds = .error e → e = .stuck
  | [], _, h => by cases h
  | d :: ds, e, h => by
    cases d with
    | int b =>
      cases e2 : intsD ds with
      | error x => simp only [intsD, asI, bind_ok, e2, bind_er] at h; cases h; exact intsD_err e2
      | ok cs => simp only [intsD, asI, bind_ok, e2] at h; cases h
    | _ => cases h; rfl
theorem c_all (hc : X.calm = true) (hK : X.K = K := by rfl) : CallD K W own X (.builtin "all") allD := by
  subst hK
  refine (call_all hc).imp fun xs H Q h => ?_
  obtain ⟨F, d, x, s, e, q, p⟩ := one_arg (fun ds => by match ds with | [d] => exact .inl ⟨d, rfl⟩ | [] => exact .inr rfl | a :: b :: c => exact .inr (by cases a <;> rfl)) h
  cases d with
  | lst ds =>
    obtain ⟨a, ys, e1, t, r⟩ := q
    have p' : Post X.K W own F H ((boolsD ds).bind fun bs => .ok (.bl (bs.all id))) Q := p
    cases eb : boolsD ds with
    | error z => rw [eb] at p'; have := boolsD_err eb; subst this; exact Post.stuck p'
    | ok bs =>
      rw [eb] at p'
      refine ⟨a, bs, by rw [e, e1], ?_, Post.bl (own := own) p' s⟩
      rw [← bools_deep r eb]
      exact s.lst t
  | _ => exact Post.stuck p
theorem c_list (hK : X.K = K := by rfl) : CallD K W true X (.type "list") listD := by
  subst hK
  refine call_list_of.imp fun xs H Q h => ?_
  obtain ⟨F, d, x, s, e, q, p⟩ := one_arg (fun ds => by match ds with | [d] => exact .inl ⟨d, rfl⟩ | [] => exact .inr rfl | a :: b :: c => exact .inr (by cases a <;> rfl)) h
  cases d with
  | lst ds =>
    obtain ⟨a, ys, e1, t, r⟩ := q
    exact ⟨a, ys, by rw [e, e1], .inl (s.lst t), fun l hl => Post.lst p s r hl⟩
  | tup ds =>
    obtain ⟨a, ys, e1, t, r⟩ := q
    exact ⟨a, ys, by rw [e, e1], .inr (s.tup t), fun l hl => Post.lst p s r hl⟩
  | _ => exact Post.stuck p
theorem c_int : CallD K W own X (.type "int") intD := call_int1.imp fun xs H Q h => by
  obtain ⟨F, d, x, s, e, q, p⟩ := one_arg (fun ds => by match ds with | [d] => exact .inl ⟨d, rfl⟩ | [] => exact .inr rfl | a :: b :: c => exact .inr (by cases a <;> rfl)) h
  cases d with
  | int i => exact .inl ⟨i, by rw [e, show x = .int i from q], Post.int (own := own) p s⟩
  | bl b => exact .inr ⟨b, by rw [e, show x = .bl b from q], Post.int (own := own) p s⟩
  | _ => exact Post.stuck p
end
section
variable {X : Cx} {K : PySem.W.Frag} {W : Wish} {own ro : Bool}
theorem SqL.inj {pins : List (Addr × Obj)} {σ : St} {H : Hp} {s : Shared} {a : Addr} {xs ys : List V} (I : Inv X pins σ H s) (h : SqL X.K H a xs) (h' : SqL X.K H a ys) : xs = ys := by
  obtain ⟨i1, r1, p1, _⟩ := I.list h
  obtain ⟨i2, r2, p2, _⟩ := I.list h'
  obtain ⟨o, n, e, _, _, d⟩ := p1
  obtain ⟨o', n', e', _, _, d'⟩ := p2
  rw [e] at e'
  cases e'
  rw [d] at d'
  injection d' with d1 _
  have : i1 = i2 := by simpa using congrArg Array.toList d1
  subst this
  exact r1.inj r2
theorem SqT.inj {pins : List (Addr × Obj)} {σ : St} {H : Hp} {s : Shared} {a : Addr} {xs ys : List V} (I : Inv X pins σ H s) (h : SqT X.K H a xs) (h' : SqT X.K H a ys) : xs = ys := by
  obtain ⟨i1, r1, p1, _⟩ := I.tuple h
  obtain ⟨i2, r2, p2, _⟩ := I.tuple h'
  obtain ⟨o, e, _, n, d⟩ := p1
  obtain ⟨o', e', _, n', d'⟩ := p2
  rw [e] at e'
  cases e'
  rw [d] at d'
  injection d' with d1 _
  have : i1 = i2 := by simpa using congrArg Array.toList d1
  subst this
  exact r1.inj r2
theorem Deeps.all_eq {F : Hp} (e : Nat → Bool) : ∀ {ds es : List Dat}, ds.length = es.length → (∀ (j : Nat) a b, ds[j]? = some a → es[j]? = some b → e j = eqD a b) → (List.range ds.length).all e = eqDs ds es := by
  intro ds
  induction ds generalizing e with
  | nil => intro es h _; cases es with
    | nil => rfl
    | cons _ _ => simp at h
  | cons d ds ih =>
    intro es h q
    cases es with
    | nil => simp at h
    | cons b es =>
      rw [List.length_cons, List.range_succ_eq_map, List.all_cons, List.all_map, eqDs]
      rw [q 0 d b rfl rfl]
      congr 1
      exact ih (e ∘ Nat.succ) (by simpa using h) fun j x y hx hy => q (j + 1) x y (by simpa using hx) (by simpa using hy)
theorem eqDs_len : ∀ {ds es : List Dat}, ds.length ≠ es.length → eqDs ds es = false
  | [], [], h => absurd rfl h
  | [], _ :: _, _ => rfl
  | _ :: _, [], _ => rfl
  | d :: ds, e :: es, h => by
    rw [eqDs, eqDs_len (ds := ds) (es := es) (fun z => h (by simp [z])), Bool.and_false]
theorem eqDs_zip (e : Nat → Bool) : ∀ {ds es : List Dat}, (∀ (j : Nat) a b, ds[j]? = some a → es[j]? = some b → e j = eqD a b) → ((List.range (min ds.length es.length)).all e && ds.length == es.length) = eqDs ds es := by
  intro ds es q
  by_cases hl : ds.length = es.length
  · have e1 : min ds.length es.length = ds.length := by omega
    rw [e1, Deeps.all_eq (F := fun _ => none) e hl q, hl, beq_self_eq_true, Bool.and_true]
  · rw [eqDs_len hl]
    have : (ds.length == es.length) = false := by simpa using hl
    rw [this, Bool.and_false]
mutual
theorem eqD_refl : ∀ {d : Dat} {n : Nat}, okE d n = true → eqD d d = true
  | .non, _, _ => rfl
  | .bl b, _, _ => by simp [eqD]
  | .int i, _, _ => by simp [eqD]
  | .str x, _, _ => by simp [eqD]
  | .tup ds, 0, h => by simp [okE] at h
  | .tup ds, n + 1, h => by simp only [okE] at h; simp only [eqD]; exact eqDs_refl h
  | .lst ds, 0, h => by simp [okE] at h
  | .lst ds, n + 1, h => by simp only [okE] at h; simp only [eqD]; exact eqDs_refl h
  | .ins _ _, _, h => by simp [okE] at h
  | .dic _, _, h => by simp [okE] at h
  | .dil _, _, h => by simp [okE] at h
theorem eqDs_refl : ∀ {ds : List Dat} {n : Nat}, okEs ds n = true → eqDs ds ds = true
  | [], _, _ => rfl
  | d :: ds, n, h => by
    simp only [okEs, Bool.and_eq_true] at h
    simp only [eqDs, eqD_refl h.1, eqDs_refl h.2, Bool.and_self]
end
theorem okEs_get : ∀ {ds : List Dat} {n i : Nat} {d : Dat}, okEs ds n = true → ds[i]? = some d → okE d n = true
  | [], _, _, _, _, h => by simp at h
  | _ :: _, _, 0, _, h, e => by
    simp only [okEs, Bool.and_eq_true] at h
    simp at e
    rw [← e]; exact h.1
  | _ :: _, _, i + 1, _, h, e => by
    simp only [okEs, Bool.and_eq_true] at h
    exact okEs_get h.2 (by simpa using e)
end
noncomputable def eqAtJ (ds es : List Dat) (j : Nat) : Bool := match ds[j]?, es[j]? with
  | some a, some b => eqD a b
  | _, _ => true
inductive Sh (s : Shared) : Dat → Value → Prop
  | non : Sh s .non .none
  | bl (b : Bool) : Sh s (.bl b) (.bool b)
  | int (i : Int) (t : Nat) : Sh s (.int i) (.int i t)
  | str (x : Str) (t : Nat) : Sh s (.str x) (.str x t)
  | tup {ds : List Dat} {l : Addr} {is : Array Value} (p : s.heap.IsTuple l is) : Sh s (.tup ds) (.ref l)
  | lst {ds : List Dat} {l : Addr} {is : Array Value} (p : s.heap.IsList l is) : Sh s (.lst ds) (.ref l)
noncomputable def sq : Dat → Dat → Bool
  | .tup _, .tup _ => true
  | .lst _, .lst _ => true
  | _, _ => false
theorem sq_inv {a b : Dat} (h : sq a b = true) : (∃ ds es, a = .tup ds ∧ b = .tup es) ∨ ∃ ds es, a = .lst ds ∧ b = .lst es := by
  unfold sq at h
  split at h
  · exact .inl ⟨_, _, rfl, rfl⟩
  · exact .inr ⟨_, _, rfl, rfl⟩
  · cases h
theorem eqAt_U {s : Shared} {a b : Dat} {u v : Value} {A : Around} (ha : Sh s a u) (hb : Sh s b v) (hu : A.units < cLine) : sq a b = true ∨ SeqAt.EqAt A s u v (eqD a b) := match ha, hb with
  | .non, .non => .inr (.same _)
  | .non, .bl b => .inr (.none_bool b)
  | .non, .int b t2 => .inr (.none_int b t2)
  | .non, .str b t2 => .inr (.none_str b t2)
  | .non, .tup q => .inr (.none_tuple q hu)
  | .non, .lst q => .inr (.none_list q hu)
  | .bl a, .non => .inr (.bool_none a)
  | .bl a, .bl b => .inr (.bool_bool a b)
  | .bl a, .int b t2 => .inr (.bool_int a b t2)
  | .bl a, .str b t2 => .inr (.bool_str a b t2)
  | .bl a, .tup q => .inr (.bool_tuple a q hu)
  | .bl a, .lst q => .inr (.bool_list a q hu)
  | .int a t, .non => .inr (.int_none a t)
  | .int a t, .bl b => .inr (.int_bool a t b)
  | .int a t, .int b t2 => .inr (.int_int a t b t2)
  | .int a t, .str b t2 => .inr (.int_str a t b t2)
  | .int a t, .tup q => .inr (.int_tuple a t q hu)
  | .int a t, .lst q => .inr (.int_list a t q hu)
  | .str a t, .non => .inr (.str_none a t)
  | .str a t, .bl b => .inr (.str_bool a t b)
  | .str a t, .int b t2 => .inr (.str_int a t b t2)
  | .str a t, .str b t2 => .inr (.str_str a t b t2)
  | .str a t, .tup q => .inr (.str_tuple a t q hu)
  | .str a t, .lst q => .inr (.str_list a t q hu)
  | .tup p, .non => .inr (.tuple_none p hu)
  | .tup p, .bl b => .inr (.tuple_bool b p hu)
  | .tup p, .int b t2 => .inr (.tuple_int b t2 p hu)
  | .tup p, .str b t2 => .inr (.tuple_str b t2 p hu)
  | .tup _, .tup _ => .inl rfl
  | .tup p, .lst q => .inr (.tuple_list p q hu)
  | .lst p, .non => .inr (.list_none p hu)
  | .lst p, .bl b => .inr (.list_bool b p hu)
  | .lst p, .int b t2 => .inr (.list_int b t2 p hu)
  | .lst p, .str b t2 => .inr (.list_str b t2 p hu)
  | .lst p, .tup q => .inr (.list_tuple p q hu)
  | .lst _, .lst _ => .inl rfl
theorem rcAt_U {s : Shared} {a b : Dat} {u v : Value} {A : Around} (ha : Sh s a u) (hb : Sh s b v) (hu : A.units < cLine) : sq a b = true ∨ SeqAt.RcAt A s u v (eqD a b) := match ha, hb with
  | .non, .non => .inr (.none_none)
  | .non, .bl b => .inr (.none_bool b)
  | .non, .int b t2 => .inr (.none_int b t2)
  | .non, .str b t2 => .inr (.none_str b t2)
  | .non, .tup q => .inr (.none_tuple q hu)
  | .non, .lst q => .inr (.none_list q hu)
  | .bl a, .non => .inr (.bool_none a)
  | .bl a, .bl b => .inr (.bool_bool a b)
  | .bl a, .int b t2 => .inr (.bool_int a b t2)
  | .bl a, .str b t2 => .inr (.bool_str a b t2)
  | .bl a, .tup q => .inr (.bool_tuple a q hu)
  | .bl a, .lst q => .inr (.bool_list a q hu)
  | .int a t, .non => .inr (.int_none a t)
  | .int a t, .bl b => .inr (.int_bool a t b)
  | .int a t, .int b t2 => .inr (.int_int a t b t2)
  | .int a t, .str b t2 => .inr (.int_str a t b t2)
  | .int a t, .tup q => .inr (.int_tuple a t q hu)
  | .int a t, .lst q => .inr (.int_list a t q hu)
  | .str a t, .non => .inr (.str_none a t)
  | .str a t, .bl b => .inr (.str_bool a t b)
  | .str a t, .int b t2 => .inr (.str_int a t b t2)
  | .str a t, .str b t2 => .inr (.str_str a t b t2)
  | .str a t, .tup q => .inr (.str_tuple a t q hu)
  | .str a t, .lst q => .inr (.str_list a t q hu)
  | .tup p, .non => .inr (.tuple_none p hu)
  | .tup p, .bl b => .inr (.tuple_bool b p hu)
  | .tup p, .int b t2 => .inr (.tuple_int b t2 p hu)
  | .tup p, .str b t2 => .inr (.tuple_str b t2 p hu)
  | .tup _, .tup _ => .inl rfl
  | .tup p, .lst q => .inr (.tuple_list p q hu)
  | .lst p, .non => .inr (.list_none p hu)
  | .lst p, .bl b => .inr (.list_bool b p hu)
  | .lst p, .int b t2 => .inr (.list_int b t2 p hu)
  | .lst p, .str b t2 => .inr (.list_str b t2 p hu)
  | .lst p, .tup q => .inr (.list_tuple p q hu)
  | .lst _, .lst _ => .inl rfl
theorem rcNeAt_U {s : Shared} {a b : Dat} {u v : Value} {A : Around} (ha : Sh s a u) (hb : Sh s b v) (hu : A.units < cLine) : sq a b = true ∨ SeqAt.RcNeAt A s u v (!eqD a b) := match ha, hb with
  | .non, .non => .inr (.none_none)
  | .non, .bl b => .inr (.none_bool b)
  | .non, .int b t2 => .inr (.none_int b t2)
  | .non, .str b t2 => .inr (.none_str b t2)
  | .non, .tup q => .inr (.none_tuple q hu)
  | .non, .lst q => .inr (.none_list q hu)
  | .bl a, .non => .inr (.bool_none a)
  | .bl a, .bl b => .inr (.bool_bool a b)
  | .bl a, .int b t2 => .inr (.bool_int a b t2)
  | .bl a, .str b t2 => .inr (.bool_str a b t2)
  | .bl a, .tup q => .inr (.bool_tuple a q hu)
  | .bl a, .lst q => .inr (.bool_list a q hu)
  | .int a t, .non => .inr (.int_none a t)
  | .int a t, .bl b => .inr (.int_bool a t b)
  | .int a t, .int b t2 => .inr (.int_int a t b t2)
  | .int a t, .str b t2 => .inr (.int_str a t b t2)
  | .int a t, .tup q => .inr (.int_tuple a t q hu)
  | .int a t, .lst q => .inr (.int_list a t q hu)
  | .str a t, .non => .inr (.str_none a t)
  | .str a t, .bl b => .inr (.str_bool a t b)
  | .str a t, .int b t2 => .inr (.str_int a t b t2)
  | .str a t, .str b t2 => .inr (.str_str a t b t2)
  | .str a t, .tup q => .inr (.str_tuple a t q hu)
  | .str a t, .lst q => .inr (.str_list a t q hu)
  | .tup p, .non => .inr (.tuple_none p hu)
  | .tup p, .bl b => .inr (.tuple_bool b p hu)
  | .tup p, .int b t2 => .inr (.tuple_int b t2 p hu)
  | .tup p, .str b t2 => .inr (.tuple_str b t2 p hu)
  | .tup _, .tup _ => .inl rfl
  | .tup p, .lst q => .inr (.tuple_list p q hu)
  | .lst p, .non => .inr (.list_none p hu)
  | .lst p, .bl b => .inr (.list_bool b p hu)
  | .lst p, .int b t2 => .inr (.list_int b t2 p hu)
  | .lst p, .str b t2 => .inr (.list_str b t2 p hu)
  | .lst p, .tup q => .inr (.list_tuple p q hu)
  | .lst _, .lst _ => .inl rfl
section
variable {X : Cx} {pins : List (Addr × Obj)} {σ : St} {F H : Hp} {s : Shared}
theorem sh_of (I : Inv X pins σ H s) (hF : Same F H) {d : Dat} {x : V} {u : Value} {n : Nat} (o : okE d n = true) (q : Deep X.K F d x) (r : RelV x u) : Sh s d u := by
  cases d with
  | non => cases (show x = .non from q); cases r; exact .non
  | bl b => cases (show x = .bl b from q); cases r; exact .bl b
  | int i => cases (show x = .int i from q); obtain ⟨t, rfl⟩ := r; exact .int i t
  | str y => cases (show x = .str y from q); obtain ⟨t, rfl⟩ := r; exact .str y t
  | tup ds =>
    obtain ⟨l, xs, e, t, _⟩ := q
    subst e
    cases r
    obtain ⟨is, _, p, _⟩ := I.tuple (hF.tup t)
    exact .tup (show s.heap.IsTuple l is.toArray from p)
  | lst ds =>
    obtain ⟨l, xs, e, t, _⟩ := q
    subst e
    cases r
    obtain ⟨is, _, p, _⟩ := I.list (hF.lst t)
    exact .lst p.isList
  | _ => simp [okE] at o
theorem deeps_inj {n : Nat} (ih : ∀ (d e : Dat) {v : V}, Deep X.K F d v → Deep X.K F e v → okE d n = true → okE e n = true → d = e) : ∀ (ds es : List Dat) {xs : List V}, Deeps X.K F ds xs → Deeps X.K F es xs → okEs ds n = true → okEs es n = true → ds = es
  | [], [], _, _, _, _, _ => rfl
  | [], _ :: _, _, q, ⟨_, _, e, _⟩, _, _ => by rw [show _ = [] from q] at e; cases e
  | _ :: _, [], _, ⟨_, _, e, _⟩, q, _, _ => by rw [show _ = [] from q] at e; cases e
  | d :: ds, e :: es, _, ⟨v, vs, e1, q1, r1⟩, ⟨w, ws, e2, q2, r2⟩, o1, o2 => by
    rw [e1] at e2
    cases e2
    simp only [okEs, Bool.and_eq_true] at o1 o2
    rw [ih d e q1 q2 o1.1 o2.1, deeps_inj ih ds es r1 r2 o1.2 o2.2]
theorem deep_one {d e : Dat} {v : V} {n : Nat} (hd : sq d d = false) (q : Deep X.K F d v) (r : Deep X.K F e v) (o1 : okE d n = true) (o2 : okE e n = true) : d = e := by
  cases d <;> first | (cases hd; done) | (simp [okE] at o1; done) | (simp only [Deep] at q; subst q)
  all_goals cases e <;> first | (simp [okE] at o2; done) | (simp only [Deep] at r; first | (obtain ⟨_, _, z, _⟩ := r; cases z; done) | (cases r <;> rfl))
theorem deep_inj (I : Inv X pins σ H s) (hF : Same F H) : ∀ (n : Nat) (d e : Dat) {v : V}, Deep X.K F d v → Deep X.K F e v → okE d n = true → okE e n = true → d = e
  | n, .tup ds, e, v, ⟨l, xs, e1, h1, r1⟩, r, o1, o2 => by
    subst e1
    cases n with
    | zero => simp [okE] at o1
    | succ n =>
      cases e with
      | tup es =>
        obtain ⟨l2, ys, e2, h2, r2⟩ := r
        cases e2
        cases SqT.inj I (hF.tup h1) (hF.tup h2)
        rw [deeps_inj (deep_inj I hF n) _ _ r1 r2 (by simpa only [okE] using o1) (by simpa only [okE] using o2)]
      | lst es =>
        obtain ⟨l2, ys, e2, h2, r2⟩ := r
        cases e2
        obtain ⟨i1, _, p1, _⟩ := I.list (hF.lst h2)
        obtain ⟨i2, _, p2, _⟩ := I.tuple (hF.tup h1)
        exact absurd rfl (SeqAt.ne_of_list_tuple p1.isList (show s.heap.IsTuple l i2.toArray from p2))
      | _ => first | (simp [okE] at o2; done) | (simp only [Deep] at r; cases r)
  | n, .lst ds, e, v, ⟨l, xs, e1, h1, r1⟩, r, o1, o2 => by
    subst e1
    cases n with
    | zero => simp [okE] at o1
    | succ n =>
      cases e with
      | lst es =>
        obtain ⟨l2, ys, e2, h2, r2⟩ := r
        cases e2
        cases SqL.inj I (hF.lst h1) (hF.lst h2)
        rw [deeps_inj (deep_inj I hF n) _ _ r1 r2 (by simpa only [okE] using o1) (by simpa only [okE] using o2)]
      | tup es =>
        obtain ⟨l2, ys, e2, h2, r2⟩ := r
        cases e2
        obtain ⟨i1, _, p1, _⟩ := I.list (hF.lst h1)
        obtain ⟨i2, _, p2, _⟩ := I.tuple (hF.tup h2)
        exact absurd rfl (SeqAt.ne_of_list_tuple p1.isList (show s.heap.IsTuple l i2.toArray from p2))
      | _ => first | (simp [okE] at o2; done) | (simp only [Deep] at r; cases r)
  | _, .non, _, _, q, r, o1, o2 => deep_one rfl q r o1 o2
  | _, .bl _, _, _, q, r, o1, o2 => deep_one rfl q r o1 o2
  | _, .int _, _, _, q, r, o1, o2 => deep_one rfl q r o1 o2
  | _, .str _, _, _, q, r, o1, o2 => deep_one rfl q r o1 o2
  | _, .ins _ _, _, _, _, _, o1, _ => by simp [okE] at o1
  | _, .dic _, _, _, _, _, o1, _ => by simp [okE] at o1
  | _, .dil _, _, _, _, _, o1, _ => by simp [okE] at o1
termination_by n => n
theorem rcAt_S {a b : Dat} {x y : V} {u v : Value} {A : Around} (I : Inv X pins σ H s) (hF : Same F H) (hs : sq a b = true) (qa : Deep X.K F a x) (qb : Deep X.K F b y) (ra : RelV x u) (rb : RelV y v) (hu : A.units < cLine)
    (ih : ∀ (ds es : List Dat) (j : Nat) (d1 d2 : Dat) (x y : V) (u v : Value), (a = .tup ds ∧ b = .tup es ∨ a = .lst ds ∧ b = .lst es) → ds[j]? = some d1 → es[j]? = some d2 → Deep X.K F d1 x → Deep X.K F d2 y → RelV x u → RelV y v → SeqAt.EqAt A.in1 s u v (eqD d1 d2)) : SeqAt.RcAt A s u v (eqD a b) := by
  rcases sq_inv hs with ⟨ds, es, rfl, rfl⟩ | ⟨ds, es, rfl, rfl⟩
  · skip
    obtain ⟨l1, xs, e1, h1, r1⟩ := qa
    subst e1
    cases ra
    obtain ⟨is, w1, p1, _⟩ := I.tuple (hF.tup h1)
    obtain ⟨l2, ys, e2, h2, r2⟩ := qb
    subst e2
    cases rb
    obtain ⟨js, w2, p2, _⟩ := I.tuple (hF.tup h2)
    have z1 := w1.length
    have z2 := w2.length
    have y1 := r1.length
    have y2 := r2.length
    have q := SeqAt.RcAt.tuples (A := A) (e := eqAtJ ds es) (show s.heap.IsTuple l1 is.toArray from p1) (show s.heap.IsTuple l2 js.toArray from p2) hu (fun j h1 h2 => by
      obtain ⟨x', f1, g1⟩ := w1.atA h1
      obtain ⟨y', f2, g2⟩ := w2.atA h2
      obtain ⟨d1, k1, m1⟩ := r1.at f1
      obtain ⟨d2, k2, m2⟩ := r2.at f2
      rw [show eqAtJ ds es j = eqD d1 d2 by simp only [eqAtJ, k1, k2]]
      exact ih ds es j d1 d2 x' y' _ _ (.inl ⟨rfl, rfl⟩) k1 k2 m1 m2 g1 g2)
    rw [show is.toArray.size = ds.length by simp; omega, show js.toArray.size = es.length by simp; omega, eqDs_zip _ (fun j a b h1 h2 => by simp only [eqAtJ, h1, h2])] at q
    exact q
  · skip
    obtain ⟨l1, xs, e1, h1, r1⟩ := qa
    subst e1
    cases ra
    obtain ⟨is, w1, p1, _⟩ := I.list (hF.lst h1)
    obtain ⟨l2, ys, e2, h2, r2⟩ := qb
    subst e2
    cases rb
    obtain ⟨js, w2, p2, _⟩ := I.list (hF.lst h2)
    have z1 := w1.length
    have z2 := w2.length
    have y1 := r1.length
    have y2 := r2.length
    by_cases hl : ds.length = es.length
    · have q := SeqAt.RcAt.lists (A := A) (e := eqAtJ ds es) p1.isList p2.isList (by simp; omega) hu (fun j h1 h2 => by
      obtain ⟨x', f1, g1⟩ := w1.atA h1
      obtain ⟨y', f2, g2⟩ := w2.atA h2
      obtain ⟨d1, k1, m1⟩ := r1.at f1
      obtain ⟨d2, k2, m2⟩ := r2.at f2
      rw [show eqAtJ ds es j = eqD d1 d2 by simp only [eqAtJ, k1, k2]]
      exact ih ds es j d1 d2 x' y' _ _ (.inr ⟨rfl, rfl⟩) k1 k2 m1 m2 g1 g2)
      rw [show is.toArray.size = ds.length by simp; omega, Deeps.all_eq (F := F) _ hl (fun j a b h1 h2 => by simp only [eqAtJ, h1, h2])] at q
      exact q
    · rw [show eqD (.lst ds) (.lst es) = false from eqDs_len hl]
      exact SeqAt.RcAt.lists_lengths (A := A) p1.isList p2.isList (by simp; omega) hu
theorem rcNeAt_S {a b : Dat} {x y : V} {u v : Value} {A : Around} (I : Inv X pins σ H s) (hF : Same F H) (hs : sq a b = true) (qa : Deep X.K F a x) (qb : Deep X.K F b y) (ra : RelV x u) (rb : RelV y v) (hu : A.units < cLine)
    (ih : ∀ (ds es : List Dat) (j : Nat) (d1 d2 : Dat) (x y : V) (u v : Value), (a = .tup ds ∧ b = .tup es ∨ a = .lst ds ∧ b = .lst es) → ds[j]? = some d1 → es[j]? = some d2 → Deep X.K F d1 x → Deep X.K F d2 y → RelV x u → RelV y v → SeqAt.EqAt A.in1 s u v (eqD d1 d2)) : SeqAt.RcNeAt A s u v (!eqD a b) := by
  rcases sq_inv hs with ⟨ds, es, rfl, rfl⟩ | ⟨ds, es, rfl, rfl⟩
  · skip
    obtain ⟨l1, xs, e1, h1, r1⟩ := qa
    subst e1
    cases ra
    obtain ⟨is, w1, p1, _⟩ := I.tuple (hF.tup h1)
    obtain ⟨l2, ys, e2, h2, r2⟩ := qb
    subst e2
    cases rb
    obtain ⟨js, w2, p2, _⟩ := I.tuple (hF.tup h2)
    have z1 := w1.length
    have z2 := w2.length
    have y1 := r1.length
    have y2 := r2.length
    have q := SeqAt.RcNeAt.tuples (A := A) (e := eqAtJ ds es) (show s.heap.IsTuple l1 is.toArray from p1) (show s.heap.IsTuple l2 js.toArray from p2) hu (fun j h1 h2 => by
      obtain ⟨x', f1, g1⟩ := w1.atA h1
      obtain ⟨y', f2, g2⟩ := w2.atA h2
      obtain ⟨d1, k1, m1⟩ := r1.at f1
      obtain ⟨d2, k2, m2⟩ := r2.at f2
      rw [show eqAtJ ds es j = eqD d1 d2 by simp only [eqAtJ, k1, k2]]
      exact ih ds es j d1 d2 x' y' _ _ (.inl ⟨rfl, rfl⟩) k1 k2 m1 m2 g1 g2)
    rw [show is.toArray.size = ds.length by simp; omega, show js.toArray.size = es.length by simp; omega, eqDs_zip _ (fun j a b h1 h2 => by simp only [eqAtJ, h1, h2])] at q
    exact q
  · skip
    obtain ⟨l1, xs, e1, h1, r1⟩ := qa
    subst e1
    cases ra
    obtain ⟨is, w1, p1, _⟩ := I.list (hF.lst h1)
    obtain ⟨l2, ys, e2, h2, r2⟩ := qb
    subst e2
    cases rb
    obtain ⟨js, w2, p2, _⟩ := I.list (hF.lst h2)
    have z1 := w1.length
    have z2 := w2.length
    have y1 := r1.length
    have y2 := r2.length
    by_cases hl : ds.length = es.length
    · have q := SeqAt.RcNeAt.lists (A := A) (e := eqAtJ ds es) p1.isList p2.isList (by simp; omega) hu (fun j h1 h2 => by
      obtain ⟨x', f1, g1⟩ := w1.atA h1
      obtain ⟨y', f2, g2⟩ := w2.atA h2
      obtain ⟨d1, k1, m1⟩ := r1.at f1
      obtain ⟨d2, k2, m2⟩ := r2.at f2
      rw [show eqAtJ ds es j = eqD d1 d2 by simp only [eqAtJ, k1, k2]]
      exact ih ds es j d1 d2 x' y' _ _ (.inr ⟨rfl, rfl⟩) k1 k2 m1 m2 g1 g2)
      rw [show is.toArray.size = ds.length by simp; omega, Deeps.all_eq (F := F) _ hl (fun j a b h1 h2 => by simp only [eqAtJ, h1, h2])] at q
      exact q
    · rw [show eqD (.lst ds) (.lst es) = false from eqDs_len hl]
      exact SeqAt.RcNeAt.lists_lengths (A := A) p1.isList p2.isList (by simp; omega) hu
theorem ok_sub {a b d1 d2 : Dat} {n j : Nat} {ds es : List Dat} (oa : okE a n = true) (ob : okE b n = true) (h : a = .tup ds ∧ b = .tup es ∨ a = .lst ds ∧ b = .lst es) (k1 : ds[j]? = some d1) (k2 : es[j]? = some d2) : ∃ m, n = m + 1 ∧ okE d1 m = true ∧ okE d2 m = true := by
  cases n with
  | zero => rcases h with ⟨rfl, rfl⟩ | ⟨rfl, rfl⟩ <;> simp [okE] at oa
  | succ m => exact ⟨m, rfl, by rcases h with ⟨rfl, rfl⟩ | ⟨rfl, rfl⟩ <;> simp only [okE] at oa ob <;> exact ⟨okEs_get oa k1, okEs_get ob k2⟩⟩
theorem eqAt_N (I : Inv X pins σ H s) (hF : Same F H) : ∀ (n : Nat) (a b : Dat) {x y : V} {u v : Value} {A : Around}, okE a n = true → okE b n = true → Deep X.K F a x → Deep X.K F b y → RelV x u → RelV y v → A.units + n < cLine → SeqAt.EqAt A s u v (eqD a b) := by
  intro n
  induction n with
  | zero =>
    intro a b x y u v A oa ob qa qb ra rb hu
    refine (eqAt_U (sh_of I hF oa qa ra) (sh_of I hF ob qb rb) (by omega)).resolve_left fun h => ?_
    rcases sq_inv h with ⟨ds, es, rfl, rfl⟩ | ⟨ds, es, rfl, rfl⟩ <;> simp [okE] at oa
  | succ n ih =>
    intro a b x y u v A oa ob qa qb ra rb hu
    rcases eqAt_U (A := A) (sh_of I hF oa qa ra) (sh_of I hF ob qb rb) (by omega) with h | h
    · by_cases hab : x = y
      · subst hab
        cases (show a = b from deep_inj I hF (n + 1) a b qa qb oa ob)
        rw [eqD_refl oa]
        rcases sq_inv h with ⟨ds, es, rfl, _⟩ | ⟨ds, es, rfl, _⟩ <;> (obtain ⟨l1, xs, e1, _⟩ := qa; subst e1; cases ra; cases rb; exact SeqAt.EqAt.same _)
      · have q := rcAt_S (A := A) I hF h qa qb ra rb (by omega) fun ds es j d1 d2 x' y' u' v' hs k1 k2 m1 m2 g1 g2 => by
          obtain ⟨m, e, o1, o2⟩ := ok_sub oa ob hs k1 k2
          cases e
          exact ih d1 d2 o1 o2 m1 m2 g1 g2 (by show A.units + 1 + n < cLine; omega)
        rcases sq_inv h with ⟨ds, es, rfl, rfl⟩ | ⟨ds, es, rfl, rfl⟩ <;> (obtain ⟨l1, xs, e1, _⟩ := qa; obtain ⟨l2, ys, e2, _⟩ := qb; subst e1; subst e2; cases ra; cases rb; exact SeqAt.EqAt.of_refs (fun z => hab (by rw [z])) q)
    · exact h
theorem eqAt_D (I : Inv X pins σ H s) (hF : Same F H) (a b : Dat) {n : Nat} {x y : V} {u v : Value} {A : Around} (oa : okE a n = true) (ob : okE b n = true) (qa : Deep X.K F a x) (qb : Deep X.K F b y) (ra : RelV x u) (rb : RelV y v) (hu : A.units + n < cLine) : SeqAt.EqAt A s u v (eqD a b) := eqAt_N I hF n a b oa ob qa qb ra rb hu
theorem eqAt_I (I : Inv X pins σ H s) (hF : Same F H) {a b : Dat} {n : Nat} {A : Around} (oa : okE a n = true) (ob : okE b n = true) (hu : A.units + n < cLine) (ds es : List Dat) (j : Nat) (d1 d2 : Dat) (x y : V) (u v : Value) (hs : a = .tup ds ∧ b = .tup es ∨ a = .lst ds ∧ b = .lst es) (k1 : ds[j]? = some d1) (k2 : es[j]? = some d2) (m1 : Deep X.K F d1 x) (m2 : Deep X.K F d2 y) (g1 : RelV x u) (g2 : RelV y v) : SeqAt.EqAt A.in1 s u v (eqD d1 d2) := by
  obtain ⟨m, rfl, o1, o2⟩ := ok_sub oa ob hs k1 k2
  exact eqAt_D I hF d1 d2 o1 o2 m1 m2 g1 g2 (by show A.units + 1 + m < cLine; omega)
theorem rcAt_D (I : Inv X pins σ H s) (hF : Same F H) (a b : Dat) {n : Nat} {x y : V} {u v : Value} {A : Around} (oa : okE a n = true) (ob : okE b n = true) (qa : Deep X.K F a x) (qb : Deep X.K F b y) (ra : RelV x u) (rb : RelV y v) (hu : A.units + n < cLine) : SeqAt.RcAt A s u v (eqD a b) :=
  (rcAt_U (sh_of I hF oa qa ra) (sh_of I hF ob qb rb) (by omega)).elim (fun h => rcAt_S I hF h qa qb ra rb (by omega) (eqAt_I I hF oa ob hu)) id
theorem rcNeAt_D (I : Inv X pins σ H s) (hF : Same F H) (a b : Dat) {n : Nat} {x y : V} {u v : Value} {A : Around} (oa : okE a n = true) (ob : okE b n = true) (qa : Deep X.K F a x) (qb : Deep X.K F b y) (ra : RelV x u) (rb : RelV y v) (hu : A.units + n < cLine) : SeqAt.RcNeAt A s u v (!eqD a b) :=
  (rcNeAt_U (sh_of I hF oa qa ra) (sh_of I hF ob qb rb) (by omega)).elim (fun h => rcNeAt_S I hF h qa qb ra rb (by omega) (eqAt_I I hF oa ob hu)) id
end
section
variable {X : Cx} {K : PySem.W.Frag} {W : Wish} {own ro : Bool}
theorem Post.blS {F H : Hp} {Q : VK} {pins : List (Addr × Obj)} {σ : St} {s : Shared} {b : Bool} (p : Post K W own F H (.ok (.bl b)) Q) (s1 : Same F H) (I : Inv X pins σ H s) : EP X pins σ Q (.bool b) s := ⟨.bl b, H, I, rfl, p.bl s1⟩
theorem o_eq (hu : X.A.units + 64 < cLine) (hK : X.K = K := by rfl) : Op2 K W own X (compareOp .Eq) eqM := by
  subst hK
  intro pins s σ H x y v u Q I rx ry h
  obtain ⟨F, a, b, s1, qa, qb, p⟩ := h
  unfold eqM at p
  by_cases hc : (okE a 40 && okE b 40) = true
  · rw [if_pos hc] at p
    simp only [Bool.and_eq_true] at hc
    exact rcAt_D I s1 a b hc.1 hc.2 qa qb rx ry (by omega) _ _ _ _ (p.blS s1 I)
  · rw [if_neg hc] at p; exact p.stuck
theorem o_ne (hu : X.A.units + 64 < cLine) (hK : X.K = K := by rfl) : Op2 K W own X (compareOp .NotEq) neM := by
  subst hK
  intro pins s σ H x y v u Q I rx ry h
  obtain ⟨F, a, b, s1, qa, qb, p⟩ := h
  unfold neM at p
  by_cases hc : (okE a 40 && okE b 40) = true
  · rw [if_pos hc] at p
    simp only [Bool.and_eq_true] at hc
    exact rcNeAt_D I s1 a b hc.1 hc.2 qa qb rx ry (by omega) _ _ _ _ (p.blS s1 I)
  · rw [if_neg hc] at p; exact p.stuck
end
end L2
namespace L2
open PySem PySem.Spec PyProof.Rows
section
variable {X : Cx} {pins : List (Addr × Obj)} {σ : St} {H : Hp} {s : Shared} {h' : Heap}
theorem Inv.turnedT {t' : Nat} {ch : List Addr} {T : Addr} {xs : List V} (I : Inv X pins σ H s) (hf : ∀ b ∈ ch, FpOk X pins H b) (k : ∀ b o, b ∉ ch → s.heap.get? b = some o → h'.get? b = some o) (hT : s.heap.objs.size ≤ T)
    (new : xs.length ≤ sizeLine ∧ ∃ its : List Value, Vals xs its ∧ IsTup h' T its.toArray) : Inv X pins σ (upd H T (.tup xs)) { s with heap := h', toks := t' } := by
  have hTn : H T = none := I.hok.fresh hT
  have nit : ∀ b u, H b = some u → b ∉ ch := fun b u e z => by rw [(hf b z).1] at e; cases e
  have old : ∀ {b : Addr} {o : Obj}, s.heap.get? b = some o → b ≠ T := fun {b o} e => Nat.ne_of_lt (Nat.lt_of_lt_of_le (Heap.lt_size e) hT)
  refine I.step (g' := s.gens) (d' := s.drawn) (ch := ch) (fun b hb => ?_) (fun b o _ _ hc e _ => k b o hc e) (fun b o _ _ hc e _ => ⟨o.slots, k b o hc e⟩) (fun b o _ e n => by rw [upd_ne (old e)]; exact n)
    (fun b o hc e => ⟨o, k b o hc e⟩) (fun b ys e => by rw [upd_ne (ne_of_none e hTn)]; exact e) (fun b o u e => by rw [upd_ne (ne_of_none e hTn)]; exact e) (fun b ps e => ⟨#[], by rw [upd_ne (ne_of_none e hTn), e]; simp⟩) (fun m hm => ?_) (fun b u e => ?_) I.bare
  · obtain ⟨f0, f1, f2, f3, f4, f5⟩ := hf b hb
    exact ⟨f3, f1, f4, f5⟩
  · obtain ⟨o, es, ep, ho, r⟩ := hm
    exact ⟨o, es, ep, k _ o (fun z => (hf _ z).2.1 rfl) ho, r⟩
  · by_cases hb : b = T
    · subst hb
      rw [upd_same] at e
      cases e
      exact new
    · rw [upd_ne hb] at e
      refine (I.hok b u e).stay (fun c v hc q => k c v ?_ q) (fun c q => ?_) fun c ys q => ?_
      · rcases hc with z | z
        · rw [z]; exact nit b u e
        · exact nit c _ z
      · rw [upd_ne (ne_of_none q hTn)]; exact q
      · rw [upd_ne (ne_of_none q hTn)]; exact q
theorem Inv.turnedL {t' : Nat} {ch : List Addr} (I : Inv X pins σ H s) (hf : ∀ b ∈ ch, FpOk X pins H b) (k : ∀ b o, b ∉ ch → s.heap.get? b = some o → h'.get? b = some o) : Inv X pins σ H { s with heap := h', toks := t' } := by
  have nit : ∀ b u, H b = some u → b ∉ ch := fun b u e z => by rw [(hf b z).1] at e; cases e
  refine I.step (g' := s.gens) (d' := s.drawn) (ch := ch) (fun b hb => ?_) (fun b o _ _ hc e _ => k b o hc e) (fun b o _ _ hc e _ => ⟨o.slots, k b o hc e⟩) (fun b o _ e n => n)
    (fun b o hc e => ⟨o, k b o hc e⟩) (fun b ys e => e) (fun b o u e => e) (fun b ps e => ⟨#[], by rw [e]; simp⟩) (fun m hm => ?_) (fun b u e => ?_) I.bare
  · obtain ⟨f0, f1, f2, f3, f4, f5⟩ := hf b hb
    exact ⟨f3, f1, f4, f5⟩
  · obtain ⟨o, es, ep, ho, r⟩ := hm
    exact ⟨o, es, ep, k _ o (fun z => (hf _ z).2.1 rfl) ho, r⟩
  · refine (I.hok b u e).stay (fun c v hc q => k c v ?_ q) (fun _ q => q) fun _ _ q => q
    rcases hc with z | z
    · rw [z]; exact nit b u e
    · exact nit c _ z
end
section
variable {X : Cx} {K : PySem.W.Frag} {W : Wish} {own ro : Bool} {e a b c : Expr} {es : List Expr} {x : Str} {pos p : Pos} {f fa fb fc : Env' → M Dat} {fr : Env' → M (List Dat)} {ft : Env' → M Bool}
theorem dts_nil : PTs X [] (tDT K W fYes) := fun pins s σ H Q I h => pts_nil pins s σ H Q I (by
  obtain ⟨F, ρ, r, s1, q⟩ := h
  exact q F H (Step.refl s1))
theorem dgs_nil : PGs X [] (gNames []) := pgs_nil
theorem dgs_cons {i : Nat} {is : List Nat} (hN : X.N.Nodup) (h2 : PGs X es (gNames is)) (hi : X.N[i]? = some x := by rfl) (hx : Loc X.env.scope x := by first | exact Or.inl rfl | exact Or.inr rfl) (hf : X.fn x = true ∨ X.env.scope.names.lookup x = some .local := by first | exact .inl rfl | exact .inr rfl | assumption)
    (hs : (assignEach (.Name x p :: es) X.env).map (·.2) = assign (.Name x p) X.env :: (assignEach es X.env).map (·.2) := by rfl) : PGs X (.Name x p :: es) (gNames (i :: is)) := pgs_cons (pg_name hN hi hx hf) h2 hs
theorem dg_tp {k : Nat} {is : List Nat} (hc : X.calm = true) (h : PGs X es (gNames is)) (hn : (assignEach es X.env).length = is.length := by rfl) (hst : (assignEach es X.env).findIdx? (·.1) = none := by rfl) (hK : X.K = K := by rfl) : DG K X (.Tuple es k pos) (.tp is) := by
  subst hK
  exact pg_tup hc h hn hst
theorem leaves_names {ix : List (Option Nat)} : ∀ {is : List Nat}, (∀ i ∈ is, ix[i]? = some none) → ∀ vs σ' H' (Q : St → Hp → Prop), gNames is vs σ' H' Q → gNames is vs σ' H' fun σ2 H2 => Q σ2 H2 ∧ ∀ (i : Nat) v, σ'[i]? = some (some v) → (∃ j, ix[i]? = some (some j)) → σ2[i]? = some (some v)
  | [], _, vs, σ', H', Q, ⟨e, q⟩ => ⟨e, q, fun _ _ h _ => h⟩
  | i :: is, hs, vs, σ', H', Q, ⟨v, r, e, q⟩ => by
    refine ⟨v, r, e, ?_⟩
    have := leaves_names (ix := ix) (is := is) (fun j hj => hs j (by simp [hj])) r (σ'.set i (some v)) H' Q q
    have mono : ∀ {is : List Nat} {vs : List V} {σ1 : St} {H1 : Hp} {Q Q' : St → Hp → Prop}, (∀ σ2 H2, Q σ2 H2 → Q' σ2 H2) → gNames is vs σ1 H1 Q → gNames is vs σ1 H1 Q' := by
      intro is
      induction is with
      | nil => rintro vs σ1 H1 Q Q' m ⟨e, q⟩; exact ⟨e, m _ _ q⟩
      | cons i is ih => rintro vs σ1 H1 Q Q' m ⟨v, r, e, q⟩; exact ⟨v, r, e, ih m q⟩
    refine mono (fun σ2 H2 ⟨q1, q2⟩ => ⟨q1, fun j w h ⟨l, hl⟩ => q2 j w ?_ ⟨l, hl⟩⟩) this
    have : i ≠ j := by rintro rfl; rw [hs i (by simp)] at hl; cases hl
    rw [List.getElem?_set_ne this]
    exact h
theorem leaves_tp {ix : List (Option Nat)} {is : List Nat} (h : ∀ i ∈ is, ix[i]? = some none) : Leaves ix (gP K (.tp is)) := fun x σ' H' Q ⟨a, xs, e, t, l, q⟩ => ⟨a, xs, e, t, l, leaves_names h xs σ' H' Q q⟩
theorem dgc_nm {N' : List Str} {sc : Scope} {L : Addr} {cs : List (Str × Addr)} {s : Shared} {H : Hp} {fp : List Addr} {i : Nat} (hN : N'.Nodup) (hi : N'[i]? = some x := by rfl) (hx : Loc (cxComp X N' sc L cs s H fp).env.scope x := by first | exact Or.inl rfl | exact Or.inr rfl)
    (hf : (cxComp X N' sc L cs s H fp).fn x = true ∨ (cxComp X N' sc L cs s H fp).env.scope.names.lookup x = some .local := by first | exact .inl rfl | exact .inr rfl | assumption) : DG K (cxComp X N' sc L cs s H fp) (.Name x pos) (.nm i) := pg_c hN hi hx hf
variable {sc : Scope} {tg elt iter : Expr} {ifs : List Expr} {fi : Env' → M (List Dat)} {pt : Pat} {fe : Env' → M Dat} {spos py : Pos}
theorem de_comp (N' : List Str) (ix : List (Option Nat)) (hi : DI K W X tg iter fi) (hg : ∀ L cs s H fp, DG K (cxComp X N' sc L cs s H fp) tg pt) (hl : Leaves ix (gP K pt))
    (ht : ∀ L cs s H fp, PTs (cxComp X N' sc L cs s H fp) ifs (tDT K W ft)) (he : ∀ L cs s H fp, DE K W false (cxComp X N' sc L cs s H fp) elt fe) (hc : X.calm = true := by rfl)
    (ok : compOk X.N X.env.scope N' sc ix = true := by rfl) (hk : sc.kind = .function := by rfl) (hs : ∀ x, foldedSetIterable iter X.env x = pure x := by intro _; rfl) :
    DE K W true X (.ListComp elt [⟨tg, iter, ifs, 0⟩] sc pos) (fComp fi ix pt ft fe) := (pe_comp N' ix hc hi hg hl ht he ok hk hs).imp fun _ _ _ => rd_comp
theorem tD_fr {σ : St} {H : Hp} {Q : VK} (h : tD K W own f σ H Q) : tD K W true f σ H Q := by
  cases own with
  | true => exact h
  | false => obtain ⟨F, ρ, r, s, p⟩ := h; exact ⟨F, ρ, r, s, p.frz⟩
theorem ds_compB {OL O : List Nat} {i : Nat} (own : Bool) (N' : List Str) (ix : List (Option Nat)) (hN : X.N.Nodup) (hi : DI K W X tg iter fi) (hg : ∀ L cs s H fp, DG K (cxComp X N' sc L cs s H fp) tg pt) (hl : Leaves ix (gP K pt))
    (ht : ∀ L cs s H fp, PTs (cxComp X N' sc L cs s H fp) ifs (tDT K W ft)) (he : ∀ L cs s H fp, DE K W false (cxComp X N' sc L cs s H fp) elt fe) (hj : X.N[i]? = some x := by rfl) (hy : X.env.scope.names.lookup x = some .local := by rfl) (hc : X.calm = true := by rfl)
    (hsw : swapsWith (.ListComp elt [⟨tg, iter, ifs, 0⟩] sc pos) (some (.Name x py)) spos.line X.env = pure true := by rfl)
    (ok : compOk X.N X.env.scope N' sc ix = true := by rfl) (hk : sc.kind = .function := by rfl) (hs : ∀ x, foldedSetIterable iter X.env x = pure x := by intro _; rfl) :
    DS K W ro X OL O (aft own i O) (.Assign [.Name x py] (.ListComp elt [⟨tg, iter, ifs, 0⟩] sc pos) spos) (sSetB O i (fComp fi ix pt ft fe)) := fun F0 H0 =>
  (ps_setComp N' ix hN hj hy hc hi hg hl ht he hsw ok hk hs).imp fun D σ H t => rd_comp (tD_fr (rs_setB t))
theorem ds_unpB {OL O : List Nat} {pt : Pat} {tg : Expr} (he : DE K W false X e f) (hg : DG K X tg pt) (n : ∀ i ∈ pt.names, i ∉ O := by decide) (hs : swapsWithSole [tg] e pos.line X.env = pure false := by rfl) (hw : swappedStores [tg] e X.env = pure none := by rfl)
    (h1 : (assignEach [tg] X.env).map (·.2) = [assign tg X.env] := by rfl) : DS K W ro X OL O O (.Assign [tg] e pos) (sUnpB O pt f) := fun F0 H0 => (ps_asg he hg hs hw h1).imp fun _ _ _ => rs_unpB n
noncomputable def spF (K : PySem.W.Frag) (ro : Bool) (g : List Dat → M Dat) (n : Nat) : Sp := fun vs H Q _ => ∃ F ds, Same F H ∧ Deeps K F ds vs ∧ ds.length = n ∧ Post K Wno ro F H (g ds) Q
theorem runB_len {nN n : Nat} {g : Env' → M Flo} {ds : List Dat} (h : ds.length ≠ n) : runB nN n g ds = stk := by unfold runB; rw [if_neg h]
theorem de_call {k nN n : Nat} {fad : Addr} {fd : FuncData} {ps : List Str} {g : Env' → M Flo} (F : FnOk X.prog X.w X.K X.mg X.base CX0 k fad fd ps (spF K ro (runB nN n g) n)) (hr : Room k X.A) (hm : X.mg x = some (.ref fad)) (hk : PySem.W.keepIn X.K (.ref fad) = true) (hb : Binds X.K fd ps [])
    (ha : DA K Wno X (e :: es) fr) (hg : Gl X x := by rfl) (hdb : (x == ("__debug__" : Str)) = false := by decide) (hst : starEach (e :: es) X.env = (false, eval e X.env) :: starEach es X.env := by rfl) (hpl : (backTo pos (starEach es X.env)).any (·.1) = false := by rfl) :
    DE K Wno ro X (.Call (.Name x p) (e :: es) [] pos) (fL (runB nN n g) fr) := by
  refine PE.imp (pe_call F hr hg hm hk hb .nil pass0 ha hdb hst hpl) fun σ H Q h => ?_
  obtain ⟨F, ρ, r, s, p⟩ := rd_L h
  refine ⟨F, ρ, r, s, ?_⟩
  cases e1 : fr ρ with
  | error z => rw [e1] at p; exact p
  | ok ds =>
    rw [e1] at p
    intro vs F' H' st q
    obtain ⟨F1, es1, s1, q1, z⟩ := p vs F' H' st q
    show spF K ro (runB nN n g) n (vs ++ []) H' Q E0
    rw [List.append_nil]
    by_cases hl : es1.length = n
    · exact ⟨F1, es1, s1, q1, hl, z⟩
    · rw [runB_len hl] at z
      exact Post.stuck z
end
section
variable {P : Program} {w : World} {K : PySem.W.Frag} {mg : Str → Option Value} {base : Heap}
theorem start_get {N : List Str} {vs : List V} {ds : List Dat} {i : Nat} {d : Dat} {F : Hp} (q : Deeps K F ds vs) (h : (ds.map some ++ List.replicate (N.length - ds.length) none)[i]? = some (some d)) : ∃ v, (start N vs)[i]? = some (some v) ∧ Deep K F d v := by
  have hi : i < ds.length := by
    by_cases hi : i < ds.length
    · exact hi
    · rw [List.getElem?_append_right (by simpa using hi), List.getElem?_replicate] at h
      split at h <;> cases h
  rw [List.getElem?_append_left (by simpa using hi), List.getElem?_map] at h
  cases e : ds[i]? with
  | none => rw [e] at h; cases h
  | some d' =>
    rw [e] at h
    cases h
    obtain ⟨v, e1, q1⟩ := q.get e
    refine ⟨v, ?_, q1⟩
    unfold start
    rw [List.getElem?_append_left (by rw [List.length_map, q.length]; exact hi), List.getElem?_map, e1]
    rfl
theorem fn_D {x qual : Str} {st : Stmt} {f : Addr} {fd : FuncData} {N ps : List Str} {k : Nat} {O' : List Nat} (F : Fun K x qual st f fd) (S : FnScope N ps (defScope st)) (ro : Bool) (g : Env' → M Flo)
    (hb : ∀ (cdv : Value) (A : Around) (outer : List Env) (s : Shared) (H : Hp) (E : XK), Room k (A.deeper (envOfC qual (defScope st) s.heap.objs.size f cdv)) →
      DSs K Wno ro (cxOf CX0 P w K mg base N qual (defScope st) f cdv A outer s H E).nox [] [] O' (defBody st) g) : FnOk P w K mg base CX0 (k + 1) f fd ps (spF K ro (runB N.length ps.length g) ps.length) := by
  have hpl : ps.length ≤ N.length := by have := congrArg List.length S.pre; rw [List.length_take] at this; omega
  refine F.okX S (fun vs H Q E ⟨F, ds, s, q, l, p⟩ => by rw [q.length, l]) fun cdv A outer s H vs Q E hr ⟨F1, ds, s1, q, l, p⟩ => ⟨_, hb cdv A outer s H E hr F1 H, F1, F1, ds.map some ++ List.replicate (N.length - ds.length) none, ?_, ?_⟩
  · refine ⟨Step.refl s1, Same.refl _, ?_, fun i d e _ => start_get q e, (fun i d e h => nomatch h), (fun i j ds es a h => nomatch h)⟩
    unfold start
    rw [List.length_append, List.length_append, List.length_map, List.length_map, List.length_replicate, List.length_replicate, q.length]
  · have e1 : runB N.length ps.length g ds = (g (ds.map some ++ List.replicate (N.length - ds.length) none)).bind fun fl => match fl with
      | .nx _ => .ok .non
      | .rt d => .ok d
      | _ => stk := by
        unfold runB
        exact if_pos l
    rw [e1] at p
    cases e2 : g (ds.map some ++ List.replicate (N.length - ds.length) none) with
    | error z => rw [e2] at p; exact p
    | ok fl =>
      rw [e2] at p
      cases fl with
      | nx ρ => exact fun σ F H r => p .non F H r.st (by cases ro <;> rfl)
      | rt d => exact fun v F H st q => p v F H st q
      | bk ρ => exact Post.stuck p
      | ct ρ => exact Post.stuck p
noncomputable def spLaw (K : PySem.W.Frag) : Sp := fun vs H Q _ => ∃ (a : Addr) (ns : List Int), vs = [.ref a] ∧ SqL K H a (ns.map V.int) ∧ ns.length ≤ 63 ∧ ∀ H', Q (.bl true) H'
theorem deeps_ints {F : Hp} : ∀ is : List Int, Deeps K F (is.map Dat.int) (is.map V.int)
  | [] => rfl
  | i :: is => ⟨.int i, is.map V.int, rfl, rfl, deeps_ints is⟩
theorem law_ok {k : Nat} {f : Addr} {fd : FuncData} {x : Str} {ro : Bool} {mlaw : Nat → List Dat → M Dat} (F : ∀ n, FnOk P w K mg base CX0 k f fd [x] (spF K ro (mlaw n) 1)) (h : ∀ ns : List Int, ns.length ≤ 63 → ∃ n, mlaw n [.lst (ns.map .int)] = .ok (.bl true)) : FnOk P w K mg base CX0 k f fd [x] (spLaw K) := by
  refine ⟨fun vs H Q E ⟨a, ns, e, _⟩ => by rw [e]; rfl, fun A outer s H args us vs Q E hr he hb hv ⟨a, ns, e, hq, hl, q⟩ => ?_⟩
  obtain ⟨n, hn⟩ := h ns hl
  refine (F n).run A outer s H args us vs Q E hr he hb hv ⟨H, [.lst (ns.map .int)], Same.refl _, ⟨.ref a, [], e, ⟨a, _, rfl, hq, deeps_ints ns⟩, rfl⟩, rfl, ?_⟩
  rw [hn]
  intro v F' H' st z
  have : v = .bl true := by cases ro <;> exact z
  rw [this]
  exact q H'
end
end L2
namespace L2
open PySem PySem.Spec PyProof.Rows
structure Kit (K : PySem.W.Frag) : Prop where
  q_int_int : PySem.W.kitOne K (.type "int") (.type "int") = some true
  q_bool_int : PySem.W.kitOne K (.type "bool") (.type "int") = some true
  q_list_int : PySem.W.kitOne K (.type "list") (.type "int") = some false
  q_tuple_int : PySem.W.kitOne K (.type "tuple") (.type "int") = some false
  q_str_int : PySem.W.kitOne K (.type "str") (.type "int") = some false
  q_NoneType_int : PySem.W.kitOne K (.type "NoneType") (.type "int") = some false
  q_int_bool : PySem.W.kitOne K (.type "int") (.type "bool") = some false
  q_bool_bool : PySem.W.kitOne K (.type "bool") (.type "bool") = some true
  q_list_bool : PySem.W.kitOne K (.type "list") (.type "bool") = some false
  q_tuple_bool : PySem.W.kitOne K (.type "tuple") (.type "bool") = some false
  q_str_bool : PySem.W.kitOne K (.type "str") (.type "bool") = some false
  q_NoneType_bool : PySem.W.kitOne K (.type "NoneType") (.type "bool") = some false
  q_int_list : PySem.W.kitOne K (.type "int") (.type "list") = some false
  q_bool_list : PySem.W.kitOne K (.type "bool") (.type "list") = some false
  q_list_list : PySem.W.kitOne K (.type "list") (.type "list") = some true
  q_tuple_list : PySem.W.kitOne K (.type "tuple") (.type "list") = some false
  q_str_list : PySem.W.kitOne K (.type "str") (.type "list") = some false
  q_NoneType_list : PySem.W.kitOne K (.type "NoneType") (.type "list") = some false
  q_int_tuple : PySem.W.kitOne K (.type "int") (.type "tuple") = some false
  q_bool_tuple : PySem.W.kitOne K (.type "bool") (.type "tuple") = some false
  q_list_tuple : PySem.W.kitOne K (.type "list") (.type "tuple") = some false
  q_tuple_tuple : PySem.W.kitOne K (.type "tuple") (.type "tuple") = some true
  q_str_tuple : PySem.W.kitOne K (.type "str") (.type "tuple") = some false
  q_NoneType_tuple : PySem.W.kitOne K (.type "NoneType") (.type "tuple") = some false
  q_int_str : PySem.W.kitOne K (.type "int") (.type "str") = some false
  q_bool_str : PySem.W.kitOne K (.type "bool") (.type "str") = some false
  q_list_str : PySem.W.kitOne K (.type "list") (.type "str") = some false
  q_tuple_str : PySem.W.kitOne K (.type "tuple") (.type "str") = some false
  q_str_str : PySem.W.kitOne K (.type "str") (.type "str") = some true
  q_NoneType_str : PySem.W.kitOne K (.type "NoneType") (.type "str") = some false
section
variable {X : Cx} {K : PySem.W.Frag} {W : Wish} {own ro : Bool} {e a b c : Expr} {es : List Expr} {x : Str} {pos p p2 : Pos} {f fa fb fc : Env' → M Dat} {fr : Env' → M (List Dat)} {ft : Env' → M Bool}
theorem isi_D {pins : List (Addr × Obj)} {σ : St} {F H : Hp} {s : Shared} {T : String} {d : Dat} {x : V} {u : Value} {bi bb bl bt bs bn : Bool} {Q : Value → Shared → Prop} (I : Inv X pins σ H s) (hF : Same F H) (q : Deep X.K F d x) (r : RelV x u)
    (hi : PySem.W.kitOne X.K (.type "int") (.type T) = some bi) (hb : PySem.W.kitOne X.K (.type "bool") (.type T) = some bb) (hl : PySem.W.kitOne X.K (.type "list") (.type T) = some bl) (ht : PySem.W.kitOne X.K (.type "tuple") (.type T) = some bt)
    (hs : PySem.W.kitOne X.K (.type "str") (.type T) = some bs) (hn : PySem.W.kitOne X.K (.type "NoneType") (.type T) = some bn)
    (h : ∀ k tk, (match d with | .int _ => k = bi | .bl _ => k = bb | .lst _ => k = bl | .tup _ => k = bt | .str _ => k = bs | .non => k = bn | .ins _ _ => False | .dic _ => False | .dil _ => False) → Q (.bool k) { s with toks := tk }) (no : ∀ C fs, d ≠ .ins C fs) (nd : ∀ ks, d ≠ .dic ks) (nl : ∀ ks, d ≠ .dil ks) :
    wpAny (model X.prog X.w) X.A (call (.builtin "isinstance") [u, .type T]) Q X.xe s := by
  cases d with
  | non => cases (show x = .non from q); cases r; exact PySem.W.kia_one PySem.W.kitx_none I.kIn True.intro hn (fun z => nomatch z) fun tk => h _ tk rfl
  | bl y => cases (show x = .bl y from q); cases r; exact PySem.W.kia_one PySem.W.kitx_bool I.kIn True.intro hb (fun z => nomatch z) fun tk => h _ tk rfl
  | int i => cases (show x = .int i from q); obtain ⟨t, rfl⟩ := r; exact PySem.W.kia_one PySem.W.kitx_int I.kIn True.intro hi (fun z => nomatch z) fun tk => h _ tk rfl
  | str y => cases (show x = .str y from q); obtain ⟨t, rfl⟩ := r; exact PySem.W.kia_one PySem.W.kitx_str I.kIn True.intro hs (fun z => nomatch z) fun tk => h _ tk rfl
  | lst ds =>
    obtain ⟨l, xs, e, t, _⟩ := q
    subst e
    cases r
    obtain ⟨its, _, pl, _⟩ := I.list (hF.lst t)
    obtain ⟨o, h1, h2, _⟩ := pl.isList
    exact PySem.W.kia_one PySem.W.kitx_list I.kIn ⟨o, h1, h2⟩ hl (fun z => nomatch z) fun tk => h _ tk rfl
  | tup ds =>
    obtain ⟨l, xs, e, t, _⟩ := q
    subst e
    cases r
    obtain ⟨its, _, pl, _⟩ := I.tuple (hF.tup t)
    obtain ⟨o, h1, h2, _⟩ := pl
    exact PySem.W.kia_one PySem.W.kitx_tuple I.kIn ⟨o, h1, h2⟩ ht (fun z => nomatch z) fun tk => h _ tk rfl
  | ins C fs => exact absurd rfl (no C fs)
  | dic ks => exact absurd rfl (nd ks)
  | dil ks => exact absurd rfl (nl ks)
theorem de_isi {T : String} {y : Str} {g : Dat → M Dat} (hc : CallR X (.builtin "isinstance") (fun xs H Q => ∃ v, xs = [v, .ty T] ∧ rD1 K W own g v H Q)) (hm : X.mg "isinstance" = none) (hmT : X.mg y = none) (hvT : bootBuiltins y = some (.type T)) (ha : DE K W false X a fa)
    (hg : Gl X "isinstance" := by rfl) (hgT : Gl X y := by rfl) (hn : y ≠ "__name__" := by decide) (hd : (y == ("__debug__" : Str)) = false := by decide)
    (hst : starEach [a, .Name y p2] X.env = [(false, eval a X.env), (false, eval (.Name y p2) X.env)] := by rfl) (hst2 : starEach [.Name y p2] X.env = [(false, eval (.Name y p2) X.env)] := by rfl) (hpl : (backTo pos (starEach [.Name y p2] X.env)).any (·.1) = false := by rfl) :
    DE K W own X (.Call (.Name "isinstance" p) [a, .Name y p2] [] pos) (f1 g fa) :=
  (pe_callB hc hg hm boot_isinstance (pa_cons ha (pa_cons (pe_tyN (pos := p2) hgT hmT hvT hn hd) pa_nil hst2) (by rw [hst, hst2])) (by decide) (by decide) (by rw [hst, hst2]) hpl).imp fun σ H Q h => by
    obtain ⟨F, ρ, r, s, q⟩ := rd_1 h
    refine ⟨F, ρ, r, s, ?_⟩
    cases e1 : fa ρ with
    | error z => rw [e1] at q; exact q
    | ok d => rw [e1] at q; exact fun v F' H' st z => ⟨v, rfl, q v F' H' st z⟩
theorem c_isi_int (kit : Kit K) (hK : X.K = K := by rfl) : CallR X (.builtin "isinstance") (fun xs H Q => ∃ v, xs = [v, .ty "int"] ∧ rD1 K W own isi_intD v H Q) := by
  subst hK
  intro pins s σ H xs us Q I r h
  obtain ⟨v, rfl, F, d, s1, q, p⟩ := h
  obtain ⟨u, w, rfl, ru, rw'⟩ := r.two
  cases (show w = Value.type "int" from rw')
  by_cases hi : (∃ C fs, d = .ins C fs) ∨ (∃ ks, d = .dic ks) ∨ ∃ ks, d = .dil ks
  · rcases hi with ⟨C, fs, rfl⟩ | ⟨ks, rfl⟩ | ⟨ks, rfl⟩ <;> exact Post.stuck p
  · refine isi_D I s1 q ru kit.q_int_int kit.q_bool_int kit.q_list_int kit.q_tuple_int kit.q_str_int kit.q_NoneType_int (fun k tk hk => ⟨.bl k, H, I.tok tk, rfl, ?_⟩) (fun C fs e => hi (.inl ⟨C, fs, e⟩)) (fun ks e => hi (.inr (.inl ⟨ks, e⟩))) (fun ks e => hi (.inr (.inr ⟨ks, e⟩)))
    cases d <;> first | (have hk' : k = _ := hk; subst hk'; exact Post.bl (own := own) p s1) | exact absurd (.inl ⟨_, _, rfl⟩) hi | exact absurd (.inr (.inl ⟨_, rfl⟩)) hi | exact absurd (.inr (.inr ⟨_, rfl⟩)) hi
theorem de_isi_int (kit : Kit K) (hm : X.mg "isinstance" = none) (hmT : X.mg "int" = none) (ha : DE K W false X a fa) (hK : X.K = K := by rfl)
    (hg : Gl X "isinstance" := by rfl) (hgT : Gl X "int" := by rfl)
    (hst : starEach [a, .Name "int" p2] X.env = [(false, eval a X.env), (false, eval (.Name "int" p2) X.env)] := by rfl) (hst2 : starEach [.Name "int" p2] X.env = [(false, eval (.Name "int" p2) X.env)] := by rfl) (hpl : (backTo pos (starEach [.Name "int" p2] X.env)).any (·.1) = false := by rfl) :
    DE K W own X (.Call (.Name "isinstance" p) [a, .Name "int" p2] [] pos) (f1 isi_intD fa) := de_isi (c_isi_int kit hK) hm hmT (by decide +kernel) ha hg hgT (by decide) (by decide) hst hst2 hpl
theorem c_isi_bool (kit : Kit K) (hK : X.K = K := by rfl) : CallR X (.builtin "isinstance") (fun xs H Q => ∃ v, xs = [v, .ty "bool"] ∧ rD1 K W own isi_boolD v H Q) := by
  subst hK
  intro pins s σ H xs us Q I r h
  obtain ⟨v, rfl, F, d, s1, q, p⟩ := h
  obtain ⟨u, w, rfl, ru, rw'⟩ := r.two
  cases (show w = Value.type "bool" from rw')
  by_cases hi : (∃ C fs, d = .ins C fs) ∨ (∃ ks, d = .dic ks) ∨ ∃ ks, d = .dil ks
  · rcases hi with ⟨C, fs, rfl⟩ | ⟨ks, rfl⟩ | ⟨ks, rfl⟩ <;> exact Post.stuck p
  · refine isi_D I s1 q ru kit.q_int_bool kit.q_bool_bool kit.q_list_bool kit.q_tuple_bool kit.q_str_bool kit.q_NoneType_bool (fun k tk hk => ⟨.bl k, H, I.tok tk, rfl, ?_⟩) (fun C fs e => hi (.inl ⟨C, fs, e⟩)) (fun ks e => hi (.inr (.inl ⟨ks, e⟩))) (fun ks e => hi (.inr (.inr ⟨ks, e⟩)))
    cases d <;> first | (have hk' : k = _ := hk; subst hk'; exact Post.bl (own := own) p s1) | exact absurd (.inl ⟨_, _, rfl⟩) hi | exact absurd (.inr (.inl ⟨_, rfl⟩)) hi | exact absurd (.inr (.inr ⟨_, rfl⟩)) hi
theorem de_isi_bool (kit : Kit K) (hm : X.mg "isinstance" = none) (hmT : X.mg "bool" = none) (ha : DE K W false X a fa) (hK : X.K = K := by rfl)
    (hg : Gl X "isinstance" := by rfl) (hgT : Gl X "bool" := by rfl)
    (hst : starEach [a, .Name "bool" p2] X.env = [(false, eval a X.env), (false, eval (.Name "bool" p2) X.env)] := by rfl) (hst2 : starEach [.Name "bool" p2] X.env = [(false, eval (.Name "bool" p2) X.env)] := by rfl) (hpl : (backTo pos (starEach [.Name "bool" p2] X.env)).any (·.1) = false := by rfl) :
    DE K W own X (.Call (.Name "isinstance" p) [a, .Name "bool" p2] [] pos) (f1 isi_boolD fa) := de_isi (c_isi_bool kit hK) hm hmT (by decide +kernel) ha hg hgT (by decide) (by decide) hst hst2 hpl
theorem c_isi_list (kit : Kit K) (hK : X.K = K := by rfl) : CallR X (.builtin "isinstance") (fun xs H Q => ∃ v, xs = [v, .ty "list"] ∧ rD1 K W own isi_listD v H Q) := by
  subst hK
  intro pins s σ H xs us Q I r h
  obtain ⟨v, rfl, F, d, s1, q, p⟩ := h
  obtain ⟨u, w, rfl, ru, rw'⟩ := r.two
  cases (show w = Value.type "list" from rw')
  by_cases hi : (∃ C fs, d = .ins C fs) ∨ (∃ ks, d = .dic ks) ∨ ∃ ks, d = .dil ks
  · rcases hi with ⟨C, fs, rfl⟩ | ⟨ks, rfl⟩ | ⟨ks, rfl⟩ <;> exact Post.stuck p
  · refine isi_D I s1 q ru kit.q_int_list kit.q_bool_list kit.q_list_list kit.q_tuple_list kit.q_str_list kit.q_NoneType_list (fun k tk hk => ⟨.bl k, H, I.tok tk, rfl, ?_⟩) (fun C fs e => hi (.inl ⟨C, fs, e⟩)) (fun ks e => hi (.inr (.inl ⟨ks, e⟩))) (fun ks e => hi (.inr (.inr ⟨ks, e⟩)))
    cases d <;> first | (have hk' : k = _ := hk; subst hk'; exact Post.bl (own := own) p s1) | exact absurd (.inl ⟨_, _, rfl⟩) hi | exact absurd (.inr (.inl ⟨_, rfl⟩)) hi | exact absurd (.inr (.inr ⟨_, rfl⟩)) hi
theorem de_isi_list (kit : Kit K) (hm : X.mg "isinstance" = none) (hmT : X.mg "list" = none) (ha : DE K W false X a fa) (hK : X.K = K := by rfl)
    (hg : Gl X "isinstance" := by rfl) (hgT : Gl X "list" := by rfl)
    (hst : starEach [a, .Name "list" p2] X.env = [(false, eval a X.env), (false, eval (.Name "list" p2) X.env)] := by rfl) (hst2 : starEach [.Name "list" p2] X.env = [(false, eval (.Name "list" p2) X.env)] := by rfl) (hpl : (backTo pos (starEach [.Name "list" p2] X.env)).any (·.1) = false := by rfl) :
    DE K W own X (.Call (.Name "isinstance" p) [a, .Name "list" p2] [] pos) (f1 isi_listD fa) := de_isi (c_isi_list kit hK) hm hmT (by decide +kernel) ha hg hgT (by decide) (by decide) hst hst2 hpl
theorem c_isi_tuple (kit : Kit K) (hK : X.K = K := by rfl) : CallR X (.builtin "isinstance") (fun xs H Q => ∃ v, xs = [v, .ty "tuple"] ∧ rD1 K W own isi_tupleD v H Q) := by
  subst hK
  intro pins s σ H xs us Q I r h
  obtain ⟨v, rfl, F, d, s1, q, p⟩ := h
  obtain ⟨u, w, rfl, ru, rw'⟩ := r.two
  cases (show w = Value.type "tuple" from rw')
  by_cases hi : (∃ C fs, d = .ins C fs) ∨ (∃ ks, d = .dic ks) ∨ ∃ ks, d = .dil ks
  · rcases hi with ⟨C, fs, rfl⟩ | ⟨ks, rfl⟩ | ⟨ks, rfl⟩ <;> exact Post.stuck p
  · refine isi_D I s1 q ru kit.q_int_tuple kit.q_bool_tuple kit.q_list_tuple kit.q_tuple_tuple kit.q_str_tuple kit.q_NoneType_tuple (fun k tk hk => ⟨.bl k, H, I.tok tk, rfl, ?_⟩) (fun C fs e => hi (.inl ⟨C, fs, e⟩)) (fun ks e => hi (.inr (.inl ⟨ks, e⟩))) (fun ks e => hi (.inr (.inr ⟨ks, e⟩)))
    cases d <;> first | (have hk' : k = _ := hk; subst hk'; exact Post.bl (own := own) p s1) | exact absurd (.inl ⟨_, _, rfl⟩) hi | exact absurd (.inr (.inl ⟨_, rfl⟩)) hi | exact absurd (.inr (.inr ⟨_, rfl⟩)) hi
theorem de_isi_tuple (kit : Kit K) (hm : X.mg "isinstance" = none) (hmT : X.mg "tuple" = none) (ha : DE K W false X a fa) (hK : X.K = K := by rfl)
    (hg : Gl X "isinstance" := by rfl) (hgT : Gl X "tuple" := by rfl)
    (hst : starEach [a, .Name "tuple" p2] X.env = [(false, eval a X.env), (false, eval (.Name "tuple" p2) X.env)] := by rfl) (hst2 : starEach [.Name "tuple" p2] X.env = [(false, eval (.Name "tuple" p2) X.env)] := by rfl) (hpl : (backTo pos (starEach [.Name "tuple" p2] X.env)).any (·.1) = false := by rfl) :
    DE K W own X (.Call (.Name "isinstance" p) [a, .Name "tuple" p2] [] pos) (f1 isi_tupleD fa) := de_isi (c_isi_tuple kit hK) hm hmT (by decide +kernel) ha hg hgT (by decide) (by decide) hst hst2 hpl
theorem Vals.of_get : ∀ {xs : List V} {us : List Value}, xs.length = us.length → (∀ (i : Nat) v u, xs[i]? = some v → us[i]? = some u → RelV v u) → Vals xs us
  | [], [], _, _ => .nil
  | [], _ :: _, h, _ => by simp at h
  | _ :: _, [], h, _ => by simp at h
  | x :: xs, u :: us, h, q => .cons (q 0 x u rfl rfl) (Vals.of_get (by simpa using h) fun i v w h1 h2 => q (i + 1) v w (by simpa using h1) (by simpa using h2))
end
end L2
namespace L2
open PySem PySem.Spec PyProof.Rows
section
variable {X : Cx} {es : List Expr} {x : Str} {p : Pos}
theorem dgcs_cons {N' : List Str} {sc : Scope} {L : Addr} {cs : List (Str × Addr)} {s : Shared} {H : Hp} {fp : List Addr} {i : Nat} {is : List Nat} (hN : N'.Nodup) (h2 : PGs (cxComp X N' sc L cs s H fp) es (gNames is)) (hi : N'[i]? = some x := by rfl) (hx : Loc (cxComp X N' sc L cs s H fp).env.scope x := by first | exact Or.inl rfl | exact Or.inr rfl)
    (hf : (cxComp X N' sc L cs s H fp).fn x = true ∨ (cxComp X N' sc L cs s H fp).env.scope.names.lookup x = some .local := by first | exact .inl rfl | exact .inr rfl | assumption)
    (hs : (assignEach (.Name x p :: es) (cxComp X N' sc L cs s H fp).env).map (·.2) = assign (.Name x p) (cxComp X N' sc L cs s H fp).env :: (assignEach es (cxComp X N' sc L cs s H fp).env).map (·.2) := by rfl) : PGs (cxComp X N' sc L cs s H fp) (.Name x p :: es) (gNames (i :: is)) := pgs_cons (pg_c hN hi hx hf) h2 hs
end
end L2
namespace L2
open PySem PySem.Spec PyProof.Rows
open PySem.W in
noncomputable def tRun {α : Type} (lt : Nat → Nat → Bool) : KasT α → α
  | .ret a => a
  | .ask i j k => tRun lt (k (lt i j))
section
open PySem.W
variable {α β : Type} {lt : Nat → Nat → Bool}
theorem tRun_bind (f : α → KasT β) : ∀ t : KasT α, tRun lt (t.bind f) = tRun lt (f (tRun lt t))
  | .ret _ => rfl
  | .ask i j k => tRun_bind f (k (lt i j))
variable {key : Nat → Int} {p : Array Nat}
noncomputable def kAt (key : Nat → Int) (p : Array Nat) (i : Nat) : Int := key (p.getD i 0)
noncomputable def Up (key : Nat → Int) (p : Array Nat) (k : Nat) : Prop := ∀ i j, i ≤ j → j < k → kAt key p i ≤ kAt key p j
noncomputable def Down (key : Nat → Int) (p : Array Nat) (k : Nat) : Prop := ∀ i j, i ≤ j → j < k → kAt key p j ≤ kAt key p i
theorem kAt_congr {p q : Array Nat} {i j : Nat} (h : p[i]? = q[j]?) : kAt key p i = kAt key q j := by
  unfold kAt
  rw [Array.getD_eq_getD_getElem?, Array.getD_eq_getD_getElem?, h]
theorem kAt_rev {i j : Nat} (hj : j ≤ p.size) (k : Nat) : kAt key (kas_rev p i j) k = if i ≤ k ∧ k < j then kAt key p (i + j - 1 - k) else kAt key p k := by
  have e := getElem?_mirror_all (i := i) hj k
  unfold kas_rev
  split
  · rename_i h; rw [if_pos h] at e; exact kAt_congr e
  · rename_i h; rw [if_neg h] at e; exact kAt_congr e
theorem kAt_bub {src d : Nat} (hs : src < p.size) (hd : d ≤ src) (k : Nat) : kAt key (bubble p src d) k = if k = src - d then kAt key p src else if src - d < k ∧ k ≤ src then kAt key p (k - 1) else kAt key p k := by
  have e := getElem?_bubble hs d hd k
  split
  · rename_i h; rw [if_pos h] at e; exact kAt_congr e
  · rename_i h
    rw [if_neg h] at e
    split
    · rename_i h2; rw [if_pos h2] at e; exact kAt_congr e
    · rename_i h2; rw [if_neg h2] at e; exact kAt_congr e
theorem rev_size {i j : Nat} : (kas_rev p i j).size = p.size := mirror_size _ _ _ _
theorem rev_perm {i j : Nat} : (kas_rev p i j).Perm p := mirror_perm _ _ _ _
noncomputable def ltK (key : Nat → Int) (i j : Nat) : Bool := decide (key i < key j)
theorem asc_ok (p : Array Nat) : ∀ (f n : Nat), 1 ≤ n → Up key p n → n ≤ tRun (ltK key) (kas_asc p f n) ∧ tRun (ltK key) (kas_asc p f n) ≤ n + f ∧ Up key p (tRun (ltK key) (kas_asc p f n)) ∧
    (tRun (ltK key) (kas_asc p f n) < n + f → kAt key p (tRun (ltK key) (kas_asc p f n)) < kAt key p (tRun (ltK key) (kas_asc p f n) - 1))
  | 0, n, h1, h => ⟨Nat.le_refl _, Nat.le_refl _, h, fun z => absurd z (Nat.lt_irrefl _)⟩
  | f + 1, n, h1, h => by
    have e : tRun (ltK key) (kas_asc p (f + 1) n) = if kAt key p n < kAt key p (n - 1) then n else tRun (ltK key) (kas_asc p f (n + 1)) := by
      show tRun (ltK key) (if ltK key (p.getD n 0) (p.getD (n - 1) 0) = true then KasT.ret n else kas_asc p f (n + 1)) = _
      by_cases hc : kAt key p n < kAt key p (n - 1)
      · rw [if_pos (show ltK key (p.getD n 0) (p.getD (n - 1) 0) = true from decide_eq_true hc), if_pos hc]; rfl
      · rw [if_neg (show ¬ ltK key (p.getD n 0) (p.getD (n - 1) 0) = true from fun z => hc (of_decide_eq_true z)), if_neg hc]
    rw [e]
    by_cases hc : kAt key p n < kAt key p (n - 1)
    · rw [if_pos hc]
      exact ⟨Nat.le_refl _, by omega, h, fun _ => hc⟩
    · rw [if_neg hc]
      obtain ⟨a1, a2, a3, a4⟩ := asc_ok p f (n + 1) (by omega) (fun i j hij hj => by
        by_cases hjn : j < n
        · exact h i j hij hjn
        · have : j = n := by omega
          subst this
          by_cases hin : i = j
          · rw [hin]; exact Int.le_refl _
          · have := h i (j - 1) (by omega) (by omega)
            omega)
      exact ⟨by omega, by omega, a3, fun z => a4 (by omega)⟩
noncomputable def Alike (key : Nat → Int) (p : Array Nat) (n q : Nat) : Prop := ∀ i, n - (q + 1) ≤ i → i < n → kAt key p i = kAt key p (n - 1)
theorem alike0 {n : Nat} : Alike key p (n + 1) 0 := fun i h1 h2 => by rw [show i = n + 1 - 1 by omega]
theorem rev_alike {n q : Nat} (hn : n ≤ p.size) (ha : Alike key p n q) (hq : q + 1 ≤ n) (k : Nat) : kAt key (kas_rev p (n - (q + 1)) n) k = kAt key p k := by
  rw [kAt_rev hn]
  split
  · rename_i h
    rw [ha _ (by omega) (by omega), ha k h.1 h.2]
  · rfl
theorem desc_ok : ∀ (f : Nat) (p : Array Nat) (n q : Nat), 1 ≤ n → q + 1 ≤ n → n + f ≤ p.size → Down key p n → Alike key p n q → ∀ p' n' q', tRun (ltK key) (kas_desc f p n q) = (p', n', q') →
    p'.Perm p ∧ p'.size = p.size ∧ n ≤ n' ∧ n' ≤ n + f ∧ q' + 1 ≤ n' ∧ Down key p' n' ∧ Alike key p' n' q'
  | 0, p, n, q, h1, hq, hz, hd, ha, p', n', q', e => by
    cases e
    exact ⟨Array.Perm.refl _, rfl, Nat.le_refl _, Nat.le_refl _, hq, hd, ha⟩
  | f + 1, p, n, q, h1, hq, hz, hd, ha, p', n', q', e => by
    have e0 : tRun (ltK key) (kas_desc (f + 1) p n q) = if kAt key p n < kAt key p (n - 1) then (if q > 0 then tRun (ltK key) (kas_desc f (kas_rev p (n - (q + 1)) n) (n + 1) 0) else tRun (ltK key) (kas_desc f p (n + 1) 0))
        else if kAt key p (n - 1) < kAt key p n then (p, n, q) else tRun (ltK key) (kas_desc f p (n + 1) (q + 1)) := by
      show tRun (ltK key) (if ltK key (p.getD n 0) (p.getD (n - 1) 0) = true then (if q > 0 then kas_desc f (kas_rev p (n - (q + 1)) n) (n + 1) 0 else kas_desc f p (n + 1) 0)
        else KasT.ask (p.getD (n - 1) 0) (p.getD n 0) fun d => if d = true then .ret (p, n, q) else kas_desc f p (n + 1) (q + 1)) = _
      by_cases hc : kAt key p n < kAt key p (n - 1)
      · rw [if_pos (show ltK key (p.getD n 0) (p.getD (n - 1) 0) = true from decide_eq_true hc), if_pos hc]
        by_cases hq0 : q > 0
        · rw [if_pos hq0, if_pos hq0]
        · rw [if_neg hq0, if_neg hq0]
      · rw [if_neg (show ¬ ltK key (p.getD n 0) (p.getD (n - 1) 0) = true from fun z => hc (of_decide_eq_true z)), if_neg hc]
        show tRun (ltK key) (if ltK key (p.getD (n - 1) 0) (p.getD n 0) = true then KasT.ret (p, n, q) else kas_desc f p (n + 1) (q + 1)) = _
        by_cases hc2 : kAt key p (n - 1) < kAt key p n
        · rw [if_pos (show ltK key (p.getD (n - 1) 0) (p.getD n 0) = true from decide_eq_true hc2), if_pos hc2]; rfl
        · rw [if_neg (show ¬ ltK key (p.getD (n - 1) 0) (p.getD n 0) = true from fun z => hc2 (of_decide_eq_true z)), if_neg hc2]
    rw [e0] at e
    have down1 : ∀ {r : Array Nat}, (∀ k, kAt key r k = kAt key p k) → kAt key p n ≤ kAt key p (n - 1) → Down key r (n + 1) := fun {r} hr hle i j hij hj => by
      rw [hr, hr]
      by_cases hjn : j < n
      · exact hd i j hij hjn
      · have : j = n := by omega
        subst this
        by_cases hin : i = j
        · rw [hin]; exact Int.le_refl _
        · have := hd i (j - 1) (by omega) (by omega)
          omega
    by_cases hc : kAt key p n < kAt key p (n - 1)
    · rw [if_pos hc] at e
      by_cases hq0 : q > 0
      · rw [if_pos hq0] at e
        have hr := rev_alike (key := key) (p := p) (n := n) (q := q) (by omega) ha hq
        obtain ⟨b1, b2, b3, b4, b5, b6, b7⟩ := desc_ok f _ (n + 1) 0 (by omega) (by omega) (by rw [rev_size]; omega) (down1 hr (by omega)) alike0 p' n' q' e
        exact ⟨b1.trans rev_perm, by rw [b2, rev_size], by omega, by omega, b5, b6, b7⟩
      · rw [if_neg hq0] at e
        obtain ⟨b1, b2, b3, b4, b5, b6, b7⟩ := desc_ok f _ (n + 1) 0 (by omega) (by omega) (by omega) (down1 (fun _ => rfl) (by omega)) alike0 p' n' q' e
        exact ⟨b1, b2, by omega, by omega, b5, b6, b7⟩
    · rw [if_neg hc] at e
      by_cases hc2 : kAt key p (n - 1) < kAt key p n
      · rw [if_pos hc2] at e
        cases e
        exact ⟨Array.Perm.refl _, rfl, Nat.le_refl _, by omega, hq, hd, ha⟩
      · rw [if_neg hc2] at e
        obtain ⟨b1, b2, b3, b4, b5, b6, b7⟩ := desc_ok f _ (n + 1) (q + 1) (by omega) (by omega) (by omega) (down1 (fun _ => rfl) (by omega)) (fun i h1 h2 => by
          show kAt key p i = kAt key p (n + 1 - 1)
          rw [Nat.add_sub_cancel]
          by_cases hin : i = n
          · rw [hin]
          · have := ha i (by omega) (by omega)
            omega) p' n' q' e
        exact ⟨b1, b2, by omega, by omega, b5, b6, b7⟩
theorem tail3_ok {n nrem : Nat} (h1 : 1 ≤ n) (hn : n ≤ nrem) (hz : nrem ≤ p.size) (hd : Down key p n) : ∀ m p', tRun (ltK key) (kas_tail3 n nrem p) = (m, p') → p'.Perm p ∧ p'.size = p.size ∧ 1 ≤ m ∧ m ≤ nrem ∧ Up key p' m := by
  intro m p' e
  unfold kas_tail3 at e
  rw [tRun_bind] at e
  cases e
  have hu : Up key (kas_rev p 0 n) n := fun i j hij hj => by
    rw [kAt_rev (by omega), kAt_rev (by omega), if_pos ⟨Nat.zero_le _, by omega⟩, if_pos ⟨Nat.zero_le _, by omega⟩]
    exact hd _ _ (by omega) (by omega)
  obtain ⟨a1, a2, a3, _⟩ := asc_ok (key := key) (kas_rev p 0 n) (nrem - n) n h1 hu
  exact ⟨rev_perm, rev_size, by omega, by omega, a3⟩
theorem descPart_ok {n nrem : Nat} (h1 : 1 ≤ n) (hn : n + 1 ≤ nrem) (hz : nrem ≤ p.size) (hall : ∀ i, i < n → kAt key p i = kAt key p (n - 1)) (hlt : kAt key p n < kAt key p (n - 1)) : ∀ m p', tRun (ltK key) (kas_descPart n nrem p) = (m, p') → p'.Perm p ∧ p'.size = p.size ∧ 1 ≤ m ∧ m ≤ nrem ∧ Up key p' m := by
  intro m p' e
  unfold kas_descPart at e
  rw [tRun_bind] at e
  obtain ⟨r, n2, q2⟩ : ∃ r n2 q2, tRun (ltK key) (kas_desc (nrem - (n + 1)) p (n + 1) 0) = (r, n2, q2) := ⟨_, _, _, rfl⟩
  obtain ⟨q2, er⟩ := q2
  rw [er] at e
  obtain ⟨b1, b2, b3, b4, b5, b6, b7⟩ := desc_ok (key := key) (nrem - (n + 1)) p (n + 1) 0 (by omega) (by omega) (by omega) (fun i j hij hj => by
    by_cases hjn : j < n
    · rw [hall i (by omega), hall j hjn]; exact Int.le_refl _
    · have : j = n := by omega
      subst this
      by_cases hin : i = j
      · rw [hin]; exact Int.le_refl _
      · rw [hall i (by omega)]; omega) alike0 r n2 q2 er
  by_cases hq : q2 > 0
  · simp only [if_pos hq] at e
    have hr := rev_alike (key := key) (p := r) (n := n2) (q := q2) (by omega) b7 b5
    obtain ⟨c1, c2, c3, c4, c5⟩ := tail3_ok (key := key) (p := kas_rev r (n2 - (q2 + 1)) n2) (n := n2) (nrem := nrem) (by omega) (by omega) (by rw [rev_size]; omega) (fun i j hij hj => by rw [hr, hr]; exact b6 i j hij hj) m p' e
    exact ⟨c1.trans (rev_perm.trans b1), by rw [c2, rev_size, b2], c3, c4, c5⟩
  · simp only [if_neg hq] at e
    obtain ⟨c1, c2, c3, c4, c5⟩ := tail3_ok (key := key) (p := r) (n := n2) (nrem := nrem) (by omega) (by omega) (by omega) b6 m p' e
    exact ⟨c1.trans b1, by rw [c2, b2], c3, c4, c5⟩
theorem count_ok {nrem : Nat} (h1 : 1 ≤ nrem) (hz : nrem ≤ p.size) : ∀ m p', tRun (ltK key) (kas_count nrem p) = (m, p') → p'.Perm p ∧ p'.size = p.size ∧ 1 ≤ m ∧ m ≤ nrem ∧ Up key p' m := by
  intro m p' e
  unfold kas_count at e
  rw [tRun_bind] at e
  obtain ⟨a1, a2, a3, a4⟩ := asc_ok (key := key) p (nrem - 1) 1 (Nat.le_refl _) (fun i j hij hj => by rw [show i = j by omega]; exact Int.le_refl _)
  obtain ⟨n, en⟩ : ∃ n, tRun (ltK key) (kas_asc p (nrem - 1) 1) = n := ⟨_, rfl⟩
  rw [en] at e a1 a2 a3 a4
  by_cases hn : (n == nrem) = true
  · simp only [if_pos hn] at e
    cases e
    exact ⟨Array.Perm.refl _, rfl, a1, by omega, a3⟩
  · simp only [if_neg hn] at e
    have hn' : n ≠ nrem := fun z => hn (by simp [z])
    have hlt := a4 (by omega)
    by_cases h2 : n > 1
    · simp only [if_pos h2] at e
      have e' : tRun (ltK key) (if ltK key (p.getD 0 0) (p.getD (n - 1) 0) = true then KasT.ret (n, p) else kas_descPart n nrem (kas_rev p 0 n)) = (m, p') := e
      by_cases hc : kAt key p 0 < kAt key p (n - 1)
      · rw [if_pos (show ltK key (p.getD 0 0) (p.getD (n - 1) 0) = true from decide_eq_true hc)] at e'
        cases e'
        exact ⟨Array.Perm.refl _, rfl, a1, by omega, a3⟩
      · rw [if_neg (show ¬ ltK key (p.getD 0 0) (p.getD (n - 1) 0) = true from fun z => hc (of_decide_eq_true z))] at e'
        have all : ∀ i, i < n → kAt key p i = kAt key p (n - 1) := fun i hi => by
          have x1 := a3 0 i (by omega) hi
          have x2 := a3 i (n - 1) (by omega) (by omega)
          omega
        have hr : ∀ i, i < n → kAt key (kas_rev p 0 n) i = kAt key p (n - 1) := fun i hi => by
          rw [kAt_rev (by omega), if_pos ⟨Nat.zero_le _, hi⟩]
          exact all _ (by omega)
        obtain ⟨c1, c2, c3, c4, c5⟩ := descPart_ok (key := key) (p := kas_rev p 0 n) (n := n) (nrem := nrem) a1 (by omega) (by rw [rev_size]; omega) (fun i hi => by rw [hr i hi, hr (n - 1) (by omega)]) (by
          rw [hr (n - 1) (by omega), kAt_rev (by omega), if_neg (by omega)]
          exact hlt) m p' e'
        exact ⟨c1.trans rev_perm, by rw [c2, rev_size], c3, c4, c5⟩
    · simp only [if_neg h2] at e
      have : n = 1 := by omega
      subst this
      exact descPart_ok (key := key) (Nat.le_refl _) (by omega) hz (fun i hi => by rw [show i = 1 - 1 by omega]) hlt m p' e
theorem place_ok {k : Nat} (hu : Up key p k) : ∀ (f l r : Nat), r ≤ k → r - l ≤ f → l ≤ r → (∀ i, i < l → kAt key p i ≤ kAt key p k) → (∀ i, r ≤ i → i < k → kAt key p k < kAt key p i) →
    tRun (ltK key) (kas_place p k f l r) ≤ k ∧ (∀ i, i < tRun (ltK key) (kas_place p k f l r) → kAt key p i ≤ kAt key p k) ∧ ∀ i, tRun (ltK key) (kas_place p k f l r) ≤ i → i < k → kAt key p k < kAt key p i
  | 0, l, r, hr, hf, hlr, h1, h2 => by
    have : l = r := by omega
    subst this
    exact ⟨hr, h1, h2⟩
  | f + 1, l, r, hr, hf, hlr, h1, h2 => by
    by_cases hge : l ≥ r
    · have : l = r := by omega
      subst this
      have e : tRun (ltK key) (kas_place p k (f + 1) l l) = l := by
        show tRun (ltK key) (if l ≥ l then KasT.ret l else _) = l
        rw [if_pos hge]; rfl
      rw [e]
      exact ⟨hr, h1, h2⟩
    · have e : tRun (ltK key) (kas_place p k (f + 1) l r) = if kAt key p k < kAt key p ((l + r) / 2) then tRun (ltK key) (kas_place p k f l ((l + r) / 2)) else tRun (ltK key) (kas_place p k f ((l + r) / 2 + 1) r) := by
        show tRun (ltK key) (if l ≥ r then KasT.ret l else .ask (p.getD k 0) (p.getD ((l + r) / 2) 0) fun c => if c = true then kas_place p k f l ((l + r) / 2) else kas_place p k f ((l + r) / 2 + 1) r) = _
        rw [if_neg hge]
        show tRun (ltK key) (if ltK key (p.getD k 0) (p.getD ((l + r) / 2) 0) = true then kas_place p k f l ((l + r) / 2) else kas_place p k f ((l + r) / 2 + 1) r) = _
        by_cases hc : kAt key p k < kAt key p ((l + r) / 2)
        · rw [if_pos (show ltK key (p.getD k 0) (p.getD ((l + r) / 2) 0) = true from decide_eq_true hc), if_pos hc]
        · rw [if_neg (show ¬ ltK key (p.getD k 0) (p.getD ((l + r) / 2) 0) = true from fun z => hc (of_decide_eq_true z)), if_neg hc]
      rw [e]
      by_cases hc : kAt key p k < kAt key p ((l + r) / 2)
      · rw [if_pos hc]
        exact place_ok hu f l ((l + r) / 2) (by omega) (by omega) (by omega) h1 fun i hi hik => by
          have := hu ((l + r) / 2) i hi hik
          omega
      · rw [if_neg hc]
        exact place_ok hu f ((l + r) / 2 + 1) r hr (by omega) (by omega) (fun i hi => by
          have := hu i ((l + r) / 2) (by omega) (by omega)
          omega) h2
theorem bin_ok : ∀ (f : Nat) (p : Array Nat) (k : Nat), k + f ≤ p.size → Up key p k → (tRun (ltK key) (kas_bin f p k)).Perm p ∧ Up key (tRun (ltK key) (kas_bin f p k)) (k + f)
  | 0, p, k, hz, hu => ⟨Array.Perm.refl _, hu⟩
  | f + 1, p, k, hz, hu => by
    have e : tRun (ltK key) (kas_bin (f + 1) p k) = tRun (ltK key) (kas_bin f (bubble p k (k - tRun (ltK key) (kas_place p k k 0 k))) (k + 1)) := by
      show tRun (ltK key) ((kas_place p k k 0 k).bind fun l => kas_bin f (bubble p k (k - l)) (k + 1)) = _
      rw [tRun_bind]
    rw [e]
    obtain ⟨a1, a2, a3⟩ := place_ok hu k 0 k (Nat.le_refl _) (by omega) (Nat.zero_le _) (fun i hi => absurd hi (Nat.not_lt_zero _)) (fun i h1 h2 => by omega)
    obtain ⟨l, el⟩ : ∃ l, tRun (ltK key) (kas_place p k k 0 k) = l := ⟨_, rfl⟩
    rw [el] at a1 a2 a3 ⊢
    have hb := kAt_bub (key := key) (p := p) (src := k) (d := k - l) (by omega) (by omega)
    obtain ⟨c1, c2⟩ := bin_ok f (bubble p k (k - l)) (k + 1) (by rw [bubble_size]; omega) (fun i j hij hj => by
      have e1 : k - (k - l) = l := by omega
      rw [hb, hb, e1]
      by_cases hi : i = l
      · rw [if_pos hi]
        by_cases hj2 : j = l
        · rw [if_pos hj2]; exact Int.le_refl _
        · rw [if_neg hj2, if_pos (by omega)]
          have := a3 (j - 1) (by omega) (by omega)
          omega
      · rw [if_neg hi]
        by_cases hj2 : j = l
        · rw [if_pos hj2, if_neg (by omega)]
          exact a2 i (by omega)
        · rw [if_neg hj2]
          by_cases hi2 : l < i ∧ i ≤ k
          · rw [if_pos hi2, if_pos (by omega)]
            exact hu _ _ (by omega) (by omega)
          · rw [if_neg hi2]
            by_cases hj3 : l < j ∧ j ≤ k
            · rw [if_pos hj3]
              exact hu _ _ (by omega) (by omega)
            · rw [if_neg hj3]
              exact hu _ _ (by omega) (by omega))
    exact ⟨c1.trans (bubble_perm _ _ _), by rw [show k + (f + 1) = k + 1 + f by omega]; exact c2⟩
theorem sort_ok {n : Nat} (h1 : 1 ≤ n) : (tRun (ltK key) (kas_sort n)).toList.Perm (List.range n) ∧ Up key (tRun (ltK key) (kas_sort n)) n := by
  unfold kas_sort
  rw [tRun_bind]
  obtain ⟨m, p', er⟩ : ∃ m p', tRun (ltK key) (kas_count n (List.toArray (List.range n))) = (m, p') := ⟨_, _, rfl⟩
  rw [er]
  obtain ⟨b1, b2, b3, b4, b5⟩ := count_ok (key := key) (p := List.toArray (List.range n)) h1 (by simp) m p' er
  have hsz : p'.size = n := by rw [b2]; simp
  by_cases hm : m < n
  · simp only [if_pos hm]
    have em : max m 1 = m := by omega
    rw [em]
    obtain ⟨c1, c2⟩ := bin_ok (key := key) (n - m) p' m (by omega) b5
    refine ⟨?_, by rw [show m + (n - m) = n by omega] at c2; exact c2⟩
    have := Array.perm_iff_toList_perm.mp (c1.trans b1)
    simpa using this
  · simp only [if_neg hm]
    have : m = n := by omega
    subst this
    refine ⟨?_, b5⟩
    have := Array.perm_iff_toList_perm.mp b1
    show p'.toList.Perm _
    simpa using this
end
end L2
namespace L2
open PySem PySem.Spec PyProof.Rows
section
open PySem.W
variable {α β : Type} {n : Nat}
noncomputable def AskR (n : Nat) (R : α → Prop) : KasT α → Prop
  | .ret a => R a
  | .ask i j k => i < n ∧ j < n ∧ ∀ b, AskR n R (k b)
theorem askR_bind {R : α → Prop} {S : β → Prop} {f : α → KasT β} (hf : ∀ a, R a → AskR n S (f a)) : ∀ t : KasT α, AskR n R t → AskR n S (t.bind f)
  | .ret a, h => hf a h
  | .ask i j k, h => ⟨h.1, h.2.1, fun b => askR_bind hf (k b) (h.2.2 b)⟩
theorem kasWp_runR {lt : Nat → Nat → Bool} {R : α → Prop} {cmp : Nat → Nat → (Bool → Shared → Prop) → Shared → Prop} {s : Shared} (ha : ∀ i j (C : Bool → Shared → Prop), i < n → j < n → C (lt i j) s → cmp i j C s) {Q : α → Shared → Prop} : ∀ t : KasT α, AskR n R t → Q (tRun lt t) s → t.kasWp cmp Q s
  | .ret _, _, h => h
  | .ask i j k, r, h => ha i j _ r.1 r.2.1 (kasWp_runR ha (k (lt i j)) (r.2.2 _) h)
noncomputable def InB (n : Nat) (p : Array Nat) : Prop := ∀ x, p.getD x 0 < n
theorem inB_perm {p q : Array Nat} (h0 : 0 < n) (hp : InB n p) (h : q.Perm p) : InB n q := fun x => by
  rw [Array.getD_eq_getD_getElem?]
  cases e : q[x]? with
  | none => exact h0
  | some v =>
    have hv : v ∈ q.toList := by
      rw [← Array.getElem?_toList] at e
      exact List.mem_of_getElem? e
    have hv2 : v ∈ p.toList := (Array.perm_iff_toList_perm.mp h).mem_iff.mp hv
    obtain ⟨y, hy, ey⟩ := List.getElem_of_mem hv2
    have := hp y
    rw [Array.getD_eq_getD_getElem?, ← Array.getElem?_toList, List.getElem?_eq_getElem hy, ey] at this
    exact this
variable {p : Array Nat}
theorem askR_asc (hp : InB n p) : ∀ f m, AskR n (fun _ => True) (kas_asc p f m)
  | 0, _ => trivial
  | f + 1, m => ⟨hp _, hp _, fun b => by
    (try dsimp only)
    split
    · trivial
    · exact askR_asc hp f (m + 1)⟩
theorem askR_desc (h0 : 0 < n) : ∀ (f : Nat) (p : Array Nat) (m q : Nat), InB n p → AskR n (fun r => InB n r.1) (kas_desc f p m q)
  | 0, p, _, _, hp => hp
  | f + 1, p, m, q, hp => ⟨hp _, hp _, fun b => by
    (try dsimp only)
    split
    · split
      · exact askR_desc h0 f _ _ _ (inB_perm h0 hp rev_perm)
      · exact askR_desc h0 f _ _ _ hp
    · refine ⟨hp _, hp _, fun c => ?_⟩
      (try dsimp only)
      split
      · exact hp
      · exact askR_desc h0 f _ _ _ hp⟩
theorem askR_tail3 (h0 : 0 < n) (hp : InB n p) (m r : Nat) : AskR n (fun r => InB n r.2) (kas_tail3 m r p) := by
  unfold kas_tail3
  refine askR_bind (n := n) (R := fun _ => True) (f := fun k => KasT.ret (k, kas_rev p 0 m)) (fun a _ => ?_) _ (askR_asc (inB_perm h0 hp rev_perm) _ _)
  exact inB_perm h0 hp rev_perm
theorem askR_descPart (h0 : 0 < n) (hp : InB n p) (m r : Nat) : AskR n (fun r => InB n r.2) (kas_descPart m r p) := by
  refine askR_bind (R := fun r => InB n r.1) (fun a ha => ?_) _ (askR_desc h0 _ _ _ _ hp)
  (try dsimp only)
  split
  · exact askR_tail3 h0 (inB_perm h0 ha rev_perm) _ _
  · exact askR_tail3 h0 ha _ _
theorem askR_count (h0 : 0 < n) (hp : InB n p) (r : Nat) : AskR n (fun r => InB n r.2) (kas_count r p) := by
  refine askR_bind (R := fun _ => True) (fun a _ => ?_) _ (askR_asc hp _ _)
  (try dsimp only)
  split
  · exact hp
  · split
    · refine ⟨hp _, hp _, fun b => ?_⟩
      (try dsimp only)
      split
      · exact hp
      · exact askR_descPart h0 (inB_perm h0 hp rev_perm) _ _
    · exact askR_descPart h0 hp _ _
theorem askR_place (hp : InB n p) (k : Nat) : ∀ f l r, AskR n (fun _ => True) (kas_place p k f l r)
  | 0, _, _ => trivial
  | f + 1, l, r => by
    show AskR n (fun _ => True) (if l ≥ r then KasT.ret l else _)
    split
    · trivial
    · refine ⟨hp _, hp _, fun b => ?_⟩
      (try dsimp only)
      split
      · exact askR_place hp k f _ _
      · exact askR_place hp k f _ _
theorem askR_bin (h0 : 0 < n) : ∀ (f : Nat) (p : Array Nat) (k : Nat), InB n p → AskR n (fun _ => True) (kas_bin f p k)
  | 0, _, _, _ => trivial
  | f + 1, p, k, hp => askR_bind (R := fun _ => True) (fun l _ => askR_bin h0 f _ _ (inB_perm h0 hp (bubble_perm _ _ _))) _ (askR_place hp k _ _ _)
theorem askR_sort (h0 : 0 < n) : AskR n (fun _ => True) (kas_sort n) := by
  refine askR_bind (R := fun r => InB n r.2) (fun a ha => ?_) _ (askR_count h0 (fun x => ?_) _)
  · (try dsimp only)
    split
    · exact askR_bin h0 _ _ _ ha
    · trivial
  · rw [Array.getD_eq_getD_getElem?]
    simp only [List.getElem?_toArray]
    cases e : (List.range n)[x]? with
    | none => exact h0
    | some v => exact List.mem_range.mp (List.mem_of_getElem? e)
end
section
open PySem.W
variable {prog : Program} {w : World} {A : Around} {E : Value → Shared → Prop} {s : Shared} {key : Nat → Int}
noncomputable def outOf (key : Nat → Int) (vs : List Value) : List Value := if vs.length < 2 then vs else (tRun (ltK key) (kas_sort vs.length)).toList.map fun i => vs.getD i Value.none
noncomputable def Asks (prog : Program) (w : World) (A : Around) (key : Nat → Int) (vs : List Value) (s' : Shared) : Prop :=
  wpAny (model prog w) A (keyKind' vs.toArray) (fun κ s2 => s2 = s' ∧ ∀ i j (C : Bool → Shared → Prop), i < vs.length → j < vs.length → C (ltK key i j) s' → kas_ask prog w A κ vs i j C s') (fun _ _ => False) s'
theorem lsort_any {a : Addr} {vs : List Value} {n : Nat} {P : PySem.Fin → Shared → Prop} (ho : s.heap.get? a = some (seqObj "list" vs.toArray n)) (h64 : vs.length < 64)
    (hk : 2 ≤ vs.length → ∀ h1 : Heap, (∀ b o, b ≠ a → s.heap.get? b = some o → h1.get? b = some o) → Asks prog w A key vs { s with heap := h1 })
    (h : ∀ (h' : Heap) (c : Nat), (∀ b o, b ≠ a → s.heap.get? b = some o → h'.get? b = some o) → h'.get? a = some (seqObj "list" (outOf key vs).toArray c) → P (.done (.ret .none)) { s with heap := h' }) :
    wpAny (model prog w) A (Builtin.«list.sort» ⟨[.ref a], []⟩) P E s := by
  have hlt : a < s.heap.objs.size := Heap.lt_size ho
  have hline := sizeLine_eq
  obtain ⟨e1, ho1⟩ : ∃ e1, (s.heap.update a (Obj.mapSeq fun _ => (#[] : Array Value))).get? a = some (seqObj "list" #[] e1) := ⟨_, get?_update_seq ho fun _ => #[]⟩
  rw [list_sort_plain]
  refine wpAny_bind (listItems_at ho rfl (wpAny_bind (listUpdate_at ho rfl (wpAny_bind (seqEpoch_at ho1 rfl (wpAny_bind (wpAny_newTuple (wpAny_bind (wpAny_newList (wpAny_holding ?_) (Nat.zero_le _))) (by show vs.length ≤ _; omega))))) (by rw [List.size_toArray]; omega) (Nat.zero_le _))))
  have hkeep : ∀ b o, b ≠ a → s.heap.get? b = some o → (((s.heap.update a (Obj.mapSeq fun _ => (#[] : Array Value))).push (seqObj "tuple" vs.toArray 0)).push (seqObj "list" #[] 0)).get? b = some o := fun b o hb q =>
    Heap.get?_push_of_some _ (Heap.get?_push_of_some _ ((Heap.get?_update_other _ _ (Ne.symm hb)).trans q))
  have ho6 : (((s.heap.update a (Obj.mapSeq fun _ => (#[] : Array Value))).push (seqObj "tuple" vs.toArray 0)).push (seqObj "list" #[] 0)).get? a = some (seqObj "list" #[] e1) := Heap.get?_push_of_some _ (Heap.get?_push_of_some _ ho1)
  show wpAny (model prog w) A _ P E { s with heap := ((s.heap.update a (Obj.mapSeq fun _ => (#[] : Array Value))).push (seqObj "tuple" vs.toArray 0)).push (seqObj "list" #[] 0) }
  dsimp only
  have fin : ∀ (out : List Value), out = outOf key vs → P (.done (.ret .none)) { s with heap := (((s.heap.update a (Obj.mapSeq fun _ => (#[] : Array Value))).push (seqObj "tuple" vs.toArray 0)).push (seqObj "list" #[] 0)).update a (Obj.mapSeq fun _ => out.toArray) } := fun out eo => by
    subst eo
    exact h _ _ (fun b o hb q => (Heap.get?_update_other _ _ (Ne.symm hb)).trans (hkeep b o hb q)) (get?_update_seq ho6 fun _ => (outOf key vs).toArray)
  by_cases h2 : vs.toArray.size < 2
  · rw [if_pos h2, if_pos h2]
    refine wpAny_bind (wpAny_pure ?_)
    rw [StateT.run_pure]
    refine wpAny_bind (wpAny_pure ?_)
    dsimp only
    have h2' : vs.length < 2 := by simpa using h2
    have eo : (arrOf (SortSt.mk' general' (vs.toArray.zip vs.toArray) #[] 7 none)).map (·.2) = vs.toArray := by
      show (vs.toArray.zip vs.toArray).map (·.2) = vs.toArray
      apply Array.toList_inj.mp
      simp only [Array.toList_map, Array.toList_zip]
      exact List.map_snd_zip (Nat.le_refl _)
    rw [eo]
    refine wpAny_bind (seqEpoch_at ho6 rfl (wpAny_bind (listUpdate_at ho6 rfl ?_ (Nat.zero_le _) (by show vs.length ≤ _; omega))))
    have e3 : failedOf (SortSt.mk' general' (vs.toArray.zip vs.toArray) #[] 7 none) = none := rfl
    simp only [e3, bne_self_eq_false, Bool.false_eq_true, if_false]
    exact wpAny_pure (fin vs (by unfold outOf; rw [if_pos h2']))
  · rw [if_neg h2, if_neg h2]
    have h2' : 2 ≤ vs.length := by rw [List.size_toArray] at h2; omega
    refine wpAny_bind (wpAny_mono (hk h2' _ hkeep) (fun κ s0 ⟨es, ask⟩ => ?_) fun _ _ x => x.elim)
    subst es
    refine wpAny_bind (wpAny_mono (kat_run (ks := vs) (vs := vs) (Q := fun st' s' => s' = { s with heap := ((s.heap.update a (Obj.mapSeq fun _ => (#[] : Array Value))).push (seqObj "tuple" vs.toArray 0)).push (seqObj "list" #[] 0) } ∧ (arrOf st').map (·.2) = (outOf key vs).toArray ∧ failedOf st' = none)
      (G := fun p s' => s' = { s with heap := ((s.heap.update a (Obj.mapSeq fun _ => (#[] : Array Value))).push (seqObj "tuple" vs.toArray 0)).push (seqObj "list" #[] 0) } ∧ p = tRun (ltK key) (kas_sort vs.length)) rfl h2' h64 (fun p st' s' _ har hf hg => ⟨hg.1, ?_, hf⟩) (kasWp_runR (n := vs.length) (R := fun _ => True) (fun i j C hi hj hc => ask i j C hi hj hc) _ (askR_sort (by omega)) ⟨rfl, rfl⟩)) (fun r s' hr => ?_) fun _ _ x => x)
    · rw [kat_snds rfl har, hg.2]
      unfold outOf
      rw [if_neg (by omega)]
    · obtain ⟨⟨⟩, st'⟩ := r
      obtain ⟨es, eo, ef⟩ := hr
      have es : s' = _ := es
      subst es
      have eo : (arrOf st').map (·.2) = (outOf key vs).toArray := eo
      have ef : failedOf st' = none := ef
      dsimp only
      rw [eo]
      have hol : (outOf key vs).length = vs.length := by
        unfold outOf
        split
        · rfl
        · rw [List.length_map, (sort_ok (key := key) (n := vs.length) (by omega)).1.length_eq, List.length_range]
      refine wpAny_bind (seqEpoch_at ho6 rfl (wpAny_bind (listUpdate_at ho6 rfl ?_ (Nat.zero_le _) (by show (outOf key vs).length ≤ _; omega))))
      simp only [ef, bne_self_eq_false, Bool.false_eq_true, if_false]
      exact wpAny_pure (fin _ rfl)
theorem sorted_any {l : Addr} {vs : List Value} {Q : Value → Shared → Prop} (hl : s.heap.IsList l vs.toArray) (h64 : vs.length < 64)
    (hk : 2 ≤ vs.length → ∀ h1 : Heap, (∀ b o, s.heap.get? b = some o → h1.get? b = some o) → Asks prog w A.in1.in1 key vs { s with heap := h1 })
    (h : ∀ (h' : Heap) (D : Addr) (c : Nat), s.heap.objs.size ≤ D → (∀ b o, s.heap.get? b = some o → h'.get? b = some o) → h'.get? D = some (seqObj "list" (outOf key vs).toArray c) → Q (.ref D) { s with heap := h' }) :
    wpAny (model prog w) A (call (.builtin "sorted") [.ref l]) Q E s := by
  have hline := sizeLine_eq
  refine Calls.call_function_entry kind_sorted plain_sorted entry_sorted (args_sorted1 _) ?_
  unfold Builtin.«sorted»
  refine wpAny_bind (m := checkCount "sorted" 1 1 _) (wpAny_pure (wpAny_bind (collect_list hl (wpAny_bind (wpAny_newList ?_ (by omega))) (by omega))))
  have hz : ((s.heap.push (seqObj "list" #[] 0)).update s.heap.objs.size (Obj.mapSeq (· ++ vs.toArray))).objs.size = s.heap.objs.size + 1 := by rw [Heap.size_update, size_push']
  have hD : (((s.heap.push (seqObj "list" #[] 0)).update s.heap.objs.size (Obj.mapSeq (· ++ vs.toArray))).push (seqObj "list" vs.toArray 0)).get? (s.heap.objs.size + 1) = some (seqObj "list" vs.toArray 0) := by rw [← hz]; exact Heap.get?_push_size _ rfl
  have hkeep : ∀ b o, s.heap.get? b = some o → (((s.heap.push (seqObj "list" #[] 0)).update s.heap.objs.size (Obj.mapSeq (· ++ vs.toArray))).push (seqObj "list" vs.toArray 0)).get? b = some o := fun b o q =>
    Heap.get?_push_of_some _ ((Heap.get?_update_other _ _ (Nat.ne_of_gt (Heap.lt_size q))).trans (Heap.get?_push_of_some _ q))
  show wpAny _ _ _ _ _ { s with heap := ((s.heap.push (seqObj "list" #[] 0)).update s.heap.objs.size (Obj.mapSeq (· ++ vs.toArray))).push (seqObj "list" vs.toArray 0) }
  rw [hz]
  have hnD : ∀ b o, s.heap.get? b = some o → b ≠ s.heap.objs.size + 1 := fun b o q => Nat.ne_of_lt (Nat.lt_succ_of_lt (Heap.lt_size q))
  refine wpAny_bind (wpAny_holding (wpAny_call_entry slot_list_sort ⟨_, hD, rfl⟩ entry_list_sort (lsort_any hD h64 (fun h2 h1 hk1 => hk h2 h1 fun b o q => hk1 b o (hnD b o q) (hkeep b o q)) fun h' c k' e' => ⟨_, rfl, ?_⟩) (args_list_sort _)))
  exact wpAny_pure ⟨_, rfl, h h' _ c (Nat.le_succ _) (fun b o q => k' b o (hnD b o q) (hkeep b o q)) e'⟩
end
end L2
namespace L2
open PySem PySem.Spec PyProof.Rows
noncomputable def insL {α : Type} (lt : α → α → Bool) (x : α) : List α → List α
  | [] => [x]
  | y :: ys => if lt y x = true then y :: insL lt x ys else x :: y :: ys
noncomputable def isort {α : Type} (lt : α → α → Bool) : List α → List α
  | [] => []
  | x :: xs => insL lt x (isort lt xs)
noncomputable def ltZ (a b : Int) : Bool := decide (a < b)
noncomputable def lexZ : List Int → List Int → Bool
  | [], [] => false
  | [], _ :: _ => true
  | _ :: _, [] => false
  | a :: as, b :: bs => if a = b then lexZ as bs else decide (a < b)
noncomputable def tupZ (t : List Int) : Dat := .tup (t.map .int)
noncomputable def tupD : Dat → M (List Int)
  | .tup ds => intsD ds
  | _ => stk
noncomputable def tupsD : List Dat → M (List (List Int))
  | [] => .ok []
  | d :: ds => (tupD d).bind fun t => (tupsD ds).bind fun r => .ok (t :: r)
noncomputable def sortDs (ds : List Dat) : M Dat := if ds.length < 64 then (match intsD ds with
  | .ok is => .ok (.lst ((isort ltZ is).map .int))
  | .error _ => (tupsD ds).bind fun ts => if (ts.all fun t => !t.isEmpty) = true then .ok (.lst ((isort lexZ ts).map tupZ)) else stk) else stk
noncomputable def sortedD : List Dat → M Dat
  | [.lst ds] => sortDs ds
  | _ => stk
section
variable {α : Type} {lt : α → α → Bool}
structure Ord (lt : α → α → Bool) : Prop where
  irr : ∀ a, lt a a = false
  tr : ∀ a b c, lt a b = true → lt b c = true → lt a c = true
  tot : ∀ a b, lt a b = false → lt b a = false → a = b
theorem ordZ : Ord ltZ := ⟨fun a => by simp [ltZ], fun a b c h1 h2 => by simp [ltZ] at *; omega, fun a b h1 h2 => by simp [ltZ] at *; omega⟩
theorem ordLex : Ord lexZ := by
  refine ⟨fun a => ?_, fun a b c => ?_, fun a b => ?_⟩
  · induction a with
    | nil => rfl
    | cons x xs ih => simp [lexZ, ih]
  · induction a generalizing b c with
    | nil =>
      cases b with
      | nil => intro h; simp [lexZ] at h
      | cons y ys =>
        intro _ h2
        cases c with
        | nil => simp [lexZ] at h2
        | cons z zs => rfl
    | cons x xs ih =>
      intro h1 h2
      cases b with
      | nil => simp [lexZ] at h1
      | cons y ys =>
        cases c with
        | nil => simp [lexZ] at h2
        | cons z zs =>
          simp only [lexZ] at h1 h2 ⊢
          by_cases e1 : x = y
          · subst e1
            rw [if_pos rfl] at h1
            by_cases e2 : x = z
            · rw [if_pos e2] at h2 ⊢; exact ih _ _ h1 h2
            · rw [if_neg e2] at h2 ⊢; exact h2
          · rw [if_neg e1] at h1
            have h1' : x < y := of_decide_eq_true h1
            by_cases e2 : y = z
            · subst e2
              rw [if_neg e1]; exact h1
            · rw [if_neg e2] at h2
              have h2' : y < z := of_decide_eq_true h2
              rw [if_neg (by omega)]
              exact decide_eq_true (by omega)
  · induction a generalizing b with
    | nil =>
      cases b with
      | nil => intros; rfl
      | cons y ys => intro h; simp [lexZ] at h
    | cons x xs ih =>
      cases b with
      | nil => intro _ h; simp [lexZ] at h
      | cons y ys =>
        intro h1 h2
        simp only [lexZ] at h1 h2
        by_cases e1 : x = y
        · subst e1
          rw [if_pos rfl] at h1 h2
          rw [ih _ h1 h2]
        · rw [if_neg e1] at h1
          rw [if_neg (fun z => e1 z.symm)] at h2
          have h1' := of_decide_eq_false h1
          have h2' := of_decide_eq_false h2
          omega
theorem insL_perm (x : α) : ∀ l : List α, (insL lt x l).Perm (x :: l)
  | [] => List.Perm.refl _
  | y :: ys => by
    rw [insL]
    split
    · exact ((insL_perm x ys).cons y).trans (List.Perm.swap x y ys)
    · exact List.Perm.refl _
theorem isort_perm : ∀ l : List α, (isort lt l).Perm l
  | [] => List.Perm.refl _
  | x :: xs => (insL_perm x _).trans ((isort_perm xs).cons x)
theorem Ord.le_trans (o : Ord lt) {a b c : α} (h1 : lt b a = false) (h2 : lt c b = false) : lt c a = false := by
  cases h : lt c a with
  | false => rfl
  | true =>
    cases h3 : lt b c with
    | true => rw [o.tr b c a h3 h] at h1; cases h1
    | false =>
      have := o.tot c b h2 h3
      subst this
      rw [h] at h1; cases h1
theorem Ord.asym (o : Ord lt) {a b : α} (h : lt a b = true) : lt b a = false := by
  cases h2 : lt b a with
  | false => rfl
  | true => have := o.tr a b a h h2; rw [o.irr] at this; cases this
theorem insL_sorted (o : Ord lt) (x : α) : ∀ l : List α, l.Pairwise (fun a b => lt b a = false) → (insL lt x l).Pairwise (fun a b => lt b a = false)
  | [], _ => by simp [insL]
  | y :: ys, h => by
    rw [insL]
    rw [List.pairwise_cons] at h
    split
    · rename_i hc
      rw [List.pairwise_cons]
      refine ⟨fun b hb => ?_, insL_sorted o x ys h.2⟩
      rcases List.mem_cons.mp ((insL_perm x ys).mem_iff.mp hb) with e | e
      · rw [e]; exact o.asym hc
      · exact h.1 b e
    · rename_i hc
      have hc' : lt y x = false := by simpa using hc
      rw [List.pairwise_cons, List.pairwise_cons]
      refine ⟨fun b hb => ?_, h⟩
      rcases List.mem_cons.mp hb with e | e
      · rw [e]; exact hc'
      · exact o.le_trans hc' (h.1 b e)
theorem isort_sorted (o : Ord lt) : ∀ l : List α, (isort lt l).Pairwise (fun a b => lt b a = false)
  | [] => List.Pairwise.nil
  | x :: xs => insL_sorted o x _ (isort_sorted o xs)
theorem perm_unique (o : Ord lt) : ∀ {l m : List α}, l.Perm m → l.Pairwise (fun a b => lt b a = false) → m.Pairwise (fun a b => lt b a = false) → l = m
  | [], m, h, _, _ => (List.Perm.nil_eq h)
  | a :: l, m, h, h1, h2 => by
    cases m with
    | nil => exact absurd h.symm (by simp)
    | cons b m =>
      rw [List.pairwise_cons] at h1 h2
      have e : a = b := by
        rcases List.mem_cons.mp (h.mem_iff.mp List.mem_cons_self) with e | e
        · exact e
        · rcases List.mem_cons.mp (h.mem_iff.mpr List.mem_cons_self) with e2 | e2
          · exact e2.symm
          · exact o.tot a b (h2.1 a e) (h1.1 b e2)
      subst e
      rw [perm_unique o (List.Perm.cons_inv h) h1.2 h2.2]
end
section
open PySem.W
variable {α : Type} {lt : α → α → Bool}
theorem getD_get {l : List α} {i : Nat} {d : α} (h : i < l.length) : l.getD i d = l[i] := by simp [h]
noncomputable def rk (lt : α → α → Bool) (zs : List α) (d : α) (i : Nat) : Int := ((zs.filter fun z => lt z (zs.getD i d)).length : Int)
theorem filter_lt {p q : α → Bool} (h : ∀ z, p z = true → q z = true) : ∀ l : List α, (l.filter p).length ≤ (l.filter q).length ∧ ((∃ z ∈ l, p z = false ∧ q z = true) → (l.filter p).length < (l.filter q).length)
  | [] => ⟨Nat.le_refl _, fun ⟨_, h, _⟩ => nomatch h⟩
  | x :: xs => by
    obtain ⟨i1, i2⟩ := filter_lt h xs
    cases hp : p x with
    | true =>
      have hq := h x hp
      rw [List.filter_cons_of_pos hp, List.filter_cons_of_pos hq]
      refine ⟨by simp; exact i1, fun ⟨z, hz, e1, e2⟩ => ?_⟩
      rcases List.mem_cons.mp hz with e | e
      · rw [e, hp] at e1; cases e1
      · have := i2 ⟨z, e, e1, e2⟩
        simp; exact this
    | false =>
      rw [List.filter_cons_of_neg (by simp [hp])]
      cases hq : q x with
      | true =>
        rw [List.filter_cons_of_pos hq]
        exact ⟨by simp; omega, fun _ => by simp; omega⟩
      | false =>
        rw [List.filter_cons_of_neg (by simp [hq])]
        refine ⟨i1, fun ⟨z, hz, e1, e2⟩ => ?_⟩
        rcases List.mem_cons.mp hz with e | e
        · rw [e, hq] at e2; cases e2
        · exact i2 ⟨z, e, e1, e2⟩
theorem rk_lt (o : Ord lt) {zs : List α} {d : α} {i j : Nat} (hi : i < zs.length) (hj : j < zs.length) : ltK (rk lt zs d) i j = lt (zs.getD i d) (zs.getD j d) := by
  unfold ltK rk
  have gi : zs.getD i d ∈ zs := by rw [getD_get hi]; exact List.getElem_mem hi
  have gj : zs.getD j d ∈ zs := by rw [getD_get hj]; exact List.getElem_mem hj
  cases h : lt (zs.getD i d) (zs.getD j d) with
  | true =>
    refine decide_eq_true ?_
    have := (filter_lt (p := fun z => lt z (zs.getD i d)) (q := fun z => lt z (zs.getD j d)) (fun z hz => o.tr _ _ _ hz h) zs).2 ⟨_, gi, o.irr _, h⟩
    omega
  | false =>
    refine decide_eq_false ?_
    have := (filter_lt (p := fun z => lt z (zs.getD j d)) (q := fun z => lt z (zs.getD i d)) (fun z hz => by
      cases h3 : lt z (zs.getD i d) with
      | true => rfl
      | false =>
        have e := o.le_trans h h3
        rw [hz] at e; cases e) zs).1
    omega
theorem out_isort (o : Ord lt) (zs : List α) (d : α) (h2 : 2 ≤ zs.length) : (tRun (ltK (rk lt zs d)) (kas_sort zs.length)).toList.map (fun i => zs.getD i d) = isort lt zs := by
  obtain ⟨h1, hu⟩ := sort_ok (key := rk lt zs d) (n := zs.length) (by omega)
  refine perm_unique o ?_ ?_ (isort_sorted o zs)
  · refine (h1.map _).trans ?_
    have : (List.range zs.length).map (fun i => zs.getD i d) = zs := by
      apply List.ext_getElem
      · simp
      · intro i h3 h4
        simp [h4]
    rw [this]
    exact (isort_perm zs).symm
  · rw [List.pairwise_map, List.pairwise_iff_getElem]
    intro i j hi hj hij
    have hn : (tRun (ltK (rk lt zs d)) (kas_sort zs.length)).toList.length = zs.length := by rw [h1.length_eq, List.length_range]
    have inr : ∀ k (hk : k < (tRun (ltK (rk lt zs d)) (kas_sort zs.length)).toList.length), (tRun (ltK (rk lt zs d)) (kas_sort zs.length)).toList[k] < zs.length := fun k hk => List.mem_range.mp (h1.mem_iff.mp (List.getElem_mem hk))
    have := hu i j (by omega) (by omega)
    unfold kAt at this
    have g : ∀ k (hk : k < (tRun (ltK (rk lt zs d)) (kas_sort zs.length)).toList.length), (tRun (ltK (rk lt zs d)) (kas_sort zs.length)).getD k 0 = (tRun (ltK (rk lt zs d)) (kas_sort zs.length)).toList[k] := fun k hk => by
      rw [Array.getD_eq_getD_getElem?, ← Array.getElem?_toList, List.getElem?_eq_getElem hk]; rfl
    rw [g i hi, g j hj] at this
    rw [← rk_lt o (inr j hj) (inr i hi)]
    exact decide_eq_false (by omega)
theorem isort_small : ∀ {zs : List α}, zs.length < 2 → isort lt zs = zs
  | [], _ => rfl
  | [x], _ => rfl
  | _ :: _ :: _, h => by simp at h; omega
variable {X : Cx} {K : PySem.W.Frag} {W : Wish} {own : Bool}
theorem vals_map {xs : List V} {us : List Value} (r : Vals xs us) (ps : List Nat) (hp : ∀ i ∈ ps, i < xs.length) : Vals (ps.map fun i => xs.getD i .non) (ps.map fun i => us.getD i .none) := by
  refine Vals.of_get (by simp) fun k v u h1 h2 => ?_
  rw [List.getElem?_map] at h1 h2
  cases e : ps[k]? with
  | none => rw [e] at h1; cases h1
  | some i =>
    rw [e] at h1 h2
    simp only [Option.map_some, Option.some.injEq] at h1 h2
    have hi := hp i (List.mem_of_getElem? e)
    have hl := r.length
    obtain ⟨u', e1, q⟩ := r.get (i := i) (x := xs[i]) (by simp [hi])
    rw [getD_get hi] at h1
    rw [List.getD_eq_getElem?_getD, e1] at h2
    rw [← h1, ← h2]
    exact q
theorem sorted_D (o : Ord lt) {pins : List (Addr × Obj)} {σ : St} {F H : Hp} {s : Shared} {Q : VK} {a : Addr} {xs : List V} {zs : List α} {d0 : α} {enc : α → Dat} (I : Inv X pins σ H s) (hF : Same F H) (t : SqL X.K F a xs) (r : Deeps X.K F (zs.map enc) xs) (h64 : zs.length < 64)
    (hk : ∀ its : List Value, Vals xs its → 2 ≤ its.length → ∀ h1 : Heap, (∀ b o, s.heap.get? b = some o → h1.get? b = some o) → Asks X.prog X.w X.A.in1.in1 (rk lt zs d0) its { s with heap := h1 })
    (p : Post X.K W true F H (.ok (.lst ((isort lt zs).map enc))) Q) : wpAny (model X.prog X.w) X.A (call (.builtin "sorted") [.ref a]) (EP X pins σ Q) X.xe s := by
  obtain ⟨its, rv, pl, hz⟩ := I.list (hF.lst t)
  have l1 := rv.length
  have l2 := r.length
  rw [List.length_map] at l2
  refine sorted_any (key := rk lt zs d0) pl.isList (by omega) (fun h2 h1 kp => hk its rv h2 h1 kp) fun h' D c hD kp e => ?_
  have key : ∃ ys, ys.length ≤ sizeLine ∧ Vals ys (outOf (rk lt zs d0) its) ∧ Deeps X.K F ((isort lt zs).map enc) ys := by
    unfold outOf
    by_cases h2 : its.length < 2
    · rw [if_pos h2, isort_small (by omega)]
      exact ⟨xs, hz, rv, r⟩
    · rw [if_neg h2, show its.length = zs.length by omega]
      obtain ⟨h1, _⟩ := sort_ok (key := rk lt zs d0) (n := zs.length) (by omega)
      have inr : ∀ i ∈ (tRun (ltK (rk lt zs d0)) (kas_sort zs.length)).toList, i < xs.length := fun i hi => by
        have := List.mem_range.mp (h1.mem_iff.mp hi); omega
      refine ⟨(tRun (ltK (rk lt zs d0)) (kas_sort zs.length)).toList.map fun i => xs.getD i .non, ?_, vals_map rv _ inr, ?_⟩
      · rw [List.length_map, h1.length_eq, List.length_range]; omega
      · rw [← out_isort o zs d0 (by omega), List.map_map]
        refine Deeps.of_get (by simp) fun k dd v g1 g2 => ?_
        rw [List.getElem?_map] at g1 g2
        cases ek : (tRun (ltK (rk lt zs d0)) (kas_sort zs.length)).toList[k]? with
        | none => rw [ek] at g1; cases g1
        | some i =>
          rw [ek] at g1 g2
          simp only [Option.map_some, Option.some.injEq, Function.comp] at g1 g2
          have hi := inr i (List.mem_of_getElem? ek)
          obtain ⟨w, e1, q⟩ := r.get (i := i) (d := enc (zs[i]'(by omega))) (by simp [show i < zs.length by omega])
          rw [getD_get (show i < zs.length by omega)] at g1
          rw [List.getD_eq_getElem?_getD, e1] at g2
          rw [← g1, ← g2]
          exact q
  obtain ⟨ys, hy1, hy2, hy3⟩ := key
  have I1 : Inv X pins σ (upd H D (.lst ys)) { s with heap := h' } := I.laid (t' := s.toks) kp hD (show ObjOk X.prog X.w _ h' D (.lst ys) from ⟨hy1, _, c, hy2, e⟩)
  exact ⟨.ref D, _, I1, rfl, p.lst hF hy3 (I.hok.fresh hD)⟩
theorem rk_ints (is : List Int) (i j : Nat) (hi : i < is.length) (hj : j < is.length) : ltK (rk ltZ is 0) i j = decide (is.getD i 0 < is.getD j 0) := rk_lt ordZ hi hj
theorem asks_ints {prog : Program} {w : World} {A : Around} {s' : Shared} {its : List Value} {is : List Int} (hi : IntsAre its is) (h2 : 2 ≤ its.length) : Asks prog w A (rk ltZ is 0) its s' := by
  have hl := hi.length
  obtain ⟨v1, v2, rest, rfl⟩ : ∃ v1 v2 rest, its = v1 :: v2 :: rest := by
    match its, h2 with
    | v1 :: v2 :: rest, _ => exact ⟨v1, v2, rest, rfl⟩
  unfold Asks
  rw [keyKind_ints hi]
  refine wpAny_pure ⟨rfl, fun i j C h1 h2 hc => ?_⟩
  unfold kas_ask
  obtain ⟨t1, e1⟩ := ints_at hi i h1
  obtain ⟨t2, e2⟩ := ints_at hi j h2
  rw [e1, e2]
  rw [rk_ints is i j (by omega) (by omega)] at hc
  exact kat_lt_int hc
where
  ints_at {vs : List Value} {ns : List Int} (h : IntsAre vs ns) (i : Nat) (hi : i < vs.length) : ∃ t, vs.getD i Value.none = .int (ns.getD i 0) t := by
    induction h generalizing i with
    | nil => simp at hi
    | cons n t r ih =>
      cases i with
      | zero => exact ⟨t, rfl⟩
      | succ i => obtain ⟨t', e⟩ := ih i (by simpa using hi); exact ⟨t', by simpa using e⟩
noncomputable def lexF (f : Bool) : List Int → List Int → Bool
  | a :: as, b :: bs => if a = b then lexF f as bs else decide (a < b)
  | _, _ => f
theorem lexF_lex : ∀ as bs : List Int, lexF (decide (as.length < bs.length)) as bs = lexZ as bs
  | [], [] => rfl
  | [], _ :: _ => by simp [lexF, lexZ]
  | _ :: _, [] => by simp [lexF, lexZ]
  | a :: as, b :: bs => by
    have := lexF_lex as bs
    simp only [lexF, lexZ, List.length_cons, Nat.add_lt_add_iff_right]
    rw [this]
theorem katLex_ints {prog : Program} {w : World} {A : Around} {s' : Shared} {f : Bool} {Q : Bool → Shared → Prop} : ∀ {us vs : List Value} {as bs : List Int} (i : Nat), IntsAre us as → IntsAre vs bs → Q (lexF f as bs) s' → KatLex prog w A true f Q (us.zip vs) i s'
  | _, _, _, bs, _, .nil, _, h => kat_nil (by cases bs <;> exact h)
  | _, _, _, _, _, .cons a t r, .nil, h => kat_nil h
  | _, _, _, _, i, .cons a t r, .cons b u r', h => by
    show KatLex prog w A true f Q ((.int a t, .int b u) :: (_ : List (Value × Value))) i s'
    refine kat_cons (SeqAt.EqAt.int_int a t b u _ _ _ _ ?_)
    by_cases e : a = b
    · rw [show (a == b) = true by simpa using e]
      rw [lexF, if_pos e] at h
      exact kat_yes (katLex_ints (i + 1) r r' h)
    · rw [show (a == b) = false by simpa using e]
      rw [lexF, if_neg e] at h
      refine kat_no ?_
      cases hb : (true && i == 0) with
      | true => exact oneLt_int h
      | false => exact kat_one _ _ (lt_int h)
theorem asks_tups {pins : List (Addr × Obj)} {σ : St} {F H : Hp} {s : Shared} {A : Around} {xs : List V} {ts : List (List Int)} {its : List Value} {h1 : Heap} (I : Inv X pins σ H s) (hF : Same F H) (r : Deeps X.K F (ts.map tupZ) xs) (hne : (ts.all fun t => !t.isEmpty) = true) (rv : Vals xs its) (h2 : 2 ≤ its.length)
    (kp : ∀ b o, s.heap.get? b = some o → h1.get? b = some o) : Asks X.prog X.w A (rk lexZ ts []) its { s with heap := h1 } := by
  have l1 := rv.length
  have l2 := r.length
  rw [List.length_map] at l2
  have at_ : ∀ i, i < its.length → ∃ (l : Addr) (ob : Obj) (us : List Value) (n : Nat), its.getD i Value.none = .ref l ∧ h1.get? l = some ob ∧ ob.cls = .type "tuple" ∧ ob.data = .seq us.toArray n ∧ IntsAre us (ts.getD i []) := fun i hi => by
    obtain ⟨v, e1, l, ys, e2, tq, rr⟩ := r.get (i := i) (d := tupZ (ts[i]'(by omega))) (by simp [show i < ts.length by omega])
    subst e2
    obtain ⟨u, e3, ru⟩ := rv.get e1
    cases ru
    obtain ⟨us, ru, pl, _⟩ := I.tuple (hF.tup tq)
    obtain ⟨ob, h3, h4, n, h5⟩ := pl
    have e4 : ys = (ts[i]'(by omega)).map V.int := ints_deep rr (intsD_map _)
    rw [e4] at ru
    exact ⟨l, ob, us, n, by rw [List.getD_eq_getElem?_getD, e3]; rfl, kp _ _ h3, h4, h5, by rw [getD_get (show i < ts.length by omega)]; exact intsAre_of ru⟩
  have tups : ∀ (k : Nat), k ≤ its.length → ∃ fs, KatTups h1 (its.drop (its.length - k)) fs ∧ fs.length = k ∧ ∀ v ∈ fs, ∃ i t, v = Value.int i t := by
    intro k
    induction k with
    | zero => intro _; exact ⟨[], by rw [Nat.sub_zero, List.drop_length]; exact KatTups.nil, rfl, fun _ h => nomatch h⟩
    | succ k ih =>
      intro hk
      obtain ⟨fs, q1, q2, q3⟩ := ih (by omega)
      have hi : its.length - (k + 1) < its.length := by omega
      obtain ⟨l, ob, us, n, e1, e2, e3, e4, e5⟩ := at_ _ hi
      have hn : (ts.getD (its.length - (k + 1)) []) ≠ [] := by
        rw [getD_get (show its.length - (k + 1) < ts.length by omega)]
        have := List.all_eq_true.mp hne _ (List.getElem_mem (show its.length - (k + 1) < ts.length by omega))
        simpa using this
      obtain ⟨z, ez⟩ : ∃ z, ts.getD (its.length - (k + 1)) [] = z := ⟨_, rfl⟩
      rw [ez] at e5 hn
      obtain ⟨f, fr, ef, hf⟩ : ∃ f fr, us = f :: fr ∧ ∃ i t, f = Value.int i t := by
        cases e5 with
        | nil => exact absurd rfl hn
        | cons m t r => exact ⟨_, _, rfl, _, _, rfl⟩
      refine ⟨f :: fs, ?_, by simp [q2], fun v hv => ?_⟩
      · rw [List.drop_eq_getElem_cons hi]
        rw [show its.length - (k + 1) + 1 = its.length - k by omega]
        rw [getD_get hi] at e1
        rw [e1]
        exact KatTups.cons e2 e3 e4 (by rw [ef]; rfl) q1
      · rcases List.mem_cons.mp hv with e | e
        · rw [e]; exact hf
        · exact q3 v e
  obtain ⟨fs, q1, q2, q3⟩ := tups its.length (Nat.le_refl _)
  rw [Nat.sub_self, List.drop_zero] at q1
  unfold Asks
  refine kat_kind (s := { s with heap := h1 }) (T := .type "int") q1 (by omega) (fun v hv => ?_) rfl ⟨rfl, fun i j C hi hj hc => ?_⟩
  · obtain ⟨i, t, e⟩ := q3 v hv
    rw [e]
    exact Looks.of_pure rfl
  · unfold kas_ask
    obtain ⟨x1, o1, us, n1, e1, g1, _, d1, a1⟩ := at_ i hi
    obtain ⟨x2, o2, vs, n2, e2, g2, _, d2, a2⟩ := at_ j hj
    rw [e1, e2]
    rw [rk_lt ordLex (show i < ts.length by omega) (show j < ts.length by omega)] at hc
    refine kat_lt (s := { s with heap := h1 }) g1 d1 g2 d2 (katLex_ints 0 a1 a2 ?_)
    rw [List.size_toArray, List.size_toArray, a1.length, a2.length, lexF_lex]
    exact hc
theorem tup_deep {F : Hp} {d : Dat} {t : List Int} (h : tupD d = .ok t) : d = tupZ t := by
  cases d with
  | tup ds =>
    have : ∀ {ds : List Dat} {t : List Int}, intsD ds = .ok t → ds = t.map .int := by
      intro ds
      induction ds with
      | nil => intro t h; cases h; rfl
      | cons d ds ih =>
        intro t h
        cases d with
        | int i =>
          cases e : intsD ds with
          | error x => simp only [intsD, asI, bind_ok, e, bind_er] at h; cases h
          | ok r =>
            simp only [intsD, asI, bind_ok, e] at h
            cases h
            rw [ih e]
            rfl
        | _ => cases h
    unfold tupZ
    rw [this h]
  | _ => cases h
theorem ints_data : ∀ {ds : List Dat} {t : List Int}, intsD ds = .ok t → ds = t.map .int := fun {ds t} h => by
  have := tup_deep (F := fun _ => none) (d := .tup ds) (t := t) h
  unfold tupZ at this
  injection this
theorem tups_data : ∀ {ds : List Dat} {ts : List (List Int)}, tupsD ds = .ok ts → ds = ts.map tupZ
  | [], _, h => by cases h; rfl
  | d :: ds, ts, h => by
    cases e : tupD d with
    | error x => simp only [tupsD, e, bind_er] at h; cases h
    | ok t =>
      cases e2 : tupsD ds with
      | error x => simp only [tupsD, e, bind_ok, e2, bind_er] at h; cases h
      | ok r =>
        simp only [tupsD, e, bind_ok, e2] at h
        cases h
        rw [tup_deep (F := fun _ => none) e, tups_data e2]
        rfl
theorem tupsD_err : ∀ {ds : List Dat} {e : Err}, tupsD ds = .error e → e = .stuck
  | [], _, h => by cases h
  | d :: ds, e, h => by
    cases e1 : tupD d with
    | error x =>
      simp only [tupsD, e1, bind_er] at h
      cases h
      cases d with
      | tup ds => exact intsD_err e1
      | _ => cases e1; rfl
    | ok t =>
      cases e2 : tupsD ds with
      | error x => simp only [tupsD, e1, bind_ok, e2, bind_er] at h; cases h; exact tupsD_err e2
      | ok r => simp only [tupsD, e1, bind_ok, e2] at h; cases h
theorem c_sorted (hK : X.K = K := by rfl) : CallD K W true X (.builtin "sorted") sortedD := by
  subst hK
  intro pins s σ H xs us Q I rr h
  obtain ⟨F, d, x, s1, e, q, p⟩ := one_arg (fun ds => by match ds with | [d] => exact .inl ⟨d, rfl⟩ | [] => exact .inr rfl | a :: b :: c => exact .inr (by cases a <;> rfl)) h
  subst e
  obtain ⟨u, rfl, ru⟩ := rr.one
  cases d with
  | lst ds =>
    obtain ⟨a, ys, e1, t, r⟩ := q
    subst e1
    cases ru
    have p' : Post X.K W true F H (sortDs ds) Q := p
    unfold sortDs at p'
    by_cases h64 : ds.length < 64
    · rw [if_pos h64] at p'
      cases ei : intsD ds with
      | ok is =>
        rw [ei] at p'
        have ed := ints_data ei
        subst ed
        refine sorted_D ordZ (d0 := 0) I s1 t r (by simpa using h64) (fun its rv h2 h1 kp => ?_) p'
        have e2 : ys = is.map V.int := ints_deep r ei
        subst e2
        exact asks_ints (intsAre_of rv) h2
      | error z =>
        rw [ei] at p'
        have p2 : Post X.K W true F H ((tupsD ds).bind fun ts => if (ts.all fun t => !t.isEmpty) = true then .ok (.lst ((isort lexZ ts).map tupZ)) else stk) Q := p'
        cases et : tupsD ds with
        | error z2 => rw [et] at p2; have := tupsD_err et; subst this; exact Post.stuck p2
        | ok ts =>
          rw [et] at p2
          have ed := tups_data et
          subst ed
          have p3 : Post X.K W true F H (if (ts.all fun t => !t.isEmpty) = true then .ok (.lst ((isort lexZ ts).map tupZ)) else stk) Q := p2
          by_cases hne : (ts.all fun t => !t.isEmpty) = true
          · rw [if_pos hne] at p3
            exact sorted_D ordLex (d0 := []) I s1 t r (by simpa using h64) (fun its rv h2 h1 kp => asks_tups I s1 r hne rv h2 kp) p3
          · rw [if_neg hne] at p3
            exact Post.stuck p3
    · rw [if_neg h64] at p'
      exact Post.stuck p'
  | _ => exact Post.stuck p
end
end L2
namespace L2
open PySem PySem.Spec PyProof.Rows
noncomputable def cX (n d : Nat) : Option Int → Nat
  | none => d
  | some v => if v < 0 then (v + (n : Int)).toNat else min v.toNat n
noncomputable def cutL {α : Type} (xs : List α) (lo hi : Option Int) : List α := (xs.drop (cX xs.length 0 lo)).take (cX xs.length xs.length hi - cX xs.length 0 lo)
noncomputable def sliceD : Dat → Option Int → Option Int → M Dat
  | .lst ds, lo, hi => .ok (.lst (cutL ds lo hi))
  | .tup ds, lo, hi => if (decide (cX ds.length 0 lo = 0) && decide (cX ds.length ds.length hi = ds.length)) = true then stk else .ok (.tup (cutL ds lo hi))
  | _, _, _ => stk
noncomputable def pNone : Env' → M (Option Int) := fun _ => .ok none
noncomputable def pSome (f : Env' → M Dat) : Env' → M (Option Int) := fun ρ => (f ρ).bind fun d => (asI d).bind fun i => .ok (some i)
noncomputable def fSl (g : Dat → Option Int → Option Int → M Dat) (fa : Env' → M Dat) (fl fu : Env' → M (Option Int)) : Env' → M Dat := fun ρ => (fa ρ).bind fun a => (fl ρ).bind fun l => (fu ρ).bind fun u => g a l u
noncomputable def extD (ρ : Env') (i : Nat) (ds : List Dat) : Dat → M Flo
  | .lst es => if ds.length + es.length ≤ sizeLine then put ρ i (ds ++ es) else stk
  | _ => stk
noncomputable def sExt (O : List Nat) (i : Nat) (f : Env' → M Dat) : Env' → M Flo := fun ρ => (lstAt ρ i).bind fun ds => (f (erase O ρ)).bind fun d => extD ρ i ds d
section
variable {X : Cx} {K : PySem.W.Frag} {W : Wish} {own ro : Bool} {e a b c d : Expr} {lo hi : Option Expr} {es : List Expr} {x y : Str} {pos p p2 p3 q r t u : Pos} {f fa fb fc fd' fk : Env' → M Dat} {fl fu : Env' → M (Option Int)} {OL O : List Nat}
noncomputable def tDO (K : PySem.W.Frag) (W : Wish) (f : Env' → M (Option Int)) : TO := fun σ H Q => ∃ F ρ, RepE K F σ ρ ∧ Same F H ∧ (match f ρ with
  | .ok o => ∀ F' H', Step F H F' H' → Q o H'
  | .error e => W.p e F H)
theorem tDO_run {σ : St} {ρ : Env'} {F H : Hp} {R : Option Int → Hp → Prop} (r : RepE K F σ ρ) (s : Same F H) (hE : ∀ e, fl ρ = .error e → W.p e F H) (hO : ∀ o, fl ρ = .ok o → ∀ F1 H1, Step F H F1 H1 → R o H1) : tDO K W fl σ H R := by
  refine ⟨F, ρ, r, s, ?_⟩
  cases e : fl ρ with
  | ok d => exact hO d e
  | error x => exact hE x e
noncomputable abbrev DP (K : PySem.W.Frag) (W : Wish) (X : Cx) (e : Option Expr) (f : Env' → M (Option Int)) : Prop := PO X e (tDO K W f)
theorem PO.imp {t t' : TO} (h : PO X lo t) (q : ∀ σ H Q, t' σ H Q → t σ H Q) : PO X lo t' := fun pins s σ H Q I z => h pins s σ H Q I (q σ H Q z)
theorem dp_none : DP K W X none pNone := po_none.imp fun σ H Q ⟨F, ρ, r, s, p⟩ => p F H (Step.refl s)
theorem dp_some (h : DE K W false X e f) : DP K W X (some e) (pSome f) := (po_some h).imp fun σ H Q ⟨F, ρ, r, s, p⟩ => by
  refine tD_run r s (fun e he => ?_) fun d hd v F1 H1 s1 q1 => ?_
  · have z : pSome f ρ = .error e := by unfold pSome; rw [he]; rfl
    rw [z] at p; exact p
  · have z : pSome f ρ = (asI d).bind fun i => .ok (some i) := by unfold pSome; rw [hd]; rfl
    rw [z] at p
    cases d with
    | int i => exact ⟨i, q1, p F1 H1 s1⟩
    | _ => exact (W.ns p).elim
noncomputable def rDS (K : PySem.W.Frag) (W : Wish) (own : Bool) (g : Dat → Option Int → Option Int → M Dat) : V → Option Int → Option Int → Hp → VK → Prop := fun x lo hi H Q => ∃ F a, Same F H ∧ Deep K F a x ∧ Post K W own F H (g a lo hi) Q
theorem rd_sl {g : Dat → Option Int → Option Int → M Dat} {σ : St} {H : Hp} {Q : VK} (h : tD K W own (fSl g fa fl fu) σ H Q) : tSl (rDS K W own g) (tD K W false fa) (tDO K W fl) (tDO K W fu) σ H Q := by
  obtain ⟨F, ρ, r, s, p⟩ := h
  refine tD_run r s (fun e he => p.err (by unfold fSl; rw [he]; rfl)) fun a ha x F1 H1 s1 q1 => ?_
  refine tDO_run (r.mono s1.ff) s1.fh (fun e he => (p.step s1).err (by unfold fSl; rw [ha]; show (fl ρ).bind _ = _; rw [he]; rfl)) fun l hl F2 H2 s2 => ?_
  refine tDO_run ((r.mono s1.ff).mono s2.ff) s2.fh (fun e he => (p.step (s1.trans s2)).err (by unfold fSl; rw [ha]; show (fl ρ).bind _ = _; rw [hl]; show (fu ρ).bind _ = _; rw [he]; rfl)) fun u hu F3 H3 s3 => ?_
  refine ⟨F3, a, s3.fh, Deep.mono (s2.trans s3).ff q1, ?_⟩
  have e : fSl g fa fl fu ρ = g a l u := by unfold fSl; rw [ha]; show (fl ρ).bind _ = _; rw [hl]; show (fu ρ).bind _ = _; rw [hu]; rfl
  rw [e] at p
  exact p.step ((s1.trans s2).trans s3)
theorem de_sl {g : Dat → Option Int → Option Int → M Dat} (hr : SlR X (rDS K W own g)) (ha : DE K W false X a fa) (hl : DP K W X lo fl) (hu : DP K W X hi fu) : DE K W own X (.Subscript a (.Slice lo hi none p2) pos) (fSl g fa fl fu) := (pe_slice hr ha hl hu).imp fun _ _ _ => rd_sl
theorem cX_sIx (n d : Nat) (o : Option Int) : cX n d o = HT.sIx n d o := by cases o <;> rfl
theorem Deeps.cut {F : Hp} {ds : List Dat} {xs : List V} {l u : Option Int} (h : Deeps K F ds xs) : Deeps K F (cutL ds l u) (cutV xs l u) := by
  unfold cutL cutV
  rw [cX_sIx, cX_sIx, h.length]
  exact Deeps.take _ (Deeps.drop _ h)
theorem x_sl (hK : X.K = K := by rfl) : SlR X (rDS K W true sliceD) := by
  subst hK
  intro pins s σ H x v vl vu lo hi sl Q I rx hs pl pu h
  refine (SlR.or sl_list sl_tup) pins s σ H x v vl vu lo hi sl Q I rx hs pl pu ?_
  obtain ⟨F, a, s1, qa, p⟩ := h
  cases a with
  | lst ds =>
    obtain ⟨l, xs, e, t, z⟩ := qa
    exact .inl ⟨l, xs, e, s1.lst t, fun r hr => Post.lst p s1 z.cut hr⟩
  | tup ds =>
    obtain ⟨l, xs, e, t, z⟩ := qa
    have p' : Post X.K W true F H (if (decide (cX ds.length 0 lo = 0) && decide (cX ds.length ds.length hi = ds.length)) = true then stk else .ok (.tup (cutL ds lo hi))) Q := p
    by_cases hc : (decide (cX ds.length 0 lo = 0) && decide (cX ds.length ds.length hi = ds.length)) = true
    · rw [if_pos hc] at p'; exact p'.stuck
    · rw [if_neg hc] at p'
      refine .inr ⟨l, xs, e, s1.tup t, fun hw => hc ?_, fun r hr => Post.tup p' s1 z.cut hr⟩
      rw [cX_sIx, cX_sIx, ← z.length]
      simp only [Bool.and_eq_true, decide_eq_true_eq]
      exact hw
  | _ => exact Post.stuck p
theorem rs_ext {F0 H0 : Hp} {i : Nat} {D : Ends} {σ : St} {H : Hp} (hi : i ∈ O) (t : tS K W ro F0 H0 OL O O (sExt O i f) D σ H) : tDrop (tBM K "list" rExtend (tVar i) (tCons (tD K W true f) tNil)) D σ H := by
  obtain ⟨FB, F, ρ, r, p⟩ := t
  cases hl : lstAt ρ i with
  | error e =>
    have := lstAt_err hl
    subst this
    exact p.stuck (by unfold sExt; rw [hl]; rfl)
  | ok ds =>
    obtain ⟨a, xs, e2, ha, z⟩ := r.lstOwn hi (lstAt_ok hl)
    refine ⟨.ref a, e2, tyV_list ha, ?_⟩
    refine tD_run r.repErase r.st.fh (fun e he => p.errAt r.st (by unfold sExt; rw [hl]; show (f (erase O ρ)).bind _ = _; rw [he]; rfl)) fun d hd v F1 H1 s1 q => ?_
    have ez : sExt O i f ρ = extD ρ i ds d := by unfold sExt; rw [hl]; show (f (erase O ρ)).bind _ = _; rw [hd]; rfl
    rw [ez] at p
    cases d with
    | lst es =>
      obtain ⟨b, zs, e3, hb, _, _, zz⟩ := q
      by_cases hs : ds.length + es.length ≤ sizeLine
      · have ep : extD ρ i ds (.lst es) = put ρ i (ds ++ es) := if_pos hs
        rw [ep] at p
        exact ⟨a, b, xs, zs, rfl, by rw [e3], s1.hh _ _ ha, hb, by rw [z.length, zz.length]; exact hs, p σ F1 _ ((r.step s1).write hi (lstAt_ok hl) e2 (Deeps.append (z.mono s1.ff) zz))⟩
      · exact p.stuck (if_neg hs)
    | _ => exact p.stuck rfl
theorem ds_ext {i : Nat} {apos : Pos} (he : DE K W true X e f) (ho : i ∈ O := by decide) (hN : X.N[i]? = some x := by rfl) (hv : Vis X.env.scope x := by first | exact Or.inl rfl | exact Or.inr (Or.inl rfl) | exact Or.inr (Or.inr rfl)) (hd : (x == ("__debug__" : Str)) = false := by decide) (hcd : (x == ("__classdict__" : Str)) = false := by decide) (hK : X.K = K := by rfl)
    (hst : starEach [e] X.env = [(false, eval e X.env)] := by rfl) (hbase : attributeBase (.Name x p) "extend" X.env (eval (.Name x p) X.env) = eval (.Name x p) X.env := by rfl) (hfew : ((backTo q (starEach [e] X.env)).all (fun x => !x.1) && (backToKw q (keywordEach [] X.env)).all (fun x => x.1.isSome) && decide ([e].length + ([] : List Keyword).length + (if ([] : List Keyword).isEmpty then 0 else 1) < 30)) = true := by rfl) (hplain : (backTo q (starEach [] X.env)).any (·.1) = false := by rfl) (hline : (apos.endLine == q.line) = true := by rfl) (hsw : swapsWith (.Call (.Attribute (.Name x p) "extend" apos) [e] [] q) none pos.line X.env = pure false := by rfl) :
    DS K W ro X OL O O (.Expr (.Call (.Attribute (.Name x p) "extend" apos) [e] [] q) pos) (sExt O i f) := fun F0 H0 => by
  subst hK
  exact PS.imp (ps_expr (pe_bm PySem.F.plainAttrs_list PySem.F.slot_list_extend PySem.F.type_list_extend mt_extend (pv i hN hv hd hcd) (pa_cons he pa_nil hst) hbase hfew hline hst hplain) hsw) fun _ _ _ => rs_ext ho
end
section
variable {ρ : Env'} {fa fb fc fd' : Env' → M Dat} {fl fu : Env' → M (Option Int)}
@[simp] theorem e_pNone : pNone ρ = .ok none := id rfl
@[simp] theorem e_pSome : pSome fa ρ = (fa ρ).bind fun d => (asI d).bind fun i => .ok (some i) := id rfl
@[simp] theorem e_slF (k : Dat → Option Int → Option Int → M Dat) : fSl k fa fl fu ρ = (fa ρ).bind fun a => (fl ρ).bind fun l => (fu ρ).bind fun u => k a l u := id rfl
@[simp] theorem e_extD (i : Nat) (ds es : List Dat) : extD ρ i ds (.lst es) = if ds.length + es.length ≤ sizeLine then put ρ i (ds ++ es) else stk := id rfl
@[simp] theorem e_ext (O : List Nat) (i : Nat) : sExt O i fa ρ = (lstAt ρ i).bind fun ds => (fa (erase O ρ)).bind fun d => extD ρ i ds d := id rfl
@[simp] theorem e_pow {i j : Int} (h0 : 0 ≤ j) (h1 : j ≤ 1000000) (h2 : i.natAbs < 2 ^ 64) : powD (.int i) (.int j) = .ok (.int (i ^ j.toNat)) := by
  show (if (decide (0 ≤ j) && decide (j ≤ 1000000) && decide (i.natAbs < 2 ^ 64)) = true then _ else _) = _
  rw [if_pos (by simp only [Bool.and_eq_true, decide_eq_true_eq]; exact ⟨⟨h0, h1⟩, h2⟩)]
@[simp] theorem e_eqII (i j : Int) : eqM (.int i) (.int j) = .ok (.bl (decide (i = j))) := by
  show Except.ok (Dat.bl (i == j)) = _
  rw [show (i == j) = decide (i = j) from rfl]
@[simp] theorem e_neII (i j : Int) : neM (.int i) (.int j) = .ok (.bl (!decide (i = j))) := by
  show Except.ok (Dat.bl (!(i == j))) = _
  rw [show (i == j) = decide (i = j) from rfl]
end
end L2
namespace L2
open PySem PySem.Spec PyProof.Rows
section
variable {X : Cx} {K : PySem.W.Frag} {W : Wish} {own ro : Bool} {e a b c d : Expr} {st : Option Expr} {te : TE} {tp : TO} {es : List Expr} {x y : Str} {pos p p2 p3 p4 q r t u : Pos} {f fa fb fc fk : Env' → M Dat} {fp : Env' → M (Option Int)} {OL O : List Nat}
end
end L2
namespace L2
open PySem PySem.Spec PyProof.Rows
noncomputable def attrD (Cs : List Addr) (x : Str) : Dat → M Dat
  | .ins C fs => if Cs.contains C = true then (match fs.lookup x with
    | some d => .ok d
    | none => stk) else stk
  | _ => stk
noncomputable def isC (C : Addr) (m : Str) : Dat → Bool
  | .ins D fs => (D == C) && (fs.lookup m).isNone
  | _ => false
noncomputable def fMeth (C : Addr) (m : Str) (g : List Dat → M Dat) (fo : Env' → M Dat) (fr : Env' → M (List Dat)) : Env' → M Dat := fun ρ => (fo ρ).bind fun o => if isC C m o = true then (fr ρ).bind fun as => g (o :: as) else stk
noncomputable def fMeth2 (C C2 : Addr) (m : Str) (g g2 : List Dat → M Dat) (fo : Env' → M Dat) (fr : Env' → M (List Dat)) : Env' → M Dat := fun ρ => (fo ρ).bind fun o => if isC C m o = true then (fr ρ).bind fun as => g (o :: as) else if isC C2 m o = true then (fr ρ).bind fun as => g2 (o :: as) else stk
noncomputable def newR (C : Addr) (g : List Dat → M Dat) : List Dat → M Dat
  | [d] => (g [d]).bind fun r => .ok (.ins C [("gaps", r)])
  | _ => stk
noncomputable def twoL : Dat → Dat → Bool
  | .lst xs, .lst ys => decide (xs.length = ys.length)
  | _, _ => false
noncomputable def newP (C : Addr) (g : List Dat → M Dat) : List Dat → M Dat
  | [d, e] => (g [d]).bind fun r => (g [e]).bind fun r2 => if twoL r r2 = true then .ok (.ins C [("gaps", r), ("beside", r2)]) else stk
  | _ => stk
noncomputable def sStk : Env' → M Flo := fun _ => stk
section
variable {X : Cx} {K : PySem.W.Frag} {W : Wish} {own ro : Bool} {e o a b c d : Expr} {es : List Expr} {x y m : Str} {pos p p2 apos : Pos} {f fa fo : Env' → M Dat} {fr : Env' → M (List Dat)} {OL O O' : List Nat} {C C2 : Addr} {Cs : List Addr}
theorem ds_stk {st : Stmt} : DS K W ro X OL O O' st sStk := fun F0 H0 pins s σ H D I h => by
  obtain ⟨FB, F, ρ, r, p⟩ := h
  exact p.stuck rfl
theorem DeepF.at {F : Hp} {x : Str} : ∀ {gs : List (Str × Dat)} {fs : List (Str × V)}, DeepF K F gs fs → (∀ d, gs.lookup x = some d → ∃ v, fs.lookup x = some v ∧ Deep K F d v) ∧ (gs.lookup x = none → fs.lookup x = none)
  | [], fs, h => by cases (show fs = [] from h); exact ⟨fun d h => by simp at h, fun _ => rfl⟩
  | (g, d) :: gs, fs, h => by
    obtain ⟨v, r, rfl, h1, h2⟩ := h
    have ih := DeepF.at (x := x) h2
    rw [List.lookup_cons, List.lookup_cons]
    cases e : x == g with
    | true => exact ⟨fun d' h' => by cases h'; exact ⟨v, rfl, h1⟩, fun h' => by cases h'⟩
    | false => exact ih
theorem de_fld (hC : ∀ C ∈ Cs, Cls K C ∧ NoAttr K C y) (he : DE K W false X e fa) (hb : attributeBase e y X.env (eval e X.env) = eval e X.env := by rfl) (hK : X.K = K := by rfl) : DE K W false X (.Attribute e y pos) (f1 (attrD Cs y) fa) := by
  subst hK
  refine (pe_fld he hb).imp fun σ H Q h => ?_
  obtain ⟨F, ρ, r, s, p⟩ := h
  refine tD_run r s (fun e he => p.err (by unfold f1; rw [he]; rfl)) fun a ha x F1 H1 s1 q1 => ?_
  have ez : f1 (attrD Cs y) fa ρ = attrD Cs y a := by unfold f1; rw [ha]; rfl
  rw [ez] at p
  cases a with
  | ins C gs =>
    obtain ⟨l, dx, fs, e1, ea, df⟩ := q1
    have p' : Post X.K W false F H (if Cs.contains C = true then (match gs.lookup y with
      | some d => .ok d
      | none => stk) else stk) Q := p
    by_cases hc : Cs.contains C = true
    · rw [if_pos hc] at p'
      obtain ⟨h1, h2⟩ := hC C (by simpa using hc)
      cases hl : gs.lookup y with
      | none => rw [hl] at p'; exact Post.stuck p'
      | some d =>
        rw [hl] at p'
        obtain ⟨v, hv, hd⟩ := df.at.1 d hl
        exact ⟨l, C, dx, fs, v, e1, s1.fh _ _ ea, h1, h2, hv, (p'.step s1) v F1 H1 (Step.refl s1.fh) hd⟩
    · rw [if_neg hc] at p'; exact Post.stuck p'
  | _ => exact Post.stuck p
theorem PE.or {t1 t2 : TE} (h1 : PE X e t1) (h2 : PE X e t2) : PE X e (fun σ H Q => t1 σ H Q ∨ t2 σ H Q) := fun pins s σ H Q I h => h.elim (h1 pins s σ H Q I) (h2 pins s σ H Q I)
theorem rd_meth {nN n : Nat} {g : Env' → M Flo} {σ : St} {H : Hp} {Q : VK} (h : tD K Wno ro (fMeth C m (runB nN n g) fo fr) σ H Q) : tMeth C m (spF K ro (runB nN n g) n) [] E0 (tD K Wno false fo) (tDA K Wno fr) σ H Q := by
  obtain ⟨F, ρ, r, s, p⟩ := h
  refine tD_run r s (fun e he => p.err (by unfold fMeth; rw [he]; rfl)) fun o ho x F1 H1 s1 q1 => ?_
  have ez : fMeth C m (runB nN n g) fo fr ρ = if isC C m o = true then (fr ρ).bind fun as => runB nN n g (o :: as) else stk := by unfold fMeth; rw [ho]; rfl
  rw [ez] at p
  by_cases hc : isC C m o = true
  · rw [if_pos hc] at p
    cases o with
    | ins D gs =>
      obtain ⟨l, dx, fs, e1, ea, df⟩ := id q1
      have hc' : ((D == C) && (gs.lookup m).isNone) = true := hc
      rw [Bool.and_eq_true] at hc'
      obtain ⟨hD, hn⟩ := hc'
      have hD : D = C := by simpa using hD
      subst hD
      refine ⟨l, dx, fs, e1, s1.fh _ _ ea, df.at.2 (by simpa using hn), ?_⟩
      have p := p.step s1
      refine tDA_run (r.mono s1.ff) s1.fh (fun e he => p.err (by rw [he]; rfl)) fun as has vs F2 H2 s2 qs => ?_
      rw [has] at p
      have p : Post K Wno ro F1 H1 (runB nN n g (.ins D gs :: as)) Q := p
      have p := p.step s2
      show spF K ro (runB nN n g) n (x :: (vs ++ [])) H2 Q E0
      rw [List.append_nil]
      by_cases hl : (Dat.ins D gs :: as).length = n
      · exact ⟨F2, .ins D gs :: as, s2.fh, ⟨x, vs, rfl, Deep.mono s2.ff q1, qs⟩, hl, p⟩
      · rw [runB_len hl] at p
        exact Post.stuck p
    | _ => cases hc
  · rw [if_neg hc] at p; exact Post.stuck p
theorem rd_meth2 {nN n nN2 n2 : Nat} {g g2 : Env' → M Flo} {σ : St} {H : Hp} {Q : VK} (h : tD K Wno ro (fMeth2 C C2 m (runB nN n g) (runB nN2 n2 g2) fo fr) σ H Q) :
    tD K Wno ro (fMeth C m (runB nN n g) fo fr) σ H Q ∨ tD K Wno ro (fMeth C2 m (runB nN2 n2 g2) fo fr) σ H Q := by
  obtain ⟨F, ρ, r, s, p⟩ := h
  cases ho : fo ρ with
  | error e =>
    refine .inl ⟨F, ρ, r, s, ?_⟩
    have e1 : fMeth2 C C2 m (runB nN n g) (runB nN2 n2 g2) fo fr ρ = .error e := by unfold fMeth2; rw [ho]; rfl
    have e2 : fMeth C m (runB nN n g) fo fr ρ = .error e := by unfold fMeth; rw [ho]; rfl
    rw [e1] at p; rw [e2]; exact p
  | ok o =>
    have e1 : fMeth2 C C2 m (runB nN n g) (runB nN2 n2 g2) fo fr ρ = if isC C m o = true then (fr ρ).bind fun as => runB nN n g (o :: as) else if isC C2 m o = true then (fr ρ).bind fun as => runB nN2 n2 g2 (o :: as) else stk := by unfold fMeth2; rw [ho]; rfl
    have e2 : fMeth C m (runB nN n g) fo fr ρ = if isC C m o = true then (fr ρ).bind fun as => runB nN n g (o :: as) else stk := by unfold fMeth; rw [ho]; rfl
    have e3 : fMeth C2 m (runB nN2 n2 g2) fo fr ρ = if isC C2 m o = true then (fr ρ).bind fun as => runB nN2 n2 g2 (o :: as) else stk := by unfold fMeth; rw [ho]; rfl
    rw [e1] at p
    by_cases hc : isC C m o = true
    · rw [if_pos hc] at p e2
      exact .inl ⟨F, ρ, r, s, by rw [e2]; exact p⟩
    · rw [if_neg hc] at p
      exact .inr ⟨F, ρ, r, s, by rw [e3]; exact p⟩
noncomputable def MethEq (X : Cx) (o : Expr) (m : Str) (apos : Pos) (es : List Expr) (pos : Pos) (pl : Sem Bool) : Prop := eval (.Call (.Attribute o m apos) es [] pos) X.env = (do let ov ← eval o X.env; standAt apos.atName; let (f, first) ← holding [ov] (getMethod ov m pl); callWith pos f first (backTo pos (starEach es X.env)) (backToKw pos (keywordEach [] X.env)))
section
variable {k nN n nN2 n2 : Nat} {fad fad2 : Addr} {fd fd2 : FuncData} {ps : List Str} {g g2 : Env' → M Flo} {pl : Sem Bool}
theorem pe_methD0 (c : Cls X.K C) (M : Meth X.K C m fad) (F : FnOk X.prog X.w X.K X.mg X.base CX0 k fad fd ps (spF X.K ro (runB nN n g) n)) (hr : Room k X.A) (hb : Binds X.K fd ps []) (ho : DE X.K Wno false X o fo)
    (ht : MethEq X o m apos [] pos pl) : DE X.K Wno ro X (.Call (.Attribute o m apos) [] [] pos) (fMeth C m (runB nN n g) fo fNil) :=
  (pe_meth0 (pl := pl) ho c M F hr hb .nil pass0 ht).imp fun σ H Q h => by
    obtain ⟨F, ρ, r, s, z⟩ := rd_meth h
    refine ⟨F, ρ, r, s, ?_⟩
    cases e1 : fo ρ with
    | error z' => rw [e1] at z; exact z
    | ok od =>
      rw [e1] at z
      intro v F' H' st q
      obtain ⟨l, dx, fs, h1, h2, h3, h4⟩ := z v F' H' st q
      exact ⟨l, dx, fs, h1, h2, h3, rd_nil h4⟩
theorem de_meth1z (c : Cls K C) (M : Meth K C m fad) (F : FnOk X.prog X.w X.K X.mg X.base CX0 k fad fd ps (spF K ro (runB nN n g) n)) (hr : Room k X.A) (hb : Binds X.K fd ps []) (ho : DE K Wno false X o fo)
    (hK : X.K = K := by rfl) (ht : MethEq X o m apos [] pos pl := by rfl) : DE K Wno ro X (.Call (.Attribute o m apos) [] [] pos) (fMeth C m (runB nN n g) fo fNil) := by
  subst hK
  exact pe_methD0 c M F hr hb ho ht
theorem de_meth2z {k2 : Nat} {ps2 : List Str} (c : Cls K C) (M : Meth K C m fad) (F : FnOk X.prog X.w X.K X.mg X.base CX0 k fad fd ps (spF K ro (runB nN n g) n)) (hr : Room k X.A) (hb : Binds X.K fd ps [])
    (c2 : Cls K C2) (M2 : Meth K C2 m fad2) (F2 : FnOk X.prog X.w X.K X.mg X.base CX0 k2 fad2 fd2 ps2 (spF K ro (runB nN2 n2 g2) n2)) (hr2 : Room k2 X.A) (hb2 : Binds X.K fd2 ps2 []) (ho : DE K Wno false X o fo)
    (hK : X.K = K := by rfl) (ht : MethEq X o m apos [] pos pl := by rfl) :
    DE K Wno ro X (.Call (.Attribute o m apos) [] [] pos) (fMeth2 C C2 m (runB nN n g) (runB nN2 n2 g2) fo fNil) := by
  subst hK
  exact (PE.or (pe_methD0 c M F hr hb ho ht) (pe_methD0 c2 M2 F2 hr2 hb2 ho ht)).imp fun _ _ _ => rd_meth2
end
noncomputable def spI1 (K : PySem.W.Frag) (C : Addr) (g : List Dat → M Dat) : Sp := fun vs H Q _ => ∃ p dx v F d, vs = [.ref p, v] ∧ H p = some (.ins C dx []) ∧ F p = none ∧ Same F H ∧ Deep K F d v ∧ (match g [d] with
  | .ok r => ∀ w F' H', Same F F' → Same F' H' → F' p = none → (∀ b o, F' b = some o → F b = some o ∨ H b = none) → (∀ c o, H c = some o → c ≠ p → H' c = some o) → H' p = some (.ins C dx [("gaps", w)]) → Deep K F' r w → Q .non H'
  | .error e => Wno.p e F H)
noncomputable def spI2 (K : PySem.W.Frag) (C : Addr) (g : List Dat → M Dat) : Sp := fun vs H Q _ => ∃ p dx v v2 F d d2, vs = [.ref p, v, v2] ∧ H p = some (.ins C dx []) ∧ F p = none ∧ Same F H ∧ Deep K F d v ∧ Deep K F d2 v2 ∧ (match (g [d]).bind fun r => (g [d2]).bind fun r2 => if twoL r r2 = true then .ok (r, r2) else stk with
  | .ok (r, r2) => ∀ w w2 F' H', Same F F' → Same F' H' → F' p = none → (∀ b o, F' b = some o → F b = some o ∨ H b = none) → (∀ c o, H c = some o → c ≠ p → H' c = some o) → H' p = some (.ins C dx [("gaps", w), ("beside", w2)]) → Deep K F' r w → Deep K F' r2 w2 → Q .non H'
  | .error e => Wno.p e F H)
theorem Step.born {F H F' H' : Hp} {x dx : Addr} {fs : List (Str × V)} (s : Same F H) (hx : H x = none) (hdx : H dx = none) (hne : dx ≠ x) (h1 : Same F F') (h2 : Same F' H') (h3 : F' x = none) (h4 : ∀ b o, F' b = some o → F b = some o ∨ upd (upd H dx (.own x)) x (.ins C dx []) b = none)
    (h5 : ∀ c o, upd (upd H dx (.own x)) x (.ins C dx []) c = some o → c ≠ x → H' c = some o) (h6 : H' x = some (.ins C dx fs)) : Step F H (upd F' x (.ins C dx fs)) H' where
  ff := h1.trans (Same.upd h3)
  hh := fun c o e => by
    have hc : c ≠ x := fun h => by rw [h, hx] at e; cases e
    have hd : c ≠ dx := fun h => by rw [h, hdx] at e; cases e
    exact h5 c o (by rw [upd_ne hc, upd_ne hd]; exact e) hc
  fh := fun c o e => by
    by_cases hc : c = x
    · subst hc; rw [upd_same] at e; rw [h6]; exact e
    · rw [upd_ne hc] at e; exact h2 _ _ e
  nw := fun c o e => by
    by_cases hc : c = x
    · subst hc; exact .inr hx
    · rw [upd_ne hc] at e
      rcases h4 c o e with z | z
      · exact .inl z
      · refine .inr ?_
        by_cases hd : c = dx
        · subst hd; exact hdx
        · rw [upd_ne hc, upd_ne hd] at z; exact z
theorem de_newR {k : Nat} {fI : Addr} {fdI : FuncData} {g : List Dat → M Dat} {ps : List Str} (Mk' : Mk X.K C fI) (FI : FnOk X.prog X.w X.K X.mg X.base CX0 k fI fdI ps (spI1 K C g)) (hr : Room (k + 1) X.A) (hm : X.mg x = some (.ref C)) (hb : Binds X.K fdI ps [])
    (ha : DA K Wno X [e] fr) (hg : Gl X x := by rfl) (hdb : (x == ("__debug__" : Str)) = false := by decide) (hst : starEach [e] X.env = (false, eval e X.env) :: starEach [] X.env := by rfl) (hpl : (backTo pos (starEach [] X.env)).any (·.1) = false := by rfl) :
    DE K Wno false X (.Call (.Name x p) [e] [] pos) (fL (newR C g) fr) := by
  refine PE.imp (pe_make Mk' FI hr hg hm hb .nil pass0 ha hdb hst hpl) fun σ H Q h => ?_
  obtain ⟨F, ρ, r, s, p⟩ := rd_L h
  refine ⟨F, ρ, r, s, ?_⟩
  cases e1 : fr ρ with
  | error z => rw [e1] at p; exact p
  | ok ds =>
    rw [e1] at p
    intro vs F1 H1 st q
    obtain ⟨F2, es1, s1, q1, z⟩ := p vs F1 H1 st q
    rcases es1 with _ | ⟨d, _ | ⟨_, _⟩⟩
    · exact Post.stuck z
    rotate_left
    · exact Post.stuck z
    · obtain ⟨v, vs', rfl, qd, hn⟩ := q1
      cases (show vs' = [] from hn)
      intro x dx hx hdx hne
      refine ⟨x, dx, v, F2, d, rfl, upd_same, s1.free hx, fun c o e => ?_, qd, ?_⟩
      · have hc : c ≠ x := fun h => by rw [h, s1.free hx] at e; cases e
        have hd : c ≠ dx := fun h => by rw [h, s1.free hdx] at e; cases e
        rw [upd_ne hc, upd_ne hd]; exact s1 _ _ e
      · have z : Post K Wno false F2 H1 ((g [d]).bind fun r => .ok (.ins C [("gaps", r)])) Q := z
        cases hgd : g [d] with
        | error e => rw [hgd] at z; exact False.elim z
        | ok r =>
          rw [hgd] at z
          intro w F' H' h1 h2 h3 h4 h5 h6 h7
          refine ⟨rfl, z (.ref x) (upd F' x (.ins C dx [("gaps", w)])) H' (Step.born s1 hx hdx hne h1 h2 h3 h4 h5 h6) ?_⟩
          exact ⟨x, dx, _, rfl, upd_same, w, [], rfl, Deep.mono (Same.upd h3) h7, rfl⟩
theorem de_newP {k : Nat} {fI : Addr} {fdI : FuncData} {g : List Dat → M Dat} {ps : List Str} (Mk' : Mk X.K C fI) (FI : FnOk X.prog X.w X.K X.mg X.base CX0 k fI fdI ps (spI2 K C g)) (hr : Room (k + 1) X.A) (hm : X.mg x = some (.ref C)) (hb : Binds X.K fdI ps [])
    (ha : DA K Wno X [e, a] fr) (hg : Gl X x := by rfl) (hdb : (x == ("__debug__" : Str)) = false := by decide) (hst : starEach [e, a] X.env = (false, eval e X.env) :: starEach [a] X.env := by rfl) (hpl : (backTo pos (starEach [a] X.env)).any (·.1) = false := by rfl) :
    DE K Wno false X (.Call (.Name x p) [e, a] [] pos) (fL (newP C g) fr) := by
  refine PE.imp (pe_make Mk' FI hr hg hm hb .nil pass0 ha hdb hst hpl) fun σ H Q h => ?_
  obtain ⟨F, ρ, r, s, p⟩ := rd_L h
  refine ⟨F, ρ, r, s, ?_⟩
  cases e1 : fr ρ with
  | error z => rw [e1] at p; exact p
  | ok ds =>
    rw [e1] at p
    intro vs F1 H1 st q
    obtain ⟨F2, es1, s1, q1, z⟩ := p vs F1 H1 st q
    rcases es1 with _ | ⟨d, _ | ⟨d2, _ | ⟨_, _⟩⟩⟩
    · exact Post.stuck z
    · exact Post.stuck z
    rotate_left
    · exact Post.stuck z
    · obtain ⟨v, vs', rfl, qd, v2, vs2, rfl, qd2, hn⟩ := q1
      cases (show vs2 = [] from hn)
      intro x dx hx hdx hne
      refine ⟨x, dx, v, v2, F2, d, d2, rfl, upd_same, s1.free hx, fun c o e => ?_, qd, qd2, ?_⟩
      · have hc : c ≠ x := fun h => by rw [h, s1.free hx] at e; cases e
        have hd : c ≠ dx := fun h => by rw [h, s1.free hdx] at e; cases e
        rw [upd_ne hc, upd_ne hd]; exact s1 _ _ e
      · have z : Post K Wno false F2 H1 ((g [d]).bind fun r => (g [d2]).bind fun r2 => if twoL r r2 = true then .ok (.ins C [("gaps", r), ("beside", r2)]) else stk) Q := z
        cases hgd : g [d] with
        | error e => rw [hgd] at z; exact False.elim z
        | ok r =>
          rw [hgd, bind_ok] at z
          cases hgd2 : g [d2] with
          | error e => rw [hgd2] at z; exact False.elim z
          | ok r2 =>
            rw [hgd2, bind_ok] at z
            by_cases ht : twoL r r2 = true
            · rw [if_pos ht] at z
              rw [bind_ok, bind_ok, if_pos ht]
              intro w w2 F' H' h1 h2 h3 h4 h5 h6 h7 h8
              refine ⟨rfl, z (.ref x) (upd F' x (.ins C dx [("gaps", w), ("beside", w2)])) H' (Step.born s1 hx hdx hne h1 h2 h3 h4 h5 h6) ?_⟩
              exact ⟨x, dx, _, rfl, upd_same, w, _, rfl, Deep.mono (Same.upd h3) h7, w2, [], rfl, Deep.mono (Same.upd h3) h8, rfl⟩
            · rw [if_neg ht] at z; exact Post.stuck z
end
end L2
namespace L2
open PySem PySem.Spec PyProof.Rows
noncomputable def Itz (K : PySem.W.Frag) (a b : Addr) : It :=
  ⟨fun i H => ∃ xs ys x y, SqL K H a xs ∧ SqL K H b ys ∧ xs[i]? = some x ∧ ys[i]? = some y, fun i H v H' => ∃ T x y, H T = none ∧ v = .ref T ∧ H' = upd H T (.tup [x, y]) ∧ (∀ xs, SqL K H a xs → xs[i]? = some x) ∧ ∀ ys, SqL K H b ys → ys[i]? = some y, fun i H => ∃ xs ys, SqL K H a xs ∧ SqL K H b ys ∧ (xs.length ≤ i ∨ ys.length ≤ i)⟩
theorem turn_zip {P : Program} {w : World} {K : PySem.W.Frag} {elts : List Expr} {k : Nat} {pos : Pos} {z TI TO i1 i2 l1 l2 : Addr} (D : ZipApart z TI TO i1 i2 l1 l2) :
    Turn P w K (.Tuple elts k pos) (Itz K l1 l2) [z, TI, TO, i1, i2] z (fun i h => IsZip h z TI TO .none ∧ IsPair h TI (.ref i1) (.ref i2) ∧ (∃ a b, IsPair h TO a b) ∧ h.IsListIter i1 l1 i ∧ h.IsListIter i2 l2 i) where
  mem := by simp
  obj := fun i h st b hb => by
    obtain ⟨hz, hTI, ⟨a, c, hTO⟩, ⟨o1, e1, c1, d1⟩, ⟨o2, e2, c2, d2⟩⟩ := st
    simp only [List.mem_cons, List.not_mem_nil, or_false] at hb
    rcases hb with rfl | rfl | rfl | rfl | rfl
    · exact ⟨_, hz, fun v q => by cases q⟩
    · exact ⟨_, hTI, fun v q => by cases q⟩
    · exact ⟨_, hTO, fun v q => by cases q⟩
    · exact ⟨o1, e1, fun v q => by rw [d1] at q; cases q⟩
    · exact ⟨o2, e2, fun v q => by rw [d2] at q; cases q⟩
  keep := fun i h h' st kk => by
    obtain ⟨hz, hTI, ⟨a, c, hTO⟩, h1, h2⟩ := st
    exact ⟨kk z (by simp) _ hz, kk TI (by simp) _ hTI, ⟨a, c, kk TO (by simp) _ hTO⟩, h1.at fun o x => kk i1 (by simp) o x, h2.at fun o x => kk i2 (by simp) o x⟩
  item := by
    intro X hP hw hK hc i pins s σ H E I hf st hg
    subst hP hw hK
    obtain ⟨hz, hTI, ⟨a, c, hTO⟩, h1, h2⟩ := st
    obtain ⟨xs, ys, x, y, hx, hy, gx, gy⟩ := hg
    obtain ⟨its, rv, p, _⟩ := I.list hx
    obtain ⟨its2, rv2, p2, _⟩ := I.list hy
    obtain ⟨u, hu, ru⟩ := rv.get gx
    obtain ⟨u2, hu2, ru2⟩ := rv2.get gy
    refine wpAny_pyNext_zip_item D hz hTI hTO h1 h2 p.isList p2.isList (x := u) (y := u2) (by simpa using hu) (by simpa using hu2) fun h' a1 a2 a3 a4 a5 a6 a7 => ?_
    refine ⟨_, rfl, wpAny_letOwnedTupleGo_zip a1 fun h2' b1 b2 => ?_⟩
    have lz : z < s.heap.objs.size := Heap.lt_size hz
    have lTI : TI < s.heap.objs.size := Heap.lt_size hTI
    have lTO : TO < s.heap.objs.size := Heap.lt_size hTO
    have li1 : i1 < s.heap.objs.size := by obtain ⟨o, e, _⟩ := h1; exact Heap.lt_size e
    have li2 : i2 < s.heap.objs.size := by obtain ⟨o, e, _⟩ := h2; exact Heap.lt_size e
    have I1 : Inv X pins σ (upd H s.heap.objs.size (.tup [x, y])) { s with heap := h2', toks := s.toks } := I.turnedT (ch := [z, TI, TO, i1, i2]) hf (fun b o hb q => by
        simp only [List.mem_cons, List.not_mem_nil, or_false, not_or] at hb
        exact (b2.2 b hb.1).trans (a7 b o hb.1 hb.2.2.1 hb.2.2.2.1 hb.2.2.2.2 q)) (Nat.le_refl _) ⟨by show 2 ≤ sizeLine; decide, [u, u2], .cons ru (.cons ru2 .nil), ⟨_, (b2.2 _ (Nat.ne_of_gt lz)).trans a5, rfl, 0, rfl⟩⟩
    refine ⟨.ref s.heap.objs.size, _, I1, rfl, ⟨s.heap.objs.size, x, y, I.hok.fresh (Nat.le_refl _), rfl, rfl, fun zs hq => by rw [I.list_inj hq hx]; exact gx, fun zs hq => by rw [I.list_inj hq hy]; exact gy⟩,
      ⟨b1, (b2.2 _ D.TIz).trans (a7 TI _ D.TIz D.TITO D.TIi1 D.TIi2 hTI), ⟨_, _, (b2.2 _ D.TOz).trans a2⟩, a3.at fun o q => (b2.2 _ D.i1z).trans q, a4.at fun o q => (b2.2 _ D.i2z).trans q⟩, fun b hb => ?_⟩
    have hbn := (hf b hb).1
    have : b ≠ s.heap.objs.size := by
      simp only [List.mem_cons, List.not_mem_nil, or_false] at hb
      rcases hb with rfl | rfl | rfl | rfl | rfl <;> exact Nat.ne_of_lt (by assumption)
    rw [upd_ne this]
    exact hbn
  done := by
    intro X hP hw hK hc i pins s σ H E I hf st hg
    subst hP hw hK
    obtain ⟨hz, hTI, ⟨a, c, hTO⟩, h1, h2⟩ := st
    obtain ⟨xs, ys, hx, hy, hend⟩ := hg
    obtain ⟨its, rv, p, _⟩ := I.list hx
    obtain ⟨its2, rv2, p2, _⟩ := I.list hy
    have e1 := rv.length
    have e2 := rv2.length
    refine wpAny_pyNext_zip_end (I.ok.hd hc) D hz hTI hTO h1 h2 p.isList p2.isList ?_ fun h' hk => ⟨rfl, I.turnedL (t' := s.toks) (ch := [z, TI, TO, i1, i2]) hf fun b o hb q => ?_⟩
    · rcases hend with z | z
      · exact .inl (Array.getElem?_eq_none (by simp; omega))
      · exact .inr (Array.getElem?_eq_none (by simp; omega))
    · simp only [List.mem_cons, List.not_mem_nil, or_false, not_or] at hb
      exact hk b o hb.1 hb.2.2.1 hb.2.2.2.1 hb.2.2.2.2 q
  self := fun _ _ _ _ _ st h => wpAny_pyIter_zip st.1 h
theorem zipL_get : ∀ (ds es : List Dat) (i : Nat), (zipL ds es)[i]? = (ds[i]?).bind fun d => (es[i]?).map fun e => .tup [d, e]
  | [], es, i => by simp [zipL]
  | d :: ds, [], i => by cases h : (d :: ds)[i]? <;> simp [zipL]
  | d :: ds, e :: es, 0 => by simp [zipL]
  | d :: ds, e :: es, i + 1 => by rw [zipL, List.getElem?_cons_succ, zipL_get ds es i, List.getElem?_cons_succ, List.getElem?_cons_succ]
theorem zipL_len : ∀ (ds es : List Dat), (zipL ds es).length = min ds.length es.length
  | [], es => by simp [zipL]
  | d :: ds, [] => by simp [zipL]
  | d :: ds, e :: es => by rw [zipL, List.length_cons, zipL_len ds es, List.length_cons, List.length_cons]; omega
theorem iter_zip {K : PySem.W.Frag} {F : Hp} {a b : Addr} {xs ys : List V} {ds es : List Dat} (t : SqL K F a xs) (z : Deeps K F ds xs) (t2 : SqL K F b ys) (z2 : Deeps K F es ys) : IterD K F (Itz K a b) (zipL ds es) where
  go := fun i F' H' s1 s2 hi => by
    rw [zipL_len] at hi
    exact ⟨xs, ys, xs[i]'(by rw [z.length]; omega), ys[i]'(by rw [z2.length]; omega), s2.lst (s1.lst t), s2.lst (s1.lst t2), List.getElem?_eq_getElem _, List.getElem?_eq_getElem _⟩
  yl := fun i F' H' x H2 d s1 s2 hd hy => by
    obtain ⟨T, x1, y1, hT, ex, eH, h1, h2⟩ := hy
    subst ex eH
    rw [zipL_get] at hd
    cases hds : ds[i]? with
    | none => rw [hds] at hd; cases hd
    | some d1 =>
      cases hes : es[i]? with
      | none => rw [hds, hes] at hd; cases hd
      | some d2 =>
        rw [hds, hes] at hd
        simp at hd
        subst hd
        obtain ⟨v, e1, q⟩ := z.get hds
        obtain ⟨v2, e2, q2⟩ := z2.get hes
        have e3 := h1 xs (s2.lst (s1.lst t))
        have e4 := h2 ys (s2.lst (s1.lst t2))
        rw [e1] at e3
        rw [e2] at e4
        cases e3
        cases e4
        refine ⟨upd F' T (.tup [x1, y1]), Step.lay s2 hT, T, _, rfl, SqT.of upd_same, ?_⟩
        exact ⟨x1, [y1], rfl, (q.mono s1).mono (Same.upd (s2.free hT)), y1, [], rfl, (q2.mono s1).mono (Same.upd (s2.free hT)), rfl⟩
  st := fun F' H' s1 s2 => ⟨xs, ys, s2.lst (s1.lst t), s2.lst (s1.lst t2), by rw [z.length, z2.length, zipL_len]; omega⟩
section
variable {X : Cx} {K : PySem.W.Frag} {W : Wish} {own ro : Bool} {e a b c : Expr} {es : List Expr} {x : Str} {pos p : Pos} {f fa fb fc : Env' → M Dat}
noncomputable def iZip (K : PySem.W.Frag) (ta tb : TE) : TI := fun σ H R => ta σ H fun x H1 => tb σ H1 fun y H2 => ∃ a b, x = .ref a ∧ y = .ref b ∧ (∃ xs, SqL K H2 a xs) ∧ (∃ ys, SqL K H2 b ys) ∧ R (Itz K a b) H2
theorem pi_zip {elts : List Expr} {k : Nat} {q : Pos} {ta tb : TE} (hg : Gl X "zip") (hm : X.mg "zip" = none) (ha : PE X a ta) (hb : PE X b tb) (hs : starEach [a, b] X.env = [(false, eval a X.env), (false, eval b X.env)]) (hs2 : starEach [b] X.env = [(false, eval b X.env)]) :
    PI X (.Tuple elts k q) (.Call (.Name "zip" p) [a, b] [] pos) (iZip X.K ta tb) := by
  intro pins s σ H R I h
  have hA : PA X [a, b] (tCons ta (tCons tb tNil)) := pa_cons ha (pa_cons hb pa_nil hs2) (by rw [hs, hs2])
  refine Call_ (ld_blt I hg hm boot_zip (PyProof.Rows.callWith_type1 (thn (hA pos pins s σ H (fun vs H1 => match vs with
    | [x, y] => ∃ a b, x = .ref a ∧ y = .ref b ∧ (∃ xs, SqL X.K H1 a xs) ∧ (∃ ys, SqL X.K H1 b ys) ∧ R (Itz X.K a b) H1
    | _ => False) I h) fun us s1 ⟨vs, H1, I1, r1, q1⟩ => ?_) (by rw [hs, hs2]) (by rw [hs2]; rfl)))
  match vs, r1, q1 with
  | [x, y], r1, ⟨l, l2, e1, e2, ⟨xs, hq⟩, ⟨ys, hq2⟩, q⟩ =>
    subst e1 e2
    obtain ⟨u, u2, rfl, ru, ru2⟩ := r1.two
    cases ru
    cases ru2
    obtain ⟨its, rv, pl, _⟩ := I1.list hq
    obtain ⟨its2, rv2, pl2, _⟩ := I1.list hq2
    have a1 : l < s1.heap.objs.size := by obtain ⟨_, e, _⟩ := pl.isList; exact Heap.lt_size e
    have a2 : l2 < s1.heap.objs.size := by obtain ⟨_, e, _⟩ := pl2.isList; exact Heap.lt_size e
    refine call_zip_2 pl.isList pl2.isList fun h' hz hTI hTO hi1 hi2 hsz hk => ?_
    have I2 : Inv X pins σ H1 { s1 with heap := h' } := I1.kept (t' := s1.toks) hk
    refine wpAny_pyIter_zip hz ?_
    refine ⟨s1.heap.objs.size + 4, [s1.heap.objs.size + 4, s1.heap.objs.size + 2, s1.heap.objs.size + 3, s1.heap.objs.size, s1.heap.objs.size + 1], _, _, H1, rfl, I2, turn_zip (zipApart_new a1 a2), ⟨hz, hTI, ⟨_, _, hTO⟩, hi1, hi2⟩, fun b hb => ?_, q⟩
    have hb2 : s1.heap.objs.size ≤ b := by
      simp only [List.mem_cons, List.not_mem_nil, or_false] at hb
      rcases hb with rfl | rfl | rfl | rfl | rfl
      · exact Nat.le_add_right _ 4
      · exact Nat.le_add_right _ 2
      · exact Nat.le_add_right _ 3
      · exact Nat.le_refl _
      · exact Nat.le_add_right _ 1
    exact I1.fpOk hb2 (I1.hok.fresh hb2)
theorem ri_zip {σ : St} {H : Hp} {R : It → Hp → Prop} (h : iD K W (fZip fa fb) σ H R) : iZip K (tD K W false fa) (tD K W false fb) σ H R := by
  obtain ⟨F, ρ, r, s, p⟩ := h
  refine tD_run r s (fun e he => ?_) fun d hd v F1 H1 s1 q1 => ?_
  · have z : fZip fa fb ρ = .error e := by unfold fZip; rw [he]; rfl
    rw [z] at p; exact p
  · refine tD_run (r.mono s1.ff) s1.fh (fun e he => ?_) fun d2 hd2 v2 F2 H2 s2 q2 => ?_
    · have z : fZip fa fb ρ = .error e := by unfold fZip; rw [hd, bind_ok, he]; rfl
      rw [z] at p; exact W.mono p s1
    · have z : fZip fa fb ρ = (itemsL d).bind fun ds => (itemsL d2).bind fun es => .ok (zipL ds es) := by unfold fZip; rw [hd, bind_ok, hd2, bind_ok]
      rw [z] at p
      cases d with
      | lst ds =>
        cases d2 with
        | lst es =>
          obtain ⟨b, xs, e, t, zz⟩ := q1
          obtain ⟨b2, ys, e2, t2, zz2⟩ := q2
          have t' := s2.ff.lst t
          exact ⟨b, b2, e, e2, ⟨xs, s2.fh.lst t'⟩, ⟨ys, s2.fh.lst t2⟩, p _ F2 H2 (s1.trans s2) (iter_zip t' (zz.mono s2.ff) t2 zz2)⟩
        | _ => exact (W.ns p).elim
      | _ => exact (W.ns p).elim
theorem di_zip {elts : List Expr} {k : Nat} {q : Pos} (hm : X.mg "zip" = none) (ha : DE K W false X a fa) (hb : DE K W false X b fb) (hg : Gl X "zip" := by rfl) (hs : starEach [a, b] X.env = [(false, eval a X.env), (false, eval b X.env)] := by rfl) (hs2 : starEach [b] X.env = [(false, eval b X.env)] := by rfl) (hK : X.K = K := by rfl) :
    DI K W X (.Tuple elts k q) (.Call (.Name "zip" p) [a, b] [] pos) (fZip fa fb) := by
  subst hK
  exact (pi_zip hg hm ha hb hs hs2).imp fun _ _ _ => ri_zip
end
end L2
namespace L2
open PySem PySem.Spec PyProof.Rows
end L2
namespace L2
open PySem PySem.Spec PyProof.Rows
end L2
namespace L2
open PySem PySem.Spec PyProof.Rows
section
variable {X : Cx} {K : PySem.W.Frag} {W : Wish} {own ro : Bool}
open Classical in
end
end L2
namespace L2
open PySem PySem.Spec PyProof.Rows
noncomputable abbrev ZRec (h : Heap) (z p q : Addr) (m k : Value) : Prop := h.get? z = some { cls := .type "zip", dict := none, data := .fields #[m, k, .bool false, .ref p, .ref q], slots := #[] }
structure Zs (z p q u v l m : Addr) (r k a b : Value) (i j : Nat) (xs ys : Array Value) (h : Heap) : Prop where
  me : ZRec h z p q r k
  its : IsPair h p (.ref u) (.ref v)
  own : IsPair h q a b
  one : h.IsListIter u l i
  two : h.IsListIter v m j
  xl : h.IsList l xs
  yl : h.IsList m ys
noncomputable def Off (z q u v : Addr) (h h' : Heap) : Prop := ∀ c o, c ≠ z → c ≠ q → c ≠ u → c ≠ v → h.get? c = some o → h'.get? c = some o
section
variable {z p q u v l m : Addr} {r k a b : Value} {i j n : Nat} {xs ys : Array Value} {h h' g : Heap}
theorem Off.then (A : Off z q u v h h') (B : Off z q u v h' g) : Off z q u v h g := fun c o a b d e x => B c o a b d e (A c o a b d e x)
end
inductive Mem : Value → Prop
  | no : Mem .none
  | was (a : Int) (t : Tok) : Mem (.int a t)
end L2
namespace L2
open PySem PySem.Spec PyProof.Rows
inductive Laid2 : Hp → List (V × V) → List V → Hp → Prop
  | nil {G : Hp} : Laid2 G [] [] G
  | cons {G G' : Hp} {T : Addr} {x y : V} {ps : List (V × V)} {vs : List V} : G T = none → Laid2 (upd G T (.tup [x, y])) ps vs G' → Laid2 G ((x, y) :: ps) (.ref T :: vs) G'
end L2
namespace L2
open PySem PySem.Spec PyProof.Rows
end L2
namespace L2
open PySem PySem.Spec PyProof.Rows
structure Owns (K : PySem.W.Frag) (F G H : Hp) (ds : List Dat) (vs : List V) : Prop where
  len : vs.length = ds.length
  get : ∀ (k : Nat) (d : Dat), ds[k]? = some d → ∃ a xs es, vs[k]? = some (.ref a) ∧ d = .lst es ∧ H a = some (.lst xs) ∧ F a = none ∧ G a = none ∧ Deeps K F es xs
  ap : ∀ (j k : Nat) (a : Addr), vs[j]? = some (.ref a) → vs[k]? = some (.ref a) → j = k
noncomputable def rowAt (rs : List Dat) (a : Int) : M (Nat × List Dat) := match ixN rs.length a with
  | some j => (match rs[j]? with
    | some (.lst es) => .ok (j, es)
    | _ => .error .stuck)
  | none => .error .stuck
noncomputable def setRow (rs : List Dat) (je : Nat × List Dat) (b : Int) (x : Dat) : M (List Dat) := match ixN je.2.length b with
  | some k => .ok (rs.set je.1 (.lst (je.2.set k x)))
  | none => .error .stuck
noncomputable def rows3 (i : Nat) (rs : List Dat) (x : Dat) (je : Nat × List Dat) (fB : Env' → M Dat) (ρ : Env') : M Flo := (fB (ρ.set i none)).bind fun b => (asI b).bind fun b => (setRow rs je b x).bind fun rs' => .ok (.nx (ρ.set i (some (.lst rs'))))
noncomputable def rows2 (i : Nat) (rs : List Dat) (x : Dat) (fA fB : Env' → M Dat) (ρ : Env') : M Flo := (fA (ρ.set i none)).bind fun a => (asI a).bind fun a => (rowAt rs a).bind fun je => rows3 i rs x je fB ρ
end L2
namespace L2
open PySem PySem.Spec PyProof.Rows
end L2
namespace L2
open PySem PySem.Spec PyProof.Rows
structure Ys (z p q u v l m : Addr) (r k a b : Value) (i j : Nat) (xs ys : Array Value) (h : Heap) : Prop where
  me : ZRec h z p q r k
  its : IsPair h p (.ref u) (.ref v)
  own : IsPair h q a b
  one : h.IsTupleIter u l i
  two : h.IsTupleIter v m j
  xl : h.IsTuple l xs
  yl : h.IsTuple m ys
end L2
namespace L2
open PySem PySem.Spec PyProof.Rows
structure RepR (K : PySem.W.Frag) (F0 H0 FB : Hp) (i : Nat) (a : Addr) (ys : List V) (rs : List Dat) (F H : Hp) (σ : St) (ρ : Env') : Prop where
  r : Rep K F0 H0 FB [] F H σ ρ
  sl : σ[i]? = some (some (.ref a))
  hp : H a = some (.lst ys)
  fa : F a = none
  ha : H0 a = none
  nm : ∀ m : Nat, ys[m]? ≠ some (.ref a)
  ow : Owns K F H0 H rs ys
section
variable {K : PySem.W.Frag} {F0 H0 FB F H F1 H1 : Hp} {i : Nat} {a : Addr} {ys : List V} {rs : List Dat} {σ : St} {ρ : Env'}
theorem RepR.base {FB' : Hp} (h : RepR K F0 H0 FB i a ys rs F H σ ρ) (s : Same FB' FB) : RepR K F0 H0 FB' i a ys rs F H σ ρ := ⟨h.r.base s, h.sl, h.hp, h.fa, h.ha, h.nm, h.ow⟩
end
end L2
namespace L2
open PySem PySem.Spec PyProof.Rows
section
variable {κ : Type} [DecidableEq κ]
noncomputable def dropK (kvs : List (κ × V)) (k : κ) : List (κ × V) := kvs.filter fun kv => decide (kv.1 ≠ k)
theorem RelO.getD {o : Option V} {u : Option Value} {d : V} {d' : Value} (r : RelO o u) (rd : RelV d d') : RelV (o.getD d) (u.getD d') := by
  cases o with
  | none => cases u with
    | none => exact rd
    | some _ => exact (show False from r).elim
  | some _ => cases u with
    | none => exact (show False from r).elim
    | some _ => exact r
theorem KV.drop {kvs : List (κ × V)} {vs : List (κ × Value)} (r : KV kvs vs) (k : κ) : KV (dropK kvs k) (without vs k) := by
  unfold KV at r ⊢
  unfold dropK without
  induction r with
  | nil => exact .nil
  | @cons p q ps qs h t ih =>
    obtain ⟨h1, h2⟩ := h
    rw [List.filter_cons, List.filter_cons]
    by_cases e : p.1 = k
    · have a : ¬ decide (p.1 ≠ k) = true := by simp [e]
      have b : ¬ decide (q.1 ≠ k) = true := by simp [h1.symm.trans e]
      rw [if_neg a, if_neg b]; exact ih
    · have e' : ¬ q.1 = k := fun z => e (h1.trans z)
      have a : decide (p.1 ≠ k) = true := by simp [e]
      have b : decide (q.1 ≠ k) = true := by simp [e']
      rw [if_pos a, if_pos b]; exact .cons ⟨h1, h2⟩ ih
theorem KV.length {kvs : List (κ × V)} {vs : List (κ × Value)} (r : KV kvs vs) : kvs.length = vs.length := Paired.length r
end
structure M1 (X : Cx) (o : Expr) (m : Str) (apos : Pos) (e : Expr) (cpos : Pos) : Prop where
  base : attributeBase o m X.env (eval o X.env) = eval o X.env
  few : ((backTo cpos (starEach [e] X.env)).all (fun x => !x.1) && (backToKw cpos (keywordEach [] X.env)).all (fun x => x.1.isSome)
    && decide (([e] : List Expr).length + ([] : List Keyword).length + (if ([] : List Keyword).isEmpty then 0 else 1) < 30)) = true
  line : (apos.endLine == cpos.line) = true
  trees : backTo cpos (starEach [e] X.env) = [(false, eval e X.env)]
structure M2 (X : Cx) (o : Expr) (m : Str) (apos : Pos) (e f : Expr) (cpos : Pos) : Prop where
  base : attributeBase o m X.env (eval o X.env) = eval o X.env
  few : ((backTo cpos (starEach [e, f] X.env)).all (fun x => !x.1) && (backToKw cpos (keywordEach [] X.env)).all (fun x => x.1.isSome)
    && decide (([e, f] : List Expr).length + ([] : List Keyword).length + (if ([] : List Keyword).isEmpty then 0 else 1) < 30)) = true
  line : (apos.endLine == cpos.line) = true
  trees : backTo cpos (starEach [e, f] X.env) = [(false, eval e X.env), (false, eval f X.env)]
end L2
namespace L2
open PySem PySem.Spec PyProof.Rows
noncomputable def keysI (ks : List Int) : List (Key × V) := ks.map fun k => (Sum.inl k, .bl true)
structure RepK (K : PySem.W.Frag) (F0 H0 FB : Hp) (i : Nat) (a : Addr) (ks : List Int) (F H : Hp) (σ : St) (ρ : Env') : Prop where
  r : Rep K F0 H0 FB [] F H σ ρ
  sl : σ[i]? = some (some (.ref a))
  hp : H a = some (.dK (keysI ks))
  fa : F a = none
  ha : H0 a = none
end L2
namespace L2
open PySem PySem.Spec PyProof.Rows
structure ExA (h : Heap) (e : Addr) (C : Value) (dx hd : Option Addr) : Prop where
  ob : ∃ oe vs, h.get? e = some oe ∧ oe.cls = C ∧ oe.dict = dx ∧ oe.data = .fields vs ∧ vs[1]? = some (hd.elim Value.none Value.ref)
  tb : ∀ T, hd = some T → T ≠ e ∧ ∃ oT ts, h.get? T = some oT ∧ oT.data = .fields ts ∧ ts[3]? = some .none
section
variable {M : Model} {A : Around} {E : Value → Shared → Prop} {s : Shared}
structure Left (fs : List Addr) (e : Addr) (hd : Option Addr) (h h' : Heap) : Prop where
  keep : ∀ b o, h.get? b = some o → b ∉ fs → b ≠ e → (∀ T, hd = some T → b ≠ T) → h'.get? b = some o
  slot : ∀ b o, h.get? b = some o → b ∈ fs → ∃ sl, h'.get? b = some { o with slots := sl }
  size : h.objs.size ≤ h'.objs.size
end
end L2
namespace L2
open PySem PySem.Spec PyProof.Rows
structure CXs (P : Program) (w : World) (outer : List Env) (H : Hp) (s : Shared) (E : XK) (a T : Addr) (C : Value) (dx : Option Addr) (H' : Hp) (s' : Shared) : Prop where
  ex : ExA s'.heap a C dx (some T)
  na : s.heap.get? a = none
  nT : s.heap.get? T = none
  fa : H' a = none
  fT : H' T = none
  os : s'.os = s.os
  bare : AllBare s'.gens
  un : Un (frs outer) [] H H' s.heap s'.heap
  hok : HOk P w H' s'.heap
  want : E C dx H'
end L2
namespace L2
open PySem PySem.Spec PyProof.Rows
end L2
namespace L2
open PySem PySem.Spec PyProof.Rows
end L2
namespace L2
open PySem PySem.Spec PyProof.Rows
section
variable {X : Cx} {pins : List (Addr × Obj)} {σ : St} {H : Hp} {s : Shared} {a : Addr} {C : Value} {dx hd : Option Addr}
structure Apart (X : Cx) (pins : List (Addr × Obj)) (H : Hp) (s : Shared) (a : Addr) (hd : Option Addr) : Prop where
  na : X.s₀.heap.get? a = none
  fa : H a = none
  pa : ∀ p ∈ X.pn ++ pins, p.1 ≠ a
  nT : ∀ T, hd = some T → X.s₀.heap.get? T = none ∧ H T = none ∧ ∀ p ∈ X.pn ++ pins, p.1 ≠ T
end
end L2
namespace L2
open PySem PySem.Spec PyProof.Rows
section
variable {X : Cx} {pins : List (Addr × Obj)} {σ : St} {H : Hp} {s : Shared}
theorem Inv.names {h' : Heap} {m : Str → Option Value} {σ' : St} (I : Inv X pins σ H s) (hn : h'.Ns X.env.locals m) (hs : Heap.SameBut X.env.locals s.heap h') (hl : σ'.length = X.N.length)
    (hv : ∀ (i : Nat) (x : Str) (v : V), X.N[i]? = some x → σ'[i]? = some (some v) → Vis X.env.scope x → ∃ u, RelV v u ∧ Look X.env s.heap m x u) : Inv X pins σ' H { s with heap := h' } := by
  have far : ∀ b o, X.s₀.heap.get? b = some o → b ≠ X.env.locals := fun b o e z => by
    subst z
    exact absurd (Heap.lt_size e) (Nat.not_lt.mpr I.ok.above)
  have cel : ∀ x c v, X.env.cells.lookup x = some c → s.heap.IsCell c v → h'.IsCell c v := fun x c v e z => z.sameBut hs (I.cne x c e)
  refine ⟨I.ok, I.os, I.bare, ⟨fun b o e n hb hx => ?_, fun b o e n hb hx => ?_, I.base.free, fun b o e hx => ?_, I.base.tups, I.base.frzs, I.base.tbls⟩, ⟨m, hn, fun i x v e1 e2 e3 => ?_⟩, fun x c e => ?_, I.free, I.freeC, fun p hp => ?_, fun b o e => ?_, hl⟩
  · show h'.get? b = _
    rw [hs.2 b (far b o e)]; exact I.base.keep b o e n hb hx
  · obtain ⟨sl, z⟩ := I.base.slot b o e n hb hx
    refine ⟨sl, ?_⟩
    show h'.get? b = _
    rw [hs.2 b (far b o e)]; exact z
  · obtain ⟨o', z⟩ := I.base.there b o e hx
    refine ⟨o', ?_⟩
    show h'.get? b = _
    rw [hs.2 b (far b o e)]; exact z
  · obtain ⟨u, r, lk⟩ := hv i x v e1 e2 e3
    refine ⟨u, r, ?_⟩
    rcases lk with z | ⟨z, c, c1, c2⟩
    · exact .inl z
    · exact .inr ⟨z, c, c1, cel x c _ c1 c2⟩
  · obtain ⟨v, z⟩ := I.cell x c e
    exact ⟨v, cel x c v e z⟩
  · obtain ⟨p1, p2, p3, p4, p5⟩ := I.pin p hp
    refine ⟨?_, p2, p3, p4, p5⟩
    show h'.get? p.1 = _
    rw [hs.2 p.1 p3]; exact p1
  · refine (I.hok b o e).stay (fun c u hc e1 => ?_) (fun _ z => z) fun _ _ z => z
    show h'.get? c = _
    rw [hs.2 c fun z => ?_]
    · exact e1
    · rcases hc with y | y
      · rw [← y, z, I.free] at e; cases e
      · rw [z, I.free] at y; cases y
end
end L2
namespace L2
open PySem PySem.Spec PyProof.Rows
noncomputable def XNamed (K : PySem.W.Frag) (C : Addr) (bmB : List Value) : Prop := ∀ h : Heap, K.In h → ∃ tl N nm qn bs hdct sn sub ab col dd k0 k1 k2 k3 k5 newId, h.get? C = some (excClassObj nm qn C N bs tl hdct sn sub ab col dd k0 k1 k2 k3 k5 newId) ∧ OwnTail h bmB tl
noncomputable abbrev Cx.hand (X : Cx) (a : Addr) (oe : Obj) : Cx := { X with A := X.A.mark (some (.ref a)), calm := false, xe := fun _ _ => False, pn := (a, oe) :: X.pn }
end L2
namespace L2
open PySem PySem.Spec PyProof.Rows
end L2
namespace L2
open PySem PySem.Spec PyProof.Rows
end L2
namespace L2
open PySem PySem.Spec PyProof.Rows
section
open PySem.W
variable {prog : Program} {w : World} {A : Around} {E : Value → Shared → Prop} {h : Heap} {g : Array GenState} {d : Drawn} {t : Nat} {os : OsState} {a C : Addr} {oe : Obj} {od : Option Obj} {K : Frag} {bmB : List Value} {B : String}
theorem xcls_by {tk : Tok} {Q : Value → Shared → Prop} (FB : ExcAttrBase B bmB) (kX : K.In h) (I : W.InstAt h a oe C od) (e1 : findIn K (.ref C) "__getattribute__" = some (some (.builtin "BaseException.__getattribute__")))
    (e3 : findIn K (.ref C) "__getattr__" = some none)
    (hq : ∀ R : Result → Shared → Prop, R (.ok (.ret (.ref C))) ⟨h, g, d, t, os⟩ → codeAny (model prog w) A (.call (.builtin "BaseException.__getattribute__") ⟨[.ref a, .str "__class__" tk], []⟩) R ⟨h, g, d, t, os⟩) (q : Q (.ref C) ⟨h, g, d, t, os⟩) :
    wpAny (model prog w) A (getAttrBy (.ref a) (.str "__class__" tk) false) Q E ⟨h, g, d, t, os⟩ := by
  have m0 := I.type (M := model prog w)
  have m1 := looks_findIn (M := model prog w) kX e1
  have L2 := looks_findIn (M := model prog w) kX e3
  have b3 := FB.ga.bind (.ref a)
  have nx : (Value.builtin "BaseException.__getattribute__" == Value.builtin "object.__getattribute__") = false := by decide +kernel
  unfold getAttrBy
  repeat (any_goals (first | assumption | with_reducible refine m0.at ?_ | with_reducible refine m1.at ?_ | with_reducible refine L2.at ?_ | wp_step))
  all_goals (refine hq _ ?_)
  repeat (any_goals (first | wp_step | assumption))
theorem xcls_check {M : Model} {nameV : Value} {Q : Unit → Shared → Prop} (kX : K.In h) (I : W.InstAt h a oe C od) (hb : mroIn K C (.type "BaseException") = some true) (hq : Q () ⟨h, g, d, t, os⟩) :
    wpAny M A (checkBuiltinCall "BaseException.__getattribute__" ⟨[.ref a, nameV], []⟩) Q E ⟨h, g, d, t, os⟩ := by
  have kd : builtinKind "BaseException.__getattribute__" = some .slot := by decide +kernel
  have hs : splitId "BaseException.__getattribute__" = some ("BaseException", "__getattribute__") := by decide +kernel
  have m0 := I.type (M := M)
  have m1 := looks_mroIn (M := M) kX hb
  have ag := F.args_bexc_ga (.ref a) nameV
  simp only [checkBuiltinCall, hs, kd]
  refine wpAny_bind ?_
  unfold isInstance
  repeat (first | with_reducible refine m0.at ?_ | with_reducible refine m1.at ?_ | wp_step)
  exact hq
theorem xcls_entry {tk : Tok} {Q : Fin → Shared → Prop} (kX : K.In h) (I : W.InstAt h a oe C od) (e2 : findIn K (.ref C) "__class__" = some (some (.builtin "object.__class__"))) (hm : mroIn K C (.type "object") = some true) (hq : Q (.done (.ret (.ref C))) ⟨h, g, d, t, os⟩) :
    wpAny (model prog w) A (Builtin.«object.__getattribute__» ⟨[.ref a, .str "__class__" tk], []⟩) Q E ⟨h, g, d, t, os⟩ := by
  have tc : Shared.TypeIs ⟨h, g, d, t, os⟩ (.builtin "object.__class__") "getset_descriptor" := F.typeOf_object_class
  have m0 := I.type (M := model prog w)
  have m1 := looks_findIn (M := model prog w) kX e2
  have p5 := F.typeOf_object_class
  have p6 := F.slot_gs_get.lookup
  have p7 := F.slot_gs_set.lookup
  repeat (any_goals (first | assumption | with_reducible refine m0.at ?_ | with_reducible refine m1.at ?_ | wp_step))
  refine W.class_get (s := ⟨h, g, d, t, os⟩) kX I hm ?_
  repeat (any_goals (first | wp_step | assumption))
theorem xcls_attr {Q : Option Value → Shared → Prop} (FB : ExcAttrBase B bmB) (kX : K.In h) (I : W.InstAt h a oe C od) (e1 : findIn K (.ref C) "__getattribute__" = some (some (.builtin "BaseException.__getattribute__"))) (e2 : findIn K (.ref C) "__class__" = some (some (.builtin "object.__class__"))) (e3 : findIn K (.ref C) "__getattr__" = some none)
    (hb : mroIn K C (.type "BaseException") = some true) (hm : mroIn K C (.type "object") = some true) (hq : Q (some (.ref C)) ⟨h, g, d, t + 1, os⟩) : wpAny (model prog w) A (getAttr? (.ref a) "__class__") Q E ⟨h, g, d, t, os⟩ := by
  unfold getAttr? getAttrBy?
  refine wpAny_bind (wpAny_mkText (wpAny_bind (wpAny_attempt (xcls_by FB kX I e1 e3 (fun R hR => codeAny_call_builtin FB.ga.plain F.entry_bexc_ga (xcls_check kX I hb (xcls_entry kX I e2 hm hR))) ?_))))
  exact wpAny_pure hq
structure XIsi (K : Frag) (C : Addr) : Prop where
  ga : findIn K (.ref C) "__getattribute__" = some (some (.builtin "BaseException.__getattribute__"))
  cl : findIn K (.ref C) "__class__" = some (some (.builtin "object.__class__"))
  gt : findIn K (.ref C) "__getattr__" = some none
  bs : mroIn K C (.type "BaseException") = some true
  ob : mroIn K C (.type "object") = some true
  is : ∃ cd, clsIn K C = some cd
theorem kitx_exc (FB : ExcAttrBase B bmB) (Z : XIsi K C) : KitX K (.ref a) (.ref C) (fun h => W.InstAt h a oe C od) where
  ty := fun _ _ _ I => I.type
  it := fun _ _ X _ => by
    obtain ⟨cd, hc⟩ := Z.is
    unfold clsIn at hc
    split at hc
    · next ho =>
      intro A' Q' E' s' k q
      unfold isType loadHead
      refine wpAny_bind (wpAny_loadPart (k C _ (X C _ ho)) ?_)
      exact wpAny_pure q
    · cases hc
  ne := fun hh tq d1 is n1 s1 X htp => by
    obtain ⟨cd, hc⟩ := Z.is
    refine Bool.eq_false_iff.mpr (fun q => ?_)
    have e : C = tq := Value.ref.inj (beq_iff_eq.mp q)
    subst e
    unfold clsIn at hc
    split at hc
    · next ho =>
      cases (X C _ ho).symm.trans htp
    · cases hc
  ca := fun {_ _ _ _ _ s} X I k => by
    obtain ⟨h, g, d, t, os⟩ := s
    exact xcls_attr FB X I Z.ga Z.cl Z.gt Z.bs Z.ob k
end
theorem refs_are : ∀ {ys : List Addr} {its : List Value}, Vals (ys.map V.ref) its → its = ys.map Value.ref
  | [], _, .nil => rfl
  | y :: ys, _, .cons r rs => by rw [refs_are rs, show _ = Value.ref y from r]; rfl
section
variable {X : Cx} {C a : Addr} {oe : Obj} {B : String} {bmB : List Value}
theorem c_isiX (FB : ExcAttrBase B bmB) (Z : XIsi X.K C) (hc : oe.cls = .ref C) (hd : ∃ vs, oe.data = .fields vs) (hn : oe.dict = none) : CallR (X.hand a oe) (.builtin "isinstance") (fun xs H Q => ∃ v b, xs = [.ref a, v] ∧
    ((∃ c, RelV v c ∧ (∀ u, RelV v u → u = c) ∧ PySem.W.kitOne X.K (.ref C) c = some b) ∨ ∃ (tp : Addr) (ys : List Addr), v = .ref tp ∧ H tp = some (.tup (ys.map V.ref)) ∧ PySem.W.kitAny X.K (.ref C) (ys.map Value.ref) = some b) ∧ Q (.bl b) H) := by
  intro pins s σ H xs us Q I r h
  obtain ⟨v, b, rfl, h1, q⟩ := h
  obtain ⟨u, w, rfl, ru, rw'⟩ := r.two
  cases (show u = Value.ref a from ru)
  have pa := (I.pin (a, oe) (List.mem_cons_self ..)).1
  obtain ⟨vs, hdt⟩ := hd
  have J : PySem.W.InstAt s.heap a oe C none := ⟨pa, hc, by unfold PySem.W.notCls; rw [hdt], by rw [hn]; trivial⟩
  rcases h1 with ⟨c, rc, uniq, e⟩ | ⟨tp, ys, rfl, ht, e⟩
  · cases uniq w rw'
    exact PySem.W.kia_one (kitx_exc FB Z) I.kIn J e (fun z => nomatch z) fun tk => ⟨.bl b, H, I.tok tk, rfl, q⟩
  · cases (show w = Value.ref tp from rw')
    obtain ⟨_, its, rv, ob, z1, z2⟩ := (show ObjOk X.prog X.w H s.heap tp (.tup (ys.map V.ref)) from I.hok tp _ ht)
    obtain ⟨z3, n, z4⟩ := z2
    have ei : its = ys.map Value.ref := refs_are rv
    subst ei
    obtain ⟨oc, odd, odt, osl⟩ := ob
    have z5 : oc = Value.type "tuple" := z3
    have z6 : odt = .seq (ys.map Value.ref).toArray n := z4
    subst z5 z6
    exact PySem.W.kia_tup (kitx_exc FB Z) I.kIn J z1 e (fun z => nomatch z) fun tk => ⟨.bl b, H, I.tok tk, rfl, q⟩
end
end L2
namespace L2
open PySem PySem.Spec PyProof.Rows
noncomputable def tIsiX (i : Nat) (a : Addr) (b : Bool) : TE := fun σ H Q => σ[i]? = some (some (.ref a)) ∧ Q (.bl b) H
noncomputable def tIsiT (i : Nat) (a : Addr) (ys : List Addr) (b : Bool) : TE := fun σ H Q => σ[i]? = some (some (.ref a)) ∧ ∀ p, H p = none → Q (.bl b) (upd H p (.tup (ys.map V.ref)))
section
variable {X : Cx} {C a D : Addr} {oe : Obj} {B : String} {bmB : List Value} {i : Nat} {n x y T : Str} {p p1 p2 pos : Pos} {b : Bool}
theorem pe_isiO (FB : ExcAttrBase B bmB) (Z : XIsi X.K C) (hc : oe.cls = .ref C) (hd : ∃ vs, oe.data = .fields vs) (hn : oe.dict = none) (hm : X.mg "isinstance" = none) (hD : X.mg y = some (.ref D)) (hb : PySem.W.kitOne X.K (.ref C) (.ref D) = some b)
    (hN : X.N[i]? = some n := by rfl) (hv : Vis X.env.scope n := by first | exact Or.inl rfl | exact Or.inr (Or.inl rfl) | exact Or.inr (Or.inr rfl)) (hd1 : (n == ("__debug__" : Str)) = false := by decide) (hd2 : (n == ("__classdict__" : Str)) = false := by decide)
    (hg : Gl (X.hand a oe) "isinstance" := by rfl) (hgD : Gl (X.hand a oe) y := by rfl) (hd3 : (y == ("__debug__" : Str)) = false := by decide)
    (hst : starEach [.Name n p1, .Name y p2] X.env = [(false, eval (.Name n p1) X.env), (false, eval (.Name y p2) X.env)] := by rfl) (hst2 : starEach [.Name y p2] X.env = [(false, eval (.Name y p2) X.env)] := by rfl) (hpl : (backTo pos (starEach [.Name y p2] X.env)).any (·.1) = false := by rfl) :
    PE (X.hand a oe) (.Call (.Name "isinstance" p) [.Name n p1, .Name y p2] [] pos) (tIsiX i a b) := by
  have vD : PE (X.hand a oe) (.Name y p2) (tC (.ref D)) := fun pins s σ H Q I h => ld_glob I hgD hD ⟨.ref D, H, I, rfl, h⟩ hd3
  refine PE.imp (pe_callB (X := X.hand a oe) (c_isiX FB Z hc hd hn) hg hm boot_isinstance (pa_cons (pv i hN hv hd1 hd2) (pa_cons vD pa_nil hst2) (by rw [hst, hst2])) (by decide) (by decide) (by rw [hst, hst2]) hpl) fun σ H Q h => ?_
  obtain ⟨e1, q⟩ := h
  exact ⟨.ref a, e1, .ref D, b, rfl, .inl ⟨.ref D, rfl, fun u hu => hu, hb⟩, q⟩
end
noncomputable def tRefs (ys : List Addr) : TA := fun _ H Q => Q (ys.map V.ref) H
section
variable {X : Cx} {C a D : Addr} {oe : Obj} {B : String} {bmB : List Value} {i : Nat} {n x y : Str} {T : String} {p p1 p2 pos : Pos} {b : Bool} {ys : List Addr} {es : List Expr}
theorem pe_isiB (FB : ExcAttrBase B bmB) (Z : XIsi X.K C) (hc : oe.cls = .ref C) (hd : ∃ vs, oe.data = .fields vs) (hn : oe.dict = none) (hm : X.mg "isinstance" = none) (hmT : X.mg y = none) (hvT : bootBuiltins y = some (.type T)) (hb : PySem.W.kitOne X.K (.ref C) (.type T) = some b)
    (hN : X.N[i]? = some n := by rfl) (hv : Vis X.env.scope n := by first | exact Or.inl rfl | exact Or.inr (Or.inl rfl) | exact Or.inr (Or.inr rfl)) (hd1 : (n == ("__debug__" : Str)) = false := by decide) (hd2 : (n == ("__classdict__" : Str)) = false := by decide)
    (hg : Gl (X.hand a oe) "isinstance" := by rfl) (hgT : Gl (X.hand a oe) y := by rfl) (hy : y ≠ "__name__" := by decide) (hd3 : (y == ("__debug__" : Str)) = false := by decide)
    (hst : starEach [.Name n p1, .Name y p2] X.env = [(false, eval (.Name n p1) X.env), (false, eval (.Name y p2) X.env)] := by rfl) (hst2 : starEach [.Name y p2] X.env = [(false, eval (.Name y p2) X.env)] := by rfl) (hpl : (backTo pos (starEach [.Name y p2] X.env)).any (·.1) = false := by rfl) :
    PE (X.hand a oe) (.Call (.Name "isinstance" p) [.Name n p1, .Name y p2] [] pos) (tIsiX i a b) := by
  refine PE.imp (pe_callB (X := X.hand a oe) (c_isiX FB Z hc hd hn) hg hm boot_isinstance (pa_cons (pv i hN hv hd1 hd2) (pa_cons (pe_tyN (X := X.hand a oe) (pos := p2) hgT hmT hvT hy hd3) pa_nil hst2) (by rw [hst, hst2])) (by decide) (by decide) (by rw [hst, hst2]) hpl) fun σ H Q h => ?_
  obtain ⟨e1, q⟩ := h
  exact ⟨.ref a, e1, .ty T, b, rfl, .inl ⟨.type T, rfl, fun u hu => hu, hb⟩, q⟩
theorem pe_isiT {j} (FB : ExcAttrBase B bmB) (Z : XIsi X.K C) (hc : oe.cls = .ref C) (hd : ∃ vs, oe.data = .fields vs) (hn : oe.dict = none) (hm : X.mg "isinstance" = none) (hT : PA (X.hand a oe) es (tRefs ys)) (hl : ys.length ≤ sizeLine) (hb : PySem.W.kitAny X.K (.ref C) (ys.map Value.ref) = some b)
    (hN : X.N[i]? = some n := by rfl) (hv : Vis X.env.scope n := by first | exact Or.inl rfl | exact Or.inr (Or.inl rfl) | exact Or.inr (Or.inr rfl)) (hd1 : (n == ("__debug__" : Str)) = false := by decide) (hd2 : (n == ("__classdict__" : Str)) = false := by decide)
    (hg : Gl (X.hand a oe) "isinstance" := by rfl)
    (hst : starEach [.Name n p1, .Tuple es j p2] X.env = [(false, eval (.Name n p1) X.env), (false, eval (.Tuple es j p2) X.env)] := by rfl) (hst2 : starEach [.Tuple es j p2] X.env = [(false, eval (.Tuple es j p2) X.env)] := by rfl) (hpl : (backTo pos (starEach [.Tuple es j p2] X.env)).any (·.1) = false := by rfl) :
    PE (X.hand a oe) (.Call (.Name "isinstance" p) [.Name n p1, .Tuple es j p2] [] pos) (tIsiT i a ys b) := by
  refine PE.imp (pe_callB (X := X.hand a oe) (c_isiX FB Z hc hd hn) hg hm boot_isinstance (pa_cons (pv i hN hv hd1 hd2) (pa_cons (pe_tup hT) pa_nil hst2) (by rw [hst, hst2])) (by decide) (by decide) (by rw [hst, hst2]) hpl) fun σ H Q h => ?_
  obtain ⟨e1, q⟩ := h
  exact ⟨.ref a, e1, by rw [List.length_map]; exact hl, fun tp htp => ⟨.ref tp, b, rfl, .inr ⟨tp, ys, rfl, upd_same, hb⟩, q tp htp⟩⟩
end
end L2
namespace L2
open PySem PySem.Spec PyProof.Rows
end L2
namespace L2
open PySem PySem.Spec PyProof.Rows
end L2
namespace L2
open PySem PySem.Spec PyProof.Rows
end L2
namespace L2
open PySem PySem.Spec PyProof.Rows
noncomputable def excIn2 (K : PySem.W.Frag) (C : Addr) (bmB : List Value) (newId : String) (f : Addr) : Bool := match K.lookup C with
  | some ⟨.type "type", _, .cls cd, sl⟩ =>
      (match cd.mro, sl.toList with
    | .ref C' :: tl, [_, _, _, _, some (.builtin n), _] => (n == newId && C' == C && !cd.hasDel) && (PySem.W.nsOkIn K cd.ns && PySem.W.tailIn K bmB tl) && (PySem.W.nsIn K cd.ns "__init__" == some (some (.ref f)))
    | _, _ => false)
  | _ => false
end L2
namespace L2
open PySem PySem.Spec PyProof.Rows
noncomputable def veTail : List Value → Bool
  | .ref _ :: r => veTail r
  | [.type a, .type b, .type c, .type d] => a == "ValueError" && b == "Exception" && c == "BaseException" && d == "object"
  | _ => false
structure XFld (K : PySem.W.Frag) (C : Addr) (f : Str) : Prop where
  sa : PySem.W.findIn K (.ref C) "__setattr__"
      = some (some (.builtin "object.__setattr__"))
  no : PySem.W.findIn K (.ref C) f = some none
  cd : ((PySem.W.clsIn K C).any fun cd => veTail cd.mro && cd.hasDict) = true
section
open PySem.W
variable {prog : Program} {w : World} {A : Around} {E : Value → Shared → Prop} {s : Shared} {a C : Addr} {oe : Obj} {od : Option Obj} {K : Frag} {f : Str} {v : Value}
end
end L2
namespace L2
open PySem PySem.Spec PyProof.Rows
section
open PySem.W
variable {prog : Program} {w : World} {A : Around} {E : Value → Shared → Prop} {s : Shared} {a C : Addr} {oe od : Obj} {K : Frag} {f : Str} {v : Value} {B : String} {bmB : List Value}
end
end L2
namespace L2
open PySem PySem.Spec PyProof.Rows
end L2
namespace L2
open PySem PySem.Spec PyProof.Rows
end L2
namespace L2
open PySem PySem.Spec PyProof.Rows
structure XMk (K : PySem.W.Frag) (mg : Str → Option Value) (x : Str) (C f : Addr) : Prop where
  mg : mg x = some (.ref C)
  ex : excIn2 K C [.type "ValueError", .type "Exception", .type "BaseException", .type "object"] "ValueError.__new__" f = true
  fn : PySem.W.typeIn K (.ref f) = some (.type "function")
  kp : PySem.W.keepIn K (.ref C)
      = true
structure XTry (K : PySem.W.Frag) (mg : Str → Option Value) (x : Str) (C : Addr) : Prop where
  mg : mg x = some (.ref C)
  nm : XNamed K C [.type "ValueError", .type "Exception", .type "BaseException", .type "object"]
  isi : XIsi K C
end L2
namespace L2
open PySem PySem.Spec PyProof.Rows
end L2
namespace L2
open PySem PySem.Spec PyProof.Rows
noncomputable def isi_strD : Dat → M Dat
  | .str _ => .ok (.bl true)
  | .ins _ _ => stk
  | .dic _ => stk
  | .dil _ => stk
  | _ => .ok (.bl false)
@[simp] theorem e_isiSS (x : Str) : isi_strD (.str x) = .ok (.bl true) := id rfl
section
variable {X : Cx} {K : PySem.W.Frag} {W : Wish} {own : Bool} {a : Expr} {fa : Env' → M Dat} {pos p p2 : Pos}
theorem c_isi_str (kit : Kit K) (hK : X.K = K := by rfl) : CallR X (.builtin "isinstance") (fun xs H Q => ∃ v, xs = [v, .ty "str"] ∧ rD1 K W own isi_strD v H Q) := by
  subst hK
  intro pins s σ H xs us Q I r h; obtain ⟨v, rfl, F, d, s1, q, p⟩ := h
  obtain ⟨u, w, rfl, ru, rw'⟩ := r.two
  cases (show w = Value.type "str" from rw')
  by_cases hi : (∃ C fs, d = .ins C fs) ∨ (∃ ks, d = .dic ks) ∨ ∃ ks, d = .dil ks
  · rcases hi with ⟨C, fs, rfl⟩ | ⟨ks, rfl⟩ | ⟨ks, rfl⟩ <;> exact Post.stuck p
  · refine isi_D I s1 q ru kit.q_int_str kit.q_bool_str kit.q_list_str kit.q_tuple_str kit.q_str_str kit.q_NoneType_str (fun k tk hk => ⟨.bl k, H, I.tok tk, rfl, ?_⟩) (fun C fs e => hi (.inl ⟨C, fs, e⟩)) (fun ks e => hi (.inr (.inl ⟨ks, e⟩))) (fun ks e => hi (.inr (.inr ⟨ks, e⟩)))
    cases d <;> first | (have hk' : k = _ := hk; subst hk'; exact Post.bl (own := own) p s1) | exact absurd (.inl ⟨_, _, rfl⟩) hi | exact absurd (.inr (.inl ⟨_, rfl⟩)) hi | exact absurd (.inr (.inr ⟨_, rfl⟩)) hi
theorem de_isi_str (kit : Kit K) (hm : X.mg "isinstance" = none) (hmT : X.mg "str" = none) (ha : DE K W false X a fa) (hK : X.K = K := by rfl)
    (hg : Gl X "isinstance" := by rfl) (hgT : Gl X "str" := by rfl)
    (hst : starEach [a, .Name "str" p2] X.env = [(false, eval a X.env), (false, eval (.Name "str" p2) X.env)] := by rfl) (hst2 : starEach [.Name "str" p2] X.env = [(false, eval (.Name "str" p2) X.env)] := by rfl) (hpl : (backTo pos (starEach [.Name "str" p2] X.env)).any (·.1) = false := by rfl) :
    DE K W own X (.Call (.Name "isinstance" p) [a, .Name "str" p2] [] pos) (f1 isi_strD fa) := de_isi (c_isi_str kit hK) hm hmT (by decide +kernel) ha hg hgT (by decide) (by decide) hst hst2 hpl
end
end L2
namespace L2
open PySem PySem.Spec PyProof.Rows
noncomputable def rIsi (K : PySem.W.Frag) (C a : Addr) (R : Hp → Prop) : List V → Hp → VK → Prop := fun xs H Q => R H ∧ ∃ v b, xs = [.ref a, v] ∧
    ((∃ c, RelV v c ∧ (∀ u, RelV v u → u = c) ∧ PySem.W.kitOne K (.ref C) c = some b) ∨ ∃ (tp : Addr) (ys : List Addr), v = .ref tp ∧ H tp = some (.tup (ys.map V.ref)) ∧ PySem.W.kitAny K (.ref C) (ys.map Value.ref) = some b) ∧ Q (.bl b) H
noncomputable def XDk (d : Addr) : Hp → Prop := fun H => ∃ gs, H d = some (.xd gs)
noncomputable def tIsiR (i : Nat) (a : Addr) (R : Hp → Prop) (b : Bool) : TE := fun σ H Q => σ[i]? = some (some (.ref a)) ∧ R H ∧ Q (.bl b) H
noncomputable def tIsiTR (i : Nat) (a : Addr) (R : Hp → Prop) (ys : List Addr) (b : Bool) : TE := fun σ H Q => σ[i]? = some (some (.ref a)) ∧ ∀ p, H p = none → R (upd H p (.tup (ys.map V.ref))) ∧ Q (.bl b) (upd H p (.tup (ys.map V.ref)))
section
variable {X : Cx} {C a d D : Addr} {oe : Obj} {B : String} {bmB : List Value} {R : Hp → Prop}
theorem c_isiD (FB : ExcAttrBase B bmB) (Z : XIsi X.K C) (hc : oe.cls = .ref C) (hd : ∃ vs, oe.data = .fields vs) (hx : oe.dict = some d) : CallR (X.hand a oe) (.builtin "isinstance") (rIsi X.K C a (XDk d)) := by
  intro pins s σ H xs us Q I r h; obtain ⟨⟨gs, hg⟩, v, b, rfl, h1, q⟩ := h
  obtain ⟨u, w, rfl, ru, rw'⟩ := r.two
  cases (show u = Value.ref a from ru)
  have pa := (I.pin (a, oe) (List.mem_cons_self ..)).1
  obtain ⟨vs, hdt⟩ := hd
  obtain ⟨mA, ⟨od, es, ep, ho, hrest⟩, _⟩ := (show ObjOk X.prog X.w H s.heap d (.xd gs) from I.hok d _ hg)
  have J : PySem.W.InstAt s.heap a oe C (some od) := ⟨pa, hc, by unfold PySem.W.notCls; rw [hdt], by rw [hx]; exact ho⟩
  rcases h1 with ⟨c, rc, uniq, e⟩ | ⟨tp, ys, rfl, ht, e⟩
  · cases uniq w rw'
    exact PySem.W.kia_one (kitx_exc FB Z) I.kIn J e (fun z => nomatch z) fun tk => ⟨.bl b, H, I.tok tk, rfl, q⟩
  · cases (show w = Value.ref tp from rw')
    obtain ⟨_, its, rv, ob, z1, z2⟩ := (show ObjOk X.prog X.w H s.heap tp (.tup (ys.map V.ref)) from I.hok tp _ ht)
    obtain ⟨z3, n, z4⟩ := z2
    have ei : its = ys.map Value.ref := refs_are rv
    subst ei
    obtain ⟨oc, odd, odt, osl⟩ := ob
    have z5 : oc = Value.type "tuple" := z3
    have z6 : odt = .seq (ys.map Value.ref).toArray n := z4
    subst z5 z6
    exact PySem.W.kia_tup (kitx_exc FB Z) I.kIn J z1 e (fun z => nomatch z) fun tk => ⟨.bl b, H, I.tok tk, rfl, q⟩
end
section
variable {X : Cx} {C a D : Addr} {oe : Obj} {R : Hp → Prop} {i : Nat} {n y : Str} {T : String} {p p1 p2 pos : Pos} {b : Bool} {ys : List Addr} {es : List Expr}
theorem pe_isO (hcr : CallR (X.hand a oe) (.builtin "isinstance") (rIsi X.K C a R)) (hm : X.mg "isinstance" = none) (hD : X.mg y = some (.ref D)) (hb : PySem.W.kitOne X.K (.ref C) (.ref D) = some b)
    (hN : X.N[i]? = some n := by rfl) (hv : Vis X.env.scope n := by first | exact Or.inl rfl | exact Or.inr (Or.inl rfl) | exact Or.inr (Or.inr rfl)) (hd1 : (n == ("__debug__" : Str)) = false := by decide) (hd2 : (n == ("__classdict__" : Str)) = false := by decide)
    (hg : Gl (X.hand a oe) "isinstance" := by rfl) (hgD : Gl (X.hand a oe) y := by rfl) (hd3 : (y == ("__debug__" : Str)) = false := by decide)
    (hst : starEach [.Name n p1, .Name y p2] X.env = [(false, eval (.Name n p1) X.env), (false, eval (.Name y p2) X.env)] := by rfl) (hst2 : starEach [.Name y p2] X.env = [(false, eval (.Name y p2) X.env)] := by rfl) (hpl : (backTo pos (starEach [.Name y p2] X.env)).any (·.1) = false := by rfl) :
    PE (X.hand a oe) (.Call (.Name "isinstance" p) [.Name n p1, .Name y p2] [] pos) (tIsiR i a R b) := by
  have vD : PE (X.hand a oe) (.Name y p2) (tC (.ref D)) := fun pins s σ H Q I h => ld_glob I hgD hD ⟨.ref D, H, I, rfl, h⟩ hd3
  refine PE.imp (pe_callB (X := X.hand a oe) hcr hg hm boot_isinstance (pa_cons (pv i hN hv hd1 hd2) (pa_cons vD pa_nil hst2) (by rw [hst, hst2])) (by decide) (by decide) (by rw [hst, hst2]) hpl) fun σ H Q h => ?_
  obtain ⟨e1, hR, q⟩ := h
  exact ⟨.ref a, e1, hR, .ref D, b, rfl, .inl ⟨.ref D, rfl, fun u hu => hu, hb⟩, q⟩
theorem pe_isB (hcr : CallR (X.hand a oe) (.builtin "isinstance") (rIsi X.K C a R)) (hm : X.mg "isinstance" = none) (hmT : X.mg y = none) (hvT : bootBuiltins y = some (.type T)) (hb : PySem.W.kitOne X.K (.ref C) (.type T) = some b)
    (hN : X.N[i]? = some n := by rfl) (hv : Vis X.env.scope n := by first | exact Or.inl rfl | exact Or.inr (Or.inl rfl) | exact Or.inr (Or.inr rfl)) (hd1 : (n == ("__debug__" : Str)) = false := by decide) (hd2 : (n == ("__classdict__" : Str)) = false := by decide)
    (hg : Gl (X.hand a oe) "isinstance" := by rfl) (hgT : Gl (X.hand a oe) y := by rfl) (hy : y ≠ "__name__" := by decide) (hd3 : (y == ("__debug__" : Str)) = false := by decide)
    (hst : starEach [.Name n p1, .Name y p2] X.env = [(false, eval (.Name n p1) X.env), (false, eval (.Name y p2) X.env)] := by rfl) (hst2 : starEach [.Name y p2] X.env = [(false, eval (.Name y p2) X.env)] := by rfl) (hpl : (backTo pos (starEach [.Name y p2] X.env)).any (·.1) = false := by rfl) :
    PE (X.hand a oe) (.Call (.Name "isinstance" p) [.Name n p1, .Name y p2] [] pos) (tIsiR i a R b) := by
  refine PE.imp (pe_callB (X := X.hand a oe) hcr hg hm boot_isinstance (pa_cons (pv i hN hv hd1 hd2) (pa_cons (pe_tyN (X := X.hand a oe) (pos := p2) hgT hmT hvT hy hd3) pa_nil hst2) (by rw [hst, hst2])) (by decide) (by decide) (by rw [hst, hst2]) hpl) fun σ H Q h => ?_
  obtain ⟨e1, hR, q⟩ := h
  exact ⟨.ref a, e1, hR, .ty T, b, rfl, .inl ⟨.type T, rfl, fun u hu => hu, hb⟩, q⟩
theorem pe_isT {j} (hcr : CallR (X.hand a oe) (.builtin "isinstance") (rIsi X.K C a R)) (hm : X.mg "isinstance" = none) (hT : PA (X.hand a oe) es (tRefs ys)) (hl : ys.length ≤ sizeLine) (hb : PySem.W.kitAny X.K (.ref C) (ys.map Value.ref) = some b)
    (hN : X.N[i]? = some n := by rfl) (hv : Vis X.env.scope n := by first | exact Or.inl rfl | exact Or.inr (Or.inl rfl) | exact Or.inr (Or.inr rfl)) (hd1 : (n == ("__debug__" : Str)) = false := by decide) (hd2 : (n == ("__classdict__" : Str)) = false := by decide)
    (hg : Gl (X.hand a oe) "isinstance" := by rfl)
    (hst : starEach [.Name n p1, .Tuple es j p2] X.env = [(false, eval (.Name n p1) X.env), (false, eval (.Tuple es j p2) X.env)] := by rfl) (hst2 : starEach [.Tuple es j p2] X.env = [(false, eval (.Tuple es j p2) X.env)] := by rfl) (hpl : (backTo pos (starEach [.Tuple es j p2] X.env)).any (·.1) = false := by rfl) :
    PE (X.hand a oe) (.Call (.Name "isinstance" p) [.Name n p1, .Tuple es j p2] [] pos) (tIsiTR i a R ys b) := by
  refine PE.imp (pe_callB (X := X.hand a oe) hcr hg hm boot_isinstance (pa_cons (pv i hN hv hd1 hd2) (pa_cons (pe_tup hT) pa_nil hst2) (by rw [hst, hst2])) (by decide) (by decide) (by rw [hst, hst2]) hpl) fun σ H Q h => ?_
  obtain ⟨e1, q⟩ := h
  exact ⟨.ref a, e1, by rw [List.length_map]; exact hl, fun tp htp => ⟨(q tp htp).1, .ref tp, b, rfl, .inr ⟨tp, ys, rfl, upd_same, hb⟩, (q tp htp).2⟩⟩
end
end L2
namespace L2
open PySem PySem.Spec PyProof.Rows
end L2
namespace L2
open PySem PySem.Spec PyProof.Rows
structure Yd (P : Program) (w : World) (K : PySem.W.Frag) (mg : Str → Option Value) (base : Heap) (CX : CXT) (k : Nat) (x : Str) (st : Stmt) (ps : List Str) (sp : Sp) (f : Addr) (fd : FuncData) : Prop where
  d : Def K mg x st ps f fd
  o : FnOk P w K mg base CX k f fd ps sp
end L2
namespace L2
open PySem PySem.Spec PyProof.Rows
section
open PySem.W
variable {M : Model} {A : Around} {E : Value → Shared → Prop} {h : Heap} {g : Array GenState} {d : Drawn} {t : Nat} {os : OsState} {a C Cb : Addr} {oe : Obj} {K : Frag}
end
structure XUnder (K : PySem.W.Frag) (C Cb : Addr) : Prop where
  sub : PySem.W.mroIn K C (.ref Cb) = some true
  isi : XIsi K C
structure XBase (K : PySem.W.Frag) (mg : Str → Option Value) (x : Str) (Cb : Addr) : Prop where
  mg : mg x = some (.ref Cb)
  ty : PySem.W.typeIn K (.ref Cb) = some (.type "type")
  bs : PySem.W.mroIn K Cb (.type "BaseException") = some true
noncomputable def XR : Option Addr → Hp → Prop
  | none => fun _ => True
  | some d => XDk d
section
variable {X : Cx} {C a : Addr} {oe : Obj} {B : String} {bmB : List Value}
theorem c_isiA (FB : ExcAttrBase B bmB) (Z : XIsi X.K C) (hc : oe.cls = .ref C) (hd : ∃ vs, oe.data = .fields vs) : CallR (X.hand a oe) (.builtin "isinstance") (rIsi X.K C a (XR oe.dict)) := by
  cases hx : oe.dict with
  | none => exact fun pins s σ H xs us Q I r h => c_isiX FB Z hc hd hx pins s σ H xs us Q I r h.2
  | some d => exact c_isiD FB Z hc hd hx
end
structure XTell (K : PySem.W.Frag) (C : Addr) (A1 A2 A3 : Addr) (T : String) (ys : List Addr) (bs : List Bool) : Prop where
  ex : ∃ b1 b2 b3 b4 b5, bs = [b1, b2, b3, b4, b5] ∧ PySem.W.kitOne K (.ref C) (.ref A1) = some b1 ∧ PySem.W.kitOne K (.ref C) (.ref A2) = some b2 ∧ PySem.W.kitOne K (.ref C) (.ref A3) = some b3 ∧ PySem.W.kitOne K (.ref C) (.type T) = some b4 ∧ PySem.W.kitAny K (.ref C) (ys.map Value.ref) = some b5
structure XTxt (K : PySem.W.Frag) (mg : Str → Option Value) (x : Str) (C : Addr) : Prop where
  mg : mg x = some (.ref C)
  ex : PySem.W.excIn K C [.type "ValueError", .type "Exception", .type "BaseException", .type "object"] "ValueError.__new__" = true
end L2
namespace L2
open PySem PySem.Spec PyProof.Rows
section
open PySem.W
variable {M : Model} {A : Around} {E : Value → Shared → Prop} {h : Heap} {g : Array GenState} {d : Drawn} {t : Nat} {os : OsState} {a C Cb : Addr} {oe : Obj} {K : Frag}
end
structure XTwo (K : PySem.W.Frag) (mg : Str → Option Value) (c1 c2 : Str) (C1 C2 : Addr) : Prop where
  b1 : XBase K mg c1 C1
  b2 : XBase K mg c2 C2
  isi : XIsi K C1
  s1 : PySem.W.mroIn K C1 (.ref C1) = some true
  s2 : PySem.W.mroIn K C2 (.ref C2) = some true
  no : PySem.W.mroIn K C2 (.ref C1) = some false
end L2
namespace L2
open PySem PySem.Spec PyProof.Rows
end L2
namespace L2
open PySem PySem.Spec PyProof.Rows
section
open PySem.SetTable
end
section
open PySem
variable {prog : Program} {w : World} {A : Around} {E : Value → Shared → Prop} {s : Shared}
end
section
open PySem
variable {prog : Program} {w : World} {A : Around} {R : Result → Shared → Prop} {I : Addr} {fp wr : List Addr} {G : Array GenState → Array GenState → Prop} {n : Nat} {P : Nat → Value → Prop} {St : Nat → Shared → Prop} {b : Bool}
end
section
open PySem
variable {prog : Program} {w : World} {A : Around} {E : Value → Shared → Prop} {s : Shared}
end
section
open PySem
end
section
open PySem
variable {prog : Program} {w : World} {A : Around} {E : Value → Shared → Prop} {s : Shared} {I a T : Addr} {es : Array (Int × Value)} {ep n i : Nat} {t : SetTable}
end
section
open PySem
variable {prog : Program} {w : World} {A : Around} {E : Value → Shared → Prop} {s : Shared} {I a T : Addr} {es : Array (Int × Value)} {ep n i : Nat} {t : SetTable}
end
section
open PySem
variable {prog : Program} {w : World} {A : Around} {E : Value → Shared → Prop} {s : Shared} {a : Addr}
end
end L2
namespace L2
open PySem PySem.Spec PyProof.Rows
section
open PySem.W
variable {prog : Program} {w : World} {A : Around} {E : Value → Shared → Prop} {s : Shared}
end
end L2
namespace L2
open PySem PySem.Spec PyProof.Rows
end L2
namespace L2
open PySem PySem.Spec PyProof.Rows
end L2
namespace L2
open PySem PySem.Spec PyProof.Rows
end L2
namespace L2
open PySem PySem.Spec PyProof.Rows
structure Abt (p : Addr) (F H F' H' : Hp) : Prop where
  ff : Same F F'
  fh : Same F' H'
  fp : F' p = none
  nw : ∀ b o, F' b = some o → F b = some o ∨ H b = none
  hh : ∀ c o, H c = some o → c ≠ p → H' c = some o
section
variable {X : Cx} {K : PySem.W.Frag} {own ro : Bool} {e o a : Expr} {es : List Expr} {x m : Str} {pos p apos : Pos} {f fo : Env' → M Dat} {fr : Env' → M (List Dat)} {C C2 : Addr} {E : XK} {CX : CXT}
end
end L2
namespace L2
open PySem PySem.Spec PyProof.Rows
noncomputable def isiC (tb : List (Addr × Bool)) : Dat → M Dat
  | .ins C _ => match tb.lookup C with
    | some b => .ok (.bl b)
    | none => stk
  | _ => stk
section
variable {X : Cx} {K : PySem.W.Frag} {W : Wish} {own : Bool} {a : Expr} {fa : Env' → M Dat} {pos p p2 : Pos} {y : Str} {D : Addr} {tb : List (Addr × Bool)}
theorem c_isiC (hT : ∀ C b, tb.lookup C = some b → (∃ x, Kls K X.mg x C) ∧ PySem.W.kitOne K (.ref C) (.ref D) = some b) (hK : X.K = K := by rfl) : CallR X (.builtin "isinstance") (fun xs H Q => ∃ v, xs = [v, .ref D] ∧ rD1 K W own (isiC tb) v H Q) := by
  subst hK
  intro pins s σ H xs us Q I r h
  obtain ⟨v, rfl, F, d, s1, q, p⟩ := h
  obtain ⟨u, w, rfl, ru, rw'⟩ := r.two
  cases (show w = Value.ref D from rw')
  cases d with
  | ins C fs =>
    cases hl : tb.lookup C with
    | none =>
      have p : Post X.K W own F H (match tb.lookup C with
        | some b => .ok (.bl b)
        | none => stk) Q := p
      rw [hl] at p
      exact Post.stuck p
    | some b =>
      have p : Post X.K W own F H (match tb.lookup C with
        | some b => .ok (.bl b)
        | none => stk) Q := p
      rw [hl] at p
      obtain ⟨⟨x, hk⟩, hb⟩ := hT C b hl
      obtain ⟨l, dx, gs, e1, ea, df⟩ := q
      subst e1
      exact isinst_ok I ru (hk.ty (s1 _ _ ea)) hb fun tk => ⟨.bl b, H, I.tok tk, rfl, Post.bl (own := own) p s1⟩
  | _ => exact Post.stuck p
theorem de_isiC (hT : ∀ C b, tb.lookup C = some b → (∃ x, Kls K X.mg x C) ∧ PySem.W.kitOne K (.ref C) (.ref D) = some b) (hm : X.mg "isinstance" = none) (hD : X.mg y = some (.ref D)) (ha : DE K W false X a fa) (hK : X.K = K := by rfl)
    (hg : Gl X "isinstance" := by rfl) (hgT : Gl X y := by rfl) (hd : (y == ("__debug__" : Str)) = false := by decide)
    (hst : starEach [a, .Name y p2] X.env = [(false, eval a X.env), (false, eval (.Name y p2) X.env)] := by rfl) (hst2 : starEach [.Name y p2] X.env = [(false, eval (.Name y p2) X.env)] := by rfl) (hpl : (backTo pos (starEach [.Name y p2] X.env)).any (·.1) = false := by rfl) :
    DE K W own X (.Call (.Name "isinstance" p) [a, .Name y p2] [] pos) (f1 (isiC tb) fa) :=
  (pe_callB (c_isiC hT hK) hg hm boot_isinstance (pa_cons ha (pa_cons (pe_glob (v := .ref D) (pos := p2) hgT hD rfl hd) pa_nil hst2) (by rw [hst, hst2])) (by decide) (by decide) (by rw [hst, hst2]) hpl).imp fun σ H Q h => by
    obtain ⟨F, ρ, r, s, q⟩ := rd_1 h
    refine ⟨F, ρ, r, s, ?_⟩
    cases e1 : fa ρ with
    | error z => rw [e1] at q; exact q
    | ok d => rw [e1] at q; exact fun v F' H' st z => ⟨v, rfl, q v F' H' st z⟩
theorem isi2 {P : Addr → Bool → Prop} {C1 C2 : Addr} {b1 b2 : Bool} (h1 : P C1 b1) (h2 : P C2 b2) : ∀ C b, List.lookup C [(C1, b1), (C2, b2)] = some b → P C b := fun C b h => by
  rw [List.lookup_cons] at h
  cases e : C == C1 with
  | true =>
    rw [e] at h
    cases h
    rw [beq_iff_eq.mp e]
    exact h1
  | false =>
    rw [e] at h
    have h : List.lookup C [(C2, b2)] = some b := h
    rw [List.lookup_cons] at h
    cases e2 : C == C2 with
    | true =>
      rw [e2] at h
      cases h
      rw [beq_iff_eq.mp e2]
      exact h2
    | false => rw [e2] at h; cases h
end
end L2
namespace L2
open PySem PySem.Spec PyProof.Rows
end L2
namespace L2
open PySem PySem.Spec PyProof.Rows
end L2
namespace L2
open PySem PySem.Spec PyProof.Rows
theorem DeepK.length {K : PySem.W.Frag} {F : Hp} : ∀ {ks : List (List Int × Dat)} {xs : List DRow}, DeepK K F ks xs → xs.length = ks.length
  | [], _, h => by rw [show _ = [] from h]; rfl
  | (k, d) :: ks, _, ⟨b, v, r, e, t, q, z⟩ => by rw [e, List.length_cons, List.length_cons, DeepK.length z]
noncomputable def getK (ks : List (List Int × Dat)) (k : List Int) : Option Dat := (ks.find? fun p => decide (p.1 = k)).map (·.2)
noncomputable def getR (xs : List DRow) (k : List Int) : Option V := (xs.find? fun p => decide (p.1 = k)).map (·.2.2)
theorem DeepK.at {K : PySem.W.Frag} {F : Hp} {k : List Int} : ∀ {ks : List (List Int × Dat)} {xs : List DRow}, DeepK K F ks xs → (getK ks k = none ∧ getR xs k = none) ∨ ∃ d v, getK ks k = some d ∧ getR xs k = some v ∧ Deep K F d v
  | [], _, h => by rw [show _ = [] from h]; exact .inl ⟨rfl, rfl⟩
  | (k', d) :: ks, _, ⟨b, v, r, e, t, q, z⟩ => by
    subst e
    by_cases e : k' = k
    · exact .inr ⟨d, v, by simp [getK, e], by simp [getR, e], q⟩
    · have := DeepK.at (k := k) z
      simpa only [getK, getR, List.find?_cons, e, decide_false] using this
theorem DeepK.isSome {K : PySem.W.Frag} {F : Hp} {k : List Int} {ks : List (List Int × Dat)} {xs : List DRow} (z : DeepK K F ks xs) : (getR xs k).isSome = (getK ks k).isSome := by
  rcases z.at (k := k) with ⟨e1, e2⟩ | ⟨d, v, e1, e2, _⟩ <;> rw [e1, e2] <;> rfl
section
variable {X : Cx} {pins : List (Addr × Obj)} {σ : St} {H : Hp} {s : Shared} {a b : Addr} {xs : List DRow} {ep : Nat} {k : List Int}
theorem dic_ok (I : Inv X pins σ H s) (e : H a = some (DicO a xs ep)) : DicOk s.heap a xs ep := (show DicOk s.heap a xs ep ∧ _ from I.hok a _ e).1
end
end L2
namespace L2
open PySem PySem.Spec PyProof.Rows
end L2
namespace L2
open PySem PySem.Spec PyProof.Rows
end L2
namespace L2
open PySem PySem.Spec PyProof.Rows
end L2
namespace L2
open PySem PySem.Spec PyProof.Rows
end L2
namespace L2
open PySem PySem.Spec PyProof.Rows
section
open PySem
variable {prog : Program} {w : World} {A : Around} {E : Value → Shared → Prop}
end
section
open PySem
variable {prog : Program} {w : World} {A : Around} {E : Value → Shared → Prop} {R : Result → Shared → Prop}
end
end L2
namespace L2
open PySem PySem.Spec PyProof.Rows
section
open PySem
variable {prog : Program} {w : World} {A : Around} {E : Value → Shared → Prop} {s : Shared}
end
end L2
namespace L2
open PySem PySem.Spec PyProof.Rows
end L2
namespace L2
open PySem PySem.Spec PyProof.Rows
end L2
namespace L2
open PySem PySem.Spec PyProof.Rows
structure KitD (K : PySem.W.Frag) : Prop where
  i : PySem.W.kitOne K (.type "dict") (.type "int") = some false
  b : PySem.W.kitOne K (.type "dict") (.type "bool") = some false
noncomputable def isi_intE : Dat → M Dat
  | .dil _ => stk
  | .int _ => .ok (.bl true)
  | .bl _ => .ok (.bl true)
  | .ins _ _ => stk
  | _ => .ok (.bl false)
noncomputable def isi_boolE : Dat → M Dat
  | .dil _ => stk
  | .bl _ => .ok (.bl true)
  | .ins _ _ => stk
  | _ => .ok (.bl false)
section
variable {X : Cx} {K : PySem.W.Frag} {W : Wish} {own : Bool} {a : Expr} {p p2 pos : Pos} {fa : Env' → M Dat} {pins : List (Addr × Obj)} {σ : St} {F H : Hp} {s : Shared}
theorem isi_dic {T : String} {ks : List (List Int × Dat)} {x : V} {u : Value} {Q : Value → Shared → Prop} (I : Inv X pins σ H s) (hF : Same F H) (q : Deep X.K F (.dic ks) x) (r : RelV x u)
    (hd : PySem.W.kitOne X.K (.type "dict") (.type T) = some false) (h : ∀ tk, Q (.bool false) { s with toks := tk }) : wpAny (model X.prog X.w) X.A (call (.builtin "isinstance") [u, .type T]) Q X.xe s := by
  obtain ⟨l, xs, e, ⟨ep, t⟩, _⟩ := q
  subst e
  cases r
  obtain ⟨_, _, _, _, _, o, _, h1, h2, _⟩ := dic_ok I (hF _ _ t)
  exact PySem.W.kia_one PySem.W.kitx_dict I.kIn ⟨o, h1, h2.1⟩ hd (fun z => nomatch z) fun tk => h tk
theorem c_isi_intE (kit : Kit K) (kd : KitD K) (hK : X.K = K := by rfl) : CallR X (.builtin "isinstance") (fun xs H Q => ∃ v, xs = [v, .ty "int"] ∧ rD1 K W own isi_intE v H Q) := by
  intro pins s σ H xs us Q I r h
  obtain ⟨v, rfl, F, d, s1, q, p⟩ := h
  cases d with
  | dic ks =>
    subst hK
    obtain ⟨u, w, rfl, ru, rw'⟩ := r.two
    cases (show w = Value.type "int" from rw')
    exact isi_dic I s1 q ru kd.i fun tk => ⟨.bl false, H, I.tok tk, rfl, Post.bl (own := own) p s1⟩
  | _ => exact c_isi_int (W := W) (own := own) kit hK pins s σ H _ _ Q I r ⟨v, rfl, F, _, s1, q, p⟩
theorem c_isi_boolE (kit : Kit K) (kd : KitD K) (hK : X.K = K := by rfl) : CallR X (.builtin "isinstance") (fun xs H Q => ∃ v, xs = [v, .ty "bool"] ∧ rD1 K W own isi_boolE v H Q) := by
  intro pins s σ H xs us Q I r h
  obtain ⟨v, rfl, F, d, s1, q, p⟩ := h
  cases d with
  | dic ks =>
    subst hK
    obtain ⟨u, w, rfl, ru, rw'⟩ := r.two
    cases (show w = Value.type "bool" from rw')
    exact isi_dic I s1 q ru kd.b fun tk => ⟨.bl false, H, I.tok tk, rfl, Post.bl (own := own) p s1⟩
  | _ => exact c_isi_bool (W := W) (own := own) kit hK pins s σ H _ _ Q I r ⟨v, rfl, F, _, s1, q, p⟩
theorem de_isi_intE (kit : Kit K) (kd : KitD K) (hm : X.mg "isinstance" = none) (hmT : X.mg "int" = none) (ha : DE K W false X a fa) (hK : X.K = K := by rfl)
    (hg : Gl X "isinstance" := by rfl) (hgT : Gl X "int" := by rfl)
    (hst : starEach [a, .Name "int" p2] X.env = [(false, eval a X.env), (false, eval (.Name "int" p2) X.env)] := by rfl) (hst2 : starEach [.Name "int" p2] X.env = [(false, eval (.Name "int" p2) X.env)] := by rfl) (hpl : (backTo pos (starEach [.Name "int" p2] X.env)).any (·.1) = false := by rfl) :
    DE K W own X (.Call (.Name "isinstance" p) [a, .Name "int" p2] [] pos) (f1 isi_intE fa) := de_isi (c_isi_intE kit kd hK) hm hmT (by decide +kernel) ha hg hgT (by decide) (by decide) hst hst2 hpl
theorem de_isi_boolE (kit : Kit K) (kd : KitD K) (hm : X.mg "isinstance" = none) (hmT : X.mg "bool" = none) (ha : DE K W false X a fa) (hK : X.K = K := by rfl)
    (hg : Gl X "isinstance" := by rfl) (hgT : Gl X "bool" := by rfl)
    (hst : starEach [a, .Name "bool" p2] X.env = [(false, eval a X.env), (false, eval (.Name "bool" p2) X.env)] := by rfl) (hst2 : starEach [.Name "bool" p2] X.env = [(false, eval (.Name "bool" p2) X.env)] := by rfl) (hpl : (backTo pos (starEach [.Name "bool" p2] X.env)).any (·.1) = false := by rfl) :
    DE K W own X (.Call (.Name "isinstance" p) [a, .Name "bool" p2] [] pos) (f1 isi_boolE fa) := de_isi (c_isi_boolE kit kd hK) hm hmT (by decide +kernel) ha hg hgT (by decide) (by decide) hst hst2 hpl
end
end L2
namespace L2
open PySem PySem.Spec PyProof.Rows
end L2
namespace L2
open PySem PySem.Spec PyProof.Rows
end L2
namespace L2
open PySem PySem.Spec PyProof.Rows
section
open PySem.W hiding kindOf
variable {prog : Program} {w : World} {A : Around} {E : Value → Shared → Prop} {s : Shared} {κ : SortKind} {f : Nat → Keyed} {key : Nat → Int} {n : Nat}
end
section
open PySem.W hiding kindOf
variable {prog : Program} {w : World} {A : Around} {E : Value → Shared → Prop} {s : Shared} {κ : SortKind} {f : Nat → Keyed} {key : Nat → Int} {n : Nat}
noncomputable def Srt (key : Nat → Int) (l : List Nat) : Prop := l.Pairwise fun x y => key x ≤ key y
structure MI (key : Nat → Int) (all out xs ys : List Nat) : Prop where
  perm : (out ++ (xs ++ ys)).Perm all
  so : Srt key out
  sx : Srt key xs
  sy : Srt key ys
  ox : ∀ x ∈ out, ∀ y ∈ xs, key x ≤ key y
  oy : ∀ x ∈ out, ∀ y ∈ ys, key x ≤ key y
noncomputable def SameSt (st st' : SortSt) : Prop := ∃ g, st' = SortSt.mk' (kindOf st) (arrOf st) (pendingOf st) g (failedOf st)
theorem SameSt.trans {a b c : SortSt} (h : SameSt a b) (k : SameSt b c) : SameSt a c := by
  obtain ⟨g, rfl⟩ := h
  obtain ⟨g', rfl⟩ := k
  exact ⟨g', rfl⟩
theorem SameSt.kind {a b : SortSt} (h : SameSt a b) : kindOf b = kindOf a := by obtain ⟨g, rfl⟩ := h; rfl
end
section
open PySem.W hiding kindOf
variable {prog : Program} {w : World} {A : Around} {E : Value → Shared → Prop} {s : Shared} {κ : SortKind} {f : Nat → Keyed} {key : Nat → Int} {n : Nat}
structure JL (f : Nat → Keyed) (key : Nat → Int) (pa pb : List Nat) (r : Array Keyed) (ia ib : Nat) (o : List Nat) : Prop where
  arr : r = (o.map f).toArray
  mi : MI key (pa ++ pb) o (pa.drop ia) (pb.drop ib)
  la : ia + 1 < pa.length
  lb : ib < pb.length
  len : o.length = ia + ib
end
section
open PySem.W hiding kindOf
variable {prog : Program} {w : World} {A : Around} {E : Value → Shared → Prop} {s : Shared} {κ : SortKind} {f : Nat → Keyed} {key : Nat → Int} {n : Nat}
noncomputable def neg (key : Nat → Int) (x : Nat) : Int := -key x
structure JH (f : Nat → Keyed) (key : Nat → Int) (pa pb : List Nat) (r : Array Keyed) (na nb : Nat) (o : List Nat) : Prop where
  arr : r = (o.map f).toArray
  mi : MI (neg key) (pa ++ pb) o (pa.take na).reverse (pb.take nb).reverse
  la : 0 < na
  lb : 1 < nb
  za : na ≤ pa.length
  zb : nb ≤ pb.length
  len : o.length + na + nb = pa.length + pb.length
end
section
open PySem.W hiding kindOf
variable {prog : Program} {w : World} {A : Around} {E : Value → Shared → Prop} {s : Shared} {κ : SortKind} {f : Nat → Keyed} {key : Nat → Int} {n : Nat}
structure SS (κ : SortKind) (f : Nat → Keyed) (n : Nat) (st : SortSt) (p : List Nat) : Prop where
  kind : kindOf st = κ
  ok : failedOf st = none
  arr : arrOf st = (p.map f).toArray
  perm : p.Perm (List.range n)
end
section
open PySem.W hiding kindOf
variable {prog : Program} {w : World} {A : Around} {E : Value → Shared → Prop} {s : Shared} {κ : SortKind} {f : Nat → Keyed} {key : Nat → Int} {n : Nat}
noncomputable def Fx (lo : Nat) (p p' : List Nat) : Prop := ∀ i, i < lo → p'.getD i 0 = p.getD i 0
theorem Fx.trans {lo : Nat} {p q r : List Nat} (h : Fx lo p q) (k : Fx lo q r) : Fx lo p r := fun i hi => (k i hi).trans (h i hi)
end
section
open PySem.W hiding kindOf
variable {prog : Program} {w : World} {A : Around} {E : Value → Shared → Prop} {s : Shared} {κ : SortKind} {f : Nat → Keyed} {key : Nat → Int} {n : Nat}
end
section
open PySem.W hiding kindOf
variable {prog : Program} {w : World} {A : Around} {E : Value → Shared → Prop} {s : Shared} {κ : SortKind} {f : Nat → Keyed} {key : Nat → Int} {n : Nat}
noncomputable def mkP : Nat → List (List Nat × Nat) → List (Nat × Nat × Nat)
  | _, [] => []
  | a, (l, w) :: r => (a, l.length, w) :: mkP (a + l.length) r
noncomputable def flt (gs : List (List Nat × Nat)) : List Nat := (gs.map Prod.fst).flatten
theorem flt_cons (g : List Nat × Nat) (y : List (List Nat × Nat)) : flt (g :: y) = g.1 ++ flt y := by simp [flt]
theorem mkP_app : ∀ (x : List (List Nat × Nat)) (a : Nat) (y : List (List Nat × Nat)), mkP a (x ++ y) = mkP a x ++ mkP (a + (flt x).length) y
  | [], a, y => by simp [mkP, flt]
  | (l, w) :: x, a, y => by
    show (a, l.length, w) :: mkP (a + l.length) (x ++ y) = (a, l.length, w) :: (mkP (a + l.length) x ++ _)
    rw [mkP_app x, flt_cons, List.length_append, Nat.add_assoc]
theorem mkP_len : ∀ (x : List (List Nat × Nat)) (a : Nat), (mkP a x).length = x.length
  | [], _ => rfl
  | (l, w) :: x, a => by simp [mkP, mkP_len x]
structure RI (κ : SortKind) (f : Nat → Keyed) (key : Nat → Int) (n : Nat) (st : SortSt) (gs : List (List Nat × Nat)) (rest : List Nat) : Prop where
  ss : SS κ f n st (flt gs ++ rest)
  pd : pendingOf st = (mkP 0 gs).toArray
  ok : ∀ g ∈ gs, Srt key g.1 ∧ 0 < g.1.length
theorem RI.size {st : SortSt} {gs : List (List Nat × Nat)} {rest : List Nat} (h : RI κ f key n st gs rest) : (pendingOf st).size = gs.length := by rw [h.pd]; simp [mkP_len]
noncomputable def rePw (pw : Nat) : Nat × Nat × Nat → Nat × Nat × Nat
  | (s, l, _) => (s, l, pw)
theorem RI.last {st : SortSt} {gs : List (List Nat × Nat)} {rest : List Nat} {pw : Nat} (h : RI κ f key n st gs rest) : ∃ gs', gs'.length = gs.length ∧ flt gs' = flt gs ∧ RI κ f key n (setPending st ((pendingOf st).modify ((pendingOf st).size - 1) (rePw pw))) gs' rest := by
  by_cases e : gs = []
  · subst e
    refine ⟨[], rfl, rfl, ⟨h.ss.kind, h.ss.ok, h.ss.arr, h.ss.perm⟩, ?_, h.ok⟩
    show (pendingOf st).modify ((pendingOf st).size - 1) (rePw pw) = _
    rw [h.pd]; rfl
  · obtain ⟨pre, b, eb⟩ : ∃ pre b, gs = pre ++ [b] := ⟨gs.dropLast, gs.getLast e, (List.dropLast_concat_getLast e).symm⟩
    subst eb
    obtain ⟨b, wb⟩ := b
    have ef : flt (pre ++ [(b, pw)]) = flt (pre ++ [(b, wb)]) := by simp [flt]
    refine ⟨pre ++ [(b, pw)], by simp, ef, ⟨h.ss.kind, h.ss.ok, ?_, ?_⟩, ?_, fun g hg => ?_⟩
    · rw [ef]; exact h.ss.arr
    · rw [ef]; exact h.ss.perm
    · show (pendingOf st).modify ((pendingOf st).size - 1) (rePw pw) = _
      rw [h.size, h.pd, mkP_app, mkP_app]
      have lp := mkP_len pre 0
      apply Array.ext_getElem?
      intro i
      rw [Array.getElem?_modify]
      simp only [List.length_append, List.length_singleton, Nat.add_sub_cancel, List.getElem?_toArray, mkP]
      by_cases c : pre.length = i
      · subst c
        rw [if_pos rfl, ← lp, List.getElem?_append_right (Nat.le_refl _), List.getElem?_append_right (Nat.le_refl _), Nat.sub_self]
        rfl
      · rw [if_neg c]
        rcases Nat.lt_or_ge i pre.length with d | d
        · rw [List.getElem?_append_left (by omega), List.getElem?_append_left (by omega)]
        · rw [List.getElem?_eq_none (by simp; omega), List.getElem?_eq_none (by simp; omega)]
    · rcases List.mem_append.mp hg with e | e
      · exact h.ok g (List.mem_append_left _ e)
      · have := List.mem_singleton.mp e
        subst this
        exact h.ok (b, wb) (by simp)
end
section
open PySem.W hiding kindOf
variable {prog : Program} {w : World} {A : Around} {E : Value → Shared → Prop} {s : Shared} {key : Nat → Int}
end
section
open PySem.W hiding kindOf
variable {α : Type} {lt : α → α → Bool}
variable {X : Cx} {K : PySem.W.Frag} {W : Wish} {own : Bool}
end
end L2
namespace L2
open PySem PySem.Spec PyProof.Rows
section
open PySem SetTable
end
section
open PySem
variable {prog : Program} {w : World} {A : Around} {E : Value → Shared → Prop} {s : Shared}
end
section
open PySem
variable {prog : Program} {w : World} {A : Around} {R : Result → Shared → Prop} {I : Addr} {fp wr : List Addr} {G : Array GenState → Array GenState → Prop} {n : Nat} {P : Nat → Value → Prop} {St : Nat → Shared → Prop} {b : Bool}
end
section
open PySem
variable {prog : Program} {w : World} {A : Around} {E : Value → Shared → Prop} {s : Shared}
end
section
open PySem SetTable
variable {prog : Program} {w : World} {A : Around} {E : Value → Shared → Prop} {s : Shared} {a : Addr}
end
section
open PySem.W
variable {prog : Program} {w : World} {A : Around} {E : Value → Shared → Prop} {s : Shared}
end
end L2
namespace L2
open PySem PySem.Spec PyProof.Rows
section
open PySem
structure IK (prog : Program) (w : World) (κ : Type) [DecidableEq κ] where
  is : Heap → κ → Value → Prop
  hash : κ → Int
  draws : κ → Nat
  up : Nat
  fuel : Nat
  inj : ∀ {h : Heap} {v : Value} {x y : κ}, is h x v → is h y v → x = y
  keeps : ∀ {h h' : Heap} {k : κ} {v : Value}, is h k v → (∀ (a : Addr) (o : Obj) (us : Array Value) (n : Nat), h.get? a = some o → o.data = .seq us n → h'.get? a = some o) → is h' k v
  pyHash : ∀ {A : Around} {E : Value → Shared → Prop} {s : Shared} {k : κ} {v : Value} {Q : Int → Shared → Prop}, A.units + up < cLine → is s.heap k v → Q (hash k) { s with toks := s.toks + draws k } → wpAny (model prog w) A (PySem.pyHash v) Q E s
  eqBool : ∀ {A : Around} {E : Value → Shared → Prop} {s : Shared} {x y : κ} {u v : Value} {Q : Bool → Shared → Prop}, A.units + up < cLine → is s.heap x u → is s.heap y v → Q (decide (x = y)) s → wpAny (model prog w) A (PySem.eqBool u v) Q E s
  quiet : ∀ {A : Around} {E : Value → Shared → Prop} {s : Shared} {k : κ} {v : Value} {Q : Bool → Shared → Prop} (n : Nat), fuel ≤ n → is s.heap k v → Q true s → wpAny (model prog w) A (eqIsQuiet n v) Q E s
variable {prog : Program} {w : World} {A : Around} {E : Value → Shared → Prop} {s : Shared}
inductive Hs (prog : Program) (w : World) (A : Around) (h : Heap) : List Value → List Int → Nat → Prop
  | nil : Hs prog w A h [] [] 0
  | cons {v : Value} {vs : List Value} {i : Int} {is : List Int} {d n : Nat} (hv : ∀ (E : Value → Shared → Prop) (s : Shared) (Q : Int → Shared → Prop), s.heap = h → Q i { s with toks := s.toks + d } → wpAny (model prog w) A (PySem.pyHash v) Q E s) (r : Hs prog w A h vs is n) : Hs prog w A h (v :: vs) (i :: is) (d + n)
inductive Es (prog : Program) (w : World) (A : Around) (h : Heap) : List Value → List Value → Bool → Prop
  | nil {us vs : List Value} (e : us = [] ∨ vs = []) : Es prog w A h us vs true
  | cons {u v : Value} {us vs : List Value} {b c : Bool} (hv : ∀ (E : Value → Shared → Prop) (s : Shared) (Q : Bool → Shared → Prop), s.heap = h → Q b s → wpAny (model prog w) A (PySem.eqBool u v) Q E s) (r : Es prog w A h us vs c) : Es prog w A h (u :: us) (v :: vs) (b && c)
end
section
open PySem
variable {prog : Program} {w : World} {κ μ : Type} [DecidableEq κ] [DecidableEq μ]
inductive All2 {α β : Type} (R : α → β → Prop) : List α → List β → Prop
  | nil : All2 R [] []
  | cons {x : α} {y : β} {xs : List α} {ys : List β} (h : R x y) (t : All2 R xs ys) : All2 R (x :: xs) (y :: ys)
end
end L2
namespace L2
open PySem PySem.Spec PyProof.Rows
end L2
namespace L2
open PySem PySem.Spec PyProof.Rows
section
open PySem
variable {prog : Program} {w : World} {A : Around} {E : Value → Shared → Prop} {s : Shared}
inductive Ls (prog : Program) (w : World) (A : Around) (h : Heap) : List Value → List Value → Bool → Prop
  | nil {us vs : List Value} (e : us = [] ∨ vs = []) : Ls prog w A h us vs (decide (us.length < vs.length))
  | eq {u v : Value} {us vs : List Value} {c : Bool} (hv : ∀ (E : Value → Shared → Prop) (s : Shared) (Q : Bool → Shared → Prop), s.heap = h → Q true s → wpAny (model prog w) A (PySem.eqBool u v) Q E s) (r : Ls prog w A h us vs c) : Ls prog w A h (u :: us) (v :: vs) c
  | ne {u v : Value} {us vs : List Value} {c : Bool} (hv : ∀ (E : Value → Shared → Prop) (s : Shared) (Q : Bool → Shared → Prop), s.heap = h → Q false s → wpAny (model prog w) A (PySem.eqBool u v) Q E s) (hl : ∀ (E : Value → Shared → Prop) (s : Shared) (Q : Value → Shared → Prop), s.heap = h → Q (.bool c) s → wpAny (model prog w) A (richCompare .Lt u v) Q E s) : Ls prog w A h (u :: us) (v :: vs) c
end
section
open PySem.W
variable {prog : Program} {w : World} {A : Around} {E : Value → Shared → Prop} {s : Shared}
end
section
open PySem PySem.W
variable {prog : Program} {w : World} {A : Around} {E : Value → Shared → Prop} {s : Shared}
end
section
open PySem PySem.W
variable {prog : Program} {w : World} {A : Around} {E : Value → Shared → Prop} {s : Shared}
variable {R : Result → Shared → Prop} {I : Addr} {fp wr : List Addr} {n : Nat} {P : Nat → Value → Prop} {St : Nat → Heap → Prop}
end
end L2
namespace L2
open PySem PySem.Spec PyProof.Rows
mutual
noncomputable def plainD : Dat → Bool
  | .tup ds => plainDs ds
  | .lst ds => plainDs ds
  | .ins _ _ => false
  | .dic _ => false
  | .dil _ => false
  | _ => true
noncomputable def plainDs : List Dat → Bool
  | [] => true
  | d :: ds => plainD d && plainDs ds
end
mutual
theorem Deep.plain {K : PySem.W.Frag} {F F' : Hp} (s : ∀ a xs, SqT K F a xs → SqT K F' a xs) (t : ∀ a xs, SqL K F a xs → SqL K F' a xs) : ∀ {d : Dat} {v : V}, plainD d = true → Deep K F d v → Deep K F' d v
  | .non, _, _, h => h
  | .bl _, _, _, h => h
  | .int _, _, _, h => h
  | .str _, _, _, h => h
  | .tup ds, _, f, ⟨a, xs, e, q, r⟩ => ⟨a, xs, e, s _ _ q, Deeps.plain s t (by simpa [plainD] using f) r⟩
  | .lst ds, _, f, ⟨a, xs, e, q, r⟩ => ⟨a, xs, e, t _ _ q, Deeps.plain s t (by simpa [plainD] using f) r⟩
  | .ins _ _, _, f, _ => by simp [plainD] at f
  | .dic _, _, f, _ => by simp [plainD] at f
  | .dil _, _, f, _ => by simp [plainD] at f
theorem Deeps.plain {K : PySem.W.Frag} {F F' : Hp} (s : ∀ a xs, SqT K F a xs → SqT K F' a xs) (t : ∀ a xs, SqL K F a xs → SqL K F' a xs) : ∀ {ds : List Dat} {xs : List V}, plainDs ds = true → Deeps K F ds xs → Deeps K F' ds xs
  | [], _, _, h => h
  | d :: ds, _, f, ⟨v, vs, e, q, r⟩ => by
    simp only [plainDs, Bool.and_eq_true] at f
    exact ⟨v, vs, e, Deep.plain s t f.1 q, Deeps.plain s t f.2 r⟩
end
end L2
namespace L2
open PySem PySem.Spec PyProof.Rows
end L2
namespace L2
open PySem PySem.Spec PyProof.Rows
section
open PySem PySem.W
variable {prog : Program} {w : World} {A : Around} {E : Value → Shared → Prop} {s : Shared}
end
end L2
namespace L2
open PySem PySem.Spec PyProof.Rows
end L2
namespace L2
open PySem PySem.Spec PyProof.Rows
structure B7 where
  f : Addr
  c : Value
  A : Around
  o : List Env
  s : Shared
  H : Hp
  E : XK
section
variable {P : Program} {w : World} {K : PySem.W.Frag} {mg : Str → Option Value} {base : Heap} {C : Addr} {x q : Str} {st : Stmt} {ps : List Str} {k : Nat} {ro : Bool} {g : Env' → M Flo}
noncomputable def YO (_ : ∃ f fd, Def K mg x st ps f fd) (P : Program) (w : World) (base : Heap) (k : Nat) (ro : Bool) (m : List Dat → M Dat) : Prop := ∃ f fd, Yd P w K mg base CX0 k x st ps (spF K ro m ps.length) f fd
noncomputable def YM (_ : ∃ f fd, Mth K C x q st ps f fd) (P : Program) (w : World) (mg : Str → Option Value) (base : Heap) (k : Nat) (ro : Bool) (m : List Dat → M Dat) : Prop := ∃ f fd, Mth K C x q st ps f fd ∧ FnOk P w K mg base CX0 k f fd ps (spF K ro m ps.length)
theorem fY (N : List Str) {h : ∃ f fd, Def K mg x st ps f fd}
    (hb : ∀ z : B7, N.Nodup → Room k (z.A.deeper (envOfC x (defScope st) z.s.heap.objs.size z.f z.c)) → DSs K Wno ro (cxOf CX0 P w K mg base N x (defScope st) z.f z.c z.A z.o z.s z.H z.E).nox [] [] [] (defBody st) g)
    (S : FnScope N ps (defScope st) := by exact ⟨rfl, rfl, rfl, by decide +kernel, rfl, by decide +kernel, by decide +kernel⟩) : YO h P w base (k + 1) ro (runB N.length ps.length g) :=
  let ⟨f, fd, D⟩ := h
  ⟨f, fd, D, fn_D D.fn S ro g fun c A o s H E hr => hb ⟨f, c, A, o, s, H, E⟩ S.nd hr⟩
theorem fM (N : List Str) {h : ∃ f fd, Mth K C x q st ps f fd}
    (hb : ∀ z : B7, N.Nodup → Room k (z.A.deeper (envOfC q (defScope st) z.s.heap.objs.size z.f z.c)) → DSs K Wno ro (cxOf CX0 P w K mg base N q (defScope st) z.f z.c z.A z.o z.s z.H z.E).nox [] [] [] (defBody st) g)
    (S : FnScope N ps (defScope st) := by exact ⟨rfl, rfl, rfl, by decide +kernel, rfl, by decide +kernel, by decide +kernel⟩) : YM h P w mg base (k + 1) ro (runB N.length ps.length g) :=
  let ⟨f, fd, D⟩ := h
  ⟨f, fd, D, fn_D D.fn S ro g fun c A o s H E hr => hb ⟨f, c, A, o, s, H, E⟩ S.nd hr⟩
end
section
variable {X : Cx} {K : PySem.W.Frag} {W : Wish} {own ro : Bool} {e a b c d : Expr} {es : List Expr} {x : Str} {pos p : Pos} {f fa fb fc fe : Env' → M Dat} {fr : Env' → M (List Dat)}
theorem dY {j k nN n : Nat} {st : Stmt} {ps : List Str} {g : Env' → M Flo} (Y : ∃ f fd, Yd X.prog X.w X.K X.mg X.base CX0 k x st ps (spF K ro (runB nN n g) n) f fd) (hr : Room j X.A)
    (ha : DA K Wno X (e :: es) fr) (hj : k ≤ j := by decide) (hg : Gl X x := by rfl) (hdb : (x == ("__debug__" : Str)) = false := by decide) (hst : starEach (e :: es) X.env = (false, eval e X.env) :: starEach es X.env := by rfl) (hpl : (backTo pos (starEach es X.env)).any (·.1) = false := by rfl) :
    DE K Wno ro X (.Call (.Name x p) (e :: es) [] pos) (fL (runB nN n g) fr) := let ⟨_, _, Y⟩ := Y; de_call Y.o (hr.mono hj) Y.d.mg Y.d.fn.kp Y.d.bd ha hg hdb hst hpl
theorem da1 (ha : DE K W false X a fa) (hs : starEach [a] X.env = [(false, eval a X.env)] := by rfl) : DA K W X [a] (fCons fa fNil) := da_cons ha da_nil hs
theorem da2 (ha : DE K W false X a fa) (hb : DE K W false X b fb) (hs : starEach [a, b] X.env = [(false, eval a X.env), (false, eval b X.env)] := by rfl) (hs' : starEach [b] X.env = [(false, eval b X.env)] := by rfl) : DA K W X [a, b] (fCons fa (fCons fb fNil)) := da_cons ha (da1 hb hs') (by rw [hs, hs'])
theorem da3 {e1 e2 e3 : Expr} {f1 f2 f3 : Env' → M Dat} (h1 : DE K W false X e1 f1) (h2 : DE K W false X e2 f2) (h3 : DE K W false X e3 f3) (s1 : starEach [e1, e2, e3] X.env = (false, eval e1 X.env) :: starEach [e2, e3] X.env := by rfl) (s2 : starEach [e2, e3] X.env = (false, eval e2 X.env) :: starEach [e3] X.env := by rfl) (s3 : starEach [e3] X.env = (false, eval e3 X.env) :: starEach [] X.env := by rfl) : DA K W X [e1, e2, e3] (fCons f1 (fCons f2 (fCons f3 fNil))) := (da_cons h1 (da_cons h2 (da_cons h3 da_nil s3) s2) s1)
theorem da4 {e1 e2 e3 e4 : Expr} {f1 f2 f3 f4 : Env' → M Dat} (h1 : DE K W false X e1 f1) (h2 : DE K W false X e2 f2) (h3 : DE K W false X e3 f3) (h4 : DE K W false X e4 f4) (s1 : starEach [e1, e2, e3, e4] X.env = (false, eval e1 X.env) :: starEach [e2, e3, e4] X.env := by rfl) (s2 : starEach [e2, e3, e4] X.env = (false, eval e2 X.env) :: starEach [e3, e4] X.env := by rfl) (s3 : starEach [e3, e4] X.env = (false, eval e3 X.env) :: starEach [e4] X.env := by rfl) (s4 : starEach [e4] X.env = (false, eval e4 X.env) :: starEach [] X.env := by rfl) : DA K W X [e1, e2, e3, e4] (fCons f1 (fCons f2 (fCons f3 (fCons f4 fNil)))) := (da_cons h1 (da_cons h2 (da_cons h3 (da_cons h4 da_nil s4) s3) s2) s1)
theorem da5 {e1 e2 e3 e4 e5 : Expr} {f1 f2 f3 f4 f5 : Env' → M Dat} (h1 : DE K W false X e1 f1) (h2 : DE K W false X e2 f2) (h3 : DE K W false X e3 f3) (h4 : DE K W false X e4 f4) (h5 : DE K W false X e5 f5) (s1 : starEach [e1, e2, e3, e4, e5] X.env = (false, eval e1 X.env) :: starEach [e2, e3, e4, e5] X.env := by rfl) (s2 : starEach [e2, e3, e4, e5] X.env = (false, eval e2 X.env) :: starEach [e3, e4, e5] X.env := by rfl) (s3 : starEach [e3, e4, e5] X.env = (false, eval e3 X.env) :: starEach [e4, e5] X.env := by rfl) (s4 : starEach [e4, e5] X.env = (false, eval e4 X.env) :: starEach [e5] X.env := by rfl) (s5 : starEach [e5] X.env = (false, eval e5 X.env) :: starEach [] X.env := by rfl) : DA K W X [e1, e2, e3, e4, e5] (fCons f1 (fCons f2 (fCons f3 (fCons f4 (fCons f5 fNil))))) := (da_cons h1 (da_cons h2 (da_cons h3 (da_cons h4 (da_cons h5 da_nil s5) s4) s3) s2) s1)
theorem da6 {e1 e2 e3 e4 e5 e6 : Expr} {f1 f2 f3 f4 f5 f6 : Env' → M Dat} (h1 : DE K W false X e1 f1) (h2 : DE K W false X e2 f2) (h3 : DE K W false X e3 f3) (h4 : DE K W false X e4 f4) (h5 : DE K W false X e5 f5) (h6 : DE K W false X e6 f6) (s1 : starEach [e1, e2, e3, e4, e5, e6] X.env = (false, eval e1 X.env) :: starEach [e2, e3, e4, e5, e6] X.env := by rfl) (s2 : starEach [e2, e3, e4, e5, e6] X.env = (false, eval e2 X.env) :: starEach [e3, e4, e5, e6] X.env := by rfl) (s3 : starEach [e3, e4, e5, e6] X.env = (false, eval e3 X.env) :: starEach [e4, e5, e6] X.env := by rfl) (s4 : starEach [e4, e5, e6] X.env = (false, eval e4 X.env) :: starEach [e5, e6] X.env := by rfl) (s5 : starEach [e5, e6] X.env = (false, eval e5 X.env) :: starEach [e6] X.env := by rfl) (s6 : starEach [e6] X.env = (false, eval e6 X.env) :: starEach [] X.env := by rfl) : DA K W X [e1, e2, e3, e4, e5, e6] (fCons f1 (fCons f2 (fCons f3 (fCons f4 (fCons f5 (fCons f6 fNil)))))) := (da_cons h1 (da_cons h2 (da_cons h3 (da_cons h4 (da_cons h5 (da_cons h6 da_nil s6) s5) s4) s3) s2) s1)
theorem ds_sF {OL O : List Nat} {i : Nat} {pos' : Pos} (hN : X.N.Nodup) (he : DE K W false X e f) (hi : X.N[i]? = some x := by rfl) (hx : Loc X.env.scope x := by first | exact Or.inl rfl | exact Or.inr rfl) (hs : swapsWith e (some (.Name x pos')) pos.line X.env = pure false := by rfl) (hf : X.fn x = true ∨ X.env.scope.names.lookup x = some .local := by first | exact .inl rfl | exact .inr rfl | assumption) :
    DS K W ro X OL O (aft false i O) (.Assign [.Name x pos'] e pos) (sSetB O i f) := ds_setB hN he hi hx hs hf
theorem ds_sT {OL O : List Nat} {i : Nat} {pos' : Pos} (hN : X.N.Nodup) (he : DE K W true X e f) (hi : X.N[i]? = some x := by rfl) (hx : Loc X.env.scope x := by first | exact Or.inl rfl | exact Or.inr rfl) (hs : swapsWith e (some (.Name x pos')) pos.line X.env = pure false := by rfl) (hf : X.fn x = true ∨ X.env.scope.names.lookup x = some .local := by first | exact .inl rfl | exact .inr rfl | assumption) :
    DS K W ro X OL O (aft true i O) (.Assign [.Name x pos'] e pos) (sSetB O i f) := ds_setB hN he hi hx hs hf
end
end L2
namespace L2
open PySem PySem.Spec PyProof.Rows
section
variable {K : PySem.W.Frag} {mg : Str → Option Value} {h : Heap} {C f : Addr} {x q : Str} {st : Stmt} {ps : List Str} {oc : Value} {od an : Option Addr} {osl : Array (Option Value)} {kV doc pm cdv ct : Value}
theorem dF (KX : K.In h) (G : h.Ns mainGlobals mg) (a : PySem.W.nsIn K mainGlobals x = some (some (.ref f)) := by k_is) (l : K.lookup f = some ⟨oc, od, .func (PySem.W.fnOf x x (defArgs st) (defBody st) (defScope st) .none kV doc pm an cdv ct), osl⟩ := by k_is) (c : PySem.W.codeIn K cdv x = true := by k_is) (k : PySem.W.keepIn K (.ref f) = true := by k_is)
    (hb : ∀ (kV doc pm : Value) (an : Option Addr) (cdv ct : Value) (us : List Value), us.length = ps.length → bindArgs (PySem.W.fnOf x x (defArgs st) (defBody st) (defScope st) .none kV doc pm an cdv ct) ⟨us, []⟩ = pure (ps.zip us) := by
      intro _ _ _ _ _ _ us hl; rcases us with _ | ⟨_, _ | ⟨_, _ | ⟨_, _ | ⟨_, _ | ⟨_, _ | ⟨_, _ | ⟨_, us⟩⟩⟩⟩⟩⟩⟩ <;> first | (simp at hl; done) | rfl) : ∃ f fd, Def K mg x st ps f fd := ⟨_, _, def_of KX G a l c k hb⟩
theorem mF (a : PySem.W.findIn K (.ref C) x = some (some (.ref f)) := by k_is) (i : PySem.W.isFn K (.ref f) = true := by k_is) (l : K.lookup f = some ⟨oc, od, .func (PySem.W.fnOf x q (defArgs st) (defBody st) (defScope st) .none kV doc pm an cdv ct), osl⟩ := by k_is) (c : PySem.W.codeIn K cdv q = true := by k_is) (k : PySem.W.keepIn K (.ref f) = true := by k_is)
    (hb : ∀ (kV doc pm : Value) (an : Option Addr) (cdv ct : Value) (us : List Value), us.length = ps.length → bindArgs (PySem.W.fnOf x q (defArgs st) (defBody st) (defScope st) .none kV doc pm an cdv ct) ⟨us, []⟩ = pure (ps.zip us) := by
      intro _ _ _ _ _ _ us hl; rcases us with _ | ⟨_, _ | ⟨_, _ | ⟨_, _ | ⟨_, _ | ⟨_, _ | ⟨_, _ | ⟨_, us⟩⟩⟩⟩⟩⟩⟩ <;> first | (simp at hl; done) | rfl) : ∃ f fd, Mth K C x q st ps f fd := ⟨_, _, mth_of a i l c k hb⟩
theorem kF (KX : K.In h) (G : h.Ns mainGlobals mg) (a : PySem.W.nsIn K mainGlobals x = some (some (.ref C)) := by k_is) (pg : PySem.W.plainGet K C Str.empty = true := by k_is) (hd : PySem.W.hasDictIn K C = true := by k_is) (po : PySem.W.plainOver K C = true := by k_is)
    (sa : PySem.W.findIn K (.ref C) "__setattr__" = some (some (.builtin "object.__setattr__")) := by k_is) (mk : PySem.W.makesIn K C = true := by k_is) (kp : PySem.W.keepIn K (.ref C) = true := by k_is)
    (c1 : PySem.W.findIn K (.ref C) "__class__" = some (some (.builtin "object.__class__")) := by k_is) (c2 : PySem.W.specialIn K (.builtin "object.__class__") "__get__" = some (some (.builtin "getset_descriptor.__get__")) := by k_is)
    (c3 : PySem.W.takesIn K (.builtin "object.__class__") = some true := by k_is) (c4 : PySem.W.mroIn K C (.type "object") = some true := by k_is) : Kls K mg x C := kls_of KX G a pg hd po sa mk kp c1 c2 c3 c4
theorem lF {y : Str} (KX : K.In h) (G : h.Ns mainGlobals mg) (a : PySem.W.nsIn K mainGlobals x = some (some (.ref f)) := by k_is) (l : K.lookup f = some ⟨oc, od, .func (PySem.W.fnOf x x (defArgs st) (defBody st) (defScope st) .none kV doc pm an cdv ct), osl⟩ := by k_is) (c : PySem.W.codeIn K cdv x = true := by k_is) (k : PySem.W.keepIn K (.ref f) = true := by k_is)
    (hb : ∀ (kV doc pm : Value) (an : Option Addr) (cdv ct : Value) (v : Value), bindArgs (PySem.W.fnOf x x (defArgs st) (defBody st) (defScope st) .none kV doc pm an cdv ct) ⟨[v], []⟩ = pure [(y, v)] := by intros; rfl) : ∃ f fd, Def K mg x st [y] f fd ∧ ∀ (s : Shared) (v : Value), BindsTo s fd ⟨[v], []⟩ [(y, v)] :=
  ⟨_, _, def_of KX G a l c k fun _ _ _ _ _ _ us hl => match us, hl with | [_], _ => hb .., fun _ _ => .of_eq (hb ..)⟩
theorem Fun.uniq {fd fd' : FuncData} (a : Fun K x q st f fd) (b : Fun K x q st f fd') : fd = fd' := by
  obtain ⟨oc, od, kV, doc, pm, an, cdv, ct, osl, rfl, lk, _⟩ := a.ex
  obtain ⟨oc', od', kV', doc', pm', an', cdv', ct', osl', rfl, lk', _⟩ := b.ex
  have e := lk.symm.trans lk'
  cases e
  rfl
theorem rS {mc : Value} (N : ∃ f fd, Mth K C x q st ps f fd) (a : PySem.W.findIn K (.ref C) x = some (some (.ref f)) := by k_is) (s1 : PySem.W.specialIn K (.ref C) "__getattribute__" = some (some (.builtin "type.__getattribute__")) := by first | k_is | kernel_rfl) (s2 : PySem.W.readsIn K C mc = true := by first | k_is | kernel_rfl)
    (s3 : PySem.W.findCls K (.ref C) mc x = some (.val (.ref f)) := by first | k_is | kernel_rfl) (s4 : PySem.W.keepIn K (.ref f) = true := by k_is) : ∃ f fd, Mth K C x q st ps f fd ∧ Stat K C mc x f := by
  obtain ⟨f', fd, M⟩ := N
  have e := M.mt.1.symm.trans a
  cases e
  exact ⟨_, fd, M, s1, s2, s3, s4⟩
end
end L2
namespace L2
open PySem PySem.Spec PyProof.Rows
noncomputable def strsD : List Dat → M (List Str)
  | [] => .ok []
  | .str x :: ds => (strsD ds).bind fun r => .ok (x :: r)
  | _ :: _ => stk
@[simp] theorem e_strs0 : strsD [] = .ok [] := id rfl
@[simp] theorem e_strs1 (x : Str) (ds : List Dat) : strsD (.str x :: ds) = (strsD ds).bind fun r => .ok (x :: r) := id rfl
noncomputable def isS : Dat → Bool
  | .str _ => true
  | _ => false
noncomputable def joinD : Dat → Dat → M Dat
  | .str sep, .lst ds => (strsD ds).bind fun xs => if (xs.map (·.length)).sum + xs.length * sep.length ≤ sizeLine then .ok (.str (Str.join sep xs)) else stk
  | _, _ => stk
@[simp] theorem e_joinD (sep : Str) (ds : List Dat) : joinD (.str sep) (.lst ds) = (strsD ds).bind fun xs => if (xs.map (·.length)).sum + xs.length * sep.length ≤ sizeLine then .ok (.str (Str.join sep xs)) else stk := id rfl
noncomputable def fSM (g : Dat → Dat → M Dat) (fo fe : Env' → M Dat) : Env' → M Dat := fun ρ => (fo ρ).bind fun a => if isS a = true then (fe ρ).bind fun b => g a b else stk
@[simp] theorem e_fSM (g : Dat → Dat → M Dat) (fo fe : Env' → M Dat) (ρ : Env') : fSM g fo fe ρ = (fo ρ).bind fun a => if isS a = true then (fe ρ).bind fun b => g a b else stk := id rfl
@[simp] theorem e_isS (x : Str) : isS (.str x) = true := id rfl
noncomputable def rSM (K : PySem.W.Frag) (W : Wish) (own : Bool) (g : Dat → Dat → M Dat) : V → List V → Hp → VK → Prop := fun x vs H Q => ∃ F z b y, Same F H ∧ x = .str z ∧ vs = [y] ∧ Deep K F b y ∧ Post K W own F H (g (.str z) b) Q
theorem joins_mono {M : Model} {A : Around} {E : Value → Shared → Prop} {Q R : Str → Shared → Prop} : ∀ {ps : List (Sem Value)} {acc : Str} {s : Shared}, Joins M A E ps acc Q s → (∀ z s, Q z s → R z s) → Joins M A E ps acc R s
  | [], acc, s, h, k => k _ _ h
  | x :: ps, acc, s, h, k => wpAny_mono h (fun v s1 ⟨y, t, e, l, q⟩ => ⟨y, t, e, l, joins_mono q k⟩) fun _ _ z => z
section
variable {X : Cx} {K : PySem.W.Frag} {W : Wish} {own : Bool} {o e : Expr} {fo fe : Env' → M Dat} {apos cpos : Pos} {name : Str} {id : String} {g : Dat → Dat → M Dat}
theorem de_sm (hm : MtR X id (rSM X.K W own g)) (slot : Slot "str" name id) (hty : typeOf (.builtin id) = pure (.type "method_descriptor")) (ho : DE K W false X o fo) (he : DE K W false X e fe) (hK : X.K = K := by rfl) (hbase : attributeBase o name X.env (eval o X.env) = eval o X.env := by rfl)
    (hfew : ((backTo cpos (starEach [e] X.env)).all (fun x => !x.1) && (backToKw cpos (keywordEach [] X.env)).all (fun x => x.1.isSome) && decide ([e].length + ([] : List Keyword).length + (if ([] : List Keyword).isEmpty then 0 else 1) < 30)) = true := by rfl)
    (hline : (apos.endLine == cpos.line) = true := by rfl) (hs : starEach [e] X.env = (false, eval e X.env) :: starEach [] X.env := by rfl) (hplain : (backTo cpos (starEach [] X.env)).any (·.1) = false := by rfl) :
    DE K W own X (.Call (.Attribute o name apos) [e] [] cpos) (fSM g fo fe) := by
  subst hK
  refine PE.imp (pe_bm PySem.F.plainAttrs_str slot hty hm ho (pa_cons he pa_nil (by rw [hs])) hbase hfew hline hs hplain) fun σ H Q h => ?_
  obtain ⟨F, ρ, r, s, p⟩ := h
  refine tD_run r s (fun e he => p.err (by unfold fSM; rw [he]; rfl)) fun a ha x F1 H1 s1 q1 => ?_
  have ez : fSM g fo fe ρ = if isS a = true then (fe ρ).bind fun b => g a b else stk := by unfold fSM; rw [ha]; rfl
  rw [ez] at p
  have p := p.step s1
  cases a with
  | str z =>
    have p : Post X.K W own F1 H1 ((fe ρ).bind fun b => g (.str z) b) Q := p
    cases (show x = V.str z from q1)
    refine ⟨rfl, ?_⟩
    refine tD_run (r.mono s1.ff) s1.fh (fun e he => p.err (by rw [he]; rfl)) fun b hb y F2 H2 s2 q2 => ?_
    rw [hb] at p
    exact ⟨F2, z, b, y, s2.fh, rfl, rfl, q2, p.step s2⟩
  | _ => exact Post.stuck p
theorem strs_deep {F : Hp} : ∀ {ds : List Dat} {xs : List V} {ss : List Str}, Deeps K F ds xs → strsD ds = .ok ss → xs = ss.map V.str
  | [], _, _, q, e => by cases e; exact q
  | d :: ds, _, ss, ⟨v, vs, e1, q, r⟩, e => by
    cases d with
    | str z =>
      cases e2 : strsD ds with
      | error x => rw [strsD, e2] at e; cases e
      | ok r2 =>
        rw [strsD, e2] at e
        cases e
        rw [e1, strs_deep r e2, show v = .str z from q]
        rfl
    | _ => cases e
theorem strsD_err : ∀ {ds : List Dat} {e : Err}, strsD ds = .error e → e = .stuck
  | [], _, h => by cases h
  | d :: ds, e, h => by
    cases d with
    | str z =>
      cases e2 : strsD ds with
      | error x => rw [strsD, e2] at h; cases h; exact strsD_err e2
      | ok r2 => rw [strsD, e2] at h; cases h
    | _ => cases h; rfl
theorem vals_strs : ∀ {ss : List Str} {us : List Value}, Vals (ss.map V.str) us → ∃ l : List (Str × Tok), us = strValues l ∧ l.map (·.1) = ss
  | [], _, .nil => ⟨[], rfl, rfl⟩
  | x :: ss, _, .cons r rs => by
    obtain ⟨t, rfl⟩ := (show ∃ t, _ = Value.str x t from r)
    obtain ⟨l, rfl, e⟩ := vals_strs rs
    exact ⟨(x, t) :: l, rfl, by rw [List.map_cons, e]⟩
theorem mt_join : MtR X "str.join" (rSM X.K W own joinD) := by
  intro pins s σ H x vs v us Q I rx rv h
  obtain ⟨F, sep, b, y, sF, rfl, rfl, qb, p⟩ := h
  obtain ⟨u, rfl, ru⟩ := rv.one
  obtain ⟨t, rfl⟩ := (show ∃ t, v = Value.str sep t from rx)
  cases b with
  | lst ds =>
    obtain ⟨l, xs, rfl, q, z⟩ := qb
    cases ru
    cases e1 : strsD ds with
    | error e => rw [joinD, e1] at p; rw [strsD_err e1] at p; exact Post.stuck p
    | ok ss =>
      rw [joinD, e1] at p
      have p : Post X.K W own F H (if (ss.map (·.length)).sum + ss.length * sep.length ≤ sizeLine then .ok (.str (Str.join sep ss)) else stk) Q := p
      have hx := strs_deep z e1
      subst hx
      obtain ⟨its, r, pl, hz⟩ := I.list (sF.lst q)
      obtain ⟨L, rfl, rfl⟩ := vals_strs r
      by_cases hl : ((L.map (·.1)).map (·.length)).sum + (L.map (·.1)).length * sep.length ≤ sizeLine
      · rw [if_pos hl] at p
        have hq := p.str sF
        refine call_meets PySem.F.slot_str_join (typeIs_str _ _ _) PySem.F.entry_str_join (PySem.F.args_str_join_2 _ _) (meets_str_join_list sep t l L (by rw [StrLaws.joinTotal]; exact decide_eq_false (Nat.not_lt.mpr hl))) ⟨pl.isList, ?_⟩
        have hg : (Builtin.Str.glued sep (L.map (·.1))).length ≤ sizeLine := by
          rw [size_glued]
          have := Nat.mul_le_mul_right sep.length (Nat.sub_le (L.map (·.1)).length 1)
          omega
        have e := StrLaws.glued_eq_join sep (L.map (·.1))
        match L, hq, hg, e with
        | [], hq, hg, e => exact ⟨hg, .str _, H, I.tok _, ⟨_, rfl⟩, by rw [e]; exact hq⟩
        | [p], hq, _, _ => exact ⟨.str _, H, I, ⟨_, rfl⟩, hq⟩
        | p1 :: p2 :: L, hq, hg, e => exact ⟨hg, .str _, H, I.tok _, ⟨_, rfl⟩, by rw [e]; exact hq⟩
      · rw [if_neg hl] at p
        exact Post.stuck p
  | _ => exact Post.stuck p
noncomputable def itoa (i : Int) : Str := toString i
noncomputable def strD : List Dat → M Dat
  | [.int i] => if i.natAbs.log2 < 1920 then .ok (.str (itoa i)) else stk
  | _ => stk
@[simp] theorem e_strD (i : Int) : strD [.int i] = if i.natAbs.log2 < 1920 then .ok (.str (itoa i)) else stk := rfl
theorem c_str : CallD K W own X (.type "str") strD := call_str_int.imp fun xs H Q h => by
  obtain ⟨F, d, x, s, e, q, p⟩ := one_arg (fun ds => by match ds with | [d] => exact .inl ⟨d, rfl⟩ | [] => exact .inr rfl | a :: b :: c => exact .inr (by cases a <;> rfl)) h
  cases d with
  | int i =>
    have p : Post K W own F H (if i.natAbs.log2 < 1920 then .ok (.str (itoa i)) else stk) Q := p
    by_cases hl : i.natAbs.log2 < 1920
    · rw [if_pos hl] at p
      exact ⟨i, by rw [e, show x = .int i from q], hl, p.str s⟩
    · rw [if_neg hl] at p
      exact Post.stuck p
  | _ => exact Post.stuck p
noncomputable def ixSD : Dat → Dat → M Dat
  | .str z, .int i => if z.length ≤ sizeLine then (match atI z.cps.toList i with
    | some c => .ok (.str ⟨#[c]⟩)
    | none => stk) else stk
  | _, _ => stk
theorem x_ixS : IxR X (rD2 K W own ixSD) := ix_str.imp fun x y H Q h => by
  obtain ⟨F, a, b, s, qa, qb, p⟩ := h
  cases a with
  | str z => cases b with
    | int i =>
      have p : Post K W own F H (if z.length ≤ sizeLine then (match atI z.cps.toList i with
        | some c => .ok (.str ⟨#[c]⟩)
        | none => stk) else stk) Q := p
      by_cases hl : z.length ≤ sizeLine
      · rw [if_pos hl] at p
        cases hc : atI z.cps.toList i with
        | none => rw [hc] at p; exact Post.stuck p
        | some c => rw [hc] at p; exact ⟨z, i, c, qa, qb, hl, hc, p.str s⟩
      · rw [if_neg hl] at p
        exact Post.stuck p
    | _ => exact Post.stuck p
  | _ => exact Post.stuck p
noncomputable def fmtD : Dat → M Dat
  | .int i => if i.natAbs.log2 < 1920 then .ok (.str (itoa i)) else stk
  | .str z => if z.length ≤ sizeLine then .ok (.str z) else stk
  | _ => stk
@[simp] theorem e_fmtI (i : Int) : fmtD (.int i) = if i.natAbs.log2 < 1920 then .ok (.str (itoa i)) else stk := rfl
@[simp] theorem e_fmtS (z : Str) : fmtD (.str z) = if z.length ≤ sizeLine then .ok (.str z) else stk := rfl
theorem de_fmt {pos : Pos} (he : DE K W false X e fe) : DE K W own X (.FormattedValue e (-1) none pos) (f1 fmtD fe) := by
  intro pins s σ H Q I h
  obtain ⟨F, ρ, r, sF, p⟩ := h
  refine wpAny_FormattedValue_plain (thn (he pins s σ H (fun v H1 => ∃ a F1, fe ρ = .ok a ∧ Step F H F1 H1 ∧ Deep K F1 a v) I (tD_run r sF (fun e he => p.err (by show (fe ρ).bind fmtD = _; rw [he]; rfl)) fun a ha v F1 H1 s1 q1 => ⟨a, F1, ha, s1, q1⟩)) fun v s1 ⟨x, H1, I1, r1, a, F1, ha, st, q⟩ => ?_)
  have p : Post K W own F H (fmtD a) Q := by
    have p : Post K W own F H ((fe ρ).bind fmtD) Q := p
    rw [ha] at p
    exact p
  have p := p.step st
  cases a with
  | int i =>
    have p : Post K W own F1 H1 (if i.natAbs.log2 < 1920 then .ok (.str (itoa i)) else stk) Q := p
    cases (show x = V.int i from q)
    obtain ⟨t, rfl⟩ := (show ∃ t, v = Value.int i t from r1)
    by_cases hl : i.natAbs.log2 < 1920
    · rw [if_pos hl] at p
      exact wpAny_formatField_int hl ⟨.str (itoa i), H1, (I1.tok _).tok _, ⟨_, rfl⟩, p.str st.fh⟩
    · rw [if_neg hl] at p
      exact Post.stuck p
  | str z =>
    have p : Post K W own F1 H1 (if z.length ≤ sizeLine then .ok (.str z) else stk) Q := p
    cases (show x = V.str z from q)
    obtain ⟨t, rfl⟩ := (show ∃ t, v = Value.str z t from r1)
    by_cases hl : z.length ≤ sizeLine
    · rw [if_pos hl] at p
      have hq := p.str st.fh
      exact wpAny_formatField_str ⟨.str z, H1, I1, ⟨_, rfl⟩, hq⟩ ⟨.str z, H1, I1.tok _, ⟨_, rfl⟩, hq⟩ hl
    · rw [if_neg hl] at p
      exact Post.stuck p
  | _ => exact Post.stuck p
noncomputable def joins (fs : List (Env' → M Dat)) (ρ : Env') : Str → M Str := match fs with
  | [] => fun acc => .ok acc
  | f :: fs => fun acc => (f ρ).bind fun d => match d with
    | .str z => if (acc ++ z).length ≤ sizeLine then joins fs ρ (acc ++ z) else stk
    | _ => stk
noncomputable def fJ (fs : List (Env' → M Dat)) : Env' → M Dat := fun ρ => (joins fs ρ Str.empty).bind fun z => .ok (.str z)
noncomputable def tJ (K : PySem.W.Frag) (W : Wish) (fs : List (Env' → M Dat)) (acc : Str) (σ : St) (H : Hp) (Q : Str → Hp → Prop) : Prop := ∃ F ρ, RepE K F σ ρ ∧ Same F H ∧ (match joins fs ρ acc with
  | .ok z => ∀ F' H', Step F H F' H' → Q z H'
  | .error e => W.p e F H)
noncomputable def DJ (K : PySem.W.Frag) (W : Wish) (X : Cx) (es : List Expr) (fs : List (Env' → M Dat)) : Prop := ∀ (pins : List (Addr × Obj)) (s : Shared) (σ : St) (H : Hp) (acc : Str) (Q : Str → Hp → Prop), acc.length ≤ sizeLine → Inv X pins σ H s → tJ K W fs acc σ H Q →
  Joins (model X.prog X.w) X.A X.xe (evalEach es X.env) acc (fun out s1 => out.length ≤ sizeLine ∧ ∃ H1, Inv X pins σ H1 s1 ∧ Q out H1) s
theorem dj_nil (hs : evalEach [] X.env = [] := by rfl) : DJ K W X [] [] := fun pins s σ H acc Q ha I ⟨F, ρ, r, sF, p⟩ => by rw [hs]; exact ⟨ha, H, I, p F H (Step.refl sF)⟩
theorem dj_cons {es : List Expr} {fs : List (Env' → M Dat)} (he : DE K W false X e fe) (hr : DJ K W X es fs) (hs : evalEach (e :: es) X.env = eval e X.env :: evalEach es X.env := by rfl) : DJ K W X (e :: es) (fe :: fs) := fun pins s σ H acc Q ha I ⟨F, ρ, r, sF, p⟩ => by
  rw [hs]
  have p : (match (fe ρ).bind (fun d => match d with
    | .str z => if (acc ++ z).length ≤ sizeLine then joins fs ρ (acc ++ z) else stk
    | _ => stk) with
    | .ok z => ∀ F' H', Step F H F' H' → Q z H'
    | .error e => W.p e F H) := p
  refine thn (he pins s σ H (fun v H1 => ∃ a F1, fe ρ = .ok a ∧ Step F H F1 H1 ∧ Deep K F1 a v) I (tD_run r sF (fun e he => by rw [he] at p; exact p) fun a ha v F1 H1 s1 q1 => ⟨a, F1, ha, s1, q1⟩)) fun v s1 ⟨x, H1, I1, r1, a, F1, ea, st, q⟩ => ?_
  rw [ea] at p
  cases a with
  | str z =>
    cases (show x = V.str z from q)
    obtain ⟨t, rfl⟩ := (show ∃ t, v = Value.str z t from r1)
    have p : (match (if (acc ++ z).length ≤ sizeLine then joins fs ρ (acc ++ z) else stk) with
      | .ok z => ∀ F' H', Step F H F' H' → Q z H'
      | .error e => W.p e F H) := p
    by_cases hl : (acc ++ z).length ≤ sizeLine
    · rw [if_pos hl] at p
      refine ⟨z, t, rfl, hl, hr pins s1 σ H1 (acc ++ z) Q hl I1 ⟨F1, ρ, r.mono st.ff, st.fh, ?_⟩⟩
      cases e1 : joins fs ρ (acc ++ z) with
      | ok y => rw [e1] at p; exact fun F' H' s' => p F' H' (st.trans s')
      | error e => rw [e1] at p; exact W.mono p st
    · rw [if_neg hl] at p
      exact (W.ns p).elim
  | _ => exact (W.ns p).elim
theorem de_fstr {e1 e2 : Expr} {es : List Expr} {fs : List (Env' → M Dat)} {pos : Pos} (h : DJ K W X (e1 :: e2 :: es) fs) : DE K W own X (.JoinedStr (e1 :: e2 :: es) pos) (fJ fs) := by
  intro pins s σ H Q I ⟨F, ρ, r, sF, p⟩
  have p : Post K W own F H ((joins fs ρ Str.empty).bind fun z => .ok (.str z)) Q := p
  refine wpAny_JoinedStr ?_
  refine joins_mono (h pins s σ H Str.empty (fun z H1 => Q (.str z) H1) (by decide) I ⟨F, ρ, r, sF, ?_⟩) fun out s1 ⟨hl, H1, I1, q⟩ => ⟨hl, .str out, H1, I1.tok _, ⟨_, rfl⟩, q⟩
  cases e1 : joins fs ρ Str.empty with
  | ok z => rw [e1] at p; exact fun F' H' s' => (p.step s').str s'.fh
  | error e => rw [e1] at p; exact p
end
end L2
namespace L2
open PySem PySem.Spec PyProof.Rows
noncomputable def spIS (K : PySem.W.Frag) (C : Addr) (g : List Dat → M Dat) : Sp := fun vs H Q _ => ∃ (p dx b0 b1 b2 b3 : Addr) (vr : V) (y0 y1 y2 y3 : List V) (F : Hp) (d0 d1 d2 d3 : List Dat) (dr : Dat) (z : Str),
  vs = [.ref p, .ref b0, vr, .ref b1, .ref b2, .ref b3] ∧ H p = some (.ins C dx []) ∧ F p = none ∧ Same F H ∧ (SqL K F b0 y0 ∧ Deeps K F d0 y0) ∧ Deep K F dr vr ∧ (SqL K F b1 y1 ∧ Deeps K F d1 y1) ∧ (SqL K F b2 y2 ∧ Deeps K F d2 y2) ∧ (SqL K F b3 y3 ∧ Deeps K F d3 y3) ∧
  g [.lst d0, dr, .lst d1, .lst d2, .lst d3] = .ok (.str z) ∧ ∀ (l0 l1 l2 l3 : Addr) (H' : Hp), (∀ c o, H c = some o → c ≠ p → H' c = some o) → H l0 = none → H l1 = none → H l2 = none → H l3 = none → H' l0 = some (.lst y0) → H' l1 = some (.lst y1) → H' l2 = some (.lst y2) → H' l3 = some (.lst y3) →
    H' p = some (.ins C dx [("kinds", .ref l0), ("rules", vr), ("names", .ref l1), ("flights", .ref l2), ("closed", .ref l3), ("text", .str z)]) → Q .non H'
theorem Step.own {F H F1 H1 : Hp} (s : Step F H F1 H1) {l : Addr} {o : HO} (h0 : H l = none) (h1 : H1 l = some o) : Step F H (upd F1 l o) H1 where
  ff := fun b u e => by
    by_cases hb : b = l
    · subst hb
      rw [upd_same, ← h1, s.fh _ _ (s.ff _ _ e)]
    · rw [upd_ne hb]; exact s.ff _ _ e
  hh := s.hh
  fh := fun b u e => by
    by_cases hb : b = l
    · subst hb; rw [upd_same] at e; rw [h1]; exact e
    · rw [upd_ne hb] at e; exact s.fh _ _ e
  nw := fun b u e => by
    by_cases hb : b = l
    · subst hb; exact .inr h0
    · rw [upd_ne hb] at e; exact s.nw _ _ e
theorem Step.own_ff {F H F1 H1 : Hp} (s : Step F H F1 H1) {l : Addr} {o : HO} (h1 : H1 l = some o) : Same F1 (upd F1 l o) := fun b u e => by
  by_cases hb : b = l
  · subst hb
    rw [upd_same, ← h1, s.fh _ _ e]
  · rw [upd_ne hb]; exact e
theorem born_S {K : PySem.W.Frag} {F H1 H' : Hp} {C x dx m0 m1 m2 m3 : Addr} {vr : V} {y0 y1 y2 y3 : List V} {d0 d1 d2 d3 : List Dat} {dr : Dat} {t : Str} (s1 : Same F H1) (hx : H1 x = none) (hdx : H1 dx = none) (c0 : Deeps K F d0 y0) (qr : Deep K F dr vr) (c1 : Deeps K F d1 y1) (c2 : Deeps K F d2 y2) (c3 : Deeps K F d3 y3)
    (k0 : ∀ c o, upd (upd H1 dx (.own x)) x (.ins C dx []) c = some o → c ≠ x → H' c = some o) (n0 : upd (upd H1 dx (.own x)) x (.ins C dx []) m0 = none) (n1 : upd (upd H1 dx (.own x)) x (.ins C dx []) m1 = none) (n2 : upd (upd H1 dx (.own x)) x (.ins C dx []) m2 = none) (n3 : upd (upd H1 dx (.own x)) x (.ins C dx []) m3 = none)
    (k1 : H' m0 = some (.lst y0)) (k2 : H' m1 = some (.lst y1)) (k3 : H' m2 = some (.lst y2)) (k4 : H' m3 = some (.lst y3)) (k5 : H' x = some (.ins C dx [("kinds", .ref m0), ("rules", vr), ("names", .ref m1), ("flights", .ref m2), ("closed", .ref m3), ("text", .str t)])) :
    ∃ G, Step F H1 G H' ∧ Deep K G (.ins C [("kinds", .lst d0), ("rules", dr), ("names", .lst d1), ("flights", .lst d2), ("closed", .lst d3), ("text", .str t)]) (.ref x) := by
  have old : ∀ {c : Addr}, upd (upd H1 dx (.own x)) x (.ins C dx []) c = none → H1 c = none := fun {c} h => by
    cases hc : H1 c with
    | none => rfl
    | some o =>
      have h1 : c ≠ x := fun h => by rw [h, hx] at hc; cases hc
      have h2 : c ≠ dx := fun h => by rw [h, hdx] at hc; cases hc
      rw [upd_ne h1, upd_ne h2, hc] at h
      cases h
  have g1 : Same H1 H' := fun c o e => by
    have h1 : c ≠ x := fun h => by rw [h, hx] at e; cases e
    have h2 : c ≠ dx := fun h => by rw [h, hdx] at e; cases e
    exact k0 c o (by rw [upd_ne h1, upd_ne h2]; exact e) h1
  have S0 : Step F H1 F H' := ⟨Same.refl _, g1, s1.trans g1, fun _ _ h => .inl h⟩
  have S1 := S0.own (old n0) k1
  have S2 := S1.own (old n1) k2
  have S3 := S2.own (old n2) k3
  have S4 := S3.own (old n3) k4
  have S5 := S4.own hx k5
  have at5 : ∀ {l : Addr} {o : HO}, upd (upd (upd (upd F m0 (.lst y0)) m1 (.lst y1)) m2 (.lst y2)) m3 (.lst y3) l = some o → upd (upd (upd (upd (upd F m0 (.lst y0)) m1 (.lst y1)) m2 (.lst y2)) m3 (.lst y3)) x (.ins C dx [("kinds", .ref m0), ("rules", vr), ("names", .ref m1), ("flights", .ref m2), ("closed", .ref m3), ("text", .str t)]) l = some o := fun {l o} h => S4.own_ff k5 l o h
  have r0 := at5 (S3.own_ff k4 _ _ (S2.own_ff k3 _ _ (S1.own_ff k2 m0 _ upd_same)))
  have r1 := at5 (S3.own_ff k4 _ _ (S2.own_ff k3 m1 _ upd_same))
  have r2 := at5 (S3.own_ff k4 m2 _ upd_same)
  have r3 := at5 (l := m3) upd_same
  exact ⟨_, S5, x, dx, _, rfl, upd_same, _, _, rfl, ⟨m0, y0, rfl, SqL.of r0, Deeps.mono S5.ff c0⟩, _, _, rfl, Deep.mono S5.ff qr, _, _, rfl, ⟨m1, y1, rfl, SqL.of r1, Deeps.mono S5.ff c1⟩, _, _, rfl, ⟨m2, y2, rfl, SqL.of r2, Deeps.mono S5.ff c2⟩, _, _, rfl, ⟨m3, y3, rfl, SqL.of r3, Deeps.mono S5.ff c3⟩, _, _, rfl, rfl, rfl⟩
noncomputable def RLst (K : PySem.W.Frag) : List V → Hp → VK → Prop := fun xs H Q => ∃ p ys, xs = [.ref p] ∧ (SqL K H p ys ∨ SqT K H p ys) ∧ ∀ l, H l = none → Q (.ref l) (upd H l (.lst ys))
theorem putF_new (f : Str) (v : V) : ∀ fs : List (Str × V), f ∉ fs.map (·.1) → putF f v fs = fs ++ [(f, v)]
  | [], _ => rfl
  | (g, x) :: r, h => by
    have h1 : ¬ g = f := fun e => h (by simp [e])
    have h2 : f ∉ r.map (·.1) := fun e => h (by simp at e ⊢; exact .inr e)
    show (if g = f then _ else _) = _
    rw [if_neg h1, putF_new f v r h2]
    rfl
structure Cu (F H Hc : Hp) (p C dx : Addr) (fs : List (Str × V)) : Prop where
  f0 : F p = none
  sf : Same F Hc
  kp : ∀ c o, H c = some o → c ≠ p → Hc c = some o
  ob : Hc p = some (.ins C dx fs)
section
variable {K : PySem.W.Frag} {F H Hc : Hp} {p C dx : Addr} {fs : List (Str × V)} {f : Str} {D : Ends} {σ : St} {i : Nat}
theorem Cu.put (c : Cu F H Hc p C dx fs) (f : Str) (v : V) : Cu F H (upd Hc p (.ins C dx (fs ++ [(f, v)]))) p C dx (fs ++ [(f, v)]) where
  f0 := c.f0
  sf := fun b u e => by
    have : b ≠ p := fun z => by rw [z, c.f0] at e; cases e
    rw [upd_ne this]; exact c.sf _ _ e
  kp := fun b o e hb => by rw [upd_ne hb]; exact c.kp b o e hb
  ob := upd_same
theorem Cu.lay (c : Cu F H Hc p C dx fs) {l : Addr} {o : HO} (hl : Hc l = none) : Cu F H (upd Hc l o) p C dx fs where
  f0 := c.f0
  sf := fun b u e => by
    have : b ≠ l := fun z => by rw [z, c.sf.free hl] at e; cases e
    rw [upd_ne this]; exact c.sf _ _ e
  kp := fun b u e hb => by
    have h1 := c.kp b u e hb
    have : b ≠ l := fun z => by rw [z, hl] at h1; cases h1
    rw [upd_ne this]; exact h1
  ob := by
    have : p ≠ l := fun z => by have h := c.ob; rw [z, hl] at h; cases h
    rw [upd_ne this]; exact c.ob
theorem Cu.new (c : Cu F H Hc p C dx fs) {l : Addr} (hl : Hc l = none) : H l = none := by
  cases h : H l with
  | none => rfl
  | some o =>
    have : l ≠ p := fun z => by have h := c.ob; rw [← z, hl] at h; cases h
    rw [c.kp l o h this] at hl
    cases hl
theorem Cu.list (c : Cu F H Hc p C dx fs) (cl : Cls K C) (na : NoAttr K C f) (hn : f ∉ fs.map (·.1)) (hf : fs.length < 1000) (h0 : σ[0]? = some (some (.ref p))) {b : Addr} {y : List V} (hi : σ[i]? = some (some (.ref b))) (q : SqL K F b y)
    (next : ∀ l Hn, H l = none → Cu F H Hn p C dx (fs ++ [(f, .ref l)]) → Hn l = some (.lst y) → (∀ m o, Hc m = some o → m ≠ p → Hn m = some o) → D.nx σ Hn) : sFld K (tVar 0) (tCB (RLst K) (tCons (tVar i) tNil)) f D σ Hc := by
  refine ⟨.ref b, hi, b, y, rfl, .inl (c.sf.lst q), fun l hl => ⟨.ref p, h0, p, C, dx, fs, rfl, (c.lay hl).ob, cl, na, hf, ?_⟩⟩
  rw [putF_new f _ fs hn]
  have hlp : l ≠ p := fun z => by have h := c.ob; rw [← z, hl] at h; cases h
  refine next l _ (c.new hl) ((c.lay hl).put f (.ref l)) (by rw [upd_ne hlp, upd_same]) fun m o e hm => ?_
  have : m ≠ l := fun z => by rw [z, hl] at e; cases e
  rw [upd_ne hm, upd_ne this]; exact e
end
theorem rs_initS {K : PySem.W.Frag} {C : Addr} {g : List Dat → M Dat} {vs : List V} {H : Hp} {Q : VK} {E : XK} {E' : XK} (cl : Cls K C) (na : ∀ y ∈ (["kinds", "rules", "names", "flights", "closed", "text"] : List Str), NoAttr K C y) (h : spIS K C g vs H Q E) :
    tSeq (sFld K (tVar 0) (tCB (RLst K) (tCons (tVar 1) tNil)) "kinds") (tSeq (sFld K (tVar 0) (tVar 2) "rules") (tSeq (sFld K (tVar 0) (tCB (RLst K) (tCons (tVar 3) tNil)) "names") (tSeq (sFld K (tVar 0) (tCB (RLst K) (tCons (tVar 4) tNil)) "flights")
      (tSeq (sFld K (tVar 0) (tCB (RLst K) (tCons (tVar 5) tNil)) "closed") (sFld K (tVar 0) (tCall (spF K false g 5) [] E' (tCons (tVar 1) (tCons (tVar 2) (tCons (tVar 3) (tCons (tVar 4) (tCons (tVar 5) tNil)))))) "text")))))
      { nx := fun _ H' => Q .non H', rt := Q } (start ["self", "kinds", "rules", "names", "flights", "closed"] vs) H := by
  obtain ⟨p, dx, b0, b1, b2, b3, vr, y0, y1, y2, y3, F, d0, d1, d2, d3, dr, z, rfl, hp, hF, sF, ⟨q0, c0⟩, qr, ⟨q1, c1⟩, ⟨q2, c2⟩, ⟨q3, c3⟩, hz, q⟩ := h
  have C0 : Cu F H H p C dx [] := ⟨hF, sF, fun _ _ e _ => e, hp⟩
  refine C0.list cl (na _ (by simp)) (by simp) (by decide) rfl rfl q0 fun l0 H1 n0 C1 a0 k1 => ?_
  refine ⟨vr, rfl, .ref p, rfl, p, C, dx, _, rfl, C1.ob, cl, na _ (by simp), by simp, ?_⟩
  rw [putF_new _ vr _ (by show ("rules" : Str) ∉ (["kinds"] : List Str); decide +kernel)]
  have C2 := C1.put "rules" vr
  have e0 : ∀ {l : Addr}, H l = none → l ≠ p := fun {l} h z => by rw [z, hp] at h; cases h
  have k2 : ∀ m o, H1 m = some o → m ≠ p → upd H1 p (.ins C dx ((([] : List (Str × V)) ++ [(("kinds" : Str), V.ref l0)]) ++ [(("rules" : Str), vr)])) m = some o := fun m o e hm => by rw [upd_ne hm]; exact e
  refine C2.list cl (na _ (by simp)) (by show ("names" : Str) ∉ (["kinds", "rules"] : List Str); decide +kernel) (by simp) rfl rfl q1 fun l1 H3 n1 C3 a1 k3 => ?_
  refine C3.list cl (na _ (by simp)) (by show ("flights" : Str) ∉ (["kinds", "rules", "names"] : List Str); decide +kernel) (by simp) rfl rfl q2 fun l2 H4 n2 C4 a2 k4 => ?_
  refine C4.list cl (na _ (by simp)) (by show ("closed" : Str) ∉ (["kinds", "rules", "names", "flights"] : List Str); decide +kernel) (by simp) rfl rfl q3 fun l3 H5 n3 C5 a3 k5 => ?_
  refine ⟨.ref b0, rfl, vr, rfl, .ref b1, rfl, .ref b2, rfl, .ref b3, rfl, F, [.lst d0, dr, .lst d1, .lst d2, .lst d3], C5.sf, ⟨_, _, rfl, ⟨b0, y0, rfl, q0, c0⟩, _, _, rfl, qr, _, _, rfl, ⟨b1, y1, rfl, q1, c1⟩, _, _, rfl, ⟨b2, y2, rfl, q2, c2⟩, _, _, rfl, ⟨b3, y3, rfl, q3, c3⟩, rfl⟩, rfl, ?_⟩
  rw [hz]
  intro v F' H' st hv
  cases (show v = .str z from hv)
  refine ⟨.ref p, rfl, p, C, dx, _, rfl, st.hh _ _ C5.ob, cl, na _ (by simp), by simp, ?_⟩
  rw [putF_new _ _ _ (by show ("text" : Str) ∉ (["kinds", "rules", "names", "flights", "closed"] : List Str); decide +kernel)]
  have all : ∀ m o, H5 m = some o → m ≠ p → upd H' p (.ins C dx (((((([] : List (Str × V)) ++ [(("kinds" : Str), V.ref l0)]) ++ [(("rules" : Str), vr)]) ++ [(("names" : Str), V.ref l1)]) ++ [(("flights" : Str), V.ref l2)]) ++ [(("closed" : Str), V.ref l3)] ++ [(("text" : Str), V.str z)])) m = some o := fun m o e hm => by rw [upd_ne hm]; exact st.hh _ _ e
  exact q l0 l1 l2 l3 _ (fun c o e hc => all c o (C5.kp c o e hc) hc) n0 n1 n2 n3 (all _ _ (k5 _ _ (k4 _ _ (k3 _ _ (k2 _ _ a0 (e0 n0)) (e0 n0)) (e0 n0)) (e0 n0)) (e0 n0)) (all _ _ (k5 _ _ (k4 _ _ a1 (e0 n1)) (e0 n1)) (e0 n1)) (all _ _ (k5 _ _ a2 (e0 n2)) (e0 n2)) (all _ _ a3 (e0 n3)) upd_same
theorem isi1 {P : Addr → Bool → Prop} {C1 : Addr} {b1 : Bool} (h1 : P C1 b1) : ∀ C b, List.lookup C [(C1, b1)] = some b → P C b := fun C b h => by
  rw [List.lookup_cons] at h
  cases e : C == C1 with
  | true =>
    rw [e] at h
    cases h
    rw [beq_iff_eq.mp e]
    exact h1
  | false => rw [e] at h; cases h
end L2
namespace L2
open PySem PySem.Spec PyProof.Rows
structure Lent (K : PySem.W.Frag) (H0 G H : Hp) (hh : Addr) (bs : List Addr) (ys : List (List V)) (ds : List (List Dat)) : Prop where
  sg : Same G H
  s0 : Same H0 H
  top : H hh = some (.lst (bs.map .ref))
  gh : G hh = none
  h0 : H0 hh = none
  nt : hh ∉ bs
  own : ∀ (j : Nat) (b : Addr), bs[j]? = some b → G b = none ∧ H0 b = none ∧ ∃ y d, ys[j]? = some y ∧ ds[j]? = some d ∧ H b = some (.lst y) ∧ Deeps K G d y
section
variable {K : PySem.W.Frag} {H0 G H : Hp} {hh : Addr} {bs : List Addr} {ys : List (List V)} {ds : List (List Dat)}
theorem Lent.step {G' H' : Hp} (l : Lent K H0 G H hh bs ys ds) (s : Step G H G' H') : Lent K H0 G' H' hh bs ys ds where
  sg := s.fh
  s0 := l.s0.trans s.hh
  top := s.hh _ _ l.top
  gh := by
    cases e : G' hh with
    | none => rfl
    | some o =>
      rcases s.nw _ _ e with z | z
      · rw [l.gh] at z; cases z
      · rw [l.top] at z; cases z
  h0 := l.h0
  nt := l.nt
  own := fun j b e => by
    obtain ⟨h1, h2, y, d, h3, h4, h5, h6⟩ := l.own j b e
    refine ⟨?_, h2, y, d, h3, h4, s.hh _ _ h5, Deeps.mono s.ff h6⟩
    cases e : G' b with
    | none => rfl
    | some o =>
      rcases s.nw _ _ e with z | z
      · rw [h1] at z; cases z
      · rw [h5] at z; cases z
open Classical in
noncomputable def lentF (G H : Hp) (hh : Addr) (bs : List Addr) : Hp := fun b => if b = hh ∨ b ∈ bs then H b else G b
theorem Lent.ff (l : Lent K H0 G H hh bs ys ds) : Same G (lentF G H hh bs) := fun b o e => by
  unfold lentF
  by_cases h : b = hh ∨ b ∈ bs
  · exfalso
    rcases h with h | h
    · rw [h, l.gh] at e; cases e
    · obtain ⟨j, hj, rfl⟩ := List.getElem_of_mem h
      rw [(l.own j bs[j] (by simp [hj])).1] at e; cases e
  · rw [if_neg h]; exact e
theorem Lent.fh (l : Lent K H0 G H hh bs ys ds) : Same (lentF G H hh bs) H := fun b o e => by
  unfold lentF at e
  by_cases h : b = hh ∨ b ∈ bs
  · rw [if_pos h] at e; exact e
  · rw [if_neg h] at e; exact l.sg _ _ e
theorem Lent.deeps (l : Lent K H0 G H hh bs ys ds) (hl : bs.length = ds.length) : Deep K (lentF G H hh bs) (.lst (ds.map .lst)) (.ref hh) := by
  have h1 : lentF G H hh bs hh = some (.lst (bs.map .ref)) := by unfold lentF; rw [if_pos (.inl rfl)]; exact l.top
  refine ⟨hh, bs.map .ref, rfl, SqL.of h1, ?_⟩
  have : ∀ (n : Nat) (cs : List Addr) (es : List (List Dat)), cs.length = n → es.length = n → (∀ (j : Nat) (b : Addr) (d : List Dat), cs[j]? = some b → es[j]? = some d → Deep K (lentF G H hh bs) (.lst d) (.ref b)) → Deeps K (lentF G H hh bs) (es.map .lst) (cs.map .ref) := by
    intro n
    induction n with
    | zero => intro cs es h1 h2 _; rw [List.length_eq_zero_iff.mp h1, List.length_eq_zero_iff.mp h2]; rfl
    | succ n ih =>
      intro cs es h1 h2 h3
      obtain ⟨c, cs, rfl⟩ := List.exists_cons_of_length_eq_add_one h1
      obtain ⟨e, es, rfl⟩ := List.exists_cons_of_length_eq_add_one h2
      exact ⟨.ref c, cs.map .ref, rfl, h3 0 c e rfl rfl, ih cs es (by simpa using h1) (by simpa using h2) fun j b d e1 e2 => h3 (j + 1) b d (by simpa using e1) (by simpa using e2)⟩
  refine this _ bs ds rfl hl.symm fun j b d e1 e2 => ?_
  obtain ⟨_, _, y, d', _, h4, h5, h6⟩ := l.own j b e1
  rw [e2] at h4
  cases h4
  refine ⟨b, y, rfl, SqL.of ?_, Deeps.mono l.ff h6⟩
  unfold lentF
  rw [if_pos (.inr (List.mem_of_getElem? e1))]
  exact h5
theorem rs_clears {so h : Nat} {D : Ends} {σ : St} (l : Lent K H0 G H hh bs ys ds) (hh' : σ[h]? = some (some (.ref hh))) (hso : so < σ.length)
    (next : ∀ σ' H', σ'.length = σ.length → (∀ j, j ≠ so → σ'[j]? = σ[j]?) → Same G H' → Same H0 H' → D.nx σ' H') : tFor (iSeq K (tVar h)) (gName so) (tDrop (tBM0 K "list" rClear (tVar so))) D σ H := by
  have hb : ∀ b ∈ bs, G b = none ∧ H0 b = none := fun b h => by
    obtain ⟨j, hj, rfl⟩ := List.getElem_of_mem h
    have := l.own j bs[j] (by simp [hj])
    exact ⟨this.1, this.2.1⟩
  refine ⟨.ref hh, hh', hh, rfl, .inl ⟨⟨_, SqL.of l.top⟩, fun i m σ' H' => m + i = bs.length ∧ σ'.length = σ.length ∧ (∀ j, j ≠ so → σ'[j]? = σ[j]?) ∧ Same G H' ∧ Same H0 H' ∧ H' hh = some (.lst (bs.map .ref)) ∧ ∀ b ∈ bs, ∃ y, H' b = some (.lst y),
    ⟨bs.length, rfl, rfl, fun _ _ => rfl, l.sg, l.s0, l.top, fun b h => ?_⟩, fun i m σ' H' ⟨e1, e2, e3, e4, e5, e6, e7⟩ => ?_⟩⟩
  · obtain ⟨j, hj, rfl⟩ := List.getElem_of_mem h
    obtain ⟨_, _, y, _, _, _, h5, _⟩ := l.own j bs[j] (by simp [hj])
    exact ⟨y, h5⟩
  · by_cases hm : m = 0
    · exact .inl ⟨⟨_, SqL.of e6, by rw [List.length_map]; omega⟩, next σ' H' e2 e3 e4 e5⟩
    · have hi : i < bs.length := by omega
      refine .inr ⟨⟨_, .ref bs[i], SqL.of e6, by simp [hi]⟩, _, fun σ2 H2 z => ⟨m - 1, by omega, z⟩, fun x H2 ⟨eh, ey⟩ => ?_⟩
      subst eh
      have ex := ey _ (SqL.of e6)
      rw [List.getElem?_map, List.getElem?_eq_getElem hi] at ex
      cases ex
      have hmem : bs[i] ∈ bs := List.getElem_mem hi
      obtain ⟨y, hy⟩ := e7 _ hmem
      have ne : ∀ {c : Addr} {o : HO}, G c = some o ∨ H0 c = some o → c ≠ bs[i] := fun {c o} h z => by
        subst z
        rcases h with h | h
        · rw [(hb _ hmem).1] at h; cases h
        · rw [(hb _ hmem).2] at h; cases h
      refine ⟨.ref bs[i], by rw [List.getElem?_set_self (by omega)], tyV_list hy, bs[i], y, rfl, rfl, hy, by omega, by rw [List.length_set]; exact e2, fun j hj => by rw [List.getElem?_set_ne (Ne.symm hj)]; exact e3 j hj, fun c o h => by rw [upd_ne (ne (.inl h))]; exact e4 _ _ h, fun c o h => by rw [upd_ne (ne (.inr h))]; exact e5 _ _ h, ?_, fun b h => ?_⟩
      · rw [upd_ne (fun z => l.nt (by rw [z]; exact hmem))]; exact e6
      · by_cases z : b = bs[i]
        · exact ⟨[], by rw [z, upd_same]⟩
        · rw [upd_ne z]; exact e7 b h
end
noncomputable def sTail (C : Addr) (mt : List Dat → M Dat) (i0 ir i1 i2 i3 h s du fo so : Nat) (f2 f3 : Env' → M Dat) (f4 f5 : Env' → M Bool) (f7 : Env' → M Dat) : Env' → M Flo := fun ρ => match ρ[i0]?, ρ[ir]?, ρ[i1]?, ρ[i2]?, ρ[i3]? with
  | some (some (.lst d0)), some (some dr), some (some (.lst d1)), some (some (.lst d2)), some (some (.lst d3)) =>
    if (decide (h < ρ.length) && decide (so < ρ.length)) = true then
    (mt [.lst d0, dr, .lst d1, .lst d2, .lst d3]).bind fun t => match t with
    | .str z => (f2 ((ρ.set h none).set s (some (.ins C [("kinds", .lst d0), ("rules", dr), ("names", .lst d1), ("flights", .lst d2), ("closed", .lst d3), ("text", .str z)])))).bind fun d => (f3 (((ρ.set h none).set s (some (.ins C [("kinds", .lst d0), ("rules", dr), ("names", .lst d1), ("flights", .lst d2), ("closed", .lst d3), ("text", .str z)]))).set du (some d))).bind fun e =>
      let ρ3 := (((ρ.set h none).set s (some (.ins C [("kinds", .lst d0), ("rules", dr), ("names", .lst d1), ("flights", .lst d2), ("closed", .lst d3), ("text", .str z)]))).set du (some d)).set fo (some e)
      (f4 ρ3).bind fun b => if b = true then .ok (.rt (.bl false)) else (f5 (ρ3.set h (some (.lst [.lst d0, .lst d1, .lst d2, .lst d3])))).bind fun b => if b = true then .ok (.rt (.bl false)) else (f7 (ρ3.set so none)).bind fun r => .ok (.rt r)
    | _ => stk
    else stk
  | _, _, _, _, _ => stk
section
variable {K : PySem.W.Frag}
theorem RepE.hide {F : Hp} {σ : St} {ρ : Env'} (r : RepE K F σ ρ) (i : Nat) (v : Option V) : RepE K F (σ.set i v) (ρ.set i none) :=
  ⟨by rw [List.length_set, List.length_set, r.len], fun j d e => by
    by_cases hij : i = j
    · subst hij
      by_cases hi : i < ρ.length
      · rw [List.getElem?_set_self hi] at e; cases e
      · rw [List.getElem?_eq_none (by rw [List.length_set]; omega)] at e; cases e
    · rw [List.getElem?_set_ne hij] at e
      obtain ⟨v, h1, h2⟩ := r.sl j d e
      exact ⟨v, by rw [List.getElem?_set_ne hij]; exact h1, h2⟩⟩
theorem RepE.tell {F : Hp} {σ : St} {ρ : Env'} (r : RepE K F σ ρ) {i : Nat} {v : V} {d : Dat} (e : σ[i]? = some (some v)) (q : Deep K F d v) : RepE K F σ (ρ.set i (some d)) :=
  ⟨by rw [List.length_set, r.len], fun j d' e' => by
    by_cases hij : i = j
    · subst hij
      by_cases hi : i < ρ.length
      · rw [List.getElem?_set_self hi] at e'; cases e'; exact ⟨v, e, q⟩
      · rw [List.getElem?_eq_none (by rw [List.length_set]; omega)] at e'; cases e'
    · rw [List.getElem?_set_ne hij] at e'; exact r.sl j d' e'⟩
theorem RepE.but {F : Hp} {σ σ' : St} {ρ : Env'} (r : RepE K F σ ρ) {i : Nat} (hl : σ'.length = σ.length) (h : ∀ j, j ≠ i → σ'[j]? = σ[j]?) : RepE K F σ' (ρ.set i none) :=
  ⟨by rw [List.length_set, r.len, hl], fun j d e => by
    by_cases hij : i = j
    · subst hij
      by_cases hi : i < ρ.length
      · rw [List.getElem?_set_self hi] at e; cases e
      · rw [List.getElem?_eq_none (by rw [List.length_set]; omega)] at e; cases e
    · rw [List.getElem?_set_ne hij] at e
      obtain ⟨v, h1, h2⟩ := r.sl j d e
      exact ⟨v, by rw [h j (Ne.symm hij)]; exact h1, h2⟩⟩
theorem RepE.lst {F : Hp} {σ : St} {ρ : Env'} (r : RepE K F σ ρ) {i : Nat} {ds : List Dat} (e : ρ[i]? = some (some (.lst ds))) : ∃ a y, σ[i]? = some (some (.ref a)) ∧ SqL K F a y ∧ Deeps K F ds y := by
  obtain ⟨v, h1, a, y, rfl, h2, h3⟩ := r.sl i _ e
  exact ⟨a, y, h1, h2, h3⟩
noncomputable abbrev tL (K : PySem.W.Frag) (i : Nat) : TE := tCB (RLst K) (tCons (tVar i) tNil)
noncomputable abbrev tX (K : PySem.W.Frag) (h : Nat) (k : Int) : TE := tOp (rIxL K) (tVar h) (tC (.int k))
theorem rs_tail {C : Addr} {mt : List Dat → M Dat} {i0 ir i1 i2 i3 h s du fo so : Nat} {f2 f3 f7 : Env' → M Dat} {f4 f5 : Env' → M Bool} {F0 H0 : Hp} {OL O' : List Nat} {D : Ends} {σ : St} {H : Hp} (h1 : ir ≠ h) (h2 : s ≠ h) (h3 : du ≠ h) (h4 : fo ≠ h)
    (t : tS K Wno false F0 H0 OL [] O' (sTail C mt i0 ir i1 i2 i3 h s du fo so f2 f3 f4 f5 f7) D σ H) :
    tSeq (tAsg (tLst (tCons (tL K i0) (tCons (tL K i1) (tCons (tL K i2) (tCons (tL K i3) tNil))))) (gName h)) (tSeq (tAsg (tMake C (spIS K C mt) [] E0 (tCons (tX K h 0) (tCons (tVar ir) (tCons (tX K h 1) (tCons (tX K h 2) (tCons (tX K h 3) tNil)))))) (gName s))
      (tSeq (tAsg (tD K Wno false f2) (gName du)) (tSeq (tAsg (tD K Wno false f3) (gName fo)) (tSeq (tIfS (tDT K Wno f4) (tRet (tC (.bl false))) tNext) (tSeq (tIfS (tDT K Wno f5) (tRet (tC (.bl false))) tNext)
      (tSeq (tFor (iSeq K (tVar h)) (gName so) (tDrop (tBM0 K "list" rClear (tVar so)))) (tRet (tD K Wno false f7)))))))) D σ H := by
  obtain ⟨FB, F, ρ, r, p⟩ := t
  unfold sTail at p
  split at p
  rotate_left
  · exact p.stuck rfl
  · rename_i d0 dr d1 d2 d3 q0 qr q1 q2 q3
    split at p
    rotate_left
    · exact p.stuck rfl
    · rename_i hlen
      rw [Bool.and_eq_true, decide_eq_true_eq, decide_eq_true_eq] at hlen
      have rE := r.repE
      have hl : h < σ.length := by rw [← rE.len]; exact hlen.1
      obtain ⟨a0, y0, g0, k0, c0⟩ := rE.lst q0
      obtain ⟨vr, gr, cr⟩ := rE.sl _ _ qr
      obtain ⟨a1, y1, g1, k1, c1⟩ := rE.lst q1
      obtain ⟨a2, y2, g2, k2, c2⟩ := rE.lst q2
      obtain ⟨a3, y3, g3, k3, c3⟩ := rE.lst q3
      refine ⟨.ref a0, g0, a0, y0, rfl, .inl (r.st.fh.lst k0), fun b0 n0 => ?_⟩
      have u1 : Step F H F (upd H b0 (.lst y0)) := Step.grow r.st.fh n0
      refine ⟨.ref a1, g1, a1, y1, rfl, .inl (u1.fh.lst k1), fun b1 n1 => ?_⟩
      have u2 : Step F _ F (upd (upd H b0 (.lst y0)) b1 (.lst y1)) := Step.grow u1.fh n1
      refine ⟨.ref a2, g2, a2, y2, rfl, .inl (u2.fh.lst k2), fun b2 n2 => ?_⟩
      have u3 : Step F _ F (upd (upd (upd H b0 (.lst y0)) b1 (.lst y1)) b2 (.lst y2)) := Step.grow u2.fh n2
      refine ⟨.ref a3, g3, a3, y3, rfl, .inl (u3.fh.lst k3), fun b3 n3 => ⟨by show 4 ≤ sizeLine; rw [sizeLine_eq]; decide, fun hh nh => ?_⟩⟩
      have u4 : Step F _ F (upd (upd (upd (upd H b0 (.lst y0)) b1 (.lst y1)) b2 (.lst y2)) b3 (.lst y3)) := Step.grow u3.fh n3
      have u5 : Step F _ F (upd (upd (upd (upd (upd H b0 (.lst y0)) b1 (.lst y1)) b2 (.lst y2)) b3 (.lst y3)) hh (.lst [.ref b0, .ref b1, .ref b2, .ref b3])) := Step.grow u4.fh nh
      have w1 := r.st.trans u1
      have w2 := w1.trans u2
      have w3 := w2.trans u3
      have w4 := w3.trans u4
      have w5 := w4.trans u5
      have m0 := u4.hh _ _ (u3.hh _ _ (u2.hh b0 _ upd_same))
      have m1 := u4.hh _ _ (u3.hh b1 _ upd_same)
      have m2 := u4.hh b2 _ upd_same
      have m3 : upd (upd (upd (upd H b0 (.lst y0)) b1 (.lst y1)) b2 (.lst y2)) b3 (.lst y3) b3 = some (.lst y3) := upd_same
      have L : Lent K H0 F _ hh [b0, b1, b2, b3] [y0, y1, y2, y3] [d0, d1, d2, d3] := {
        sg := w5.fh, s0 := w5.hh, top := upd_same, gh := w4.fh.free nh, h0 := w4.hh.free nh
        nt := fun z => by
          simp only [List.mem_cons, List.not_mem_nil, or_false] at z
          rcases z with z | z | z | z <;> (rw [z] at nh)
          · rw [m0] at nh; cases nh
          · rw [m1] at nh; cases nh
          · rw [m2] at nh; cases nh
          · rw [m3] at nh; cases nh
        own := fun j b e => by
          match j, e with
          | 0, e => cases e; exact ⟨r.st.fh.free n0, r.st.hh.free n0, y0, d0, rfl, rfl, u5.hh _ _ m0, c0⟩
          | 1, e => cases e; exact ⟨w1.fh.free n1, w1.hh.free n1, y1, d1, rfl, rfl, u5.hh _ _ m1, c1⟩
          | 2, e => cases e; exact ⟨w2.fh.free n2, w2.hh.free n2, y2, d2, rfl, rfl, u5.hh _ _ m2, c2⟩
          | 3, e => cases e; exact ⟨w3.fh.free n3, w3.hh.free n3, y3, d3, rfl, rfl, u5.hh _ _ m3, c3⟩
          | j + 4, e => simp at e }
      have o0 := L.own 0 b0 rfl
      generalize upd (upd (upd (upd (upd H b0 (.lst y0)) b1 (.lst y1)) b2 (.lst y2)) b3 (.lst y3)) hh (.lst [.ref b0, .ref b1, .ref b2, .ref b3]) = H5 at L u5 w5
      have hs1 : (σ.set h (some (.ref hh)))[h]? = some (some (.ref hh)) := List.getElem?_set_self hl
      have hsr : (σ.set h (some (.ref hh)))[ir]? = some (some vr) := by rw [List.getElem?_set_ne (Ne.symm h1)]; exact gr
      cases hm : mt [.lst d0, dr, .lst d1, .lst d2, .lst d3] with
      | error e => rw [hm] at p; exact False.elim p
      | ok t =>
      rw [hm] at p
      simp only [bind_ok] at p
      cases t with
      | str z =>
        dsimp only at p
        refine ⟨.ref hh, hs1, hh, _, 0, .ref b0, rfl, rfl, SqL.of L.top, rfl, vr, hsr, .ref hh, hs1, hh, _, 1, .ref b1, rfl, rfl, SqL.of L.top, rfl, .ref hh, hs1, hh, _, 2, .ref b2, rfl, rfl, SqL.of L.top, rfl, .ref hh, hs1, hh, _, 3, .ref b3, rfl, rfl, SqL.of L.top, rfl, fun x dx hx hdx hne => ?_⟩
        have lf : ∀ (j : Nat) (b : Addr) (y : List V), ([b0, b1, b2, b3] : List Addr)[j]? = some b → ([y0, y1, y2, y3] : List (List V))[j]? = some y → SqL K (lentF F H5 hh [b0, b1, b2, b3]) b y := fun j b y e1 e2 => by
          obtain ⟨_, _, y', _, e3, _, e4, _⟩ := L.own j b e1
          rw [e2] at e3
          cases e3
          refine SqL.of ?_
          unfold lentF
          rw [if_pos (.inr (List.mem_of_getElem? e1))]
          exact e4
        refine ⟨x, dx, b0, b1, b2, b3, vr, y0, y1, y2, y3, lentF F H5 hh [b0, b1, b2, b3], d0, d1, d2, d3, dr, z, rfl, upd_same, L.fh.free hx, fun c o e => ?_, ⟨lf 0 _ _ rfl rfl, Deeps.mono L.ff c0⟩, Deep.mono L.ff cr, ⟨lf 1 _ _ rfl rfl, Deeps.mono L.ff c1⟩, ⟨lf 2 _ _ rfl rfl, Deeps.mono L.ff c2⟩, ⟨lf 3 _ _ rfl rfl, Deeps.mono L.ff c3⟩, hm, fun l0 l1 l2 l3 H' j0 p0 p1 p2 p3 j1 j2 j3 j4 j5 => ⟨rfl, ?_⟩⟩
        · have hc : c ≠ x := fun h => by rw [h, L.fh.free hx] at e; cases e
          have hd : c ≠ dx := fun h => by rw [h, L.fh.free hdx] at e; cases e
          rw [upd_ne hc, upd_ne hd]; exact L.fh _ _ e
        · obtain ⟨G, S, qo⟩ := born_S L.sg hx hdx c0 cr c1 c2 c3 j0 p0 p1 p2 p3 j1 j2 j3 j4 j5
          have L2 := L.step S
          have W2 := w5.trans S
          have r2 := ((rE.mono S.ff).hide h (some (.ref hh))).set qo s
          refine tD_run r2 L2.sg (fun e he => by rw [he] at p; exact p) fun d hd v G2 H2 t2 q2 => ?_
          rw [hd] at p
          simp only [bind_ok] at p
          have L3 := L2.step t2
          have r3 := (r2.mono t2.ff).set q2 du
          refine tD_run r3 L3.sg (fun e he => by rw [he] at p; exact p) fun e he v3 G3 H3 t3 q3 => ?_
          rw [he] at p
          simp only [bind_ok] at p
          have L4 := L3.step t3
          have r4 := (r3.mono t3.ff).set q3 fo
          have W4 := (W2.trans t2).trans t3
          refine tDT_run r4 L4.sg (fun e he => by rw [he] at p; exact p) fun b hb G4 H4 t4 => ?_
          rw [hb] at p
          simp only [bind_ok] at p
          have W5 := W4.trans t4
          cases b with
          | true => rw [if_pos rfl] at p; exact p (.bl false) G4 H4 W5 rfl
          | false =>
          rw [if_neg (by decide)] at p
          have L5 := L4.step t4
          have r5 := r4.mono t4.ff
          have hsh : ((((σ.set h (some (.ref hh))).set s (some (.ref x))).set du (some v)).set fo (some v3))[h]? = some (some (.ref hh)) := by
            rw [List.getElem?_set_ne h4, List.getElem?_set_ne h3, List.getElem?_set_ne h2]; exact hs1
          refine tDT_run (RepE.tell (d := .lst [.lst d0, .lst d1, .lst d2, .lst d3]) (r5.mono L5.ff) hsh (L5.deeps rfl)) L5.fh (fun e he => by rw [he] at p; exact p) fun b hb G6 H6 t6 => ?_
          rw [hb] at p
          simp only [bind_ok] at p
          have t6' : Step G4 H4 G4 H6 := ⟨Same.refl _, t6.hh, L5.sg.trans t6.hh, fun _ _ h => .inl h⟩
          have W6 := W5.trans t6'
          cases b with
          | true => rw [if_pos rfl] at p; exact p (.bl false) G4 H6 W6 rfl
          | false =>
          rw [if_neg (by decide)] at p
          have L6 := L5.step t6'
          refine rs_clears L6 hsh (by rw [List.length_set, List.length_set, List.length_set, List.length_set, ← rE.len]; exact hlen.2) fun σ' H7 e1 e2 e3 e4 => ?_
          have r7 := r5.but (i := so) e1 e2
          refine tD_run r7 e3 (fun e he => by rw [he] at p; exact p) fun d hd v G8 H8 t8 q8 => ?_
          rw [hd] at p
          exact p v G8 H8 (Step.trans ⟨W6.ff, e4, e3, W6.nw⟩ t8) q8
      | _ => exact p.stuck rfl
end
end L2
namespace L2
open PySem PySem.Spec PyProof.Rows
section
variable {X : Cx} {K : PySem.W.Frag} {e tg : Expr} {tl : TE}
theorem pi_seqD (hl : PE X e tl) : PI X tg e (iSeq X.K tl) := by
  intro pins s σ H R I h
  refine thn (hl pins s σ H _ I h) fun v s1 ⟨y, H1, I1, r1, q1⟩ => ?_
  obtain ⟨l, e1, q⟩ := q1
  subst e1
  cases r1
  rcases q with ⟨⟨xs, hq⟩, q⟩ | ⟨⟨xs, hq⟩, q⟩
  · obtain ⟨its, rv, p, hz⟩ := I1.list hq
    refine wpAny_pyIter_list p.isList ⟨s1.heap.objs.size, [s1.heap.objs.size], _, _, H1, rfl, I1.kept (t' := s1.toks) fun b o e => Heap.get?_push_of_some _ e, turn_list l _, ⟨_, Heap.get?_push_size _ rfl, rfl, rfl⟩, fun b hb => ?_, q⟩
    have e : b = s1.heap.objs.size := by simpa using hb
    subst e
    exact I1.fpOk (Nat.le_refl _) (I1.hok.fresh (Nat.le_refl _))
  · obtain ⟨its, rv, p, hz⟩ := I1.tuple hq
    refine wpAny_pyIter_tuple (show s1.heap.IsTuple l its.toArray from p) ⟨s1.heap.objs.size, [s1.heap.objs.size], _, _, H1, rfl, I1.kept (t' := s1.toks) fun b o e => Heap.get?_push_of_some _ e, turn_tuple l _, ⟨_, Heap.get?_push_size _ rfl, rfl, rfl⟩, fun b hb => ?_, q⟩
    have e : b = s1.heap.objs.size := by simpa using hb
    subst e
    exact I1.fpOk (Nat.le_refl _) (I1.hok.fresh (Nat.le_refl _))
theorem ds_tail {sts : List Stmt} {C : Addr} {mt : List Dat → M Dat} {i0 ir i1 i2 i3 h s du fo so : Nat} {f2 f3 f7 : Env' → M Dat} {f4 f5 : Env' → M Bool} {OL O' : List Nat}
    (p : PSs X sts (tSeq (tAsg (tLst (tCons (tL K i0) (tCons (tL K i1) (tCons (tL K i2) (tCons (tL K i3) tNil))))) (gName h)) (tSeq (tAsg (tMake C (spIS K C mt) [] E0 (tCons (tX K h 0) (tCons (tVar ir) (tCons (tX K h 1) (tCons (tX K h 2) (tCons (tX K h 3) tNil)))))) (gName s))
      (tSeq (tAsg (tD K Wno false f2) (gName du)) (tSeq (tAsg (tD K Wno false f3) (gName fo)) (tSeq (tIfS (tDT K Wno f4) (tRet (tC (.bl false))) tNext) (tSeq (tIfS (tDT K Wno f5) (tRet (tC (.bl false))) tNext)
      (tSeq (tFor (iSeq K (tVar h)) (gName so) (tDrop (tBM0 K "list" rClear (tVar so)))) (tRet (tD K Wno false f7))))))))))
    (h1 : ir ≠ h := by decide) (h2 : s ≠ h := by decide) (h3 : du ≠ h := by decide) (h4 : fo ≠ h := by decide) : DSs K Wno false X OL [] O' sts (sTail C mt i0 ir i1 i2 i3 h s du fo so f2 f3 f4 f5 f7) := fun _ _ => PSs.imp p fun _ _ _ => rs_tail h1 h2 h3 h4
end
end L2
namespace Ru
open PySem L2 PyProof.Rows
noncomputable def c__law_number_1 (CR CP CS : Addr) (n : Nat) : Env' → M Flo :=
  sIf (fB (f2 gtD (fL lenD (fCons (fVar 2) fNil)) (fC (.int 0))))
      (sSetB [] 3 (f2 modD (f2 ixD (fVar 2) (f2 modD (fVar 1) (fL lenD (fCons (fVar 2) fNil)))) (f2 powD (fC (.int 10)) (fC (.int 24)))))
      sNext
noncomputable def g__law_number (CR CP CS : Addr) (n : Nat) : Env' → M Flo :=
  (sSeq (sSetB [] 2 (fSl sliceD (fVar 0) pNone (pSome (fC (.int 63)))))
    (sSeq (sSetB [] 3 (f2 addD (f2 mulD (fC (.int 13)) (fVar 1)) (fC (.int 5))))
    (sSeq (c__law_number_1 CR CP CS n)
    (sSeq (sSetB [] 4 (f2 modD (f2 mulD (f2 addD (f2 addD (fVar 3) (f2 mulD (f2 mulD (fVar 1) (fVar 1)) (fC (.int 7919)))) (fL lenD (fCons (fVar 2) fNil))) (fC (.int 48271))) (fC (.int 2305843009213693951))))
    (sRet (f2 modD (f2 addD (f2 mulD (fVar 4) (fC (.int 1442695040888963407))) (fC (.int 4321))) (fC (.int 2305843009213693921))))))))
noncomputable def m__law_number (CR CP CS : Addr) (n : Nat) : List Dat → M Dat := runB 5 2 (g__law_number CR CP CS n)
noncomputable def b__law_name_1 (CR CP CS : Addr) (n : Nat) : Env' → M Flo :=
  (sSeq (sSetB [] 0 (f2 addD (f2 addD (f2 mulD (fVar 0) (fVar 0)) (f2 mulD (fC (.int 48271)) (fVar 0))) (fVar 4)))
    (sSeq (sSetB [] 0 (f2 modD (fVar 0) (fC (.int 2305843009213693951))))
    (sSetB [] 3 (f2 addD (fVar 3) (f2 ixSD (f2 addD (fVar 2) (fC (.str "0123456789"))) (f2 modD (f2 fdivD (fVar 0) (fC (.int 64))) (fC (.int 36))))))))
noncomputable def g__law_name (CR CP CS : Addr) (n : Nat) : Env' → M Flo :=
  (sSeq (sSetB [] 2 (fC (.str "abcdefghijklmnopqrstuvwxyz")))
    (sSeq (sSetB [] 3 (f2 addD (f2 ixSD (fVar 2) (f2 modD (fVar 0) (fC (.int 26)))) (f2 ixSD (fVar 2) (f2 modD (fVar 1) (fC (.int 26))))))
    (sSeq (sFor [] (fRng rng1 (fCons (f2 modD (f2 fdivD (fVar 0) (fC (.int 32))) (fC (.int 6))) fNil)) (.nm 4) (b__law_name_1 CR CP CS n))
    (sRet (fVar 3)))))
noncomputable def m__law_name (CR CP CS : Addr) (n : Nat) : List Dat → M Dat := runB 5 2 (g__law_name CR CP CS n)
noncomputable def c__law_cell_at_1 (CR CP CS : Addr) (n : Nat) : Env' → M Flo :=
  sIf (fB (f2 ltD (fVar 1) (fL lenD (fCons (fVar 0) fNil))))
      (sRet (f2 modD (f2 ixD (fVar 0) (fVar 1)) (f2 powD (fC (.int 10)) (fC (.int 24)))))
      sNext
noncomputable def g__law_cell_at (CR CP CS : Addr) (n : Nat) : Env' → M Flo :=
  (sSeq (c__law_cell_at_1 CR CP CS n)
    (sRet (fC (.int 0))))
noncomputable def m__law_cell_at (CR CP CS : Addr) (n : Nat) : List Dat → M Dat := runB 2 2 (g__law_cell_at CR CP CS n)
noncomputable def b__law_flight_name_1 (CR CP CS : Addr) (n : Nat) : Env' → M Flo :=
  (sSeq (sSetB [] 0 (f2 addD (f2 addD (f2 mulD (fVar 0) (fVar 0)) (f2 mulD (fC (.int 48271)) (fVar 0))) (fVar 3)))
    (sSeq (sSetB [] 0 (f2 modD (fVar 0) (fC (.int 2305843009213693951))))
    (sSetB [] 2 (f2 addD (fVar 2) (f2 ixSD (fC (.str "abcdefghijklmnopqrstuvwxyz0123456789")) (f2 modD (f2 fdivD (fVar 0) (fC (.int 64))) (fC (.int 36))))))))
noncomputable def g__law_flight_name (CR CP CS : Addr) (n : Nat) : Env' → M Flo :=
  (sSeq (sSetB [] 2 (f2 addD (f2 ixSD (fC (.str "abcdefghijklmnopqrstuvwxyz")) (f2 modD (fVar 1) (fC (.int 26)))) (f2 ixSD (fC (.str "0123456789")) (f2 fdivD (fVar 1) (fC (.int 26))))))
    (sSeq (sFor [] (fRng rng1 (fCons (f2 modD (f2 fdivD (fVar 0) (fC (.int 32))) (fC (.int 7))) fNil)) (.nm 3) (b__law_flight_name_1 CR CP CS n))
    (sRet (fVar 2))))
noncomputable def m__law_flight_name (CR CP CS : Addr) (n : Nat) : List Dat → M Dat := runB 4 2 (g__law_flight_name CR CP CS n)
noncomputable def g__law_gap (CR CP CS : Addr) (n : Nat) : Env' → M Flo :=
  (sRet (f2 ixD (fL mkLst (fCons (f2 modD (f2 fdivD (fVar 0) (fC (.int 16))) (fC (.int 7))) (fCons (f2 modD (f2 fdivD (fVar 0) (fC (.int 16))) (f2 addD (f2 powD (fC (.int 10)) (fC (.int 6))) (fC (.int 1)))) (fCons (fC (.int 0)) (fCons (f2 modD (f2 fdivD (fVar 0) (fC (.int 16))) (fC (.int 100))) fNil))))) (f2 modD (fVar 0) (fC (.int 4)))))
noncomputable def m__law_gap (CR CP CS : Addr) (n : Nat) : List Dat → M Dat := runB 1 1 (g__law_gap CR CP CS n)
noncomputable def g__law_time (CR CP CS : Addr) (n : Nat) : Env' → M Flo :=
  (sRet (f2 ixD (fL mkLst (fCons (f2 modD (f2 fdivD (fVar 0) (fC (.int 16))) (fC (.int 60))) (fCons (f2 modD (f2 fdivD (fVar 0) (fC (.int 16))) (f2 addD (f2 powD (fC (.int 10)) (fC (.int 9))) (fC (.int 1)))) (fCons (f2 modD (f2 fdivD (fVar 0) (fC (.int 16))) (fC (.int 1000))) fNil)))) (f2 modD (fVar 0) (fC (.int 3)))))
noncomputable def m__law_time (CR CP CS : Addr) (n : Nat) : List Dat → M Dat := runB 1 1 (g__law_time CR CP CS n)
noncomputable def b__law_data_1 (CR CP CS : Addr) (n : Nat) : Env' → M Flo :=
  (sAppB [1] 1 (fL (m__law_name CR CP CS n) (fCons (fL (m__law_number CR CP CS n) (fCons (fVar 0) (fCons (fVar 2) fNil))) (fCons (fVar 2) fNil))))
noncomputable def b__law_data_2 (CR CP CS : Addr) (n : Nat) : Env' → M Flo :=
  (sSeq (sSetB [3, 4] 5 (fComp (fRng rng1 (fCons (fL lenD (fCons (fVar 1) fNil)) fNil)) [none, some 0, some 1, some 2] (.nm 0) fYes (fL (m__law_number CR CP CS n) (fCons (fVar 1) (fCons (f2 addD (f2 addD (fC (.int 7)) (f2 mulD (fVar 3) (fL lenD (fCons (fVar 2) fNil)))) (fVar 0)) fNil)))))
    (sSeq (sAppB [3, 4] 3 (fComp (fIt (fVar 5)) [none] (.nm 0) fYes (fL (m__law_gap CR CP CS n) (fCons (fVar 0) fNil))))
    (sAppB [3, 4] 4 (fComp (fIt (fVar 5)) [none] (.nm 0) fYes (fL (m__law_gap CR CP CS n) (fCons (f2 fdivD (fVar 0) (fC (.int 64))) fNil))))))
noncomputable def c__law_data_3 (CR CP CS : Addr) (n : Nat) : Env' → M Flo :=
  sIf (fB (f2 eqM (f2 modD (fL (m__law_cell_at CR CP CS n) (fCons (fVar 0) (fCons (fC (.int 2)) fNil))) (fC (.int 2))) (fC (.int 0))))
      (sSetB [] 4 (fC .non))
      sNext
noncomputable def c__law_data_4 (CR CP CS : Addr) (n : Nat) : Env' → M Flo :=
  sIf (fB (f2 eqM (f2 modD (f2 fdivD (fL (m__law_cell_at CR CP CS n) (fCons (fVar 0) (fCons (fC (.int 1)) fNil))) (fC (.int 64))) (fC (.int 8))) (fC (.int 5))))
      (sSetB [6, 7] 8 (fC (.int 40)))
      sNext
noncomputable def b__law_data_5 (CR CP CS : Addr) (n : Nat) : Env' → M Flo :=
  (sSeq (sSetB [6, 7] 9 (fL (m__law_number CR CP CS n) (fCons (fVar 0) (fCons (f2 addD (fC (.int 50)) (fVar 2)) fNil))))
    (sSeq (sSetB [6, 7] 10 (fL sortedD (fCons (fL mkLst (fCons (fL (m__law_time CR CP CS n) (fCons (fVar 9) fNil)) (fCons (fL (m__law_time CR CP CS n) (fCons (f2 fdivD (fVar 9) (fC (.int 4096))) fNil)) fNil))) fNil)))
    (sSeq (sAppB [6, 7] 6 (fL (m__law_flight_name CR CP CS n) (fCons (f2 fdivD (fVar 9) (fC (.int 8))) (fCons (fVar 2) fNil))))
    (sAppB [6, 7] 7 (fL mkTup (fCons (f2 modD (fVar 9) (fL lenD (fCons (fVar 1) fNil))) (fCons (f2 ixD (fVar 10) (fC (.int 0))) (fCons (f2 ixD (fVar 10) (fC (.int 1))) (fCons (fL (m__law_time CR CP CS n) (fCons (f2 fdivD (fVar 9) (fC (.int 9))) fNil)) (fCons (fL (m__law_time CR CP CS n) (fCons (f2 fdivD (fVar 9) (fC (.int 27))) fNil)) fNil))))))))))
noncomputable def b__law_data_6 (CR CP CS : Addr) (n : Nat) : Env' → M Flo :=
  (sSeq (sSetB [11] 10 (fL sortedD (fCons (fL mkLst (fCons (fL (m__law_time CR CP CS n) (fCons (fL (m__law_number CR CP CS n) (fCons (fVar 0) (fCons (f2 addD (fC (.int 101)) (fVar 2)) fNil))) fNil)) (fCons (fL (m__law_time CR CP CS n) (fCons (fL (m__law_number CR CP CS n) (fCons (fVar 0) (fCons (f2 addD (fC (.int 107)) (fVar 2)) fNil))) fNil)) fNil))) fNil)))
    (sAppB [11] 11 (fL mkTup (fCons (f2 fdivD (f2 ixD (fVar 10) (fC (.int 0))) (fC (.int 2))) (fCons (f2 addD (f2 fdivD (f2 ixD (fVar 10) (fC (.int 1))) (fC (.int 2))) (fC (.int 1))) fNil)))))
noncomputable def g__law_data (CR CP CS : Addr) (n : Nat) : Env' → M Flo :=
  (sSeq (sSetB [] 1 (fL mkLst fNil))
    (sSeq (sFor [1] (fRng rng1 (fCons (f2 addD (fC (.int 1)) (f2 modD (f2 modD (f2 mulD (fL (m__law_cell_at CR CP CS n) (fCons (fVar 0) (fCons (fC (.int 0)) fNil))) (fC (.int 16807))) (fC (.int 2147483647))) (fC (.int 6)))) fNil)) (.nm 2) (b__law_data_1 CR CP CS n))
    (sSeq (sSetB [] 3 (fL mkLst fNil))
    (sSeq (sSetB [3] 4 (fL mkLst fNil))
    (sSeq (sFor [3, 4] (fRng rng1 (fCons (fL lenD (fCons (fVar 1) fNil)) fNil)) (.nm 2) (b__law_data_2 CR CP CS n))
    (sSeq (c__law_data_3 CR CP CS n)
    (sSeq (sSetB [] 6 (fL mkLst fNil))
    (sSeq (sSetB [6] 7 (fL mkLst fNil))
    (sSeq (sSetB [6, 7] 8 (f2 modD (f2 modD (f2 mulD (fL (m__law_cell_at CR CP CS n) (fCons (fVar 0) (fCons (fC (.int 1)) fNil))) (fC (.int 39373))) (fC (.int 2147483629))) (fC (.int 9))))
    (sSeq (c__law_data_4 CR CP CS n)
    (sSeq (sFor [6, 7] (fRng rng1 (fCons (fVar 8) fNil)) (.nm 2) (b__law_data_5 CR CP CS n))
    (sSeq (sSetB [] 11 (fL mkLst fNil))
    (sSeq (sFor [11] (fRng rng1 (fCons (f2 modD (f2 fdivD (fL (m__law_number CR CP CS n) (fCons (fVar 0) (fCons (fC (.int 100)) fNil))) (fC (.int 64))) (fC (.int 4))) fNil)) (.nm 2) (b__law_data_6 CR CP CS n))
    (sRet (fL mkTup (fCons (fVar 1) (fCons (fVar 3) (fCons (fVar 4) (fCons (fVar 6) (fCons (fVar 7) (fCons (fVar 11) fNil)))))))))))))))))))))
noncomputable def m__law_data (CR CP CS : Addr) (n : Nat) : List Dat → M Dat := runB 12 1 (g__law_data CR CP CS n)
noncomputable def g_copied_rows (CR CP CS : Addr) (n : Nat) : Env' → M Flo :=
  (sRet (fComp (fIt (fVar 0)) [none] (.nm 0) fYes (fL listD (fCons (fVar 0) fNil))))
noncomputable def m_copied_rows (CR CP CS : Addr) (n : Nat) : List Dat → M Dat := runB 1 1 (g_copied_rows CR CP CS n)
noncomputable def c_is_gap_1 (CR CP CS : Addr) (n : Nat) : Env' → M Flo :=
  sIf (fOr (fNot (fTru (f1 isi_intD (fVar 0)))) (fTru (f1 isi_boolD (fVar 0))))
      (sRet (fC (.bl false)))
      sNext
noncomputable def g_is_gap (CR CP CS : Addr) (n : Nat) : Env' → M Flo :=
  (sSeq (c_is_gap_1 CR CP CS n)
    (sRet (fChain leD leD (fC (.int 0)) (fVar 0) (fC (.int 1000000)))))
noncomputable def m_is_gap (CR CP CS : Addr) (n : Nat) : List Dat → M Dat := runB 1 1 (g_is_gap CR CP CS n)
noncomputable def g_is_gap_row (CR CP CS : Addr) (n : Nat) : Env' → M Flo :=
  (sRet (fAndV (f1 isi_listD (fVar 0)) (fAndV (f2 eqM (fL lenD (fCons (fVar 0) fNil)) (fVar 1)) (fL allD (fCons (fComp (fIt (fVar 0)) [none] (.nm 0) fYes (fL (m_is_gap CR CP CS n) (fCons (fVar 0) fNil))) fNil)))))
noncomputable def m_is_gap_row (CR CP CS : Addr) (n : Nat) : List Dat → M Dat := runB 2 2 (g_is_gap_row CR CP CS n)
noncomputable def c_checked_rows_1 (CR CP CS : Addr) (n : Nat) : Env' → M Flo :=
  sIf (fNot (fB (fChain leD leD (fC (.int 1)) (fVar 1) (fC (.int 6)))))
      sStk
      sNext
noncomputable def c_checked_rows_2 (CR CP CS : Addr) (n : Nat) : Env' → M Flo :=
  sIf (fNot (fTru (fL allD (fCons (fComp (fIt (fVar 0)) [none, some 1] (.nm 0) fYes (fL (m_is_gap_row CR CP CS n) (fCons (fVar 0) (fCons (fVar 1) fNil)))) fNil))))
      sStk
      sNext
noncomputable def g_checked_rows (CR CP CS : Addr) (n : Nat) : Env' → M Flo :=
  (sSeq (sSetB [] 1 (fL lenD (fCons (fVar 0) fNil)))
    (sSeq (c_checked_rows_1 CR CP CS n)
    (sSeq (c_checked_rows_2 CR CP CS n)
    (sRet (fL (m_copied_rows CR CP CS n) (fCons (fVar 0) fNil))))))
noncomputable def m_checked_rows (CR CP CS : Addr) (n : Nat) : List Dat → M Dat := runB 2 1 (g_checked_rows CR CP CS n)
noncomputable def c_shown_gaps_1 (CR CP CS : Addr) (n : Nat) : Env' → M Flo :=
  sIf (fB (f2 geD (fVar 8) (fVar 3)))
      (sAppB [4] 4 (fJ [(f1 fmtD (fVar 0)), (fC (.str " ")), (f1 fmtD (fVar 5)), (fC (.str " ")), (f1 fmtD (fVar 7)), (fC (.str " ")), (f1 fmtD (fVar 8))]))
      sNext
noncomputable def b_shown_gaps_2 (CR CP CS : Addr) (n : Nat) : Env' → M Flo :=
  (c_shown_gaps_1 CR CP CS n)
noncomputable def b_shown_gaps_3 (CR CP CS : Addr) (n : Nat) : Env' → M Flo :=
  (sFor [4] (fZip (fVar 1) (fVar 6)) (.tp [7, 8]) (b_shown_gaps_2 CR CP CS n))
noncomputable def g_shown_gaps (CR CP CS : Addr) (n : Nat) : Env' → M Flo :=
  (sSeq (sSetB [] 4 (fL mkLst fNil))
    (sSeq (sFor [4] (fZip (fVar 1) (fVar 2)) (.tp [5, 6]) (b_shown_gaps_3 CR CP CS n))
    (sRet (fVar 4))))
noncomputable def m_shown_gaps (CR CP CS : Addr) (n : Nat) : List Dat → M Dat := runB 9 4 (g_shown_gaps CR CP CS n)
noncomputable def g_Rules_gap_rows (CR CP CS : Addr) (n : Nat) : Env' → M Flo :=
  (sRet (fL (m_copied_rows CR CP CS n) (fCons (f1 (attrD [CR, CP] "gaps") (fVar 0)) fNil)))
noncomputable def m_Rules_gap_rows (CR CP CS : Addr) (n : Nat) : List Dat → M Dat := runB 1 1 (g_Rules_gap_rows CR CP CS n)
noncomputable def g_shown_flight (CR CP CS : Addr) (n : Nat) : Env' → M Flo :=
  (sSeq (sSetB [] 3 (f2 addD (fL mkLst (fCons (fC (.str "flight")) (fCons (fVar 1) (fCons (f2 ixD (fVar 0) (f2 ixD (fVar 2) (fC (.int 0)))) fNil)))) (fComp (fIt (fSl sliceD (fVar 2) (pSome (fC (.int 1))) pNone)) [none] (.nm 0) fYes (fL strD (fCons (fVar 0) fNil)))))
    (sRet (fSM joinD (fC (.str " ")) (fVar 3))))
noncomputable def m_shown_flight (CR CP CS : Addr) (n : Nat) : List Dat → M Dat := runB 4 3 (g_shown_flight CR CP CS n)
noncomputable def g_Pair_beside_rows (CR CP CS : Addr) (n : Nat) : Env' → M Flo :=
  (sRet (fL (m_copied_rows CR CP CS n) (fCons (f1 (attrD [CP] "beside") (fVar 0)) fNil)))
noncomputable def m_Pair_beside_rows (CR CP CS : Addr) (n : Nat) : List Dat → M Dat := runB 1 1 (g_Pair_beside_rows CR CP CS n)
noncomputable def c_text_of_1 (CR CP CS : Addr) (n : Nat) : Env' → M Flo :=
  sIf (fTru (f1 (isiC [(CR, false), (CP, true)]) (fVar 1)))
      (sExt [5] 5 (fL (m_shown_gaps CR CP CS n) (fCons (fC (.str "beside")) (fCons (fVar 0) (fCons (fMeth CP "beside_rows" (m_Pair_beside_rows CR CP CS n) (fVar 1) fNil) (fCons (fC (.int 0)) fNil))))))
      sNext
noncomputable def g_text_of (CR CP CS : Addr) (n : Nat) : Env' → M Flo :=
  (sSeq (sSetB [] 5 (fComp (fIt (fVar 0)) [none] (.nm 0) fYes (fJ [(fC (.str "kind ")), (f1 fmtD (fVar 0))])))
    (sSeq (sExt [5] 5 (fL (m_shown_gaps CR CP CS n) (fCons (fC (.str "gap")) (fCons (fVar 0) (fCons (fMeth2 CR CP "gap_rows" (m_Rules_gap_rows CR CP CS n) (m_Rules_gap_rows CR CP CS n) (fVar 1) fNil) (fCons (fC (.int 1)) fNil))))))
    (sSeq (c_text_of_1 CR CP CS n)
    (sSeq (sExt [5] 5 (fComp (fIt (fVar 4)) [none, none] (.tp [0, 1]) fYes (fJ [(fC (.str "closed ")), (f1 fmtD (fVar 0)), (fC (.str " ")), (f1 fmtD (fVar 1))])))
    (sSeq (sExt [5] 5 (fComp (fZip (fVar 2) (fVar 3)) [none, none, some 0] (.tp [0, 1]) fYes (fL (m_shown_flight CR CP CS n) (fCons (fVar 2) (fCons (fVar 0) (fCons (fVar 1) fNil))))))
    (sRet (fSM joinD (fC (.str "")) (fComp (fIt (fVar 5)) [none] (.nm 0) fYes (f2 addD (fVar 0) (fC (.str "\n")))))))))))
noncomputable def m_text_of (CR CP CS : Addr) (n : Nat) : List Dat → M Dat := runB 6 5 (g_text_of CR CP CS n)
noncomputable def b__law_shown_1 (CR CP CS : Addr) (n : Nat) : Env' → M Flo :=
  (sSetB [] 7 (f2 addD (f2 addD (f2 addD (fVar 7) (fC (.str "kind "))) (fVar 8)) (fC (.str "\n"))))
noncomputable def c__law_shown_2 (CR CP CS : Addr) (n : Nat) : Env' → M Flo :=
  sIf (fB (f2 gtD (f2 ixD (f2 ixD (fVar 2) (fVar 9)) (fVar 10)) (fC (.int 0))))
      (sSetB [] 7 (f2 addD (f2 addD (fVar 7) (fSM joinD (fC (.str " ")) (fL mkLst (fCons (fC (.str "gap")) (fCons (f2 ixD (fVar 1) (fVar 9)) (fCons (f2 ixD (fVar 1) (fVar 10)) (fCons (fL strD (fCons (f2 ixD (f2 ixD (fVar 2) (fVar 9)) (fVar 10)) fNil)) fNil))))))) (fC (.str "\n"))))
      sNext
noncomputable def b__law_shown_3 (CR CP CS : Addr) (n : Nat) : Env' → M Flo :=
  (c__law_shown_2 CR CP CS n)
noncomputable def b__law_shown_4 (CR CP CS : Addr) (n : Nat) : Env' → M Flo :=
  (sFor [] (fRng rng1 (fCons (fL lenD (fCons (fVar 1) fNil)) fNil)) (.nm 10) (b__law_shown_3 CR CP CS n))
noncomputable def b__law_shown_5 (CR CP CS : Addr) (n : Nat) : Env' → M Flo :=
  (sSeq (sSetB [] 11 (fSM joinD (fC (.str " ")) (fL mkLst (fCons (fC (.str "beside")) (fCons (f2 ixD (fVar 1) (fVar 9)) (fCons (f2 ixD (fVar 1) (fVar 10)) (fCons (fL strD (fCons (f2 ixD (f2 ixD (fVar 3) (fVar 9)) (fVar 10)) fNil)) fNil)))))))
    (sSetB [] 7 (f2 addD (f2 addD (fVar 7) (fVar 11)) (fC (.str "\n")))))
noncomputable def b__law_shown_6 (CR CP CS : Addr) (n : Nat) : Env' → M Flo :=
  (sFor [] (fRng rng1 (fCons (fL lenD (fCons (fVar 1) fNil)) fNil)) (.nm 10) (b__law_shown_5 CR CP CS n))
noncomputable def c__law_shown_7 (CR CP CS : Addr) (n : Nat) : Env' → M Flo :=
  sIf (fB (f2 notND (fVar 3) (fC .non)))
      (sFor [] (fRng rng1 (fCons (fL lenD (fCons (fVar 1) fNil)) fNil)) (.nm 9) (b__law_shown_6 CR CP CS n))
      sNext
noncomputable def b__law_shown_8 (CR CP CS : Addr) (n : Nat) : Env' → M Flo :=
  (sSetB [] 7 (f2 addD (f2 addD (f2 addD (f2 addD (f2 addD (fVar 7) (fC (.str "closed "))) (fL strD (fCons (fVar 12) fNil))) (fC (.str " "))) (fL strD (fCons (fVar 13) fNil))) (fC (.str "\n"))))
noncomputable def b__law_shown_9 (CR CP CS : Addr) (n : Nat) : Env' → M Flo :=
  (sSetB [] 7 (f2 addD (f2 addD (fVar 7) (fC (.str " "))) (fL strD (fCons (fVar 16) fNil))))
noncomputable def b__law_shown_10 (CR CP CS : Addr) (n : Nat) : Env' → M Flo :=
  (sSeq (sSetB [] 7 (f2 addD (f2 addD (f2 addD (f2 addD (fVar 7) (fC (.str "flight "))) (fVar 14)) (fC (.str " "))) (f2 ixD (fVar 1) (f2 ixD (fVar 15) (fC (.int 0))))))
    (sSeq (sFor [] (fIt (fSl sliceD (fVar 15) (pSome (fC (.int 1))) pNone)) (.nm 16) (b__law_shown_9 CR CP CS n))
    (sSetB [] 7 (f2 addD (fVar 7) (fC (.str "\n"))))))
noncomputable def g__law_shown (CR CP CS : Addr) (n : Nat) : Env' → M Flo :=
  (sSeq (sUnpB [] (.tp [1, 2, 3, 4, 5, 6]) (fVar 0))
    (sSeq (sSetB [] 7 (fC (.str "")))
    (sSeq (sFor [] (fIt (fVar 1)) (.nm 8) (b__law_shown_1 CR CP CS n))
    (sSeq (sFor [] (fRng rng1 (fCons (fL lenD (fCons (fVar 1) fNil)) fNil)) (.nm 9) (b__law_shown_4 CR CP CS n))
    (sSeq (c__law_shown_7 CR CP CS n)
    (sSeq (sFor [] (fIt (fVar 6)) (.tp [12, 13]) (b__law_shown_8 CR CP CS n))
    (sSeq (sFor [] (fZip (fVar 4) (fVar 5)) (.tp [14, 15]) (b__law_shown_10 CR CP CS n))
    (sRet (fVar 7)))))))))
noncomputable def m__law_shown (CR CP CS : Addr) (n : Nat) : List Dat → M Dat := runB 17 1 (g__law_shown CR CP CS n)
noncomputable def g_Sheet_shown (CR CP CS : Addr) (n : Nat) : Env' → M Flo :=
  (sRet (f1 (attrD [CS] "text") (fVar 0)))
noncomputable def m_Sheet_shown (CR CP CS : Addr) (n : Nat) : List Dat → M Dat := runB 1 1 (g_Sheet_shown CR CP CS n)
noncomputable def g__law_whole (CR CP CS : Addr) (n : Nat) : Env' → M Flo :=
  (sRet (fAndV (f1 isi_intD (fVar 0)) (f1 notD (f1 isi_boolD (fVar 0)))))
noncomputable def m__law_whole (CR CP CS : Addr) (n : Nat) : List Dat → M Dat := runB 1 1 (g__law_whole CR CP CS n)
noncomputable def c__law_tuples_1 (CR CP CS : Addr) (n : Nat) : Env' → M Flo :=
  sIf (fOr (fNot (fTru (f1 isi_listD (fVar 0)))) (fB (f2 neM (fVar 0) (fVar 1))))
      (sRet (fC (.bl false)))
      sNext
noncomputable def c__law_tuples_2 (CR CP CS : Addr) (n : Nat) : Env' → M Flo :=
  sIf (fOr (fNot (fTru (f1 isi_tupleD (fVar 3)))) (fB (f2 neM (fL lenD (fCons (fVar 3) fNil)) (fVar 2))))
      (sRet (fC (.bl false)))
      sNext
noncomputable def c__law_tuples_3 (CR CP CS : Addr) (n : Nat) : Env' → M Flo :=
  sIf (fNot (fTru (fL allD (fCons (fComp (fIt (fVar 3)) [none] (.nm 0) fYes (fL (m__law_whole CR CP CS n) (fCons (fVar 0) fNil))) fNil))))
      (sRet (fC (.bl false)))
      sNext
noncomputable def b__law_tuples_4 (CR CP CS : Addr) (n : Nat) : Env' → M Flo :=
  (sSeq (c__law_tuples_2 CR CP CS n)
    (c__law_tuples_3 CR CP CS n))
noncomputable def g__law_tuples (CR CP CS : Addr) (n : Nat) : Env' → M Flo :=
  (sSeq (c__law_tuples_1 CR CP CS n)
    (sSeq (sFor [] (fIt (fVar 0)) (.nm 3) (b__law_tuples_4 CR CP CS n))
    (sRet (fC (.bl true)))))
noncomputable def m__law_tuples (CR CP CS : Addr) (n : Nat) : List Dat → M Dat := runB 4 3 (g__law_tuples CR CP CS n)
noncomputable def g_Rules_many_strips (CR CP CS : Addr) (n : Nat) : Env' → M Flo :=
  (sRet (fC (.int 1)))
noncomputable def m_Rules_many_strips (CR CP CS : Addr) (n : Nat) : List Dat → M Dat := runB 1 1 (g_Rules_many_strips CR CP CS n)
noncomputable def g_Pair_many_strips (CR CP CS : Addr) (n : Nat) : Env' → M Flo :=
  (sRet (fC (.int 2)))
noncomputable def m_Pair_many_strips (CR CP CS : Addr) (n : Nat) : List Dat → M Dat := runB 1 1 (g_Pair_many_strips CR CP CS n)
noncomputable def c__law_is_1 (CR CP CS : Addr) (n : Nat) : Env' → M Flo :=
  sIf (fNot (fTru (f1 (isiC [(CS, true)]) (fVar 0))))
      (sRet (fC (.bl false)))
      sNext
noncomputable def c__law_is_2 (CR CP CS : Addr) (n : Nat) : Env' → M Flo :=
  sIf (fOr (fB (f2 neM (f1 (attrD [CS] "kinds") (fVar 0)) (fVar 2))) (fB (f2 neM (f1 (attrD [CS] "names") (fVar 0)) (fVar 5))))
      (sRet (fC (.bl false)))
      sNext
noncomputable def c__law_is_3 (CR CP CS : Addr) (n : Nat) : Env' → M Flo :=
  sIf (fOr (fNot (fTru (fL (m__law_tuples CR CP CS n) (fCons (f1 (attrD [CS] "flights") (fVar 0)) (fCons (fVar 6) (fCons (fC (.int 5)) fNil)))))) (fNot (fTru (fL (m__law_tuples CR CP CS n) (fCons (f1 (attrD [CS] "closed") (fVar 0)) (fCons (fVar 7) (fCons (fC (.int 2)) fNil)))))))
      (sRet (fC (.bl false)))
      sNext
noncomputable def c__law_is_4 (CR CP CS : Addr) (n : Nat) : Env' → M Flo :=
  sIf (fOr (fB (f2 neM (fMeth2 CR CP "gap_rows" (m_Rules_gap_rows CR CP CS n) (m_Rules_gap_rows CR CP CS n) (f1 (attrD [CS] "rules") (fVar 0)) fNil) (fVar 3))) (fB (f2 neM (fMeth2 CR CP "many_strips" (m_Rules_many_strips CR CP CS n) (m_Pair_many_strips CR CP CS n) (f1 (attrD [CS] "rules") (fVar 0)) fNil) (f2 addD (fC (.int 1)) (fL intD (fCons (f2 notND (fVar 4) (fC .non)) fNil))))))
      (sRet (fC (.bl false)))
      sNext
noncomputable def g__law_is (CR CP CS : Addr) (n : Nat) : Env' → M Flo :=
  (sSeq (sUnpB [] (.tp [2, 3, 4, 5, 6, 7]) (fVar 1))
    (sSeq (c__law_is_1 CR CP CS n)
    (sSeq (c__law_is_2 CR CP CS n)
    (sSeq (c__law_is_3 CR CP CS n)
    (sSeq (c__law_is_4 CR CP CS n)
    (sRet (fOrV (f2 isND (fVar 4) (fC .non)) (f2 eqM (fMeth CP "beside_rows" (m_Pair_beside_rows CR CP CS n) (f1 (attrD [CS] "rules") (fVar 0)) fNil) (fVar 4)))))))))
noncomputable def m__law_is (CR CP CS : Addr) (n : Nat) : List Dat → M Dat := runB 8 2 (g__law_is CR CP CS n)
noncomputable def c_law_1 (CR CP CS : Addr) (n : Nat) : Env' → M Flo :=
  sIf (fB (f2 notND (fVar 4) (fC .non)))
      (sSetB [] 8 (fL (newP CP (m_checked_rows CR CP CS n)) (fCons (fVar 3) (fCons (fVar 4) fNil))))
      sNext
noncomputable def c_law_2 (CR CP CS : Addr) (n : Nat) : Env' → M Flo :=
  sTail CS (m_text_of CR CP CS n) 2 8 5 6 7 9 10 11 12 13 (fL (m__law_shown CR CP CS n) (fCons (fVar 1) fNil)) (fMeth CS "shown" (m_Sheet_shown CR CP CS n) (fVar 10) fNil) (fOr (fNot (fTru (f1 isi_strD (fVar 12)))) (fOr (fB (f2 neM (fVar 12) (fVar 11))) (fNot (fTru (fL (m__law_is CR CP CS n) (fCons (fVar 10) (fCons (fVar 1) fNil))))))) (fB (f2 neM (fVar 9) (fL mkLst (fCons (fVar 2) (fCons (fVar 5) (fCons (fVar 6) (fCons (fVar 7) fNil))))))) (fAndV (f2 eqM (fMeth CS "shown" (m_Sheet_shown CR CP CS n) (fVar 10) fNil) (fVar 11)) (fL (m__law_is CR CP CS n) (fCons (fVar 10) (fCons (fVar 1) fNil))))
noncomputable def g_law (CR CP CS : Addr) (n : Nat) : Env' → M Flo :=
  (sSeq (sSetB [] 1 (fL (m__law_data CR CP CS n) (fCons (fVar 0) fNil)))
    (sSeq (sUnpB [] (.tp [2, 3, 4, 5, 6, 7]) (fVar 1))
    (sSeq (sSetB [] 8 (fL (newR CR (m_checked_rows CR CP CS n)) (fCons (fVar 3) fNil)))
    (sSeq (c_law_1 CR CP CS n)
    (c_law_2 CR CP CS n)))))
noncomputable def m_law (CR CP CS : Addr) (n : Nat) : List Dat → M Dat := runB 14 1 (g_law CR CP CS n)
noncomputable def top (i : Nat) : Stmt := PySem.Challenge.pw_wakeorder_k71_sheets_shown.main.body.getD i (.Pass ⟨0, 0, 0, 0⟩)
noncomputable abbrev s__law_number : Stmt := top 20
noncomputable abbrev s__law_name : Stmt := top 21
noncomputable abbrev s__law_cell_at : Stmt := top 19
noncomputable abbrev s__law_flight_name : Stmt := top 22
noncomputable abbrev s__law_gap : Stmt := top 23
noncomputable abbrev s__law_time : Stmt := top 24
noncomputable abbrev s__law_data : Stmt := top 25
noncomputable abbrev s_copied_rows : Stmt := top 9
noncomputable abbrev s_is_gap : Stmt := top 7
noncomputable abbrev s_is_gap_row : Stmt := top 8
noncomputable abbrev s_checked_rows : Stmt := top 10
noncomputable abbrev s_shown_gaps : Stmt := top 14
noncomputable abbrev s_Rules_gap_rows : Stmt := inClass (top 11) 4
noncomputable abbrev s_shown_flight : Stmt := top 15
noncomputable abbrev s_Pair_beside_rows : Stmt := inClass (top 12) 3
noncomputable abbrev s_text_of : Stmt := top 16
noncomputable abbrev s__law_shown : Stmt := top 29
noncomputable abbrev s_Sheet_shown : Stmt := inClass (top 17) 1
noncomputable abbrev s__law_whole : Stmt := top 26
noncomputable abbrev s__law_tuples : Stmt := top 27
noncomputable abbrev s_Rules_many_strips : Stmt := inClass (top 11) 2
noncomputable abbrev s_Pair_many_strips : Stmt := inClass (top 12) 1
noncomputable abbrev s__law_is : Stmt := top 28
noncomputable abbrev s_law : Stmt := top 30
noncomputable abbrev s_nR : Stmt := inClass (top 11) 0
noncomputable abbrev s_nP : Stmt := inClass (top 12) 0
noncomputable abbrev s_nS : Stmt := inClass (top 17) 0
structure Zs (K : PySem.W.Frag) (mg : Str → Option Value) (CR CP CS : Addr) : Prop where
  kR : Kls K mg "Rules" CR
  kP : Kls K mg "Pair" CP
  kS : Kls K mg "Sheet" CS
  ki_CR_CP : PySem.W.kitOne K (.ref CR) (.ref CP) = some false
  ki_CP_CP : PySem.W.kitOne K (.ref CP) (.ref CP) = some true
  ki_CS_CS : PySem.W.kitOne K (.ref CS) (.ref CS) = some true
  fld_gaps : ∀ C ∈ [CR, CP], Cls K C ∧ NoAttr K C "gaps"
  fld_beside : ∀ C ∈ [CP], Cls K C ∧ NoAttr K C "beside"
  fld_closed : ∀ C ∈ [CS], Cls K C ∧ NoAttr K C "closed"
  fld_flights : ∀ C ∈ [CS], Cls K C ∧ NoAttr K C "flights"
  fld_kinds : ∀ C ∈ [CS], Cls K C ∧ NoAttr K C "kinds"
  fld_names : ∀ C ∈ [CS], Cls K C ∧ NoAttr K C "names"
  fld_rules : ∀ C ∈ [CS], Cls K C ∧ NoAttr K C "rules"
  fld_text : ∀ C ∈ [CS], Cls K C ∧ NoAttr K C "text"
  naS : ∀ y ∈ (["kinds", "rules", "names", "flights", "closed", "text"] : List Str), NoAttr K CS y
  z_all : mg "all" = none
  z_bool : mg "bool" = none
  z_int : mg "int" = none
  z_isinstance : mg "isinstance" = none
  z_len : mg "len" = none
  z_list : mg "list" = none
  z_range : mg "range" = none
  z_sorted : mg "sorted" = none
  z_str : mg "str" = none
  z_tuple : mg "tuple" = none
  z_zip : mg "zip" = none
  g_GREATEST_GAP : ∃ t, mg "GREATEST_GAP" = some (.int 1000000 t)
  g_MOST_KINDS : ∃ t, mg "MOST_KINDS" = some (.int 6 t)
  kit : Kit K
  d__law_number : ∃ f fd, Def K mg "_law_number" s__law_number ["_law_script", "_law_k"] f fd
  d__law_name : ∃ f fd, Def K mg "_law_name" s__law_name ["_law_number_here", "_law_k"] f fd
  d__law_cell_at : ∃ f fd, Def K mg "_law_cell_at" s__law_cell_at ["_law_script", "_law_k"] f fd
  d__law_flight_name : ∃ f fd, Def K mg "_law_flight_name" s__law_flight_name ["_law_number_here", "_law_k"] f fd
  d__law_gap : ∃ f fd, Def K mg "_law_gap" s__law_gap ["_law_number_here"] f fd
  d__law_time : ∃ f fd, Def K mg "_law_time" s__law_time ["_law_number_here"] f fd
  d__law_data : ∃ f fd, Def K mg "_law_data" s__law_data ["_law_script"] f fd
  d_copied_rows : ∃ f fd, Def K mg "copied_rows" s_copied_rows ["rows"] f fd
  d_is_gap : ∃ f fd, Def K mg "is_gap" s_is_gap ["number"] f fd
  d_is_gap_row : ∃ f fd, Def K mg "is_gap_row" s_is_gap_row ["row", "kinds"] f fd
  d_checked_rows : ∃ f fd, Def K mg "checked_rows" s_checked_rows ["rows"] f fd
  d_shown_gaps : ∃ f fd, Def K mg "shown_gaps" s_shown_gaps ["word", "kinds", "rows", "least"] f fd
  d_shown_flight : ∃ f fd, Def K mg "shown_flight" s_shown_flight ["kinds", "name", "flight"] f fd
  d_text_of : ∃ f fd, Def K mg "text_of" s_text_of ["kinds", "rules", "names", "flights", "closed"] f fd
  d__law_shown : ∃ f fd, Def K mg "_law_shown" s__law_shown ["_law_data_here"] f fd
  d__law_whole : ∃ f fd, Def K mg "_law_whole" s__law_whole ["_law_found"] f fd
  d__law_tuples : ∃ f fd, Def K mg "_law_tuples" s__law_tuples ["_law_found", "_law_due", "_law_long"] f fd
  d__law_is : ∃ f fd, Def K mg "_law_is" s__law_is ["_law_sheet", "_law_data_here"] f fd
  d_law : ∃ f fd, Def K mg "law" s_law ["_law_script"] f fd ∧ ∀ (s : Shared) (v : Value), BindsTo s fd ⟨[v], []⟩ [("_law_script", v)]
  m_M_R_gap_rows : ∃ f fd, Mth K CR "gap_rows" "Rules.gap_rows" s_Rules_gap_rows ["self"] f fd
  m_M_P_gap_rows : ∃ f fd, Mth K CP "gap_rows" "Rules.gap_rows" s_Rules_gap_rows ["self"] f fd
  m_M_P_beside_rows : ∃ f fd, Mth K CP "beside_rows" "Pair.beside_rows" s_Pair_beside_rows ["self"] f fd
  m_M_R_many_strips : ∃ f fd, Mth K CR "many_strips" "Rules.many_strips" s_Rules_many_strips ["self"] f fd
  m_M_P_many_strips : ∃ f fd, Mth K CP "many_strips" "Pair.many_strips" s_Pair_many_strips ["self"] f fd
  m_M_S_shown : ∃ f fd, Mth K CS "shown" "Sheet.shown" s_Sheet_shown ["self"] f fd
  n_S : ∃ f fd, Mth K CS "__init__" "Sheet.__init__" s_nS ["self", "kinds", "rules", "names", "flights", "closed"] f fd
  n_R : ∃ f fd, Mth K CR "__init__" "Rules.__init__" s_nR ["self", "gaps"] f fd ∧ Stat K CR (.type "type") "__init__" f
  n_P : ∃ f fd, Mth K CP "__init__" "Pair.__init__" s_nP ["self", "gaps", "beside"] f fd
  ne : CR ≠ CP
noncomputable abbrev Zq (_ : Nat) (_ : Program) (_ : World) (_ : Heap) := Zs
theorem law_d {K : PySem.W.Frag} {mg : Str → Option Value} {x : Str} {st : Stmt} {ps : List Str} {q : FuncData → Prop} (h : ∃ f fd, Def K mg x st ps f fd ∧ q fd) : ∃ f fd, Def K mg x st ps f fd := let ⟨f, fd, D, _⟩ := h; ⟨f, fd, D⟩
theorem putGB (a b : V) : putF ("beside" : Str) b [(("gaps" : Str), a)] = [(("gaps" : Str), a), (("beside" : Str), b)] := by
  show (if ("gaps" : Str) = "beside" then _ else (("gaps" : Str), a) :: putF "beside" b []) = _
  rw [if_neg (by decide +kernel)]
  rfl
section
variable {n : Nat} {P : Program} {w : World} {base : Heap} {K : PySem.W.Frag} {mg : Str → Option Value} {CR CP CS : Addr} (Z : Zq n P w base K mg CR CP CS)
include Z
theorem ok__law_number : YO Z.d__law_number P w base 1 false (m__law_number CR CP CS n) :=
  fY ["_law_script", "_law_k", "_law_cells", "_law_cell", "_law_number_here"] fun z nd hr => (ds_cons (ds_sF nd (de_frz (de_sl x_sl (de_v 0) dp_none (dp_some de_int)))) (ds_cons (ds_sF nd (de_frz (de_op o_add (de_op o_mul de_int (de_v 1)) de_int))) (ds_cons (ds_if (dt_cmp o_gt (de_callB c_len Z.z_len PySem.boot_len (da1 (de_v 2))) de_int) (ds_one (ds_sF nd (de_op o_mod (de_ix x_ix (de_v 2) (de_op o_mod (de_v 1) (de_callB c_len Z.z_len PySem.boot_len (da1 (de_v 2))))) (de_op o_pow de_int de_int)))) ds_nil) (ds_cons (ds_sF nd (de_op o_mod (de_op o_mul (de_frz (de_op o_add (de_frz (de_op o_add (de_v 3) (de_op o_mul (de_op o_mul (de_v 1) (de_v 1)) de_int))) (de_callB c_len Z.z_len PySem.boot_len (da1 (de_v 2))))) de_int) de_int)) (ds_one (ds_ret (de_op o_mod (de_frz (de_op o_add (de_op o_mul (de_v 4) de_int) de_int)) de_int)))))))
theorem ok__law_name : YO Z.d__law_name P w base 1 false (m__law_name CR CP CS n) :=
  fY ["_law_number_here", "_law_k", "_law_letters", "_law_name_here", "_law_j"] fun z nd hr => (ds_cons (ds_sF nd de_str) (ds_cons (ds_sF nd (de_frz (de_op o_add (de_ix x_ixS (de_v 2) (de_op o_mod (de_v 0) de_int)) (de_ix x_ixS (de_v 2) (de_op o_mod (de_v 1) de_int))))) (ds_cons (ds_for (pt := .nm 4) (di_rng1 Z.z_range (da1 (de_op o_mod (de_op o_fdiv (de_v 0) de_int) de_int))) (dg_nm nd) (ds_cons (ds_sF nd (de_frz (de_op o_add (de_frz (de_op o_add (de_op o_mul (de_v 0) (de_v 0)) (de_op o_mul de_int (de_v 0)))) (de_v 4)))) (ds_cons (ds_sF nd (de_op o_mod (de_v 0) de_int)) (ds_one (ds_sF nd (de_frz (de_op o_add (de_v 3) (de_ix x_ixS (de_frz (de_op o_add (de_v 2) de_str)) (de_op o_mod (de_op o_fdiv (de_v 0) de_int) de_int))))))))) (ds_one (ds_ret (de_v 3))))))
theorem ok__law_cell_at : YO Z.d__law_cell_at P w base 1 false (m__law_cell_at CR CP CS n) :=
  fY ["_law_script", "_law_k"] fun z nd hr => (ds_cons (ds_if (dt_cmp o_lt (de_v 1) (de_callB c_len Z.z_len PySem.boot_len (da1 (de_v 0)))) (ds_one (ds_ret (de_op o_mod (de_ix x_ix (de_v 0) (de_v 1)) (de_op o_pow de_int de_int)))) ds_nil) (ds_one (ds_ret de_int)))
theorem ok__law_flight_name : YO Z.d__law_flight_name P w base 1 false (m__law_flight_name CR CP CS n) :=
  fY ["_law_number_here", "_law_k", "_law_name_here", "_law_j"] fun z nd hr => (ds_cons (ds_sF nd (de_frz (de_op o_add (de_ix x_ixS de_str (de_op o_mod (de_v 1) de_int)) (de_ix x_ixS de_str (de_op o_fdiv (de_v 1) de_int))))) (ds_cons (ds_for (pt := .nm 3) (di_rng1 Z.z_range (da1 (de_op o_mod (de_op o_fdiv (de_v 0) de_int) de_int))) (dg_nm nd) (ds_cons (ds_sF nd (de_frz (de_op o_add (de_frz (de_op o_add (de_op o_mul (de_v 0) (de_v 0)) (de_op o_mul de_int (de_v 0)))) (de_v 3)))) (ds_cons (ds_sF nd (de_op o_mod (de_v 0) de_int)) (ds_one (ds_sF nd (de_frz (de_op o_add (de_v 2) (de_ix x_ixS de_str (de_op o_mod (de_op o_fdiv (de_v 0) de_int) de_int))))))))) (ds_one (ds_ret (de_v 2)))))
theorem ok__law_gap : YO Z.d__law_gap P w base 1 false (m__law_gap CR CP CS n) :=
  fY ["_law_number_here"] fun z nd hr => (ds_one (ds_ret (de_ix x_ix (de_frz (de_lst (da4 (de_op o_mod (de_op o_fdiv (de_v 0) de_int) de_int) (de_op o_mod (de_op o_fdiv (de_v 0) de_int) (de_frz (de_op o_add (de_op o_pow de_int de_int) de_int))) de_int (de_op o_mod (de_op o_fdiv (de_v 0) de_int) de_int)))) (de_op o_mod (de_v 0) de_int))))
theorem ok__law_time : YO Z.d__law_time P w base 1 false (m__law_time CR CP CS n) :=
  fY ["_law_number_here"] fun z nd hr => (ds_one (ds_ret (de_ix x_ix (de_frz (de_lst (da3 (de_op o_mod (de_op o_fdiv (de_v 0) de_int) de_int) (de_op o_mod (de_op o_fdiv (de_v 0) de_int) (de_frz (de_op o_add (de_op o_pow de_int de_int) de_int))) (de_op o_mod (de_op o_fdiv (de_v 0) de_int) de_int)))) (de_op o_mod (de_v 0) de_int))))
theorem ok__law_data : YO Z.d__law_data P w base 2 false (m__law_data CR CP CS n) :=
  fY ["_law_script", "_law_kinds", "_law_k", "_law_gaps", "_law_beside", "_law_row", "_law_names", "_law_flights", "_law_many", "_law_number_here", "_law_times", "_law_closed"] fun z nd hr => (ds_cons (ds_sT nd (de_lst da_nil)) (ds_cons (ds_for (pt := .nm 2) (di_rng1 Z.z_range (da1 (de_frz (de_op o_add de_int (de_op o_mod (de_op o_mod (de_op o_mul (dY (ok__law_cell_at Z) hr (da2 (de_v 0) de_int)) de_int) de_int) de_int))))) (dg_nm nd) (ds_one (ds_appB (i := 1) (dY (ok__law_name Z) hr (da2 (dY (ok__law_number Z) hr (da2 (de_v 0) (de_v 2))) (de_v 2)))))) (ds_enter (O2 := []) (ds_cons (ds_sT nd (de_lst da_nil)) (ds_cons (ds_sT nd (de_lst da_nil)) (ds_enter (O2 := [3, 4]) (ds_cons (ds_for (pt := .nm 2) (di_rng1 Z.z_range (da1 (de_callB c_len Z.z_len PySem.boot_len (da1 (de_v 1))))) (dg_nm nd) (ds_cons (ds_compB (i := 5) false ["_law_j", "_law_script", "_law_kinds", "_law_k"] [none, some 0, some 1, some 2] nd (di_rng1 Z.z_range (da1 (de_callB c_len Z.z_len PySem.boot_len (da1 (de_v 1))))) (fun _ _ _ _ _ => dgc_nm (by decide +kernel)) (leaves_name rfl) (fun _ _ _ _ _ => dts_nil) (fun _ _ _ _ _ => (dY (ok__law_number Z) hr (da2 (de_v 1) (de_frz (de_op o_add (de_frz (de_op o_add de_int (de_op o_mul (de_v 3) (de_callB c_len Z.z_len PySem.boot_len (da1 (de_v 2)))))) (de_v 0))))))) (ds_cons (ds_appB (i := 3) (de_frz (de_comp ["_law_number_here"] [none] (di_seq (de_v 5)) (fun _ _ _ _ _ => dgc_nm (by decide +kernel)) (leaves_name rfl) (fun _ _ _ _ _ => dts_nil) (fun _ _ _ _ _ => (dY (ok__law_gap Z) hr (da1 (de_v 0))))))) (ds_one (ds_appB (i := 4) (de_frz (de_comp ["_law_number_here"] [none] (di_seq (de_v 5)) (fun _ _ _ _ _ => dgc_nm (by decide +kernel)) (leaves_name rfl) (fun _ _ _ _ _ => dts_nil) (fun _ _ _ _ _ => (dY (ok__law_gap Z) hr (da1 (de_op o_fdiv (de_v 0) de_int))))))))))) (ds_enter (O2 := []) (ds_cons (ds_if (dt_cmp (o_eq hr.units) (de_op o_mod (dY (ok__law_cell_at Z) hr (da2 (de_v 0) de_int)) de_int) de_int) (ds_one (ds_sF nd de_non)) ds_nil) (ds_cons (ds_sT nd (de_lst da_nil)) (ds_cons (ds_sT nd (de_lst da_nil)) (ds_enter (O2 := [6, 7]) (ds_cons (ds_sF nd (de_op o_mod (de_op o_mod (de_op o_mul (dY (ok__law_cell_at Z) hr (da2 (de_v 0) de_int)) de_int) de_int) de_int)) (ds_cons (ds_if (dt_cmp (o_eq hr.units) (de_op o_mod (de_op o_fdiv (dY (ok__law_cell_at Z) hr (da2 (de_v 0) de_int)) de_int) de_int) de_int) (ds_one (ds_sF nd de_int)) ds_nil) (ds_cons (ds_for (pt := .nm 2) (di_rng1 Z.z_range (da1 (de_v 8))) (dg_nm nd) (ds_cons (ds_sF nd (dY (ok__law_number Z) hr (da2 (de_v 0) (de_frz (de_op o_add de_int (de_v 2)))))) (ds_cons (ds_sF nd (de_frz (de_callB c_sorted Z.z_sorted boot_sorted (da1 (de_frz (de_lst (da2 (dY (ok__law_time Z) hr (da1 (de_v 9))) (dY (ok__law_time Z) hr (da1 (de_op o_fdiv (de_v 9) de_int)))))))))) (ds_cons (ds_appB (i := 6) (dY (ok__law_flight_name Z) hr (da2 (de_op o_fdiv (de_v 9) de_int) (de_v 2)))) (ds_one (ds_appB (i := 7) (de_tup (da5 (de_op o_mod (de_v 9) (de_callB c_len Z.z_len PySem.boot_len (da1 (de_v 1)))) (de_ix x_ix (de_v 10) de_int) (de_ix x_ix (de_v 10) de_int) (dY (ok__law_time Z) hr (da1 (de_op o_fdiv (de_v 9) de_int))) (dY (ok__law_time Z) hr (da1 (de_op o_fdiv (de_v 9) de_int))))))))))) (ds_enter (O2 := []) (ds_cons (ds_sT nd (de_lst da_nil)) (ds_cons (ds_for (pt := .nm 2) (di_rng1 Z.z_range (da1 (de_op o_mod (de_op o_fdiv (dY (ok__law_number Z) hr (da2 (de_v 0) de_int)) de_int) de_int))) (dg_nm nd) (ds_cons (ds_sF nd (de_frz (de_callB c_sorted Z.z_sorted boot_sorted (da1 (de_frz (de_lst (da2 (dY (ok__law_time Z) hr (da1 (dY (ok__law_number Z) hr (da2 (de_v 0) (de_frz (de_op o_add de_int (de_v 2))))))) (dY (ok__law_time Z) hr (da1 (dY (ok__law_number Z) hr (da2 (de_v 0) (de_frz (de_op o_add de_int (de_v 2)))))))))))))) (ds_one (ds_appB (i := 11) (de_tup (da2 (de_op o_fdiv (de_ix x_ix (de_v 10) de_int) de_int) (de_frz (de_op o_add (de_op o_fdiv (de_ix x_ix (de_v 10) de_int) de_int) de_int)))))))) (ds_enter (O2 := []) (ds_one (ds_ret (de_tup (da6 (de_v 1) (de_v 3) (de_v 4) (de_v 6) (de_v 7) (de_v 11))))))))))))))))))))))))
theorem ok_copied_rows : YO Z.d_copied_rows P w base 1 false (m_copied_rows CR CP CS n) :=
  fY ["rows"] fun z nd hr => (ds_one (ds_ret (de_frz (de_comp ["row"] [none] (di_seq (de_v 0)) (fun _ _ _ _ _ => dgc_nm (by decide +kernel)) (leaves_name rfl) (fun _ _ _ _ _ => dts_nil) (fun _ _ _ _ _ => (de_frz (de_callTy c_list Z.z_list PyProof.Rows.boot_list (da1 (de_v 0)))))))))
theorem ok_is_gap : YO Z.d_is_gap P w base 1 false (m_is_gap CR CP CS n) :=
  fY ["number"] fun z nd hr => (ds_cons (ds_if (PW.pt (dw_or (dt_not (dt_tru (de_isi_int Z.kit Z.z_isinstance Z.z_int (de_v 0)))) (dw_or1 (dt_tru (de_isi_bool Z.kit Z.z_isinstance Z.z_bool (de_v 0)))))) (ds_one (ds_ret de_bl)) ds_nil) (ds_one (ds_ret (de_chain o_le o_le de_int (de_v 0) (de_gint Z.g_GREATEST_GAP)))))
theorem ok_is_gap_row : YO Z.d_is_gap_row P w base 2 false (m_is_gap_row CR CP CS n) :=
  fY ["row", "kinds"] fun z nd hr => (ds_one (ds_ret (de_and (de_isi_list Z.kit Z.z_isinstance Z.z_list (de_v 0)) (de_and (de_cmp (o_eq hr.units) (de_callB c_len Z.z_len PySem.boot_len (da1 (de_v 0))) (de_v 1)) (de_one (de_callB (c_all rfl) Z.z_all boot_all (da1 (de_frz (de_comp ["number"] [none] (di_seq (de_v 0)) (fun _ _ _ _ _ => dgc_nm (by decide +kernel)) (leaves_name rfl) (fun _ _ _ _ _ => dts_nil) (fun _ _ _ _ _ => (dY (ok_is_gap Z) hr (da1 (de_v 0)))))))))))))
theorem ok_checked_rows : YO Z.d_checked_rows P w base 3 false (m_checked_rows CR CP CS n) :=
  fY ["rows", "kinds"] fun z nd hr => (ds_cons (ds_sF nd (de_callB c_len Z.z_len PySem.boot_len (da1 (de_v 0)))) (ds_cons (ds_if (dt_not (dt_chain o_le o_le de_int (de_v 1) (de_gint Z.g_MOST_KINDS))) (ds_one ds_stk) ds_nil) (ds_cons (ds_if (dt_not (dt_tru (de_callB (c_all rfl) Z.z_all boot_all (da1 (de_frz (de_comp ["row", "kinds"] [none, some 1] (di_seq (de_v 0)) (fun _ _ _ _ _ => dgc_nm (by decide +kernel)) (leaves_name rfl) (fun _ _ _ _ _ => dts_nil) (fun _ _ _ _ _ => (dY (ok_is_gap_row Z) hr (da2 (de_v 0) (de_v 1)))))))))) (ds_one ds_stk) ds_nil) (ds_one (ds_ret (dY (ok_copied_rows Z) hr (da1 (de_v 0))))))))
end
theorem sc_nR : FnScope ["self", "gaps"] ["self", "gaps"] (defScope s_nR) := ⟨rfl, rfl, rfl, by decide +kernel, rfl, by decide +kernel, by decide +kernel⟩
theorem okn_R {n : Nat} {P : Program} {w : World} {K : PySem.W.Frag} {mg : Str → Option Value} {base : Heap} {CR CP CS : Addr} {C f_checked_rows f : Addr} {fd_checked_rows fd : FuncData} (D_checked_rows : Def K mg "checked_rows" s_checked_rows ["rows"] f_checked_rows fd_checked_rows) (OK : FnOk P w K mg base CX0 3 f_checked_rows fd_checked_rows ["rows"] (spF K false (m_checked_rows CR CP CS n) 1))
    (N : Fun K "__init__" "Rules.__init__" s_nR f fd) (cl : Cls K C) (na : NoAttr K C "gaps") : FnOk P w K mg base CX0 4 f fd ["self", "gaps"] (spI1 K C (m_checked_rows CR CP CS n)) := by
  refine N.okX sc_nR (fun vs H Q E h => ?_) (fun cdv A outer s H vs Q E hr h => ?_)
  · obtain ⟨p, dx, v, F, d, rfl, _⟩ := h
    rfl
  · obtain ⟨p, dx, v, F, d, rfl, hp, hF, s1, qd, q⟩ := h
    refine ⟨_, pss_one (ps_fld (pv 0) (pe_call OK hr (by rfl) D_checked_rows.mg D_checked_rows.fn.kp D_checked_rows.bd .nil pass0 (pa_cons (pv 1) pa_nil)) rfl), ?_⟩
    refine ⟨v, rfl, F, [d], s1, ⟨v, [], rfl, qd, rfl⟩, rfl, ?_⟩
    skip
    cases hg : m_checked_rows CR CP CS n [d] with
    | error e => rw [hg] at q; exact q
    | ok r =>
      rw [hg] at q
      intro u F' H' st qw
      have hF1 : F' p = none := by
        cases hz : F' p with
        | none => rfl
        | some o =>
          rcases st.nw p o hz with z | z
          · rw [hF] at z; cases z
          · rw [hp] at z; cases z
      refine ⟨_, rfl, p, C, dx, [], rfl, st.hh _ _ hp, cl, na, (by show 0 < 1000; decide), ?_⟩
      refine q u F' _ st.ff (fun c o e => ?_) hF1 st.nw (fun c o e hc => by rw [upd_ne hc]; exact st.hh _ _ e) upd_same qw
      have hc : c ≠ p := fun z => by rw [z, hF1] at e; cases e
      rw [upd_ne hc]
      exact st.fh _ _ e
theorem sc_nP : FnScope ["self", "gaps", "beside"] ["self", "gaps", "beside"] (defScope s_nP) := ⟨rfl, rfl, rfl, by decide +kernel, rfl, by decide +kernel, by decide +kernel⟩
theorem okn_P {n : Nat} {P : Program} {w : World} {K : PySem.W.Frag} {mg : Str → Option Value} {base : Heap} {CR CP CS : Addr} {f_checked_rows f fR : Addr} {fd_checked_rows fd fdR : FuncData} {mc : Value} (D_checked_rows : Def K mg "checked_rows" s_checked_rows ["rows"] f_checked_rows fd_checked_rows) (OK : FnOk P w K mg base CX0 3 f_checked_rows fd_checked_rows ["rows"] (spF K false (m_checked_rows CR CP CS n) 1))
    (S : Stat K CR mc "__init__" fR) (bI : Binds K fdR ["self", "gaps"] []) (FI : FnOk P w K mg base CX0 4 fR fdR ["self", "gaps"] (spI1 K CP (m_checked_rows CR CP CS n))) (mR : mg "Rules" = some (.ref CR)) (zl : mg "len" = none)
    (N : Fun K "__init__" "Pair.__init__" s_nP f fd) (cl : Cls K CP) (na : NoAttr K CP "gaps") (nb : NoAttr K CP "beside") : FnOk P w K mg base CX0 5 f fd ["self", "gaps", "beside"] (spI2 K CP (m_checked_rows CR CP CS n)) := by
  refine N.okX sc_nP (fun vs H Q E h => ?_) (fun cdv A outer s H vs Q E hr h => ?_)
  · obtain ⟨p, dx, v, v2, F, d, d2, rfl, _⟩ := h
    rfl
  · obtain ⟨p, dx, v, v2, F, d, d2, rfl, hp, hF, s1, qd, qd2, q⟩ := h
    refine ⟨_, pss_cons (ps_expr (pe_cmeth S (by rfl) mR FI hr bI .nil pass0 (pa_cons (pv 0) (pa_cons (pv 1) pa_nil))))
      (pss_cons (ps_fld (pv 0) (pe_call OK (hr.mono (by decide)) (by rfl) D_checked_rows.mg D_checked_rows.fn.kp D_checked_rows.bd .nil pass0 (pa_cons (pv 2) pa_nil)) rfl)
      (pss_one (ps_if (pt_cmpR op_ne (pe_callB call_len_seq (by rfl) zl PySem.boot_len (pa_cons (pe_fld (pv 0) rfl) pa_nil)) (pe_callB call_len_seq (by rfl) zl PySem.boot_len (pa_cons (pe_fld (pv 0) rfl) pa_nil)) (nomark _)) pss_never pss_nil))), ?_⟩
    refine ⟨_, rfl, _, rfl, p, dx, v, F, d, rfl, hp, hF, s1, qd, ?_⟩
    cases hg : m_checked_rows CR CP CS n [d] with
    | error e => rw [hg] at q; exact q
    | ok r =>
      rw [hg, bind_ok] at q
      intro u F1 H1 a1 a2 a3 a4 a5 a6 a7
      refine ⟨v2, rfl, F1, [d2], a2, ⟨v2, [], rfl, Deep.mono a1 qd2, rfl⟩, rfl, ?_⟩
      skip
      cases hg2 : m_checked_rows CR CP CS n [d2] with
      | error e => rw [hg2] at q; exact False.elim q
      | ok r2 =>
        rw [hg2, bind_ok] at q
        intro u2 F2 H2 st qw
        by_cases ht : twoL r r2 = true
        · rw [if_pos ht] at q
          have hF2 : F2 p = none := by
            cases hz : F2 p with
            | none => rfl
            | some o =>
              rcases st.nw p o hz with z | z
              · rw [a3] at z; cases z
              · rw [a6] at z; cases z
          refine ⟨_, rfl, p, CP, dx, _, rfl, st.hh _ _ a6, cl, nb, (by show 1 < 1000; decide), ?_⟩
          rw [putGB]
          have s3 : Same F2 (upd H2 p (.ins CP dx [("gaps", u), ("beside", u2)])) := fun c o e => by
            have hc : c ≠ p := fun z => by rw [z, hF2] at e; cases e
            rw [upd_ne hc]
            exact st.fh _ _ e
          cases r with
          | lst xs =>
            cases r2 with
            | lst ys =>
              have hl : xs.length = ys.length := of_decide_eq_true ht
              obtain ⟨g1, xs1, e1, t1, z1⟩ := Deep.mono st.ff a7
              obtain ⟨g2, xs2, e2, t2, z2⟩ := id qw
              refine ⟨_, rfl, p, CP, dx, _, _, rfl, upd_same, cl, nb, rfl, g2, _, by rw [e2], .inl (s3.lst t2), _, rfl, p, CP, dx, _, _, rfl, upd_same, cl, na, rfl, g1, _, by rw [e1], .inl (s3.lst t1), rfl, _, rfl, ?_⟩
              refine iteNS (by rw [z1.length, z2.length, hl]) ?_
              refine q u u2 F2 _ (a1.trans st.ff) s3 hF2 (fun b o e => ?_) (fun c o e hc => by rw [upd_ne hc]; exact st.hh _ _ (a5 c o e hc)) upd_same (Deep.mono st.ff a7) qw
              rcases st.nw b o e with z | z
              · exact a4 b o z
              · refine .inr ?_
                cases hz : H b with
                | none => rfl
                | some o' =>
                  by_cases hb : b = p
                  · subst hb; rw [hF2] at e; cases e
                  · rw [a5 b o' hz hb] at z; cases z
            | _ => cases ht
          | _ => cases ht
        · rw [if_neg ht] at q; exact False.elim q
section
variable {n : Nat} {P : Program} {w : World} {base : Heap} {K : PySem.W.Frag} {mg : Str → Option Value} {CR CP CS : Addr} (Z : Zq n P w base K mg CR CP CS)
include Z
theorem ok_shown_gaps : YO Z.d_shown_gaps P w base 1 true (m_shown_gaps CR CP CS n) :=
  fY ["word", "kinds", "rows", "least", "shown", "kind", "row", "other", "gap"] fun z nd hr => (ds_cons (ds_sT nd (de_lst da_nil)) (ds_cons (ds_for (pt := .tp [5, 6]) (di_zip Z.z_zip (de_v 1) (de_v 2)) (dg_tp rfl (dgs_cons (i := 5) nd (dgs_cons (i := 6) nd dgs_nil))) (ds_one (ds_for (pt := .tp [7, 8]) (di_zip Z.z_zip (de_v 1) (de_v 6)) (dg_tp rfl (dgs_cons (i := 7) nd (dgs_cons (i := 8) nd dgs_nil))) (ds_one (ds_if (dt_cmp o_ge (de_v 8) (de_v 3)) (ds_one (ds_appB (i := 4) (de_fstr (dj_cons (de_fmt (de_v 0)) (dj_cons de_str (dj_cons (de_fmt (de_v 5)) (dj_cons de_str (dj_cons (de_fmt (de_v 7)) (dj_cons de_str (dj_cons (de_fmt (de_v 8)) dj_nil)))))))))) ds_nil))))) (ds_one (ds_retV (i := 4)))))
theorem okM_R_gap_rows : YM Z.m_M_R_gap_rows P w mg base 2 false (m_Rules_gap_rows CR CP CS n) :=
  fM ["self"] fun z nd hr => (ds_one (ds_ret (dY (ok_copied_rows Z) hr (da1 (de_fld (Cs := [CR, CP]) Z.fld_gaps (de_v 0))))))
theorem okM_P_gap_rows : YM Z.m_M_P_gap_rows P w mg base 2 false (m_Rules_gap_rows CR CP CS n) :=
  fM ["self"] fun z nd hr => (ds_one (ds_ret (dY (ok_copied_rows Z) hr (da1 (de_fld (Cs := [CR, CP]) Z.fld_gaps (de_v 0))))))
theorem ok_shown_flight : YO Z.d_shown_flight P w base 1 false (m_shown_flight CR CP CS n) :=
  fY ["kinds", "name", "flight", "words"] fun z nd hr => (ds_cons (ds_sF nd (de_frz (de_op o_add (de_frz (de_lst (da3 de_str (de_v 1) (de_ix x_ix (de_v 0) (de_ix x_ix (de_v 2) de_int))))) (de_frz (de_comp ["number"] [none] (di_seq (de_frz (de_sl x_sl (de_v 2) (dp_some de_int) dp_none))) (fun _ _ _ _ _ => dgc_nm (by decide +kernel)) (leaves_name rfl) (fun _ _ _ _ _ => dts_nil) (fun _ _ _ _ _ => (de_callTy c_str Z.z_str PyProof.Rows.boot_str (da1 (de_v 0))))))))) (ds_one (ds_ret (de_sm mt_join PySem.F.slot_str_join PySem.F.type_str_join de_str (de_v 3)))))
theorem okM_P_beside_rows : YM Z.m_M_P_beside_rows P w mg base 2 false (m_Pair_beside_rows CR CP CS n) :=
  fM ["self"] fun z nd hr => (ds_one (ds_ret (dY (ok_copied_rows Z) hr (da1 (de_fld (Cs := [CP]) Z.fld_beside (de_v 0))))))
theorem ok_text_of : YO Z.d_text_of P w base 3 false (m_text_of CR CP CS n) :=
  fY ["kinds", "rules", "names", "flights", "closed", "rows"] fun z nd hr => let ⟨_, _, M_P_beside_rows, OKM_P_beside_rows⟩ := okM_P_beside_rows Z; let ⟨_, _, M_P_gap_rows, OKM_P_gap_rows⟩ := okM_P_gap_rows Z; let ⟨_, _, M_R_gap_rows, OKM_R_gap_rows⟩ := okM_R_gap_rows Z; (ds_cons (ds_compB (i := 5) true ["name"] [none] nd (di_seq (de_v 0)) (fun _ _ _ _ _ => dgc_nm (by decide +kernel)) (leaves_name rfl) (fun _ _ _ _ _ => dts_nil) (fun _ _ _ _ _ => (de_fstr (dj_cons de_str (dj_cons (de_fmt (de_v 0)) dj_nil))))) (ds_cons (ds_ext (i := 5) (dY (ok_shown_gaps Z) hr (da4 de_str (de_v 0) (de_meth2z Z.kR.cl M_R_gap_rows.mt OKM_R_gap_rows hr M_R_gap_rows.bd Z.kP.cl M_P_gap_rows.mt OKM_P_gap_rows hr M_P_gap_rows.bd (de_v 1)) de_int))) (ds_cons (ds_if (dt_tru (de_isiC (tb := [(CR, false), (CP, true)]) (isi2 ⟨⟨_, Z.kR⟩, Z.ki_CR_CP⟩ ⟨⟨_, Z.kP⟩, Z.ki_CP_CP⟩) Z.z_isinstance Z.kP.mg (de_v 1))) (ds_one (ds_ext (i := 5) (dY (ok_shown_gaps Z) hr (da4 de_str (de_v 0) (de_meth1z Z.kP.cl M_P_beside_rows.mt OKM_P_beside_rows hr M_P_beside_rows.bd (de_v 1)) de_int)))) ds_nil) (ds_cons (ds_ext (i := 5) (de_comp ["start", "stop"] [none, none] (di_seq (de_v 4)) (fun _ _ _ _ _ => dg_tp rfl (dgcs_cons (i := 0) (by decide +kernel) (dgcs_cons (i := 1) (by decide +kernel) dgs_nil))) (leaves_tp (by decide)) (fun _ _ _ _ _ => dts_nil) (fun _ _ _ _ _ => (de_fstr (dj_cons de_str (dj_cons (de_fmt (de_v 0)) (dj_cons de_str (dj_cons (de_fmt (de_v 1)) dj_nil)))))))) (ds_cons (ds_ext (i := 5) (de_comp ["name", "flight", "kinds"] [none, none, some 0] (di_zip Z.z_zip (de_v 2) (de_v 3)) (fun _ _ _ _ _ => dg_tp rfl (dgcs_cons (i := 0) (by decide +kernel) (dgcs_cons (i := 1) (by decide +kernel) dgs_nil))) (leaves_tp (by decide)) (fun _ _ _ _ _ => dts_nil) (fun _ _ _ _ _ => (dY (ok_shown_flight Z) hr (da3 (de_v 2) (de_v 0) (de_v 1)))))) (ds_enter (O2 := []) (ds_one (ds_ret (de_sm mt_join PySem.F.slot_str_join PySem.F.type_str_join de_str (de_frz (de_comp ["row"] [none] (di_seq (de_v 5)) (fun _ _ _ _ _ => dgc_nm (by decide +kernel)) (leaves_name rfl) (fun _ _ _ _ _ => dts_nil) (fun _ _ _ _ _ => (de_frz (de_op o_add (de_v 0) de_str))))))))))))))
end
theorem sc_nS : FnScope ["self", "kinds", "rules", "names", "flights", "closed"] ["self", "kinds", "rules", "names", "flights", "closed"] (defScope s_nS) := ⟨rfl, rfl, rfl, by decide +kernel, rfl, by decide +kernel, by decide +kernel⟩
theorem okn_S {n : Nat} {P : Program} {w : World} {K : PySem.W.Frag} {mg : Str → Option Value} {base : Heap} {CR CP CS : Addr} {C f_t f : Addr} {fd_t fd : FuncData} (D : Def K mg "text_of" s_text_of ["kinds", "rules", "names", "flights", "closed"] f_t fd_t) (OK : FnOk P w K mg base CX0 3 f_t fd_t ["kinds", "rules", "names", "flights", "closed"] (spF K false (m_text_of CR CP CS n) 5)) (N : Fun K "__init__" "Sheet.__init__" s_nS f fd) (cl : Cls K C)
    (na : ∀ y ∈ (["kinds", "rules", "names", "flights", "closed", "text"] : List Str), NoAttr K C y) (zl : mg "list" = none) : FnOk P w K mg base CX0 4 f fd ["self", "kinds", "rules", "names", "flights", "closed"] (spIS K C (m_text_of CR CP CS n)) :=
  N.okX sc_nS (fun vs H Q E h => by obtain ⟨_, _, _, _, _, _, _, _, _, _, _, _, _, _, _, _, _, _, rfl, _⟩ := h; rfl) fun cdv A outer s H vs Q E hr h =>
    ⟨_, pss_cons (ps_fld (pv 0) (pe_callTy call_list_of rfl zl PyProof.Rows.boot_list (pa_cons (pv 1) pa_nil)) rfl) (pss_cons (ps_fld (pv 0) (pv 2) rfl) (pss_cons (ps_fld (pv 0) (pe_callTy call_list_of rfl zl PyProof.Rows.boot_list (pa_cons (pv 3) pa_nil)) rfl) (pss_cons (ps_fld (pv 0) (pe_callTy call_list_of rfl zl PyProof.Rows.boot_list (pa_cons (pv 4) pa_nil)) rfl)
      (pss_cons (ps_fld (pv 0) (pe_callTy call_list_of rfl zl PyProof.Rows.boot_list (pa_cons (pv 5) pa_nil)) rfl) (pss_one (ps_fld (pv 0) (pe_call OK hr (by rfl) D.mg D.fn.kp D.bd .nil pass0 (pa_cons (pv 1) (pa_cons (pv 2) (pa_cons (pv 3) (pa_cons (pv 4) (pa_cons (pv 5) pa_nil)))))) rfl)))))), rs_initS cl na h⟩
section
variable {n : Nat} {P : Program} {w : World} {base : Heap} {K : PySem.W.Frag} {mg : Str → Option Value} {CR CP CS : Addr} (Z : Zq n P w base K mg CR CP CS)
include Z
theorem ok__law_shown : YO Z.d__law_shown P w base 1 false (m__law_shown CR CP CS n) :=
  fY ["_law_data_here", "_law_kinds", "_law_gaps", "_law_beside", "_law_names", "_law_flights", "_law_closed", "_law_text", "_law_kind", "_law_k", "_law_j", "_law_row", "_law_start", "_law_stop", "_law_name_here", "_law_flight", "_law_number_here"] fun z nd hr => (ds_cons (ds_unpB (de_v 0) (dg_tp rfl (dgs_cons (i := 1) nd (dgs_cons (i := 2) nd (dgs_cons (i := 3) nd (dgs_cons (i := 4) nd (dgs_cons (i := 5) nd (dgs_cons (i := 6) nd dgs_nil)))))))) (ds_cons (ds_sF nd de_str) (ds_cons (ds_for (pt := .nm 8) (di_seq (de_v 1)) (dg_nm nd) (ds_one (ds_sF nd (de_frz (de_op o_add (de_frz (de_op o_add (de_frz (de_op o_add (de_v 7) de_str)) (de_v 8))) de_str))))) (ds_cons (ds_for (pt := .nm 9) (di_rng1 Z.z_range (da1 (de_callB c_len Z.z_len PySem.boot_len (da1 (de_v 1))))) (dg_nm nd) (ds_one (ds_for (pt := .nm 10) (di_rng1 Z.z_range (da1 (de_callB c_len Z.z_len PySem.boot_len (da1 (de_v 1))))) (dg_nm nd) (ds_one (ds_if (dt_cmp o_gt (de_ix x_ix (de_ix x_ix (de_v 2) (de_v 9)) (de_v 10)) de_int) (ds_one (ds_sF nd (de_frz (de_op o_add (de_frz (de_op o_add (de_v 7) (de_sm mt_join PySem.F.slot_str_join PySem.F.type_str_join de_str (de_frz (de_lst (da4 de_str (de_ix x_ix (de_v 1) (de_v 9)) (de_ix x_ix (de_v 1) (de_v 10)) (de_callTy c_str Z.z_str PyProof.Rows.boot_str (da1 (de_ix x_ix (de_ix x_ix (de_v 2) (de_v 9)) (de_v 10)))))))))) de_str)))) ds_nil))))) (ds_cons (ds_if (dt_cmp o_notN (de_v 3) de_non) (ds_one (ds_for (pt := .nm 9) (di_rng1 Z.z_range (da1 (de_callB c_len Z.z_len PySem.boot_len (da1 (de_v 1))))) (dg_nm nd) (ds_one (ds_for (pt := .nm 10) (di_rng1 Z.z_range (da1 (de_callB c_len Z.z_len PySem.boot_len (da1 (de_v 1))))) (dg_nm nd) (ds_cons (ds_sF nd (de_sm mt_join PySem.F.slot_str_join PySem.F.type_str_join de_str (de_frz (de_lst (da4 de_str (de_ix x_ix (de_v 1) (de_v 9)) (de_ix x_ix (de_v 1) (de_v 10)) (de_callTy c_str Z.z_str PyProof.Rows.boot_str (da1 (de_ix x_ix (de_ix x_ix (de_v 3) (de_v 9)) (de_v 10))))))))) (ds_one (ds_sF nd (de_frz (de_op o_add (de_frz (de_op o_add (de_v 7) (de_v 11))) de_str))))))))) ds_nil) (ds_cons (ds_for (pt := .tp [12, 13]) (di_seq (de_v 6)) (dg_tp rfl (dgs_cons (i := 12) nd (dgs_cons (i := 13) nd dgs_nil))) (ds_one (ds_sF nd (de_frz (de_op o_add (de_frz (de_op o_add (de_frz (de_op o_add (de_frz (de_op o_add (de_frz (de_op o_add (de_v 7) de_str)) (de_callTy c_str Z.z_str PyProof.Rows.boot_str (da1 (de_v 12))))) de_str)) (de_callTy c_str Z.z_str PyProof.Rows.boot_str (da1 (de_v 13))))) de_str))))) (ds_cons (ds_for (pt := .tp [14, 15]) (di_zip Z.z_zip (de_v 4) (de_v 5)) (dg_tp rfl (dgs_cons (i := 14) nd (dgs_cons (i := 15) nd dgs_nil))) (ds_cons (ds_sF nd (de_frz (de_op o_add (de_frz (de_op o_add (de_frz (de_op o_add (de_frz (de_op o_add (de_v 7) de_str)) (de_v 14))) de_str)) (de_ix x_ix (de_v 1) (de_ix x_ix (de_v 15) de_int))))) (ds_cons (ds_for (pt := .nm 16) (di_seq (de_frz (de_sl x_sl (de_v 15) (dp_some de_int) dp_none))) (dg_nm nd) (ds_one (ds_sF nd (de_frz (de_op o_add (de_frz (de_op o_add (de_v 7) de_str)) (de_callTy c_str Z.z_str PyProof.Rows.boot_str (da1 (de_v 16)))))))) (ds_one (ds_sF nd (de_frz (de_op o_add (de_v 7) de_str))))))) (ds_one (ds_ret (de_v 7))))))))))
theorem okM_S_shown : YM Z.m_M_S_shown P w mg base 1 false (m_Sheet_shown CR CP CS n) :=
  fM ["self"] fun z nd hr => (ds_one (ds_ret (de_fld (Cs := [CS]) Z.fld_text (de_v 0))))
theorem ok__law_whole : YO Z.d__law_whole P w base 1 false (m__law_whole CR CP CS n) :=
  fY ["_law_found"] fun z nd hr => (ds_one (ds_ret (de_and (de_isi_int Z.kit Z.z_isinstance Z.z_int (de_v 0)) (de_one (de_not (de_isi_bool Z.kit Z.z_isinstance Z.z_bool (de_v 0)))))))
theorem ok__law_tuples : YO Z.d__law_tuples P w base 2 false (m__law_tuples CR CP CS n) :=
  fY ["_law_found", "_law_due", "_law_long", "_law_one"] fun z nd hr => (ds_cons (ds_if (PW.pt (dw_or (dt_not (dt_tru (de_isi_list Z.kit Z.z_isinstance Z.z_list (de_v 0)))) (dw_or1 (dt_cmp (o_ne hr.units) (de_v 0) (de_v 1))))) (ds_one (ds_ret de_bl)) ds_nil) (ds_cons (ds_for (pt := .nm 3) (di_seq (de_v 0)) (dg_nm nd) (ds_cons (ds_if (PW.pt (dw_or (dt_not (dt_tru (de_isi_tuple Z.kit Z.z_isinstance Z.z_tuple (de_v 3)))) (dw_or1 (dt_cmp (o_ne hr.units) (de_callB c_len Z.z_len PySem.boot_len (da1 (de_v 3))) (de_v 2))))) (ds_one (ds_ret de_bl)) ds_nil) (ds_one (ds_if (dt_not (dt_tru (de_callB (c_all rfl) Z.z_all boot_all (da1 (de_frz (de_comp ["_law_number_here"] [none] (di_seq (de_v 3)) (fun _ _ _ _ _ => dgc_nm (by decide +kernel)) (leaves_name rfl) (fun _ _ _ _ _ => dts_nil) (fun _ _ _ _ _ => (dY (ok__law_whole Z) hr (da1 (de_v 0)))))))))) (ds_one (ds_ret de_bl)) ds_nil)))) (ds_one (ds_ret de_bl))))
theorem okM_R_many_strips : YM Z.m_M_R_many_strips P w mg base 1 false (m_Rules_many_strips CR CP CS n) :=
  fM ["self"] fun z nd hr => (ds_one (ds_ret de_int))
theorem okM_P_many_strips : YM Z.m_M_P_many_strips P w mg base 1 false (m_Pair_many_strips CR CP CS n) :=
  fM ["self"] fun z nd hr => (ds_one (ds_ret de_int))
theorem ok__law_is : YO Z.d__law_is P w base 3 false (m__law_is CR CP CS n) :=
  fY ["_law_sheet", "_law_data_here", "_law_kinds", "_law_gaps", "_law_beside", "_law_names", "_law_flights", "_law_closed"] fun z nd hr => let ⟨_, _, M_P_beside_rows, OKM_P_beside_rows⟩ := okM_P_beside_rows Z; let ⟨_, _, M_P_gap_rows, OKM_P_gap_rows⟩ := okM_P_gap_rows Z; let ⟨_, _, M_P_many_strips, OKM_P_many_strips⟩ := okM_P_many_strips Z; let ⟨_, _, M_R_gap_rows, OKM_R_gap_rows⟩ := okM_R_gap_rows Z; let ⟨_, _, M_R_many_strips, OKM_R_many_strips⟩ := okM_R_many_strips Z; (ds_cons (ds_unpB (de_v 1) (dg_tp rfl (dgs_cons (i := 2) nd (dgs_cons (i := 3) nd (dgs_cons (i := 4) nd (dgs_cons (i := 5) nd (dgs_cons (i := 6) nd (dgs_cons (i := 7) nd dgs_nil)))))))) (ds_cons (ds_if (dt_not (dt_tru (de_isiC (tb := [(CS, true)]) (isi1 ⟨⟨_, Z.kS⟩, Z.ki_CS_CS⟩) Z.z_isinstance Z.kS.mg (de_v 0)))) (ds_one (ds_ret de_bl)) ds_nil) (ds_cons (ds_if (PW.pt (dw_or (dt_cmp (o_ne hr.units) (de_fld (Cs := [CS]) Z.fld_kinds (de_v 0)) (de_v 2)) (dw_or1 (dt_cmp (o_ne hr.units) (de_fld (Cs := [CS]) Z.fld_names (de_v 0)) (de_v 5))))) (ds_one (ds_ret de_bl)) ds_nil) (ds_cons (ds_if (PW.pt (dw_or (dt_not (dt_tru (dY (ok__law_tuples Z) hr (da3 (de_fld (Cs := [CS]) Z.fld_flights (de_v 0)) (de_v 6) de_int)))) (dw_or1 (dt_not (dt_tru (dY (ok__law_tuples Z) hr (da3 (de_fld (Cs := [CS]) Z.fld_closed (de_v 0)) (de_v 7) de_int))))))) (ds_one (ds_ret de_bl)) ds_nil) (ds_cons (ds_if (PW.pt (dw_or (dt_cmp (o_ne hr.units) (de_meth2z Z.kR.cl M_R_gap_rows.mt OKM_R_gap_rows hr M_R_gap_rows.bd Z.kP.cl M_P_gap_rows.mt OKM_P_gap_rows hr M_P_gap_rows.bd (de_fld (Cs := [CS]) Z.fld_rules (de_v 0))) (de_v 3)) (dw_or1 (dt_cmp (o_ne hr.units) (de_meth2z Z.kR.cl M_R_many_strips.mt OKM_R_many_strips (hr.mono (by decide)) M_R_many_strips.bd Z.kP.cl M_P_many_strips.mt OKM_P_many_strips (hr.mono (by decide)) M_P_many_strips.bd (de_fld (Cs := [CS]) Z.fld_rules (de_v 0))) (de_frz (de_op o_add de_int (de_callTy c_int Z.z_int PyProof.Rows.boot_int (da1 (de_cmp o_notN (de_v 4) de_non))))))))) (ds_one (ds_ret de_bl)) ds_nil) (ds_one (ds_ret (de_or (de_cmp o_isN (de_v 4) de_non) (de_one (de_cmp (o_eq hr.units) (de_meth1z Z.kP.cl M_P_beside_rows.mt OKM_P_beside_rows hr M_P_beside_rows.bd (de_fld (Cs := [CS]) Z.fld_rules (de_v 0))) (de_v 4)))))))))))
theorem on_P : ∃ f fd, Mth K CP "__init__" "Pair.__init__" s_nP ["self", "gaps", "beside"] f fd ∧ FnOk P w K mg base CX0 5 f fd ["self", "gaps", "beside"] (spI2 K CP (m_checked_rows CR CP CS n)) :=
  let ⟨_, _, Y⟩ := ok_checked_rows Z; let ⟨_, _, N, S⟩ := Z.n_R; let ⟨_, _, M⟩ := Z.n_P; ⟨_, _, M, okn_P Y.d Y.o S N.bd (okn_R (C := CP) Y.d Y.o N.fn Z.kP.cl (Z.fld_gaps CP (by simp)).2) Z.kR.mg Z.z_len M.fn Z.kP.cl (Z.fld_gaps CP (by simp)).2 (Z.fld_beside CP (by simp)).2⟩
theorem on_R : ∃ f fd, Mth K CR "__init__" "Rules.__init__" s_nR ["self", "gaps"] f fd ∧ FnOk P w K mg base CX0 4 f fd ["self", "gaps"] (spI1 K CR (m_checked_rows CR CP CS n)) :=
  let ⟨_, _, Y⟩ := ok_checked_rows Z; let ⟨_, _, N, _⟩ := Z.n_R; ⟨_, _, N, okn_R Y.d Y.o N.fn Z.kR.cl (Z.fld_gaps CR (by simp)).2⟩
theorem on_S : ∃ f fd, Mth K CS "__init__" "Sheet.__init__" s_nS ["self", "kinds", "rules", "names", "flights", "closed"] f fd ∧ FnOk P w K mg base CX0 4 f fd ["self", "kinds", "rules", "names", "flights", "closed"] (spIS K CS (m_text_of CR CP CS n)) :=
  let ⟨_, _, Y⟩ := ok_text_of Z; let ⟨_, _, N⟩ := Z.n_S; ⟨_, _, N, okn_S Y.d Y.o N.fn Z.kS.cl Z.naS Z.z_list⟩
theorem ok_law : YO (law_d Z.d_law) P w base 7 false (m_law CR CP CS n) :=
  fY ["_law_script", "_law_data_here", "_law_kinds", "_law_gaps", "_law_beside", "_law_names", "_law_flights", "_law_closed", "_law_rules", "_law_handed", "_law_sheet", "_law_due", "_law_found", "_law_some"] fun z nd hr => let ⟨_, _, M_S_shown, OKM_S_shown⟩ := okM_S_shown Z; let ⟨_, _, N_P, OKN_P⟩ := on_P Z; let ⟨_, _, N_R, OKN_R⟩ := on_R Z; let ⟨_, _, N_S, OKN_S⟩ := on_S Z; (ds_cons (ds_sF nd (dY (ok__law_data Z) hr (da1 (de_v 0)))) (ds_cons (ds_unpB (de_v 1) (dg_tp rfl (dgs_cons (i := 2) nd (dgs_cons (i := 3) nd (dgs_cons (i := 4) nd (dgs_cons (i := 5) nd (dgs_cons (i := 6) nd (dgs_cons (i := 7) nd dgs_nil)))))))) (ds_cons (ds_sF nd (de_newR ⟨Z.kR.mks, N_R.mt.at_, N_R.mt.fn, Z.kR.kp⟩ OKN_R (hr.mono (by decide)) Z.kR.mg N_R.bd (da1 (de_v 3)))) (ds_cons (ds_if (dt_cmp o_notN (de_v 4) de_non) (ds_one (ds_sF nd (de_newP ⟨Z.kP.mks, N_P.mt.at_, N_P.mt.fn, Z.kP.kp⟩ OKN_P hr Z.kP.mg N_P.bd (da2 (de_v 3) (de_v 4))))) ds_nil) (ds_tail (pss_cons (ps_set (i := 9) nd rfl (.inl rfl) (pe_lst (pa_cons (pe_callTy call_list_of rfl Z.z_list PyProof.Rows.boot_list (pa_cons (pv 2) pa_nil)) (pa_cons (pe_callTy call_list_of rfl Z.z_list PyProof.Rows.boot_list (pa_cons (pv 5) pa_nil)) (pa_cons (pe_callTy call_list_of rfl Z.z_list PyProof.Rows.boot_list (pa_cons (pv 6) pa_nil)) (pa_cons (pe_callTy call_list_of rfl Z.z_list PyProof.Rows.boot_list (pa_cons (pv 7) pa_nil)) pa_nil)))))) (pss_cons (ps_set (i := 10) nd rfl (.inl rfl) (pe_make ⟨Z.kS.mks, N_S.mt.at_, N_S.mt.fn, Z.kS.kp⟩ OKN_S (hr.mono (by decide)) rfl Z.kS.mg N_S.bd .nil pass0 (pa_cons (pe_ix ix_list (pv 9) pe_int (fun _ _ => rfl)) (pa_cons (pv 8) (pa_cons (pe_ix ix_list (pv 9) pe_int (fun _ _ => rfl)) (pa_cons (pe_ix ix_list (pv 9) pe_int (fun _ _ => rfl)) (pa_cons (pe_ix ix_list (pv 9) pe_int (fun _ _ => rfl)) pa_nil))))))) (pss_cons (ps_set (i := 11) nd rfl (.inl rfl) (dY (ok__law_shown Z) hr (da1 (de_v 1)))) (pss_cons (ps_set (i := 12) nd rfl (.inl rfl) (de_meth1z Z.kS.cl M_S_shown.mt OKM_S_shown (hr.mono (by decide)) M_S_shown.bd (de_v 10))) (pss_cons (ps_if (PW.pt (dw_or (dt_not (dt_tru (de_isi_str Z.kit Z.z_isinstance Z.z_str (de_v 12)))) (dw_or (dt_cmp (o_ne hr.units) (de_v 12) (de_v 11)) (dw_or1 (dt_not (dt_tru (dY (ok__law_is Z) hr (da2 (de_v 10) (de_v 1))))))))) (pss_one (ps_ret pe_bl)) pss_nil) (pss_cons (ps_if (dt_cmp (o_ne hr.units) (de_v 9) (de_frz (de_lst (da4 (de_v 2) (de_v 5) (de_v 6) (de_v 7))))) (pss_one (ps_ret pe_bl)) pss_nil) (pss_cons (ps_for PassesOwn.never rfl (pi_seqD (pv 9)) (pg_name nd rfl (.inl rfl)) (pss_one (ps_expr (pe_bm0 PySem.F.plainAttrs_list PySem.F.slot_list_clear PySem.F.type_list_clear mt_clear (pv 13))))) (pss_one (ps_ret (de_and (de_cmp (o_eq hr.units) (de_meth1z Z.kS.cl M_S_shown.mt OKM_S_shown (hr.mono (by decide)) M_S_shown.bd (de_v 10)) (de_v 11)) (de_one (dY (ok__law_is Z) hr (da2 (de_v 10) (de_v 1)))))))))))))))))))
end
noncomputable abbrev Stre := Int × Int
noncomputable def stD (p : Stre) : Dat := .tup [.int p.1, .int p.2]
@[simp] theorem getI_c0 (a : Dat) (l : List Dat) : getI (a :: l) 0 = .ok a := by
  unfold getI atI ixN
  rw [if_pos (by omega), if_pos (by simp <;> omega)]
  rfl
@[simp] theorem getI_c1 (a b : Dat) (l : List Dat) : getI (a :: b :: l) 1 = .ok b := by
  unfold getI atI ixN
  rw [if_pos (by omega), if_pos (by simp <;> omega)]
  rfl
@[simp] theorem getI_c2 (a b c : Dat) (l : List Dat) : getI (a :: b :: c :: l) 2 = .ok c := by
  unfold getI atI ixN
  rw [if_pos (by omega), if_pos (by simp <;> omega)]
  rfl
@[simp] theorem getI_c3 (a b c d : Dat) (l : List Dat) : getI (a :: b :: c :: d :: l) 3 = .ok d := by
  unfold getI atI ixN
  rw [if_pos (by omega), if_pos (by simp <;> omega)]
  rfl
section
variable (CR CP CS : Addr)
noncomputable def rowD (r : List Int) : Dat := .lst (r.map .int)
noncomputable def rowsD (rows : List (List Int)) : Dat := .lst (rows.map rowD)
noncomputable def GoodRow (k : Nat) (r : List Int) : Prop := r.length = k ∧ ∀ x ∈ r, 0 ≤ x ∧ x ≤ 1000000
noncomputable def GoodRows (k : Nat) (rows : List (List Int)) : Prop := rows.length = k ∧ ∀ r ∈ rows, GoodRow k r
theorem rangeL_get {lo : Int} {m i : Nat} {d : Dat} (h : (rangeL lo m)[i]? = some d) : i < m ∧ d = .int (lo + i) := by
  unfold rangeL at h
  rw [List.getElem?_map] at h
  obtain ⟨a, h1, h2⟩ := Option.map_eq_some_iff.mp h
  have hi := (List.getElem?_eq_some_iff.mp h1).1
  rw [List.length_range] at hi
  rw [List.getElem?_range hi] at h1
  cases h1
  exact ⟨hi, h2.symm⟩
theorem range0_get {m i : Nat} {d : Dat} (h : (rangeL 0 m)[i]? = some d) : i < m ∧ d = .int i := by
  obtain ⟨h1, h2⟩ := rangeL_get h
  exact ⟨h1, by rw [h2, Int.zero_add]⟩
theorem rangeL_len (lo : Int) (m : Nat) : (rangeL lo m).length = m := by unfold rangeL; simp
end
section
variable (CR CP CS : Addr)
theorem is_gap_ok (n : Nat) (x : Int) (h0 : 0 ≤ x) (h1 : x ≤ 1000000) : m_is_gap CR CP CS n [.int x] = .ok (.bl true) := by simp [m_is_gap, g_is_gap, c_is_gap_1, h0, h1]
theorem is_gap_row_ok (n : Nat) (k : Nat) (r : List Int) (hk : k ≤ 6) (h : GoodRow k r) : m_is_gap_row CR CP CS n [rowD r, .int k] = .ok (.bl true) := by
  have hl : r.length ≤ 16777216 := by have := h.1; omega
  have hk' : k ≤ 16777216 := by omega
  have e : compD (.nm 0) fYes (fL (m_is_gap CR CP CS n) (fCons (fVar 0) fNil)) [none] (r.map .int) = .ok ((r.map fun _ => true).map Dat.bl) := by
    have := compD_map (p := .nm 0) (fe := fL (m_is_gap CR CP CS n) (fCons (fVar 0) fNil)) (ρ0 := [none]) (fun _ => .bl true) (r.map .int) (fun d hd => by
      obtain ⟨x, hx, rfl⟩ := List.mem_map.mp hd
      exact ⟨[some (.int x)], by simp, by simp [is_gap_ok CR CP CS n x (h.2 x hx).1 (h.2 x hx).2]⟩)
    rw [this, List.map_map, List.map_map]
    rfl
  simp [m_is_gap_row, g_is_gap_row, rowD, e, hl, hk', h.1, -List.map_map]
theorem copied_ok (n : Nat) (rows : List (List Int)) (hl : rows.length ≤ 1000) : m_copied_rows CR CP CS n [rowsD rows] = .ok (rowsD rows) := by
  have hl2 : rows.length ≤ 16777216 := by omega
  have e : compD (.nm 0) fYes (fL listD (fCons (fVar 0) fNil)) [none] (rows.map rowD) = .ok (rows.map rowD) := by
    have := compD_map (p := .nm 0) (fe := fL listD (fCons (fVar 0) fNil)) (ρ0 := [none]) id (rows.map rowD) (fun d hd => by
      obtain ⟨x, hx, rfl⟩ := List.mem_map.mp hd
      exact ⟨[some (rowD x)], by simp, by simp [rowD]⟩)
    rw [this, List.map_id]
  simp [m_copied_rows, g_copied_rows, rowsD, e, hl2]
theorem checked_ok (n : Nat) (k : Nat) (rows : List (List Int)) (h1 : 1 ≤ k) (h6 : k ≤ 6) (h : GoodRows k rows) : m_checked_rows CR CP CS n [rowsD rows] = .ok (rowsD rows) := by
  have hl2 : rows.length ≤ 16777216 := by have := h.1; omega
  have e : compD (.nm 0) fYes (fL (m_is_gap_row CR CP CS n) (fCons (fVar 0) (fCons (fVar 1) fNil))) [none, some (.int rows.length)] (rows.map rowD) = .ok ((rows.map fun _ => true).map Dat.bl) := by
    have := compD_map (p := .nm 0) (fe := fL (m_is_gap_row CR CP CS n) (fCons (fVar 0) (fCons (fVar 1) fNil))) (ρ0 := [none, some (.int rows.length)]) (fun _ => .bl true) (rows.map rowD) (fun d hd => by
      obtain ⟨x, hx, rfl⟩ := List.mem_map.mp hd
      exact ⟨[some (rowD x), some (.int rows.length)], by simp, by simp [h.1, is_gap_row_ok CR CP CS n k x h6 (h.2 x hx)]⟩)
    rw [this, List.map_map, List.map_map]
    rfl
  have a1 : (1 : Int) ≤ rows.length := by have := h.1; omega
  have a2 : (rows.length : Int) ≤ 6 := by have := h.1; omega
  have e3 := copied_ok CR CP CS n rows (by have := h.1; omega)
  simp only [rowsD] at e3
  simp [m_checked_rows, g_checked_rows, c_checked_rows_1, c_checked_rows_2, rowsD, e, e3, hl2, a1, a2, -List.map_map]
noncomputable def rulesD (rows : List (List Int)) : Dat → Dat
  | .non => .ins CR [("gaps", rowsD rows)]
  | o => .ins CP [("gaps", rowsD rows), ("beside", o)]
theorem gaps_at (rows : List (List Int)) (o : Dat) (ho : o = .non ∨ ∃ rows2, o = rowsD rows2) : attrD [CR, CP] "gaps" (rulesD CR CP rows o) = .ok (rowsD rows) := by
  have h1 : ((("gaps" : Str) == ("gaps" : Str)) = true) := by decide +kernel
  rcases ho with rfl | ⟨rows2, rfl⟩
  · show (if ([CR, CP].contains CR) = true then (match List.lookup ("gaps" : Str) [(("gaps" : Str), rowsD rows)] with | some d => Except.ok d | none => stk) else stk) = _
    rw [if_pos (by simp), List.lookup_cons, h1]
  · show (if ([CR, CP].contains CP) = true then (match List.lookup ("gaps" : Str) [(("gaps" : Str), rowsD rows), (("beside" : Str), rowsD rows2)] with | some d => Except.ok d | none => stk) else stk) = _
    rw [if_pos (by simp), List.lookup_cons, h1]
end
structure Fli where
  kind : Int
  first : Int
  last : Int
  due : Int
  price : Int
noncomputable def flD (f : Fli) : Dat := .tup [.int f.kind, .int f.first, .int f.last, .int f.due, .int f.price]structure GoodFl (k : Nat) (f : Fli) : Prop where
  k0 : 0 ≤ f.kind
  k1 : f.kind < k
  f0 : 0 ≤ f.first
  f1 : f.first ≤ f.last
  l1 : f.last ≤ 1000000000
  d0 : 0 ≤ f.due
  d1 : f.due ≤ 1000000000
  p0 : 0 ≤ f.price
  p1 : f.price ≤ 1000000000
theorem compD_of {α : Type} {p : Pat} {fe : Env' → M Dat} {ρ0 : Env'} (g f : α → Dat) : ∀ (L : List α), (∀ x ∈ L, ∃ ρ, bindP p (g x) ρ0 = .ok ρ ∧ fe ρ = .ok (f x)) → compD p fYes fe ρ0 (L.map g) = .ok (L.map f)
  | [], _ => rfl
  | d :: ds, h => by
    obtain ⟨ρ, e1, e2⟩ := h d (by simp)
    rw [List.map_cons, compD, e1]
    simp only [bind_ok, fYes, e2, compD_of g f ds fun x hx => h x (by simp [hx])]
    simp
theorem rangeL_cons (lo : Int) (m : Nat) : rangeL lo (m + 1) = .int lo :: rangeL (lo + 1) m := by
  unfold rangeL
  rw [List.range_succ_eq_map, List.map_cons, List.map_map]
  congr 1
  · simp
  · refine List.map_congr_left fun k _ => ?_
    simp only [Function.comp]
    congr 1
    omega
theorem sapp_assoc (a b c : Str) : a ++ b ++ c = a ++ (b ++ c) := by
  show (⟨(a.cps ++ b.cps) ++ c.cps⟩ : Str) = ⟨a.cps ++ (b.cps ++ c.cps)⟩
  rw [Array.append_assoc]
theorem sapp_nil (a : Str) : a ++ (Str.empty : Str) = a := by
  show (⟨a.cps ++ #[]⟩ : Str) = a
  simp
theorem snil_app (a : Str) : (Str.empty : Str) ++ a = a := by
  show (⟨#[] ++ a.cps⟩ : Str) = a
  simp
theorem slen (a b : Str) : (a ++ b).length = a.length + b.length := strLen_append a b
noncomputable def cat : List Str → Str
  | [] => Str.empty
  | x :: xs => x ++ cat xs
theorem cat_app : ∀ a b : List Str, cat (a ++ b) = cat a ++ cat b
  | [], b => by rw [List.nil_append]; exact (snil_app _).symm
  | x :: a, b => by rw [List.cons_append, cat, cat, cat_app a b, sapp_assoc]
theorem cat_len : ∀ xs : List Str, (cat xs).length = (xs.map (·.length)).sum
  | [] => rfl
  | x :: xs => by rw [cat, slen, cat_len xs, List.map_cons, List.sum_cons]
theorem join_cat : ∀ xs : List Str, Str.join "" xs = cat xs
  | [] => rfl
  | [x] => by rw [cat, cat, sapp_nil]; rfl
  | x :: y :: xs => by
    rw [cat, ← join_cat (y :: xs)]
    show x ++ Str.ofString "" ++ Str.join "" (y :: xs) = _
    rw [show (Str.ofString "" : Str) = Str.empty by decide +kernel, sapp_nil]
theorem lenLe (xs : List Str) (B : Nat) (h : ∀ x ∈ xs, x.length ≤ B) : (xs.map (·.length)).sum ≤ xs.length * B := StrLaws.sumLen_le xs h
theorem str_len {i : Int} (h : i.natAbs < 10 ^ 10) : (itoa i).length ≤ 11 := by
  unfold itoa
  rw [PySem.ofString_length]
  exact int_text_length_le10 (k := 10) (by decide) h
theorem str_log {i : Int} (h : i.natAbs < 10 ^ 10) : i.natAbs.log2 < 1920 := by
  by_cases h0 : i.natAbs = 0
  · rw [h0]; decide
  · exact (Nat.log2_lt h0).mpr (Nat.lt_of_lt_of_le h (Nat.le_trans (show 10 ^ 10 ≤ 2 ^ 34 by decide) (Nat.pow_le_pow_right (by decide) (by decide))))
noncomputable def SP : Str := " "
noncomputable def NLs : Str := "\n"
noncomputable def kindRow (k : Str) : Str := "kind " ++ k
noncomputable def gapRow (w k o : Str) (g : Int) : Str := w ++ SP ++ k ++ SP ++ o ++ SP ++ itoa g
noncomputable def closedRow (p : Stre) : Str := "closed " ++ itoa p.1 ++ SP ++ itoa p.2
noncomputable def kAt (ks : List Str) (i : Int) : Str := ks.getD i.toNat ""
noncomputable def flightRow (ks : List Str) (p : Str × Fli) : Str := "flight" ++ SP ++ p.1 ++ SP ++ kAt ks p.2.kind ++ SP ++ itoa p.2.first ++ SP ++ itoa p.2.last ++ SP ++ itoa p.2.due ++ SP ++ itoa p.2.price
noncomputable def gapRowsOf (w : Str) (least : Int) (k : Str) : List Str → List Int → List Str
  | o :: ks, g :: r => (if least ≤ g then [gapRow w k o g] else []) ++ gapRowsOf w least k ks r
  | _, _ => []
noncomputable def gapRows (w : Str) (least : Int) (ks : List Str) : List Str → List (List Int) → List Str
  | k :: l, r :: rows => gapRowsOf w least k ks r ++ gapRows w least ks l rows
  | _, _ => []
noncomputable def besRows (ks : List Str) : Option (List (List Int)) → List Str
  | some r2 => gapRows "beside" 0 ks ks r2
  | none => []
noncomputable def rowsOf (ks : List Str) (rows : List (List Int)) (o : Option (List (List Int))) (ns : List (Str × Fli)) (cs : List Stre) : List Str :=
  ks.map kindRow ++ gapRows "gap" 1 ks ks rows ++ besRows ks o ++ cs.map closedRow ++ ns.map (flightRow ks)
noncomputable def textOf (rs : List Str) : Str := cat (rs.map (· ++ NLs))
theorem joins_nil (ρ : Env') (acc : Str) : joins [] ρ acc = .ok acc := rfl
theorem joins_cons (f : Env' → M Dat) (fs : List (Env' → M Dat)) (ρ : Env') (acc z : Str) (h : f ρ = .ok (.str z)) (hl : acc.length + z.length ≤ 16777216) : joins (f :: fs) ρ acc = joins fs ρ (acc ++ z) := by
  have hl' : (acc ++ z).length ≤ sizeLine := by rw [slen, sizeLine_eq]; exact hl
  show (f ρ).bind _ = _
  rw [h]
  show (if (acc ++ z).length ≤ sizeLine then joins fs ρ (acc ++ z) else stk) = _
  rw [if_pos hl']
theorem fmt_s {z : Str} (h : z.length ≤ 16777216) : fmtD (.str z) = .ok (.str z) := by
  rw [e_fmtS, sizeLine_eq, if_pos h]
theorem fmt_i {i : Int} (h : i.natAbs < 10 ^ 10) : fmtD (.int i) = .ok (.str (itoa i)) := by
  rw [e_fmtI, if_pos (str_log h)]
theorem kind_comp (ks : List Str) (hk : ∀ k ∈ ks, k.length ≤ 100) : compD (.nm 0) fYes (fJ [(fC (.str "kind ")), (f1 fmtD (fVar 0))]) [none] (ks.map .str) = .ok ((ks.map kindRow).map .str) := by
  rw [List.map_map]
  refine compD_of _ _ ks fun k hk' => ⟨[some (.str k)], rfl, ?_⟩
  have h := hk k hk'
  have e5 : (Str.ofString "kind ").length = 5 := by decide +kernel
  unfold fJ
  rw [joins_cons _ _ _ _ (Str.ofString "kind ") rfl (by rw [e5]; show 0 + 5 ≤ _; decide), snil_app, joins_cons _ _ _ _ k (by show (fmtD (.str k)) = _; exact fmt_s (by omega)) (by rw [e5]; omega), joins_nil]
  rfl
theorem gap_join {w k o : Str} {g : Int} (ρ : Env') (hw : w.length ≤ 100) (hk : k.length ≤ 100) (ho : o.length ≤ 100) (hg : g.natAbs < 10 ^ 10) (e0 : fVar 0 ρ = .ok (.str w)) (e5 : fVar 5 ρ = .ok (.str k)) (e7 : fVar 7 ρ = .ok (.str o)) (e8 : fVar 8 ρ = .ok (.int g)) :
    fJ [(f1 fmtD (fVar 0)), (fC (.str " ")), (f1 fmtD (fVar 5)), (fC (.str " ")), (f1 fmtD (fVar 7)), (fC (.str " ")), (f1 fmtD (fVar 8))] ρ = .ok (.str (gapRow w k o g)) ∧ (gapRow w k o g).length ≤ 400 := by
  have el : (Str.ofString " ").length = 1 := by decide +kernel
  have es := str_len hg
  have f0 : f1 fmtD (fVar 0) ρ = .ok (.str w) := by unfold f1; rw [e0]; exact fmt_s (by omega)
  have f5 : f1 fmtD (fVar 5) ρ = .ok (.str k) := by unfold f1; rw [e5]; exact fmt_s (by omega)
  have f7 : f1 fmtD (fVar 7) ρ = .ok (.str o) := by unfold f1; rw [e7]; exact fmt_s (by omega)
  have f8 : f1 fmtD (fVar 8) ρ = .ok (.str (itoa g)) := by unfold f1; rw [e8]; exact fmt_i hg
  have z0 : Str.empty.length = 0 := rfl
  refine ⟨?_, by unfold gapRow SP; simp only [slen, el]; omega⟩
  unfold fJ
  rw [joins_cons _ _ _ _ w f0 (by omega), snil_app, joins_cons _ _ _ _ (Str.ofString " ") rfl (by omega), joins_cons _ _ _ _ k f5 (by simp only [slen, el]; omega), joins_cons _ _ _ _ (Str.ofString " ") rfl (by simp only [slen, el]; omega), joins_cons _ _ _ _ o f7 (by simp only [slen, el]; omega), joins_cons _ _ _ _ (Str.ofString " ") rfl (by simp only [slen, el]; omega), joins_cons _ _ _ _ (itoa g) f8 (by simp only [slen, el]; omega), joins_nil]
  rfl
section
variable (CR CP CS : Addr)
theorem gaps_in (n : Nat) {w k : Str} (hw : w.length ≤ 100) (hk : k.length ≤ 100) (least : Int) (a1 a2 a6 : Option Dat) : ∀ (os : List Str) (r : List Int) (acc : List Str) (z7 z8 : Option Dat), (∀ o ∈ os, o.length ≤ 100) → (∀ g ∈ r, g.natAbs < 10 ^ 10) → acc.length + os.length ≤ 10000 → ∃ y7 y8,
    forD (.tp [7, 8]) (b_shown_gaps_2 CR CP CS n) (zipL (os.map .str) (r.map .int)) [some (.str w), a1, a2, some (.int least), some (.lst (acc.map .str)), some (.str k), a6, z7, z8] = .ok (.nx [some (.str w), a1, a2, some (.int least), some (.lst ((acc ++ gapRowsOf w least k os r).map .str)), some (.str k), a6, y7, y8])
  | [], r, acc, z7, z8, _, _, _ => ⟨z7, z8, by simp [zipL, forD, gapRowsOf]⟩
  | o :: os, [], acc, z7, z8, _, _, _ => ⟨z7, z8, by simp [zipL, forD, gapRowsOf]⟩
  | o :: os, g :: r, acc, z7, z8, ho, hr, hl => by
    obtain ⟨e1, e2⟩ := gap_join (w := w) (k := k) (o := o) (g := g) [some (.str w), a1, a2, some (.int least), some (.lst (acc.map .str)), some (.str k), a6, some (.str o), some (.int g)] hw hk (ho o (by simp)) (hr g (by simp)) rfl rfl rfl rfl
    have hacc : acc.length < 16777216 := by simp at hl; omega
    have e1' := gap_join (w := w) (k := k) (o := o) (g := g) [some (.str w), a1, a2, some (.int least), none, some (.str k), a6, some (.str o), some (.int g)] hw hk (ho o (by simp)) (hr g (by simp)) rfl rfl rfl rfl
    by_cases hg : least ≤ g
    · have eb : b_shown_gaps_2 CR CP CS n [some (.str w), a1, a2, some (.int least), some (.lst (acc.map .str)), some (.str k), a6, some (.str o), some (.int g)] = .ok (.nx [some (.str w), a1, a2, some (.int least), some (.lst ((acc ++ [gapRow w k o g]).map .str)), some (.str k), a6, some (.str o), some (.int g)]) := by
        simp [b_shown_gaps_2, c_shown_gaps_1, hg, e1'.1, e1, hacc]
      obtain ⟨y7, y8, ih⟩ := gaps_in n hw hk least a1 a2 a6 os r (acc ++ [gapRow w k o g]) (some (.str o)) (some (.int g)) (fun x hx => ho x (by simp [hx])) (fun x hx => hr x (by simp [hx])) (by simp at hl ⊢; omega)
      refine ⟨y7, y8, ?_⟩
      rw [gapRowsOf, if_pos hg, ← List.append_assoc, ← ih]
      simp [zipL, forD, eb]
    · have eb : b_shown_gaps_2 CR CP CS n [some (.str w), a1, a2, some (.int least), some (.lst (acc.map .str)), some (.str k), a6, some (.str o), some (.int g)] = .ok (.nx [some (.str w), a1, a2, some (.int least), some (.lst (acc.map .str)), some (.str k), a6, some (.str o), some (.int g)]) := by
        simp [b_shown_gaps_2, c_shown_gaps_1, hg]
      obtain ⟨y7, y8, ih⟩ := gaps_in n hw hk least a1 a2 a6 os r acc (some (.str o)) (some (.int g)) (fun x hx => ho x (by simp [hx])) (fun x hx => hr x (by simp [hx])) (by simp at hl ⊢; omega)
      refine ⟨y7, y8, ?_⟩
      rw [gapRowsOf, if_neg hg, List.nil_append, ← ih]
      simp [zipL, forD, eb]
theorem gapRowsOf_len (w : Str) (least : Int) (k : Str) : ∀ (os : List Str) (r : List Int), (gapRowsOf w least k os r).length ≤ os.length
  | [], _ => by simp [gapRowsOf]
  | _ :: _, [] => by simp [gapRowsOf]
  | o :: os, g :: r => by
    rw [gapRowsOf, List.length_append, List.length_cons]
    have := gapRowsOf_len w least k os r
    split <;> simp <;> omega
theorem gaps_out (n : Nat) {w : Str} (hw : w.length ≤ 100) (ks : List Str) (hks : ∀ k ∈ ks, k.length ≤ 100) (hm : ks.length ≤ 6) (least : Int) (a2 : Option Dat) : ∀ (l : List Str) (rows : List (List Int)) (acc : List Str) (z5 z6 z7 z8 : Option Dat), (∀ k ∈ l, k.length ≤ 100) → (∀ r ∈ rows, ∀ g ∈ r, g.natAbs < 10 ^ 10) → acc.length + 6 * l.length ≤ 9000 → ∃ y5 y6 y7 y8,
    forD (.tp [5, 6]) (b_shown_gaps_3 CR CP CS n) (zipL (l.map .str) (rows.map rowD)) [some (.str w), some (.lst (ks.map .str)), a2, some (.int least), some (.lst (acc.map .str)), z5, z6, z7, z8] = .ok (.nx [some (.str w), some (.lst (ks.map .str)), a2, some (.int least), some (.lst ((acc ++ gapRows w least ks l rows).map .str)), y5, y6, y7, y8])
  | [], rows, acc, z5, z6, z7, z8, _, _, _ => ⟨z5, z6, z7, z8, by simp [zipL, forD, gapRows]⟩
  | k :: l, [], acc, z5, z6, z7, z8, _, _, _ => ⟨z5, z6, z7, z8, by simp [zipL, forD, gapRows]⟩
  | k :: l, r :: rows, acc, z5, z6, z7, z8, hl, hr, ha => by
    obtain ⟨y7, y8, e⟩ := gaps_in CR CP CS n hw (hl k (by simp)) least (some (.lst (ks.map .str))) a2 (some (rowD r)) ks r acc z7 z8 hks (hr r (by simp)) (by simp at ha; omega)
    have hlen := gapRowsOf_len w least k ks r
    have eb : b_shown_gaps_3 CR CP CS n [some (.str w), some (.lst (ks.map .str)), a2, some (.int least), some (.lst (acc.map .str)), some (.str k), some (rowD r), z7, z8] = .ok (.nx [some (.str w), some (.lst (ks.map .str)), a2, some (.int least), some (.lst ((acc ++ gapRowsOf w least k ks r).map .str)), some (.str k), some (rowD r), y7, y8]) := by
      unfold b_shown_gaps_3
      rw [← e]
      simp [rowD, itemsL]
    obtain ⟨x5, x6, x7, x8, ih⟩ := gaps_out n hw ks hks hm least a2 l rows (acc ++ gapRowsOf w least k ks r) (some (.str k)) (some (rowD r)) y7 y8 (fun x hx => hl x (by simp [hx])) (fun x hx => hr x (by simp [hx])) (by simp at ha ⊢; omega)
    refine ⟨x5, x6, x7, x8, ?_⟩
    rw [gapRows, ← List.append_assoc, ← ih]
    simp [zipL, forD, eb]
theorem shown_gaps_ok (n : Nat) {w : Str} (hw : w.length ≤ 100) (ks : List Str) (hks : ∀ k ∈ ks, k.length ≤ 100) (hm : ks.length ≤ 6) (least : Int) (rows : List (List Int)) (hr : ∀ r ∈ rows, ∀ g ∈ r, g.natAbs < 10 ^ 10) :
    m_shown_gaps CR CP CS n [.str w, .lst (ks.map .str), rowsD rows, .int least] = .ok (.lst ((gapRows w least ks ks rows).map .str)) := by
  obtain ⟨y5, y6, y7, y8, e⟩ := gaps_out CR CP CS n hw ks hks hm least (some (rowsD rows)) ks rows [] none none none none hks hr (by simp; omega)
  simp only [List.map_nil, List.nil_append] at e
  simp [m_shown_gaps, g_shown_gaps, rowsD, itemsL] at e ⊢
  simp [e]
end
theorem sget {ks : List Str} {i : Int} (h0 : 0 ≤ i) (h1 : i < ks.length) : getI (ks.map .str) i = .ok (.str (kAt ks i)) ∧ kAt ks i ∈ ks := by
  obtain ⟨j, rfl⟩ : ∃ j : Nat, i = j := ⟨i.toNat, by omega⟩
  have hj : j < ks.length := by omega
  have e : kAt ks (j : Int) = ks[j] := by unfold kAt; simp [hj]
  refine ⟨?_, by rw [e]; exact List.getElem_mem hj⟩
  rw [e]
  unfold getI atI ixN
  rw [if_pos (by omega), if_pos (by simp <;> omega)]
  simp [hj]
structure BFl (k : Nat) (f : Fli) : Prop where
  k0 : 0 ≤ f.kind
  k1 : f.kind < k
  a : f.first.natAbs < 10 ^ 10
  b : f.last.natAbs < 10 ^ 10
  c : f.due.natAbs < 10 ^ 10
  d : f.price.natAbs < 10 ^ 10
theorem flightRow_len {ks : List Str} {nm : Str} {f : Fli} (hn : nm.length ≤ 100) (hks : ∀ k ∈ ks, k.length ≤ 100) (hf : BFl ks.length f) : (flightRow ks (nm, f)).length ≤ 400 := by
  have el : (Str.ofString " ").length = 1 := by decide +kernel
  have ef : (Str.ofString "flight").length = 6 := by decide +kernel
  have h1 := str_len hf.a
  have h2 := str_len hf.b
  have h3 := str_len hf.c
  have h4 := str_len hf.d
  have h5 := hks _ (sget hf.k0 hf.k1).2
  unfold flightRow SP
  simp only [slen, el, ef]
  omega
section
variable (CR CP CS : Addr)
theorem shown_flight_ok (n : Nat) {ks : List Str} {nm : Str} {f : Fli} (hm : ks.length ≤ 6) (hn : nm.length ≤ 100) (hks : ∀ k ∈ ks, k.length ≤ 100) (hf : BFl ks.length f) : m_shown_flight CR CP CS n [.lst (ks.map .str), .str nm, flD f] = .ok (.str (flightRow ks (nm, f))) := by
  have el : (Str.ofString " ").length = 1 := by decide +kernel
  have ef : (Str.ofString "flight").length = 6 := by decide +kernel
  have h1 := str_len hf.a
  have h2 := str_len hf.b
  have h3 := str_len hf.c
  have h4 := str_len hf.d
  obtain ⟨e0, hmem⟩ := sget hf.k0 hf.k1
  have h5 := hks _ hmem
  have l1 := str_log hf.a
  have l2 := str_log hf.b
  have l3 := str_log hf.c
  have l4 := str_log hf.d
  have ej : Str.join (Str.ofString " ") [Str.ofString "flight", nm, kAt ks f.kind, itoa f.first, itoa f.last, itoa f.due, itoa f.price] = flightRow ks (nm, f) := by
    unfold flightRow SP
    simp only [Str.join, sapp_assoc]
  have hs : 6 + (nm.length + ((kAt ks f.kind).length + ((itoa f.first).length + ((itoa f.last).length + ((itoa f.due).length + ((itoa f.price).length + 0)))))) + 7 * 1 ≤ 16777216 := by omega
  have esl : sliceD (.tup [.int f.kind, .int f.first, .int f.last, .int f.due, .int f.price]) (some 1) none = .ok (.tup [.int f.first, .int f.last, .int f.due, .int f.price]) := rfl
  have ec : compD (.nm 0) fYes (fL strD (fCons (fVar 0) fNil)) [none] [.int f.first, .int f.last, .int f.due, .int f.price] = .ok [.str (itoa f.first), .str (itoa f.last), .str (itoa f.due), .str (itoa f.price)] := by simp [compD, l1, l2, l3, l4]
  have ea : addD (.lst [.str (Str.ofString "flight"), .str nm, .str (kAt ks f.kind)]) (.lst [.str (itoa f.first), .str (itoa f.last), .str (itoa f.due), .str (itoa f.price)]) = .ok (.lst [.str (Str.ofString "flight"), .str nm, .str (kAt ks f.kind), .str (itoa f.first), .str (itoa f.last), .str (itoa f.due), .str (itoa f.price)]) := by
    simp [addD, sizeLine_eq]
  simp [m_shown_flight, g_shown_flight, flD, e0, esl, ec, ea, ej, el, ef]
  rw [if_pos]
  · rfl
  · omega
end
theorem closed_comp (cs : List Stre) (h : ∀ p ∈ cs, p.1.natAbs < 10 ^ 10 ∧ p.2.natAbs < 10 ^ 10) : compD (.tp [0, 1]) fYes (fJ [(fC (.str "closed ")), (f1 fmtD (fVar 0)), (fC (.str " ")), (f1 fmtD (fVar 1))]) [none, none] (cs.map stD) = .ok ((cs.map closedRow).map .str) := by
  rw [List.map_map]
  refine compD_of _ _ cs fun p hp => ⟨[some (.int p.1), some (.int p.2)], rfl, ?_⟩
  obtain ⟨h1, h2⟩ := h p hp
  have e1 : (Str.ofString "closed ").length = 7 := by decide +kernel
  have e2 : (Str.ofString " ").length = 1 := by decide +kernel
  have l1 := str_len h1
  have l2 := str_len h2
  have z0 : Str.empty.length = 0 := rfl
  unfold fJ
  rw [joins_cons _ _ _ _ (Str.ofString "closed ") rfl (by omega), snil_app, joins_cons _ _ _ _ (itoa p.1) (fmt_i h1) (by omega), joins_cons _ _ _ _ (Str.ofString " ") rfl (by simp only [slen]; omega), joins_cons _ _ _ _ (itoa p.2) (fmt_i h2) (by simp only [slen]; omega), joins_nil]
  rfl
theorem closedRow_len {p : Stre} (h : p.1.natAbs < 10 ^ 10 ∧ p.2.natAbs < 10 ^ 10) : (closedRow p).length ≤ 400 := by
  have e1 : (Str.ofString "closed ").length = 7 := by decide +kernel
  have e2 : (Str.ofString " ").length = 1 := by decide +kernel
  have l1 := str_len h.1
  have l2 := str_len h.2
  unfold closedRow SP
  simp only [slen]
  omega
theorem kindRow_len {k : Str} (h : k.length ≤ 100) : (kindRow k).length ≤ 400 := by
  have e1 : (Str.ofString "kind ").length = 5 := by decide +kernel
  unfold kindRow
  simp only [slen]
  omega
theorem gapRow_len {w k o : Str} {g : Int} (hw : w.length ≤ 100) (hk : k.length ≤ 100) (ho : o.length ≤ 100) (hg : g.natAbs < 10 ^ 10) : (gapRow w k o g).length ≤ 400 := by
  have el : (Str.ofString " ").length = 1 := by decide +kernel
  have es := str_len hg
  unfold gapRow SP
  simp only [slen, el]
  omega
theorem gapRowsOf_mem {w : Str} {least : Int} {k : Str} (hw : w.length ≤ 100) (hk : k.length ≤ 100) : ∀ (os : List Str) (r : List Int), (∀ o ∈ os, o.length ≤ 100) → (∀ g ∈ r, g.natAbs < 10 ^ 10) → ∀ x ∈ gapRowsOf w least k os r, x.length ≤ 400
  | [], _, _, _, x, h => by simp [gapRowsOf] at h
  | _ :: _, [], _, _, x, h => by simp [gapRowsOf] at h
  | o :: os, g :: r, ho, hr, x, h => by
    rw [gapRowsOf, List.mem_append] at h
    rcases h with h | h
    · split at h
      · rw [List.mem_singleton] at h
        rw [h]
        exact gapRow_len hw hk (ho o (by simp)) (hr g (by simp))
      · cases h
    · exact gapRowsOf_mem hw hk os r (fun y hy => ho y (by simp [hy])) (fun y hy => hr y (by simp [hy])) x h
theorem gapRows_mem {w : Str} {least : Int} {ks : List Str} (hw : w.length ≤ 100) (hks : ∀ k ∈ ks, k.length ≤ 100) : ∀ (l : List Str) (rows : List (List Int)), (∀ k ∈ l, k.length ≤ 100) → (∀ r ∈ rows, ∀ g ∈ r, g.natAbs < 10 ^ 10) → ∀ x ∈ gapRows w least ks l rows, x.length ≤ 400
  | [], _, _, _, x, h => by simp [gapRows] at h
  | _ :: _, [], _, _, x, h => by simp [gapRows] at h
  | k :: l, r :: rows, hl, hr, x, h => by
    rw [gapRows, List.mem_append] at h
    rcases h with h | h
    · exact gapRowsOf_mem hw (hl k (by simp)) ks r hks (hr r (by simp)) x h
    · exact gapRows_mem hw hks l rows (fun y hy => hl y (by simp [hy])) (fun y hy => hr y (by simp [hy])) x h
theorem gapRows_len (w : Str) (least : Int) (ks : List Str) : ∀ (l : List Str) (rows : List (List Int)), (gapRows w least ks l rows).length ≤ l.length * ks.length
  | [], _ => by simp [gapRows]
  | _ :: _, [] => by simp [gapRows]
  | k :: l, r :: rows => by
    rw [gapRows, List.length_append, List.length_cons, Nat.succ_mul]
    have h1 := gapRowsOf_len w least k ks r
    have h2 := gapRows_len w least ks l rows
    omega
structure Sh where
  ks : List Str
  rows : List (List Int)
  o : Option (List (List Int))
  nf : List (Str × Fli)
  cs : List Stre
structure Sh.Good (w : Sh) : Prop where
  k1 : 1 ≤ w.ks.length
  k6 : w.ks.length ≤ 6
  kl : ∀ k ∈ w.ks, k.length ≤ 100
  rows : GoodRows w.ks.length w.rows
  o : ∀ r2, w.o = some r2 → GoodRows w.ks.length r2
  nm : w.nf.length ≤ 40
  nl : ∀ p ∈ w.nf, p.1.length ≤ 100 ∧ BFl w.ks.length p.2
  cm : w.cs.length ≤ 20
  cl : ∀ p ∈ w.cs, p.1.natAbs < 10 ^ 10 ∧ p.2.natAbs < 10 ^ 10
noncomputable def Sh.kD (w : Sh) : Dat := .lst (w.ks.map .str)
noncomputable def Sh.bD (w : Sh) : Dat := match w.o with
  | some r2 => rowsD r2
  | none => .non
noncomputable def Sh.nD (w : Sh) : Dat := .lst ((w.nf.map (·.1)).map .str)
noncomputable def Sh.fD (w : Sh) : Dat := .lst ((w.nf.map (·.2)).map flD)
noncomputable def Sh.cD (w : Sh) : Dat := .lst (w.cs.map stD)
noncomputable def Sh.D (w : Sh) : Dat := .tup [w.kD, rowsD w.rows, w.bD, w.nD, w.fD, w.cD]
noncomputable def Sh.rs (w : Sh) : List Str := rowsOf w.ks w.rows w.o w.nf w.cs
noncomputable def Sh.tx (w : Sh) : Str := textOf w.rs
theorem GoodRows.nat {k : Nat} {rows : List (List Int)} (h : GoodRows k rows) : ∀ r ∈ rows, ∀ g ∈ r, g.natAbs < 10 ^ 10 := fun r hr g hg => by
  have := (h.2 r hr).2 g hg
  have e : (10 : Nat) ^ 10 = 10000000000 := by decide
  omega
theorem lgap : (Str.ofString "gap").length ≤ 100 := by decide +kernel
theorem lbes : (Str.ofString "beside").length ≤ 100 := by decide +kernel
theorem Sh.Good.row_len {w : Sh} (h : w.Good) : ∀ x ∈ w.rs, x.length ≤ 400 := fun x hx => by
  unfold Sh.rs rowsOf at hx
  simp only [List.mem_append] at hx
  rcases hx with (((hx | hx) | hx) | hx) | hx
  · obtain ⟨k, hk, rfl⟩ := List.mem_map.mp hx
    exact kindRow_len (h.kl k hk)
  · exact gapRows_mem lgap h.kl w.ks w.rows h.kl h.rows.nat x hx
  · cases ho : w.o with
    | none => rw [ho] at hx; cases (show x ∈ ([] : List Str) from hx)
    | some r2 => rw [ho] at hx; exact gapRows_mem lbes h.kl w.ks r2 h.kl (h.o r2 ho).nat x hx
  · obtain ⟨p, hp, rfl⟩ := List.mem_map.mp hx
    exact closedRow_len (h.cl p hp)
  · obtain ⟨p, hp, rfl⟩ := List.mem_map.mp hx
    exact flightRow_len (h.nl p hp).1 h.kl (h.nl p hp).2
theorem Sh.Good.rs_len {w : Sh} (h : w.Good) : w.rs.length ≤ 200 := by
  unfold Sh.rs rowsOf
  simp only [List.length_append, List.length_map]
  have h1 := gapRows_len "gap" 1 w.ks w.ks w.rows
  have h2 : (besRows w.ks w.o).length ≤ w.ks.length * w.ks.length := by
    cases w.o with
    | none => simp [besRows]
    | some r2 => exact gapRows_len _ _ _ _ _
  have h3 := h.k6
  have h4 := Nat.mul_le_mul h3 h3
  have h5 := h.nm
  have h6 := h.cm
  omega
theorem strsD_map : ∀ xs : List Str, strsD (xs.map .str) = .ok xs
  | [] => rfl
  | x :: xs => by rw [List.map_cons, e_strs1, strsD_map xs]; rfl
theorem nl_len : NLs.length = 1 := by decide +kernel
theorem nl_comp (rs : List Str) (h : ∀ r ∈ rs, r.length ≤ 400) : compD (.nm 0) fYes (f2 addD (fVar 0) (fC (.str "\n"))) [none] (rs.map .str) = .ok ((rs.map (· ++ NLs)).map .str) := by
  rw [List.map_map]
  refine compD_of _ _ rs fun r hr => ⟨[some (.str r)], rfl, ?_⟩
  have h1 := h r hr
  have h2 : r.length + (Str.ofString "\n").length ≤ sizeLine := by
    have : (Str.ofString "\n").length = 1 := nl_len
    rw [sizeLine_eq]; omega
  show addD (.str r) (.str "\n") = _
  unfold addD
  simp only
  rw [if_pos h2]
  rfl
theorem zip_nf : ∀ nf : List (Str × Fli), zipL ((nf.map (·.1)).map .str) ((nf.map (·.2)).map flD) = nf.map fun p => Dat.tup [.str p.1, flD p.2]
  | [] => rfl
  | p :: nf => by simp only [List.map_cons, zipL, zip_nf nf]
section
variable (CR CP CS : Addr)
theorem fl_comp (n : Nat) {ks : List Str} (hm : ks.length ≤ 6) (hks : ∀ k ∈ ks, k.length ≤ 100) (nf : List (Str × Fli)) (h : ∀ p ∈ nf, p.1.length ≤ 100 ∧ BFl ks.length p.2) :
    compD (.tp [0, 1]) fYes (fL (m_shown_flight CR CP CS n) (fCons (fVar 2) (fCons (fVar 0) (fCons (fVar 1) fNil)))) [none, none, some (.lst (ks.map .str))] (nf.map fun p => Dat.tup [.str p.1, flD p.2]) = .ok ((nf.map (flightRow ks)).map .str) := by
  rw [List.map_map]
  refine compD_of _ _ nf fun p hp => ⟨[some (.str p.1), some (flD p.2), some (.lst (ks.map .str))], rfl, ?_⟩
  obtain ⟨h1, h2⟩ := h p hp
  have e := shown_flight_ok CR CP CS n hm h1 hks h2
  show (m_shown_flight CR CP CS n [.lst (ks.map .str), .str p.1, flD p.2]) = _
  rw [e]
  rfl
theorem bes_at (rows r2 : List (List Int)) : attrD [CP] "beside" (rulesD CR CP rows (rowsD r2)) = .ok (rowsD r2) := by
  have h1 : ((("beside" : Str) == ("gaps" : Str)) = false) := by decide +kernel
  have h2 : ((("beside" : Str) == ("beside" : Str)) = true) := by decide +kernel
  show (if ([CP].contains CP) = true then (match List.lookup ("beside" : Str) [(("gaps" : Str), rowsD rows), (("beside" : Str), rowsD r2)] with | some d => Except.ok d | none => stk) else stk) = _
  rw [if_pos (by simp), List.lookup_cons, h1, List.lookup_cons, h2]
noncomputable def Sh.ru (w : Sh) : Dat := rulesD CR CP w.rows w.bD
theorem Sh.bD_or (w : Sh) : w.bD = .non ∨ ∃ r2, w.bD = rowsD r2 := by
  unfold Sh.bD
  cases w.o with
  | none => exact .inl rfl
  | some r2 => exact .inr ⟨r2, rfl⟩
theorem gap_rows_ok (n : Nat) {w : Sh} (h : w.Good) : m_Rules_gap_rows CR CP CS n [w.ru CR CP] = .ok (rowsD w.rows) := by
  have e1 := gaps_at CR CP w.rows w.bD w.bD_or
  have e2 := copied_ok CR CP CS n w.rows (by have := h.rows.1; have := h.k6; omega)
  simp [m_Rules_gap_rows, g_Rules_gap_rows, Sh.ru, e1, e2]
theorem bes_rows_ok (n : Nat) {w : Sh} (h : w.Good) {r2 : List (List Int)} (ho : w.o = some r2) : m_Pair_beside_rows CR CP CS n [w.ru CR CP] = .ok (rowsD r2) := by
  have e2 := copied_ok CR CP CS n r2 (by have := (h.o r2 ho).1; have := h.k6; omega)
  have eb : w.bD = rowsD r2 := by unfold Sh.bD; rw [ho]
  have e1 := bes_at CR CP w.rows r2
  simp [m_Pair_beside_rows, g_Pair_beside_rows, Sh.ru, eb, e1, e2]
end
section
variable (CR CP CS : Addr)
theorem ru_meth (hne : CR ≠ CP) (w : Sh) (m : Str) (h1 : (m == ("gaps" : Str)) = false) (h2 : (m == ("beside" : Str)) = false) (g g2 : List Dat → M Dat) (fo : Env' → M Dat) (ρ : Env') (e : fo ρ = .ok (w.ru CR CP)) :
    fMeth2 CR CP m g g2 fo fNil ρ = if w.o.isSome = true then g2 [w.ru CR CP] else g [w.ru CR CP] := by
  unfold fMeth2
  rw [e]
  unfold Sh.ru Sh.bD
  have hcp : (CP == CR) = false := by simp; exact fun z => hne z.symm
  cases w.o with
  | none =>
    show (if isC CR m (.ins CR [("gaps", rowsD w.rows)]) = true then _ else _) = _
    have : isC CR m (.ins CR [("gaps", rowsD w.rows)]) = true := by
      show ((CR == CR) && (List.lookup m [(("gaps" : Str), rowsD w.rows)]).isNone) = true
      rw [List.lookup_cons, h1]
      simp
    rw [if_pos this]
    rfl
  | some r2 =>
    show (if isC CR m (.ins CP [("gaps", rowsD w.rows), ("beside", rowsD r2)]) = true then _ else if isC CP m (.ins CP [("gaps", rowsD w.rows), ("beside", rowsD r2)]) = true then _ else _) = _
    have z1 : isC CR m (.ins CP [("gaps", rowsD w.rows), ("beside", rowsD r2)]) = false := by
      show ((CP == CR) && _) = false
      rw [hcp]; rfl
    have z2 : isC CP m (.ins CP [("gaps", rowsD w.rows), ("beside", rowsD r2)]) = true := by
      show ((CP == CP) && (List.lookup m [(("gaps" : Str), rowsD w.rows), (("beside" : Str), rowsD r2)]).isNone) = true
      rw [List.lookup_cons, h1, List.lookup_cons, h2]
      simp
    rw [z1, if_neg (by decide), if_pos z2]
    rfl
theorem ru_gap (hne : CR ≠ CP) (n : Nat) {w : Sh} (h : w.Good) (fo : Env' → M Dat) (ρ : Env') (e : fo ρ = .ok (w.ru CR CP)) : fMeth2 CR CP "gap_rows" (m_Rules_gap_rows CR CP CS n) (m_Rules_gap_rows CR CP CS n) fo fNil ρ = .ok (rowsD w.rows) := by
  rw [ru_meth CR CP hne w "gap_rows" (by decide +kernel) (by decide +kernel) _ _ fo ρ e, gap_rows_ok CR CP CS n h]
  split <;> rfl
theorem ru_strips (hne : CR ≠ CP) (n : Nat) {w : Sh} (fo : Env' → M Dat) (ρ : Env') (e : fo ρ = .ok (w.ru CR CP)) : fMeth2 CR CP "many_strips" (m_Rules_many_strips CR CP CS n) (m_Pair_many_strips CR CP CS n) fo fNil ρ = .ok (.int (if w.o.isSome = true then 2 else 1)) := by
  rw [ru_meth CR CP hne w "many_strips" (by decide +kernel) (by decide +kernel) _ _ fo ρ e]
  split <;> simp [m_Pair_many_strips, g_Pair_many_strips, m_Rules_many_strips, g_Rules_many_strips]
theorem ru_bes (n : Nat) {w : Sh} (h : w.Good) {r2 : List (List Int)} (ho : w.o = some r2) (fo : Env' → M Dat) (ρ : Env') (e : fo ρ = .ok (w.ru CR CP)) : fMeth CP "beside_rows" (m_Pair_beside_rows CR CP CS n) fo fNil ρ = .ok (rowsD r2) := by
  have eb := bes_rows_ok CR CP CS n h ho
  unfold fMeth
  rw [e]
  have er : w.ru CR CP = .ins CP [("gaps", rowsD w.rows), ("beside", rowsD r2)] := by unfold Sh.ru Sh.bD; rw [ho]; rfl
  have z2 : isC CP "beside_rows" (w.ru CR CP) = true := by
    rw [er]
    show ((CP == CP) && (List.lookup ("beside_rows" : Str) [(("gaps" : Str), rowsD w.rows), (("beside" : Str), rowsD r2)]).isNone) = true
    rw [List.lookup_cons, show (("beside_rows" : Str) == ("gaps" : Str)) = false by decide +kernel, List.lookup_cons, show (("beside_rows" : Str) == ("beside" : Str)) = false by decide +kernel]
    simp
  show (if isC CP "beside_rows" (w.ru CR CP) = true then _ else _) = _
  rw [if_pos z2]
  exact eb
theorem ru_isi (hne : CR ≠ CP) (w : Sh) : isiC [(CR, false), (CP, true)] (w.ru CR CP) = .ok (.bl w.o.isSome) := by
  unfold Sh.ru Sh.bD
  have hcp : (CP == CR) = false := by simp; exact fun z => hne z.symm
  cases w.o with
  | none =>
    show (match List.lookup CR [(CR, false), (CP, true)] with | some b => Except.ok (Dat.bl b) | none => stk) = _
    rw [List.lookup_cons, show (CR == CR) = true by simp]
    rfl
  | some r2 =>
    show (match List.lookup CP [(CR, false), (CP, true)] with | some b => Except.ok (Dat.bl b) | none => stk) = _
    rw [List.lookup_cons, hcp, List.lookup_cons, show (CP == CP) = true by simp]
    rfl
theorem text_ok (hne : CR ≠ CP) (n : Nat) {w : Sh} (h : w.Good) : m_text_of CR CP CS n [w.kD, w.ru CR CP, w.nD, w.fD, w.cD] = .ok (.str w.tx) := by
  have e1 := kind_comp w.ks h.kl
  have e2 := ru_gap CR CP CS hne n h (fVar 1) [some w.kD, some (w.ru CR CP), some w.nD, some w.fD, some w.cD, none] rfl
  have e3 := shown_gaps_ok CR CP CS n lgap w.ks h.kl h.k6 1 w.rows h.rows.nat
  have e4 := ru_isi CR CP hne w
  have e5 := closed_comp w.cs h.cl
  have e6 := fl_comp CR CP CS n h.k6 h.kl w.nf h.nl
  have e7 := nl_comp w.rs h.row_len
  have hrs := h.rs_len
  have l1 : w.ks.length ≤ 16777216 := by have := h.k6; omega
  have l2 : w.cs.length ≤ 16777216 := by have := h.cm; omega
  have l3 : w.nf.length ≤ 16777216 := by have := h.nm; omega
  have l4 : w.rs.length ≤ 16777216 := by omega
  obtain ⟨B, hB⟩ : ∃ B, besRows w.ks w.o = B := ⟨_, rfl⟩
  have hsum : w.ks.length + (gapRows "gap" 1 w.ks w.ks w.rows).length + B.length + w.cs.length + w.nf.length ≤ 200 := by
    have := h.rs_len
    unfold Sh.rs rowsOf at this
    simp only [List.length_append, List.length_map, hB] at this
    exact this
  have e8 : ∀ acc : List Str, acc.length ≤ 200 → c_text_of_1 CR CP CS n [some w.kD, some (w.ru CR CP), some w.nD, some w.fD, some w.cD, some (.lst (acc.map .str))] = .ok (.nx [some w.kD, some (w.ru CR CP), some w.nD, some w.fD, some w.cD, some (.lst ((acc ++ B).map .str))]) := fun acc hacc => by
    cases ho : w.o with
    | none =>
      rw [ho] at e4 hB
      have hB : B = [] := hB.symm
      simp [c_text_of_1, e4, hB]
    | some r2 =>
      have e9 := ru_bes CR CP CS n h ho (fVar 1) [some w.kD, some (w.ru CR CP), some w.nD, some w.fD, some w.cD, none] rfl
      have e10 := shown_gaps_ok CR CP CS n lbes w.ks h.kl h.k6 0 r2 (h.o r2 ho).nat
      rw [ho] at e4 hB
      have hB : gapRows "beside" 0 w.ks w.ks r2 = B := hB
      rw [hB] at e10
      have hle : acc.length + B.length ≤ 16777216 := by omega
      simp [c_text_of_1, e4, e9, Sh.kD, e10, hle] at e9 ⊢
  have er : w.ks.map kindRow ++ gapRows "gap" 1 w.ks w.ks w.rows ++ B ++ w.cs.map closedRow ++ w.nf.map (flightRow w.ks) = w.rs := by rw [← hB]; rfl
  have b1 : w.ks.length + (gapRows "gap" 1 w.ks w.ks w.rows).length ≤ 16777216 := by omega
  have b2 : w.ks.length + ((gapRows "gap" 1 w.ks w.ks w.rows).length + B.length) + w.cs.length ≤ 16777216 := by omega
  have b3 : w.ks.length + ((gapRows "gap" 1 w.ks w.ks w.rows).length + (B.length + w.cs.length)) + w.nf.length ≤ 16777216 := by omega
  have e8' := e8 (w.ks.map kindRow ++ gapRows "gap" 1 w.ks w.ks w.rows) (by simp; omega)
  have hj : ((w.rs.map (· ++ NLs)).map (·.length)).sum ≤ 16777216 := by
    have := lenLe (w.rs.map (· ++ NLs)) 401 (fun x hx => by
      obtain ⟨y, hy, rfl⟩ := List.mem_map.mp hx
      have := h.row_len y hy
      rw [slen, nl_len]; omega)
    rw [List.length_map] at this
    omega
  have ez : (Str.ofString "").length = 0 := by decide +kernel
  have es := strsD_map (w.rs.map (· ++ NLs))
  have ec := join_cat (w.rs.map (· ++ NLs))
  have z := zip_nf w.nf
  have em : List.map Dat.str (List.map kindRow w.ks) ++ (List.map Dat.str (gapRows "gap" 1 w.ks w.ks w.rows) ++ (List.map Dat.str B ++ (List.map Dat.str (List.map closedRow w.cs) ++ List.map Dat.str (List.map (flightRow w.ks) w.nf)))) = w.rs.map .str := by
    rw [← er]
    simp only [List.map_append, List.append_assoc]
  rw [← er] at l4
  simp only [Sh.kD, Sh.nD, Sh.fD, Sh.cD, List.map_append, List.append_assoc] at e2 e8' ⊢
  simp only [List.length_append, List.length_map, Nat.add_assoc] at l4
  simp [m_text_of, g_text_of, e1, l1, e2, e3, b1, e8', e5, l2, b2, z, e6, l3, b3, itemsL, l4, -List.map_map]
  rw [em, e7]
  have hj' : ((w.rs.map (· ++ NLs)).map (·.length)).sum + (w.rs.map (· ++ NLs)).length * (Str.ofString "").length ≤ 16777216 := by rw [ez, Nat.mul_zero]; exact hj
  simp only [bind_ok, e_joinD, es, sizeLine_eq, if_pos hj', ec]
  rfl
end
theorem sadd {a b : Str} (h : a.length + b.length ≤ 16777216) : addD (.str a) (.str b) = .ok (.str (a ++ b)) := by
  unfold addD
  simp only
  rw [if_pos (by rw [sizeLine_eq]; exact h)]
noncomputable def nlr (rs : List Str) : List Str := rs.map (· ++ NLs)
theorem nlr_app (a b : List Str) : nlr (a ++ b) = nlr a ++ nlr b := List.map_append
theorem nlr_len {rs : List Str} (h : ∀ r ∈ rs, r.length ≤ 400) : (cat (nlr rs)).length ≤ 401 * rs.length := by
  rw [cat_len]
  have := lenLe (nlr rs) 401 (fun x hx => by
    obtain ⟨y, hy, rfl⟩ := List.mem_map.mp hx
    have := h y hy
    rw [slen, nl_len]; omega)
  unfold nlr at this ⊢
  rw [List.length_map] at this
  omega
theorem joinG (k o : Str) (g : Int) (w : Str) : Str.join (Str.ofString " ") [w, k, o, itoa g] = gapRow w k o g := by
  unfold gapRow SP
  simp only [Str.join, sapp_assoc]
theorem rowAt' {rows : List (List Int)} {i : Nat} (h : i < rows.length) : getI (rows.map rowD) (i : Int) = .ok (rowD rows[i]) := by
  unfold getI atI ixN
  rw [if_pos (by omega), if_pos (by simp <;> omega)]
  simp [h]
theorem intAt' {r : List Int} {i : Nat} (h : i < r.length) : getI (r.map .int) (i : Int) = .ok (.int r[i]) := by
  unfold getI atI ixN
  rw [if_pos (by omega), if_pos (by simp <;> omega)]
  simp [h]
theorem strAt' {r : List Str} {i : Nat} (h : i < r.length) : getI (r.map .str) (i : Int) = .ok (.str r[i]) := by
  unfold getI atI ixN
  rw [if_pos (by omega), if_pos (by simp <;> omega)]
  simp [h]
section
variable (CR CP CS : Addr)
theorem sh_kinds (n : Nat) (a0 a1 a2 a3 a4 a5 a6 z9 z10 z11 z12 z13 z14 z15 z16 : Option Dat) : ∀ (l : List Str) (T : Str) (z8 : Option Dat), (∀ k ∈ l, k.length ≤ 100) → T.length + 401 * l.length ≤ 1000000 → ∃ y8,
    forD (.nm 8) (b__law_shown_1 CR CP CS n) (l.map .str) [a0, a1, a2, a3, a4, a5, a6, some (.str T), z8, z9, z10, z11, z12, z13, z14, z15, z16] = .ok (.nx [a0, a1, a2, a3, a4, a5, a6, some (.str (T ++ cat (nlr (l.map kindRow)))), y8, z9, z10, z11, z12, z13, z14, z15, z16])
  | [], T, z8, _, _ => ⟨z8, by simp [forD, nlr, cat, sapp_nil]⟩
  | k :: l, T, z8, hl, ht => by
    have hk := hl k (by simp)
    have e1 : (Str.ofString "kind ").length = 5 := by decide +kernel
    have e2 : (Str.ofString "\n").length = 1 := nl_len
    simp only [List.length_cons] at ht
    have s1 := sadd (a := T) (b := Str.ofString "kind ") (by omega)
    have s2 := sadd (a := T ++ Str.ofString "kind ") (b := k) (by rw [slen]; omega)
    have s3 := sadd (a := T ++ Str.ofString "kind " ++ k) (b := Str.ofString "\n") (by rw [slen, slen]; omega)
    obtain ⟨y8, ih⟩ := sh_kinds n a0 a1 a2 a3 a4 a5 a6 z9 z10 z11 z12 z13 z14 z15 z16 l (T ++ Str.ofString "kind " ++ k ++ Str.ofString "\n") (some (.str k)) (fun x hx => hl x (by simp [hx])) (by rw [slen, slen, slen]; omega)
    refine ⟨y8, ?_⟩
    have et : T ++ Str.ofString "kind " ++ k ++ Str.ofString "\n" ++ cat (nlr (l.map kindRow)) = T ++ cat (nlr ((k :: l).map kindRow)) := by
      show _ = T ++ ((kindRow k ++ NLs) ++ cat (nlr (l.map kindRow)))
      unfold kindRow NLs
      simp only [sapp_assoc]
    rw [← et, ← ih]
    simp [forD, b__law_shown_1, s1, s2, s3]
theorem sh_gap1 (n : Nat) {ks : List Str} {rows : List (List Int)} (hks : ∀ k ∈ ks, k.length ≤ 100) (hr : GoodRows ks.length rows) {i : Nat} (hi : i < ks.length) (a0 a3 a4 a5 a6 z8 z11 z12 z13 z14 z15 z16 : Option Dat) : ∀ (m j : Nat) (T : Str) (z10 : Option Dat), j + m = ks.length → T.length + 401 * m ≤ 1000000 → ∃ y10,
    forD (.nm 10) (b__law_shown_3 CR CP CS n) (rangeL (j : Int) m) [a0, some (.lst (ks.map .str)), some (rowsD rows), a3, a4, a5, a6, some (.str T), z8, some (.int (i : Int)), z10, z11, z12, z13, z14, z15, z16] = .ok (.nx [a0, some (.lst (ks.map .str)), some (rowsD rows), a3, a4, a5, a6, some (.str (T ++ cat (nlr (gapRowsOf "gap" 1 ks[i] (ks.drop j) ((rows[i]'(by rw [hr.1]; exact hi)).drop j))))), z8, some (.int (i : Int)), y10, z11, z12, z13, z14, z15, z16])
  | 0, j, T, z10, hj, _ => ⟨z10, by
      have : ks.drop j = [] := List.drop_eq_nil_of_le (by omega)
      rw [this]
      simp [rangeL, forD, gapRowsOf, nlr, cat, sapp_nil]⟩
  | m + 1, j, T, z10, hj, ht => by
    have hjk : j < ks.length := by omega
    have hir : i < rows.length := by rw [hr.1]; exact hi
    have hrow := hr.2 rows[i] (List.getElem_mem hir)
    have hjr : j < rows[i].length := by rw [hrow.1]; exact hjk
    have hg := GoodRows.nat hr rows[i] (List.getElem_mem hir) rows[i][j] (List.getElem_mem hjr)
    have g1 := rowAt' hir
    have g2 := intAt' hjr
    have g3 := strAt' hi
    have g4 := strAt' hjk
    have hl := gapRow_len lgap (hks _ (List.getElem_mem hi)) (hks _ (List.getElem_mem hjk)) hg
    have ej := joinG ks[i] ks[j] rows[i][j] (Str.ofString "gap")
    have ll := str_log hg
    have e2 : (Str.ofString "\n").length = 1 := nl_len
    have d1 : ks.drop j = ks[j] :: ks.drop (j + 1) := List.drop_eq_getElem_cons hjk
    have d2 : rows[i].drop j = rows[i][j] :: rows[i].drop (j + 1) := List.drop_eq_getElem_cons hjr
    have eg : (Str.ofString "gap").length = 3 := by decide +kernel
    have es : (Str.ofString " ").length = 1 := by decide +kernel
    have k1 := hks _ (List.getElem_mem hi)
    have k2 := hks _ (List.getElem_mem hjk)
    have k3 := str_len hg
    rw [rangeL_cons, d1, d2, gapRowsOf]
    by_cases hp : 1 ≤ rows[i][j]
    · have s1 := sadd (a := T) (b := gapRow "gap" ks[i] ks[j] rows[i][j]) (by omega)
      have s2 := sadd (a := T ++ gapRow "gap" ks[i] ks[j] rows[i][j]) (b := Str.ofString "\n") (by rw [slen]; omega)
      have hp' : 0 < rows[i][j] := by omega
      have eb : b__law_shown_3 CR CP CS n [a0, some (.lst (ks.map .str)), some (rowsD rows), a3, a4, a5, a6, some (.str T), z8, some (.int (i : Int)), some (.int (j : Int)), z11, z12, z13, z14, z15, z16] = .ok (.nx [a0, some (.lst (ks.map .str)), some (rowsD rows), a3, a4, a5, a6, some (.str (T ++ gapRow "gap" ks[i] ks[j] rows[i][j] ++ Str.ofString "\n")), z8, some (.int (i : Int)), some (.int (j : Int)), z11, z12, z13, z14, z15, z16]) := by
        have hs : 3 + (ks[i].length + (ks[j].length + (itoa rows[i][j]).length)) + 4 ≤ 16777216 := by omega
        simp only [rowsD, rowD] at g1
        simp [b__law_shown_3, c__law_shown_2, rowsD, g1, rowD, g2, hp', g3, g4, ll, ej, eg, es, hs, s1, s2]
      obtain ⟨y10, ih⟩ := sh_gap1 n hks hr hi a0 a3 a4 a5 a6 z8 z11 z12 z13 z14 z15 z16 m (j + 1) (T ++ gapRow "gap" ks[i] ks[j] rows[i][j] ++ Str.ofString "\n") (some (.int (j : Int))) (by omega) (by rw [slen, slen]; omega)
      refine ⟨y10, ?_⟩
      rw [if_pos hp]
      have et : T ++ gapRow "gap" ks[i] ks[j] rows[i][j] ++ Str.ofString "\n" ++ cat (nlr (gapRowsOf "gap" 1 ks[i] (ks.drop (j + 1)) (rows[i].drop (j + 1)))) = T ++ cat (nlr ([gapRow "gap" ks[i] ks[j] rows[i][j]] ++ gapRowsOf "gap" 1 ks[i] (ks.drop (j + 1)) (rows[i].drop (j + 1)))) := by
        rw [nlr_app, cat_app]
        show _ = T ++ (((gapRow "gap" ks[i] ks[j] rows[i][j] ++ NLs) ++ Str.empty) ++ _)
        unfold NLs
        simp only [sapp_assoc, snil_app]
      rw [← et, ← ih]
      simp [forD, eb]
    · have hp' : ¬ 0 < rows[i][j] := by omega
      have eb : b__law_shown_3 CR CP CS n [a0, some (.lst (ks.map .str)), some (rowsD rows), a3, a4, a5, a6, some (.str T), z8, some (.int (i : Int)), some (.int (j : Int)), z11, z12, z13, z14, z15, z16] = .ok (.nx [a0, some (.lst (ks.map .str)), some (rowsD rows), a3, a4, a5, a6, some (.str T), z8, some (.int (i : Int)), some (.int (j : Int)), z11, z12, z13, z14, z15, z16]) := by
        simp only [rowsD, rowD] at g1
        simp [b__law_shown_3, c__law_shown_2, rowsD, g1, rowD, g2, hp']
      obtain ⟨y10, ih⟩ := sh_gap1 n hks hr hi a0 a3 a4 a5 a6 z8 z11 z12 z13 z14 z15 z16 m (j + 1) T (some (.int (j : Int))) (by omega) (by omega)
      refine ⟨y10, ?_⟩
      rw [if_neg hp, List.nil_append, ← ih]
      simp [forD, eb]
end
section
variable (CR CP CS : Addr)
theorem sh_gap2 (n : Nat) {ks : List Str} {rows : List (List Int)} (hks : ∀ k ∈ ks, k.length ≤ 100) (hm : ks.length ≤ 6) (hr : GoodRows ks.length rows) (a0 a3 a4 a5 a6 z8 z11 z12 z13 z14 z15 z16 : Option Dat) : ∀ (m i : Nat) (T : Str) (z9 z10 : Option Dat), i + m = ks.length → T.length + 2406 * m ≤ 900000 → ∃ y9 y10,
    forD (.nm 9) (b__law_shown_4 CR CP CS n) (rangeL (i : Int) m) [a0, some (.lst (ks.map .str)), some (rowsD rows), a3, a4, a5, a6, some (.str T), z8, z9, z10, z11, z12, z13, z14, z15, z16] = .ok (.nx [a0, some (.lst (ks.map .str)), some (rowsD rows), a3, a4, a5, a6, some (.str (T ++ cat (nlr (gapRows "gap" 1 ks (ks.drop i) (rows.drop i))))), z8, y9, y10, z11, z12, z13, z14, z15, z16])
  | 0, i, T, z9, z10, hi, _ => ⟨z9, z10, by
      have : ks.drop i = [] := List.drop_eq_nil_of_le (by omega)
      rw [this]
      simp [rangeL, forD, gapRows, nlr, cat, sapp_nil]⟩
  | m + 1, i, T, z9, z10, hi, ht => by
    have hik : i < ks.length := by omega
    have hir : i < rows.length := by rw [hr.1]; exact hik
    obtain ⟨y10, e⟩ := sh_gap1 CR CP CS n hks hr hik a0 a3 a4 a5 a6 z8 z11 z12 z13 z14 z15 z16 ks.length 0 T z10 (by omega) (by omega)
    simp only [List.drop_zero, Int.natCast_zero] at e
    have k1 : (-4611686018427387904 : Int) ≤ (ks.length : Int) := by omega
    have k2 : (ks.length : Int) < 4611686018427387904 := by omega
    have eb : b__law_shown_4 CR CP CS n [a0, some (.lst (ks.map .str)), some (rowsD rows), a3, a4, a5, a6, some (.str T), z8, some (.int (i : Int)), z10, z11, z12, z13, z14, z15, z16] = .ok (.nx [a0, some (.lst (ks.map .str)), some (rowsD rows), a3, a4, a5, a6, some (.str (T ++ cat (nlr (gapRowsOf "gap" 1 ks[i] ks rows[i])))), z8, some (.int (i : Int)), y10, z11, z12, z13, z14, z15, z16]) := by
      rw [← e]
      simp [b__law_shown_4, k1, k2]
    have d1 : ks.drop i = ks[i] :: ks.drop (i + 1) := List.drop_eq_getElem_cons hik
    have d2 : rows.drop i = rows[i] :: rows.drop (i + 1) := List.drop_eq_getElem_cons hir
    have hl := nlr_len (gapRowsOf_mem lgap (hks _ (List.getElem_mem hik)) (least := 1) ks rows[i] hks (GoodRows.nat hr rows[i] (List.getElem_mem hir)))
    have hl2 := gapRowsOf_len "gap" 1 ks[i] ks rows[i]
    obtain ⟨y9, x10, ih⟩ := sh_gap2 n hks hm hr a0 a3 a4 a5 a6 z8 z11 z12 z13 z14 z15 z16 m (i + 1) (T ++ cat (nlr (gapRowsOf "gap" 1 ks[i] ks rows[i]))) (some (.int (i : Int))) y10 (by omega) (by rw [slen]; omega)
    refine ⟨y9, x10, ?_⟩
    rw [rangeL_cons, d1, d2, gapRows, nlr_app, cat_app, ← sapp_assoc, ← ih]
    simp [forD, eb]
theorem sh_bes1 (n : Nat) {ks : List Str} {rows : List (List Int)} (hks : ∀ k ∈ ks, k.length ≤ 100) (hr : GoodRows ks.length rows) {i : Nat} (hi : i < ks.length) (a0 a2 a4 a5 a6 z8 z12 z13 z14 z15 z16 : Option Dat) : ∀ (m j : Nat) (T : Str) (z10 z11 : Option Dat), j + m = ks.length → T.length + 401 * m ≤ 1000000 → ∃ y10 y11,
    forD (.nm 10) (b__law_shown_5 CR CP CS n) (rangeL (j : Int) m) [a0, some (.lst (ks.map .str)), a2, some (rowsD rows), a4, a5, a6, some (.str T), z8, some (.int (i : Int)), z10, z11, z12, z13, z14, z15, z16] = .ok (.nx [a0, some (.lst (ks.map .str)), a2, some (rowsD rows), a4, a5, a6, some (.str (T ++ cat (nlr (gapRowsOf "beside" 0 ks[i] (ks.drop j) ((rows[i]'(by rw [hr.1]; exact hi)).drop j))))), z8, some (.int (i : Int)), y10, y11, z12, z13, z14, z15, z16])
  | 0, j, T, z10, z11, hj, _ => ⟨z10, z11, by
      have : ks.drop j = [] := List.drop_eq_nil_of_le (by omega)
      rw [this]
      simp [rangeL, forD, gapRowsOf, nlr, cat, sapp_nil]⟩
  | m + 1, j, T, z10, z11, hj, ht => by
    have hjk : j < ks.length := by omega
    have hir : i < rows.length := by rw [hr.1]; exact hi
    have hrow := hr.2 rows[i] (List.getElem_mem hir)
    have hjr : j < rows[i].length := by rw [hrow.1]; exact hjk
    have hg0 := hrow.2 rows[i][j] (List.getElem_mem hjr)
    have hg := GoodRows.nat hr rows[i] (List.getElem_mem hir) rows[i][j] (List.getElem_mem hjr)
    have g1 := rowAt' hir
    have g2 := intAt' hjr
    have g3 := strAt' hi
    have g4 := strAt' hjk
    have hl := gapRow_len lbes (hks _ (List.getElem_mem hi)) (hks _ (List.getElem_mem hjk)) hg
    have ej := joinG ks[i] ks[j] rows[i][j] (Str.ofString "beside")
    have ll := str_log hg
    have e2 : (Str.ofString "\n").length = 1 := nl_len
    have d1 : ks.drop j = ks[j] :: ks.drop (j + 1) := List.drop_eq_getElem_cons hjk
    have d2 : rows[i].drop j = rows[i][j] :: rows[i].drop (j + 1) := List.drop_eq_getElem_cons hjr
    have eg : (Str.ofString "beside").length = 6 := by decide +kernel
    have es : (Str.ofString " ").length = 1 := by decide +kernel
    have k1 := hks _ (List.getElem_mem hi)
    have k2 := hks _ (List.getElem_mem hjk)
    have k3 := str_len hg
    rw [rangeL_cons, d1, d2, gapRowsOf]
    have hp : 0 ≤ rows[i][j] := hg0.1
    have s1 := sadd (a := T) (b := gapRow "beside" ks[i] ks[j] rows[i][j]) (by omega)
    have s2 := sadd (a := T ++ gapRow "beside" ks[i] ks[j] rows[i][j]) (b := Str.ofString "\n") (by rw [slen]; omega)
    have eb : b__law_shown_5 CR CP CS n [a0, some (.lst (ks.map .str)), a2, some (rowsD rows), a4, a5, a6, some (.str T), z8, some (.int (i : Int)), some (.int (j : Int)), z11, z12, z13, z14, z15, z16] = .ok (.nx [a0, some (.lst (ks.map .str)), a2, some (rowsD rows), a4, a5, a6, some (.str (T ++ gapRow "beside" ks[i] ks[j] rows[i][j] ++ Str.ofString "\n")), z8, some (.int (i : Int)), some (.int (j : Int)), some (.str (gapRow "beside" ks[i] ks[j] rows[i][j])), z12, z13, z14, z15, z16]) := by
      have hs : 6 + (ks[i].length + (ks[j].length + (itoa rows[i][j]).length)) + 4 ≤ 16777216 := by omega
      simp only [rowsD, rowD] at g1
      simp [b__law_shown_5, rowsD, g1, rowD, g2, g3, g4, ll, ej, eg, es, hs, s1, s2]
    obtain ⟨y10, y11, ih⟩ := sh_bes1 n hks hr hi a0 a2 a4 a5 a6 z8 z12 z13 z14 z15 z16 m (j + 1) (T ++ gapRow "beside" ks[i] ks[j] rows[i][j] ++ Str.ofString "\n") (some (.int (j : Int))) (some (.str (gapRow "beside" ks[i] ks[j] rows[i][j]))) (by omega) (by rw [slen, slen]; omega)
    refine ⟨y10, y11, ?_⟩
    rw [if_pos hp]
    have et : T ++ gapRow "beside" ks[i] ks[j] rows[i][j] ++ Str.ofString "\n" ++ cat (nlr (gapRowsOf "beside" 0 ks[i] (ks.drop (j + 1)) (rows[i].drop (j + 1)))) = T ++ cat (nlr ([gapRow "beside" ks[i] ks[j] rows[i][j]] ++ gapRowsOf "beside" 0 ks[i] (ks.drop (j + 1)) (rows[i].drop (j + 1)))) := by
      rw [nlr_app, cat_app]
      show _ = T ++ (((gapRow "beside" ks[i] ks[j] rows[i][j] ++ NLs) ++ Str.empty) ++ _)
      unfold NLs
      simp only [sapp_assoc, snil_app]
    rw [← et, ← ih]
    simp [forD, eb]
theorem sh_bes2 (n : Nat) {ks : List Str} {rows : List (List Int)} (hks : ∀ k ∈ ks, k.length ≤ 100) (hm : ks.length ≤ 6) (hr : GoodRows ks.length rows) (a0 a2 a4 a5 a6 z8 z12 z13 z14 z15 z16 : Option Dat) : ∀ (m i : Nat) (T : Str) (z9 z10 z11 : Option Dat), i + m = ks.length → T.length + 2406 * m ≤ 900000 → ∃ y9 y10 y11,
    forD (.nm 9) (b__law_shown_6 CR CP CS n) (rangeL (i : Int) m) [a0, some (.lst (ks.map .str)), a2, some (rowsD rows), a4, a5, a6, some (.str T), z8, z9, z10, z11, z12, z13, z14, z15, z16] = .ok (.nx [a0, some (.lst (ks.map .str)), a2, some (rowsD rows), a4, a5, a6, some (.str (T ++ cat (nlr (gapRows "beside" 0 ks (ks.drop i) (rows.drop i))))), z8, y9, y10, y11, z12, z13, z14, z15, z16])
  | 0, i, T, z9, z10, z11, hi, _ => ⟨z9, z10, z11, by
      have : ks.drop i = [] := List.drop_eq_nil_of_le (by omega)
      rw [this]
      simp [rangeL, forD, gapRows, nlr, cat, sapp_nil]⟩
  | m + 1, i, T, z9, z10, z11, hi, ht => by
    have hik : i < ks.length := by omega
    have hir : i < rows.length := by rw [hr.1]; exact hik
    obtain ⟨y10, y11, e⟩ := sh_bes1 CR CP CS n hks hr hik a0 a2 a4 a5 a6 z8 z12 z13 z14 z15 z16 ks.length 0 T z10 z11 (by omega) (by omega)
    simp only [List.drop_zero, Int.natCast_zero] at e
    have k1 : (-4611686018427387904 : Int) ≤ (ks.length : Int) := by omega
    have k2 : (ks.length : Int) < 4611686018427387904 := by omega
    have eb : b__law_shown_6 CR CP CS n [a0, some (.lst (ks.map .str)), a2, some (rowsD rows), a4, a5, a6, some (.str T), z8, some (.int (i : Int)), z10, z11, z12, z13, z14, z15, z16] = .ok (.nx [a0, some (.lst (ks.map .str)), a2, some (rowsD rows), a4, a5, a6, some (.str (T ++ cat (nlr (gapRowsOf "beside" 0 ks[i] ks rows[i])))), z8, some (.int (i : Int)), y10, y11, z12, z13, z14, z15, z16]) := by
      rw [← e]
      simp [b__law_shown_6, k1, k2]
    have d1 : ks.drop i = ks[i] :: ks.drop (i + 1) := List.drop_eq_getElem_cons hik
    have d2 : rows.drop i = rows[i] :: rows.drop (i + 1) := List.drop_eq_getElem_cons hir
    have hl := nlr_len (gapRowsOf_mem lbes (hks _ (List.getElem_mem hik)) (least := 0) ks rows[i] hks (GoodRows.nat hr rows[i] (List.getElem_mem hir)))
    have hl2 := gapRowsOf_len "beside" 0 ks[i] ks rows[i]
    obtain ⟨y9, x10, x11, ih⟩ := sh_bes2 n hks hm hr a0 a2 a4 a5 a6 z8 z12 z13 z14 z15 z16 m (i + 1) (T ++ cat (nlr (gapRowsOf "beside" 0 ks[i] ks rows[i]))) (some (.int (i : Int))) y10 y11 (by omega) (by rw [slen]; omega)
    refine ⟨y9, x10, x11, ?_⟩
    rw [rangeL_cons, d1, d2, gapRows, nlr_app, cat_app, ← sapp_assoc, ← ih]
    simp [forD, eb]
end
section
variable (CR CP CS : Addr)
theorem sh_closed (n : Nat) (a0 a1 a2 a3 a4 a5 a6 z8 z9 z10 z11 z14 z15 z16 : Option Dat) : ∀ (l : List Stre) (T : Str) (z12 z13 : Option Dat), (∀ p ∈ l, p.1.natAbs < 10 ^ 10 ∧ p.2.natAbs < 10 ^ 10) → T.length + 401 * l.length ≤ 1000000 → ∃ y12 y13,
    forD (.tp [12, 13]) (b__law_shown_8 CR CP CS n) (l.map stD) [a0, a1, a2, a3, a4, a5, a6, some (.str T), z8, z9, z10, z11, z12, z13, z14, z15, z16] = .ok (.nx [a0, a1, a2, a3, a4, a5, a6, some (.str (T ++ cat (nlr (l.map closedRow)))), z8, z9, z10, z11, y12, y13, z14, z15, z16])
  | [], T, z12, z13, _, _ => ⟨z12, z13, by simp [forD, nlr, cat, sapp_nil]⟩
  | p :: l, T, z12, z13, hl, ht => by
    obtain ⟨h1, h2⟩ := hl p (by simp)
    have e1 : (Str.ofString "closed ").length = 7 := by decide +kernel
    have e2 : (Str.ofString "\n").length = 1 := nl_len
    have e3 : (Str.ofString " ").length = 1 := by decide +kernel
    have l1 := str_len h1
    have l2 := str_len h2
    have g1 := str_log h1
    have g2 := str_log h2
    simp only [List.length_cons] at ht
    have s1 := sadd (a := T) (b := Str.ofString "closed ") (by omega)
    have s2 := sadd (a := T ++ Str.ofString "closed ") (b := itoa p.1) (by rw [slen]; omega)
    have s3 := sadd (a := T ++ Str.ofString "closed " ++ itoa p.1) (b := Str.ofString " ") (by rw [slen, slen]; omega)
    have s4 := sadd (a := T ++ Str.ofString "closed " ++ itoa p.1 ++ Str.ofString " ") (b := itoa p.2) (by rw [slen, slen, slen]; omega)
    have s5 := sadd (a := T ++ Str.ofString "closed " ++ itoa p.1 ++ Str.ofString " " ++ itoa p.2) (b := Str.ofString "\n") (by rw [slen, slen, slen, slen]; omega)
    obtain ⟨y12, y13, ih⟩ := sh_closed n a0 a1 a2 a3 a4 a5 a6 z8 z9 z10 z11 z14 z15 z16 l (T ++ Str.ofString "closed " ++ itoa p.1 ++ Str.ofString " " ++ itoa p.2 ++ Str.ofString "\n") (some (.int p.1)) (some (.int p.2)) (fun x hx => hl x (by simp [hx])) (by rw [slen, slen, slen, slen, slen]; omega)
    refine ⟨y12, y13, ?_⟩
    have et : T ++ Str.ofString "closed " ++ itoa p.1 ++ Str.ofString " " ++ itoa p.2 ++ Str.ofString "\n" ++ cat (nlr (l.map closedRow)) = T ++ cat (nlr ((p :: l).map closedRow)) := by
      show _ = T ++ ((closedRow p ++ NLs) ++ cat (nlr (l.map closedRow)))
      unfold closedRow NLs SP
      simp only [sapp_assoc]
    rw [← et, ← ih]
    simp [forD, stD, b__law_shown_8, g1, g2, s1, s2, s3, s4, s5]
theorem sh_fl (n : Nat) {ks : List Str} (hks : ∀ k ∈ ks, k.length ≤ 100) (a0 a2 a3 a4 a5 a6 z8 z9 z10 z11 z12 z13 : Option Dat) : ∀ (l : List (Str × Fli)) (T : Str) (z14 z15 z16 : Option Dat), (∀ p ∈ l, p.1.length ≤ 100 ∧ BFl ks.length p.2) → T.length + 401 * l.length ≤ 1000000 → ∃ y14 y15 y16,
    forD (.tp [14, 15]) (b__law_shown_10 CR CP CS n) (l.map fun p => Dat.tup [.str p.1, flD p.2]) [a0, some (.lst (ks.map .str)), a2, a3, a4, a5, a6, some (.str T), z8, z9, z10, z11, z12, z13, z14, z15, z16] = .ok (.nx [a0, some (.lst (ks.map .str)), a2, a3, a4, a5, a6, some (.str (T ++ cat (nlr (l.map (flightRow ks))))), z8, z9, z10, z11, z12, z13, y14, y15, y16])
  | [], T, z14, z15, z16, _, _ => ⟨z14, z15, z16, by simp [forD, nlr, cat, sapp_nil]⟩
  | p :: l, T, z14, z15, z16, hl, ht => by
    obtain ⟨nm, f⟩ := p
    have hnf := hl (nm, f) (by simp)
    have hn : nm.length ≤ 100 := hnf.1
    have hf : BFl ks.length f := hnf.2
    have e0 : Str.ofString "flight " = Str.ofString "flight" ++ Str.ofString " " := by decide +kernel
    have e1 : (Str.ofString "flight ").length = 7 := by decide +kernel
    have e2 : (Str.ofString "\n").length = 1 := nl_len
    have e3 : (Str.ofString " ").length = 1 := by decide +kernel
    obtain ⟨g0, hmem⟩ := sget hf.k0 hf.k1
    have h0 := hks _ hmem
    have l1 := str_len hf.a
    have l2 := str_len hf.b
    have l3 := str_len hf.c
    have l4 := str_len hf.d
    have g1 := str_log hf.a
    have g2 := str_log hf.b
    have g3 := str_log hf.c
    have g4 := str_log hf.d
    simp only [List.length_cons] at ht
    generalize hT1 : T ++ Str.ofString "flight " ++ nm ++ Str.ofString " " ++ kAt ks f.kind = T1
    have ht1 : T1.length ≤ T.length + 208 := by rw [← hT1]; simp only [slen]; omega
    have s1 := sadd (a := T) (b := Str.ofString "flight ") (by omega)
    have s2 := sadd (a := T ++ Str.ofString "flight ") (b := nm) (by simp only [slen]; omega)
    have s3 := sadd (a := T ++ Str.ofString "flight " ++ nm) (b := Str.ofString " ") (by simp only [slen]; omega)
    have s4 := sadd (a := T ++ Str.ofString "flight " ++ nm ++ Str.ofString " ") (b := kAt ks f.kind) (by simp only [slen]; omega)
    rw [hT1] at s4
    have num : ∀ (U : Str) (i : Int) (z : Option Dat), U.length ≤ 1100000 → i.natAbs < 10 ^ 10 → b__law_shown_9 CR CP CS n [a0, some (.lst (ks.map .str)), a2, a3, a4, a5, a6, some (.str U), z8, z9, z10, z11, z12, z13, some (.str nm), z, some (.int i)] = .ok (.nx [a0, some (.lst (ks.map .str)), a2, a3, a4, a5, a6, some (.str (U ++ Str.ofString " " ++ itoa i)), z8, z9, z10, z11, z12, z13, some (.str nm), z, some (.int i)]) := fun U i z hU hi => by
      have x1 := str_len hi
      have x2 := str_log hi
      have y1 := sadd (a := U) (b := Str.ofString " ") (by omega)
      have y2 := sadd (a := U ++ Str.ofString " ") (b := itoa i) (by simp only [slen]; omega)
      simp [b__law_shown_9, x2, y1, y2]
    have n1 := num T1 f.first (some (flD f)) (by omega) hf.a
    have n2 := num (T1 ++ Str.ofString " " ++ itoa f.first) f.last (some (flD f)) (by simp only [slen]; omega) hf.b
    have n3 := num (T1 ++ Str.ofString " " ++ itoa f.first ++ Str.ofString " " ++ itoa f.last) f.due (some (flD f)) (by simp only [slen]; omega) hf.c
    have n4 := num (T1 ++ Str.ofString " " ++ itoa f.first ++ Str.ofString " " ++ itoa f.last ++ Str.ofString " " ++ itoa f.due) f.price (some (flD f)) (by simp only [slen]; omega) hf.d
    have s5 := sadd (a := T1 ++ Str.ofString " " ++ itoa f.first ++ Str.ofString " " ++ itoa f.last ++ Str.ofString " " ++ itoa f.due ++ Str.ofString " " ++ itoa f.price) (b := Str.ofString "\n") (by simp only [slen]; omega)
    have esl : sliceD (.tup [.int f.kind, .int f.first, .int f.last, .int f.due, .int f.price]) (some 1) none = .ok (.tup [.int f.first, .int f.last, .int f.due, .int f.price]) := rfl
    have eb : b__law_shown_10 CR CP CS n [a0, some (.lst (ks.map .str)), a2, a3, a4, a5, a6, some (.str T), z8, z9, z10, z11, z12, z13, some (.str nm), some (flD f), z16] = .ok (.nx [a0, some (.lst (ks.map .str)), a2, a3, a4, a5, a6, some (.str (T1 ++ Str.ofString " " ++ itoa f.first ++ Str.ofString " " ++ itoa f.last ++ Str.ofString " " ++ itoa f.due ++ Str.ofString " " ++ itoa f.price ++ Str.ofString "\n")), z8, z9, z10, z11, z12, z13, some (.str nm), some (flD f), some (.int f.price)]) := by
      simp only [flD] at n1 n2 n3 n4 ⊢
      simp [b__law_shown_10, s1, s2, s3, g0, s4, esl, forD, n1, n2, n3, n4, s5]
    obtain ⟨y14, y15, y16, ih⟩ := sh_fl n hks a0 a2 a3 a4 a5 a6 z8 z9 z10 z11 z12 z13 l (T1 ++ Str.ofString " " ++ itoa f.first ++ Str.ofString " " ++ itoa f.last ++ Str.ofString " " ++ itoa f.due ++ Str.ofString " " ++ itoa f.price ++ Str.ofString "\n") (some (.str nm)) (some (flD f)) (some (.int f.price)) (fun x hx => hl x (by simp [hx])) (by simp only [slen]; omega)
    refine ⟨y14, y15, y16, ?_⟩
    have et : T1 ++ Str.ofString " " ++ itoa f.first ++ Str.ofString " " ++ itoa f.last ++ Str.ofString " " ++ itoa f.due ++ Str.ofString " " ++ itoa f.price ++ Str.ofString "\n" ++ cat (nlr (l.map (flightRow ks))) = T ++ cat (nlr (((nm, f) :: l).map (flightRow ks))) := by
      show _ = T ++ ((flightRow ks (nm, f) ++ NLs) ++ cat (nlr (l.map (flightRow ks))))
      rw [← hT1, e0]
      unfold flightRow NLs SP
      simp only [sapp_assoc]
    rw [← et, ← ih]
    simp [forD, eb]
theorem shown_ok (n : Nat) {w : Sh} (h : w.Good) : m__law_shown CR CP CS n [w.D] = .ok (.str w.tx) := by
  have hk6 := h.k6
  have hnm := h.nm
  have hcm := h.cm
  have k1 : (-4611686018427387904 : Int) ≤ (w.ks.length : Int) := by omega
  have k2 : (w.ks.length : Int) < 4611686018427387904 := by omega
  have z0 : (Str.ofString "").length = 0 := by decide +kernel
  have ze : Str.ofString "" = Str.empty := by decide +kernel
  obtain ⟨y8, e1⟩ := sh_kinds CR CP CS n (some w.D) (some w.kD) (some (rowsD w.rows)) (some w.bD) (some w.nD) (some w.fD) (some w.cD) none none none none none none none none w.ks Str.empty none h.kl (by show 0 + _ ≤ _; omega)
  rw [snil_app] at e1
  have L1 := nlr_len (rs := w.ks.map kindRow) (fun r hr => by obtain ⟨k, hk, rfl⟩ := List.mem_map.mp hr; exact kindRow_len (h.kl k hk))
  rw [List.length_map] at L1
  generalize hT1 : cat (nlr (w.ks.map kindRow)) = T1 at e1 L1
  obtain ⟨y9, y10, e2⟩ := sh_gap2 CR CP CS n h.kl hk6 h.rows (some w.D) (some w.bD) (some w.nD) (some w.fD) (some w.cD) y8 none none none none none none w.ks.length 0 T1 none none (by omega) (by omega)
  simp only [List.drop_zero, Int.natCast_zero] at e2
  have L2 := nlr_len (gapRows_mem lgap h.kl (least := 1) w.ks w.rows h.kl h.rows.nat)
  have L2' := gapRows_len "gap" 1 w.ks w.ks w.rows
  have hkk : w.ks.length * w.ks.length ≤ 36 := Nat.mul_le_mul hk6 hk6
  generalize hT2 : cat (nlr (gapRows "gap" 1 w.ks w.ks w.rows)) = T2 at e2 L2
  obtain ⟨T3, y9', y10', y11', hT3, L3, e3⟩ : ∃ T3 y9' y10' y11', cat (nlr (besRows w.ks w.o)) = T3 ∧ T3.length ≤ 14436 ∧ c__law_shown_7 CR CP CS n [some w.D, some w.kD, some (rowsD w.rows), some w.bD, some w.nD, some w.fD, some w.cD, some (.str (T1 ++ T2)), y8, y9, y10, none, none, none, none, none, none] = .ok (.nx [some w.D, some w.kD, some (rowsD w.rows), some w.bD, some w.nD, some w.fD, some w.cD, some (.str (T1 ++ T2 ++ T3)), y8, y9', y10', y11', none, none, none, none, none]) := by
    cases ho : w.o with
    | none =>
      have eb : w.bD = .non := by unfold Sh.bD; rw [ho]
      refine ⟨Str.empty, y9, y10, none, rfl, by decide, ?_⟩
      rw [eb, sapp_nil]
      simp [c__law_shown_7]
    | some r2 =>
      have eb : w.bD = rowsD r2 := by unfold Sh.bD; rw [ho]
      have M1 := nlr_len (gapRows_mem lbes h.kl (least := 0) w.ks r2 h.kl (h.o r2 ho).nat)
      have M2 := gapRows_len "beside" 0 w.ks w.ks r2
      obtain ⟨x9, x10, x11, e⟩ := sh_bes2 CR CP CS n h.kl hk6 (h.o r2 ho) (some w.D) (some (rowsD w.rows)) (some w.nD) (some w.fD) (some w.cD) y8 none none none none none w.ks.length 0 (T1 ++ T2) y9 y10 none (by omega) (by rw [slen]; omega)
      simp only [List.drop_zero, Int.natCast_zero] at e
      refine ⟨cat (nlr (gapRows "beside" 0 w.ks w.ks r2)), x9, x10, x11, rfl, by omega, ?_⟩
      rw [eb]
      have en : notND (rowsD r2) .non = .ok (.bl true) := rfl
      simp only [Sh.kD] at e ⊢
      have en2 : fB (f2 notND (fVar 3) (fC .non)) [some w.D, some (Dat.lst (w.ks.map .str)), some (rowsD w.rows), some (rowsD r2), some w.nD, some w.fD, some w.cD, some (.str (T1 ++ T2)), y8, y9, y10, none, none, none, none, none, none] = .ok true := rfl
      unfold c__law_shown_7
      rw [e_if, en2, bind_ok, if_pos rfl]
      simp [k1, k2, e]
  obtain ⟨y12, y13, e4⟩ := sh_closed CR CP CS n (some w.D) (some w.kD) (some (rowsD w.rows)) (some w.bD) (some w.nD) (some w.fD) (some w.cD) y8 y9' y10' y11' none none none w.cs (T1 ++ T2 ++ T3) none none h.cl (by simp only [slen]; omega)
  have L4 := nlr_len (rs := w.cs.map closedRow) (fun r hr => by obtain ⟨k, hk, rfl⟩ := List.mem_map.mp hr; exact closedRow_len (h.cl k hk))
  rw [List.length_map] at L4
  generalize hT4 : cat (nlr (w.cs.map closedRow)) = T4 at e4 L4
  obtain ⟨y14, y15, y16, e5⟩ := sh_fl CR CP CS n h.kl (some w.D) (some (rowsD w.rows)) (some w.bD) (some w.nD) (some w.fD) (some w.cD) y8 y9' y10' y11' y12 y13 w.nf (T1 ++ T2 ++ T3 ++ T4) none none none h.nl (by simp only [slen]; omega)
  have et : T1 ++ T2 ++ T3 ++ T4 ++ cat (nlr (w.nf.map (flightRow w.ks))) = w.tx := by
    rw [← hT1, ← hT2, ← hT3, ← hT4]
    unfold Sh.tx textOf Sh.rs rowsOf
    show _ = cat (nlr _)
    rw [nlr_app, nlr_app, nlr_app, nlr_app, cat_app, cat_app, cat_app, cat_app]
  rw [et] at e5
  have z := zip_nf w.nf
  simp only [Sh.D, Sh.kD, Sh.nD, Sh.fD, Sh.cD] at e1 e2 e3 e4 e5 ⊢
  simp [m__law_shown, g__law_shown, ze, e1, k1, k2, e2, e3, e4, itemsL, z, e5, -List.map_map]
end
theorem okEs_map {α : Type} (f : α → Dat) (n : Nat) (h : ∀ x, okE (f x) n = true) : ∀ L : List α, okEs (L.map f) n = true
  | [] => rfl
  | x :: L => by simp [okEs, h x, okEs_map f n h L]
theorem same_ne {d : Dat} (h : okE d 40 = true) : neM d d = .ok (.bl false) := by
  unfold neM
  rw [h]
  simp [eqD_refl h]
theorem same_eq {d : Dat} (h : okE d 40 = true) : eqM d d = .ok (.bl true) := by
  unfold eqM
  rw [h]
  simp [eqD_refl h]
theorem okE_tz (x : List Int) (n : Nat) : okE (tupZ x) (n + 1) = true := by
  unfold tupZ
  simp only [okE]
  exact okEs_map _ _ (fun _ => by simp [okE]) x
theorem okE_lt (xs : List (List Int)) (n : Nat) : okE (.lst (xs.map tupZ)) (n + 2) = true := by
  simp only [okE]
  exact okEs_map _ _ (fun x => okE_tz x n) xs
theorem okE_row (rows : List (List Int)) (n : Nat) : okE (rowsD rows) (n + 2) = true := by
  unfold rowsD
  simp only [okE]
  refine okEs_map _ _ (fun r => ?_) rows
  unfold rowD
  simp only [okE]
  exact okEs_map _ _ (fun _ => by simp [okE]) r
theorem okE_strs (xs : List Str) (n : Nat) : okE (.lst (xs.map .str)) (n + 1) = true := by
  simp only [okE]
  exact okEs_map _ _ (fun _ => by simp [okE]) xs
noncomputable def flZ (f : Fli) : List Int := [f.kind, f.first, f.last, f.due, f.price]
noncomputable def stZ (p : Stre) : List Int := [p.1, p.2]
theorem flD_map (l : List Fli) : l.map flD = (l.map flZ).map tupZ := by rw [List.map_map]; rfl
theorem stD_map (l : List Stre) : l.map stD = (l.map stZ).map tupZ := by rw [List.map_map]; rfl
section
variable (CR CP CS : Addr)
theorem whole_comp (n : Nat) (x : List Int) : compD (.nm 0) fYes (fL (m__law_whole CR CP CS n) (fCons (fVar 0) fNil)) [none] (x.map .int) = .ok ((x.map fun _ => true).map Dat.bl) := by
  rw [List.map_map]
  refine compD_of _ _ x fun i _ => ⟨[some (.int i)], rfl, ?_⟩
  simp [m__law_whole, g__law_whole]
theorem tuples_loop (n : Nat) (L : Nat) (hL : L ≤ 100) (a0 a1 : Option Dat) : ∀ (xs : List (List Int)) (z3 : Option Dat), (∀ x ∈ xs, x.length = L) → ∃ y3, forD (.nm 3) (b__law_tuples_4 CR CP CS n) (xs.map tupZ) [a0, a1, some (.int L), z3] = .ok (.nx [a0, a1, some (.int L), y3])
  | [], z3, _ => ⟨z3, rfl⟩
  | x :: xs, z3, h => by
    have hx := h x (by simp)
    have hl : x.length ≤ 16777216 := by omega
    have hl2 : L ≤ 16777216 := by omega
    have ec := whole_comp CR CP CS n x
    have en : neM (.int (L : Int)) (.int (L : Int)) = .ok (.bl false) := same_ne rfl
    have ea : (x.map fun _ => true).all id = true := by simp
    have eb : b__law_tuples_4 CR CP CS n [a0, a1, some (.int L), some (tupZ x)] = .ok (.nx [a0, a1, some (.int L), some (tupZ x)]) := by
      simp [b__law_tuples_4, c__law_tuples_2, c__law_tuples_3, tupZ, hx, hl2, ec, ea, -List.map_map]
    obtain ⟨y3, ih⟩ := tuples_loop n L hL a0 a1 xs (some (tupZ x)) fun y hy => h y (by simp [hy])
    refine ⟨y3, ?_⟩
    rw [← ih]
    simp [forD, eb]
theorem tuples_ok (n : Nat) (L : Nat) (hL : L ≤ 100) (xs : List (List Int)) (h : ∀ x ∈ xs, x.length = L) : m__law_tuples CR CP CS n [.lst (xs.map tupZ), .lst (xs.map tupZ), .int L] = .ok (.bl true) := by
  have en := same_ne (okE_lt xs 38)
  obtain ⟨y3, e⟩ := tuples_loop CR CP CS n L hL (some (.lst (xs.map tupZ))) (some (.lst (xs.map tupZ))) xs none h
  simp [m__law_tuples, g__law_tuples, c__law_tuples_1, en, e]
noncomputable def Sh.obj (w : Sh) : Dat := .ins CS [("kinds", w.kD), ("rules", w.ru CR CP), ("names", w.nD), ("flights", w.fD), ("closed", w.cD), ("text", .str w.tx)]
theorem obj_at (w : Sh) : attrD [CS] "kinds" (w.obj CR CP CS) = .ok w.kD ∧ attrD [CS] "rules" (w.obj CR CP CS) = .ok (w.ru CR CP) ∧ attrD [CS] "names" (w.obj CR CP CS) = .ok w.nD ∧ attrD [CS] "flights" (w.obj CR CP CS) = .ok w.fD ∧ attrD [CS] "closed" (w.obj CR CP CS) = .ok w.cD ∧ attrD [CS] "text" (w.obj CR CP CS) = .ok (.str w.tx) := by
  have ne : ∀ a b : Str, a ≠ b → (a == b) = false := fun a b h => by simp [h]
  have key : ∀ (y : Str) (d : Dat), List.lookup y [(("kinds" : Str), w.kD), (("rules" : Str), w.ru CR CP), (("names" : Str), w.nD), (("flights" : Str), w.fD), (("closed" : Str), w.cD), (("text" : Str), .str w.tx)] = some d → attrD [CS] y (w.obj CR CP CS) = .ok d := fun y d h => by
    show (if ([CS].contains CS) = true then (match List.lookup y [(("kinds" : Str), w.kD), (("rules" : Str), w.ru CR CP), (("names" : Str), w.nD), (("flights" : Str), w.fD), (("closed" : Str), w.cD), (("text" : Str), Dat.str w.tx)] with | some d => Except.ok d | none => stk) else stk) = _
    rw [if_pos (by simp), h]
  have e1 : (("rules" : Str) == ("kinds" : Str)) = false := by decide +kernel
  have e2 : (("names" : Str) == ("kinds" : Str)) = false := by decide +kernel
  have e3 : (("names" : Str) == ("rules" : Str)) = false := by decide +kernel
  have e4 : (("flights" : Str) == ("kinds" : Str)) = false := by decide +kernel
  have e5 : (("flights" : Str) == ("rules" : Str)) = false := by decide +kernel
  have e6 : (("flights" : Str) == ("names" : Str)) = false := by decide +kernel
  have e7 : (("closed" : Str) == ("kinds" : Str)) = false := by decide +kernel
  have e8 : (("closed" : Str) == ("rules" : Str)) = false := by decide +kernel
  have e9 : (("closed" : Str) == ("names" : Str)) = false := by decide +kernel
  have e10 : (("closed" : Str) == ("flights" : Str)) = false := by decide +kernel
  have e11 : (("text" : Str) == ("kinds" : Str)) = false := by decide +kernel
  have e12 : (("text" : Str) == ("rules" : Str)) = false := by decide +kernel
  have e13 : (("text" : Str) == ("names" : Str)) = false := by decide +kernel
  have e14 : (("text" : Str) == ("flights" : Str)) = false := by decide +kernel
  have e15 : (("text" : Str) == ("closed" : Str)) = false := by decide +kernel
  refine ⟨key _ _ ?_, key _ _ ?_, key _ _ ?_, key _ _ ?_, key _ _ ?_, key _ _ ?_⟩ <;> simp only [List.lookup_cons, beq_self_eq_true, e1, e2, e3, e4, e5, e6, e7, e8, e9, e10, e11, e12, e13, e14, e15]
theorem obj_isi (w : Sh) : isiC [(CS, true)] (w.obj CR CP CS) = .ok (.bl true) := by
  show (match List.lookup CS [(CS, true)] with | some b => Except.ok (Dat.bl b) | none => stk) = _
  rw [List.lookup_cons, show (CS == CS) = true by simp]
theorem obj_shown (n : Nat) (w : Sh) (fo : Env' → M Dat) (ρ : Env') (e : fo ρ = .ok (w.obj CR CP CS)) : fMeth CS "shown" (m_Sheet_shown CR CP CS n) fo fNil ρ = .ok (.str w.tx) := by
  have z : isC CS "shown" (w.obj CR CP CS) = true := by
    show ((CS == CS) && (List.lookup ("shown" : Str) [(("kinds" : Str), w.kD), (("rules" : Str), w.ru CR CP), (("names" : Str), w.nD), (("flights" : Str), w.fD), (("closed" : Str), w.cD), (("text" : Str), .str w.tx)]).isNone) = true
    simp only [List.lookup_cons, show (("shown" : Str) == ("kinds" : Str)) = false by decide +kernel, show (("shown" : Str) == ("rules" : Str)) = false by decide +kernel, show (("shown" : Str) == ("names" : Str)) = false by decide +kernel, show (("shown" : Str) == ("flights" : Str)) = false by decide +kernel, show (("shown" : Str) == ("closed" : Str)) = false by decide +kernel, show (("shown" : Str) == ("text" : Str)) = false by decide +kernel]
    simp
  have et := (obj_at CR CP CS w).2.2.2.2.2
  unfold fMeth
  rw [e]
  show (if isC CS "shown" (w.obj CR CP CS) = true then _ else _) = _
  rw [if_pos z]
  show m_Sheet_shown CR CP CS n [w.obj CR CP CS] = _
  simp [m_Sheet_shown, g_Sheet_shown, et]
theorem is_ok (hne : CR ≠ CP) (n : Nat) {w : Sh} (h : w.Good) : m__law_is CR CP CS n [w.obj CR CP CS, w.D] = .ok (.bl true) := by
  obtain ⟨a1, a2, a3, a4, a5, a6⟩ := obj_at CR CP CS w
  have ei := obj_isi CR CP CS w
  have n1 : neM w.kD w.kD = .ok (.bl false) := same_ne (okE_strs _ 39)
  have n2 : neM w.nD w.nD = .ok (.bl false) := same_ne (okE_strs _ 39)
  have n3 : neM (rowsD w.rows) (rowsD w.rows) = .ok (.bl false) := same_ne (okE_row _ 38)
  have t1 : m__law_tuples CR CP CS n [w.fD, w.fD, .int 5] = .ok (.bl true) := by
    unfold Sh.fD
    rw [flD_map]
    exact tuples_ok CR CP CS n 5 (by decide) _ fun x hx => by obtain ⟨f, _, rfl⟩ := List.mem_map.mp hx; rfl
  have t2 : m__law_tuples CR CP CS n [w.cD, w.cD, .int 2] = .ok (.bl true) := by
    unfold Sh.cD
    rw [stD_map]
    exact tuples_ok CR CP CS n 2 (by decide) _ fun x hx => by obtain ⟨f, _, rfl⟩ := List.mem_map.mp hx; rfl
  generalize hE : ([some (w.obj CR CP CS), some w.D, some w.kD, some (rowsD w.rows), some w.bD, some w.nD, some w.fD, some w.cD] : Env') = E
  have er : f1 (attrD [CS] "rules") (fVar 0) E = .ok (w.ru CR CP) := by rw [← hE]; exact a2
  have g1 := ru_gap CR CP CS hne n h (f1 (attrD [CS] "rules") (fVar 0)) E er
  have g2 := ru_strips CR CP CS hne n (w := w) (f1 (attrD [CS] "rules") (fVar 0)) E er
  subst hE
  cases ho : w.o with
  | none =>
    have eb : w.bD = .non := by unfold Sh.bD; rw [ho]
    rw [eb] at g1 g2
    rw [ho] at g2
    simp only [Sh.D, eb] at g1 g2 ⊢
    simp [m__law_is, g__law_is, c__law_is_1, c__law_is_2, c__law_is_3, c__law_is_4, ei, a1, a3, n1, n2, a4, a5, t1, t2, g1, n3, g2, b2z]
  | some r2 =>
    have eb : w.bD = rowsD r2 := by unfold Sh.bD; rw [ho]
    have g3 := ru_bes CR CP CS n h ho (f1 (attrD [CS] "rules") (fVar 0)) _ er
    have q := same_eq (okE_row r2 38)
    have en : notND (rowsD r2) .non = .ok (.bl true) := rfl
    have en2 : isND (rowsD r2) .non = .ok (.bl false) := rfl
    rw [eb] at g1 g2 g3
    rw [ho] at g2
    simp only [Sh.D, eb, rowsD] at g1 g2 g3 n3 q ⊢
    simp [m__law_is, g__law_is, c__law_is_1, c__law_is_2, c__law_is_3, c__law_is_4, ei, a1, a3, n1, n2, a4, a5, t1, t2, g1, n3, g2, g3, q, b2z]
end
theorem take63 {ns : List Int} (h : ns.length ≤ 63) : sliceD (.lst (ns.map .int)) none (some 63) = .ok (.lst (ns.map .int)) := by
  show Except.ok (Dat.lst (cutL (ns.map Dat.int) none (some 63))) = _
  congr 2
  unfold cutL cX
  rw [List.drop_zero, List.take_of_length_le]
  simp
  omega
theorem pick3 (A B C s : Int) (hs : s = 0 ∨ s = 1 ∨ s = 2) : ∃ a, (a = A ∨ a = B ∨ a = C) ∧ getI [.int A, .int B, .int C] s = .ok (.int a) := by
  rcases hs with rfl | rfl | rfl
  · exact ⟨A, .inl rfl, by simp⟩
  · exact ⟨B, .inr (.inl rfl), by simp⟩
  · exact ⟨C, .inr (.inr rfl), by simp⟩
theorem pick4 (A B C D s : Int) (hs : s = 0 ∨ s = 1 ∨ s = 2 ∨ s = 3) : ∃ a, (a = A ∨ a = B ∨ a = C ∨ a = D) ∧ getI [.int A, .int B, .int C, .int D] s = .ok (.int a) := by
  rcases hs with rfl | rfl | rfl | rfl
  · exact ⟨A, .inl rfl, by simp⟩
  · exact ⟨B, .inr (.inl rfl), by simp⟩
  · exact ⟨C, .inr (.inr (.inl rfl)), by simp⟩
  · exact ⟨D, .inr (.inr (.inr rfl)), by simp⟩
theorem sort2 (a b : Int) : ∃ c d : Int, ((c = a ∧ d = b) ∨ (c = b ∧ d = a)) ∧ sortedD [.lst [.int a, .int b]] = .ok (.lst [.int c, .int d]) := by
  by_cases h : ltZ b a = true
  · exact ⟨b, a, .inr ⟨rfl, rfl⟩, by simp [sortedD, sortDs, intsD, isort, insL, h]⟩
  · exact ⟨a, b, .inl ⟨rfl, rfl⟩, by simp [sortedD, sortDs, intsD, isort, insL, h]⟩
theorem ixS_ok {z : Str} {i : Int} (h0 : 0 ≤ i) (h1 : i < z.length) (hz : z.length ≤ 100) : ∃ c : Str, c.length = 1 ∧ ixSD (.str z) (.int i) = .ok (.str c) := by
  have hs : z.length ≤ sizeLine := Nat.le_trans hz (by decide)
  have hl : i.toNat < z.cps.toList.length := by
    show i.toNat < z.cps.size
    have : z.length = z.cps.size := rfl
    omega
  have ea : atI z.cps.toList i = some z.cps.toList[i.toNat] := by
    unfold atI ixN
    rw [if_pos (show 0 ≤ i from h0), if_pos (by omega)]
    simp
  refine ⟨⟨#[z.cps.toList[i.toNat]]⟩, rfl, ?_⟩
  show (if z.length ≤ sizeLine then (match atI z.cps.toList i with
    | some c => Except.ok (Dat.str ⟨#[c]⟩)
    | none => stk) else stk) = _
  rw [if_pos hs, ea]
noncomputable def LT : Str := "abcdefghijklmnopqrstuvwxyz"
noncomputable def DG : Str := "0123456789"
noncomputable def LD : Str := "abcdefghijklmnopqrstuvwxyz0123456789"
theorem LT_len : LT.length = 26 := by decide +kernel
theorem DG_len : DG.length = 10 := by decide +kernel
theorem LD_len : LD.length = 36 := by decide +kernel
section
variable (CR CP CS : Addr)
theorem cell_ok (n : Nat) (ns : List Int) (j : Nat) : ∃ x, m__law_cell_at CR CP CS n [.lst (ns.map .int), .int j] = .ok (.int x) ∧ 0 ≤ x := by
  by_cases h : j < ns.length
  · refine ⟨ns[j] % 1000000000000000000000000, ?_, Int.emod_nonneg _ (by decide)⟩
    have e := getI_nat (ds := ns.map Dat.int) (k := j) (by simpa using h)
    simp [m__law_cell_at, g__law_cell_at, c__law_cell_at_1, h, e]
  · exact ⟨0, by simp [m__law_cell_at, g__law_cell_at, c__law_cell_at_1, h], by omega⟩
theorem number_b (y : Int) : 0 ≤ (y * 1442695040888963407 + 4321) % 2305843009213693921 ∧ (y * 1442695040888963407 + 4321) % 2305843009213693921 < 2305843009213693921 := ⟨Int.emod_nonneg _ (by decide), Int.emod_lt_of_pos _ (by decide)⟩
theorem number_ok (n : Nat) (ns : List Int) (hns : ns.length ≤ 63) (k : Int) (h0 : 0 ≤ k) (h1 : k < 1000000) : ∃ x, m__law_number CR CP CS n [.lst (ns.map .int), .int k] = .ok (.int x) ∧ 0 ≤ x ∧ x < 2305843009213693921 := by
  have hk3 : -18446744073709551616 < k := by omega
  have hk4 : k < 18446744073709551616 := by omega
  have et := take63 hns
  by_cases hl : 0 < ns.length
  · have hm0 : 0 ≤ k % (ns.length : Int) := Int.emod_nonneg _ (by omega)
    have hm1 : k % (ns.length : Int) < (ns.length : Int) := Int.emod_lt_of_pos _ (by omega)
    have hl' : (0 : Int) < ns.length := by omega
    have hne : ns ≠ [] := fun e => by rw [e] at hl; simp at hl
    refine ⟨_, ?_, number_b ((ns[(k % (ns.length : Int)).toNat]'(by omega) % 1000000000000000000000000 + k * k * 7919 + ns.length) * 48271 % 2305843009213693951)⟩
    simp [m__law_number, g__law_number, c__law_number_1, et, hl, hne, getI_int hm0 hm1, e_mod hl', hk3, hk4]
  · have hne : ns = [] := by cases ns with | nil => rfl | cons a b => simp at hl
    subst hne
    refine ⟨_, ?_, number_b ((13 * k + 5 + k * k * 7919 + 0) * 48271 % 2305843009213693951)⟩
    simp only [List.map_nil] at et
    simp [m__law_number, g__law_number, c__law_number_1, et, hk3, hk4]
theorem gap1 (n : Nat) (x : Int) : ∃ g, m__law_gap CR CP CS n [.int x] = .ok (.int g) ∧ 0 ≤ g ∧ g ≤ 1000000 := by
  obtain ⟨a, ha, ea⟩ := pick4 (x / 16 % 7) (x / 16 % 1000001) 0 (x / 16 % 100) (x % 4) (by omega)
  exact ⟨a, by simp [m__law_gap, g__law_gap, ea], by omega, by omega⟩
theorem time1 (n : Nat) (x : Int) : ∃ g, m__law_time CR CP CS n [.int x] = .ok (.int g) ∧ 0 ≤ g ∧ g ≤ 1000000000 := by
  obtain ⟨a, ha, ea⟩ := pick3 (x / 16 % 60) (x / 16 % 1000000001) (x / 16 % 1000) (x % 3) (by omega)
  exact ⟨a, by simp [m__law_time, g__law_time, ea], by omega, by omega⟩
theorem name_loop (n : Nat) (a1 : Option Dat) : ∀ (r : Nat) (j x : Int) (T : Str) (z4 : Option Dat), 0 ≤ x → x < 2305843009213693951 → T.length + r ≤ 90 → ∃ (x' : Int) (T' : Str) (y4 : Option Dat), T'.length ≤ 90 ∧ forD (.nm 4) (b__law_name_1 CR CP CS n) (rangeL j r) [some (.int x), a1, some (.str LT), some (.str T), z4] = .ok (.nx [some (.int x'), a1, some (.str LT), some (.str T'), y4])
  | 0, j, x, T, z4, _, _, h => ⟨x, T, z4, by omega, rfl⟩
  | r + 1, j, x, T, z4, h0, h1, hT => by
    have hl := LT_len
    have hd := DG_len
    have hx1 : -18446744073709551616 < x := by omega
    have hx2 : x < 18446744073709551616 := by omega
    obtain ⟨c, hc, ec⟩ := ixS_ok (z := LT ++ DG) (i := (x * x + 48271 * x + j) % 2305843009213693951 / 64 % 36) (by omega) (by rw [slen]; omega) (by rw [slen]; omega)
    have hs : (T ++ c).length + r ≤ 90 := by rw [slen]; omega
    have h3 : LT.length + DG.length ≤ 16777216 := by omega
    have h4 : T.length + c.length ≤ 16777216 := by omega
    obtain ⟨x', T', y4, hT', e⟩ := name_loop n a1 r (j + 1) ((x * x + 48271 * x + j) % 2305843009213693951) (T ++ c) (some (.int j)) (Int.emod_nonneg _ (by decide)) (Int.emod_lt_of_pos _ (by decide)) hs
    refine ⟨x', T', y4, hT', ?_⟩
    have hb : b__law_name_1 CR CP CS n [some (.int x), a1, some (.str LT), some (.str T), some (.int j)] = .ok (.nx [some (.int ((x * x + 48271 * x + j) % 2305843009213693951)), a1, some (.str LT), some (.str (T ++ c)), some (.int j)]) := by
      have ed : (Str.ofString "0123456789") = DG := rfl
      simp [b__law_name_1, ed, addD, h3, h4, hx1, hx2, ec, sizeLine]
    rw [rangeL_cons, forD, e_bnm, bind_ok]
    simp only [List.set_cons_succ, List.set_cons_zero]
    rw [hb, bind_ok]
    exact e
theorem name_ok (n : Nat) (x k : Int) (h0 : 0 ≤ x) (h1 : x < 2305843009213693951) : ∃ s : Str, s.length ≤ 100 ∧ m__law_name CR CP CS n [.int x, .int k] = .ok (.str s) := by
  have hl := LT_len
  obtain ⟨c, hc, ec⟩ := ixS_ok (z := LT) (i := x % 26) (by omega) (by omega) (by omega)
  obtain ⟨d, hd, ed⟩ := ixS_ok (z := LT) (i := k % 26) (by omega) (by omega) (by omega)
  obtain ⟨r, hr, er⟩ : ∃ r : Nat, r ≤ 5 ∧ (x / 32 % 6 : Int) = r := ⟨(x / 32 % 6).toNat, by omega, by omega⟩
  have r1 : -4611686018427387904 ≤ (r : Int) := by omega
  have r2 : (r : Int) < 4611686018427387904 := by omega
  have h3 : c.length + d.length ≤ 16777216 := by omega
  obtain ⟨x', T', y4, hT, e⟩ := name_loop CR CP CS n (some (.int k)) r 0 x (c ++ d) none h0 h1 (by rw [slen]; omega)
  refine ⟨T', by omega, ?_⟩
  have el : (Str.ofString "abcdefghijklmnopqrstuvwxyz") = LT := rfl
  simp [m__law_name, g__law_name, el, ec, ed, addD, h3, er, r1, r2, e, sizeLine]
theorem fname_loop (n : Nat) (a1 : Option Dat) : ∀ (r : Nat) (j x : Int) (T : Str) (z4 : Option Dat), 0 ≤ x → x < 2305843009213693951 → T.length + r ≤ 90 → ∃ (x' : Int) (T' : Str) (y4 : Option Dat), T'.length ≤ 90 ∧ forD (.nm 3) (b__law_flight_name_1 CR CP CS n) (rangeL j r) [some (.int x), a1, some (.str T), z4] = .ok (.nx [some (.int x'), a1, some (.str T'), y4])
  | 0, j, x, T, z4, _, _, h => ⟨x, T, z4, by omega, rfl⟩
  | r + 1, j, x, T, z4, h0, h1, hT => by
    have hl := LD_len
    have hx1 : -18446744073709551616 < x := by omega
    have hx2 : x < 18446744073709551616 := by omega
    obtain ⟨c, hc, ec⟩ := ixS_ok (z := LD) (i := (x * x + 48271 * x + j) % 2305843009213693951 / 64 % 36) (by omega) (by omega) (by omega)
    have hs : (T ++ c).length + r ≤ 90 := by rw [slen]; omega
    have h4 : T.length + c.length ≤ 16777216 := by omega
    obtain ⟨x', T', y4, hT', e⟩ := fname_loop n a1 r (j + 1) ((x * x + 48271 * x + j) % 2305843009213693951) (T ++ c) (some (.int j)) (Int.emod_nonneg _ (by decide)) (Int.emod_lt_of_pos _ (by decide)) hs
    refine ⟨x', T', y4, hT', ?_⟩
    have hb : b__law_flight_name_1 CR CP CS n [some (.int x), a1, some (.str T), some (.int j)] = .ok (.nx [some (.int ((x * x + 48271 * x + j) % 2305843009213693951)), a1, some (.str (T ++ c)), some (.int j)]) := by
      have ed : (Str.ofString "abcdefghijklmnopqrstuvwxyz0123456789") = LD := rfl
      simp [b__law_flight_name_1, ed, addD, h4, hx1, hx2, ec, sizeLine]
    rw [rangeL_cons, forD, e_bnm, bind_ok]
    simp only [List.set_cons_succ, List.set_cons_zero]
    rw [hb, bind_ok]
    exact e
theorem fname_ok (n : Nat) (x k : Int) (h0 : 0 ≤ x) (h1 : x < 2305843009213693951) (k0 : 0 ≤ k) (k1 : k < 260) : ∃ s : Str, s.length ≤ 100 ∧ m__law_flight_name CR CP CS n [.int x, .int k] = .ok (.str s) := by
  have hl := LT_len
  have hg := DG_len
  obtain ⟨c, hc, ec⟩ := ixS_ok (z := LT) (i := k % 26) (by omega) (by omega) (by omega)
  obtain ⟨d, hd, ed⟩ := ixS_ok (z := DG) (i := k / 26) (by omega) (by omega) (by omega)
  obtain ⟨r, hr, er⟩ : ∃ r : Nat, r ≤ 6 ∧ (x / 32 % 7 : Int) = r := ⟨(x / 32 % 7).toNat, by omega, by omega⟩
  have r1 : -4611686018427387904 ≤ (r : Int) := by omega
  have r2 : (r : Int) < 4611686018427387904 := by omega
  have h3 : c.length + d.length ≤ 16777216 := by omega
  obtain ⟨x', T', y4, hT, e⟩ := fname_loop CR CP CS n (some (.int k)) r 0 x (c ++ d) none h0 h1 (by rw [slen]; omega)
  refine ⟨T', by omega, ?_⟩
  have el : (Str.ofString "abcdefghijklmnopqrstuvwxyz") = LT := rfl
  have eg : (Str.ofString "0123456789") = DG := rfl
  simp [m__law_flight_name, g__law_flight_name, el, eg, ec, ed, addD, h3, er, r1, r2, e, sizeLine]
end
theorem compD_ex {p : Pat} {fe : Env' → M Dat} {ρ0 : Env'} (P : Int → Prop) : ∀ ds : List Dat, (∀ d ∈ ds, ∃ ρ y, bindP p d ρ0 = .ok ρ ∧ fe ρ = .ok (.int y) ∧ P y) → ∃ ys : List Int, ys.length = ds.length ∧ (∀ y ∈ ys, P y) ∧ compD p fYes fe ρ0 ds = .ok (ys.map .int)
  | [], _ => ⟨[], rfl, by simp, rfl⟩
  | d :: ds, h => by
    obtain ⟨ρ, y, e1, e2, hy⟩ := h d (by simp)
    obtain ⟨ys, hl, hp, e⟩ := compD_ex P ds fun x hx => h x (by simp [hx])
    refine ⟨y :: ys, by simp [hl], fun z hz => ?_, ?_⟩
    · rcases List.mem_cons.mp hz with rfl | hz
      · exact hy
      · exact hp z hz
    · simp [compD, fYes, e1, e2, e]
section
variable (CR CP CS : Addr)
theorem data1 (n : Nat) (ns : List Int) (hns : ns.length ≤ 63) (k : Nat) (hk : k ≤ 6) : ∃ (ks : List Str) (z2 : Option Dat), ks.length = k ∧ (∀ x ∈ ks, x.length ≤ 100) ∧ forD (.nm 2) (b__law_data_1 CR CP CS n) (rangeL 0 k) [some (.lst (ns.map .int)), some (.lst []), none, none, none, none, none, none, none, none, none, none] = .ok (.nx [some (.lst (ns.map .int)), some (.lst (ks.map .str)), z2, none, none, none, none, none, none, none, none, none]) := by
  obtain ⟨ρ', e, ks, z2, rfl, h1, h2⟩ := forD_inv (p := .nm 2) (g := b__law_data_1 CR CP CS n)
    (fun i ρ => ∃ (ks : List Str) (z2 : Option Dat), ρ = [some (.lst (ns.map .int)), some (.lst (ks.map .str)), z2, none, none, none, none, none, none, none, none, none] ∧ ks.length = i ∧ ∀ x ∈ ks, x.length ≤ 100) (rangeL 0 k) 0 _ ⟨[], none, rfl, rfl, by simp⟩ (by
    rintro i d ρ hd ⟨ks, z2, rfl, hr1, hr2⟩
    obtain ⟨hi, rfl⟩ := range0_get hd
    obtain ⟨x, ex, x0, x1⟩ := number_ok CR CP CS n ns hns (i : Int) (by omega) (by omega)
    obtain ⟨s, hs, es⟩ := name_ok CR CP CS n x (i : Int) x0 (by omega)
    have hl : ks.length < 16777216 := by omega
    refine ⟨_, by simp; rfl, ?_⟩
    refine ⟨_, .inl (by simp [b__law_data_1, ex, es, hl]; rfl), ks ++ [s], some (.int i), by simp, by simp; omega, fun y hy => ?_⟩
    rcases List.mem_append.mp hy with z | z
    · exact hr2 y z
    · simp at z; subst z; exact hs)
  rw [Nat.zero_add, rangeL_len] at h1
  exact ⟨ks, z2, h1, h2, e⟩
theorem mem_range {k : Nat} {d : Dat} (h : d ∈ rangeL 0 k) : ∃ j : Nat, j < k ∧ d = .int j := by
  obtain ⟨i, hi⟩ := List.mem_iff_getElem?.mp h
  obtain ⟨h1, h2⟩ := range0_get hi
  exact ⟨_, h1, h2⟩
theorem data2 (n : Nat) (ns : List Int) (hns : ns.length ≤ 63) (ks : List Str) (hk : ks.length ≤ 6) (z2 : Option Dat) : ∃ (rows r2 : List (List Int)) (y2 y5 : Option Dat), GoodRows ks.length rows ∧ GoodRows ks.length r2 ∧ forD (.nm 2) (b__law_data_2 CR CP CS n) (rangeL 0 ks.length) [some (.lst (ns.map .int)), some (.lst (ks.map .str)), z2, some (.lst []), some (.lst []), none, none, none, none, none, none, none] = .ok (.nx [some (.lst (ns.map .int)), some (.lst (ks.map .str)), y2, some (rowsD rows), some (rowsD r2), y5, none, none, none, none, none, none]) := by
  obtain ⟨ρ', e, rows, r2, y2, y5, rfl, h1, h2, h3, h4⟩ := forD_inv (p := .nm 2) (g := b__law_data_2 CR CP CS n)
    (fun i ρ => ∃ (rows r2 : List (List Int)) (z2 z5 : Option Dat), ρ = [some (.lst (ns.map .int)), some (.lst (ks.map .str)), z2, some (rowsD rows), some (rowsD r2), z5, none, none, none, none, none, none] ∧ rows.length = i ∧ r2.length = i ∧ (∀ x ∈ rows, GoodRow ks.length x) ∧ ∀ x ∈ r2, GoodRow ks.length x) (rangeL 0 ks.length) 0 _ ⟨[], [], z2, none, rfl, rfl, rfl, by simp, by simp⟩ (by
    rintro i d ρ hd ⟨rows, r2, z2, z5, rfl, hr1, hr2, hr3, hr4⟩
    obtain ⟨hi, rfl⟩ := range0_get hd
    have hm : (i : Int) * ks.length ≤ 36 := by
      have : i * ks.length ≤ 6 * 6 := Nat.mul_le_mul (by omega) hk
      exact_mod_cast this
    have hm0 : 0 ≤ (i : Int) * ks.length := Int.mul_nonneg (by omega) (by omega)
    have hl0 : ks.length ≤ 16777216 := by omega
    have i1 : -18446744073709551616 < (i : Int) := by omega
    have i2 : (i : Int) < 18446744073709551616 := by omega
    obtain ⟨xs, hxl, hx, ex⟩ := compD_ex (p := .nm 0) (fe := fL (m__law_number CR CP CS n) (fCons (fVar 1) (fCons (f2 addD (f2 addD (fC (.int 7)) (f2 mulD (fVar 3) (fL lenD (fCons (fVar 2) fNil)))) (fVar 0)) fNil))) (ρ0 := [none, some (.lst (ns.map .int)), some (.lst (ks.map .str)), some (.int (i : Int))]) (fun _ => True) (rangeL 0 ks.length) (fun d hd => by
      obtain ⟨j, hj, rfl⟩ := mem_range hd
      obtain ⟨x, ex, x0, x1⟩ := number_ok CR CP CS n ns hns (7 + (i : Int) * ks.length + (j : Int)) (by omega) (by omega)
      exact ⟨_, x, rfl, by simp [ex, i1, i2, hl0], trivial⟩)
    obtain ⟨g1, hg1, hq1, e1⟩ := compD_ex (p := .nm 0) (fe := fL (m__law_gap CR CP CS n) (fCons (fVar 0) fNil)) (ρ0 := [none]) (fun y => 0 ≤ y ∧ y ≤ 1000000) (xs.map .int) (fun d hd => by
      obtain ⟨x, _, rfl⟩ := List.mem_map.mp hd
      obtain ⟨g, eg, q⟩ := gap1 CR CP CS n x
      exact ⟨_, g, rfl, by simp [eg], q⟩)
    obtain ⟨g2, hg2, hq2, e2⟩ := compD_ex (p := .nm 0) (fe := fL (m__law_gap CR CP CS n) (fCons (f2 fdivD (fVar 0) (fC (.int 64))) fNil)) (ρ0 := [none]) (fun y => 0 ≤ y ∧ y ≤ 1000000) (xs.map .int) (fun d hd => by
      obtain ⟨x, _, rfl⟩ := List.mem_map.mp hd
      obtain ⟨g, eg, q⟩ := gap1 CR CP CS n (x / 64)
      exact ⟨_, g, rfl, by simp [eg], q⟩)
    rw [rangeL_len] at hxl
    rw [List.length_map] at hg1 hg2
    have hl1 : rows.length < 16777216 := by omega
    have hl2 : r2.length < 16777216 := by omega
    have hl3 : xs.length ≤ 16777216 := by omega
    have k1 : -4611686018427387904 ≤ (ks.length : Int) := by omega
    have k2 : (ks.length : Int) < 4611686018427387904 := by omega
    refine ⟨_, by simp; rfl, ?_⟩
    refine ⟨_, .inl (by simp [b__law_data_2, rowsD, hl0, k1, k2, ex, e1, e2, hl1, hl2, hl3, rangeL_len]; rfl), rows ++ [g1], r2 ++ [g2], some (.int i), some (.lst (xs.map .int)), by simp [rowsD, rowD], by simp; omega, by simp; omega, fun y hy => ?_, fun y hy => ?_⟩
    · rcases List.mem_append.mp hy with z | z
      · exact hr3 y z
      · simp at z; subst z; exact ⟨by omega, hq1⟩
    · rcases List.mem_append.mp hy with z | z
      · exact hr4 y z
      · simp at z; subst z; exact ⟨by omega, hq2⟩)
  rw [Nat.zero_add, rangeL_len] at h1 h2
  exact ⟨rows, r2, y2, y5, ⟨h1, h3⟩, ⟨h2, h4⟩, e⟩
theorem data5 (n : Nat) (ns : List Int) (hns : ns.length ≤ 63) (ks : List Str) (hk1 : 1 ≤ ks.length) (hk : ks.length ≤ 6) (m : Nat) (hm : m ≤ 40) (z2 a3 a4 a5 a8 : Option Dat) : ∃ (nf : List (Str × Fli)) (y2 y9 y10 : Option Dat), nf.length = m ∧ (∀ p ∈ nf, p.1.length ≤ 100 ∧ BFl ks.length p.2) ∧ forD (.nm 2) (b__law_data_5 CR CP CS n) (rangeL 0 m) [some (.lst (ns.map .int)), some (.lst (ks.map .str)), z2, a3, a4, a5, some (.lst []), some (.lst []), a8, none, none, none] = .ok (.nx [some (.lst (ns.map .int)), some (.lst (ks.map .str)), y2, a3, a4, a5, some (.lst ((nf.map (·.1)).map .str)), some (.lst ((nf.map (·.2)).map flD)), a8, y9, y10, none]) := by
  obtain ⟨ρ', e, nf, y2, y9, y10, rfl, h1, h2⟩ := forD_inv (p := .nm 2) (g := b__law_data_5 CR CP CS n)
    (fun i ρ => ∃ (nf : List (Str × Fli)) (z2 z9 z10 : Option Dat), ρ = [some (.lst (ns.map .int)), some (.lst (ks.map .str)), z2, a3, a4, a5, some (.lst ((nf.map (·.1)).map .str)), some (.lst ((nf.map (·.2)).map flD)), a8, z9, z10, none] ∧ nf.length = i ∧ ∀ p ∈ nf, p.1.length ≤ 100 ∧ BFl ks.length p.2) (rangeL 0 m) 0 _ ⟨[], z2, none, none, rfl, rfl, by simp⟩ (by
    rintro i d ρ hd ⟨nf, z2, z9, z10, rfl, hr1, hr2⟩
    obtain ⟨hi, rfl⟩ := range0_get hd
    obtain ⟨x, ex, x0, x1⟩ := number_ok CR CP CS n ns hns (50 + (i : Int)) (by omega) (by omega)
    obtain ⟨a, ea, ha0, ha1⟩ := time1 CR CP CS n x
    obtain ⟨b, eb, hb0, hb1⟩ := time1 CR CP CS n (x / 4096)
    obtain ⟨c, ec, hc0, hc1⟩ := time1 CR CP CS n (x / 9)
    obtain ⟨d, ed, hd0, hd1⟩ := time1 CR CP CS n (x / 27)
    obtain ⟨u, v, huv, es⟩ := sort2 a b
    obtain ⟨s, hs, ef⟩ := fname_ok CR CP CS n (x / 8) (i : Int) (by omega) (by omega) (by omega) (by omega)
    have hl : nf.length < 16777216 := by omega
    have hl0 : ks.length ≤ 16777216 := by omega
    have hk2 : (0 : Int) < ks.length := by omega
    have kk0 : 0 ≤ x % (ks.length : Int) := Int.emod_nonneg _ (by omega)
    have kk1 : x % (ks.length : Int) < ks.length := Int.emod_lt_of_pos _ hk2
    have hp : (10 : Nat) ^ 10 = 10000000000 := by decide
    have hu : u.natAbs < 10 ^ 10 := by omega
    have hv : v.natAbs < 10 ^ 10 := by omega
    have hc : c.natAbs < 10 ^ 10 := by omega
    have hd : d.natAbs < 10 ^ 10 := by omega
    refine ⟨_, by simp; rfl, ?_⟩
    refine ⟨_, .inl (by simp [b__law_data_5, ex, ea, eb, ec, ed, es, ef, hl, hl0, e_mod hk2, -List.map_map]; rfl), nf ++ [(s, ⟨x % (ks.length : Int), u, v, c, d⟩)], some (.int i), some (.int x), some (.lst [.int u, .int v]), by simp [flD], by simp; omega, fun y hy => ?_⟩
    rcases List.mem_append.mp hy with z | z
    · exact hr2 y z
    · simp at z; subst z; exact ⟨hs, kk0, kk1, hu, hv, hc, hd⟩)
  rw [Nat.zero_add, rangeL_len] at h1
  exact ⟨nf, y2, y9, y10, h1, h2, e⟩
theorem data6 (n : Nat) (ns : List Int) (hns : ns.length ≤ 63) (m : Nat) (hm : m ≤ 3) (a1 z2 a3 a4 a5 a6 a7 a8 a9 z10 : Option Dat) : ∃ (cs : List Stre) (y2 y10 : Option Dat), cs.length = m ∧ (∀ p ∈ cs, p.1.natAbs < 10 ^ 10 ∧ p.2.natAbs < 10 ^ 10) ∧ forD (.nm 2) (b__law_data_6 CR CP CS n) (rangeL 0 m) [some (.lst (ns.map .int)), a1, z2, a3, a4, a5, a6, a7, a8, a9, z10, some (.lst [])] = .ok (.nx [some (.lst (ns.map .int)), a1, y2, a3, a4, a5, a6, a7, a8, a9, y10, some (.lst (cs.map stD))]) := by
  obtain ⟨ρ', e, cs, y2, y10, rfl, h1, h2⟩ := forD_inv (p := .nm 2) (g := b__law_data_6 CR CP CS n)
    (fun i ρ => ∃ (cs : List Stre) (z2 z10 : Option Dat), ρ = [some (.lst (ns.map .int)), a1, z2, a3, a4, a5, a6, a7, a8, a9, z10, some (.lst (cs.map stD))] ∧ cs.length = i ∧ ∀ p ∈ cs, p.1.natAbs < 10 ^ 10 ∧ p.2.natAbs < 10 ^ 10) (rangeL 0 m) 0 _ ⟨[], z2, z10, rfl, rfl, by simp⟩ (by
    rintro i d ρ hd ⟨cs, z2, z10, rfl, hr1, hr2⟩
    obtain ⟨hi, rfl⟩ := range0_get hd
    obtain ⟨x, ex, x0, x1⟩ := number_ok CR CP CS n ns hns (101 + (i : Int)) (by omega) (by omega)
    obtain ⟨y, ey, y0, y1⟩ := number_ok CR CP CS n ns hns (107 + (i : Int)) (by omega) (by omega)
    obtain ⟨a, ea, ha0, ha1⟩ := time1 CR CP CS n x
    obtain ⟨b, eb, hb0, hb1⟩ := time1 CR CP CS n y
    obtain ⟨u, v, huv, es⟩ := sort2 a b
    have hl : cs.length < 16777216 := by omega
    have hp : (10 : Nat) ^ 10 = 10000000000 := by decide
    have hu : (u / 2).natAbs < 10 ^ 10 := by omega
    have hv : (v / 2 + 1).natAbs < 10 ^ 10 := by omega
    refine ⟨_, by simp; rfl, ?_⟩
    refine ⟨_, .inl (by simp [b__law_data_6, ex, ey, ea, eb, es, hl, -List.map_map]; rfl), cs ++ [(u / 2, v / 2 + 1)], some (.int i), some (.lst [.int u, .int v]), by simp [stD], by simp; omega, fun y hy => ?_⟩
    rcases List.mem_append.mp hy with z | z
    · exact hr2 y z
    · simp at z; subst z; exact ⟨hu, hv⟩)
  rw [Nat.zero_add, rangeL_len] at h1
  exact ⟨cs, y2, y10, h1, h2, e⟩
end
section
variable (CR CP CS : Addr)
theorem data_ok (n : Nat) (ns : List Int) (hns : ns.length ≤ 63) : ∃ w : Sh, w.Good ∧ m__law_data CR CP CS n [.lst (ns.map .int)] = .ok w.D := by
  obtain ⟨x0, c0, p0⟩ := cell_ok CR CP CS n ns 0
  obtain ⟨x1, c1, p1⟩ := cell_ok CR CP CS n ns 1
  obtain ⟨x2, c2, p2⟩ := cell_ok CR CP CS n ns 2
  simp only [Int.cast_ofNat_Int, Int.natCast_zero, Int.natCast_one] at c0 c1 c2
  obtain ⟨k, hk1, hk6, ek⟩ : ∃ k : Nat, 1 ≤ k ∧ k ≤ 6 ∧ (1 + x0 * 16807 % 2147483647 % 6 : Int) = k := ⟨(1 + x0 * 16807 % 2147483647 % 6).toNat, by omega, by omega, by omega⟩
  obtain ⟨ks, z2, hl, hkl, e1⟩ := data1 CR CP CS n ns hns k hk6
  subst hl
  obtain ⟨rows, r2, y2, y5, hr, hr2, e2⟩ := data2 CR CP CS n ns hns ks hk6 z2
  obtain ⟨m, hm, em⟩ : ∃ m : Nat, m ≤ 40 ∧ ∀ a1 a2 a3 a4 a5 a6 a7 a9 a10 a11, c__law_data_4 CR CP CS n [some (.lst (ns.map .int)), a1, a2, a3, a4, a5, a6, a7, some (.int (x1 * 39373 % 2147483629 % 9)), a9, a10, a11] = .ok (.nx [some (.lst (ns.map .int)), a1, a2, a3, a4, a5, a6, a7, some (.int m), a9, a10, a11]) := by
    by_cases h : x1 / 64 % 8 = 5
    · exact ⟨40, by omega, fun a1 a2 a3 a4 a5 a6 a7 a9 a10 a11 => by simp [c__law_data_4, c1, h, eqM, okE, eqD]⟩
    · refine ⟨(x1 * 39373 % 2147483629 % 9).toNat, by omega, fun a1 a2 a3 a4 a5 a6 a7 a9 a10 a11 => ?_⟩
      rw [show ((x1 * 39373 % 2147483629 % 9).toNat : Int) = x1 * 39373 % 2147483629 % 9 by omega]
      simp [c__law_data_4, c1, h, eqM, okE, eqD]
  obtain ⟨o, ho, eo⟩ : ∃ o : Option (List (List Int)), (∀ r, o = some r → GoodRows ks.length r) ∧ ∀ a1 a2 a3 a5 a6 a7 a8 a9 a10 a11, c__law_data_3 CR CP CS n [some (.lst (ns.map .int)), a1, a2, a3, some (rowsD r2), a5, a6, a7, a8, a9, a10, a11] = .ok (.nx [some (.lst (ns.map .int)), a1, a2, a3, some (Sh.bD ⟨ks, rows, o, [], []⟩), a5, a6, a7, a8, a9, a10, a11]) := by
    by_cases h : x2 % 2 = 0
    · exact ⟨none, fun r z => (by cases z), fun a1 a2 a3 a5 a6 a7 a8 a9 a10 a11 => by simp [c__law_data_3, c2, h, eqM, okE, eqD, Sh.bD]⟩
    · exact ⟨some r2, fun r z => by cases z; exact hr2, fun a1 a2 a3 a5 a6 a7 a8 a9 a10 a11 => by simp [c__law_data_3, c2, h, eqM, okE, eqD, Sh.bD]⟩
  obtain ⟨nf, u2, u9, u10, hn1, hn2, e5⟩ := data5 CR CP CS n ns hns ks hk1 hk6 m hm y2 (some (rowsD rows)) (some (Sh.bD ⟨ks, rows, o, [], []⟩)) y5 (some (.int m))
  obtain ⟨x3, c3, p3, _⟩ := number_ok CR CP CS n ns hns 100 (by omega) (by omega)
  obtain ⟨q, hq, eq⟩ : ∃ q : Nat, q ≤ 3 ∧ (x3 / 64 % 4 : Int) = q := ⟨(x3 / 64 % 4).toNat, by omega, by omega⟩
  obtain ⟨cs, v2, v10, hc1, hc2, e6⟩ := data6 CR CP CS n ns hns q hq (some (.lst (ks.map .str))) u2 (some (rowsD rows)) (some (Sh.bD ⟨ks, rows, o, [], []⟩)) y5 (some (.lst ((nf.map (·.1)).map .str))) (some (.lst ((nf.map (·.2)).map flD))) (some (.int m)) u9 u10
  refine ⟨⟨ks, rows, o, nf, cs⟩, ⟨hk1, hk6, hkl, hr, ho, by show nf.length ≤ 40; omega, hn2, by show cs.length ≤ 20; omega, hc2⟩, ?_⟩
  have l0 : ks.length ≤ 16777216 := by omega
  have k1 : -4611686018427387904 ≤ (ks.length : Int) := by omega
  have k2 : (ks.length : Int) < 4611686018427387904 := by omega
  have m1 : -4611686018427387904 ≤ (m : Int) := by omega
  have m2 : (m : Int) < 4611686018427387904 := by omega
  have q1 : -4611686018427387904 ≤ (q : Int) := by omega
  have q2 : (q : Int) < 4611686018427387904 := by omega
  have eb : Sh.bD ⟨ks, rows, o, nf, cs⟩ = Sh.bD ⟨ks, rows, o, [], []⟩ := rfl
  simp only [Sh.D, Sh.kD, Sh.nD, Sh.fD, Sh.cD, eb]
  generalize Sh.bD ⟨ks, rows, o, [], []⟩ = bb at *
  simp [m__law_data, g__law_data, c0, c1, ek, k1, k2, e1, e2, l0, eo, em, m1, m2, e5, c3, eq, q1, q2, e6, -List.map_map]
theorem new1 (n : Nat) {k : Nat} {rows : List (List Int)} (h1 : 1 ≤ k) (h6 : k ≤ 6) (hr : GoodRows k rows) : newR CR (m_checked_rows CR CP CS n) [rowsD rows] = .ok (rulesD CR CP rows .non) := by
  have e := checked_ok CR CP CS n k rows h1 h6 hr
  simp [newR, e, rulesD]
theorem new2 (n : Nat) {k : Nat} {rows r2 : List (List Int)} (h1 : 1 ≤ k) (h6 : k ≤ 6) (hr : GoodRows k rows) (hr2 : GoodRows k r2) : newP CP (m_checked_rows CR CP CS n) [rowsD rows, rowsD r2] = .ok (rulesD CR CP rows (rowsD r2)) := by
  have e1 := checked_ok CR CP CS n k rows h1 h6 hr
  have e2 := checked_ok CR CP CS n k r2 h1 h6 hr2
  have ht : twoL (rowsD rows) (rowsD r2) = true := by simp [twoL, rowsD, hr.1, hr2.1]
  simp only [newP, e1, e2, bind_ok, ht, if_true]
  rfl
theorem law_true (hne : CR ≠ CP) : ∀ ns : List Int, ns.length ≤ 63 → ∃ n, m_law CR CP CS n [.lst (ns.map .int)] = .ok (.bl true) := by
  intro ns hns
  refine ⟨64, ?_⟩
  obtain ⟨w, h, e⟩ := data_ok CR CP CS 64 ns hns
  have en := new1 CR CP CS 64 h.k1 h.k6 h.rows
  have e1 : c_law_1 CR CP CS 64 [some (.lst (ns.map .int)), some w.D, some w.kD, some (rowsD w.rows), some w.bD, some w.nD, some w.fD, some w.cD, some (rulesD CR CP w.rows .non), none, none, none, none, none] = .ok (.nx [some (.lst (ns.map .int)), some w.D, some w.kD, some (rowsD w.rows), some w.bD, some w.nD, some w.fD, some w.cD, some (w.ru CR CP), none, none, none, none, none]) := by
    cases ho : w.o with
    | none =>
      have eb : w.bD = .non := by unfold Sh.bD; rw [ho]
      simp [c_law_1, Sh.ru, eb]
    | some r2 =>
      have eb : w.bD = rowsD r2 := by unfold Sh.bD; rw [ho]
      have e2 := new2 CR CP CS 64 h.k1 h.k6 h.rows (h.o r2 ho)
      have er : w.ru CR CP = rulesD CR CP w.rows (rowsD r2) := by unfold Sh.ru; rw [eb]
      rw [er, eb]
      simp only [rowsD] at e2 ⊢
      simp [c_law_1, e2]
  have et := text_ok CR CP CS hne 64 h
  have es := shown_ok CR CP CS 64 h
  have ei := is_ok CR CP CS hne 64 h
  have em := obj_shown CR CP CS 64 w (fVar 10)
  have hh : okE (.lst [w.kD, w.nD, w.fD, w.cD]) 40 = true := by
    have f1 := okE_strs w.ks 38
    have f2 := okE_strs (w.nf.map (·.1)) 38
    have f3 : okE w.fD 39 = true := by unfold Sh.fD; rw [flD_map]; exact okE_lt _ 37
    have f4 : okE w.cD 39 = true := by unfold Sh.cD; rw [stD_map]; exact okE_lt _ 37
    have f1' : okE w.kD 39 = true := f1
    have f2' : okE w.nD 39 = true := f2
    simp [okE, okEs, f1', f2', f3, f4]
  have en4 := same_ne hh
  have ens : neM (.str w.tx) (.str w.tx) = .ok (.bl false) := same_ne rfl
  have ees : eqM (.str w.tx) (.str w.tx) = .ok (.bl true) := same_eq rfl
  have et2 : c_law_2 CR CP CS 64 [some (.lst (ns.map .int)), some w.D, some w.kD, some (rowsD w.rows), some w.bD, some w.nD, some w.fD, some w.cD, some (w.ru CR CP), none, none, none, none, none] = .ok (.rt (.bl true)) := by
    have ek : w.kD = .lst (w.ks.map .str) := rfl
    have e2 : w.nD = .lst ((w.nf.map (·.1)).map .str) := rfl
    have e3 : w.fD = .lst ((w.nf.map (·.2)).map flD) := rfl
    have e4 : w.cD = .lst (w.cs.map stD) := rfl
    have eo : w.obj CR CP CS = .ins CS [("kinds", .lst (w.ks.map .str)), ("rules", w.ru CR CP), ("names", .lst ((w.nf.map (·.1)).map .str)), ("flights", .lst ((w.nf.map (·.2)).map flD)), ("closed", .lst (w.cs.map stD)), ("text", .str w.tx)] := rfl
    unfold c_law_2 sTail
    rw [ek, e2, e3, e4] at et en4 ⊢
    simp only [List.getElem?_cons_succ, List.getElem?_cons_zero]
    rw [if_pos (by simp), et, bind_ok]
    simp only
    rw [← eo]
    simp [es, em, ens, ei, en4, ees, -List.map_map]
  have eu : bindP (.tp [2, 3, 4, 5, 6, 7]) w.D [some (.lst (ns.map .int)), some w.D, none, none, none, none, none, none, none, none, none, none, none, none] = .ok [some (.lst (ns.map .int)), some w.D, some w.kD, some (rowsD w.rows), some w.bD, some w.nD, some w.fD, some w.cD, none, none, none, none, none, none] := rfl
  simp [m_law, g_law, e, eu, en, e1, et2]
end
theorem fin_mk {P : Program} {w : World} {K : PySem.W.Frag} {mg : Str → Option Value} {h : Heap} {fa CR CP CS : Addr} (_ : K.In h) (_ : h.Ns mainGlobals mg) (hfa : mg "law" = some (.ref fa)) (Z : Zs K mg CR CP CS) :
    ∃ fd : FuncData, (∀ (s : Shared) (v : Value), BindsTo s fd ⟨[v], []⟩ [("_law_script", v)]) ∧ ∀ base : Heap, K.In base → base.Ns mainGlobals mg → FnOk P w K mg base CX0 7 fa fd ["_law_script"] (spLaw K) := by
  obtain ⟨f, fd, D, hb⟩ := Z.d_law
  have e := hfa.symm.trans D.mg
  cases e
  refine ⟨fd, hb, fun base _ _ => law_ok (ro := false) (mlaw := m_law CR CP CS) (fun n => ?_) (law_true CR CP CS Z.ne)⟩
  obtain ⟨f', fd', Y⟩ := ok_law (n := n) (P := P) (w := w) (base := base) Z
  have e := D.mg.symm.trans Y.d.mg
  cases e
  rw [D.fn.uniq Y.d.fn]
  exact Y.o
theorem walk {l : PySem.W.OpenLaw} {q : Program} {loose : List Str} {XP : (Str → Option Value) → Heap → Prop} {YP : World → Heap → Prop} {d : DefRec} {K : Params → PySem.W.Frag} (hn : l.most = some 63) (hdf : d.params.defaults = [])
    (hY : ∀ (w : World) (h : Heap), YP w h → (K w.params).In h)
    (F : ∀ (w : World) (mg : Str → Option Value) (fa : Addr) (h : Heap), (K w.params).In h → h.Ns mainGlobals mg → mg d.name = some (.ref fa) →
      ∃ fd : FuncData, (∀ (s : Shared) (u : Value), BindsTo s fd ⟨[u], []⟩ [("_law_script", u)]) ∧ ∀ base : Heap, (K w.params).In base → base.Ns mainGlobals mg → FnOk l.prog w (K w.params) mg base CX0 7 fa fd ["_law_script"] (spLaw (K w.params))) :
    PySem.W.WalkO q loose XP YP l.row.toRowW d [] (fun f vs => PySem.call f vs) :=
  L2.walk_of (n := 63) (k := 7) (x := "_law_script") (CX := fun _ => CX0) (sp := fun w => spLaw (K w.params)) hn (by decide) hdf ⟨rfl, by decide, by decide⟩ hY F (fun _ _ a ns hl _ hS => ⟨a, ns, rfl, hS, hl, fun _ => rfl⟩) fun _ _ _ _ _ z => z
end Ru
open PySem PySem.W PyProof.Rows
noncomputable def _root_.PySem.W.Fast.tw12366524604125407133 : Nat := 0
noncomputable def _root_.PySem.W.Fast.tw7035432071345355961 : Nat := 0
noncomputable def _root_.PySem.W.Fast.tw7868385629518163877 : Nat := 0
noncomputable def _root_.PySem.W.Fast.tw3816625921422853751 : Nat := 0
noncomputable def _root_.PySem.W.Fast.tw11128138627517912014 : Nat := 0
noncomputable def _root_.PySem.W.Fast.tw3131869738362774382 : Nat := 0
noncomputable def _root_.PySem.W.Fast.tw5960525838909954764 : Nat := 0
noncomputable def _root_.PySem.W.Fast.tw6089591614485979006 : Nat := 0
noncomputable def _root_.PySem.W.Fast.tw16905930198211269601 : Nat := 0
noncomputable def _root_.PySem.W.Fast.tw1895898005078695895 : Nat := 0
noncomputable def _root_.PySem.W.Fast.tw9394675521043633925 : Nat := 0
noncomputable def _root_.PySem.W.Fast.tw14854178133823936559 : Nat := 0
noncomputable def _root_.PySem.W.Fast.tw18431594819836403609 : Nat := 0
noncomputable def _root_.PySem.W.Fast.tw8588614654531335774 : Nat := 0
noncomputable def _root_.PySem.W.Fast.tw12166445757873862598 : Nat := 0
noncomputable def _root_.PySem.W.Fast.tw17654837730838884793 : Nat := 0
noncomputable def _root_.PySem.W.Fast.tw6446253862348940294 : Nat := 0
noncomputable def _root_.PySem.W.Fast.tw15920460870946299200 : Nat := 0
noncomputable def _root_.PySem.W.Fast.tw1114578594247645214 : Nat := 0
noncomputable def _root_.PySem.W.Fast.tw14749906842263483231 : Nat := 0
noncomputable def _root_.PySem.W.Fast.tw2414532991315935760 : Nat := 0
noncomputable def _root_.PySem.W.Fast.tw13612106460909838731 : Nat := 0
noncomputable def _root_.PySem.W.Fast.tw8557200227088213432 : Nat := 0
noncomputable def _root_.PySem.W.Fast.tw10063989426662005035 : Nat := 0
noncomputable def _root_.PySem.W.Fast.tw2218998200293796927 : Nat := 0
noncomputable def _root_.PySem.W.Fast.tw4351010391376385599 : Nat := 0
noncomputable def _root_.PySem.W.Fast.tw13171623111832791978 : Nat := 0
noncomputable def _root_.PySem.W.Fast.tw4797919155082975815 : Nat := 0
noncomputable def _root_.PySem.W.Fast.tw8190348698605312604 : Nat := 0
noncomputable def _root_.PySem.W.Fast.tw1654436538105224606 : Nat := 0
noncomputable def _root_.PySem.W.Fast.tw365829451012417046 : Nat := 0
noncomputable def _root_.PySem.W.Fast.tw17179094272371113657 : Nat := 0
noncomputable def _root_.PySem.W.Fast.tw7744721946896649973 : Nat := 0
noncomputable def _root_.PySem.W.Fast.tw13373215950637721048 : Nat := 0
noncomputable def _root_.PySem.W.Fast.tw17397907953018493329 : Nat := 0
noncomputable def _root_.PySem.W.Fast.tw14712277081068506687 : Nat := 0
noncomputable def _root_.PySem.W.Fast.tw8043827950867523129 : Nat := 0
noncomputable def _root_.PySem.W.Fast.tw10875776209232720954 : Nat := 0
noncomputable def _root_.PySem.W.Fast.tw13651313902981144388 : Nat := 0
noncomputable def _root_.PySem.W.Fast.tw15962415741721731878 : Nat := 0
noncomputable def _root_.PySem.W.Fast.tw18225399539895452934 : Nat := 0
noncomputable def _root_.PySem.W.Fast.tw15531947610891957869 : Nat := 0
noncomputable def _root_.PySem.W.Fast.tw15210453206064737350 : Nat := 0
noncomputable def _root_.PySem.W.Fast.tw12019343288022753082 : Nat := 0
noncomputable def _root_.PySem.W.Fast.tw13951812956108574046 : Nat := 0
noncomputable def _root_.PySem.W.Fast.tw7201802383690750245 : Nat := 0
noncomputable def _root_.PySem.W.Fast.tw5182526787290117103 : Nat := 0
noncomputable def _root_.PySem.W.Fast.tw13255358676055557587 : Nat := 0
noncomputable def _root_.PySem.W.Fast.tw17216074579741019949 : Nat := 0
noncomputable def _root_.PySem.W.Fast.tw3022267083041412967 : Nat := 0
noncomputable def _root_.PySem.W.Fast.tw8211129913274521100 : Nat := 0
set_option maxRecDepth 100000 in
set_option maxHeartbeats 0 in
theorem PySem.Challenge.cw_wakeorder_k71_sheets_shown_holds : PySem.Challenge.rw_wakeorder_k71_sheets_shown.Holds := by
  w_on; o_law; k_head; (case hw => w_witness2)
  k_fill
  refine Ru.walk (l := PySem.Challenge.rw_wakeorder_k71_sheets_shown) rfl rfl (fun w h Y => PySem.W.kIn_of Y) ?F
  case F =>
    intro w mg fa h KX G hmg
    refine' Ru.fin_mk KX G hmg ?z
    case z =>
      constructor
      all_goals first | exact L2.dF KX G | exact PySem.W.mg_none_of KX G (by k_is) | exact ⟨_, PySem.W.mg_of KX G (by k_is)⟩ | exact PySem.W.mg_of KX G (by k_is) | exact L2.mF | exact L2.kF KX G | exact L2.xF KX G | exact L2.xM KX G L2.mF | exact L2.lF KX G | exact L2.rS L2.mF | k_is | kernel_rfl | decide +kernel | (constructor <;> first | k_is | kernel_rfl | rfl | decide +kernel) | (simp only [List.mem_cons, List.not_mem_nil, or_false, forall_eq_or_imp, forall_eq]; repeat' constructor) <;> first | k_is | kernel_rfl
