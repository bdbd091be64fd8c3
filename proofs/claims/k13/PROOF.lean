import PyProof.Rows.All
import PyProof.Rows.RuleC_int
import PyProof.FactsAll.tuple_1
import KE.KEqDict
import PyProof.Rows.TupTab
import PyProof.AttrMissSeq
import KE.KDictOf
import KE.KPairComp
import PyProof.DictWalks
import PyProof.DictValues
import PyProof.DictItems
import PyProof.Rows.SetFrom
import KE.KRevIter
import PyProof.InstStoreFacts
import PyProof.ExcInit
import PyProof.IsiBase
import PyProof.ExcAttrAll.ValueError
import OpenK.KDescr
import KE.KIsAll
import PyProof.Rows.CatchOwn
import PyProof.RulesTry
import PyProof.RulesAs
import PyProof.RulesDel
import OpenK.KOwn
import PyProof.ExcBaseAll.ValueError
import PyProof.StationsW
import Wide.All
import OpenK.AllK
import Wide.FinOn
import Lean
import PyProof.EqAt
import PyProof.EqKinds
import PyProof.NeKinds
import PyProof.TupleCall
import PySem.Challenge.RW_wakeorder_k13_whole_openings
set_option Elab.async false
set_option linter.all false
set_option maxRecDepth 100000
namespace L2
open PySem PySem.Spec PyProof.Rows
noncomputable abbrev Key := Sum Int Str
noncomputable def keyIs : Key → Value → Bool
  | .inl k, v => Value.isInt k v
  | .inr x, v => Value.isStrOf x v
noncomputable def keyH (w : World) : Key → Int
  | .inl k => hashInt k
  | .inr x => hashStr w x
theorem keyIs_shape : ∀ {k : Key} {v : Value}, keyIs k v = true → (∃ i t, k = Sum.inl i ∧ v = Value.int i t) ∨ (∃ x t, k = Sum.inr x ∧ v = Value.str x t)
  | .inl i, v, h => by
    obtain ⟨t, e⟩ := Value.isInt_shape (k := i) (v := v) h
    exact .inl ⟨i, t, rfl, e⟩
  | .inr x, v, h => by
    obtain ⟨t, e⟩ := Value.isStrOf_shape (x := x) (v := v) h
    exact .inr ⟨x, t, rfl, e⟩
theorem key_ll (a b : Int) : decide ((Sum.inl a : Key) = Sum.inl b) = (a == b) := by
  by_cases e : a = b
  · subst e; simp
  · have h : ¬ (Sum.inl a : Key) = Sum.inl b := fun q => e (Sum.inl.inj q)
    rw [decide_eq_false h]
    exact (beq_eq_false_iff_ne.mpr e).symm
theorem key_rr (a b : Str) : decide ((Sum.inr a : Key) = Sum.inr b) = decide (a = b) := by
  by_cases e : a = b
  · subst e; simp
  · have h : ¬ (Sum.inr a : Key) = Sum.inr b := fun q => e (Sum.inr.inj q)
    rw [decide_eq_false h, decide_eq_false e]
theorem key_lr (a : Int) (b : Str) : decide ((Sum.inl a : Key) = Sum.inr b) = false := decide_eq_false (fun q => nomatch q)
theorem key_rl (a : Str) (b : Int) : decide ((Sum.inr a : Key) = Sum.inl b) = false := decide_eq_false (fun q => nomatch q)
noncomputable def mixKind (prog : Program) (w : World) : PySem.KeyKind prog w Key where
  is := keyIs
  hash := keyH w
  inj := fun v a b ha hb => by
    rcases keyIs_shape ha with ⟨i, t, rfl, rfl⟩ | ⟨x, t, rfl, rfl⟩
    · rcases keyIs_shape hb with ⟨j, u, rfl, e⟩ | ⟨y, u, rfl, e⟩
      · injection e with e1 _; rw [e1]
      · exact nomatch e
    · rcases keyIs_shape hb with ⟨j, u, rfl, e⟩ | ⟨y, u, rfl, e⟩
      · exact nomatch e
      · injection e with e1 _; rw [e1]
  byValue := fun k v h => by
    rcases keyIs_shape h with ⟨i, t, rfl, rfl⟩ | ⟨x, t, rfl, rfl⟩ <;> rfl
  pyHash := fun hv h => by
    rcases keyIs_shape hv with ⟨i, t, rfl, rfl⟩ | ⟨x, t, rfl, rfl⟩
    · exact wpAny_pyHash_int h
    · exact wpAny_pyHash_str h
  eqBool := fun hu hv h => by
    rcases keyIs_shape hu with ⟨i, t, rfl, rfl⟩ | ⟨x, t, rfl, rfl⟩
    · rcases keyIs_shape hv with ⟨j, u, rfl, rfl⟩ | ⟨y, u, rfl, rfl⟩
      · rw [key_ll] at h; exact wpAny_eqBool_int h
      · rw [key_lr] at h; exact SeqAt.EqAt.int_str i t y u _ _ _ _ h
    · rcases keyIs_shape hv with ⟨j, u, rfl, rfl⟩ | ⟨y, u, rfl, rfl⟩
      · rw [key_rl] at h; exact SeqAt.EqAt.str_int x t j u _ _ _ _ h
      · rw [key_rr] at h; exact wpAny_eqBool_str h
  «strs» := fun k x t v h => by
    rcases keyIs_shape h with ⟨i, u, rfl, e⟩ | ⟨y, u, rfl, e⟩
    · exact nomatch e
    · injection e with e1 _
      subst e1
      cases v <;> rfl
end L2
namespace L2
open PySem PySem.Spec PyProof.Rows
inductive V where
  | non | bl (b : Bool) | int (i : Int) | str (x : Str) | byt (b : Array UInt8) | flt (b : UInt64) | ref (a : Addr) | ty (n : String)
  deriving DecidableEq
noncomputable def RelV : V → Value → Prop
  | .non, u => u = Value.none
  | .bl b, u => u = Value.bool b
  | .int i, u => ∃ t, u = Value.int i t
  | .str x, u => ∃ t, u = Value.str x t
  | .byt b, u => ∃ t, u = Value.bytes b t
  | .flt b, u => ∃ t, u = Value.float b t
  | .ref a, u => u = Value.ref a
  | .ty n, u => u = Value.type n
noncomputable abbrev Vals : List V → List Value → Prop := Paired RelV
theorem Vals.length {xs : List V} {us : List Value} (r : Vals xs us) : xs.length = us.length := Paired.length r
theorem Vals.get : ∀ {xs : List V} {us : List Value} {i : Nat} {x : V}, Vals xs us → xs[i]? = some x → ∃ u, us[i]? = some u ∧ RelV x u
  | _, _, _, _, .nil, e => by simp at e
  | _, _, 0, _, .cons r _, e => by simp at e; subst e; exact ⟨_, rfl, r⟩
  | _, _, i + 1, x, .cons _ t, e => by
    obtain ⟨u, h1, h2⟩ := Vals.get (i := i) (x := x) t (by simpa using e)
    exact ⟨u, by simpa using h1, h2⟩
theorem Vals.set {x : V} {u : Value} (r : RelV x u) : ∀ {xs : List V} {us : List Value} (i : Nat), Vals xs us → Vals (xs.set i x) (us.set i u)
  | _, _, _, .nil => .nil
  | _, _, 0, .cons _ t => .cons r t
  | _, _, i + 1, .cons q t => .cons q (Vals.set r i t)
theorem Vals.append : ∀ {xs ys : List V} {us ws : List Value}, Vals xs us → Vals ys ws → Vals (xs ++ ys) (us ++ ws)
  | _, _, _, _, .nil, s => s
  | _, _, _, _, .cons r t, s => .cons r (Vals.append t s)
theorem Vals.take : ∀ {xs : List V} {us : List Value} (n : Nat), Vals xs us → Vals (xs.take n) (us.take n)
  | _, _, 0, _ => .nil
  | _, _, _ + 1, .nil => .nil
  | _, _, n + 1, .cons r t => .cons r (Vals.take n t)
theorem Vals.drop : ∀ {xs : List V} {us : List Value} (n : Nat), Vals xs us → Vals (xs.drop n) (us.drop n)
  | _, _, 0, r => r
  | _, _, _ + 1, .nil => .nil
  | _, _, n + 1, .cons _ t => Vals.drop n t
noncomputable def RelO : Option V → Option Value → Prop
  | some v, some u => RelV v u
  | none, none => True
  | _, _ => False
noncomputable def KV {κ : Type} : List (κ × V) → List (κ × Value) → Prop := Paired fun (p : κ × V) (q : κ × Value) => p.1 = q.1 ∧ RelV p.2 q.2
noncomputable def kV : Key → V
  | .inl i => .int i
  | .inr x => .str x
inductive HO where
    | lst (xs : List V)
    | tup (xs : List V)
    | dK (kvs : List (Key × V)) | dT (kvs : List (List Key × V))
    | set (S : Int → Bool) (n : Nat)
    | ins (C dx : Addr) (fs : List (Str × V))
    | own (x : Addr)
    | xd (fs : List (Str × V))
    | met (f x : Addr)
    | rng (lo hi : Int)
    | frz (o : Obj) (u : HO)
    | tbl (ps : Array Value)
    | ext (φ : Heap → Prop)
noncomputable abbrev Hp := Addr → Option HO
noncomputable def upd (H : Hp) (a : Addr) (o : HO) : Hp := fun b => if b = a then some o else H b
theorem upd_same {H : Hp} {a : Addr} {o : HO} : upd H a o a = some o := by unfold upd; rw [if_pos rfl]
theorem upd_ne {H : Hp} {a b : Addr} {o : HO} (h : b ≠ a) : upd H a o b = H b := by unfold upd; rw [if_neg h]
theorem ne_of_none {H : Hp} {a b : Addr} {o : HO} (h : H a = some o) (h' : H b = none) : a ≠ b := by
  intro e; subst e; rw [h] at h'; cases h'
section
variable (P : Program) (w : World)
noncomputable def ObjOk (H : Hp) (h : Heap) (a : Addr) : HO → Prop
  | .lst xs => xs.length ≤ sizeLine ∧ ∃ (its : List Value) (n : Nat), Vals xs its ∧ h.get? a = some { cls := .type "list", data := .seq its.toArray n }
  | .tup xs => xs.length ≤ sizeLine ∧ ∃ its : List Value, Vals xs its ∧ IsTup h a its.toArray
  | .dK kvs => kvs.length ≤ sizeLine ∧ (a == sysModules) = false ∧ ∃ vs, KV kvs vs ∧ h.DictOf (mixKind P w) a vs
  | .dT kvs => kvs.length ≤ sizeLine ∧ (a == sysModules) = false ∧ ∃ xs : List (List Key × Addr × Value),
      Paired (fun (p : List Key × V) (q : List Key × Addr × Value) => p.1 = q.1 ∧ H q.2.1 = some (.tup (p.1.map kV)) ∧ RelV p.2 q.2.2) kvs xs ∧
      ∃ o es ep, h.get? a = some o ∧ o.ExactDict ∧ o.data = .dict es ep ∧ es.toList = xs.map (entryOfKey (tupleKind (mixKind P w))) ∧ (xs.map (·.1)).Nodup
  | .set S n => h.SetOf (intKind P w) a S n
  | .ins C dx fs => H dx = some (.own a) ∧ fs.length ≤ 1000 ∧ dx ≠ a ∧ h.get? a = some (PySem.W.instObj C dx) ∧
      ∃ mA, h.Ns1 dx mA ∧ (∀ f, RelO (fs.lookup f) (mA f)) ∧ PySem.Within mA (fs.map (·.1))
  | .own _ => ∃ o, h.get? a = some o
  | .xd fs => ∃ mA, h.Ns1 a mA ∧ ∀ f, RelO (fs.lookup f) (mA f)
  | .rng lo hi => ∃ t u v, h.get? a = some { cls := .type "range", data := .fields #[.int lo t, .int hi u, .int 1 v] }
  | .frz o u => h.get? a = some o ∧ ObjOk H h a u
  | .tbl ps => h.get? a = some { cls := .none, data := .fields ps }
  | .met f x => h.get? a = some (PySem.W.methodObj (.ref f) (.ref x))
  | .ext φ => φ h ∧ (∃ o, h.get? a = some o) ∧ ∀ h1 h2 : Heap, φ h1 → (∀ o, h1.get? a = some o → h2.get? a = some o) → φ h2
noncomputable def HOk (H : Hp) (h : Heap) : Prop := ∀ a o, H a = some o → ObjOk P w H h a o
end
section
variable {P : Program} {w : World} {H H' : Hp} {h h' : Heap} {a : Addr} {o : HO}
theorem ObjOk.lt (x : ObjOk P w H h a o) : a < h.objs.size := by
  cases o with
  | lst xs => obtain ⟨_, _, _, _, e⟩ := x; exact Heap.lt_size e
  | tup xs => obtain ⟨_, _, _, p⟩ := x; exact p.lt
  | dK kvs => obtain ⟨_, _, _, _, o, _, _, e, _⟩ := x; exact Heap.lt_size e
  | dT kvs => obtain ⟨_, _, _, _, o, _, _, e, _⟩ := x; exact Heap.lt_size e
  | set S n => obtain ⟨o, _, _, _, e, _⟩ := x; exact Heap.lt_size e
  | ins C dx fs => obtain ⟨_, _, _, e, _⟩ := x; exact Heap.lt_size e
  | own y => obtain ⟨_, e⟩ := x; exact Heap.lt_size e
  | xd fs => obtain ⟨_, ⟨_, _, _, e, _⟩, _⟩ := x; exact Heap.lt_size e
  | rng lo hi => obtain ⟨_, _, _, e⟩ := x; exact Heap.lt_size e
  | frz ob u => obtain ⟨e, _⟩ := x; exact Heap.lt_size e
  | tbl ps => exact Heap.lt_size (show h.get? a = some _ from x)
  | met f y => exact Heap.lt_size (show h.get? a = some _ from x)
  | ext φ => obtain ⟨_, ⟨_, e⟩, _⟩ := x; exact Heap.lt_size e
theorem Paired.mapP {α β : Type} {F G : α → β → Prop} : ∀ {l₁ : List α} {l₂ : List β}, Paired F l₁ l₂ → (∀ a b, F a b → G a b) → Paired G l₁ l₂
  | _, _, .nil, _ => .nil
  | _, _, .cons r t, f => .cons (f _ _ r) (Paired.mapP t f)
theorem ObjOk.stay (x : ObjOk P w H h a o) (k : ∀ b u, (b = a ∨ H b = some (.own a)) → h.get? b = some u → h'.get? b = some u)
    (ho : ∀ b, H b = some (.own a) → H' b = some (.own a)) (ht : ∀ b xs, H b = some (.tup xs) → H' b = some (.tup xs)) : ObjOk P w H' h' a o := by
  induction o with
  | lst xs => obtain ⟨z, its, n, r, e⟩ := x; exact ⟨z, its, n, r, k _ _ (.inl rfl) e⟩
  | tup xs => obtain ⟨z, its, r, ob, e, c⟩ := x; exact ⟨z, its, r, ob, k _ _ (.inl rfl) e, c⟩
  | dK kvs => obtain ⟨z, y, vs, r, ob, es, ep, e, c⟩ := x; exact ⟨z, y, vs, r, ob, es, ep, k _ _ (.inl rfl) e, c⟩
  | dT kvs =>
    obtain ⟨z, y, xs, r, ob, es, ep, e, c⟩ := x
    exact ⟨z, y, xs, Paired.mapP r fun p q z => ⟨z.1, ht _ _ z.2.1, z.2.2⟩, ob, es, ep, k _ _ (.inl rfl) e, c⟩
  | set S n => obtain ⟨ob, es, ep, t, e, c⟩ := x; exact ⟨ob, es, ep, t, k _ _ (.inl rfl) e, c⟩
  | ins C dx fs =>
    obtain ⟨d, z, ne, e, mA, ⟨od, es, ep, e2, c⟩, r⟩ := x
    exact ⟨ho _ d, z, ne, k _ _ (.inl rfl) e, mA, ⟨od, es, ep, k _ _ (.inr d) e2, c⟩, r⟩
  | own y => obtain ⟨ob, e⟩ := x; exact ⟨ob, k _ _ (.inl rfl) e⟩
  | xd fs => obtain ⟨mA, ⟨od, es, ep, e, c⟩, r⟩ := x; exact ⟨mA, ⟨od, es, ep, k _ _ (.inl rfl) e, c⟩, r⟩
  | rng lo hi => obtain ⟨t, u, v, e⟩ := x; exact ⟨t, u, v, k _ _ (.inl rfl) e⟩
  | frz ob u ih => obtain ⟨e, q⟩ := x; exact ⟨k _ _ (.inl rfl) e, ih q⟩
  | tbl ps =>
    have e : h.get? a = some { cls := .none, data := .fields ps } := x
    show h'.get? a = some { cls := .none, data := .fields ps }
    exact k a _ (.inl rfl) e
  | met f y =>
    have e : h.get? a = some (PySem.W.methodObj (.ref f) (.ref y)) := x
    show h'.get? a = some (PySem.W.methodObj (.ref f) (.ref y))
    exact k a _ (.inl rfl) e
  | ext φ => obtain ⟨p, ⟨o, e⟩, st⟩ := x; exact ⟨st _ _ p fun o q => k _ _ (.inl rfl) q, ⟨o, k _ _ (.inl rfl) e⟩, st⟩
theorem HOk.lt (x : HOk P w H h) (e : H a = some o) : a < h.objs.size := (x a o e).lt
theorem HOk.fresh (x : HOk P w H h) (e : h.objs.size ≤ a) : H a = none := by
  cases q : H a with
  | none => rfl
  | some u => exact absurd (Nat.lt_of_lt_of_le (x.lt q) e) (Nat.lt_irrefl _)
theorem HOk.kept (x : HOk P w H h) (k : ∀ b u, h.get? b = some u → h'.get? b = some u) : HOk P w H h' := fun a o e =>
  (x a o e).stay (fun b u _ q => k b u q) (fun _ q => q) fun _ _ q => q
theorem HOk.laid (x : HOk P w H h) (k : ∀ b u, h.get? b = some u → h'.get? b = some u) (hp : h.objs.size ≤ a) (new : ObjOk P w (upd H a o) h' a o) : HOk P w (upd H a o) h' := fun b u e => by
  have hn := x.fresh hp
  by_cases hb : b = a
  · subst hb; rw [upd_same] at e; cases e; exact new
  · rw [upd_ne hb] at e
    exact (x b u e).stay (fun c v _ q => k c v q) (fun c q => by rw [upd_ne (ne_of_none q hn)]; exact q) fun c xs q => by rw [upd_ne (ne_of_none q hn)]; exact q
end
noncomputable def Rd (H : Hp) (a : Addr) (u : HO) : Prop := H a = some u ∨ ∃ o, H a = some (.frz o u)
theorem Rd.ok {P : Program} {w : World} {H : Hp} {h : Heap} {a : Addr} {u : HO} (r : Rd H a u) (x : HOk P w H h) : ObjOk P w H h a u := by
  rcases r with r | ⟨o, r⟩
  · exact x a u r
  · obtain ⟨_, q⟩ := x a _ r
    exact q
noncomputable def Mut : Option HO → Prop
  | some (.lst _) => True
  | some (.dK _) => True
  | some (.dT _) => True
  | some (.set _ _) => True
  | some (.ins _ _ _) => True
  | some (.ext _) => True
  | _ => False
section
variable {P : Program} {w : World} {H : Hp} {h h' : Heap} {x e : Addr} {o' : HO}
theorem HOk.write (ok : HOk P w H h) (mu : Mut (H x)) (he : e = x ∨ H e = some (.own x)) (k : ∀ b u, b ≠ e → h.get? b = some u → h'.get? b = some u) (heo : ∃ u, h'.get? e = some u)
    (new : ObjOk P w (upd H x o') h' x o') : HOk P w (upd H x o') h' := fun b u q => by
  have nown : ∀ c y, H c = some (.own y) → c ≠ x := fun c y r z => by subst z; rw [r] at mu; exact mu
  have ntup : ∀ c xs, H c = some (.tup xs) → c ≠ x := fun c xs r z => by subst z; rw [r] at mu; exact mu
  by_cases hb : b = x
  · subst hb; rw [upd_same] at q; cases q; exact new
  · rw [upd_ne hb] at q
    by_cases hbe : b = e
    · have q' : H b = some (.own x) := by
        rcases he with z | z
        · exact absurd (hbe.trans z) hb
        · rw [hbe]; exact z
      rw [q] at q'; cases q'
      obtain ⟨v, hv⟩ := heo
      exact ⟨v, by rw [hbe]; exact hv⟩
    · refine (ok b u q).stay (fun c v hc r => k c v ?_ r) (fun c r => by rw [upd_ne (nown c b r)]; exact r) fun c xs r => by rw [upd_ne (ntup c xs r)]; exact r
      rcases hc with rfl | hc
      · exact hbe
      · rintro rfl
        rcases he with z | z
        · exact nown c b hc z
        · rw [hc] at z; cases z; exact hb rfl
end
structure Un (fs ex : List Addr) (H H' : Hp) (h h' : Heap) : Prop where
  keep : ∀ b o, h.get? b = some o → H b = none → b ∉ fs → b ∉ ex → h'.get? b = some o
  slot : ∀ b o, h.get? b = some o → H b = none → b ∈ fs → b ∉ ex → ∃ sl, h'.get? b = some { o with slots := sl }
  free : ∀ b o, h.get? b = some o → H b = none → b ∉ ex → H' b = none
  there : ∀ b o, h.get? b = some o → b ∉ ex → ∃ o', h'.get? b = some o'
  tups : ∀ b xs, H b = some (.tup xs) → H' b = some (.tup xs)
  frzs : ∀ b o u, H b = some (.frz o u) → H' b = some (.frz o u)
  tbls : ∀ b ps, H b = some (.tbl ps) → ∃ more, H' b = some (.tbl (ps ++ more))
section
variable {fs fs' ex ex' : List Addr} {H H1 H2 : Hp} {h h1 h2 h' : Heap} {a x e : Addr} {o : HO}
theorem Un.any (u : Un fs ex H H1 h h1) {b : Addr} {ob : Obj} (q : h.get? b = some ob) (n : H b = none) (hx : b ∉ ex) : ∃ sl, h1.get? b = some { ob with slots := sl } := by
  by_cases hb : b ∈ fs
  · exact u.slot b ob q n hb hx
  · exact ⟨ob.slots, u.keep b ob q n hb hx⟩
theorem Un.trans (a : Un fs ex H H1 h h1) (b : Un fs ex H1 H2 h1 h2) : Un fs ex H H2 h h2 where
  keep := fun c ob q n hc hx => b.keep c ob (a.keep c ob q n hc hx) (a.free c ob q n hx) hc hx
  slot := fun c ob q n hc hx => by
    obtain ⟨sl, e1⟩ := a.slot c ob q n hc hx
    obtain ⟨sl', e2⟩ := b.slot c _ e1 (a.free c ob q n hx) hc hx
    exact ⟨sl', e2⟩
  free := fun c ob q n hx => by
    obtain ⟨o', e1⟩ := a.there c ob q hx
    exact b.free c o' e1 (a.free c ob q n hx) hx
  there := fun c ob q hx => by
    obtain ⟨o', e1⟩ := a.there c ob q hx
    exact b.there c o' e1 hx
  tups := fun c xs q => b.tups c xs (a.tups c xs q)
  frzs := fun c ob xs q => b.frzs c ob xs (a.frzs c ob xs q)
  tbls := fun c ps q => by
    obtain ⟨m1, e1⟩ := a.tbls c ps q
    obtain ⟨m2, e2⟩ := b.tbls c _ e1
    exact ⟨m1 ++ m2, by rw [e2, Array.append_assoc]⟩
theorem Un.kept (k : ∀ b u, h.get? b = some u → h'.get? b = some u) : Un fs ex H H h h' :=
  ⟨fun b ob q _ _ _ => k b ob q, fun b ob q _ _ _ => ⟨ob.slots, k b ob q⟩, fun _ _ _ n _ => n, fun b ob q _ => ⟨ob, k b ob q⟩, fun _ _ q => q, fun _ _ _ q => q, fun _ ps q => ⟨#[], by rw [q]; simp⟩⟩
theorem Un.refl : Un fs ex H H h h := Un.kept fun _ _ q => q
theorem Un.laid (k : ∀ b u, h.get? b = some u → h'.get? b = some u) (hp : h.objs.size ≤ a) (hn : H a = none) : Un fs ex H (upd H a o) h h' where
  keep := fun b u q _ _ _ => k b u q
  slot := fun b u q _ _ _ => ⟨u.slots, k b u q⟩
  free := fun b u q n _ => by rw [upd_ne (Nat.ne_of_lt (Nat.lt_of_lt_of_le (Heap.lt_size q) hp))]; exact n
  there := fun b u q _ => ⟨u, k b u q⟩
  tups := fun b xs q => by rw [upd_ne (ne_of_none q hn)]; exact q
  frzs := fun b u xs q => by rw [upd_ne (ne_of_none q hn)]; exact q
  tbls := fun b ps q => ⟨#[], by rw [upd_ne (ne_of_none q hn), q]; simp⟩
theorem Un.write (mu : Mut (H x)) (he : e = x ∨ H e = some (.own x)) (k : ∀ b u, b ≠ e → h.get? b = some u → h'.get? b = some u) (heo : ∃ u, h'.get? e = some u) : Un fs ex H (upd H x o) h h' := by
  have hx : ∀ b, H b = none → b ≠ x := fun b n z => by subst z; rw [n] at mu; exact mu
  have hb : ∀ b, H b = none → b ≠ e := fun b n z => by
    subst z
    rcases he with r | r
    · exact hx b n r
    · rw [n] at r; cases r
  have hm : ∀ b u, H b = some u → ¬ Mut (some u) → b ≠ x := fun b u q nm z => by subst z; rw [q] at mu; exact nm mu
  refine ⟨fun b u q n _ _ => k b u (hb b n) q, fun b u q n _ _ => ⟨u.slots, k b u (hb b n) q⟩, fun b u q n _ => by rw [upd_ne (hx b n)]; exact n, fun b u q _ => ?_,
    fun b xs q => by rw [upd_ne (hm b _ q fun z => z)]; exact q, fun b u xs q => by rw [upd_ne (hm b _ q fun z => z)]; exact q, fun b ps q => ⟨#[], by rw [upd_ne (hm b _ q fun z => z), q]; simp⟩⟩
  by_cases hbe : b = e
  · subst hbe; exact heo
  · exact ⟨u, k b u hbe q⟩
end
noncomputable def trk (h : Heap) (H : Hp) : List Addr := (List.range h.objs.size).filter fun a => (H a).isSome
noncomputable def hidT (h : Heap) (H : Hp) : Heap := PySem.W.hideAll h (trk h H)
theorem hidT_size (h : Heap) (H : Hp) : (hidT h H).objs.size = h.objs.size := PySem.W.hideAll_size _ _
theorem hidT_get {h : Heap} {H : Hp} {b : Addr} {o : Obj} (e : h.get? b = some o) (n : H b = none) : (hidT h H).get? b = some o :=
  PySem.W.hideAll_get _ e fun hm => by
    have q : (H b).isSome = true := (List.mem_filter.mp hm).2
    rw [n] at q; simp at q
theorem of_hidT {h : Heap} {H : Hp} {b : Addr} {o : Obj} (e : (hidT h H).get? b = some o) : h.get? b = some o ∧ H b = none := by
  have e' : h.get? b = some o := PySem.W.of_hideAll (trk h H) e
  refine ⟨e', ?_⟩
  cases q : H b with
  | none => rfl
  | some x =>
    have hm : b ∈ trk h H := List.mem_filter.mpr ⟨List.mem_range.mpr (Heap.lt_size e'), by simp [q]⟩
    have z : (hidT h H).get? b = none := PySem.W.hideAll_none (trk h H) hm
    rw [z] at e; cases e
end L2
namespace L2
open PySem PySem.Spec PyProof.Rows
structure Mod (K : PySem.W.Frag) (mg : Str → Option Value) (base : Heap) : Prop where
  kin : K.In base
  glob : base.Ns mainGlobals mg
  blt : ∃ mb, base.Ns builtinsNs mb ∧ ∀ x : Str, x ≠ "__name__" → mb x = bootBuiltins x
  nolimit : base.NoLimit
structure Cx where
  prog : Program
  w : World
  K : PySem.W.Frag
  mg : Str → Option Value
  base : Heap
  A : Around
  N : List Str
  s₀ : Shared
  H₀ : Hp
  env : Env
  outer : List Env
  stack : List Env
  ex : List Addr
  fn : Str → Bool
  calm : Bool
  pn : List (Addr × Obj)
  xe : Value → Shared → Prop
noncomputable def frs (l : List Env) : List Addr := l.filterMap (·.frame)
noncomputable abbrev Cx.fs (X : Cx) : List Addr := frs X.outer
noncomputable def Vis (sc : Scope) (x : Str) : Prop := sc.names.lookup x = some .local ∨ sc.names.lookup x = some .cell ∨ sc.names.lookup x = some .free
noncomputable def Loc (sc : Scope) (x : Str) : Prop := sc.names.lookup x = some .local ∨ sc.names.lookup x = some .cell
noncomputable def Look (env : Env) (h : Heap) (m : Str → Option Value) (x : Str) (u : Value) : Prop :=
  (env.kindOf x = some .local ∧ m x = some u) ∨ ((env.kindOf x = some .cell ∨ env.kindOf x = some .free) ∧ ∃ c, env.cells.lookup x = some c ∧ h.IsCell c (some u))
structure Cx.Ok (X : Cx) : Prop where
  mod : Mod X.K X.mg X.base
  kind : X.env.scope.kind = .function
  glob : X.env.globals = mainGlobals
  blt : X.env.builtins = builtinsNs
  above : X.s₀.heap.objs.size ≤ X.env.locals
  inj : ∀ x y c, X.env.cells.lookup x = some c → X.env.cells.lookup y = some c → x = y
  has : ∀ x, (X.env.kindOf x = some .cell ∨ X.env.kindOf x = some .free) → ∃ c, X.env.cells.lookup x = some c
  cab : ∀ x c, X.fn x = true → X.env.cells.lookup x = some c → X.s₀.heap.objs.size ≤ c
  hd : X.calm = true → X.A.handled = none
  frames : X.A.frames = some X.stack
  stk : X.stack = X.outer ∨ (X.stack = X.env :: X.outer ∧ X.env.frame = some X.env.locals)
  exf : ∀ b ∈ X.ex, b ≠ X.env.locals ∧ ∀ x c, X.env.cells.lookup x = some c → c ≠ b
  bs : ∀ b o, X.base.get? b = some o → X.s₀.heap.get? b = some o ∧ X.H₀ b = none
  bsz : X.base.objs.size ≤ X.s₀.heap.objs.size
  noex : ∀ b o, X.base.get? b = some o → b ∉ X.ex
  exfs : ∀ b ∈ X.ex, b ∉ X.fs
  funs : X.s₀.heap.FunFrames X.base X.outer
  frf : ∀ b ∈ X.fs, X.H₀ b = none
structure Inv (X : Cx) (pins : List (Addr × Obj)) (σ : List (Option V)) (H : Hp) (s : Shared) : Prop where
  ok : X.Ok
  os : s.os = X.s₀.os
  bare : AllBare s.gens
  base : Un X.fs X.ex X.H₀ H X.s₀.heap s.heap
  loc : ∃ m, s.heap.Ns X.env.locals m ∧ ∀ (i : Nat) (x : Str) (v : V), X.N[i]? = some x → σ[i]? = some (some v) → Vis X.env.scope x → ∃ u, RelV v u ∧ Look X.env s.heap m x u
  cell : ∀ x c, X.env.cells.lookup x = some c → ∃ v, s.heap.IsCell c v
  free : H X.env.locals = none
  freeC : ∀ x c, X.env.cells.lookup x = some c → H c = none
  pin : ∀ p ∈ X.pn ++ pins, s.heap.get? p.1 = some p.2 ∧ H p.1 = none ∧ p.1 ≠ X.env.locals ∧ p.1 ∉ X.fs ∧ ∀ v, p.2.data ≠ .cell v
  hok : HOk X.prog X.w H s.heap
  len : σ.length = X.N.length
section
variable {X : Cx} {pins : List (Addr × Obj)} {σ : List (Option V)} {H H' : Hp} {s : Shared} {h' : Heap}
theorem Cx.Ok.nofr (ok : X.Ok) {b : Addr} {o : Obj} (e : X.base.get? b = some o) : b ∉ X.fs := fun hb => by
  have := (ok.funs.mem hb).1
  rw [e] at this; cases this
theorem Inv.bs (I : Inv X pins σ H s) : ∀ b o, X.base.get? b = some o → s.heap.get? b = some o ∧ H b = none := fun b o e =>
  ⟨I.base.keep b o (I.ok.bs b o e).1 (I.ok.bs b o e).2 (I.ok.nofr e) (I.ok.noex b o e), I.base.free b o (I.ok.bs b o e).1 (I.ok.bs b o e).2 (I.ok.noex b o e)⟩
theorem Inv.bk (I : Inv X pins σ H s) : ∀ b o, X.base.get? b = some o → s.heap.get? b = some o := fun b o e => (I.bs b o e).1
theorem Inv.mod (I : Inv X pins σ H s) : Mod X.K X.mg X.base := I.ok.mod
theorem Inv.kIn (I : Inv X pins σ H s) : X.K.In s.heap := I.ok.mod.kin.keeps I.bk
theorem Inv.lt (I : Inv X pins σ H s) : X.env.locals < s.heap.objs.size := let ⟨_, hn, _⟩ := I.loc; hn.lt
theorem Inv.sz (I : Inv X pins σ H s) : X.s₀.heap.objs.size ≤ s.heap.objs.size := Nat.le_trans I.ok.above (Nat.le_of_lt I.lt)
theorem Inv.nofs (I : Inv X pins σ H s) {a : Addr} (h : s.heap.objs.size ≤ a) : a ∉ X.fs := fun hb => by
  obtain ⟨_, o, ho, _⟩ := I.ok.funs.mem hb
  exact absurd (Nat.lt_of_lt_of_le (Heap.lt_size ho) (Nat.le_trans I.sz h)) (Nat.lt_irrefl _)
theorem Inv.cne (I : Inv X pins σ H s) : ∀ x c, X.env.cells.lookup x = some c → c ≠ X.env.locals := fun x c e z => by
  obtain ⟨v, o, ho, hd⟩ := I.cell x c e
  obtain ⟨m, ⟨o', es, ep, ho', hd', _⟩, _⟩ := I.loc
  rw [z, ho'] at ho; cases ho; rw [hd'] at hd; cases hd
theorem Inv.funs (I : Inv X pins σ H s) : s.heap.FunFrames X.base X.outer := by
  have all : ∀ (l : List Env), (∀ b ∈ frs l, b ∈ X.fs) → X.s₀.heap.FunFrames X.base l → s.heap.FunFrames X.base l := by
    intro l
    induction l with
    | nil => intro _ _; trivial
    | cons env r ih =>
      intro hs hl
      obtain ⟨hk, ⟨L, o, hf, hn, ho, hd⟩, hr⟩ := hl
      have hL : L ∈ X.fs := hs L (by unfold frs; rw [List.filterMap_cons, hf]; exact List.mem_cons_self)
      obtain ⟨sl, e⟩ := I.base.slot L o ho (I.ok.frf L hL) hL fun z => I.ok.exfs L z hL
      exact ⟨hk, ⟨L, _, hf, hn, e, hd⟩, ih (fun b hb => hs b (by unfold frs; rw [List.filterMap_cons, hf]; exact List.mem_cons_of_mem _ hb)) hr⟩
  exact all X.outer (fun _ hb => hb) I.ok.funs
theorem Inv.stack (I : Inv X pins σ H s) : s.heap.FunFrames X.base X.stack := by
  rcases I.ok.stk with e | ⟨e, hf⟩
  · rw [e]; exact I.funs
  · rw [e]
    obtain ⟨m, hn, _⟩ := I.loc
    refine .cons (by rw [I.ok.kind]; decide) hf hn ?_ I.funs
    exact Heap.get?_none_of_le (Nat.le_trans I.ok.bsz I.ok.above)
theorem Inv.stkSub (I : Inv X pins σ H s) : ∀ b ∈ frs X.stack, b ∈ X.env.locals :: X.fs := fun b hb => by
  rcases I.ok.stk with e | ⟨e, hf⟩
  · rw [e] at hb; exact List.mem_cons_of_mem _ hb
  · rw [e] at hb
    unfold frs at hb
    rw [List.filterMap_cons, hf] at hb
    exact hb
theorem Inv.stkFree (I : Inv X pins σ H s) : ∀ b ∈ frs X.stack, H b = none := fun b hb => by
  rcases List.mem_cons.mp (I.stkSub b hb) with e | hb
  · rw [e]; exact I.free
  · obtain ⟨_, o, ho, _⟩ := I.ok.funs.mem hb
    exact I.base.free b o ho (I.ok.frf b hb) fun z => I.ok.exfs b z hb
theorem Inv.step {g' : Array GenState} {t' : Nat} {d' : Drawn} {ch : List Addr} (I : Inv X pins σ H s)
    (hch : ∀ b ∈ ch, (b ∈ X.ex ∨ X.s₀.heap.objs.size ≤ b) ∧ b ≠ X.env.locals ∧ (∀ x c, X.env.cells.lookup x = some c → c ≠ b) ∧ ∀ p ∈ X.pn ++ pins, p.1 ≠ b)
    (keep : ∀ b o, b ≠ X.env.locals → b ∉ X.fs → b ∉ ch → s.heap.get? b = some o → H b = none → h'.get? b = some o)
    (slot : ∀ b o, b ≠ X.env.locals → b ∈ X.fs → b ∉ ch → s.heap.get? b = some o → H b = none → ∃ sl, h'.get? b = some { o with slots := sl }) (free : ∀ b o, b ∉ ch → s.heap.get? b = some o → H b = none → H' b = none)
    (there : ∀ b o, b ∉ ch → s.heap.get? b = some o → ∃ o', h'.get? b = some o')
    (tups : ∀ b xs, H b = some (.tup xs) → H' b = some (.tup xs)) (frzs : ∀ b o u, H b = some (.frz o u) → H' b = some (.frz o u)) (tbls : ∀ b ps, H b = some (.tbl ps) → ∃ more, H' b = some (.tbl (ps ++ more)))
    (ns : ∀ m, s.heap.Ns X.env.locals m → h'.Ns X.env.locals m) (hok : HOk X.prog X.w H' h') (hg : AllBare g') :
    Inv X pins σ H' { s with heap := h', gens := g', drawn := d', toks := t' } := by
  have neL : ∀ b o, X.s₀.heap.get? b = some o → b ≠ X.env.locals := fun b o e => Nat.ne_of_lt (Nat.lt_of_lt_of_le (Heap.lt_size e) I.ok.above)
  have neC : ∀ b o, X.s₀.heap.get? b = some o → b ∉ X.ex → b ∉ ch := fun b o e hx hb => by
    rcases (hch b hb).1 with z | z
    · exact hx z
    · exact absurd (Nat.lt_of_lt_of_le (Heap.lt_size e) z) (Nat.lt_irrefl _)
  have cellK : ∀ x c, X.env.cells.lookup x = some c → ∀ v, s.heap.IsCell c v → h'.IsCell c v := fun x c e v ⟨o, ho, hd⟩ => by
    have nch : c ∉ ch := fun z => (hch c z).2.2.1 x c e rfl
    by_cases hc : c ∈ X.fs
    · obtain ⟨sl, q⟩ := slot c o (I.cne x c e) hc nch ho (I.freeC x c e)
      exact ⟨_, q, hd⟩
    · exact ⟨o, keep c o (I.cne x c e) hc nch ho (I.freeC x c e), hd⟩
  refine ⟨I.ok, I.os, hg, ⟨fun b o e n hb hx => ?_, fun b o e n hb hx => ?_, fun b o e n hx => ?_, fun b o e hx => ?_, fun b xs e => tups b xs (I.base.tups b xs e), fun b o xs e => frzs b o xs (I.base.frzs b o xs e), fun b ps e => ?_⟩, ?_, fun x c e => ?_, ?_, fun x c e => ?_, fun p hp => ?_, hok, I.len⟩
  · exact keep b o (neL b o e) hb (neC b o e hx) (I.base.keep b o e n hb hx) (I.base.free b o e n hx)
  · obtain ⟨sl, e1⟩ := I.base.slot b o e n hb hx
    obtain ⟨sl', e2⟩ := slot b _ (neL b o e) hb (neC b o e hx) e1 (I.base.free b o e n hx)
    exact ⟨sl', e2⟩
  · obtain ⟨o', e1⟩ := I.base.there b o e hx
    exact free b o' (neC b o e hx) e1 (I.base.free b o e n hx)
  · obtain ⟨o', e1⟩ := I.base.there b o e hx
    exact there b o' (neC b o e hx) e1
  · obtain ⟨m1, e1⟩ := I.base.tbls b ps e
    obtain ⟨m2, e2⟩ := tbls b _ e1
    exact ⟨m1 ++ m2, by rw [e2, Array.append_assoc]⟩
  · obtain ⟨m, hn, hl⟩ := I.loc
    refine ⟨m, ns m hn, fun i x v e1 e2 e3 => ?_⟩
    obtain ⟨u, r, l⟩ := hl i x v e1 e2 e3
    refine ⟨u, r, ?_⟩
    rcases l with l | ⟨k, c, e, z⟩
    · exact .inl l
    · exact .inr ⟨k, c, e, cellK x c e _ z⟩
  · obtain ⟨v, z⟩ := I.cell x c e
    exact ⟨v, cellK x c e v z⟩
  · obtain ⟨m, ⟨o, _, _, ho, _⟩, _⟩ := I.loc
    exact free _ o (fun z => (hch _ z).2.1 rfl) ho I.free
  · obtain ⟨v, o, ho, hd⟩ := I.cell x c e
    exact free c o (fun z => (hch c z).2.2.1 x c e rfl) ho (I.freeC x c e)
  · obtain ⟨e, n, ne, nf, d⟩ := I.pin p hp
    have nch : p.1 ∉ ch := fun z => (hch p.1 z).2.2.2 p hp rfl
    exact ⟨keep p.1 p.2 ne nf nch e n, free p.1 p.2 nch e n, ne, nf, d⟩
theorem Inv.un {t' : Nat} (I : Inv X pins σ H s) (u : Un X.fs [] H H' s.heap h') (hok : HOk X.prog X.w H' h') : Inv X pins σ H' { s with heap := h', toks := t' } := by
  obtain ⟨m, ⟨o, es, ep, ho, r⟩, _⟩ := id I.loc
  obtain ⟨sl, hL⟩ := u.any ho I.free (by simp)
  exact I.step (g' := s.gens) (d' := s.drawn) (ch := []) (fun _ z => nomatch z) (fun b o _ hb _ e n => u.keep b o e n hb (by simp)) (fun b o _ hb _ e n => u.slot b o e n hb (by simp)) (fun b o _ e n => u.free b o e n (by simp)) (fun b o _ e => u.there b o e (by simp)) u.tups u.frzs u.tbls (fun m' hm => by
    obtain ⟨o', es', ep', ho', r'⟩ := hm
    rw [ho] at ho'; cases ho'
    exact ⟨_, es', ep', hL, r'⟩) hok I.bare
theorem Inv.call {g' : Array GenState} {t' : Nat} {d' : Drawn} {ch : List Addr} (I : Inv X pins σ H s) (u : Un (frs X.stack) ch H H' s.heap h') (hok : HOk X.prog X.w H' h') (hg : AllBare g')
    (hch : ∀ b ∈ ch, (b ∈ X.ex ∨ X.s₀.heap.objs.size ≤ b) ∧ b ≠ X.env.locals ∧ (∀ x c, X.env.cells.lookup x = some c → c ≠ b) ∧ ∀ p ∈ X.pn ++ pins, p.1 ≠ b) :
    Inv X pins σ H' { s with heap := h', gens := g', drawn := d', toks := t' } := by
  obtain ⟨m, ⟨o, es, ep, ho, r⟩, _⟩ := id I.loc
  obtain ⟨sl, hL⟩ := u.any ho I.free fun z => (hch _ z).2.1 rfl
  exact I.step (ch := ch) hch (fun b o hL hb hc e n => u.keep b o e n (fun z => (List.mem_cons.mp (I.stkSub b z)).elim hL hb) hc) (fun b o _ _ hc e n => u.any e n hc) (fun b o hc e n => u.free b o e n hc) (fun b o hc e => u.there b o e hc) u.tups u.frzs u.tbls (fun m' hm => by
    obtain ⟨o', es', ep', ho', r'⟩ := hm
    rw [ho] at ho'; cases ho'
    exact ⟨_, es', ep', hL, r'⟩) hok hg
theorem Inv.turned {t' : Nat} {it : Addr} (I : Inv X pins σ H s) (k : ∀ b o, b ≠ it → s.heap.get? b = some o → h'.get? b = some o) (hn : H it = none) (hL : it ≠ X.env.locals)
    (h1 : it ∈ X.ex ∨ X.s₀.heap.objs.size ≤ it) (h2 : ∀ x c, X.env.cells.lookup x = some c → c ≠ it) (h3 : ∀ p ∈ X.pn ++ pins, p.1 ≠ it) : Inv X pins σ H { s with heap := h', toks := t' } := by
  have nit : ∀ b u, H b = some u → b ≠ it := fun b u e z => by rw [z, hn] at e; cases e
  refine I.step (g' := s.gens) (d' := s.drawn) (ch := [it]) (fun b hb => ?_) (fun b o _ _ hc e _ => k b o (fun z => hc (by simp [z])) e) (fun b o _ _ hc e _ => ⟨o.slots, k b o (fun z => hc (by simp [z])) e⟩) (fun _ _ _ _ n => n)
    (fun b o hc e => ⟨o, k b o (fun z => hc (by simp [z])) e⟩) (fun _ _ e => e) (fun _ _ _ e => e) (fun b ps e => ⟨#[], by rw [e]; simp⟩) (fun m hm => ?_) (fun b u e => ?_) I.bare
  · have e : b = it := by simpa using hb
    subst e
    exact ⟨h1, hL, h2, h3⟩
  · obtain ⟨o, es, ep, ho, r⟩ := hm
    exact ⟨o, es, ep, k _ o (Ne.symm hL) ho, r⟩
  · refine (I.hok b u e).stay (fun c v hc q => k c v ?_ q) (fun _ q => q) fun _ _ q => q
    rcases hc with z | z
    · rw [z]; exact nit b u e
    · exact nit c _ z
theorem Inv.tok (I : Inv X pins σ H s) (t : Nat) : Inv X pins σ H { s with toks := t } := I.un (h' := s.heap) (t' := t) Un.refl I.hok
theorem Inv.kept {t' : Nat} (I : Inv X pins σ H s) (k : ∀ b u, s.heap.get? b = some u → h'.get? b = some u) : Inv X pins σ H { s with heap := h', toks := t' } := I.un (Un.kept k) (I.hok.kept k)
theorem Inv.laid {a : Addr} {o : HO} {t' : Nat} (I : Inv X pins σ H s) (k : ∀ b u, s.heap.get? b = some u → h'.get? b = some u) (hp : s.heap.objs.size ≤ a) (new : ObjOk X.prog X.w (upd H a o) h' a o) :
    Inv X pins σ (upd H a o) { s with heap := h', toks := t' } := I.un (Un.laid k hp (I.hok.fresh hp)) (I.hok.laid k hp new)
theorem Inv.write {x e : Addr} {o : HO} {t' : Nat} (I : Inv X pins σ H s) (mu : Mut (H x)) (he : e = x ∨ H e = some (.own x)) (k : ∀ b u, b ≠ e → s.heap.get? b = some u → h'.get? b = some u) (heo : ∃ u, h'.get? e = some u)
    (new : ObjOk X.prog X.w (upd H x o) h' x o) : Inv X pins σ (upd H x o) { s with heap := h', toks := t' } := I.un (Un.write mu he k heo) (I.hok.write mu he k heo new)
theorem Inv.weak {σ' : List (Option V)} (I : Inv X pins σ H s) (hl : σ'.length = σ.length) (w : ∀ (i : Nat) v, σ'[i]? = some (some v) → σ[i]? = some (some v)) : Inv X pins σ' H s :=
  ⟨I.ok, I.os, I.bare, I.base, let ⟨m, hn, hl'⟩ := I.loc; ⟨m, hn, fun i x v e1 e2 e3 => hl' i x v e1 (w i v e2) e3⟩, I.cell, I.free, I.freeC, I.pin, I.hok, hl.trans I.len⟩
theorem Inv.pins_of {pins' : List (Addr × Obj)} (I : Inv X pins σ H s) (h : ∀ p ∈ pins', s.heap.get? p.1 = some p.2 ∧ H p.1 = none ∧ p.1 ≠ X.env.locals ∧ p.1 ∉ X.fs ∧ ∀ v, p.2.data ≠ .cell v) : Inv X pins' σ H s :=
  ⟨I.ok, I.os, I.bare, I.base, I.loc, I.cell, I.free, I.freeC, fun p hp => (List.mem_append.mp hp).elim (fun z => I.pin p (List.mem_append_left _ z)) (h p), I.hok, I.len⟩
theorem nodup_ix {N : List Str} (hN : N.Nodup) {i j : Nat} {x : Str} (a : N[i]? = some x) (b : N[j]? = some x) : i = j := by
  obtain ⟨h1, e1⟩ := List.getElem?_eq_some_iff.mp a
  obtain ⟨h2, e2⟩ := List.getElem?_eq_some_iff.mp b
  exact (List.getElem_inj hN).mp (e1.trans e2.symm)
theorem store_ok2 {M : Model} {A : Around} {E : Value → Shared → Prop} {i : Nat} {x : Str} {v : V} {u : Value} {Q : Unit → Shared → Prop} (I : Inv X pins σ H s) (hN : X.N.Nodup) (hi : X.N[i]? = some x) (hx : Loc X.env.scope x) (r : RelV v u)
    (h : ∀ s', Inv X pins (σ.set i (some v)) H s' → (∃ a, Heap.SameBut a s.heap s'.heap ∧ (a = X.env.locals ∨ X.env.cells.lookup x = some a)) → Q () s') (hf : X.fn x = true ∨ X.env.scope.names.lookup x = some .local := by first | exact .inl rfl | exact .inr rfl | assumption) : wpAny M A (storeName X.env x u) Q E s := by
  obtain ⟨m, hn, hl⟩ := id I.loc
  have hcls : (X.env.scope.kind == .class || (X.env.scope.kind == .module && X.env.locals != X.env.globals)) = false := by rw [I.ok.kind]; rfl
  have hiσ : i < σ.length := by rw [I.len]; exact (List.getElem?_eq_some_iff.mp hi).1
  have cne := I.cne
  have tracked : ∀ {a : Addr} {h' : Heap}, (∃ o, s.heap.get? a = some o ∧ H a = none) → Heap.SameBut a s.heap h' → HOk X.prog X.w H h' := fun {a h'} ha hs b ob e => by
    obtain ⟨_, _, hfree⟩ := ha
    refine (I.hok b ob e).stay (fun c w' hc q => (hs.2 c ?_).trans q) (fun _ q => q) fun _ _ q => q
    rintro rfl
    rcases hc with rfl | hc
    · rw [hfree] at e; cases e
    · rw [hfree] at hc; cases hc
  rcases hx with hk | hk
  · refine wpAny_storeName_local hk hn (fun h' hn' hs => ?_) hcls
    obtain ⟨oL, _, _, hoL, _⟩ := id hn
    refine h _ ⟨I.ok, I.os, I.bare, ⟨fun b o e n hb hx => ?_, fun b o e n hb hx => ?_, I.base.free, fun b o e hx => ?_, I.base.tups, I.base.frzs, I.base.tbls⟩, ⟨_, hn', fun j y v' e1 e2 e3 => ?_⟩, fun y c e => ?_, I.free, I.freeC, fun p hp => ?_, tracked ⟨oL, hoL, I.free⟩ hs, by simpa using I.len⟩ ⟨_, hs, .inl rfl⟩
    · exact (hs.2 b (Nat.ne_of_lt (Nat.lt_of_lt_of_le (Heap.lt_size e) I.ok.above))).trans (I.base.keep b o e n hb hx)
    · obtain ⟨sl, e1⟩ := I.base.slot b o e n hb hx
      exact ⟨sl, (hs.2 b (Nat.ne_of_lt (Nat.lt_of_lt_of_le (Heap.lt_size e) I.ok.above))).trans e1⟩
    · obtain ⟨o', e1⟩ := I.base.there b o e hx
      exact ⟨o', (hs.2 b (Nat.ne_of_lt (Nat.lt_of_lt_of_le (Heap.lt_size e) I.ok.above))).trans e1⟩
    · by_cases hj : j = i
      · subst hj
        rw [hi] at e1; cases e1
        rw [List.getElem?_set_self hiσ] at e2
        cases e2
        exact ⟨u, r, .inl ⟨hk, by simp⟩⟩
      · rw [List.getElem?_set_ne (Ne.symm hj)] at e2
        obtain ⟨u', r', q⟩ := hl j y v' e1 e2 e3
        refine ⟨u', r', ?_⟩
        rcases q with ⟨k, e⟩ | ⟨k, c, e, z⟩
        · refine .inl ⟨k, ?_⟩
          have : y ≠ x := fun e => hj (nodup_ix hN e1 (e ▸ hi))
          simp [this, e]
        · exact .inr ⟨k, c, e, z.sameBut hs (cne y c e)⟩
    · obtain ⟨w', z⟩ := I.cell y c e
      exact ⟨w', z.sameBut hs (cne y c e)⟩
    · obtain ⟨e, n, ne, nf, d⟩ := I.pin p hp
      exact ⟨(hs.2 p.1 ne).trans e, n, ne, nf, d⟩
  · have hfn : X.fn x = true := by
      rcases hf with z | z
      · exact z
      · rw [z] at hk; cases hk
    obtain ⟨c, hc⟩ := I.ok.has x (.inl hk)
    obtain ⟨w', z⟩ := I.cell x c hc
    refine wpAny_storeName_cell I.ok.kind hk hc z (fun h' hc' hs => ?_)
    obtain ⟨oc, hoc, hocd⟩ := id z
    refine h { s with heap := h' } ⟨I.ok, I.os, I.bare, ⟨fun b o e n hb hx => ?_, fun b o e n hb hx => ?_, I.base.free, fun b o e hx => ?_, I.base.tups, I.base.frzs, I.base.tbls⟩, ⟨m, hn.sameBut hs (Ne.symm (cne x c hc)), fun j y v' e1 e2 e3 => ?_⟩, fun y c' e => ?_, I.free, I.freeC, fun p hp => ?_, tracked ⟨oc, hoc, I.freeC x c hc⟩ hs, by simpa using I.len⟩ ⟨c, hs, .inr hc⟩
    · exact (hs.2 b (Nat.ne_of_lt (Nat.lt_of_lt_of_le (Heap.lt_size e) (I.ok.cab x c hfn hc)))).trans (I.base.keep b o e n hb hx)
    · obtain ⟨sl, e1⟩ := I.base.slot b o e n hb hx
      exact ⟨sl, (hs.2 b (Nat.ne_of_lt (Nat.lt_of_lt_of_le (Heap.lt_size e) (I.ok.cab x c hfn hc)))).trans e1⟩
    · obtain ⟨o', e1⟩ := I.base.there b o e hx
      exact ⟨o', (hs.2 b (Nat.ne_of_lt (Nat.lt_of_lt_of_le (Heap.lt_size e) (I.ok.cab x c hfn hc)))).trans e1⟩
    · by_cases hj : j = i
      · subst hj
        rw [hi] at e1; cases e1
        rw [List.getElem?_set_self hiσ] at e2
        cases e2
        exact ⟨u, r, .inr ⟨.inl hk, c, hc, hc'⟩⟩
      · rw [List.getElem?_set_ne (Ne.symm hj)] at e2
        obtain ⟨u', r', q⟩ := hl j y v' e1 e2 e3
        refine ⟨u', r', ?_⟩
        rcases q with q | ⟨k, c', e, z'⟩
        · exact .inl q
        · refine .inr ⟨k, c', e, z'.sameBut hs ?_⟩
          rintro rfl
          exact hj (nodup_ix hN e1 (I.ok.inj _ _ _ e hc ▸ hi))
    · by_cases hcc : c' = c
      · subst hcc; exact ⟨_, hc'⟩
      · obtain ⟨w2, z2⟩ := I.cell y c' e
        exact ⟨w2, z2.sameBut hs hcc⟩
    · obtain ⟨e, n, ne, nf, d⟩ := I.pin p hp
      refine ⟨(hs.2 p.1 ?_).trans e, n, ne, nf, d⟩
      intro q
      rw [q, hoc] at e
      have q' : oc = p.2 := Option.some.inj e
      exact d w' (by rw [← q']; exact hocd)
theorem store_ok {M : Model} {A : Around} {E : Value → Shared → Prop} {i : Nat} {x : Str} {v : V} {u : Value} {Q : Unit → Shared → Prop} (I : Inv X pins σ H s) (hN : X.N.Nodup) (hi : X.N[i]? = some x) (hx : Loc X.env.scope x) (r : RelV v u)
    (h : ∀ s', Inv X pins (σ.set i (some v)) H s' → Q () s') (hf : X.fn x = true ∨ X.env.scope.names.lookup x = some .local := by first | exact .inl rfl | exact .inr rfl | assumption) : wpAny M A (storeName X.env x u) Q E s :=
  store_ok2 I hN hi hx r (fun s' I' _ => h s' I') hf
theorem Inv.call' {s' : Shared} {ch : List Addr} (I : Inv X pins σ H s) (ho : s'.os = s.os) (u : Un (frs X.stack) ch H H' s.heap s'.heap) (hok : HOk X.prog X.w H' s'.heap) (hg : AllBare s'.gens)
    (hch : ∀ b ∈ ch, (b ∈ X.ex ∨ X.s₀.heap.objs.size ≤ b) ∧ b ≠ X.env.locals ∧ (∀ x c, X.env.cells.lookup x = some c → c ≠ b) ∧ ∀ p ∈ X.pn ++ pins, p.1 ≠ b) : Inv X pins σ H' s' := by
  obtain ⟨h', g', d', t', o'⟩ := s'
  have e : o' = s.os := ho
  subst e
  exact I.call (g' := g') (t' := t') (d' := d') u hok hg hch
end
noncomputable abbrev XK := Value → Option Addr → Hp → Prop
noncomputable abbrev St := List (Option V)
noncomputable abbrev VK := V → Hp → Prop
noncomputable abbrev TE := St → Hp → VK → Prop
noncomputable abbrev TT := St → Hp → (Bool → Hp → Prop) → Prop
noncomputable abbrev TA := St → Hp → (List V → Hp → Prop) → Prop
structure Ends where
  nx : St → Hp → Prop
  rt : VK
  bk : St → Hp → Prop := fun _ _ => False
  ct : St → Hp → Prop := fun _ _ => False
noncomputable abbrev TS := Ends → St → Hp → Prop
noncomputable def EP (X : Cx) (pins : List (Addr × Obj)) (σ : St) (Q : VK) (u : Value) (s' : Shared) : Prop := ∃ v H', Inv X pins σ H' s' ∧ RelV v u ∧ Q v H'
noncomputable def TP (X : Cx) (pins : List (Addr × Obj)) (σ : St) (Q : Bool → Hp → Prop) (b : Bool) (s' : Shared) : Prop := ∃ H', Inv X pins σ H' s' ∧ Q b H'
noncomputable def AP (X : Cx) (pins : List (Addr × Obj)) (σ : St) (Q : List V → Hp → Prop) (us : List Value) (s' : Shared) : Prop := ∃ vs H', Inv X pins σ H' s' ∧ Vals vs us ∧ Q vs H'
noncomputable def SP (X : Cx) (pins : List (Addr × Obj)) (D : Ends) (f : Flow) (s' : Shared) : Prop :=
  match f with
  | .next => ∃ σ' H', Inv X pins σ' H' s' ∧ D.nx σ' H'
  | .brk => ∃ σ' H', Inv X pins σ' H' s' ∧ D.bk σ' H'
  | .cont => ∃ σ' H', Inv X pins σ' H' s' ∧ D.ct σ' H'
  | .ret u => ∃ v σ' H', Inv X pins σ' H' s' ∧ RelV v u ∧ D.rt v H'
noncomputable def PE (X : Cx) (e : Expr) (t : TE) : Prop :=
  ∀ (pins : List (Addr × Obj)) (s : Shared) (σ : St) (H : Hp) (Q : VK), Inv X pins σ H s → t σ H Q → wpAny (model X.prog X.w) X.A (eval e X.env) (EP X pins σ Q) X.xe s
noncomputable def PT (X : Cx) (e : Expr) (t : TT) : Prop :=
  ∀ (pins : List (Addr × Obj)) (s : Shared) (σ : St) (H : Hp) (Q : Bool → Hp → Prop), Inv X pins σ H s → t σ H Q → wpAny (model X.prog X.w) X.A (isTrue e X.env (eval e X.env)) (TP X pins σ Q) X.xe s
noncomputable def PW (X : Cx) (e : Expr) (t : TT) : Prop :=
  ∀ (whole : Sem Value) (pins : List (Addr × Obj)) (s : Shared) (σ : St) (H : Hp) (Q : Bool → Hp → Prop), Inv X pins σ H s → t σ H Q → wpAny (model X.prog X.w) X.A (isTrue e X.env whole) (TP X pins σ Q) X.xe s
theorem PW.pt {X : Cx} {e : Expr} {t : TT} (h : PW X e t) : PT X e t := h _
noncomputable def PA (X : Cx) (es : List Expr) (t : TA) : Prop :=
  ∀ (pos : Pos) (pins : List (Addr × Obj)) (s : Shared) (σ : St) (H : Hp) (Q : List V → Hp → Prop), Inv X pins σ H s → t σ H Q → wpAny (model X.prog X.w) X.A (spliced (backTo pos (starEach es X.env))) (AP X pins σ Q) X.xe s
noncomputable def PS (X : Cx) (st : Stmt) (t : TS) : Prop :=
  ∀ (pins : List (Addr × Obj)) (s : Shared) (σ : St) (H : Hp) (D : Ends), Inv X pins σ H s → t D σ H → wpAny (model X.prog X.w) X.A (exec st X.env) (SP X pins D) X.xe s
noncomputable def PSs (X : Cx) (st : List Stmt) (t : TS) : Prop :=
  ∀ (pins : List (Addr × Obj)) (s : Shared) (σ : St) (H : Hp) (D : Ends), Inv X pins σ H s → t D σ H → wpAny (model X.prog X.w) X.A (execs st X.env) (SP X pins D) X.xe s
theorem thn {α : Type} {t : Sem α} {Q Q' : α → Shared → Prop} {M : Model} {A : Around} {E : Value → Shared → Prop} {s : Shared} (h : wpAny M A t Q E s) (hQ : ∀ a s, Q a s → Q' a s) : wpAny M A t Q' E s := wpAny_mono h hQ fun _ _ x => x
end L2
namespace L2
open PySem PySem.Spec PyProof.Rows
section
variable {X : Cx}
noncomputable def tVar (i : Nat) : TE := fun σ H Q => ∃ v, σ[i]? = some (some v) ∧ Q v H
noncomputable def tC (v : V) : TE := fun _ H Q => Q v H
theorem pe_var {i : Nat} {x : Str} {pos : Pos} (hN : X.N[i]? = some x) (hv : Vis X.env.scope x) (hd : (x == ("__debug__" : Str)) = false := by decide) (hcd : (x == ("__classdict__" : Str)) = false := by decide) : PE X (.Name x pos) (tVar i) := by
  intro pins s σ H Q I h
  obtain ⟨v, e, h⟩ := h
  obtain ⟨m, hn, hl⟩ := I.loc
  obtain ⟨u, r, l⟩ := hl i x v hN e hv
  have fin : EP X pins σ Q u s := ⟨v, H, I, r, h⟩
  rcases l with ⟨hk, hm⟩ | ⟨hk, c, hc, hcell⟩
  · exact wpAny_Name (wpAny_loadName_local I.ok.kind hk hn hm fin) hd
  · rcases hk with hk | hk
    · exact wpAny_Name (wpAny_loadName_cell I.ok.kind hk hc hcell fin) hd
    · exact wpAny_Name (wpAny_loadName_free I.ok.kind hk hc hcell fin hcd) hd
theorem pe_int {i j pos} : PE X (.Constant (.int i) j pos) (tC (.int i)) := fun _ _ _ H _ I h => wpAny_Constant_int ⟨.int i, H, I.tok _, ⟨_, rfl⟩, h⟩
theorem pe_bl {b j pos} : PE X (.Constant (.bool b) j pos) (tC (.bl b)) := fun _ _ _ H _ I h => Constant_bool ⟨.bl b, H, I, rfl, h⟩
theorem pe_non {j pos} : PE X (.Constant .none j pos) (tC .non) := fun _ _ _ H _ I h => Constant_none ⟨.non, H, I, rfl, h⟩
noncomputable def Gl (X : Cx) (x : Str) : Prop := X.env.kindOf x = some .globalImplicit
theorem ld_glob {E : Value → Shared → Prop} {pins : List (Addr × Obj)} {s : Shared} {σ : St} {H : Hp} {x : Str} {u : Value} {pos : Pos} {Q : Value → Shared → Prop} (I : Inv X pins σ H s) (hg : Gl X x) (hm : X.mg x = some u) (h : Q u s)
    (hd : (x == ("__debug__" : Str)) = false := by decide) : wpAny (model X.prog X.w) X.A (eval (.Name x pos) X.env) Q E s :=
  Calls.Name_function_global I.ok.kind hg (Calls.loadGlobal_global (by rw [I.ok.glob]; exact I.mod.glob.keeps I.bk) hm h) hd
theorem ld_blt {E : Value → Shared → Prop} {pins : List (Addr × Obj)} {s : Shared} {σ : St} {H : Hp} {x : Str} {u : Value} {pos : Pos} {Q : Value → Shared → Prop} (I : Inv X pins σ H s) (hg : Gl X x) (hm : X.mg x = none) (hv : bootBuiltins x = some u) (h : Q u s)
    (hn : x ≠ "__name__" := by decide) (hd : (x == ("__debug__" : Str)) = false := by decide) : wpAny (model X.prog X.w) X.A (eval (.Name x pos) X.env) Q E s := by
  obtain ⟨mb, h1, h2⟩ := I.mod.blt
  exact Calls.Name_function_global I.ok.kind hg (Calls.loadGlobal_builtin (by rw [I.ok.glob]; exact I.mod.glob.keeps I.bk) hm (by rw [I.ok.blt]; exact h1.keeps I.bk) ((h2 x hn).trans hv) h) hd
theorem pe_glob {x : Str} {v : V} {u : Value} {pos : Pos} (hg : Gl X x) (hm : X.mg x = some u) (r : RelV v u) (hd : (x == ("__debug__" : Str)) = false := by decide) : PE X (.Name x pos) (tC v) :=
  fun _ _ _ H _ I h => ld_glob I hg hm ⟨v, H, I, r, h⟩ hd
theorem pe_bltn {x : Str} {v : V} {u : Value} {pos : Pos} (hg : Gl X x) (hm : X.mg x = none) (hv : bootBuiltins x = some u) (r : RelV v u) (hn : x ≠ "__name__" := by decide) (hd : (x == ("__debug__" : Str)) = false := by decide) : PE X (.Name x pos) (tC v) :=
  fun _ _ _ H _ I h => ld_blt I hg hm hv ⟨v, H, I, r, h⟩ hn hd
variable {a b : Expr} {ta tb : TE} {pos : Pos}
variable {tA tB' : TT} {rest : List Expr}
noncomputable def tAnd (t u : TT) : TT := fun σ H Q => t σ H fun c H1 => if c = true then u σ H1 Q else Q false H1
noncomputable def tOr (t u : TT) : TT := fun σ H Q => t σ H fun c H1 => if c = true then Q true H1 else u σ H1 Q
noncomputable def tNot (t : TT) : TT := fun σ H Q => t σ H fun c H1 => Q (!c) H1
theorem pw_and1 (ha : PT X a tA) : PW X (.BoolOp .And [a] pos) tA := by
  intro wh pins s σ H Q I h
  refine isTrue_and (thn (ha pins s σ H Q I h) fun c s1 e => ?_)
  cases c with
  | true => exact isTrue_and_nil e
  | false => exact e
theorem pw_or1 (ha : PT X a tA) : PW X (.BoolOp .Or [a] pos) tA := by
  intro wh pins s σ H Q I h
  refine isTrue_or (thn (ha pins s σ H Q I h) fun c s1 e => ?_)
  cases c with
  | false => exact isTrue_or_nil e
  | true => exact e
theorem pw_and (ha : PT X a tA) (hb : PW X (.BoolOp .And (b :: rest) pos) tB') : PW X (.BoolOp .And (a :: b :: rest) pos) (tAnd tA tB') := by
  intro wh pins s σ H Q I h
  refine isTrue_and (thn (ha pins s σ H _ I h) fun c s1 ⟨H1, I1, q1⟩ => ?_)
  cases c with
  | true => exact hb wh pins s1 σ H1 Q I1 q1
  | false => exact ⟨H1, I1, q1⟩
theorem pw_or (ha : PT X a tA) (hb : PW X (.BoolOp .Or (b :: rest) pos) tB') : PW X (.BoolOp .Or (a :: b :: rest) pos) (tOr tA tB') := by
  intro wh pins s σ H Q I h
  refine isTrue_or (thn (ha pins s σ H _ I h) fun c s1 ⟨H1, I1, q1⟩ => ?_)
  cases c with
  | true => exact ⟨H1, I1, q1⟩
  | false => exact hb wh pins s1 σ H1 Q I1 q1
theorem pt_not (ha : PT X a tA) : PT X (.UnaryOp .Not a pos) (tNot tA) := by
  intro pins s σ H Q I h
  exact isTrue_not (ha pins s σ H (fun c H1 => Q (!c) H1) I h)
noncomputable def tAndV (ta tb : TE) : TE := fun σ H Q => ta σ H fun x H1 => ∃ c, x = .bl c ∧ if c = true then tb σ H1 Q else Q (.bl false) H1
noncomputable def tOrV (ta tb : TE) : TE := fun σ H Q => ta σ H fun x H1 => ∃ c, x = .bl c ∧ if c = true then Q (.bl true) H1 else tb σ H1 Q
noncomputable def tNotV (ta : TE) : TE := fun σ H Q => ta σ H fun x H1 => ∃ c, x = .bl c ∧ Q (.bl (!c)) H1
theorem pe_one {op} {t : TE} (h : PE X a t) : PE X (.BoolOp op [a] pos) t := fun pins s σ H Q I hw => BoolOp_one (h pins s σ H Q I hw)
theorem pe_and (ha : PE X a ta) (hb : PE X (.BoolOp .And (b :: rest) pos) tb) : PE X (.BoolOp .And (a :: b :: rest) pos) (tAndV ta tb) := by
  intro pins s σ H Q I h
  refine BoolOp_and (thn (ha pins s σ H _ I h) fun v s1 ⟨x, H1, I1, r1, q1⟩ => ?_)
  obtain ⟨c, rfl, q1⟩ := q1
  cases r1
  refine wpAny_truthy_bool ?_
  cases c with
  | true => exact hb pins s1 σ H1 Q I1 q1
  | false => exact ⟨.bl false, H1, I1, rfl, q1⟩
theorem pe_or (ha : PE X a ta) (hb : PE X (.BoolOp .Or (b :: rest) pos) tb) : PE X (.BoolOp .Or (a :: b :: rest) pos) (tOrV ta tb) := by
  intro pins s σ H Q I h
  refine BoolOp_or (thn (ha pins s σ H _ I h) fun v s1 ⟨x, H1, I1, r1, q1⟩ => ?_)
  obtain ⟨c, rfl, q1⟩ := q1
  cases r1
  refine wpAny_truthy_bool ?_
  cases c with
  | false => exact hb pins s1 σ H1 Q I1 q1
  | true => exact ⟨.bl true, H1, I1, rfl, q1⟩
theorem pe_not (ha : PE X a ta) : PE X (.UnaryOp .Not a pos) (tNotV ta) := by
  intro pins s σ H Q I h
  refine UnaryOp_ (thn (ha pins s σ H _ I h) fun v s1 ⟨x, H1, I1, r1, q1⟩ => ?_)
  obtain ⟨c, rfl, q1⟩ := q1
  cases r1
  exact not_of (wpAny_truthy_bool ⟨.bl (!c), H1, I1, rfl, q1⟩)
noncomputable def tIf (t : TT) (ta tb : TE) : TE := fun σ H Q => t σ H fun c H1 => if c = true then ta σ H1 Q else tb σ H1 Q
theorem pe_ifExp {c : Expr} (hc : PT X c tA) (ha : PE X a ta) (hb : PE X b tb) : PE X (.IfExp c a b pos) (tIf tA ta tb) := by
  intro pins s σ H Q I h
  refine wpAny_IfExp (thn (hc pins s σ H _ I h) fun d s1 ⟨H1, I1, q1⟩ => ?_)
  cases d with
  | true => exact ha pins s1 σ H1 Q I1 q1
  | false => exact hb pins s1 σ H1 Q I1 q1
end
end L2
namespace L2
open PySem PySem.Spec PyProof.Rows
noncomputable def SqL (K : PySem.W.Frag) (H : Hp) (a : Addr) (xs : List V) : Prop :=
  Rd H a (.lst xs) ∨
    ∃ (o : Obj) (its : Array Value) (n : Nat), K.lookup a = some o ∧ o.cls = .type "list" ∧ o.dict = none ∧ o.data = .seq its n ∧ its.size ≤ sizeLine ∧ Vals xs its.toList
noncomputable def SqT (K : PySem.W.Frag) (H : Hp) (a : Addr) (xs : List V) : Prop :=
  Rd H a (.tup xs) ∨
    ∃ (o : Obj) (its : Array Value) (n : Nat), K.lookup a = some o ∧ o.cls = .type "tuple" ∧ o.data = .seq its n ∧ its.size ≤ sizeLine ∧ Vals xs its.toList
noncomputable def absV : Value → Option V
  | .none => some .non
  | .bool b => some (.bl b)
  | .int i _ => some (.int i)
  | .str x _ => some (.str x)
  | .bytes b _ => some (.byt b)
  | .float b _ => some (.flt b)
  | .ref a => some (.ref a)
  | .type n => some (.ty n)
  | _ => none
theorem RelV.abs {x : V} {u : Value} (r : RelV x u) : absV u = some x := by
  cases x with
  | non => cases r; rfl
  | bl _ => cases r; rfl
  | int _ => obtain ⟨t, rfl⟩ := r; rfl
  | str _ => obtain ⟨t, rfl⟩ := r; rfl
  | byt _ => obtain ⟨t, rfl⟩ := r; rfl
  | flt _ => obtain ⟨t, rfl⟩ := r; rfl
  | ref _ => cases r; rfl
  | ty _ => cases r; rfl
theorem RelV.inj {x y : V} {u : Value} (r : RelV x u) (q : RelV y u) : x = y := Option.some.inj (r.abs.symm.trans q.abs)
theorem Vals.inj : ∀ {xs ys : List V} {us : List Value}, Vals xs us → Vals ys us → xs = ys
  | _, _, _, .nil, .nil => rfl
  | _, _, _, .cons r t, .cons r' t' => by rw [r.inj r', Vals.inj t t']
section
variable {X : Cx} {pins : List (Addr × Obj)} {σ : St} {H : Hp} {s : Shared} {a : Addr} {xs ys : List V}
theorem SqL.of {K : PySem.W.Frag} (h : H a = some (.lst xs)) : SqL K H a xs := .inl (.inl h)
theorem SqT.of {K : PySem.W.Frag} (h : H a = some (.tup xs)) : SqT K H a xs := .inl (.inl h)
theorem Inv.list (I : Inv X pins σ H s) (h : SqL X.K H a xs) : ∃ its : List Value, Vals xs its ∧ PlainL s.heap a its.toArray ∧ xs.length ≤ sizeLine := by
  rcases h with h | ⟨o, its, n, hk, hc, hd, hs, hz, r⟩
  · obtain ⟨z, its, n, r, e⟩ := h.ok I.hok
    exact ⟨its, r, ⟨_, n, e, rfl, rfl, rfl⟩, z⟩
  · refine ⟨its.toList, r, ⟨o, n, I.kIn a o hk, hc, hd, by simpa using hs⟩, ?_⟩
    have e := r.length
    simp only [Array.length_toList] at e
    omega
theorem Inv.tuple (I : Inv X pins σ H s) (h : SqT X.K H a xs) : ∃ its : List Value, Vals xs its ∧ IsTup s.heap a its.toArray ∧ xs.length ≤ sizeLine := by
  rcases h with h | ⟨o, its, n, hk, hc, hs, hz, r⟩
  · obtain ⟨z, its, r, p⟩ := h.ok I.hok
    exact ⟨its, r, p, z⟩
  · refine ⟨its.toList, r, ⟨o, I.kIn a o hk, hc, n, by simpa using hs⟩, ?_⟩
    have e := r.length
    simp only [Array.length_toList] at e
    omega
theorem Inv.list_inj (I : Inv X pins σ H s) (h : SqL X.K H a xs) (h' : SqL X.K H a ys) : xs = ys := by
  obtain ⟨its, r, ⟨o, n, e, _, _, d⟩, _⟩ := I.list h
  obtain ⟨its', r', ⟨o', n', e', _, _, d'⟩, _⟩ := I.list h'
  rw [e] at e'; cases e'
  rw [d] at d'
  injection d' with d1 _
  have : its = its' := by simpa using congrArg Array.toList d1
  subst this
  exact r.inj r'
theorem Inv.tuple_inj (I : Inv X pins σ H s) (h : SqT X.K H a xs) (h' : SqT X.K H a ys) : xs = ys := by
  obtain ⟨its, r, ⟨o, e, _, n, d⟩, _⟩ := I.tuple h
  obtain ⟨its', r', ⟨o', e', _, n', d'⟩, _⟩ := I.tuple h'
  rw [e] at e'; cases e'
  rw [d] at d'
  injection d' with d1 _
  have : its = its' := by simpa using congrArg Array.toList d1
  subst this
  exact r.inj r'
end
noncomputable abbrev Cx.wish (X : Cx) (E : Value → Shared → Prop) : Cx := { X with xe := E }
noncomputable abbrev Cx.nox (X : Cx) : Cx := X.wish fun _ _ => False
theorem Cx.Ok.wish {X : Cx} (ok : X.Ok) (E : Value → Shared → Prop) : (X.wish E).Ok :=
  ⟨ok.mod, ok.kind, ok.glob, ok.blt, ok.above, ok.inj, ok.has, ok.cab, ok.hd, ok.frames, ok.stk, ok.exf, ok.bs, ok.bsz, ok.noex, ok.exfs, ok.funs, ok.frf⟩
theorem Cx.Ok.unwish {X : Cx} {E : Value → Shared → Prop} (ok : (X.wish E).Ok) : X.Ok :=
  ⟨ok.mod, ok.kind, ok.glob, ok.blt, ok.above, ok.inj, ok.has, ok.cab, ok.hd, ok.frames, ok.stk, ok.exf, ok.bs, ok.bsz, ok.noex, ok.exfs, ok.funs, ok.frf⟩
section
variable {X : Cx} {pins : List (Addr × Obj)} {σ : St} {H : Hp} {s : Shared} {E : Value → Shared → Prop}
theorem Inv.wish (I : Inv X pins σ H s) (E : Value → Shared → Prop) : Inv (X.wish E) pins σ H s := ⟨I.ok.wish E, I.os, I.bare, I.base, I.loc, I.cell, I.free, I.freeC, I.pin, I.hok, I.len⟩
theorem Inv.unwish (I : Inv (X.wish E) pins σ H s) : Inv X pins σ H s := ⟨I.ok.unwish, I.os, I.bare, I.base, I.loc, I.cell, I.free, I.freeC, I.pin, I.hok, I.len⟩
theorem SP.unwish {D : Ends} {f : Flow} {s' : Shared} (h : SP (X.wish E) pins D f s') : SP X pins D f s' := by
  cases f with
  | next => obtain ⟨σ', H', I, q⟩ := h; exact ⟨σ', H', I.unwish, q⟩
  | brk => obtain ⟨σ', H', I, q⟩ := h; exact ⟨σ', H', I.unwish, q⟩
  | cont => obtain ⟨σ', H', I, q⟩ := h; exact ⟨σ', H', I.unwish, q⟩
  | ret u => obtain ⟨v, σ', H', I, r, q⟩ := h; exact ⟨v, σ', H', I.unwish, r, q⟩
theorem PSs.nox {st : List Stmt} {t : TS} (h : PSs X.nox st t) : PSs X st t := fun pins s σ H D I hw =>
  wpAny_mono (h pins s σ H D (I.wish _) hw) (fun _ _ q => q.unwish) fun _ _ z => False.elim z
end
section
variable {X : Cx} {st : Stmt} {rest : List Stmt} {t u : TS} {e : Expr} {te : TE} {pos : Pos}
noncomputable def tNext : TS := fun D σ H => D.nx σ H
noncomputable def tSeq (t u : TS) : TS := fun D σ H => t { D with nx := u D } σ H
theorem pss_nil : PSs X [] tNext := fun _ _ σ H _ I h => wpAny_execs_nil ⟨σ, H, I, h⟩
theorem pss_cons (h1 : PS X st t) (h2 : PSs X rest u) : PSs X (st :: rest) (tSeq t u) := by
  intro pins s σ H D I h
  refine wpAny_execs_cons (thn (h1 pins s σ H { D with nx := u D } I h) fun f s1 q => ?_)
  cases f with
  | next =>
    obtain ⟨σ', H', I', q⟩ := q
    exact h2 pins s1 σ' H' D I' q
  | ret v => exact q
  | brk => exact q
  | cont => exact q
theorem pss_one (h1 : PS X st t) : PSs X [st] t := by
  intro pins s σ H D I h
  refine wpAny_execs_cons (thn (h1 pins s σ H D I h) fun f s1 q => ?_)
  cases f with
  | next => exact wpAny_execs_nil q
  | ret v => exact q
  | brk => exact q
  | cont => exact q
theorem Inv.quiet {pins : List (Addr × Obj)} {σ : St} {H : Hp} {s : Shared} (I : Inv X pins σ H s) : interactive X.env = false := by simp [interactive, I.ok.kind]
noncomputable def tDrop (te : TE) : TS := fun D σ H => te σ H fun _ H1 => D.nx σ H1
theorem ps_expr (he : PE X e te) (hs : swapsWith e none pos.line X.env = pure false := by rfl) : PS X (.Expr e pos) (tDrop te) := by
  intro pins s σ H D I h
  exact wpAny_Expr_any (thn (he pins s σ H _ I h) fun v s1 ⟨x, H1, I1, r1, q1⟩ => ⟨σ, H1, I1, q1⟩) I.quiet hs
noncomputable def tRet (te : TE) : TS := fun D σ H => te σ H D.rt
theorem ps_ret (he : PE X e te) : PS X (.Return (some e) pos) (tRet te) := by
  intro pins s σ H D I h
  exact wpAny_Return_some (thn (he pins s σ H _ I h) fun v s1 ⟨x, H1, I1, r1, q1⟩ => ⟨x, σ, H1, I1, r1, q1⟩)
noncomputable def tIfS (c : TT) (t u : TS) : TS := fun D σ H => c σ H fun b H1 => if b = true then t D σ H1 else u D σ H1
theorem ps_if {c : Expr} {a b : List Stmt} {tc : TT} (hc : PT X c tc) (ha : PSs X a t) (hb : PSs X b u) : PS X (.If c a b pos) (tIfS tc t u) := by
  intro pins s σ H D I h
  refine wpAny_If (thn (hc pins s σ H _ I h) fun d s1 ⟨H1, I1, q1⟩ => ?_)
  cases d with
  | true => exact ha pins s1 σ H1 D I1 q1
  | false => exact hb pins s1 σ H1 D I1 q1
end
noncomputable abbrev TG := V → St → Hp → (St → Hp → Prop) → Prop
noncomputable abbrev TGs := List V → St → Hp → (St → Hp → Prop) → Prop
noncomputable def PG (X : Cx) (target : Expr) (t : TG) : Prop :=
  ∀ (pins : List (Addr × Obj)) (s : Shared) (σ : St) (H : Hp) (v : V) (u : Value) (Q : St → Hp → Prop), Inv X pins σ H s → RelV v u → t v σ H Q →
    wpAny (model X.prog X.w) X.A (assign target X.env u) (fun _ s' => ∃ σ' H', Inv X pins σ' H' s' ∧ Q σ' H') X.xe s
noncomputable def PGs (X : Cx) (ts : List Expr) (t : TGs) : Prop :=
  ∀ (pins : List (Addr × Obj)) (s : Shared) (σ : St) (H : Hp) (vs : List V) (us : List Value) (Q : St → Hp → Prop), Inv X pins σ H s → Vals vs us → t vs σ H Q →
    wpAny (model X.prog X.w) X.A (assignInOrder ((assignEach ts X.env).map (·.2)) us) (fun _ s' => ∃ σ' H', Inv X pins σ' H' s' ∧ Q σ' H') X.xe s
noncomputable abbrev TSet := V → V → V → Hp → (Hp → Prop) → Prop
noncomputable def PSet (X : Cx) (t : TSet) : Prop :=
  ∀ (pins : List (Addr × Obj)) (s : Shared) (σ : St) (H : Hp) (o i v : V) (ov iv u : Value) (Q : Hp → Prop), Inv X pins σ H s → RelV o ov → RelV i iv → RelV v u → t o i v H Q →
    wpAny (model X.prog X.w) X.A (setItem ov iv u) (fun _ s' => ∃ H', Inv X pins σ H' s' ∧ Q H') X.xe s
section
variable {X : Cx} {pos : Pos}
noncomputable def gName (i : Nat) : TG := fun v σ H Q => Q (σ.set i (some v)) H
theorem pg_name {i : Nat} {x : Str} (hN : X.N.Nodup) (hi : X.N[i]? = some x) (hx : Loc X.env.scope x) (hf : X.fn x = true ∨ X.env.scope.names.lookup x = some .local := by first | exact .inl rfl | exact .inr rfl | assumption) : PG X (.Name x pos) (gName i) := by
  intro pins s σ H v u Q I r h
  exact wpAny_assign_Name (store_ok I hN hi hx r (fun s' I' => ⟨_, H, I', h⟩) hf)
noncomputable def gNil : TGs := fun vs σ H Q => vs = [] ∧ Q σ H
noncomputable def gCons (t : TG) (u : TGs) : TGs := fun vs σ H Q => ∃ v r, vs = v :: r ∧ t v σ H fun σ' H' => u r σ' H' Q
theorem pgs_nil : PGs X [] gNil := by
  intro pins s σ H vs us Q I r h
  obtain ⟨e, h⟩ := h
  subst e
  cases r
  exact assignInOrder_nil ⟨σ, H, I, h⟩
theorem pgs_cons {e : Expr} {es : List Expr} {t : TG} {u : TGs} (h1 : PG X e t) (h2 : PGs X es u)
    (hs : (assignEach (e :: es) X.env).map (·.2) = assign e X.env :: (assignEach es X.env).map (·.2) := by rfl) : PGs X (e :: es) (gCons t u) := by
  intro pins s σ H vs us Q I r h
  obtain ⟨v, vr, e1, h⟩ := h
  subst e1
  cases r with
  | cons r rr =>
    rw [hs]
    refine assignInOrder_cons (thn (h1 pins s σ H _ _ _ I r h) fun _ s1 ⟨σ1, H1, I1, q1⟩ => ?_)
    exact h2 pins s1 σ1 H1 _ _ Q I1 rr q1
noncomputable def gTup (K : PySem.W.Frag) (n : Nat) (t : TGs) : TG := fun v σ H Q => ∃ a xs, v = .ref a ∧ SqT K H a xs ∧ xs.length = n ∧ t xs σ H Q
theorem pg_tup {es : List Expr} {k : Nat} {t : TGs} {n : Nat} (hc : X.calm = true) (h : PGs X es t)
    (hn : (assignEach es X.env).length = n := by rfl) (hst : (assignEach es X.env).findIdx? (·.1) = none := by rfl) : PG X (.Tuple es k pos) (gTup X.K n t) := by
  intro pins s σ H v u Q I r hw
  obtain ⟨a, xs, e1, hq, hl, hw⟩ := hw
  subst e1
  cases r
  obtain ⟨its, rv, ht, hz⟩ := I.tuple hq
  refine assign_Tuple_tuple (I.ok.hd hc) ht (by simp [hn, ← hl, rv.length]) hst fun h' hx => ?_
  have I1 : Inv X pins σ H { s with heap := h' } := I.kept (t' := s.toks) fun b o e => hx b o (Nat.ne_of_lt (Heap.lt_size e)) e
  exact h pins _ σ H xs _ Q I1 (by simpa using rv) hw
noncomputable def gSub (to ti : TE) (t : TSet) : TG := fun v σ H Q => to σ H fun o H1 => ti σ H1 fun i H2 => t o i v H2 fun H3 => Q σ H3
theorem pg_sub {o i : Expr} {to ti : TE} {t : TSet} (ho : PE X o to) (hi : PE X i ti) (hs : PSet X t)
    (ha : ∀ v, assign (.Subscript o i pos) X.env v = (do
      let ov ← holding [v] (eval o X.env)
      let iv ← holding [v, ov] (eval i X.env)
      standAt pos
      holding [v, ov, iv] (setItem ov iv v)
      release [v, ov, iv] []) := by intro _; rfl) : PG X (.Subscript o i pos) (gSub to ti t) := by
  intro pins s σ H v u Q I r h
  rw [ha]
  refine wpAny_bind (wpAny_holding (thn (ho pins s σ H _ I h) fun ov s1 ⟨x, H1, I1, r1, q1⟩ => ?_))
  refine wpAny_bind (wpAny_holding (thn (hi pins s1 σ H1 _ I1 q1) fun iv s2 ⟨y, H2, I2, r2, q2⟩ => ?_))
  refine wpAny_bind (wpAny_standAt (wpAny_bind (wpAny_holding (thn (hs pins s2 σ H2 x y v ov iv u _ I2 r1 r2 r q2) fun _ s3 ⟨H3, I3, q3⟩ => ?_))))
  exact wpAny_release ⟨σ, H3, I3, q3⟩
noncomputable def tAsg (te : TE) (g : TG) : TS := fun D σ H => te σ H fun x H1 => g x σ H1 D.nx
theorem ps_asg {tg e : Expr} {te : TE} {g : TG} (he : PE X e te) (hg : PG X tg g) (hs : swapsWithSole [tg] e pos.line X.env = pure false := by rfl) (hw : swappedStores [tg] e X.env = pure none := by rfl)
    (h1 : (assignEach [tg] X.env).map (·.2) = [assign tg X.env] := by rfl) : PS X (.Assign [tg] e pos) (tAsg te g) := by
  intro pins s σ H D I h
  refine wpAny_Assign_stores (thn (he pins s σ H _ I h) fun v s1 ⟨x, H1, I1, r1, q1⟩ => ?_) hs hw
  rw [h1]
  exact thn (hg pins s1 σ H1 x v _ I1 r1 q1) fun _ s2 q => q
theorem ps_set {i : Nat} {x : Str} {e : Expr} {te : TE} {pos' : Pos} (hN : X.N.Nodup) (hi : X.N[i]? = some x) (hx : Loc X.env.scope x) (he : PE X e te) (hs : swapsWith e (some (.Name x pos')) pos.line X.env = pure false := by rfl) (hf : X.fn x = true ∨ X.env.scope.names.lookup x = some .local := by first | exact .inl rfl | exact .inr rfl | assumption) :
    PS X (.Assign [.Name x pos'] e pos) (tAsg te (gName i)) := by
  intro pins s σ H D I h
  refine wpAny_Assign_Name (thn (he pins s σ H _ I h) fun v s1 ⟨y, H1, I1, r1, q1⟩ => ?_) hs
  exact store_ok I1 hN hi hx r1 (fun s2 I2 => ⟨_, H1, I2, q1⟩) hf
end
structure It where
  go : Nat → Hp → Prop
  yld : Nat → Hp → V → Hp → Prop
  stop : Nat → Hp → Prop
noncomputable def FpOk (X : Cx) (pins : List (Addr × Obj)) (H : Hp) (b : Addr) : Prop :=
  H b = none ∧ b ≠ X.env.locals ∧ b ∉ X.fs ∧ (b ∈ X.ex ∨ X.s₀.heap.objs.size ≤ b) ∧ (∀ x c, X.env.cells.lookup x = some c → c ≠ b) ∧ ∀ p ∈ X.pn ++ pins, p.1 ≠ b
theorem Inv.fpOk {X : Cx} {pins : List (Addr × Obj)} {σ : St} {H H' : Hp} {s : Shared} {b : Addr} (I : Inv X pins σ H s) (hb : s.heap.objs.size ≤ b) (hn : H' b = none) : FpOk X pins H' b := by
  refine ⟨hn, Nat.ne_of_gt (Nat.lt_of_lt_of_le I.lt hb), I.nofs hb, .inr (Nat.le_trans I.sz hb), fun x c e z => ?_, fun p hp z => ?_⟩
  · obtain ⟨v, q⟩ := I.cell x c e
    exact absurd (Nat.lt_of_lt_of_le q.lt (by rw [z]; exact hb)) (Nat.lt_irrefl _)
  · exact absurd (Nat.lt_of_lt_of_le (Heap.lt_size (I.pin p hp).1) (by rw [z]; exact hb)) (Nat.lt_irrefl _)
structure Turn (P : Program) (w : World) (K : PySem.W.Frag) (tg : Expr) (J : It) (fp : List Addr) (it : Addr) (tn : Nat → Heap → Prop) : Prop where
  mem : it ∈ fp
  obj : ∀ i h, tn i h → ∀ b ∈ fp, ∃ o, h.get? b = some o ∧ ∀ v, o.data ≠ .cell v
  keep : ∀ i h h', tn i h → (∀ b ∈ fp, ∀ o, h.get? b = some o → h'.get? b = some o) → tn i h'
  item : ∀ (X : Cx), X.prog = P → X.w = w → X.K = K → X.calm = true → ∀ (i : Nat) (pins : List (Addr × Obj)) (s : Shared) (σ : St) (H : Hp) (E : Value → Shared → Prop), Inv X pins σ H s → (∀ b ∈ fp, FpOk X pins H b) → tn i s.heap → J.go i H →
    wpAny (model P w) X.A (pyNext (.ref it)) (fun r s1 => ∃ u, r = some u ∧
      wpAny (model P w) X.A (letOwnedTupleGo tg (.ref it) u) (fun _ s2 => ∃ x H', Inv X pins σ H' s2 ∧ RelV x u ∧ J.yld i H x H' ∧ tn (i + 1) s2.heap ∧ ∀ b ∈ fp, H' b = none) E s1) E s
  done : ∀ (X : Cx), X.prog = P → X.w = w → X.K = K → X.calm = true → ∀ (i : Nat) (pins : List (Addr × Obj)) (s : Shared) (σ : St) (H : Hp) (E : Value → Shared → Prop), Inv X pins σ H s → (∀ b ∈ fp, FpOk X pins H b) → tn i s.heap → J.stop i H →
    wpAny (model P w) X.A (pyNext (.ref it)) (fun r s1 => r = none ∧ Inv X pins σ H s1) E s
  self : ∀ (A : Around) (i : Nat) (s : Shared) (Q : Value → Shared → Prop) (E : Value → Shared → Prop), tn i s.heap → Q (.ref it) s → wpAny (model P w) A (pyIter (.ref it)) Q E s
noncomputable abbrev TI := St → Hp → (It → Hp → Prop) → Prop
noncomputable def PIE (X : Cx) (pins : List (Addr × Obj)) (σ : St) (tg : Expr) (R : It → Hp → Prop) (itv : Value) (s2 : Shared) : Prop :=
  ∃ (it : Addr) (fp : List Addr) (tn : Nat → Heap → Prop) (J : It) (H' : Hp), itv = .ref it ∧ Inv X pins σ H' s2 ∧ Turn X.prog X.w X.K tg J fp it tn ∧ tn 0 s2.heap ∧ (∀ b ∈ fp, FpOk X pins H' b) ∧ R J H'
noncomputable def PI (X : Cx) (tg iter : Expr) (wi : TI) : Prop :=
  ∀ (pins : List (Addr × Obj)) (s : Shared) (σ : St) (H : Hp) (R : It → Hp → Prop), Inv X pins σ H s → wi σ H R →
    wpAny (model X.prog X.w) X.A (eval iter X.env) (fun v s1 => wpAny (model X.prog X.w) X.A (pyIter v) (PIE X pins σ tg R) X.xe s1) X.xe s
theorem go_of {M : Model} {A : Around} {E : Value → Shared → Prop} {s : Shared} {tg : Expr} {it : Addr} {u : Value} {o : Obj} {n : String} {vs : Array Value} {Q : Unit → Shared → Prop} (ho : s.heap.get? it = some o) (hc : o.cls = .type n) (hd : o.data = .fields vs)
    (hn : ["enumerate", "zip", "dict_itemiterator", "dict_reverseitemiterator", "odict_iterator", "itertools.zip_longest", "itertools.pairwise"].contains n = false) (hQ : Q () s) : wpAny M A (letOwnedTupleGo tg (.ref it) u) Q E s := by
  unfold letOwnedTupleGo
  cases tg <;> first
    | exact wpAny_pure hQ
    | (cases u <;> first
        | exact wpAny_pure hQ
        | (refine wpAny_bind (wpAny_load ho ?_)
           rw [hc, hd]
           show wpAny M A (if (["enumerate", "zip", "dict_itemiterator", "dict_reverseitemiterator", "odict_iterator", "itertools.zip_longest", "itertools.pairwise"].contains n && vs[0]? == some (rawInt _)) = true then _ else _) Q E s
           rw [if_neg (by intro h; rw [hn, Bool.false_and] at h; cases h)]
           exact wpAny_pure hQ))
noncomputable def Itl (K : PySem.W.Frag) (a : Addr) : It :=
  ⟨fun i H => ∃ xs x, SqL K H a xs ∧ xs[i]? = some x, fun i H x H' => H' = H ∧ ∀ xs, SqL K H a xs → xs[i]? = some x, fun i H => ∃ xs, SqL K H a xs ∧ xs.length ≤ i⟩
noncomputable def Itt (K : PySem.W.Frag) (a : Addr) : It :=
  ⟨fun i H => ∃ xs x, SqT K H a xs ∧ xs[i]? = some x, fun i H x H' => H' = H ∧ ∀ xs, SqT K H a xs → xs[i]? = some x, fun i H => ∃ xs, SqT K H a xs ∧ xs.length ≤ i⟩
noncomputable def Itr (lo : Int) (n : Nat) : It := ⟨fun i _ => i < n, fun i H x H' => H' = H ∧ x = .int (lo + i), fun i _ => n ≤ i⟩
theorem turn_list {P : Program} {w : World} {K : PySem.W.Frag} {tg : Expr} (a it : Addr) : Turn P w K tg (Itl K a) [it] it (fun i h => h.IsListIter it a i) where
  mem := by simp
  obj := fun i h st b hb => by
    have e : b = it := by simpa using hb
    subst e
    obtain ⟨o, e, c, d⟩ := st
    exact ⟨o, e, fun v z => by rw [d] at z; cases z⟩
  keep := fun i h h' st k => st.at fun o e => k it (by simp) o e
  item := by
    intro X hP hw hK hc i pins s σ H E I hf st hg
    subst hP hw hK
    obtain ⟨xs, x, hq, hx⟩ := hg
    obtain ⟨its, rv, p, hz⟩ := I.list hq
    obtain ⟨u, hu, ru⟩ := rv.get hx
    obtain ⟨f0, f1, f2, f3, f4, f5⟩ := hf it (by simp)
    refine wpAny_pyNext_list_item st p.isList (x := u) (by simpa using hu) fun h' st' sb => ?_
    have I1 : Inv X pins σ H { s with heap := h' } := I.turned (t' := s.toks) (fun b o hb e => (sb.2 b hb).trans e) f0 f1 f3 f4 f5
    obtain ⟨o, e, c, d⟩ := id st'
    exact ⟨u, rfl, go_of (s := { s with heap := h' }) e c d (by decide) ⟨x, H, I1, ru, ⟨rfl, fun ys hy => by rw [I.list_inj hy hq]; exact hx⟩, st', fun b hb => (hf b hb).1⟩⟩
  done := by
    intro X hP hw hK hc i pins s σ H E I hf st hg
    subst hP hw hK
    obtain ⟨xs, hq, hx⟩ := hg
    obtain ⟨its, rv, p, hz⟩ := I.list hq
    obtain ⟨f0, f1, f2, f3, f4, f5⟩ := hf it (by simp)
    have hl := rv.length
    exact wpAny_pyNext_list_end (I.ok.hd hc) st p.isList (by simp; omega) fun h' eb => ⟨rfl, I.turned (t' := s.toks) (fun b o hb e => eb b o hb e) f0 f1 f3 f4 f5⟩
  self := fun _ _ _ _ _ st h => wpAny_pyIter_listiter st h
theorem turn_tuple {P : Program} {w : World} {K : PySem.W.Frag} {tg : Expr} (a it : Addr) : Turn P w K tg (Itt K a) [it] it (fun i h => h.IsTupleIter it a i) where
  mem := by simp
  obj := fun i h st b hb => by
    have e : b = it := by simpa using hb
    subst e
    obtain ⟨o, e, c, d⟩ := st
    exact ⟨o, e, fun v z => by rw [d] at z; cases z⟩
  keep := fun i h h' st k => st.at fun o e => k it (by simp) o e
  item := by
    intro X hP hw hK hc i pins s σ H E I hf st hg
    subst hP hw hK
    obtain ⟨xs, x, hq, hx⟩ := hg
    obtain ⟨its, rv, p, hz⟩ := I.tuple hq
    obtain ⟨u, hu, ru⟩ := rv.get hx
    obtain ⟨f0, f1, f2, f3, f4, f5⟩ := hf it (by simp)
    refine wpAny_pyNext_tuple_item st (show s.heap.IsTuple a its.toArray from p) (x := u) (by simpa using hu) fun h' st' sb => ?_
    have I1 : Inv X pins σ H { s with heap := h' } := I.turned (t' := s.toks) (fun b o hb e => (sb.2 b hb).trans e) f0 f1 f3 f4 f5
    obtain ⟨o, e, c, d⟩ := id st'
    exact ⟨u, rfl, go_of (s := { s with heap := h' }) e c d (by decide) ⟨x, H, I1, ru, ⟨rfl, fun ys hy => by rw [I.tuple_inj hy hq]; exact hx⟩, st', fun b hb => (hf b hb).1⟩⟩
  done := by
    intro X hP hw hK hc i pins s σ H E I hf st hg
    subst hP hw hK
    obtain ⟨xs, hq, hx⟩ := hg
    obtain ⟨its, rv, p, hz⟩ := I.tuple hq
    obtain ⟨f0, f1, f2, f3, f4, f5⟩ := hf it (by simp)
    have hl := rv.length
    exact wpAny_pyNext_tuple_end (I.ok.hd hc) st (show s.heap.IsTuple a its.toArray from p) (by simp; omega) fun h' eb => ⟨rfl, I.turned (t' := s.toks) (fun b o hb e => eb b o hb e) f0 f1 f3 f4 f5⟩
  self := fun _ _ _ _ _ st h => wpAny_pyIter_tupleiter st h
theorem turn_range {P : Program} {w : World} {K : PySem.W.Frag} {tg : Expr} (it : Addr) (lo : Int) (n : Nat) : Turn P w K tg (Itr lo n) [it] it (fun i h => IsRangeIter h it (lo + (i : Nat) * 1) ((n : Int) - (i : Nat)) 1) where
  mem := by simp
  obj := fun i h st b hb => by
    have e : b = it := by simpa using hb
    subst e
    exact ⟨_, st, fun v z => by
      have z' : Data.fields _ = Data.cell v := z
      cases z'⟩
  keep := fun i h h' st k => k it (by simp) _ st
  item := by
    intro X hP hw hK hc i pins s σ H E I hf st hg
    subst hP hw hK
    obtain ⟨f0, f1, f2, f3, f4, f5⟩ := hf it (by simp)
    have W := Walks.range (prog := X.prog) (w := X.w) (I.ok.hd hc) it lo 1 n
    refine W.item i s _ _ hg st fun v h' tk hv st' kk => ?_
    obtain ⟨t, rfl⟩ := hv
    have I1 : Inv X pins σ H { s with heap := h', toks := tk } := I.turned (fun b o hb e => kk b o (by simpa using hb) e) f0 f1 f3 f4 f5
    refine ⟨_, rfl, go_of (s := { s with heap := h', toks := tk }) (n := "range_iterator") st' rfl rfl (by decide) ⟨.int (lo + i), H, I1, ⟨t, ?_⟩, ⟨rfl, rfl⟩, st', fun b hb => (hf b hb).1⟩⟩
    rw [Int.mul_one]
  done := by
    intro X hP hw hK hc i pins s σ H E I hf st hg
    subst hP hw hK
    obtain ⟨f0, f1, f2, f3, f4, f5⟩ := hf it (by simp)
    exact wpAny_pyNext_range_end (I.ok.hd hc) st (by have : n ≤ i := hg; omega) fun h' eb => ⟨rfl, I.turned (t' := s.toks) (fun b o hb e => eb b o hb e) f0 f1 f3 f4 f5⟩
  self := fun _ _ _ _ _ st h => wpAny_pyIter_rangeiter st h
end L2
namespace L2
open PySem PySem.Spec PyProof.Rows
section
variable {X : Cx} {tg : Expr}
theorem range_it {pins : List (Addr × Obj)} {σ : St} {H : Hp} {s : Shared} {R : It → Hp → Prop} {E : Value → Shared → Prop} {lo hi : Int} {t u v : Tok} {tk : Nat} (I : Inv X pins σ H s) (h1 : -(2 ^ 62) ≤ lo) (h2 : lo < 2 ^ 62) (h3 : -(2 ^ 62) ≤ hi) (h4 : hi < 2 ^ 62)
    (q : R (Itr lo (hi - lo).toNat) H) : wpAny (model X.prog X.w) X.A (pyIter (.ref s.heap.objs.size)) (PIE X pins σ tg R) E { s with heap := s.heap.push { cls := .type "range", data := .fields #[.int lo t, .int hi u, .int 1 v] }, toks := tk } := by
  refine wpAny_pyIter_range (IsRange.new ..) (small_one h1 h2 h3 h4) ?_
  have I1 : Inv X pins σ H { s with heap := s.heap.push { cls := .type "range", data := .fields #[.int lo t, .int hi u, .int 1 v] }, toks := tk } := I.kept fun b o e => Heap.get?_push_of_some _ e
  refine ⟨(s.heap.push { cls := .type "range", data := .fields #[.int lo t, .int hi u, .int 1 v] }).objs.size, [(s.heap.push { cls := .type "range", data := .fields #[.int lo t, .int hi u, .int 1 v] }).objs.size], _, _, H, rfl,
    I1.kept (t' := tk) fun b o e => Heap.get?_push_of_some _ e, turn_range _ lo (hi - lo).toNat, ?_, fun b hb => ?_, q⟩
  · have e1 : lo + ((0 : Nat) : Int) * 1 = lo := by simp
    have e2 : (((hi - lo).toNat : Nat) : Int) - ((0 : Nat) : Int) = Builtin.Range.rangeSize lo hi 1 := by rw [rangeSize_one]; split <;> omega
    show IsRangeIter _ _ (lo + ((0 : Nat) : Int) * 1) ((((hi - lo).toNat : Nat) : Int) - ((0 : Nat) : Int)) 1
    rw [e1, e2]
    exact Heap.get?_push_size _ rfl
  · have e : b = (s.heap.push { cls := .type "range", data := .fields #[.int lo t, .int hi u, .int 1 v] }).objs.size := by simpa using hb
    subst e
    exact I1.fpOk (Nat.le_refl _) (I1.hok.fresh (Nat.le_refl _))
noncomputable def iRng2 (ta : TA) : TI := fun σ H R => ta σ H fun vs H1 => ∃ i j : Int, vs = [.int i, .int j] ∧ (-(2 ^ 62) ≤ i ∧ i < 2 ^ 62 ∧ -(2 ^ 62) ≤ j ∧ j < 2 ^ 62) ∧ R (Itr i (j - i).toNat) H1
theorem pi_range2 {a b : Expr} {ta : TA} {p pos : Pos} (hg : Gl X "range") (hm : X.mg "range" = none) (ha : PA X [a, b] ta) (hs : starEach [a, b] X.env = [(false, eval a X.env), (false, eval b X.env)] := by rfl) (hs2 : starEach [b] X.env = [(false, eval b X.env)] := by rfl) :
    PI X tg (.Call (.Name "range" p) [a, b] [] pos) (iRng2 ta) := by
  intro pins s σ H R I h
  refine Call_ (ld_blt I hg hm boot_range (PyProof.Rows.callWith_type1 (thn (ha pos pins s σ H _ I h) fun us s1 ⟨vs, H1, I1, r1, q1⟩ => ?_) (by rw [hs, hs2]) (by rw [hs2]; rfl)))
  obtain ⟨i, j, e, ⟨q1, q2, q3, q4⟩, q⟩ := q1
  subst e
  cases r1 with
  | cons r rr =>
    cases rr with
    | cons r' rr =>
      cases rr
      obtain ⟨t, rfl⟩ := r
      obtain ⟨t', rfl⟩ := r'
      exact call_range_2 (range_it I1 q1 q2 q3 q4 q)
noncomputable def tFor (wi : TI) (g : TG) (tb : TS) : TS := fun D σ H => wi σ H fun J H1 => ∃ W : Nat → Nat → St → Hp → Prop, (∃ m, W 0 m σ H1) ∧ ∀ i m σ H, W i m σ H →
  (J.stop i H ∧ D.nx σ H) ∨ (J.go i H ∧ ∃ N : St → Hp → Prop, (∀ σ' H', N σ' H' → ∃ m', m' < m ∧ W (i + 1) m' σ' H') ∧ ∀ x H', J.yld i H x H' → g x σ H' fun σ2 H2 => tb { D with nx := N, ct := N, bk := D.nx } σ2 H2)
noncomputable def pinsAt (fp : List Addr) (h : Heap) : List (Addr × Obj) := fp.filterMap fun b => (h.get? b).map fun o => (b, o)
theorem mem_pinsAt {fp : List Addr} {h : Heap} {b : Addr} {o : Obj} (hb : b ∈ fp) (e : h.get? b = some o) : (b, o) ∈ pinsAt fp h := List.mem_filterMap.mpr ⟨b, hb, by rw [e]; rfl⟩
theorem of_pinsAt {fp : List Addr} {h : Heap} {p : Addr × Obj} (hp : p ∈ pinsAt fp h) : p.1 ∈ fp ∧ h.get? p.1 = some p.2 := by
  obtain ⟨b, hb, e⟩ := List.mem_filterMap.mp hp
  cases q : h.get? b with
  | none => rw [q] at e; cases e
  | some o =>
    rw [q] at e
    have e' : (b, o) = p := Option.some.inj e
    subst e'
    exact ⟨hb, q⟩
theorem Inv.pinned {pins : List (Addr × Obj)} {σ : St} {H : Hp} {s : Shared} {fp : List Addr} (I : Inv X pins σ H s) (hf : ∀ b ∈ fp, FpOk X pins H b) (ho : ∀ b ∈ fp, ∃ o, s.heap.get? b = some o ∧ ∀ v, o.data ≠ .cell v) : Inv X (pins ++ pinsAt fp s.heap) σ H s :=
  I.pins_of fun p hp => (List.mem_append.mp hp).elim (fun z => I.pin p (List.mem_append_right _ z)) fun z => by
    obtain ⟨hb, e⟩ := of_pinsAt z
    obtain ⟨f0, f1, f2, _⟩ := hf p.1 hb
    obtain ⟨o, e', d⟩ := ho p.1 hb
    rw [e] at e'; cases e'
    exact ⟨e, f0, f1, f2, d⟩
theorem Inv.unpinned {pins pl : List (Addr × Obj)} {σ : St} {H : Hp} {s : Shared} (I : Inv X (pins ++ pl) σ H s) : Inv X pins σ H s := I.pins_of fun p hp => I.pin p (List.mem_append_right _ (List.mem_append_left _ hp))
theorem ps_for {iter : Expr} {body : List Stmt} {wi : TI} {g : TG} {tb : TS} {pos : Pos} (hp : PassesOwn (model X.prog X.w) X.A X.env X.xe) (hc : X.calm = true) (hi : PI X tg iter wi) (hg : PG X tg g) (hb : PSs X body tb)
    (hs : ∀ x, foldedSetIterable iter X.env x = pure x := by intro _; rfl) : PS X (.For tg iter body [] pos) (tFor wi g tb) := by
  intro pins s σ H D I h
  refine wpAny_For (thn (hi pins s σ H _ I h) fun v s1 h1 => thn h1 fun itv s2 h2 => ?_) hs
  obtain ⟨it, fp, tn, J, H2, e, I2, T, st2, f2, W, ⟨m0, w0⟩, turn⟩ := h2
  subst e
  have stat : ∀ {H' : Hp}, (∀ b ∈ fp, H' b = none) → ∀ b ∈ fp, FpOk X pins H' b := fun hn b hb => ⟨hn b hb, (f2 b hb).2⟩
  refine codeAny_forLoop_any (fun n s' => ∃ i σ' H', Inv X pins σ' H' s' ∧ tn i s'.heap ∧ (∀ b ∈ fp, H' b = none) ∧ W i n σ' H') ?_ m0 ⟨0, σ, H2, I2, st2, fun b hb => (f2 b hb).1, w0⟩
  rintro n s3 ⟨i, σ3, H3, I3, st3, fr3, w3⟩
  rcases turn i n σ3 H3 w3 with ⟨stop, qn⟩ | ⟨go, N, hN, step⟩
  · refine wpAny_passesOwn hp (thn (T.done X rfl rfl rfl hc i pins s3 σ3 H3 X.xe I3 (stat fr3) st3 stop) fun r s4 ⟨hr, I4⟩ => ?_)
    subst hr
    exact wpAny_execs_nil ⟨σ3, H3, I4, qn⟩
  · refine wpAny_passesOwn hp (thn (T.item X rfl rfl rfl hc i pins s3 σ3 H3 X.xe I3 (stat fr3) st3 go) fun r s4 ⟨u, hr, h4⟩ => ?_)
    subst hr
    refine wpAny_passesOwn hp (thn h4 fun _ s5 ⟨x, H5, I5, r5, y5, st5, fr5⟩ => ?_)
    have I5' := I5.pinned (stat fr5) (T.obj _ _ st5)
    refine wpAny_passesOwn hp (thn (hg _ s5 σ3 H5 x u _ I5' r5 (step x H5 y5)) fun _ s6 ⟨σ6, H6, I6, q6⟩ => ?_)
    refine wpAny_passesOwn hp (thn (hb _ s6 σ6 H6 _ I6 q6) fun f s7 q7 => ?_)
    have again : ∀ {σ7 : St} {H7 : Hp}, Inv X (pins ++ pinsAt fp s5.heap) σ7 H7 s7 → N σ7 H7 → ∃ m, m < n ∧ ∃ i σ' H', Inv X pins σ' H' s7 ∧ tn i s7.heap ∧ (∀ b ∈ fp, H' b = none) ∧ W i m σ' H' := fun {σ7 H7} I7 n7 => by
      obtain ⟨m', hm, w7⟩ := hN σ7 H7 n7
      refine ⟨m', hm, i + 1, σ7, H7, I7.unpinned, T.keep _ _ _ st5 fun b hb o e => (I7.pin (b, o) (List.mem_append_right _ (List.mem_append_right _ (mem_pinsAt hb e)))).1, fun b hb => ?_, w7⟩
      obtain ⟨o, e, d⟩ := T.obj _ _ st5 b hb
      exact (I7.pin (b, o) (List.mem_append_right _ (List.mem_append_right _ (mem_pinsAt hb e)))).2.1
    cases f with
    | next => obtain ⟨σ7, H7, I7, n7⟩ := q7; exact again I7 n7
    | cont => obtain ⟨σ7, H7, I7, n7⟩ := q7; exact again I7 n7
    | brk => obtain ⟨σ7, H7, I7, q7⟩ := q7; exact ⟨σ7, H7, I7.unpinned, q7⟩
    | ret v => obtain ⟨x7, σ7, H7, I7, r7, q7⟩ := q7; exact ⟨x7, σ7, H7, I7.unpinned, r7, q7⟩
end
end L2
namespace L2
open PySem PySem.Spec PyProof.Rows
noncomputable abbrev R2 := V → V → Hp → VK → Prop
noncomputable def OpR (X : Cx) (f : Value → Value → Sem Value) (r : R2) : Prop :=
  ∀ (pins : List (Addr × Obj)) (s : Shared) (σ : St) (H : Hp) (x y : V) (v u : Value) (Q : VK), Inv X pins σ H s → RelV x v → RelV y u → r x y H Q →
    wpAny (model X.prog X.w) X.A (f v u) (EP X pins σ Q) X.xe s
noncomputable def UnR (X : Cx) (f : Value → Sem Value) (r : V → Hp → VK → Prop) : Prop :=
  ∀ (pins : List (Addr × Obj)) (s : Shared) (σ : St) (H : Hp) (x : V) (v : Value) (Q : VK), Inv X pins σ H s → RelV x v → r x H Q →
    wpAny (model X.prog X.w) X.A (f v) (EP X pins σ Q) X.xe s
noncomputable def CallR (X : Cx) (f : Value) (r : List V → Hp → VK → Prop) : Prop :=
  ∀ (pins : List (Addr × Obj)) (s : Shared) (σ : St) (H : Hp) (xs : List V) (us : List Value) (Q : VK), Inv X pins σ H s → Vals xs us → r xs H Q →
    wpAny (model X.prog X.w) X.A (call f us) (EP X pins σ Q) X.xe s
noncomputable def TruR (X : Cx) (r : V → Hp → (Bool → Hp → Prop) → Prop) : Prop :=
  ∀ (pins : List (Addr × Obj)) (s : Shared) (σ : St) (H : Hp) (x : V) (v : Value) (Q : Bool → Hp → Prop), Inv X pins σ H s → RelV x v → r x H Q →
    wpAny (model X.prog X.w) X.A (truthy v) (TP X pins σ Q) X.xe s
noncomputable def tOp (r : R2) (ta tb : TE) : TE := fun σ H Q => ta σ H fun x H1 => tb σ H1 fun y H2 => r x y H2 Q
noncomputable def tUn (r : V → Hp → VK → Prop) (ta : TE) : TE := fun σ H Q => ta σ H fun x H1 => r x H1 Q
noncomputable def rI (C : Int → Int → Prop) (g : Int → Int → V) : R2 := fun x y H Q => ∃ i j, x = .int i ∧ y = .int j ∧ C i j ∧ Q (g i j) H
noncomputable def rI0 (g : Int → Int → V) : R2 := fun x y H Q => ∃ i j, x = .int i ∧ y = .int j ∧ Q (g i j) H
noncomputable def rU (g : Int → V) : V → Hp → VK → Prop := fun x H Q => ∃ i, x = .int i ∧ Q (g i) H
section
variable {X : Cx} {a b c : Expr} {ta tb tc : TE} {pos : Pos}
theorem binT (ha : PE X a ta) (hb : PE X b tb) {pins : List (Addr × Obj)} {s : Shared} {σ : St} {H : Hp} {R : V → V → Hp → Prop} (I : Inv X pins σ H s)
    (h : ta σ H fun x H1 => tb σ H1 fun y H2 => R x y H2) {Q : Value → Shared → Prop} {f : Value → Value → Sem Value}
    (hf : ∀ v u s2 x y H2, Inv X pins σ H2 s2 → RelV x v → RelV y u → R x y H2 → wpAny (model X.prog X.w) X.A (f v u) Q X.xe s2) :
    wpAny (model X.prog X.w) X.A (eval a X.env) (fun v s₁ => wpAny (model X.prog X.w) X.A (eval b X.env) (fun u s₂ => wpAny (model X.prog X.w) X.A (f v u) Q X.xe s₂) X.xe s₁) X.xe s := by
  refine thn (ha pins s σ H _ I h) fun v s1 ⟨x, H1, I1, r1, q1⟩ => ?_
  refine thn (hb pins s1 σ H1 _ I1 q1) fun u s2 ⟨y, H2, I2, r2, q2⟩ => ?_
  exact hf v u s2 x y H2 I2 r1 r2 q2
theorem pe_op {op : Operator} {r : R2} (ho : OpR X (binaryOp op) r) (ha : PE X a ta) (hb : PE X b tb) : PE X (.BinOp a op b pos) (tOp r ta tb) := by
  intro pins s σ H Q I h
  exact wpAny_BinOp (binT ha hb I h fun v u s2 x y H2 I2 rx ry q => ho pins s2 σ H2 x y v u Q I2 rx ry q)
theorem pe_un {op : UnaryOp} {r : V → Hp → VK → Prop} (ho : UnR X (unaryOp op) r) (ha : PE X a ta) : PE X (.UnaryOp op a pos) (tUn r ta) := by
  intro pins s σ H Q I h
  exact UnaryOp_ (thn (ha pins s σ H _ I h) fun v s1 ⟨x, H1, I1, r1, q1⟩ => ho pins s1 σ H1 x v Q I1 r1 q1)
theorem opI {f : Value → Value → Sem Value} {C : Int → Int → Prop} {g : Int → Int → Int}
    (rule : ∀ (i j : Int) (t u : Tok) (s : Shared) (Q : Value → Shared → Prop) (E : Value → Shared → Prop), C i j → Q (.int (g i j) s.toks) { s with toks := s.toks + 1 } → wpAny (model X.prog X.w) X.A (f (.int i t) (.int j u)) Q E s) :
    OpR X f (rI C fun i j => .int (g i j)) := by
  intro pins s σ H x y v u Q I rx ry h
  obtain ⟨i, j, rfl, rfl, hc, q⟩ := h
  obtain ⟨t, rfl⟩ := rx
  obtain ⟨t', rfl⟩ := ry
  exact rule i j t t' s _ _ hc ⟨.int (g i j), H, I.tok _, ⟨_, rfl⟩, q⟩
theorem opI0 {f : Value → Value → Sem Value} {g : Int → Int → Int}
    (rule : ∀ (i j : Int) (t u : Tok) (s : Shared) (Q : Value → Shared → Prop) (E : Value → Shared → Prop), Q (.int (g i j) s.toks) { s with toks := s.toks + 1 } → wpAny (model X.prog X.w) X.A (f (.int i t) (.int j u)) Q E s) :
    OpR X f (rI0 fun i j => .int (g i j)) := by
  intro pins s σ H x y v u Q I rx ry h
  obtain ⟨i, j, rfl, rfl, q⟩ := h
  obtain ⟨t, rfl⟩ := rx
  obtain ⟨t', rfl⟩ := ry
  exact rule i j t t' s _ _ ⟨.int (g i j), H, I.tok _, ⟨_, rfl⟩, q⟩
theorem opB0 {f : Value → Value → Sem Value} {g : Int → Int → Bool}
    (rule : ∀ (i j : Int) (t u : Tok) (s : Shared) (Q : Value → Shared → Prop) (E : Value → Shared → Prop), Q (.bool (g i j)) s → wpAny (model X.prog X.w) X.A (f (.int i t) (.int j u)) Q E s) :
    OpR X f (rI0 fun i j => .bl (g i j)) := by
  intro pins s σ H x y v u Q I rx ry h
  obtain ⟨i, j, rfl, rfl, q⟩ := h
  obtain ⟨t, rfl⟩ := rx
  obtain ⟨t', rfl⟩ := ry
  exact rule i j t t' s _ _ ⟨.bl (g i j), H, I, rfl, q⟩
noncomputable def CPow (i j : Int) : Prop := 0 ≤ j ∧ j ≤ 1000000 ∧ i.natAbs < 2 ^ 64
noncomputable def CMul (i j : Int) : Prop := (-(2 ^ 64) < i ∧ i < 2 ^ 64) ∨ (-(2 ^ 64) < j ∧ j < 2 ^ 64)
theorem CMul.ok {i j : Int} (h : CMul i j) : IntMulOk i j := by
  rcases h with ⟨h1, h2⟩ | ⟨h1, h2⟩
  · exact .of_left (intBits_le_64 h1 h2)
  · exact .of_right (intBits_le_64 h1 h2)
theorem op_add : OpR X (binaryOp .Add) (rI0 fun i j => .int (i + j)) := opI0 fun _ _ _ _ _ _ _ q => add_int q
theorem op_sub : OpR X (binaryOp .Sub) (rI0 fun i j => .int (i - j)) := opI0 fun _ _ _ _ _ _ _ q => sub_int q
theorem op_mul : OpR X (binaryOp .Mult) (rI CMul fun i j => .int (i * j)) := opI fun _ _ _ _ _ _ _ hc q => mul_int q hc.ok
theorem op_mod : OpR X (binaryOp .Mod) (rI (fun _ j => 0 < j) fun i j => .int (i % j)) := opI fun i j _ _ _ _ _ hc q => by
  have h1 : (0 : Int) < j := hc
  exact mod_int' (by omega) (by rw [Int.fmod_eq_emod_of_nonneg i (by omega)]; exact q)
theorem op_pow : OpR X (binaryOp .Pow) (rI CPow fun i j => .int (i ^ j.toNat)) := opI fun _ _ _ _ _ _ _ hc q => pow_int_small hc.1 hc.2.1 hc.2.2 q
theorem unI {f : Value → Sem Value} {g : Int → Int}
    (rule : ∀ (i : Int) (t : Tok) (s : Shared) (Q : Value → Shared → Prop) (E : Value → Shared → Prop), Q (.int (g i) s.toks) { s with toks := s.toks + 1 } → wpAny (model X.prog X.w) X.A (f (.int i t)) Q E s) :
    UnR X f (rU fun i => .int (g i)) := by
  intro pins s σ H x v Q I rx h
  obtain ⟨i, rfl, q⟩ := h
  obtain ⟨t, rfl⟩ := rx
  exact rule i t s _ _ ⟨.int (g i), H, I.tok _, ⟨_, rfl⟩, q⟩
theorem un_neg : UnR X (unaryOp .USub) (rU fun i => .int (-i)) := unI fun _ _ _ _ _ q => neg_int q
end
section
variable {X : Cx} {a b c : Expr} {ta tb tc : TE} {pos : Pos}
theorem fin_bl {pins : List (Addr × Obj)} {σ : St} {H : Hp} {s : Shared} {Q : VK} {k k' : Bool} (I : Inv X pins σ H s) (q : Q (.bl k) H) (e : k = k') : EP X pins σ Q (.bool k') s := by
  subst e
  exact ⟨.bl k, H, I, rfl, q⟩
theorem op_lt : OpR X (compareOp .Lt) (rI0 fun i j => .bl (decide (i < j))) := opB0 fun _ _ _ _ _ _ _ q => lt_int q
theorem op_le : OpR X (compareOp .LtE) (rI0 fun i j => .bl (decide (i ≤ j))) := opB0 fun _ _ _ _ _ _ _ q => le_int q
theorem op_gt : OpR X (compareOp .Gt) (rI0 fun i j => .bl (decide (j < i))) := opB0 fun _ _ _ _ _ _ _ q => gt_int q
theorem op_ge : OpR X (compareOp .GtE) (rI0 fun i j => .bl (decide (j ≤ i))) := opB0 fun _ _ _ _ _ _ _ q => ge_int q
theorem op_isN : OpR X (compareOp .Is) (fun x y H Q => y = .non ∧ Q (.bl (decide (x = .non))) H) := by
  intro pins s σ H x y v u Q I rx ry h
  obtain ⟨rfl, q⟩ := h
  cases ry
  refine is_none_gen (fin_bl I q ?_)
  cases x <;> first
    | (cases rx; rfl)
    | (obtain ⟨t, rfl⟩ := rx; rfl)
theorem op_notN : OpR X (compareOp .IsNot) (fun x y H Q => y = .non ∧ Q (.bl (!decide (x = .non))) H) := by
  intro pins s σ H x y v u Q I rx ry h
  obtain ⟨rfl, q⟩ := h
  cases ry
  refine isnot_none_gen (fin_bl I q ?_)
  cases x <;> first
    | (cases rx; rfl)
    | (obtain ⟨t, rfl⟩ := rx; rfl)
noncomputable def isObj : HO → Bool
  | .lst _ => true
  | .ins _ _ _ => true
  | _ => false
theorem OpR.or {f : Value → Value → Sem Value} {r r' : R2} (h : OpR X f r) (h' : OpR X f r') : OpR X f (fun x y H Q => r x y H Q ∨ r' x y H Q) := by
  intro pins s σ H x y v u Q I rx ry q
  rcases q with q | q
  · exact h pins s σ H x y v u Q I rx ry q
  · exact h' pins s σ H x y v u Q I rx ry q
theorem nomark (b : Expr) {op : CmpOp} (h : op ≠ .In := by decide) (h2 : op ≠ .NotIn := by decide) : behindInMarks op b = false := by
  have e1 : (op == CmpOp.In) = false := by cases op <;> first | rfl | exact absurd rfl h
  have e2 : (op == CmpOp.NotIn) = false := by cases op <;> first | rfl | exact absurd rfl h2
  cases b <;> simp [behindInMarks, e1, e2]
theorem pe_cmpR {op : CmpOp} {r : R2} (ho : OpR X (compareOp op) r) (ha : PE X a ta) (hb : PE X b tb) (hm : behindInMarks op b = false) : PE X (.Compare a [op] [b] pos) (tOp r ta tb) := by
  intro pins s σ H Q I h
  exact wpAny_Compare1 (binT ha hb I h fun v u s2 x y H2 I2 rx ry q => ho pins s2 σ H2 x y v u Q I2 rx ry q) hm
noncomputable def tTest (t : TE) : TT := fun σ H Q => t σ H fun x H' => ∃ k, x = .bl k ∧ Q k H'
theorem pt_cmpR {op : CmpOp} {r : R2} (ho : OpR X (compareOp op) r) (ha : PE X a ta) (hb : PE X b tb) (hm : behindInMarks op b = false) : PT X (.Compare a [op] [b] pos) (tTest (tOp r ta tb)) := by
  intro pins s σ H Q I h
  refine wpAny_isTrue_Compare1 (thn (ha pins s σ H _ I h) fun v s1 ⟨x, H1, I1, r1, q1⟩ => thn (hb pins s1 σ H1 _ I1 q1) fun u s2 ⟨y, H2, I2, r2, q2⟩ =>
    thn (ho pins s2 σ H2 x y v u _ I2 r1 r2 q2) fun c s3 ⟨z, H3, I3, r3, k, e, q3⟩ => ?_) hm
  subst e
  cases r3
  exact wpAny_truthy_bool ⟨H3, I3, q3⟩
noncomputable def tChain (r r' : R2) (ta tb tc : TE) : TE := fun σ H Q => ta σ H fun x H1 => tb σ H1 fun y H2 => r x y H2 fun z H3 => ∃ k, z = .bl k ∧
  (if k = true then tc σ H3 fun w' H4 => r' y w' H4 Q else Q (.bl false) H3)
theorem pe_chain {op op' : CmpOp} {r r' : R2} (ho : OpR X (compareOp op) r) (ho' : OpR X (compareOp op') r') (ha : PE X a ta) (hb : PE X b tb) (hc : PE X c tc)
    (hm : lastMarks [op, op'] [b, c] = false := by with_unfolding_all rfl) : PE X (.Compare a [op, op'] [b, c] pos) (tChain r r' ta tb tc) := by
  intro pins s σ H Q I h
  refine Compare_chain (thn (ha pins s σ H _ I h) fun v s1 ⟨x, H1, I1, r1, q1⟩ => chain_link (thn (hb pins s1 σ H1 _ I1 q1) fun u s2 ⟨y, H2, I2, r2, q2⟩ =>
    thn (ho pins s2 σ H2 x y v u _ I2 r1 r2 q2) fun d s3 ⟨z, H3, I3, r3, k, e, q3⟩ => ?_)) hm
  subst e
  cases r3
  refine wpAny_truthy_bool ?_
  cases k with
  | false => exact ite_ff ⟨.bl false, H3, I3, rfl, q3⟩
  | true => exact ite_tt (chain_last (thn (hc pins s3 σ H3 _ I3 q3) fun w' s4 ⟨z', H4, I4, r4, q4⟩ => ho' pins s4 σ H4 y z' u w' Q I4 r2 r4 q4))
theorem pt_chain {op op' : CmpOp} {r r' : R2} (ho : OpR X (compareOp op) r) (ho' : OpR X (compareOp op') r') (ha : PE X a ta) (hb : PE X b tb) (hc : PE X c tc)
    (hm : lastMarks [op, op'] [b, c] = false := by with_unfolding_all rfl) : PT X (.Compare a [op, op'] [b, c] pos) (tTest (tChain r r' ta tb tc)) := by
  intro pins s σ H Q I h
  refine isTrue_chain (thn (ha pins s σ H _ I h) fun v s1 ⟨x, H1, I1, r1, q1⟩ => test_link (thn (hb pins s1 σ H1 _ I1 q1) fun u s2 ⟨y, H2, I2, r2, q2⟩ =>
    thn (ho pins s2 σ H2 x y v u _ I2 r1 r2 q2) fun d s3 ⟨z, H3, I3, r3, k, e, q3⟩ => ?_)) hm
  subst e
  cases r3
  refine wpAny_truthy_bool ?_
  cases k with
  | false =>
    obtain ⟨k', e', q'⟩ := q3
    cases e'
    exact ite_ff ⟨H3, I3, q'⟩
  | true =>
    refine ite_tt (test_last (thn (hc pins s3 σ H3 _ I3 q3) fun w' s4 ⟨z', H4, I4, r4, q4⟩ => thn (ho' pins s4 σ H4 y z' u w' _ I4 r2 r4 q4) fun d' s5 ⟨z2, H5, I5, r5, k2, e2, q5⟩ => ?_))
    subst e2
    cases r5
    exact wpAny_truthy_bool ⟨H5, I5, q5⟩
noncomputable def TruV (K : PySem.W.Frag) (x : V) (H : Hp) (k : Bool) : Prop :=
  match x with
  | .non => k = false
  | .bl b => k = b
  | .int i => k = (i != 0)
  | .str y => y.length ≤ sizeLine ∧ k = ((y.length : Int) != 0)
  | .byt y => y.size ≤ sizeLine ∧ k = ((y.size : Int) != 0)
  | .ref p => (∃ xs, SqL K H p xs ∧ k = !xs.isEmpty) ∨ (∃ xs, SqT K H p xs ∧ k = !xs.isEmpty) ∨ ∃ kvs, H p = some (.dK kvs) ∧ k = !kvs.isEmpty
  | _ => False
theorem isEmpty_kv {κ : Type} {kvs : List (κ × V)} {vs : List (κ × Value)} (r : KV kvs vs) : (!vs.isEmpty) = !kvs.isEmpty := by
  cases r <;> rfl
theorem isEmpty_of {xs : List V} {its : List Value} (r : Vals xs its) : (!its.toArray.isEmpty) = !xs.isEmpty := by
  cases r <;> simp
theorem line63 : (sizeLine : Nat) < 2 ^ 63 := by rw [sizeLine_eq]; decide
theorem tru_ok : TruR X (fun x H Q => ∃ k, TruV X.K x H k ∧ Q k H) := by
  intro pins s σ H x v Q I rx h
  obtain ⟨k, e, q⟩ := h
  have hl := line63
  have hs : sizeLine = 16777216 := sizeLine_eq
  cases x with
  | non =>
    cases rx
    have e' : k = false := e
    subst e'
    exact truthy_none ⟨H, I, q⟩
  | bl b =>
    cases rx
    have e' : k = b := e
    subst e'
    exact wpAny_truthy_bool ⟨H, I, q⟩
  | int i =>
    obtain ⟨t, rfl⟩ := rx
    have e' : k = (i != 0) := e
    subst e'
    exact PySem.P.truthy_int ⟨H, I, q⟩
  | str y =>
    obtain ⟨t, rfl⟩ := rx
    obtain ⟨hy, e'⟩ : y.length ≤ sizeLine ∧ k = ((y.length : Int) != 0) := e
    subst e'
    exact PySem.P.truthy_str (by omega) ⟨H, I.tok _, q⟩
  | byt y =>
    obtain ⟨t, rfl⟩ := rx
    obtain ⟨hy, e'⟩ : y.size ≤ sizeLine ∧ k = ((y.size : Int) != 0) := e
    subst e'
    exact PySem.W.truthy_bytes (by omega) ⟨H, I.tok _, q⟩
  | ref p =>
    cases rx
    have e' : (∃ xs, SqL X.K H p xs ∧ k = !xs.isEmpty) ∨ (∃ xs, SqT X.K H p xs ∧ k = !xs.isEmpty) ∨ ∃ kvs, H p = some (.dK kvs) ∧ k = !kvs.isEmpty := e
    rcases e' with ⟨xs, hx, e'⟩ | ⟨xs, hx, e'⟩ | ⟨kvs, hx, e'⟩
    · subst e'
      obtain ⟨its, r, pl, hz⟩ := I.list hx
      have hlen := r.length
      exact wpAny_truthy_list pl.isList (by simp only [List.size_toArray]; omega) ⟨H, I.tok _, by rw [isEmpty_of r]; exact q⟩
    · subst e'
      obtain ⟨its, r, pl, hz⟩ := I.tuple hx
      have hlen := r.length
      exact truthy_tuple pl (by simp only [List.size_toArray]; omega) ⟨H, I.tok _, by rw [isEmpty_of r]; exact q⟩
    · subst e'
      obtain ⟨hz, hS, vs, r, m⟩ : kvs.length ≤ sizeLine ∧ (p == sysModules) = false ∧ ∃ vs, KV kvs vs ∧ s.heap.DictOf (mixKind X.prog X.w) p vs := I.hok p _ hx
      have hlen : kvs.length = vs.length := Paired.length r
      exact wpAny_truthy_dict hS m (by omega) ⟨H, I.tok _, by rw [isEmpty_kv r]; exact q⟩
  | _ => exact (show False from e).elim
theorem pt_truth (ha : PE X a ta) (he : ∀ whole, isTrue a X.env whole = (do let v ← whole; standAt a.pos; holding [v] (truthy v))) :
    PT X a (fun σ H Q => ta σ H fun x H' => ∃ k, TruV X.K x H' k ∧ Q k H') := by
  intro pins s σ H Q I h
  exact isTrue_plain (thn (ha pins s σ H _ I h) fun v s1 ⟨x, H1, I1, r1, q1⟩ => tru_ok pins s1 σ H1 x v Q I1 r1 q1) (he _)
theorem op_add_str : OpR X (binaryOp .Add) (fun x y H Q => ∃ i j, x = .str i ∧ y = .str j ∧ i.length + j.length ≤ sizeLine ∧ Q (.str (i ++ j)) H) := by
  intro pins s σ H x y v u Q I rx ry h
  obtain ⟨i, j, rfl, rfl, hz, q⟩ := h
  obtain ⟨t, rfl⟩ := rx
  obtain ⟨t', rfl⟩ := ry
  exact add_str (fun t' tk => ⟨.str (i ++ j), H, I.tok _, ⟨_, rfl⟩, q⟩) hz
theorem vals1 {x : V} {us : List Value} (r : Vals [x] us) : ∃ u, us = [u] ∧ RelV x u := by
  cases r with
  | cons r1 r2 => cases r2; exact ⟨_, rfl, r1⟩
theorem vals2 {x y : V} {us : List Value} (r : Vals [x, y] us) : ∃ u w', us = [u, w'] ∧ RelV x u ∧ RelV y w' := by
  cases r with
  | cons r1 r2 =>
    cases r2 with
    | cons r3 r4 => cases r4; exact ⟨_, _, rfl, r1, r3⟩
theorem call_max2 (hc : X.calm = true) : CallR X (.builtin "max") (fun xs H Q => ∃ i j, xs = [.int i, .int j] ∧ Q (.int (if j > i then j else i)) H) := by
  intro pins s σ H xs us Q I r h
  obtain ⟨i, j, rfl, q⟩ := h
  obtain ⟨u, w', rfl, ⟨t, rfl⟩, ⟨t', rfl⟩⟩ := vals2 r
  refine max_two_ints (I.ok.hd hc) fun h' tk k => ⟨_, H, I.kept k, ?_, q⟩
  by_cases hj : j > i
  · rw [if_pos hj, if_pos hj]; exact ⟨_, rfl⟩
  · rw [if_neg hj, if_neg hj]; exact ⟨_, rfl⟩
theorem call_int1 : CallR X (.type "int") (fun xs H Q => (∃ i, xs = [.int i] ∧ Q (.int i) H) ∨ ∃ k, xs = [.bl k] ∧ Q (.int (if k then 1 else 0)) H) := by
  intro pins s σ H xs us Q I r h
  rcases h with ⟨i, rfl, q⟩ | ⟨k, rfl, q⟩
  · obtain ⟨u, rfl, t, rfl⟩ := vals1 r
    exact call_int_int ⟨.int i, H, I, ⟨_, rfl⟩, q⟩
  · obtain ⟨u, rfl, r1⟩ := vals1 r
    cases r1
    exact call_int_bool ⟨.int (if k then 1 else 0), H, I.tok _, ⟨_, rfl⟩, q⟩
end
end L2
namespace L2
open PySem PySem.Spec PyProof.Rows
structure ObjM (h : Heap) (x dx C : Addr) (mA : Str → Option Value) : Prop where
  obj : h.get? x = some (PySem.W.instObj C dx)
  ns : h.Ns1 dx mA
  ne : dx ≠ x
theorem lookIn_ns {h : Heap} {dx : Addr} {mA : Str → Option Value} (n : h.Ns1 dx mA) : ∃ od, h.get? dx = some od ∧ ∀ name, PySem.W.lookIn name od = some (mA name) := by
  obtain ⟨o, es, ep, ho, hd, hk, _, hm⟩ := n
  refine ⟨o, ho, fun name => ?_⟩
  have e := hm name
  unfold nsFind findBy at e
  rw [← Array.find?_toList] at e
  unfold PySem.W.lookIn
  rw [hd]
  dsimp only
  split
  · rename_i y q
    rw [q] at e
    exact congrArg some e
  · rename_i q
    rw [q] at e
    have a : es.toList.any (·.refKey) = false := by
      rw [List.any_eq_false]
      intro y hy
      obtain ⟨z, t, hkey⟩ := hk y (Array.mem_toList_iff.mp hy)
      simp [DictEntry.refKey, hkey]
    have a' : ¬ es.toList.any (·.refKey) = true := by rw [a]; exact Bool.false_ne_true
    rw [if_neg a']
    exact congrArg some e
theorem ObjM.look {h : Heap} {x dx C : Addr} {mA : Str → Option Value} (I : ObjM h x dx C mA) : ∃ od, PySem.W.InstAt h x (PySem.W.instObj C dx) C (some od) ∧ ∀ name, PySem.W.lookIn name od = some (mA name) :=
  let ⟨od, ho, hl⟩ := lookIn_ns I.ns
  ⟨od, ⟨I.obj, rfl, rfl, ho⟩, hl⟩
section
variable {prog : Program} {w : World} {A : Around} {E : Value → Shared → Prop} {s : Shared} {K : PySem.W.Frag} {x dx C f : Addr} {mA : Str → Option Value} {name : Str} {v : Value}
theorem get_meth {pl : Sem Bool} {Q : Value × List Value → Shared → Prop} (X : K.In s.heap) (I : ObjM s.heap x dx C mA) (hg : PySem.W.plainGet K C name = true)
    (hf : PySem.W.findIn K (.ref C) name = some (some (.ref f))) (ht : PySem.W.isFn K (.ref f) = true) (hv : mA name = none) (h : Q (.ref f, [.ref x]) s) :
    wpAny (model prog w) A (getMethod (.ref x) name pl) Q E s := by
  obtain ⟨od, J, hl⟩ := I.look
  exact PySem.W.method_fn X J (PySem.W.plainGet_of hg).1 (PySem.W.plainGet_of hg).2 hf (beq_iff_eq.mp ht) (by show (PySem.W.lookIn name od).map (·.isSome) = some false; rw [hl, hv]; rfl) h
theorem make_map {R : Result → Shared → Prop} {vs : List Value} {kw : List (Str × Value)} (X : K.In s.heap) (hm : PySem.W.makesIn K C = true)
    (hi : PySem.W.findIn K (.ref C) "__init__" = some (some (.ref f))) (hf : PySem.W.typeIn K (.ref f) = some (.type "function"))
    (h : codeAny (model prog w) (A.under (.builtin "type.__call__" ⟨.ref C :: vs, kw⟩)) (.call (.ref f) ⟨.ref (s.heap.objs.size + 1) :: vs, kw⟩) (PySem.W.InitBack (s.heap.objs.size + 1) R)
      { s with heap := (s.heap.push PySem.W.emptyDict).push (PySem.W.instObj C s.heap.objs.size) }) :
    codeAny (model prog w) A (.call (.ref C) ⟨vs, kw⟩) R s := by
  obtain ⟨hh, g, d, t, os⟩ := s
  exact PySem.W.make_core (PySem.W.makes_of X hm) (PySem.W.looks_findIn X hi) (fun self => PySem.W.bind_fn X self hf) (.inl rfl) h
end
theorem RelO.none_of {o : Option Value} (r : RelO none o) : o = none := by
  cases o with
  | none => rfl
  | some u => exact (show False from r).elim
section
variable {P : Program} {w : World} {H H' : Hp} {h h' : Heap} {a C dx : Addr} {fs fs' : List (Str × V)}
theorem ins_get (hok : HOk P w H h) (e : H a = some (.ins C dx fs)) : ∃ mA, ObjM h a dx C mA ∧ (∀ f, RelO (fs.lookup f) (mA f)) ∧ PySem.Within mA (fs.map (·.1)) ∧ fs.length ≤ 1000 ∧ H dx = some (.own a) := by
  obtain ⟨d, z, ne, ob, mA, n, r, q⟩ := (show ObjOk P w H h a (.ins C dx fs) from hok a _ e)
  exact ⟨mA, ⟨ob, n, ne⟩, r, q, z, d⟩
end
structure Cls (K : PySem.W.Frag) (C : Addr) : Prop where
  pg : PySem.W.plainGet K C Str.empty = true
  hd : PySem.W.hasDictIn K C = true
  po : PySem.W.plainOver K C = true
  sa : PySem.W.findIn K (.ref C) "__setattr__" = some (some (.builtin "object.__setattr__"))
theorem Cls.get {K : PySem.W.Frag} {C : Addr} (c : Cls K C) (f : Str) : PySem.W.plainGet K C f = true := c.pg
noncomputable def NoAttr (K : PySem.W.Frag) (C : Addr) (f : Str) : Prop := PySem.W.findIn K (.ref C) f = some none
structure Con (K : PySem.W.Frag) (C : Addr) (f : Str) (v : V) (u : Value) : Prop where
  at_ : PySem.W.findIn K (.ref C) f = some (some u)
  rel : RelV v u
  get : PySem.W.specialIn K u "__get__" = some none
  cp : PySem.W.copiedNames.contains f = false
structure Meth (K : PySem.W.Frag) (C : Addr) (m : Str) (f : Addr) : Prop where
  at_ : PySem.W.findIn K (.ref C) m = some (some (.ref f))
  fn : PySem.W.isFn K (.ref f) = true
  kp : PySem.W.keepIn K (.ref f) = true
section
variable {X : Cx} {pins : List (Addr × Obj)} {σ : St} {H : Hp} {s : Shared} {a C dx : Addr} {fs : List (Str × V)} {f : Str} {v : V} {A : Around} {E : Value → Shared → Prop}
theorem getmeth_ok {m : Str} {g : Addr} {pl : Sem Bool} {Q : Value × List Value → Shared → Prop} (I : Inv X pins σ H s) (e : H a = some (.ins C dx fs)) (c : Cls X.K C) (k : Meth X.K C m g) (l : fs.lookup m = none)
    (h : Q (.ref g, [.ref a]) s) : wpAny (model X.prog X.w) A (getMethod (.ref a) m pl) Q E s := by
  obtain ⟨mA, O, r, _, _, _⟩ := ins_get I.hok e
  have hn : mA m = none := RelO.none_of (by rw [← l]; exact r m)
  exact get_meth I.kIn O (c.get m) k.at_ k.fn hn h
theorem Inv.made (I : Inv X pins σ H s) : Inv X pins σ (upd (upd H s.heap.objs.size (.own (s.heap.objs.size + 1))) (s.heap.objs.size + 1) (.ins C s.heap.objs.size []))
    { s with heap := (s.heap.push PySem.W.emptyDict).push (PySem.W.instObj C s.heap.objs.size) } := by
  have e1 : (s.heap.push PySem.W.emptyDict).get? s.heap.objs.size = some PySem.W.emptyDict := Heap.get?_push_size s.heap rfl
  have e2 : ((s.heap.push PySem.W.emptyDict).push (PySem.W.instObj C s.heap.objs.size)).get? (s.heap.objs.size + 1) = some (PySem.W.instObj C s.heap.objs.size) := by
    have := Heap.get?_push_size (s.heap.push PySem.W.emptyDict) (o := PySem.W.instObj C s.heap.objs.size) rfl
    rwa [Heap.size_push] at this
  have e3 : (s.heap.push PySem.W.emptyDict).Ns s.heap.objs.size (fun _ => none) := ⟨PySem.W.emptyDict, #[], _, e1, rfl, (fun e he => absurd he (by simp)), fun _ => rfl⟩
  have I1 := I.laid (a := s.heap.objs.size) (o := .own (s.heap.objs.size + 1)) (h' := s.heap.push PySem.W.emptyDict) (t' := s.toks) (fun b u q => Heap.get?_push_of_some _ q) (Nat.le_refl _) ⟨_, e1⟩
  refine I1.laid (a := s.heap.objs.size + 1) (o := .ins C s.heap.objs.size []) (t' := s.toks) (fun b u q => Heap.get?_push_of_some _ q) (Nat.le_of_eq (Heap.size_push _ _)) ?_
  have ne : s.heap.objs.size ≠ s.heap.objs.size + 1 := Nat.ne_of_lt (Nat.lt_succ_self _)
  refine ⟨by rw [upd_ne ne, upd_same], Nat.zero_le _, ne, e2, fun _ => none, (Heap.Ns1.of_empty e3).at fun o q => Heap.get?_push_of_some _ q, fun _ => True.intro, fun y hy => absurd rfl hy⟩
end
noncomputable def tFld (K : PySem.W.Frag) (ta : TE) (f : Str) : TE := fun σ H Q => ta σ H fun x H1 => ∃ a C dx fs v, x = .ref a ∧ H1 a = some (.ins C dx fs) ∧ Cls K C ∧ NoAttr K C f ∧ fs.lookup f = some v ∧ Q v H1
section
variable {X : Cx} {o e value : Expr} {f : Str} {pos pos' tpos : Pos} {ta tv : TE}
theorem methcall_of {pl : Sem Bool} {m : Str} {apos : Pos} {args : List Expr} {pins : List (Addr × Obj)} {s : Shared} {σ : St} {H : Hp} {Q : Value → Shared → Prop} {te : TE} (he : PE X e te) (I : Inv X pins σ H s)
    (h : te σ H fun x H1 => ∃ a C dx fs g, x = .ref a ∧ H1 a = some (.ins C dx fs) ∧ Cls X.K C ∧ Meth X.K C m g ∧ fs.lookup m = none ∧
      ∀ s1, Inv X pins σ H1 s1 → wpAny (model X.prog X.w) X.A (callWith pos (.ref g) [.ref a] (backTo pos (starEach args X.env)) (backToKw pos (keywordEach [] X.env))) Q X.xe s1)
    (ht : eval (.Call (.Attribute e m apos) args [] pos) X.env = (do
      let ov ← eval e X.env
      standAt apos.atName
      let (f, first) ← holding [ov] (getMethod ov m pl)
      callWith pos f first (backTo pos (starEach args X.env)) (backToKw pos (keywordEach [] X.env)))) :
    wpAny (model X.prog X.w) X.A (eval (.Call (.Attribute e m apos) args [] pos) X.env) Q X.xe s := by
  refine PySem.W.methodCall_KW (pl := pl) (thn (he pins s σ H _ I h) fun u s1 ⟨x, H1, I1, rx, a, C, dx, fs, g, ex, ea, c, k, l, q⟩ => ?_) ht
  subst ex
  obtain rfl : u = Value.ref a := rx
  exact getmeth_ok I1 ea c k l (q s1 I1)
end
section
variable {X : Cx} {pins : List (Addr × Obj)} {σ : St} {H : Hp} {s : Shared} {A : Around} {E : Value → Shared → Prop} {Q : Value → Shared → Prop} {c : Value} {b : Bool}
inductive TyOf (K : PySem.W.Frag) (H : Hp) : V → Value → Prop where
  | non : TyOf K H .non (.type "NoneType")
  | bl (x : Bool) : TyOf K H (.bl x) (.type "bool")
  | int (i : Int) : TyOf K H (.int i) (.type "int")
  | str (x : Str) : TyOf K H (.str x) (.type "str")
  | flt (x : UInt64) : TyOf K H (.flt x) (.type "float")
  | lst {a : Addr} {xs : List V} (e : H a = some (.lst xs)) : TyOf K H (.ref a) (.type "list")
  | frz {a : Addr} {o : Obj} {xs : List V} (e : H a = some (.frz o (.lst xs))) : TyOf K H (.ref a) (.type "list")
  | tup {a : Addr} {xs : List V} (e : H a = some (.tup xs)) : TyOf K H (.ref a) (.type "tuple")
  | dK {a : Addr} {kvs : List (Key × V)} (e : H a = some (.dK kvs)) : TyOf K H (.ref a) (.type "dict")
  | dT {a : Addr} {kvs : List (List Key × V)} (e : H a = some (.dT kvs)) : TyOf K H (.ref a) (.type "dict")
  | ins {a C dx : Addr} {fs : List (Str × V)} (e : H a = some (.ins C dx fs)) (cl : Cls K C) (ha : PySem.W.findIn K (.ref C) "__class__" = some (some (.builtin "object.__class__")))
      (hn : PySem.W.specialIn K (.builtin "object.__class__") "__get__" = some (some (.builtin "getset_descriptor.__get__"))) (htk : PySem.W.takesIn K (.builtin "object.__class__") = some true)
      (hm : PySem.W.mroIn K C (.type "object") = some true) : TyOf K H (.ref a) (.ref C)
theorem isinst_ok {x : V} {u t : Value} (I : Inv X pins σ H s) (rx : RelV x u) (ty : TyOf X.K H x t) (e : PySem.W.kitOne X.K t c = some b) (h : ∀ tk, Q (.bool b) { s with toks := tk }) :
    wpAny (model X.prog X.w) A (call (.builtin "isinstance") [u, c]) Q E s := by
  cases ty with
  | non => cases (show u = Value.none from rx); exact PySem.W.kia_one PySem.W.kitx_none I.kIn True.intro e (fun z => nomatch z) h
  | bl y => cases (show u = Value.bool y from rx); exact PySem.W.kia_one PySem.W.kitx_bool I.kIn True.intro e (fun z => nomatch z) h
  | int i => obtain ⟨t, q⟩ := (show ∃ t, u = Value.int i t from rx); cases q; exact PySem.W.kia_one PySem.W.kitx_int I.kIn True.intro e (fun z => nomatch z) h
  | str y => obtain ⟨t, q⟩ := (show ∃ t, u = Value.str y t from rx); cases q; exact PySem.W.kia_one PySem.W.kitx_str I.kIn True.intro e (fun z => nomatch z) h
  | flt y => obtain ⟨t, q⟩ := (show ∃ t, u = Value.float y t from rx); cases q; exact PySem.W.kia_one PySem.W.kitx_float I.kIn True.intro e (fun z => nomatch z) h
  | @lst a xs ea =>
    cases (show u = Value.ref a from rx)
    obtain ⟨_, _, n, _, h1⟩ := (show ObjOk X.prog X.w H s.heap a (.lst xs) from I.hok a _ ea)
    exact PySem.W.kia_one PySem.W.kitx_list I.kIn ⟨_, h1, rfl⟩ e (fun z => nomatch z) h
  | @frz a ob xs ea =>
    cases (show u = Value.ref a from rx)
    obtain ⟨_, _, _, n, _, h1⟩ := (show ObjOk X.prog X.w H s.heap a (.frz ob (.lst xs)) from I.hok a _ ea)
    exact PySem.W.kia_one PySem.W.kitx_list I.kIn ⟨_, h1, rfl⟩ e (fun z => nomatch z) h
  | @tup a xs ea =>
    cases (show u = Value.ref a from rx)
    obtain ⟨_, _, _, p⟩ := (show ObjOk X.prog X.w H s.heap a (.tup xs) from I.hok a _ ea)
    obtain ⟨o, h1, h2, _⟩ := p
    exact PySem.W.kia_one PySem.W.kitx_tuple I.kIn ⟨o, h1, h2⟩ e (fun z => nomatch z) h
  | @dK a kvs ea =>
    cases (show u = Value.ref a from rx)
    obtain ⟨_, _, vs, _, p⟩ := (show ObjOk X.prog X.w H s.heap a (.dK kvs) from I.hok a _ ea)
    obtain ⟨o, es, ep, h1, h2, _⟩ := p
    exact PySem.W.kia_one PySem.W.kitx_dict I.kIn ⟨o, h1, h2.1⟩ e (fun z => nomatch z) h
  | @dT a kvs ea =>
    cases (show u = Value.ref a from rx)
    obtain ⟨_, _, xs, _, o, es, ep, h1, h2, _⟩ := (show ObjOk X.prog X.w H s.heap a (.dT kvs) from I.hok a _ ea)
    exact PySem.W.kia_one PySem.W.kitx_dict I.kIn ⟨o, h1, h2.1⟩ e (fun z => nomatch z) h
  | @ins a C dx fs ea cl ha hn htk hm =>
    cases (show u = Value.ref a from rx)
    obtain ⟨mA, O, _⟩ := ins_get I.hok ea
    obtain ⟨od, J, _⟩ := O.look
    exact PySem.W.kia_one (PySem.W.kitx_own (cl.get _) cl.hd ha hn htk hm) I.kIn J e (fun z => nomatch z) h
end
end L2
namespace L2
open PySem PySem.Spec PyProof.Rows
structure Room (k : Nat) (A : Around) : Prop where
  hd : A.handled = none
  dp : A.depth + 3 * k + 5 < recursionLimit
  un : A.units + 16 * k + 200 < cLine
theorem Room.mono {j k : Nat} {A : Around} (r : Room k A) (h : j ≤ k) : Room j A := ⟨r.hd, by have := r.dp; omega, by have := r.un; omega⟩
theorem Room.deeper {k : Nat} {A : Around} (r : Room (k + 1) A) (env : Env) : Room k (A.deeper env) :=
  ⟨r.hd, by have := r.dp; show A.depth + 1 + 3 * k + 5 < _; omega, by have := r.un; show A.units + 3 + 16 * k + 200 < _; omega⟩
theorem Room.depth {k : Nat} {A : Around} (r : Room k A) : A.depth < recursionLimit := by have := r.dp; omega
theorem Room.units {k : Nat} {A : Around} (r : Room k A) : A.units + 64 < cLine := by have := r.un; omega
noncomputable def tNil : TA := fun _ H Q => Q [] H
noncomputable def tCons (ta : TE) (tr : TA) : TA := fun σ H Q => ta σ H fun x H1 => tr σ H1 fun xs H2 => Q (x :: xs) H2
section
variable {X : Cx} {e : Expr} {es : List Expr} {te : TE} {t : TA} {pos : Pos}
theorem pa_nil : PA X [] tNil := fun _ _ _ _ H Q I h => Calls.spliced_nil ⟨[], H, I, .nil, h⟩
theorem pa_cons (ha : PE X e te) (hr : PA X es t) (hs : starEach (e :: es) X.env = (false, eval e X.env) :: starEach es X.env := by rfl) : PA X (e :: es) (tCons te t) := by
  intro pos pins s σ H Q I h
  rw [hs]
  show wpAny _ _ (spliced ((false, eval e X.env) :: backTo pos (starEach es X.env))) _ _ s
  refine Calls.spliced_cons (thn (ha pins s σ H _ I h) fun u s1 ⟨x, H1, I1, r1, q1⟩ => ?_)
  exact thn (hr pos pins s1 σ H1 _ I1 q1) fun us s2 ⟨xs, H2, I2, r2, q2⟩ => ⟨x :: xs, H2, I2, .cons r1 r2, q2⟩
noncomputable def tTup (t : TA) : TE := fun σ H Q => t σ H fun xs H1 => xs.length ≤ sizeLine ∧ ∀ p, H1 p = none → Q (.ref p) (upd H1 p (.tup xs))
noncomputable def tLst (t : TA) : TE := fun σ H Q => t σ H fun xs H1 => xs.length ≤ sizeLine ∧ ∀ p, H1 p = none → Q (.ref p) (upd H1 p (.lst xs))
theorem pe_tup {x1} (h : PA X es t) : PE X (.Tuple es x1 pos) (tTup t) := by
  intro pins s σ H Q I hq
  refine wpAny_Tuple_spliced (thn (h pos pins s σ H _ I hq) fun us s1 ⟨xs, H1, I1, r, z, q⟩ => ⟨by rw [← r.length]; exact z, ?_⟩)
  have hf : H1 s1.heap.objs.size = none := I1.hok.fresh (Nat.le_refl _)
  refine ⟨.ref s1.heap.objs.size, upd H1 s1.heap.objs.size (.tup xs), I1.laid (t' := s1.toks) (fun b u e => Heap.get?_push_of_some _ e) (Nat.le_refl _) ?_, rfl, q _ hf⟩
  exact ⟨z, us, r, ⟨_, Heap.get?_push_size _ rfl, rfl, _, rfl⟩⟩
theorem pe_lst (h : PA X es t) : PE X (.List es pos) (tLst t) := by
  intro pins s σ H Q I hq
  refine wpAny_List_spliced (thn (h pos pins s σ H _ I hq) fun us s1 ⟨xs, H1, I1, r, z, q⟩ => ⟨by rw [← r.length]; exact z, ?_⟩)
  have hf : H1 s1.heap.objs.size = none := I1.hok.fresh (Nat.le_refl _)
  refine ⟨.ref s1.heap.objs.size, upd H1 s1.heap.objs.size (.lst xs), I1.laid (t' := s1.toks) (fun b u e => Heap.get?_push_of_some _ e) (Nat.le_refl _) ?_, rfl, q _ hf⟩
  exact ⟨z, us, 0, r, Heap.get?_push_size _ rfl⟩
end
noncomputable abbrev Sp := List V → Hp → VK → XK → Prop
noncomputable abbrev CXT := List Env → Hp → Shared → XK → Value → Shared → Prop
structure Env0 (P : Program) (w : World) (K : PySem.W.Frag) (mg : Str → Option Value) (base : Heap) (A : Around) (outer : List Env) (s : Shared) (H : Hp) : Prop where
  frames : A.frames = some outer
  mod : Mod K mg base
  bs : ∀ b o, base.get? b = some o → s.heap.get? b = some o ∧ H b = none
  bsz : base.objs.size ≤ s.heap.objs.size
  funs : s.heap.FunFrames base outer
  frf : ∀ b ∈ frs outer, H b = none
  hok : HOk P w H s.heap
  bare : AllBare s.gens
noncomputable def CE (outer : List Env) (P : Program) (w : World) (H : Hp) (s : Shared) (Q : VK) (u : Value) (s' : Shared) : Prop :=
  ∃ v H', s'.os = s.os ∧ AllBare s'.gens ∧ Un (frs outer) [] H H' s.heap s'.heap ∧ HOk P w H' s'.heap ∧ RelV v u ∧ Q v H'
noncomputable def CR (CX : CXT) (outer : List Env) (P : Program) (w : World) (H : Hp) (s : Shared) (Q : VK) (E : XK) (r : Result) (s' : Shared) : Prop :=
  match r with
  | .ok (.ret u) => CE outer P w H s Q u s'
  | .ok _ => False
  | .error e => CX outer H s E e s'
structure FnOk (P : Program) (w : World) (K : PySem.W.Frag) (mg : Str → Option Value) (base : Heap) (CX : CXT) (k : Nat) (f : Addr) (fd : FuncData) (ps : List Str) (sp : Sp) : Prop where
  len : ∀ vs H Q E, sp vs H Q E → vs.length = ps.length
  run : ∀ (A : Around) (outer : List Env) (s : Shared) (H : Hp) (args : Args) (us : List Value) (vs : List V) (Q : VK) (E : XK), Room k A → Env0 P w K mg base A outer s H → BindsTo s fd args (ps.zip us) → Vals vs us → sp vs H Q E →
    codeAny (model P w) A (.call (.ref f) args) (CR CX outer P w H s Q E) s
section
variable {X : Cx} {pins : List (Addr × Obj)} {σ : St} {H : Hp} {s s' : Shared}
theorem Inv.env0 (I : Inv X pins σ H s) : Env0 X.prog X.w X.K X.mg X.base X.A X.stack s H :=
  ⟨I.ok.frames, I.ok.mod, I.bs, Nat.le_trans I.ok.bsz I.sz, I.stack, I.stkFree, I.hok, I.bare⟩
theorem Inv.after {Q : VK} {u : Value} (I : Inv X pins σ H s) (h : CE X.stack X.prog X.w H s Q u s') : EP X pins σ Q u s' := by
  obtain ⟨v, H', os, bare, un, hok, r, q⟩ := h
  obtain ⟨hh, g, d, t, os'⟩ := s'
  obtain rfl : os' = s.os := os
  exact ⟨v, H', I.call (h' := hh) (g' := g) (d' := d) (t' := t) (ch := []) un hok bare (fun b z => absurd z (by simp)), r, q⟩
end
noncomputable def tCall (sp : Sp) (dvs : List V) (E : XK) (t : TA) : TE := fun σ H Q => t σ H fun vs H1 => sp (vs ++ dvs) H1 Q E
noncomputable def tMeth (C : Addr) (m : Str) (sp : Sp) (dvs : List V) (E : XK) (ta : TE) (t : TA) : TE := fun σ H Q => ta σ H fun x H1 => ∃ a dx fs, x = .ref a ∧ H1 a = some (.ins C dx fs) ∧ fs.lookup m = none ∧
  t σ H1 fun vs H2 => sp (x :: (vs ++ dvs)) H2 Q E
noncomputable def tMake (C : Addr) (sp : Sp) (dvs : List V) (E : XK) (t : TA) : TE := fun σ H Q => t σ H fun vs H1 => ∀ x dx, H1 x = none → H1 dx = none → dx ≠ x →
  sp (.ref x :: (vs ++ dvs)) (upd (upd H1 dx (.own x)) x (.ins C dx [])) (fun v H2 => v = .non ∧ Q (.ref x) H2) E
noncomputable def Binds (K : PySem.W.Frag) (fd : FuncData) (ps : List Str) (ds : List Value) : Prop :=
  ∀ (s : Shared) (us : List Value), K.In s.heap → (us ++ ds).length = ps.length → BindsTo s fd ⟨us, []⟩ (ps.zip (us ++ ds))
theorem Binds.all {K : PySem.W.Frag} {fd : FuncData} {ps : List Str} (h : ∀ us : List Value, us.length = ps.length → bindArgs fd ⟨us, []⟩ = pure (ps.zip us)) : Binds K fd ps [] := fun s us _ hl => by
  rw [List.append_nil] at hl ⊢
  exact .of_eq (h us hl)
noncomputable def Passes (CX : CXT) (X : Cx) (E : XK) : Prop := ∀ (pins : List (Addr × Obj)) (σ : St) (H : Hp) (s : Shared) (e : Value) (s' : Shared), Inv X pins σ H s → CX X.stack H s E e s' → X.xe e s'
section
variable {X : Cx} {CX : CXT} {k : Nat} {f C : Addr} {fd : FuncData} {ps : List Str} {sp : Sp} {dvs : List V} {ds : List Value} {E : XK} {x m : Str} {p pos apos : Pos} {e o : Expr} {es : List Expr} {ta : TE} {t : TA}
theorem run_fn {pins : List (Addr × Obj)} {σ : St} {H : Hp} {s : Shared} {Q : VK} {us : List Value} {vs : List V} (F : FnOk X.prog X.w X.K X.mg X.base CX k f fd ps sp) (hr : Room k X.A) (hb : Binds X.K fd ps ds) (hd : Vals dvs ds) (hx : Passes CX X E)
    (I : Inv X pins σ H s) (r : Vals vs us) (h : sp (vs ++ dvs) H Q E) : wpAny (model X.prog X.w) X.A (call (.ref f) us) (EP X pins σ Q) X.xe s := by
  have r2 : Vals (vs ++ dvs) (us ++ ds) := r.append hd
  have hl : (us ++ ds).length = ps.length := by rw [← r2.length]; exact F.len _ _ _ _ h
  refine wpAny_call (codeAny_mono (F.run X.A X.stack s H ⟨us, []⟩ (us ++ ds) (vs ++ dvs) Q E hr I.env0 (hb s us I.kIn hl) r2 h) fun r s' hq => ?_)
  cases r with
  | error e => exact hx pins σ H s e s' I hq
  | ok fl =>
    cases fl with
    | ret u => exact I.after hq
    | next => exact False.elim hq
    | brk => exact False.elim hq
    | cont => exact False.elim hq
theorem pe_call (F : FnOk X.prog X.w X.K X.mg X.base CX k f fd ps sp) (hr : Room k X.A) (hg : Gl X x) (hm : X.mg x = some (.ref f)) (hk : PySem.W.keepIn X.K (.ref f) = true) (hb : Binds X.K fd ps ds) (hd : Vals dvs ds) (hx : Passes CX X E)
    (ha : PA X (e :: es) t) (hdb : (x == ("__debug__" : Str)) = false := by decide) (he : starEach (e :: es) X.env = (false, eval e X.env) :: starEach es X.env := by rfl) (hpl : (backTo pos (starEach es X.env)).any (·.1) = false := by rfl) :
    PE X (.Call (.Name x p) (e :: es) [] pos) (tCall sp dvs E t) := by
  intro pins s σ H Q I h
  refine wpAny_Call_Name_kw (ld_glob I hg hm ?_ hdb)
  refine PySem.W.callWith_K (h₀ := X.base) I.ok.mod.kin hk (thn (ha pos pins s σ H _ I h) fun us s1 ⟨vs, H1, I1, r, q⟩ => ⟨I1.kIn, ?_⟩) he hpl
  exact run_fn F hr hb hd hx I1 r q
structure Mk (K : PySem.W.Frag) (C f : Addr) : Prop where
  makes : PySem.W.makesIn K C = true
  init : PySem.W.findIn K (.ref C) "__init__" = some (some (.ref f))
  fn : PySem.W.isFn K (.ref f) = true
  kp : PySem.W.keepIn K (.ref C) = true
end
section
variable {X : Cx} {CX : CXT} {k : Nat} {f C : Addr} {fd : FuncData} {ps ks : List Str} {sp : Sp} {E : XK} {x m : Str} {p pos apos kpos : Pos} {e o : Expr} {es : List Expr} {kws : List Keyword} {te ta : TE} {t tk : TA} {nm : Option Str}
structure KBinds (K : PySem.W.Frag) (fd : FuncData) (ps ks : List Str) (g : List Value → List Value → List Value) (gV : List V → List V → List V) : Prop where
  to : ∀ (s : Shared) (us ws : List Value), K.In s.heap → (g us ws).length = ps.length → BindsTo s fd ⟨us, ks.zip ws⟩ (ps.zip (g us ws))
  rel : ∀ {vs : List V} {us : List Value} {zs : List V} {ws : List Value}, Vals vs us → Vals zs ws → Vals (gV vs zs) (g us ws)
variable {g : List Value → List Value → List Value} {gV : List V → List V → List V}
end
structure FnScope (N P : List Str) (sc : Scope) : Prop where
  kind : sc.kind = .function
  co : sc.isCoroutine = false
  gen : sc.isGenerator = false
  nd : N.Nodup
  pre : N.take P.length = P
  par : ∀ x ∈ P, sc.names.lookup x = some .local ∨ sc.names.lookup x = some .cell
  nofree : ∀ y ∈ sc.names, y.2 ≠ .free
theorem bindL_out {kindOf : Str → Option NameKind} {x : Str} : ∀ {binds : List (Str × Value)} {m : Str → Option Value}, (∀ v, (x, v) ∉ binds) → bindL kindOf binds m x = m x
  | [], _, _ => rfl
  | (n, v) :: r, m, h => by
    unfold bindL
    rw [bindL_out fun w hw => h w (List.mem_cons_of_mem _ hw)]
    split
    · have : x ≠ n := by rintro rfl; exact h v List.mem_cons_self
      simp [this]
    · rfl
theorem bindC_out {kindOf : Str → Option NameKind} {x : Str} : ∀ {binds : List (Str × Value)} {m : Str → Option Value}, (∀ v, (x, v) ∉ binds) → bindC kindOf binds m x = m x
  | [], _, _ => rfl
  | (n, v) :: r, m, h => by
    unfold bindC
    rw [bindC_out fun w hw => h w (List.mem_cons_of_mem _ hw)]
    split
    · rfl
    · have : x ≠ n := by rintro rfl; exact h v List.mem_cons_self
      simp [this]
theorem bindL_get {kindOf : Str → Option NameKind} {x : Str} {v : Value} : ∀ {P : List Str} {vs : List Value} {i : Nat} {m : Str → Option Value}, P.Nodup → P[i]? = some x → vs[i]? = some v → kindOf x = some .local →
    bindL kindOf (P.zip vs) m x = some v
  | [], _, _, _, _, h, _, _ => by simp at h
  | _ :: _, [], _, _, _, _, h, _ => by simp at h
  | p :: P, w :: vs, 0, m, nd, h1, h2, hk => by
    simp at h1 h2; subst h1; subst h2
    show bindL kindOf ((p, w) :: P.zip vs) m p = _
    unfold bindL
    rw [bindL_out fun v hv => (List.nodup_cons.mp nd).1 (List.of_mem_zip hv).1, if_pos hk]
    simp
  | p :: P, w :: vs, i + 1, m, nd, h1, h2, hk => by
    show bindL kindOf ((p, w) :: P.zip vs) m x = _
    unfold bindL
    exact bindL_get (i := i) (List.nodup_cons.mp nd).2 (by simpa using h1) (by simpa using h2) hk
theorem bindC_get {kindOf : Str → Option NameKind} {x : Str} {v : Value} : ∀ {P : List Str} {vs : List Value} {i : Nat} {m : Str → Option Value}, P.Nodup → P[i]? = some x → vs[i]? = some v → kindOf x ≠ some .local →
    bindC kindOf (P.zip vs) m x = some v
  | [], _, _, _, _, h, _, _ => by simp at h
  | _ :: _, [], _, _, _, _, h, _ => by simp at h
  | p :: P, w :: vs, 0, m, nd, h1, h2, hk => by
    simp at h1 h2; subst h1; subst h2
    show bindC kindOf ((p, w) :: P.zip vs) m p = _
    unfold bindC
    rw [bindC_out fun v hv => (List.nodup_cons.mp nd).1 (List.of_mem_zip hv).1, if_neg hk]
    simp
  | p :: P, w :: vs, i + 1, m, nd, h1, h2, hk => by
    show bindC kindOf ((p, w) :: P.zip vs) m x = _
    unfold bindC
    exact bindC_get (i := i) (List.nodup_cons.mp nd).2 (by simpa using h1) (by simpa using h2) hk
noncomputable def start (N : List Str) (vs : List V) : St := vs.map some ++ List.replicate (N.length - vs.length) none
noncomputable def cxOf (CX : CXT) (P : Program) (w : World) (K : PySem.W.Frag) (mg : Str → Option Value) (base : Heap) (N : List Str) (qual : Str) (scope : Scope) (f : Addr) (cd : Value) (A : Around) (outer : List Env) (s : Shared) (H : Hp) (E : XK) : Cx where
  prog := P
  w := w
  K := K
  mg := mg
  base := base
  A := A.deeper (envOfC qual scope s.heap.objs.size f cd)
  N := N
  s₀ := s
  H₀ := H
  env := envOfC qual scope s.heap.objs.size f cd
  outer := outer
  stack := envOfC qual scope s.heap.objs.size f cd :: outer
  ex := []
  calm := true
  fn := fun _ => true
  pn := []
  xe := fun e s' => wpAny (model P w) (A.deeper (envOfC qual scope s.heap.objs.size f cd)) (leaving (envOfC qual scope s.heap.objs.size f cd) e) (fun _ s'' => CX outer H s E e s'') (fun e' s'' => CX outer H s E e' s'') s'
theorem cell_has {sc : Scope} {n : Nat} {x : Str} (h : sc.names.lookup x = some .cell) : ∃ c, (cellsFrom n sc.names []).lookup x = some c := by
  have q := PySem.W.cellsFrom_some sc.names n [] (.inl h)
  exact Option.isSome_iff_exists.mp q
theorem inv_start {CX : CXT} {P : Program} {w : World} {K : PySem.W.Frag} {mg : Str → Option Value} {base : Heap} {N ps : List Str} {qual : Str} {scope : Scope} {f : Addr} {cd : Value} {A : Around} {outer : List Env} {s s1 : Shared} {H : Hp} {E : XK} {us : List Value} {vs : List V}
    (S : FnScope N ps scope) (hd : A.handled = none) (e0 : Env0 P w K mg base A outer s H) (hl : vs.length = ps.length) (r : Vals vs us)
    (x : InCallC s s.heap.objs.size (bindL (envOfC qual scope s.heap.objs.size f cd).kindOf (ps.zip us) fun _ => none) (cellsFrom (s.heap.objs.size + 1) scope.names []) (bindC (envOfC qual scope s.heap.objs.size f cd).kindOf (ps.zip us) fun _ => none) s1) :
    Inv (cxOf CX P w K mg base N qual scope f cd A outer s H E) [] (start N vs) H s1 := by
  have hpl : ps.length ≤ N.length := by have := congrArg List.length S.pre; rw [List.length_take] at this; omega
  obtain ⟨h1, tk, rfl, hk⟩ := x.done
  have noA : ∀ b : Addr, b ∉ (cxOf CX P w K mg base N qual scope f cd A outer s H E).ex := fun b z => absurd (show b ∈ ([] : List Addr) from z) (by simp)
  refine ⟨⟨e0.mod, S.kind, rfl, rfl, Nat.le_refl _, fun y z c h1 h2 => ?_, fun y hy => ?_, fun y c _ h => ?_, fun _ => hd, Around.frames_deeper e0.frames, .inr ⟨rfl, rfl⟩, fun b z => absurd z (noA b), e0.bs, e0.bsz, fun b _ _ => noA b, fun b z => absurd z (noA b), e0.funs, e0.frf⟩,
    rfl, e0.bare, Un.kept hk, ⟨_, x.toInCall.ns, fun i y v h1 h2 h3 => ?_⟩, fun y c h => ⟨_, x.cell y c h⟩, e0.hok.fresh (Nat.le_refl _), fun y c h => ?_, fun p hp => absurd (show p ∈ ([] : List (Addr × Obj)) from hp) (by simp), e0.hok.kept hk, ?_⟩
  · exact name_of_addr x.apart (PySem.mem_of_lookup h1) (PySem.mem_of_lookup h2)
  · have hy : scope.names.lookup y = some .cell ∨ scope.names.lookup y = some .free := hy
    rcases hy with hy | hy
    · exact cell_has hy
    · exact absurd rfl (S.nofree _ (PySem.mem_of_lookup hy))
  · exact Nat.le_of_lt (x.above y c (PySem.mem_of_lookup h))
  · have hi : i < vs.length := by
      unfold start at h2
      by_cases hi : i < vs.length
      · exact hi
      · rw [List.getElem?_append_right (by simpa using hi)] at h2
        rw [List.getElem?_replicate] at h2
        split at h2 <;> cases h2
    have ha : vs[i]? = some v := by
      unfold start at h2
      rw [List.getElem?_append_left (by simpa using hi), List.getElem?_map] at h2
      cases e : vs[i]? with
      | none => rw [e] at h2; cases h2
      | some a => rw [e] at h2; cases h2; rfl
    obtain ⟨u, hu, rv⟩ := r.get ha
    have hp : ps[i]? = some y := by
      rw [← S.pre, List.getElem?_take_of_lt (by omega)]; exact h1
    have ndP : ps.Nodup := by rw [← S.pre]; exact S.nd.sublist (List.take_sublist _ _)
    refine ⟨u, rv, ?_⟩
    rcases S.par y (List.mem_of_getElem? hp) with k | k
    · exact .inl ⟨k, bindL_get ndP hp hu k⟩
    · obtain ⟨c, e⟩ := cell_has (n := s.heap.objs.size + 1) k
      refine .inr ⟨.inl k, c, e, ?_⟩
      have q := x.cell y c e
      rw [bindC_get ndP hp hu (by show scope.names.lookup y ≠ _; rw [k]; decide)] at q
      exact q
  · exact e0.hok.fresh (Nat.le_of_lt (x.above y c (PySem.mem_of_lookup h)))
  · unfold start
    show _ = N.length
    rw [List.length_append, List.length_map, List.length_replicate]
    omega
theorem fn_of {CX : CXT} {P : Program} {w : World} {K : PySem.W.Frag} {mg : Str → Option Value} {base : Heap} {k : Nat} {f : Addr} {name qual : Str} {params : Arguments} {body : List Stmt} {scope : Scope} {dV kV doc pm cdv ct oc : Value} {an od : Option Addr}
    {osl : Array (Option Value)} {N ps : List Str} {sp : Sp} (lk : K.lookup f = some ⟨oc, od, .func (PySem.W.fnOf name qual params body scope dV kV doc pm an cdv ct), osl⟩) (hcd : PySem.W.codeIn K cdv qual = true) (S : FnScope N ps scope)
    (len : ∀ vs H Q E, sp vs H Q E → vs.length = ps.length)
    (hbody : ∀ (A : Around) (outer : List Env) (s : Shared) (H : Hp) (vs : List V) (Q : VK) (E : XK), Room k (A.deeper (envOfC qual scope s.heap.objs.size f cdv)) → sp vs H Q E →
      ∃ t, PSs (cxOf CX P w K mg base N qual scope f cdv A outer s H E) body t ∧ t { nx := fun _ H' => Q .non H', rt := Q } (start N vs) H) :
    FnOk P w K mg base CX (k + 1) f (PySem.W.fnOf name qual params body scope dV kV doc pm an cdv ct) ps sp := by
  refine ⟨len, fun A outer s H args us vs Q E hr e0 hb r hsp => ?_⟩
  have hl := len _ _ _ _ hsp
  have KX : K.In s.heap := e0.mod.kin.keeps fun b o e => (e0.bs b o e).1
  have lim : s.heap.NoLimit := e0.mod.nolimit.keeps fun b o e => (e0.bs b o e).1
  have hkind : ∀ y ∈ ps.zip us, scope.names.lookup y.1 = some .local ∨ (scope.names.lookup y.1 = some .cell ∧ ((cellsFrom (s.heap.objs.size + 1) scope.names []).lookup y.1).isSome = true) := fun ⟨n, v⟩ hy => by
    rcases S.par n (List.of_mem_zip hy).1 with q | q
    · exact .inl q
    · exact .inr ⟨q, PySem.W.cellsFrom_some _ _ _ (.inl q)⟩
  refine codeAny_call_function hr.depth (KX _ _ lk) rfl S.co S.gen rfl (PySem.W.codeRec_of KX hcd) (hb _ _ _ _ ?_)
  refine wpAny_newFunctionEnv_cells S.kind hkind fun env he s1 x => ?_
  subst he
  refine ⟨lim.keeps x.toInCall.keep, codeAny_func ?_⟩
  obtain ⟨t, ht, hq⟩ := hbody A outer s H vs Q E (hr.deeper _) hsp
  have I : Inv (cxOf CX P w K mg base N qual scope f cdv A outer s H E) [] (start N vs) H s1 := inv_start S hr.hd e0 hl r x
  refine wpAny_mono (ht [] s1 (start N vs) H _ I hq) (fun fl s' hs => ?_) fun e s' hs => hs
  have fin : ∀ {σ' : St} {H' : Hp} {v : V} {u : Value}, Inv (cxOf CX P w K mg base N qual scope f cdv A outer s H E) [] σ' H' s' → RelV v u → Q v H' → CE outer P w H s Q u s' :=
    fun {σ' H' v u} J rv q => ⟨v, H', J.os, J.bare, J.base, J.hok, rv, q⟩
  cases fl with
  | ret u =>
    obtain ⟨v, σ', H', J, rv, q⟩ := hs
    exact fin J rv q
  | next =>
    obtain ⟨σ', H', J, q⟩ := hs
    exact fin (v := V.non) (u := Value.none) J rfl q
  | brk =>
    obtain ⟨_, _, _, q⟩ := hs
    exact False.elim q
  | cont =>
    obtain ⟨_, _, _, q⟩ := hs
    exact False.elim q
end L2
namespace L2
open PySem PySem.Spec PyProof.Rows
section
variable {X : Cx} {x : Str} {p pos : Pos} {e : Expr} {es : List Expr} {t : TA} {id T : String} {r : List V → Hp → VK → Prop}
noncomputable def tCB (r : List V → Hp → VK → Prop) (t : TA) : TE := fun σ H Q => t σ H fun vs H1 => r vs H1 Q
theorem pe_callB (hc : CallR X (.builtin id) r) (hg : Gl X x) (hm : X.mg x = none) (hv : bootBuiltins x = some (.builtin id)) (ha : PA X (e :: es) t) (hn : x ≠ "__name__" := by decide) (hdb : (x == ("__debug__" : Str)) = false := by decide)
    (he : starEach (e :: es) X.env = (false, eval e X.env) :: starEach es X.env := by rfl) (hpl : (backTo pos (starEach es X.env)).any (·.1) = false := by rfl) : PE X (.Call (.Name x p) (e :: es) [] pos) (tCB r t) := by
  intro pins s σ H Q I h
  refine wpAny_Call_Name_kw (ld_blt I hg hm hv ?_ hn hdb)
  exact PyProof.Rows.callWith_builtin1 (thn (ha pos pins s σ H _ I h) fun us s1 ⟨vs, H1, I1, r1, q1⟩ => hc pins s1 σ H1 vs us Q I1 r1 q1) he hpl
theorem pe_callTy (hc : CallR X (.type T) r) (hg : Gl X x) (hm : X.mg x = none) (hv : bootBuiltins x = some (.type T)) (ha : PA X (e :: es) t) (hn : x ≠ "__name__" := by decide) (hdb : (x == ("__debug__" : Str)) = false := by decide)
    (he : starEach (e :: es) X.env = (false, eval e X.env) :: starEach es X.env := by rfl) (hpl : (backTo pos (starEach es X.env)).any (·.1) = false := by rfl) : PE X (.Call (.Name x p) (e :: es) [] pos) (tCB r t) := by
  intro pins s σ H Q I h
  refine wpAny_Call_Name_kw (ld_blt I hg hm hv ?_ hn hdb)
  exact PyProof.Rows.callWith_type1 (thn (ha pos pins s σ H _ I h) fun us s1 ⟨vs, H1, I1, r1, q1⟩ => hc pins s1 σ H1 vs us Q I1 r1 q1) he hpl
end
end L2
namespace HT
open PySem PyProof.Rows
section
open PySem.SeqAt
open PySem.AutoSeq1 (wpAny_loadPart')
open PySem.MeetsSeq PySem.MeetsSeq2 PySem.MeetsSeq3
end
section
variable {prog : Program} {w : World} {A : Around} {E : Value → Shared → Prop} {s : Shared}
theorem cat_tup {t b : Addr} {vs ws : List Value} {Q : Value → Shared → Prop} (ht : IsTup s.heap t vs.toArray) (hb : IsTup s.heap b ws.toArray) (hv : vs ≠ [])
    (h1 : ws = [] → Q (.ref t) s) (h2 : ws ≠ [] → Q (.ref s.heap.objs.size) { s with heap := s.heap.push { cls := .type "tuple", data := .seq (vs ++ ws).toArray } })
    (hsz : vs.length + ws.length ≤ sizeLine) : wpAny (model prog w) A (binaryOp .Add (.ref t) (.ref b)) Q E s := by
  obtain ⟨⟨cls, dd, data, sl⟩, ho, hc, n, hd⟩ := id ht
  obtain ⟨⟨cls2, dd2, data2, sl2⟩, ho2, hc2, n2, hd2⟩ := id hb
  simp only at hc hd hc2 hd2
  subst hc hd hc2 hd2
  have e : vs.toArray ++ ws.toArray = (vs ++ ws).toArray := by simp
  by_cases hw : ws = []
  · exact concat_meets ⟨_, ho, rfl⟩ ⟨_, ho2, rfl⟩ noFill_tuple_add seq_tuple_add PySem.F.slot_tuple_add PySem.F.entry_tuple_add (PySem.F.args_tuple_add_2 _ _)
      (tuple_addW1 t b vs.toArray ws.toArray n n2 dd dd2 sl sl2 (by simpa using hv) (by simp [hw])) ⟨ho, ho2, h1 hw⟩
  · refine concat_meets ⟨_, ho, rfl⟩ ⟨_, ho2, rfl⟩ noFill_tuple_add seq_tuple_add PySem.F.slot_tuple_add PySem.F.entry_tuple_add (PySem.F.args_tuple_add_2 _ _)
      (tuple_addW2 t b vs.toArray ws.toArray n n2 dd dd2 sl sl2 (by simpa using hv) (by simpa using hw) (by rw [List.size_toArray, List.size_toArray]; exact hsz)) ⟨ho, ho2, ?_⟩
    rw [e]
    exact h2 hw
noncomputable def sIx (n d : Nat) : Option Int → Nat
  | none => d
  | some v => if v < 0 then (v + (n : Int)).toNat else min v.toNat n
theorem sIx_le (n d : Nat) (hd : d ≤ n) (o : Option Int) : sIx n d o ≤ n := by
  cases o with
  | none => exact hd
  | some v =>
    show (if v < 0 then (v + (n : Int)).toNat else min v.toNat n) ≤ n
    by_cases hv : v < 0
    · rw [if_pos hv]; omega
    · rw [if_neg hv]; exact Nat.min_le_right _ _
theorem clip_eq (v : Int) (n d : Nat) : (if v < 0 then max (v + (n : Int)) 0 else min v (n : Int)) = ((sIx n d (some v) : Nat) : Int) := by
  show (if v < 0 then max (v + (n : Int)) 0 else min v (n : Int)) = (((if v < 0 then (v + (n : Int)).toNat else min v.toNat n) : Nat) : Int)
  by_cases hv : v < 0
  · simp only [if_pos hv]; omega
  · simp only [if_neg hv]; omega
theorem adjust_gen (lo hi : Option Int) (n : Nat) : Builtin.Slice.sliceAdjust lo hi 1 (n : Int) = (((sIx n 0 lo : Nat) : Int), ((sIx n n hi : Nat) : Int)) := by
  have h1 : ¬ ((1 : Int) < 0) := by omega
  unfold Builtin.Slice.sliceAdjust
  simp only [h1, if_false]
  refine Prod.ext ?_ ?_
  · cases lo with
    | none => rfl
    | some v => exact clip_eq v n 0
  · cases hi with
    | none => rfl
    | some v => exact clip_eq v n n
theorem places_gen (i j : Nat) : Builtin.Slice.slicePlaces (i : Int) (j : Int) 1 = j - i := by
  unfold Builtin.Slice.slicePlaces
  have h1 : (1 : Int) > 0 := by omega
  simp only [h1, if_true, Int.ediv_one]
  split <;> omega
theorem slicePart_ {v : Value} {o : Option Int} {Q : Option Int → Shared → Prop} (p : IsPart v o) (h : Q o s) : wpAny (model prog w) A (Builtin.Slice.slicePartIndex v) Q E s := by
  cases p with
  | none => exact slicePart_none h
  | int i t => exact slicePart_int h
theorem sliceApplied_gen {sl : Addr} {vl vu : Value} {lo hi : Option Int} {n : Nat} {Q : Int × Int × Nat → Shared → Prop} (hs : s.heap.IsSliceOf sl vl vu .none) (pl : IsPart vl lo) (pu : IsPart vu hi)
    (h : Q (((sIx n 0 lo : Nat) : Int), 1, sIx n n hi - sIx n 0 lo) s) : wpAny (model prog w) A (Builtin.Slice.sliceApplied (.ref sl) (pure (n : Int))) Q E s := by
  obtain ⟨os, hos, hcs, hds⟩ := id hs
  unfold Builtin.Slice.sliceApplied Builtin.Slice.sliceFields
  refine wpAny_bind (wpAny_bind (wpAny_field hos hds (x := vl) rfl (wpAny_bind (wpAny_field hos hds (x := vu) rfl (wpAny_bind (wpAny_field hos hds (x := .none) rfl (wpAny_pure ?_)))))))
  refine wpAny_bind (slicePart_none ?_)
  show wpAny _ _ (if ((1 : Int) == 0) = true then _ else _) _ _ s
  rw [if_neg (by decide)]
  refine wpAny_bind (slicePart_ pl (wpAny_bind (slicePart_ pu (wpAny_bind (wpAny_pure ?_)))))
  show wpAny _ _ (match Builtin.Slice.sliceAdjust lo hi 1 (n : Int) with | (lo, hi) => pure (lo, (1 : Int), Builtin.Slice.slicePlaces lo hi 1)) _ _ s
  rw [adjust_gen lo hi n]
  show wpAny _ _ (pure (((sIx n 0 lo : Nat) : Int), (1 : Int), Builtin.Slice.slicePlaces ((sIx n 0 lo : Nat) : Int) ((sIx n n hi : Nat) : Int) 1)) _ _ s
  rw [places_gen]
  exact wpAny_pure h
theorem pick_gen (xs : Array Value) (i k : Nat) : ((List.range k).filterMap fun (m : Nat) => xs[((i : Int) + (m : Int) * 1).toNat]?).toArray = ((xs.toList.drop i).take k).toArray := by
  have e : (fun (m : Nat) => xs[((i : Int) + (m : Int) * 1).toNat]?) = fun m => xs[i + m]? := by
    funext m
    have : ((i : Int) + (m : Int) * 1).toNat = i + m := by omega
    rw [this]
  rw [e]
  have := pick_run xs i k
  rw [List.filterMap_map] at this
  have e2 : ((fun x => xs[x]?) ∘ fun x => i + x) = fun m => xs[i + m]? := rfl
  rw [e2] at this
  rw [this]
theorem getItem_tuple_cut {t sl : Addr} {items : Array Value} {vl vu : Value} {lo hi : Option Int} {Q : Value → Shared → Prop} (ht : IsTup s.heap t items) (hs : s.heap.IsSliceOf sl vl vu .none) (pl : IsPart vl lo) (pu : IsPart vu hi)
    (hw : ¬ (sIx items.size 0 lo = 0 ∧ sIx items.size items.size hi = items.size))
    (h : Q (.ref s.heap.objs.size) { s with heap := s.heap.push { cls := .type "tuple", data := .seq ((items.toList.drop (sIx items.size 0 lo)).take (sIx items.size items.size hi - sIx items.size 0 lo)).toArray } })
    (hsz : items.size ≤ sizeLine) : wpAny (model prog w) A (getItem (.ref t) (.ref sl)) Q E s := by
  have htake : sizeOk (.seq ((items.toList.drop (sIx items.size 0 lo)).take (sIx items.size items.size hi - sIx items.size 0 lo)).toArray) := by
    show ((items.toList.drop (sIx items.size 0 lo)).take (sIx items.size items.size hi - sIx items.size 0 lo)).toArray.size ≤ sizeLine
    rw [List.size_toArray, List.length_take, List.length_drop, Array.length_toList]
    omega
  have hj : sIx items.size items.size hi ≤ items.size := sIx_le _ _ (Nat.le_refl _) hi
  obtain ⟨os, hos, hcs, hds⟩ := id hs
  have hTs : s.TypeIs (.ref sl) "slice" := ⟨os, hos, hcs⟩
  unfold getItem
  try with_reducible refine wpAny_holding ?_
  first | refine wpAny_bind (wpAny_pure ?_) | skip
  refine wpAny_bind (wpAny_sequenceKey ht.typeIs (by decide) ?_)
  refine wpAny_bind (wpAny_callSpecial?_slot (name := Str.ofString "__getitem__") ht.typeIs PyProof.Rows.slot_tuple_getitem
    (wpAny_call_entry PyProof.Rows.slot_tuple_getitem ht.typeIs entry_tuple_getitem ?_ (args_tuple_getitem _ _)))
  show wpAny _ _ (Builtin.Tuple.tupleItemsOf (.ref t) >>= _) _ _ s
  refine wpAny_bind (tupleItemsOf_ ht ?_)
  refine wpAny_bind (wpAny_typeOf hTs ?_)
  rw [if_pos (by decide)]
  refine wpAny_bind (sliceApplied_gen hs pl pu ?_)
  have hno : ¬ ((((sIx items.size 0 lo : Nat) : Int) == 0 && (1 : Int) == 1 && (sIx items.size items.size hi - sIx items.size 0 lo) == items.size) = true) := by
    intro q
    rw [Bool.and_eq_true, Bool.and_eq_true] at q
    have q1 : ((sIx items.size 0 lo : Nat) : Int) = 0 := eq_of_beq q.1.1
    have q2 : sIx items.size items.size hi - sIx items.size 0 lo = items.size := eq_of_beq q.2
    exact hw ⟨by omega, by omega⟩
  show wpAny _ _ (if (((sIx items.size 0 lo : Nat) : Int) == 0 && (1 : Int) == 1 && (sIx items.size items.size hi - sIx items.size 0 lo) == items.size) = true then _ else _) _ _ s
  rw [if_neg hno, pick_gen]
  first
    | exact wpAny_bind (m := Builtin.Tuple.tupleExact _) (wpAny_newObj_type (wpAny_pure ⟨_, rfl, wpAny_pure h⟩) htake)
    | exact wpAny_bind (m := Builtin.Tuple.tupleExact _) (wpAny_newObj_type (wpAny_bind (wpAny_pure (wpAny_pure ⟨_, rfl, wpAny_pure h⟩))) htake)
    | exact wpAny_bind (wpAny_bind (m := Builtin.Tuple.tupleExact _) (wpAny_newObj_type (wpAny_pure (wpAny_pure ⟨_, rfl, wpAny_pure h⟩)) htake))
    | exact wpAny_bind (wpAny_bind (m := Builtin.Tuple.tupleExact _) (wpAny_newObj_type (wpAny_pure ⟨_, rfl, wpAny_pure h⟩) htake))
end
end HT
namespace L2
open PySem PySem.Spec PyProof.Rows
noncomputable abbrev TO := St → Hp → (Option Int → Hp → Prop) → Prop
noncomputable def PO (X : Cx) (e : Option Expr) (t : TO) : Prop :=
  ∀ (pins : List (Addr × Obj)) (s : Shared) (σ : St) (H : Hp) (Q : Option Int → Hp → Prop), Inv X pins σ H s → t σ H Q →
    wpAny (model X.prog X.w) X.A (evalPart e X.env) (fun u s' => ∃ o H', Inv X pins σ H' s' ∧ IsPart u o ∧ Q o H') X.xe s
noncomputable def tNoPart : TO := fun _ H Q => Q none H
noncomputable def tPart (t : TE) : TO := fun σ H Q => t σ H fun x H1 => ∃ i, x = .int i ∧ Q (some i) H1
theorem intsAre_of {ns : List Int} : ∀ {us : List Value}, Vals (ns.map V.int) us → IntsAre us ns := by
  induction ns with
  | nil => intro us r; rw [List.map_nil] at r; cases r; exact .nil
  | cons n ns ih =>
    intro us r
    rw [List.map_cons] at r
    cases r with
    | cons r1 r2 =>
      obtain ⟨t, e⟩ := r1
      subst e
      exact .cons n t (ih r2)
section
variable {X : Cx} {e : Expr} {te : TE} {lo hi : Option Expr} {tl th : TO} {pos p2 : Pos}
theorem po_none : PO X none tNoPart := by
  intro pins s σ H Q I h
  rw [evalPart_none]
  exact wpAny_pure ⟨none, H, I, .none, h⟩
theorem po_some (h : PE X e te) : PO X (some e) (tPart te) := by
  intro pins s σ H Q I hw
  rw [evalPart_some]
  refine thn (h pins s σ H _ I hw) fun u s1 ⟨x, H1, I1, r1, q1⟩ => ?_
  obtain ⟨i, rfl, q⟩ := q1
  obtain ⟨t, rfl⟩ := r1
  exact ⟨some i, H1, I1, .int i t, q⟩
noncomputable def SlR (X : Cx) (r : V → Option Int → Option Int → Hp → VK → Prop) : Prop :=
  ∀ (pins : List (Addr × Obj)) (s : Shared) (σ : St) (H : Hp) (x : V) (v vl vu : Value) (lo hi : Option Int) (sl : Addr) (Q : VK), Inv X pins σ H s → RelV x v → s.heap.IsSliceOf sl vl vu .none → IsPart vl lo → IsPart vu hi → r x lo hi H Q →
    ∃ T id, typeLookup (.type T) "__getitem__" = pure (some (.builtin id)) ∧ s.TypeIs v T ∧ wpAny (model X.prog X.w) X.A (getItem v (.ref sl)) (EP X pins σ Q) X.xe s
theorem SlR.or {r r' : V → Option Int → Option Int → Hp → VK → Prop} (h : SlR X r) (h' : SlR X r') : SlR X (fun x lo hi H Q => r x lo hi H Q ∨ r' x lo hi H Q) := by
  intro pins s σ H x v vl vu lo hi sl Q I rx hs pl pu q
  rcases q with q | q
  · exact h pins s σ H x v vl vu lo hi sl Q I rx hs pl pu q
  · exact h' pins s σ H x v vl vu lo hi sl Q I rx hs pl pu q
noncomputable def tSl (r : V → Option Int → Option Int → Hp → VK → Prop) (te : TE) (tl th : TO) : TE := fun σ H Q => te σ H fun x H1 => tl σ H1 fun l H2 => th σ H2 fun u H3 => r x l u H3 Q
theorem pe_slice {r : V → Option Int → Option Int → Hp → VK → Prop} (hr : SlR X r) (he : PE X e te) (hl : PO X lo tl) (hu : PO X hi th) : PE X (.Subscript e (.Slice lo hi none p2) pos) (tSl r te tl th) := by
  intro pins s σ H Q I h
  refine Subscript_ (thn (he pins s σ H _ I h) fun v s1 ⟨x, H1, I1, r1, q1⟩ => ?_)
  refine wpAny_Slice (thn (hl pins s1 σ H1 _ I1 q1) fun vl s2 ⟨l, H2, I2, pl, q2⟩ => thn (hu pins s2 σ H2 _ I2 q2) fun vu s3 ⟨u, H3, I3, pu, q3⟩ => ?_)
  rw [evalPart_none]
  refine wpAny_pure ?_
  have I4 : Inv X pins σ H3 { s3 with heap := s3.heap.push { cls := .type "slice", data := .fields #[vl, vu, .none] } } := I3.kept (t' := s3.toks) fun b ob q => Heap.get?_push_of_some _ q
  obtain ⟨T, id, hT, ht, hg⟩ := hr pins { s3 with heap := s3.heap.push { cls := .type "slice", data := .fields #[vl, vu, .none] } } σ H3 x v vl vu l u s3.heap.objs.size Q I4 r1 (Heap.IsSliceOf.new ..) pl pu q3
  show wpAny (model X.prog X.w) X.A (subscriptTail e (.Slice lo hi none p2) v (.ref s3.heap.objs.size)) (EP X pins σ Q) X.xe { s3 with heap := s3.heap.push { cls := .type "slice", data := .fields #[vl, vu, .none] } }
  exact tail_any (ops := [.ref s3.heap.objs.size, v]) ht hT hg (by with_unfolding_all rfl)
noncomputable def cutV (xs : List V) (lo hi : Option Int) : List V := (xs.drop (HT.sIx xs.length 0 lo)).take (HT.sIx xs.length xs.length hi - HT.sIx xs.length 0 lo)
theorem cutV_length (xs : List V) (lo hi : Option Int) : (cutV xs lo hi).length ≤ xs.length := by
  unfold cutV
  rw [List.length_take, List.length_drop]
  omega
noncomputable def rSlT (K : PySem.W.Frag) : V → Option Int → Option Int → Hp → VK → Prop := fun x lo hi H Q => ∃ a xs, x = .ref a ∧ SqT K H a xs ∧
  ¬ (HT.sIx xs.length 0 lo = 0 ∧ HT.sIx xs.length xs.length hi = xs.length) ∧ ∀ p, H p = none → Q (.ref p) (upd H p (.tup (cutV xs lo hi)))
theorem sl_tup : SlR X (rSlT X.K) := by
  intro pins s σ H x v vl vu lo hi sl Q I rx hs pl pu h
  obtain ⟨a, xs, rfl, hx, hw, q⟩ := h
  cases rx
  obtain ⟨its, r, ht, hz⟩ := I.tuple hx
  have hlen : its.toArray.size = xs.length := by rw [List.size_toArray]; exact r.length.symm
  refine ⟨"tuple", _, PyProof.Rows.slot_tuple_getitem.lookup, ht.typeIs, ?_⟩
  refine HT.getItem_tuple_cut ht hs pl pu (by rw [hlen]; exact hw) ?_ (by rw [hlen]; exact hz)
  rw [hlen]
  refine ⟨.ref s.heap.objs.size, _, I.laid (t' := s.toks) (o := .tup (cutV xs lo hi)) (fun b ob q => Heap.get?_push_of_some _ q) (Nat.le_refl _) ?_, rfl, q _ (I.hok.fresh (Nat.le_refl _))⟩
  exact ⟨Nat.le_trans (cutV_length xs lo hi) hz, _, (r.drop (HT.sIx xs.length 0 lo)).take (HT.sIx xs.length xs.length hi - HT.sIx xs.length 0 lo), IsTup.new _ _⟩
noncomputable def rCatT (K : PySem.W.Frag) : R2 := fun x y H Q => ∃ a b xs ys, x = .ref a ∧ y = .ref b ∧ SqT K H a xs ∧ SqT K H b ys ∧ xs ≠ [] ∧ xs.length + ys.length ≤ sizeLine ∧
  (ys = [] → Q (.ref a) H) ∧ (ys ≠ [] → ∀ p, H p = none → Q (.ref p) (upd H p (.tup (xs ++ ys))))
theorem Vals.nil_iff {xs : List V} {us : List Value} (r : Vals xs us) : us = [] ↔ xs = [] := by
  cases r with
  | nil => simp
  | cons _ _ => simp
theorem op_catT : OpR X (binaryOp .Add) (rCatT X.K) := by
  intro pins s σ H x y v u Q I rx ry h
  obtain ⟨a, b, xs, ys, rfl, rfl, ha, hb, hx, hz, q1, q2⟩ := h
  cases rx
  cases ry
  obtain ⟨its, r1, p1, _⟩ := I.tuple ha
  obtain ⟨its2, r2, p2, _⟩ := I.tuple hb
  refine HT.cat_tup p1 p2 (fun z => hx (r1.nil_iff.mp z)) (fun z => ⟨.ref a, H, I, rfl, q1 (r2.nil_iff.mp z)⟩) (fun z => ?_) (by rw [← r1.length, ← r2.length]; exact hz)
  refine ⟨.ref s.heap.objs.size, _, I.laid (t' := s.toks) (o := .tup (xs ++ ys)) (fun b ob q => Heap.get?_push_of_some _ q) (Nat.le_refl _) ?_, rfl, q2 (fun w => z (r2.nil_iff.mpr w)) _ (I.hok.fresh (Nat.le_refl _))⟩
  exact ⟨by rw [List.length_append]; exact hz, _, r1.append r2, IsTup.new _ _⟩
end
end L2
namespace L2
open PySem PySem.Spec PyProof.Rows
noncomputable def ixN (n : Nat) (i : Int) : Option Nat := if 0 ≤ i then (if i < n then some i.toNat else none) else if -(n : Int) ≤ i then some (i + n).toNat else none
noncomputable def atI {α : Type} (xs : List α) (i : Int) : Option α := (ixN xs.length i).bind fun j => xs[j]?
theorem ixN_seq {n : Nat} {i : Int} {j : Nat} (h : ixN n i = some j) : seqIndex? i n = some j ∧ j < n ∧ -(n : Int) ≤ i ∧ i < n := by
  unfold ixN at h
  by_cases h0 : 0 ≤ i
  · rw [if_pos h0] at h
    by_cases h1 : i < n
    · rw [if_pos h1] at h
      have e : i.toNat = j := Option.some.inj h
      exact ⟨by rw [seqIndex_of h0 h1, e], by omega, by omega, h1⟩
    · rw [if_neg h1] at h; cases h
  · rw [if_neg h0] at h
    by_cases h1 : -(n : Int) ≤ i
    · rw [if_pos h1] at h
      have e : (i + n).toNat = j := Option.some.inj h
      exact ⟨by rw [seqIndex_neg (by omega) h1, e], by omega, h1, by omega⟩
    · rw [if_neg h1] at h; cases h
theorem atI_get {α : Type} {xs : List α} {i : Int} {v : α} (h : atI xs i = some v) : ∃ j, seqIndex? i xs.length = some j ∧ xs[j]? = some v ∧ j < xs.length ∧ -(xs.length : Int) ≤ i ∧ i < xs.length := by
  unfold atI at h
  cases e : ixN xs.length i with
  | none => rw [e] at h; cases h
  | some j =>
    rw [e] at h
    obtain ⟨h1, h2, h3, h4⟩ := ixN_seq e
    exact ⟨j, h1, h, h2, h3, h4⟩
noncomputable def PlainIx (b : Expr) : Prop := ∀ o i, subscripted b false o i = operate [o, i] (getItem o i)
noncomputable def IxR (X : Cx) (r : R2) : Prop :=
  ∀ (value slice : Expr) (pins : List (Addr × Obj)) (s : Shared) (σ : St) (H : Hp) (x y : V) (v u : Value) (Q : VK), Inv X pins σ H s → RelV x v → RelV y u → r x y H Q →
    subscripted slice false v u = operate [v, u] (getItem v u) → wpAny (model X.prog X.w) X.A (subscriptTail value slice v u) (EP X pins σ Q) X.xe s
noncomputable def MtR (X : Cx) (id : String) (r : V → List V → Hp → VK → Prop) : Prop :=
  ∀ (pins : List (Addr × Obj)) (s : Shared) (σ : St) (H : Hp) (x : V) (xs : List V) (v : Value) (us : List Value) (Q : VK), Inv X pins σ H s → RelV x v → Vals xs us → r x xs H Q →
    wpAny (model X.prog X.w) X.A (call (.builtin id) (v :: us)) (EP X pins σ Q) X.xe s
section
variable {X : Cx} {a b : Expr} {ta tb : TE} {pos : Pos}
theorem IxR.or {r r' : R2} (h : IxR X r) (h' : IxR X r') : IxR X (fun x y H Q => r x y H Q ∨ r' x y H Q) := by
  intro value slice pins s σ H x y v u Q I rx ry q hs
  rcases q with q | q
  · exact h value slice pins s σ H x y v u Q I rx ry q hs
  · exact h' value slice pins s σ H x y v u Q I rx ry q hs
theorem pe_ix {r : R2} (hr : IxR X r) (ha : PE X a ta) (hb : PE X b tb) (hs : PlainIx b) : PE X (.Subscript a b pos) (tOp r ta tb) := by
  intro pins s σ H Q I h
  exact Subscript_ (binT ha hb I h fun v u s2 x y H2 I2 rx ry q => hr a b pins s2 σ H2 x y v u Q I2 rx ry q (hs _ _))
noncomputable def rIxL (K : PySem.W.Frag) : R2 := fun x y H Q => ∃ p xs i v, x = .ref p ∧ y = .int i ∧ SqL K H p xs ∧ atI xs i = some v ∧ Q v H
noncomputable def rIxT (K : PySem.W.Frag) : R2 := fun x y H Q => ∃ p xs i v, x = .ref p ∧ y = .int i ∧ SqT K H p xs ∧ atI xs i = some v ∧ Q v H
noncomputable def rIxS : R2 := fun x y H Q => ∃ z i c, x = .str z ∧ y = .int i ∧ z.length ≤ sizeLine ∧ atI z.cps.toList i = some c ∧ Q (.str ⟨#[c]⟩) H
theorem ix_list : IxR X (rIxL X.K) := by
  intro value slice pins s σ H x y v u Q I rx ry h hs
  obtain ⟨p, xs, i, z, rfl, rfl, hq, he, q⟩ := h
  cases rx
  obtain ⟨t, rfl⟩ := ry
  obtain ⟨its, r, pl, hz⟩ := I.list hq
  obtain ⟨j, h1, h2, h3, h4, h5⟩ := atI_get he
  obtain ⟨w, ew, rw'⟩ := r.get h2
  have hl := r.length
  have hn := line63
  have fin : EP X pins σ Q w s := ⟨z, H, I, rw', q⟩
  by_cases h0 : 0 ≤ i
  · have hj : i.toNat = j := by
      rw [seqIndex_of h0 h5] at h1
      exact Option.some.inj h1
    exact item_listR pl.isList h0 (by omega) (by rw [hj]; simpa using ew) fin hs
  · have hj : (i + (its.toArray.size : Int)).toNat = j := by
      rw [seqIndex_neg (by omega) h4] at h1
      rw [List.size_toArray, ← hl]
      exact Option.some.inj h1
    exact subscriptTail_builtinR (x := w) pl.isList.typeIs slot_list_getitem.lookup
      (wpAny_getItem_list_neg (Q := fun r s' => r = w ∧ EP X pins σ Q r s') pl.isList (by omega) (by rw [List.size_toArray] <;> omega) (by omega) (by rw [hj]; simpa using ew) ⟨rfl, fin⟩) hs
theorem ix_tup : IxR X (rIxT X.K) := by
  intro value slice pins s σ H x y v u Q I rx ry h hs
  obtain ⟨p, xs, i, z, rfl, rfl, hq, he, q⟩ := h
  cases rx
  obtain ⟨t, rfl⟩ := ry
  obtain ⟨its, r, pl, hz⟩ := I.tuple hq
  obtain ⟨j, h1, h2, h3, h4, h5⟩ := atI_get he
  obtain ⟨w, ew, rw'⟩ := r.get h2
  have hl := r.length
  have hn := line63
  have fin : EP X pins σ Q w s := ⟨z, H, I, rw', q⟩
  exact subscriptTail_builtinR (x := w) pl.typeIs slot_tuple_getitem.lookup
    (getItem_tuple (j := j) (Q := fun r s' => r = w ∧ EP X pins σ Q r s') pl (by omega) (by omega) (by rw [List.size_toArray, ← hl]; exact h1) (by simpa using ew) ⟨rfl, fin⟩) hs
theorem ix_str : IxR X rIxS := by
  intro value slice pins s σ H x y v u Q I rx ry h hs
  obtain ⟨z, i, c, rfl, rfl, hz, he, q⟩ := h
  obtain ⟨t, rfl⟩ := rx
  obtain ⟨t', rfl⟩ := ry
  obtain ⟨j, h1, h2, h3, h4, h5⟩ := atI_get he
  have hl : z.cps.toList.length = z.length := by simp [Str.length]
  rw [hl] at h1 h4 h5
  have hn := line63
  exact tail_any (typeIs_str s z t) slot_str_getitem.lookup (getItem_str (c := c) (by
    have e1 : decide (i < -(2 ^ 63 : Int)) = false := decide_eq_false (by omega)
    have e2 : decide (i ≥ 2 ^ 63) = false := decide_eq_false (by omega)
    rw [e1, e2, Bool.or_false]) (by rw [h1]; simpa using h2) ⟨.str ⟨#[c]⟩, H, I.tok _, ⟨_, rfl⟩, q⟩) hs
noncomputable def rIx (K : PySem.W.Frag) : R2 := fun x y H Q => rIxL K x y H Q ∨ rIxT K x y H Q ∨ rIxS x y H Q
theorem ix_seq : IxR X (rIx X.K) := ix_list.or (ix_tup.or ix_str)
theorem mapSeq_set (its : List Value) (n j : Nat) (u : Value) : Obj.mapSeq (·.setIfInBounds j u) { cls := .type "list", data := .seq its.toArray n } = { cls := .type "list", data := .seq (its.set j u).toArray n } := by
  simp [Obj.mapSeq]
theorem Inv.lst {pins : List (Addr × Obj)} {σ : St} {H : Hp} {s : Shared} {p : Addr} {xs : List V} (I : Inv X pins σ H s) (h : H p = some (.lst xs)) :
    ∃ (its : List Value) (n : Nat), Vals xs its ∧ s.heap.get? p = some { cls := .type "list", data := .seq its.toArray n } ∧ xs.length ≤ sizeLine := by
  obtain ⟨z, its, n, r, e⟩ := I.hok p _ h
  exact ⟨its, n, r, e, z⟩
theorem Inv.lstUpd {pins : List (Addr × Obj)} {σ : St} {H : Hp} {s : Shared} {p : Addr} {xs ys : List V} {its its' : List Value} {n n' : Nat} {f : Obj → Obj} (I : Inv X pins σ H s) (h : H p = some (.lst xs))
    (ho : s.heap.get? p = some { cls := .type "list", data := .seq its.toArray n }) (hf : f { cls := .type "list", data := .seq its.toArray n } = { cls := .type "list", data := .seq its'.toArray n' }) (r : Vals ys its') (hz : ys.length ≤ sizeLine) (t : Nat) :
    Inv X pins σ (upd H p (.lst ys)) { s with heap := s.heap.update p f, toks := t } := by
  have e : (s.heap.update p f).get? p = some { cls := .type "list", data := .seq its'.toArray n' } := by
    rw [Heap.get?_update_self f ho (by rw [hf] <;> rfl), hf]
  refine I.write (x := p) (e := p) (by rw [h]; trivial) (.inl rfl) (fun b u hb q => (Heap.get?_update_other _ _ (Ne.symm hb)).trans q) ⟨_, e⟩ ?_
  exact ⟨hz, its', n', r, e⟩
noncomputable def rSetL : V → V → V → Hp → (Hp → Prop) → Prop := fun o i v H Q => ∃ p xs k j, o = .ref p ∧ i = .int k ∧ H p = some (.lst xs) ∧ ixN xs.length k = some j ∧ Q (upd H p (.lst (xs.set j v)))
theorem set_list : PSet X rSetL := by
  intro pins s σ H o i v ov iv u Q I ro ri rv h
  obtain ⟨p, xs, k, j, rfl, rfl, hp, hj, q⟩ := h
  cases ro
  obtain ⟨t, rfl⟩ := ri
  obtain ⟨its, n, r, ho, hz⟩ := I.lst hp
  obtain ⟨h1, h2, h3, h4⟩ := ixN_seq hj
  have hl := r.length
  have hn := line63
  have I' : Inv X pins σ (upd H p (.lst (xs.set j v))) { s with heap := s.heap.update p (Obj.mapSeq (·.setIfInBounds j u)) } :=
    I.lstUpd hp ho (mapSeq_set its n j u) (r.set rv j) (by rw [List.length_set]; exact hz) s.toks
  by_cases h0 : 0 ≤ k
  · have hk : k.toNat = j := by
      rw [seqIndex_of h0 h4] at h1
      exact Option.some.inj h1
    exact PySem.W.ki_setAt ho h0 (by omega) (by rw [List.size_toArray, ← hl]; exact h4) (by rw [hk]; exact ⟨_, I', q⟩)
  · have hk : (k + (its.toArray.size : Int)).toNat = j := by
      rw [seqIndex_neg (by omega) h3] at h1
      rw [List.size_toArray, ← hl]
      exact Option.some.inj h1
    exact PySem.W.ki_setBack ho (by omega) (by rw [List.size_toArray, ← hl]; exact h3) (by omega) (by rw [hk]; exact ⟨_, I', q⟩)
theorem slice_bounds (lo hi : Option Int) (n : Nat) : (sliceBounds lo hi none n).1 = ((HT.sIx n 0 lo : Nat) : Int) ∧ (sliceBounds lo hi none n).2.1 = ((HT.sIx n n hi : Nat) : Int) ∧ (sliceBounds lo hi none n).2.2 = 1 := by
  refine ⟨?_, ?_, rfl⟩
  · cases lo with
    | none => simp [sliceBounds, HT.sIx]
    | some i =>
      simp only [sliceBounds, HT.sIx, Option.getD_none, show (1 : Int) > 0 by decide, if_true]
      by_cases h : i < 0
      · simp only [h, if_true] <;> omega
      · simp only [h, if_false] <;> omega
  · cases hi with
    | none => simp [sliceBounds, HT.sIx]
    | some i =>
      simp only [sliceBounds, HT.sIx, Option.getD_none, show (1 : Int) > 0 by decide, if_true]
      by_cases h : i < 0
      · simp only [h, if_true] <;> omega
      · simp only [h, if_false] <;> omega
theorem slicePick_cut (its : List Value) (lo hi : Option Int) : slicePick its.toArray lo hi none = ((its.drop (HT.sIx its.length 0 lo)).take (HT.sIx its.length its.length hi - HT.sIx its.length 0 lo)).toArray := by
  obtain ⟨h1, h2, h3⟩ := slice_bounds lo hi its.toArray.size
  unfold slicePick
  rw [h1, h2, h3]
  simp only [sliceRange_one, pick_run, List.size_toArray] <;> rfl
noncomputable def rSlL (K : PySem.W.Frag) : V → Option Int → Option Int → Hp → VK → Prop := fun x lo hi H Q => ∃ a xs, x = .ref a ∧ SqL K H a xs ∧ ∀ p, H p = none → Q (.ref p) (upd H p (.lst (cutV xs lo hi)))
theorem sl_list : SlR X (rSlL X.K) := by
  intro pins s σ H x v vl vu lo hi sl Q I rx hs pl pu h
  obtain ⟨a, xs, rfl, hx, q⟩ := h
  cases rx
  obtain ⟨its, r, ht, hz⟩ := I.list hx
  have hlen := r.length
  refine ⟨"list", _, slot_list_getitem.lookup, ht.isList.typeIs, ?_⟩
  refine wpAny_getItem_list_slice ht.isList hs pl pu .none (by simp) ?_ (by rw [List.size_toArray] <;> omega)
  rw [slicePick_cut, ← hlen]
  refine ⟨.ref s.heap.objs.size, _, I.laid (t' := s.toks) (o := .lst (cutV xs lo hi)) (fun b ob q => Heap.get?_push_of_some _ q) (Nat.le_refl _) ?_, rfl, q _ (I.hok.fresh (Nat.le_refl _))⟩
  exact ⟨Nat.le_trans (cutV_length xs lo hi) hz, _, 0, (r.drop (HT.sIx xs.length 0 lo)).take (HT.sIx xs.length xs.length hi - HT.sIx xs.length 0 lo), Heap.get?_push_size _ rfl⟩
noncomputable def flatV : V → Bool
  | .non => true
  | .bl _ => true
  | .int _ => true
  | .str _ => true
  | _ => false
noncomputable def eqV : V → V → Bool
  | .non, .non => true
  | .bl a, .bl b => a == b
  | .bl a, .int b => (if a then 1 else 0) == b
  | .int a, .bl b => a == (if b then 1 else 0)
  | .int a, .int b => a == b
  | .str a, .str b => a == b
  | _, _ => false
theorem call_len_seq : CallR X (.builtin "len") (fun xs H Q => ∃ p ys, xs = [.ref p] ∧ (SqL X.K H p ys ∨ SqT X.K H p ys) ∧ Q (.int ys.length) H) := by
  intro pins s σ H xs us Q I r h
  obtain ⟨p, ys, rfl, hq, q⟩ := h
  obtain ⟨u, rfl, rx⟩ := vals1 r
  cases rx
  have hn := line63
  rcases hq with hq | hq
  · obtain ⟨its, r', pl, hz⟩ := I.list hq
    have hlen := r'.length
    exact Calls.call_len_list pl.isList (by simp only [List.size_toArray] <;> omega) ⟨.int ys.length, H, I.tok _, ⟨s.toks + 1, by rw [List.size_toArray, hlen]⟩, q⟩
  · obtain ⟨its, r', pl, hz⟩ := I.tuple hq
    have hlen := r'.length
    exact len_tuple pl (by simp only [List.size_toArray] <;> omega) ⟨.int ys.length, H, I.tok _, ⟨s.toks + 1, by rw [List.size_toArray, hlen]⟩, q⟩
theorem CallR.or {f : Value} {r r' : List V → Hp → VK → Prop} (h : CallR X f r) (h' : CallR X f r') : CallR X f (fun xs H Q => r xs H Q ∨ r' xs H Q) := by
  intro pins s σ H xs us Q I rs q
  rcases q with q | q
  · exact h pins s σ H xs us Q I rs q
  · exact h' pins s σ H xs us Q I rs q
theorem call_list_of : CallR X (.type "list") (fun xs H Q => ∃ p ys, xs = [.ref p] ∧ (SqL X.K H p ys ∨ SqT X.K H p ys) ∧ ∀ l, H l = none → Q (.ref l) (upd H l (.lst ys))) := by
  intro pins s σ H xs us Q I r h
  obtain ⟨p, ys, rfl, hq, q⟩ := h
  obtain ⟨u, rfl, rx⟩ := vals1 r
  cases rx
  have fin : ∀ (its : List Value), Vals ys its → ys.length ≤ sizeLine → ∀ (h' : Heap) (c' : Nat), (∀ b o', s.heap.get? b = some o' → h'.get? b = some o') →
      h'.get? s.heap.objs.size = some { cls := .type "list", dict := none, data := .seq its.toArray c', slots := #[] } → EP X pins σ Q (.ref s.heap.objs.size) { s with heap := h' } := fun its r' hz h' c' kp e =>
    ⟨.ref s.heap.objs.size, _, I.laid (t' := s.toks) kp (Nat.le_refl _) (show ObjOk X.prog X.w _ h' _ (.lst ys) from ⟨hz, its, c', r', e⟩), rfl, q _ (I.hok.fresh (Nat.le_refl _))⟩
  rcases hq with hq | hq
  · obtain ⟨its, r', pl, hz⟩ := I.list hq
    have hlen := r'.length
    obtain ⟨o, ho, hc, n, hd⟩ := pl.isList
    exact call_list_seq p (.inl rfl) ho hc hd (fun h' c' kp e => fin its r' hz h' c' kp e) (by simp only [List.size_toArray] <;> omega)
  · obtain ⟨its, r', pl, hz⟩ := I.tuple hq
    have hlen := r'.length
    obtain ⟨o, ho, hc, n, hd⟩ := pl
    exact call_list_seq p (.inr rfl) ho hc hd (fun h' c' kp e => fin its r' hz h' c' kp e) (by simp only [List.size_toArray] <;> omega)
noncomputable def tyV (K : PySem.W.Frag) (T : String) (x : V) (H : Hp) : Prop := match x with
  | .str _ => T = "str"
  | .int _ => T = "int"
  | .ref p => (T = "list" ∧ ∃ xs, SqL K H p xs) ∨ (T = "tuple" ∧ ∃ o, K.lookup p = some o ∧ o.cls = .type "tuple" ∧ o.dict = none) ∨
      (T = "dict" ∧ ((∃ kvs, H p = some (.dK kvs)) ∨ ∃ kvs, H p = some (.dT kvs))) ∨ (T = "set" ∧ ∃ S n, H p = some (.set S n))
  | _ => False
theorem tyV_is {pins : List (Addr × Obj)} {σ : St} {H : Hp} {s : Shared} {T : String} {x : V} {v : Value} (I : Inv X pins σ H s) (r : RelV x v) (ty : tyV X.K T x H) :
    s.TypeIs v T ∧ ∀ a, v = .ref a → ∃ ob, s.heap.get? a = some ob ∧ ob.dict = none := by
  cases x with
  | str z =>
    obtain ⟨t, rfl⟩ := r
    cases (show T = "str" from ty)
    exact ⟨typeIs_str s z t, fun _ e => nomatch e⟩
  | int i =>
    obtain ⟨t, rfl⟩ := r
    cases (show T = "int" from ty)
    exact ⟨typeIs_int s i t, fun _ e => nomatch e⟩
  | ref p =>
    cases r
    rcases ty with ⟨rfl, xs, hq⟩ | ⟨rfl, o, hk, hc, hd⟩ | ⟨rfl, hk⟩ | ⟨rfl, S, n, hk⟩
    · obtain ⟨its, _, pl, _⟩ := I.list hq
      refine ⟨pl.isList.typeIs, fun a e => ?_⟩
      cases e
      obtain ⟨o, n, e, c, hd, _⟩ := pl
      exact ⟨o, e, hd⟩
    · refine ⟨⟨o, I.kIn p o hk, hc⟩, fun a e => ?_⟩
      cases e
      exact ⟨o, I.kIn _ o hk, hd⟩
    · have z : ∃ o, s.heap.get? p = some o ∧ o.ExactDict := by
        rcases hk with ⟨kvs, hk⟩ | ⟨kvs, hk⟩
        · obtain ⟨_, _, _, _, o, _, _, e, ex, _⟩ := I.hok p _ hk
          exact ⟨o, e, ex⟩
        · obtain ⟨_, _, _, _, o, _, _, e, ex, _⟩ := I.hok p _ hk
          exact ⟨o, e, ex⟩
      obtain ⟨o, e, ex⟩ := z
      refine ⟨⟨o, e, ex.1⟩, fun a e2 => ?_⟩
      cases e2
      exact ⟨o, e, ex.2.1⟩
    · obtain ⟨o, _, _, _, e, ex, _⟩ := I.hok p _ hk
      refine ⟨⟨o, e, ex.1⟩, fun a e2 => ?_⟩
      cases e2
      exact ⟨o, e, ex.2.1⟩
  | _ => exact False.elim ty
noncomputable def tBM (K : PySem.W.Frag) (T : String) (r : V → List V → Hp → VK → Prop) (to : TE) (t : TA) : TE := fun σ H Q => to σ H fun x H1 => tyV K T x H1 ∧ t σ H1 fun xs H2 => r x xs H2 Q
variable {o e : Expr} {es : List Expr} {to : TE} {t : TA} {name : Str} {apos cpos : Pos} {T id : String} {r : V → List V → Hp → VK → Prop}
theorem pe_bm (pa : PlainAttrs T) (slot : Slot T name id) (hty : typeOf (.builtin id) = pure (.type "method_descriptor")) (hm : MtR X id r) (ho : PE X o to) (ha : PA X (e :: es) t)
    (hbase : attributeBase o name X.env (eval o X.env) = eval o X.env := by rfl)
    (hfew : ((backTo cpos (starEach (e :: es) X.env)).all (fun x => !x.1) && (backToKw cpos (keywordEach [] X.env)).all (fun x => x.1.isSome)
      && decide ((e :: es).length + ([] : List Keyword).length + (if ([] : List Keyword).isEmpty then 0 else 1) < 30)) = true := by rfl)
    (hline : (apos.endLine == cpos.line) = true := by rfl) (hs : starEach (e :: es) X.env = (false, eval e X.env) :: starEach es X.env := by rfl) (hplain : (backTo cpos (starEach es X.env)).any (·.1) = false := by rfl) :
    PE X (.Call (.Attribute o name apos) (e :: es) [] cpos) (tBM X.K T r to t) := by
  intro pins s σ H Q I h
  refine wpAny_Call_method_late hbase hfew hline rfl (thn (ho pins s σ H _ I h) fun v s1 ⟨x, H1, I1, r1, ty, q1⟩ => ?_)
  obtain ⟨h1, h2⟩ := tyV_is I1 r1 ty
  refine ⟨T, id, pa, slot, hty, h1, h2, ?_⟩
  have hA := ha cpos pins s1 σ H1 _ I1 q1
  rw [hs] at hA ⊢
  refine Calls.callWith_builtin (by show (false || (backTo cpos (starEach es X.env)).any (·.1)) = false; rw [hplain] <;> rfl) (Calls.evalArgs_plain ?_)
  exact thn hA fun us s2 ⟨vs, H2, I2, r2, q2⟩ => hm pins s2 σ H2 x vs v us Q I2 r1 r2 q2
/- xs.append(e), list.index on a module's tuple .. are MtR facts of 06m -/
end
end L2
namespace L2
open PySem PySem.Spec PyProof.Rows
noncomputable def MtM (X : Cx) (id : String) (r : V → List V → Hp → VK → Prop) : Prop :=
  ∀ (pins : List (Addr × Obj)) (s : Shared) (σ : St) (H : Hp) (x : V) (xs : List V) (v : Value) (us : List Value) (Q : VK), Inv X pins σ H s → RelV x v → Vals xs us → r x xs H Q →
    wpAny (model X.prog X.w) X.A (call (.builtin id) (v :: us)) (EP X pins σ Q) X.xe s
theorem Vals.one : ∀ {x : V} {us : List Value}, Vals [x] us → ∃ u, us = [u] ∧ RelV x u
  | _, _, .cons r .nil => ⟨_, rfl, r⟩
theorem Vals.two : ∀ {x y : V} {us : List Value}, Vals [x, y] us → ∃ u v, us = [u, v] ∧ RelV x u ∧ RelV y v
  | _, _, _, .cons r (.cons q .nil) => ⟨_, _, rfl, r, q⟩
theorem Vals.reverse {xs : List V} {us : List Value} (h : Vals xs us) : Vals xs.reverse us.reverse := by
  induction h with
  | nil => exact .nil
  | cons r t ih => rw [List.reverse_cons, List.reverse_cons]; exact Vals.append ih (.cons r .nil)
section
variable {X : Cx} {pins : List (Addr × Obj)} {σ : St} {H : Hp} {s : Shared} {l b : Addr} {xs ys zs : List V}
theorem Inv.lset {its its' : List Value} {n : Nat} {f : Array Value → Array Value} {t' : Nat} (I : Inv X pins σ H s) (hH : H l = some (.lst xs))
    (e : s.heap.get? l = some { cls := .type "list", data := .seq its.toArray n }) (hf : f its.toArray = its'.toArray) (hv : Vals ys its') (hz : ys.length ≤ sizeLine) :
    Inv X pins σ (upd H l (.lst ys)) { s with heap := s.heap.update l (Obj.mapSeq f), toks := t' } := by
  have q := PySem.IsL.update e f
  rw [hf] at q
  refine I.write (x := l) (e := l) (by rw [hH]; exact trivial) (.inl rfl) (fun b' u hb hu => (Heap.get?_update_other s.heap (Obj.mapSeq f) (Ne.symm hb)).trans hu) ⟨_, q⟩ ?_
  exact ⟨hz, its', _, hv, q⟩
theorem Inv.lnew {its : List Value} {t' : Nat} (I : Inv X pins σ H s) (hv : Vals ys its) (hz : ys.length ≤ sizeLine) :
    Inv X pins σ (upd H s.heap.objs.size (.lst ys)) { s with heap := s.heap.push { cls := .type "list", data := .seq its.toArray }, toks := t' } :=
  I.laid (fun _ _ q => Heap.get?_push_of_some _ q) (Nat.le_refl _) ⟨hz, its, 0, hv, Heap.get?_push_size _ rfl⟩
theorem Inv.fresh (I : Inv X pins σ H s) : H s.heap.objs.size = none := I.hok.fresh (Nat.le_refl _)
theorem Inv.lstM (I : Inv X pins σ H s) (hH : H l = some (.lst xs)) : xs.length ≤ sizeLine ∧ ∃ (its : List Value) (n : Nat), Vals xs its ∧ xs.length = its.length ∧ s.heap.get? l = some { cls := .type "list", data := .seq its.toArray n } := by
  obtain ⟨z, its, n, r, e⟩ := I.hok l _ hH
  exact ⟨z, its, n, r, r.length, e⟩
end
section
variable {X : Cx}
noncomputable def rAppend : V → List V → Hp → VK → Prop := fun x vs H Q => ∃ l xs y, x = .ref l ∧ vs = [y] ∧ H l = some (.lst xs) ∧ xs.length < sizeLine ∧ Q .non (upd H l (.lst (xs ++ [y])))
theorem mt_append : MtM X "list.append" rAppend := by
  intro pins s σ H x vs v us Q I rx rv h
  obtain ⟨l, xs, y, rfl, rfl, hH, hz, q⟩ := h
  cases rx
  obtain ⟨u, rfl, ru⟩ := rv.one
  obtain ⟨z, its, n, r, hl, e⟩ := I.lstM hH
  refine call_meets F.slot_list_append ⟨_, e, rfl⟩ F.entry_list_append (F.args_list_append_2 _ _) (PySem.list_append l its.toArray n u (by rw [List.size_toArray]; omega)) ⟨e, ?_⟩
  refine ⟨.non, _, I.lset (its' := its ++ [u]) hH e (by simp) (r.append (.cons ru .nil)) ?_, rfl, q⟩
  rw [List.length_append, List.length_singleton]
  omega
end
end L2
namespace Att
open PySem PySem.W PySem.Calls PyProof.Rows
theorem ints_of_wellAll {P : Params} {h : Heap} : ∀ (ns : List Int) (vs : List Value), WellAll P h vs (ns.map WData.int) → IntsAre vs ns := by
  intro ns
  induction ns with
  | nil =>
    intro vs w
    rw [List.map_nil] at w
    cases w
    exact .nil
  | cons n ns ih =>
    intro vs w
    rw [List.map_cons] at w
    cases w with
    | cons a b =>
      cases a
      exact .cons _ _ (ih _ b)
theorem script_of {l : OpenLaw} {n : Nat} (hn : l.most = some n) {P : Params} {h : Heap} {args : List WData} {vals : List Value}
    (hpre : l.row.toRowW.claim.pre args = true) (hwl : WellAll P h vals args) :
    ∃ a vs ns, vals = [Value.ref a] ∧ args = [WData.list (ns.map WData.int)] ∧ h.get? a = some { cls := .type "list", data := .seq vs.toArray } ∧ IntsAre vs ns ∧ ns.length ≤ n := by
  have hsh : WShape.hasAll [] args [.list .int] = true := (pre_splitW hpre).1
  have hc : l.pre.holds [] { args := args } = true := (pre_splitW hpre).2
  obtain ⟨d, r, rfl, h1, h2⟩ := hasAllW_cons hsh
  obtain rfl := hasAllW_nil h2
  obtain ⟨xs, rfl, h3⟩ := hasW_list h1
  obtain ⟨ns, rfl⟩ := items_int h3
  have hlen : ns.length ≤ n := by
    unfold OpenLaw.pre at hc
    have h4 : (WTm.not (.lt (.lit (.int (n : Int))) (.len (.arg 0)))).holds [] { args := [.list (ns.map .int)] } = true := by
      have h4 := (holds_andW hc).1
      rw [hn] at h4
      exact h4
    have h5 := condW_of h4 (w_not (w_lt w_lit (w_len_list (w_arg rfl))))
    rw [List.length_map] at h5
    refine Nat.le_of_not_lt fun q => ?_
    have q' : (n : Int) < ((ns.length : Nat) : Int) := by omega
    first
      | (rw [decide_eq_true q'] at h5; exact absurd h5 (by decide))
      | (simp at h5; omega)
  cases hwl with
  | cons w1 w2 =>
    cases w2
    cases w1 with
    | list ho hall => exact ⟨_, _, ns, rfl, rfl, ho, ints_of_wellAll ns _ hall, hlen⟩
theorem post_true (l : OpenLaw) (args : List WData) : l.row.toRowW.claim.post args (.bool true) args = true :=
  postW_of (r := l.row.toRowW) (X := (true == true))
    (show WShape.has [] (.bool true) .bool = true by first | rfl | decide | simp [WShape.has, WShape.arms, WShape.armsAll])
    (show (WTm.eq .res (.lit (.bool true))).value [] { args := args, res := some (.bool true), after := args } = some (.bool (true == true)) from w_eq_bool (w_res rfl) w_lit) rfl
theorem attach_call {l : OpenLaw} {n : Nat} {q : Program} {loose : List Str} {XP : (Str → Option Value) → Heap → Prop} {YP : World → Heap → Prop} {d : DefRec}
    (hn : l.most = some n) (hdf : d.params.defaults = [])
    (call : ∀ (w : World) (s₀ s₁ : Shared) (mg mb : Str → Option Value) (fa : Addr) (o : Obj) (pm cd doc : Value) (a : Addr) (vs : List Value) (ns : List Int),
      Ground q loose [] XP w s₀ mg mb s₁.heap → YP w s₁.heap →
      s₁.heap.get? fa = some o → o.data = .func (docDef d.name d.params d.body d.scope pm cd doc) → s₁.heap.CodeRec cd d.name → mg d.name = some (.ref fa) →
      s₁.heap.get? a = some { cls := .type "list", data := .seq vs.toArray } → IntsAre vs ns → ns.length ≤ n → s₁.gens = #[] →
      codeAny (model l.prog w) callerA (.call (.ref fa) ⟨[.ref a], []⟩) (fun r s' => r = .ok (.ret (.bool true)) ∧ OldK s₁.heap s'.heap ∧ s'.os = s₁.os ∧ AllBare s'.gens) s₁) :
    WalkO q loose XP YP l.row.toRowW d [] (fun f vs => PySem.call f vs) := by
  intro w s₀ s₁ mg mb G Y fa o pm cd doc dV kV ho hd hcd hD hmg hg args vals as hpre hlay hrd hwl hlo
  obtain rfl : dV = .none := Dflts.none hD hdf
  obtain rfl : kV = .none := Dflts.noKw hD
  obtain ⟨a, vs, ns, rfl, rfl, hobj, hints, hlen⟩ := script_of hn hpre hwl
  refine enter_call (codeAny_mono (call w s₀ s₁ mg mb fa o pm cd doc a vs ns G Y ho (fd_plain hd) hcd hmg hobj hints hlen hg) fun r s' hq => ?_)
  obtain ⟨rfl, h2, h3, h4⟩ := hq
  exact ⟨.inl ⟨.bool true, .bool true, [], rfl, fun _ => rfl, .bool true, post_true l _, fun _ => ⟨List.Pairwise.nil, fun _ hm => (nomatch hm)⟩⟩, h2, h3, h4⟩
section
variable {prog : Program} {w : World} {A : Around} {E : Value → Shared → Prop} {s : Shared} {K : Frag}
theorem make_obj {R : Result → Shared → Prop} {C fI : Addr} {rest : List Value} {kw : List (Str × Value)}
    (X : K.In s.heap) (hm : makesIn K C = true) (hi : findIn K (.ref C) "__init__" = some (some (.ref fI))) (hf : isFn K (.ref fI) = true)
    (h : codeAny (model prog w) (A.under (.builtin "type.__call__" ⟨.ref C :: rest, kw⟩)) (.call (.ref fI) ⟨.ref (s.heap.objs.size + 1) :: rest, kw⟩) (InitBack (s.heap.objs.size + 1) R)
      { s with heap := (s.heap.push emptyDict).push (instObj C s.heap.objs.size) }) : codeAny (model prog w) A (.call (.ref C) ⟨rest, kw⟩) R s := by
  obtain ⟨hh, g, d, t, os⟩ := s
  exact make_core (makes_of X hm) (looks_findIn X hi) (fun self => bind_fn X self (beq_iff_eq.mp hf)) (.inl rfl) h
theorem get_field {x C : Addr} {ox : Obj} {es : List DictEntry} {n : Nat} {name : Str} {expr : Bool} {v : Value} {Q : Value → Shared → Prop}
    (X : K.In s.heap) (I : PySem.W.InstAt s.heap x ox C (some (dictOf es n))) (hg : plainGet K C name = true) (hh : hasDictIn K C = true) (ha : findIn K (.ref C) name = some none)
    (hl : getL name es = some (some v)) (hv : handedIn v = true) (h : Q v { s with toks := s.toks + 1 }) : wpAny (model prog w) A (getAttr (.ref x) name expr) Q E s :=
  get_value X I (plainGet_of hg).1 (findObj_own hh ha rfl hl) hv h
end
end Att
namespace L2
open PySem PySem.Spec PyProof.Rows
theorem vals_ints : ∀ {vs : List Value} {ns : List Int}, IntsAre vs ns → Vals (ns.map V.int) vs
  | _, _, .nil => .nil
  | _, _, .cons n t h => .cons ⟨t, rfl⟩ (vals_ints h)
noncomputable def Only (H : Hp) : Prop := ∀ b, H b = none ∨ ∃ o xs, H b = some (.frz o (.lst xs))
theorem law_call {P : Program} {w : World} {K : PySem.W.Frag} {mg mb : Str → Option Value} {CX : CXT} {k : Nat} {fa a : Addr} {fd : FuncData} {x : Str} {sp : Sp} {s₁ : Shared} {vs : List Value} {ns : List Int}
    (KX : K.In s₁.heap) (hns : s₁.heap.Ns mainGlobals mg) (hb : s₁.heap.Ns builtinsNs mb) (hbb : ∀ x : Str, x ≠ "__name__" → mb x = bootBuiltins x) (hlim : s₁.heap.NoLimit) (hg : s₁.gens = #[])
    (ha : s₁.heap.get? a = some { cls := .type "list", data := .seq vs.toArray }) (hi : IntsAre vs ns) (hl : ns.length ≤ sizeLine) (hr : Room k callerA)
    (F : ∀ base : Heap, K.In base → base.Ns mainGlobals mg → FnOk P w K mg base CX k fa fd [x] sp) (hbind : ∀ (s : Shared) (u : Value), BindsTo s fd ⟨[u], []⟩ [(x, u)])
    (hsp : ∀ H : Hp, Only H → SqL K H a (ns.map V.int) → sp [.ref a] H (fun v _ => v = .bl true) fun _ _ _ => False)
    (hCX : ∀ H e s', CX [] H s₁ (fun _ _ _ => False) e s' → False) :
    codeAny (model P w) callerA (.call (.ref fa) ⟨[.ref a], []⟩) (fun r s' => r = .ok (.ret (.bool true)) ∧ OldK s₁.heap s'.heap ∧ s'.os = s₁.os ∧ AllBare s'.gens) s₁ := by
  have rv := vals_ints hi
  have lenV := hi.length
  have core : ∀ H : Hp, Only H → SqL K H a (ns.map V.int) → HOk P w H s₁.heap → (∀ b, H b ≠ none → b = a) → (H a ≠ none → K.lookup a = none) →
      codeAny (model P w) callerA (.call (.ref fa) ⟨[.ref a], []⟩) (fun r s' => r = .ok (.ret (.bool true)) ∧ OldK s₁.heap s'.heap ∧ s'.os = s₁.os ∧ AllBare s'.gens) s₁ := by
    intro H hO hS hok hA hK
    have base_of : ∀ {b : Addr} {o : Obj}, s₁.heap.get? b = some o → H b = none → (hidT s₁.heap H).get? b = some o := fun e n => hidT_get e n
    have noA : ∀ {b : Addr} {o : Obj} {es : Array DictEntry} {ep : Nat}, s₁.heap.get? b = some o → o.data = .dict es ep → H b = none := fun {b o es ep} e d => by
      cases q : H b with
      | none => rfl
      | some u =>
        have e' : b = a := hA b (by rw [q]; simp)
        subst e'
        rw [ha] at e; cases e
        have d' : Data.seq vs.toArray _ = Data.dict es ep := d
        cases d'
    have nsK : ∀ {b : Addr} {m : Str → Option Value}, s₁.heap.Ns b m → (hidT s₁.heap H).Ns b m := fun {b m} ⟨o, es, ep, e, d, r⟩ => ⟨o, es, ep, base_of e (noA e d), d, r⟩
    have hKb : K.In (hidT s₁.heap H) := fun b o e => base_of (KX b o e) (by
      cases q : H b with
      | none => rfl
      | some u =>
        have e' : b = a := hA b (by rw [q]; simp)
        subst e'
        rw [hK (by rw [q]; simp)] at e; cases e)
    have hM : Mod K mg (hidT s₁.heap H) := ⟨hKb, nsK hns, ⟨mb, nsK hb, hbb⟩, let ⟨mc, h1, h2⟩ := hlim; ⟨mc, nsK h1, h2⟩⟩
    have e0 : Env0 P w K mg (hidT s₁.heap H) callerA [] s₁ H := ⟨rfl, hM, fun b o e => of_hidT e, Nat.le_of_eq (hidT_size _ _), trivial, fun b hb => absurd (show b ∈ ([] : List Addr) from hb) (by simp), hok, .of_eq hg⟩
    refine codeAny_mono ((F _ hKb (nsK hns)).run callerA [] s₁ H ⟨[.ref a], []⟩ [.ref a] [.ref a] _ _ hr e0 (hbind s₁ (.ref a)) (.cons rfl .nil) (hsp H hO hS)) fun r s' h => ?_
    cases r with
    | error e => exact (hCX H e s' h).elim
    | ok fl =>
      cases fl with
      | next => exact False.elim h
      | brk => exact False.elim h
      | cont => exact False.elim h
      | ret u =>
        obtain ⟨v, H', os, bare, un, hok', r', q⟩ := h
        have q' : v = .bl true := q
        subst q'
        obtain rfl : u = Value.bool true := r'
        refine ⟨rfl, OldK.of_keep fun b o e => ?_, os, bare⟩
        cases q : H b with
        | none => exact un.keep b o e q (by intro z; exact absurd (show b ∈ ([] : List Addr) from z) (by simp)) (by simp)
        | some u =>
          rcases hO b with z | ⟨ob, xs, z⟩
          · rw [q] at z; cases z
          · have z2 := un.frzs b ob _ z
            obtain ⟨e1, _⟩ := hok b _ z
            obtain ⟨e2, _⟩ := hok' b _ z2
            rw [e] at e1; cases e1
            exact e2
  cases hk : K.lookup a with
  | some o =>
    have e := KX a o hk
    rw [ha] at e
    cases e
    refine core (fun _ => none) (fun _ => .inl rfl) (.inr ⟨_, vs.toArray, _, hk, rfl, rfl, rfl, by rw [List.size_toArray, lenV]; exact hl, by simpa using rv⟩) (fun b u z => by have z' : (none : Option HO) = some u := z; cases z') (fun b z => absurd rfl z) fun z => absurd rfl z
  | none =>
    refine core (fun b => if b = a then some (.frz { cls := .type "list", data := .seq vs.toArray } (.lst (ns.map V.int))) else none) (fun b => ?_) (.inl (.inr ⟨{ cls := .type "list", data := .seq vs.toArray }, if_pos rfl⟩)) (fun b u z => ?_) (fun b z => ?_) fun _ => hk
    · by_cases hb : b = a
      · exact .inr ⟨_, _, if_pos hb⟩
      · exact .inl (if_neg hb)
    · by_cases hb : b = a
      · have z' := (if_pos hb).symm.trans z
        cases z'
        subst hb
        exact ⟨ha, by rw [List.length_map]; exact hl, vs, _, rv, ha⟩
      · have z' := (if_neg hb).symm.trans z
        cases z'
    · by_cases hb : b = a
      · exact hb
      · exact absurd (if_neg hb) z
end L2
namespace L2
open PySem PySem.Spec PyProof.Rows
theorem walk_of {l : PySem.W.OpenLaw} {n k : Nat} {q : Program} {loose : List Str} {XP : (Str → Option Value) → Heap → Prop} {YP : World → Heap → Prop} {d : DefRec} {K : Params → PySem.W.Frag} {CX : World → CXT} {sp : World → Sp} {x : Str}
    (hn : l.most = some n) (hn2 : n ≤ sizeLine) (hdf : d.params.defaults = []) (hr : Room k callerA)
    (hY : ∀ (w : World) (h : Heap), YP w h → (K w.params).In h)
    (F : ∀ (w : World) (mg : Str → Option Value) (fa : Addr) (h : Heap), (K w.params).In h → h.Ns mainGlobals mg → mg d.name = some (.ref fa) →
      ∃ fd : FuncData, (∀ (s : Shared) (u : Value), BindsTo s fd ⟨[u], []⟩ [(x, u)]) ∧
        ∀ base : Heap, (K w.params).In base → base.Ns mainGlobals mg → FnOk l.prog w (K w.params) mg base (CX w) k fa fd [x] (sp w))
    (hsp : ∀ (w : World) (H : Hp) (a : Addr) (ns : List Int), ns.length ≤ n → Only H → SqL (K w.params) H a (ns.map V.int) → sp w [.ref a] H (fun v _ => v = .bl true) fun _ _ _ => False)
    (hCX : ∀ (w : World) (H : Hp) (s : Shared) (e : Value) (s' : Shared), CX w [] H s (fun _ _ _ => False) e s' → False) :
    PySem.W.WalkO q loose XP YP l.row.toRowW d [] (fun f vs => PySem.call f vs) := by
  refine Att.attach_call hn hdf fun w s₀ s₁ mg mb fa o pm cd doc a vs ns G Y ho hd hcd hmg hobj hints hlen hg => ?_
  have KX := hY w _ Y
  obtain ⟨fd, hb, hF⟩ := F w mg fa _ KX G.T.g hmg
  exact law_call KX G.T.g G.T.b G.T.builtins G.T.nolimit hg hobj hints (Nat.le_trans hlen hn2) hr hF hb (fun H hO hS => hsp w H a ns hlen hO hS) fun H e s' => hCX w H s₁ e s'
end L2
namespace L2
open PySem PySem.Spec PyProof.Rows
noncomputable def defArgs (s : Stmt) : Arguments := match s with
  | .FunctionDef _ a _ _ _ _ _ _ _ _ => a
  | _ => { posonlyargs := [], args := [], vararg := none, kwonlyargs := [], kw_defaults := [], kwarg := none, defaults := [] }
noncomputable def defBody (s : Stmt) : List Stmt := match s with
  | .FunctionDef _ _ b _ _ _ _ _ _ _ => b
  | _ => []
noncomputable def defScope (s : Stmt) : Scope := match s with
  | .FunctionDef _ _ _ _ _ _ sc _ _ _ => sc
  | _ => { kind := .function, names := [], isGenerator := false, isCoroutine := false }
noncomputable abbrev CX0 : CXT := fun _ _ _ _ _ _ => False
noncomputable abbrev E0 : XK := fun _ _ _ => False
theorem pass0 {X : Cx} : Passes CX0 X E0 := fun _ _ _ _ _ _ _ h => h.elim
structure Fun (K : PySem.W.Frag) (x qual : Str) (st : Stmt) (f : Addr) (fd : FuncData) : Prop where
  ex : ∃ (oc : Value) (od : Option Addr) (kV doc pm : Value) (an : Option Addr) (cdv ct : Value) (osl : Array (Option Value)),
    fd = PySem.W.fnOf x qual (defArgs st) (defBody st) (defScope st) .none kV doc pm an cdv ct ∧ K.lookup f = some ⟨oc, od, .func fd, osl⟩ ∧ PySem.W.codeIn K cdv qual = true
  kp : PySem.W.keepIn K (.ref f) = true
section
variable {P : Program} {w : World} {K : PySem.W.Frag} {mg : Str → Option Value} {base : Heap}
theorem Fun.binds {x qual : Str} {st : Stmt} {f : Addr} {fd : FuncData} {ps : List Str} (F : Fun K x qual st f fd)
    (h : ∀ (kV doc pm : Value) (an : Option Addr) (cdv ct : Value) (us : List Value), us.length = ps.length → bindArgs (PySem.W.fnOf x qual (defArgs st) (defBody st) (defScope st) .none kV doc pm an cdv ct) ⟨us, []⟩ = pure (ps.zip us)) : Binds K fd ps [] := by
  obtain ⟨oc, od, kV, doc, pm, an, cdv, ct, osl, rfl, lk, hcd⟩ := F.ex
  exact .all (h kV doc pm an cdv ct)
theorem fun_mk {x qual : Str} {st : Stmt} {f : Addr} {oc : Value} {od an : Option Addr} {osl : Array (Option Value)} {kV doc pm cdv ct : Value} (l : K.lookup f = some ⟨oc, od, .func (PySem.W.fnOf x qual (defArgs st) (defBody st) (defScope st) .none kV doc pm an cdv ct), osl⟩)
    (c : PySem.W.codeIn K cdv qual = true) (k : PySem.W.keepIn K (.ref f) = true) : Fun K x qual st f (PySem.W.fnOf x qual (defArgs st) (defBody st) (defScope st) .none kV doc pm an cdv ct) := ⟨⟨oc, od, kV, doc, pm, an, cdv, ct, osl, rfl, l, c⟩, k⟩
end
section
variable {X : Cx}
theorem pv (i : Nat) {x : Str} {pos : Pos} (hN : X.N[i]? = some x := by rfl) (hv : Vis X.env.scope x := by first | exact Or.inl rfl | exact Or.inr (Or.inl rfl) | exact Or.inr (Or.inr rfl)) (hd : (x == ("__debug__" : Str)) = false := by decide)
    (hcd : (x == ("__classdict__" : Str)) = false := by decide) : PE X (.Name x pos) (tVar i) := pe_var hN hv hd hcd
end
noncomputable def Same (H H' : Hp) : Prop := ∀ b o, H b = some o → H' b = some o
theorem Same.refl (H : Hp) : Same H H := fun _ _ h => h
theorem Same.trans {H H1 H2 : Hp} (a : Same H H1) (b : Same H1 H2) : Same H H2 := fun c o h => b c o (a c o h)
theorem Same.free {H H' : Hp} (e : Same H H') {l : Addr} (h : H' l = Option.none) : H l = Option.none := by
  cases q : H l with
  | none => rfl
  | some o =>
    rw [e l o q] at h
    cases h
end L2
set_option maxHeartbeats 4000000
namespace L2
open PySem PySem.Spec PyProof.Rows
noncomputable def clOf (cells : List (Str × Addr)) : List (Str × NameKind) → List (Str × Addr) → List (Str × Addr)
  | [], acc => acc
  | (x, k) :: r, acc => clOf cells r (if (k == NameKind.free) = true then (x, (cells.lookup x).getD 0) :: acc else acc)
theorem gt_ne {a b c : Addr} (h1 : b < a) (h2 : a < c) : c ≠ b := by
  rintro rfl
  exact absurd (Nat.lt_trans h1 h2) (Nat.lt_irrefl _)
theorem lt_ne {a b : Addr} {n : Nat} (h1 : a < n) (h2 : n ≤ b) : a ≠ b := by
  rintro rfl
  exact absurd (Nat.lt_of_lt_of_le h1 h2) (Nat.lt_irrefl _)
theorem clOf_cases {cells : List (Str × Addr)} {x : Str} {c : Addr} : ∀ (ns : List (Str × NameKind)) (acc : List (Str × Addr)), (clOf cells ns acc).lookup x = some c →
    ((x, NameKind.free) ∈ ns ∧ c = (cells.lookup x).getD 0) ∨ acc.lookup x = some c
  | [], _, h => .inr h
  | (y, k) :: r, acc, h => by
    unfold clOf at h
    rcases clOf_cases r _ h with ⟨m, e⟩ | q
    · exact .inl ⟨List.mem_cons_of_mem _ m, e⟩
    · by_cases hk : (k == NameKind.free) = true
      · rw [if_pos hk, List.lookup_cons] at q
        cases hy : x == y with
        | true =>
          rw [hy] at q
          have e1 := eq_of_beq hy
          have e2 := eq_of_beq hk
          subst e1 e2
          exact .inl ⟨List.mem_cons_self, (Option.some.inj q).symm⟩
        | false => rw [hy] at q; exact .inr q
      · rw [if_neg hk] at q; exact .inr q
theorem clOf_some {cells : List (Str × Addr)} {x : Str} : ∀ (ns : List (Str × NameKind)) (acc : List (Str × Addr)), ((x, NameKind.free) ∈ ns ∨ (acc.lookup x).isSome = true) → ((clOf cells ns acc).lookup x).isSome = true
  | [], _, h => h.elim (fun z => nomatch z) id
  | (y, k) :: r, acc, h => by
    unfold clOf
    refine clOf_some r _ ?_
    rcases h with h | h
    · rcases List.mem_cons.mp h with e | h
      · cases e
        refine .inr ?_
        rw [if_pos (by decide), List.lookup_cons]
        simp
      · exact .inl h
    · refine .inr ?_
      by_cases hk : (k == NameKind.free) = true
      · rw [if_pos hk, List.lookup_cons]
        cases hy : x == y with
        | true => rfl
        | false => exact h
      · rw [if_neg hk]; exact h
theorem cells_cases {x : Str} {c : Addr} : ∀ (ns : List (Str × NameKind)) (n : Nat) (acc : List (Str × Addr)), (cellsFrom n ns acc).lookup x = some c → (n ≤ c ∧ (x, NameKind.cell) ∈ ns) ∨ acc.lookup x = some c
  | [], _, _, h => .inr h
  | (y, k) :: r, n, acc, h => by
    unfold cellsFrom at h
    by_cases hk : (k == NameKind.cell) = true
    · rw [if_pos hk] at h
      rcases cells_cases r (n + 1) _ h with ⟨a, m⟩ | q
      · exact .inl ⟨by omega, List.mem_cons_of_mem _ m⟩
      · rw [List.lookup_cons] at q
        cases hy : x == y with
        | true =>
          rw [hy] at q
          have e1 := eq_of_beq hy
          have e2 := eq_of_beq hk
          have e3 := Option.some.inj q
          subst e1 e2 e3
          exact .inl ⟨Nat.le_refl _, List.mem_cons_self⟩
        | false => rw [hy] at q; exact .inr q
    · rw [if_neg hk] at h
      rcases cells_cases r n acc h with ⟨a, m⟩ | q
      · exact .inl ⟨a, List.mem_cons_of_mem _ m⟩
      · exact .inr q
theorem cells_inj : ∀ (ns : List (Str × NameKind)) (n : Nat) (acc : List (Str × Addr)), (∀ x y c, acc.lookup x = some c → acc.lookup y = some c → x = y) → (∀ x c, acc.lookup x = some c → c < n) →
    ∀ x y c, (cellsFrom n ns acc).lookup x = some c → (cellsFrom n ns acc).lookup y = some c → x = y
  | [], _, _, hi, _ => hi
  | (z, k) :: r, n, acc, hi, hl => by
    unfold cellsFrom
    by_cases hk : (k == NameKind.cell) = true
    · rw [if_pos hk]
      refine cells_inj r (n + 1) _ (fun x y c h1 h2 => ?_) (fun x c h1 => ?_)
      · rw [List.lookup_cons] at h1 h2
        cases hx : x == z with
        | true =>
          rw [hx] at h1
          have e1 := Option.some.inj h1
          cases hy : y == z with
          | true => rw [eq_of_beq hx, eq_of_beq hy]
          | false =>
            rw [hy] at h2
            have h3 := hl y c h2
            rw [← e1] at h3
            exact absurd h3 (Nat.lt_irrefl _)
        | false =>
          rw [hx] at h1
          cases hy : y == z with
          | true =>
            rw [hy] at h2
            have e2 := Option.some.inj h2
            have h3 := hl x c h1
            rw [← e2] at h3
            exact absurd h3 (Nat.lt_irrefl _)
          | false =>
            rw [hy] at h2
            exact hi x y c h1 h2
      · rw [List.lookup_cons] at h1
        cases hx : x == z with
        | true =>
          rw [hx] at h1
          have e1 := Option.some.inj h1
          rw [← e1]
          exact Nat.lt_succ_self _
        | false =>
          rw [hx] at h1
          exact Nat.lt_succ_of_lt (hl x c h1)
    · rw [if_neg hk]
      exact cells_inj r n acc hi hl
theorem push_cells {x : Str} {c : Addr} : ∀ (ns : List (Str × NameKind)) (h : Heap) (acc : List (Str × Addr)), (cellsFrom h.objs.size ns acc).lookup x = some c →
    acc.lookup x = some c ∨ (h.objs.size ≤ c ∧ (pushCells h ns).IsCell c none)
  | [], _, _, e => .inl e
  | (y, k) :: r, h, acc, e => by
    unfold cellsFrom at e
    unfold pushCells
    by_cases hk : (k == NameKind.cell) = true
    · rw [if_pos hk] at e ⊢
      have q := push_cells (x := x) (c := c) r (h.push { cls := .type "cell", data := .cell none }) ((y, h.objs.size) :: acc) (by rw [Heap.size_push]; exact e)
      rcases q with q | ⟨q1, q2⟩
      · rw [List.lookup_cons] at q
        cases hy : x == y with
        | true =>
          rw [hy] at q
          have e1 := Option.some.inj q
          subst e1
          exact .inr ⟨Nat.le_refl _, Heap.IsCell.keeps ⟨_, Heap.get?_push_size _ rfl, rfl⟩ (pushCells_keeps r _)⟩
        | false => rw [hy] at q; exact .inl q
      · rw [Heap.size_push] at q1
        exact .inr ⟨by omega, q2⟩
    · rw [if_neg hk] at e ⊢
      exact push_cells r h acc e
theorem forIn_clos {env : Env} (f : Str × NameKind → List (Str × Addr) → Sem (ForInStep (List (Str × Addr))))
    (hf : ∀ n k cs, f (n, k) cs = if (k == NameKind.free) = true then (do let a ← cellOf env n; pure (.yield ((n, a) :: cs))) else pure (.yield cs)) :
    ∀ (ns : List (Str × NameKind)) (acc : List (Str × Addr)), (∀ x ∈ ns, x.2 = NameKind.free → ∃ c, env.cells.lookup x.1 = some c) → forIn ns acc f = (pure (clOf env.cells ns acc) : Sem _)
  | [], acc, _ => by rw [List.forIn_nil]; rfl
  | (y, k) :: r, acc, hc => by
    have hr : ∀ x ∈ r, x.2 = NameKind.free → ∃ c, env.cells.lookup x.1 = some c := fun x hx => hc x (List.mem_cons_of_mem _ hx)
    rw [List.forIn_cons, hf]
    unfold clOf
    by_cases hk : (k == NameKind.free) = true
    · rw [if_pos hk, if_pos hk]
      obtain ⟨c, e⟩ := hc (y, k) List.mem_cons_self (eq_of_beq hk)
      have e' : env.cells.lookup y = some c := e
      have e2 : cellOf env y = pure c := by unfold cellOf; rw [e']
      rw [e2, e']
      exact forIn_clos f hf r _ hr
    · rw [if_neg hk, if_neg hk]
      exact forIn_clos f hf r _ hr
theorem closure_eq {scope : Scope} {env : Env} (hc : ∀ x ∈ scope.names, x.2 = NameKind.free → ∃ c, env.cells.lookup x.1 = some c) : closureFor scope env = pure (clOf env.cells scope.names []) := by
  simp only [closureFor]
  rw [forIn_clos (env := env) _ (fun n k cs => by cases h : (k == NameKind.free) <;> simp [h]) scope.names [] hc]
  rfl
theorem new_block {M : Model} {A : Around} {E : Value → Shared → Prop} {s : Shared} {scope : Scope} {gl : Addr} {cl : List (Str × Addr)} {qual : Str} {around : Env} {Q : Env → Shared → Prop}
    (hQ : ∀ h1 : Heap, (∀ b o, s.heap.get? b = some o → h1.get? b = some o) → h1.Ns s.heap.objs.size (fun _ => none) →
      (∀ x c, (cellsFrom (s.heap.objs.size + 1) scope.names cl).lookup x = some c → cl.lookup x = some c ∨ (s.heap.objs.size < c ∧ h1.IsCell c none)) →
      Q { scope := scope, locals := s.heap.objs.size, globals := gl, cells := cellsFrom (s.heap.objs.size + 1) scope.names cl, qual := qual, func := none, code := around.code, frame := around.frame, builtins := around.builtins } { s with heap := h1 }) :
    wpAny M A (newFunctionEnv scope gl cl [] qual none .none (some around)) Q E s := by
  simp only [newFunctionEnv, Option.isSome_some, if_true]
  refine wpAny_bind (wpAny_alloc ?_)
  refine wpAny_bind (wpAny_layCells _ (fun name kind cells => by cases hkc : kind == NameKind.cell <;> simp [hkc]) _ _ _ _ ?_)
  rw [show ({ s with heap := s.heap.push { cls := .type "dict", data := .dict #[] } } : Shared).heap.objs.size = s.heap.objs.size + 1 from Heap.size_push ..]
  rw [List.forIn_nil]
  refine wpAny_bind (wpAny_pure (wpAny_pure ?_))
  refine hQ _ (fun b o e => pushCells_keeps _ _ b o (Heap.get?_push_of_some _ e)) ((Heap.Ns.new s.heap (.type "dict")).keeps (pushCells_keeps _ _)) fun x c e => ?_
  have q := push_cells (x := x) (c := c) scope.names (s.heap.push { cls := .type "dict", data := .dict #[] }) cl (by rw [Heap.size_push]; exact e)
  rw [Heap.size_push] at q
  exact q.imp id fun ⟨a, b⟩ => ⟨by omega, b⟩
theorem relab_free {env : Env} {x : Str} : ∀ {ns : List (Str × NameKind)}, ns.lookup x = some .free →
    (ns.map fun (n, k) => if (k == NameKind.free && env.scope.kind == .function && env.kindOf n == some .cell) then (n, NameKind.cell) else (n, k)).lookup x = some .cell ∨
    (ns.map fun (n, k) => if (k == NameKind.free && env.scope.kind == .function && env.kindOf n == some .cell) then (n, NameKind.cell) else (n, k)).lookup x = some .free
  | [], h => by simp at h
  | (n, k) :: r, h => by
    have ih := @relab_free env x r
    rw [List.map_cons]
    dsimp only
    by_cases hc : (k == NameKind.free && env.scope.kind == .function && env.kindOf n == some .cell) = true
    · rw [if_pos hc, List.lookup_cons]
      cases hx : x == n with
      | true => exact .inl rfl
      | false => rw [List.lookup_cons, hx] at h; exact ih h
    · rw [if_neg hc, List.lookup_cons]
      cases hx : x == n with
      | true =>
        rw [List.lookup_cons, hx] at h
        have e := Option.some.inj h
        subst e
        exact .inr rfl
      | false => rw [List.lookup_cons, hx] at h; exact ih h
theorem relab_back {env : Env} {x : Str} : ∀ {ns : List (Str × NameKind)},
    ((ns.map fun (n, k) => if (k == NameKind.free && env.scope.kind == .function && env.kindOf n == some .cell) then (n, NameKind.cell) else (n, k)).lookup x = some .cell ∨
    (ns.map fun (n, k) => if (k == NameKind.free && env.scope.kind == .function && env.kindOf n == some .cell) then (n, NameKind.cell) else (n, k)).lookup x = some .free) →
    ns.lookup x = some .cell ∨ ns.lookup x = some .free
  | [], h => by simp at h
  | (n, k) :: r, h => by
    have ih := @relab_back env x r
    rw [List.map_cons] at h
    dsimp only at h
    by_cases hc : (k == NameKind.free && env.scope.kind == .function && env.kindOf n == some .cell) = true
    · rw [if_pos hc, List.lookup_cons] at h
      rw [List.lookup_cons]
      cases hx : x == n with
      | true =>
        have : k = NameKind.free := by
          rw [Bool.and_eq_true, Bool.and_eq_true] at hc
          exact eq_of_beq hc.1.1
        subst this
        exact .inr rfl
      | false => rw [hx] at h; exact ih h
    · rw [if_neg hc, List.lookup_cons] at h
      rw [List.lookup_cons]
      cases hx : x == n with
      | true => rw [hx] at h; exact h
      | false => rw [hx] at h; exact ih h
noncomputable def cxComp (X : Cx) (N' : List Str) (sc : Scope) (L : Addr) (cs : List (Str × Addr)) (s : Shared) (H : Hp) (fp : List Addr) : Cx :=
  { X with
    N := N', s₀ := s, H₀ := H, outer := X.stack, ex := fp, pn := [], xe := fun _ _ => False
    fn := fun x => !(sc.names.any fun p => p.1 == x && p.2 == NameKind.free)
    env := { scope := relabel sc X.env, locals := L, globals := X.env.globals, cells := cs, qual := X.env.qual, func := none, code := X.env.code, frame := X.env.frame, builtins := X.env.builtins } }
noncomputable def inS (ix : List (Option Nat)) (σ : St) : St := ix.map fun o => match o with
  | none => none
  | some j => (σ[j]?).join
noncomputable def compOk (N : List Str) (osc : Scope) (N' : List Str) (sc : Scope) (ix : List (Option Nat)) : Bool :=
  decide (ix.length = N'.length) &&
  ((List.range ix.length).all fun i => match ix[i]? with
    | some (some j) => (match N'[i]?, N[j]? with
      | some x, some y => x == y && sc.names.lookup x == some NameKind.free
      | _, _ => false)
    | _ => true) &&
  (sc.names.all fun p => (p.2 != NameKind.free || (osc.names.lookup p.1 == some NameKind.cell || osc.names.lookup p.1 == some NameKind.free)) && (p.2 != NameKind.local || sc.names.lookup p.1 == some NameKind.local)) &&
  (sc.names.all fun p => sc.names.all fun q => !(p.1 == q.1) || p.2 == q.2)
section
variable {X : Cx} {pins : List (Addr × Obj)} {σ : St} {H : Hp} {s : Shared} {N' : List Str} {sc : Scope} {ix : List (Option Nat)}
theorem compOk.len (ok : compOk X.N X.env.scope N' sc ix = true) : ix.length = N'.length := by
  unfold compOk at ok
  rw [Bool.and_eq_true, Bool.and_eq_true, Bool.and_eq_true] at ok
  exact of_decide_eq_true ok.1.1.1
theorem compOk.at (ok : compOk X.N X.env.scope N' sc ix = true) {i j : Nat} {x : Str} (h : ix[i]? = some (some j)) (hx : N'[i]? = some x) : X.N[j]? = some x ∧ sc.names.lookup x = some .free := by
  unfold compOk at ok
  rw [Bool.and_eq_true, Bool.and_eq_true, Bool.and_eq_true] at ok
  have q := List.all_eq_true.mp ok.1.1.2 i (List.mem_range.mpr (List.getElem?_eq_some_iff.mp h).1)
  rw [h, hx] at q
  dsimp only at q
  cases e : X.N[j]? with
  | none => rw [e] at q; cases q
  | some y =>
    rw [e] at q
    dsimp only at q
    rw [Bool.and_eq_true] at q
    exact ⟨by rw [eq_of_beq q.1], eq_of_beq q.2⟩
theorem compOk.fr (ok : compOk X.N X.env.scope N' sc ix = true) {x : Str} (h : (x, NameKind.free) ∈ sc.names) : X.env.kindOf x = some .cell ∨ X.env.kindOf x = some .free := by
  unfold compOk at ok
  rw [Bool.and_eq_true, Bool.and_eq_true] at ok
  have q := List.all_eq_true.mp ok.1.2 _ h
  rw [Bool.and_eq_true] at q
  have q1 := q.1
  rw [Bool.or_eq_true] at q1
  rcases q1 with z | z
  · exact absurd z (by simp)
  · rw [Bool.or_eq_true] at z
    exact z.imp (fun e => eq_of_beq e) fun e => eq_of_beq e
theorem compOk.loc (ok : compOk X.N X.env.scope N' sc ix = true) : ∀ x ∈ sc.names, x.2 = NameKind.local → sc.names.lookup x.1 = some .local := fun x hx e => by
  unfold compOk at ok
  rw [Bool.and_eq_true, Bool.and_eq_true] at ok
  have q := List.all_eq_true.mp ok.1.2 _ hx
  rw [Bool.and_eq_true] at q
  have q1 := q.2
  rw [Bool.or_eq_true] at q1
  rcases q1 with z | z
  · rw [e] at z; exact absurd z (by decide)
  · exact eq_of_beq z
theorem compOk.apart (ok : compOk X.N X.env.scope N' sc ix = true) {x : Str} (h1 : (x, NameKind.cell) ∈ sc.names) (h2 : (x, NameKind.free) ∈ sc.names) : False := by
  unfold compOk at ok
  rw [Bool.and_eq_true] at ok
  have q := List.all_eq_true.mp (List.all_eq_true.mp ok.2 _ h1) _ h2
  simp at q
theorem comp_free (I : Inv X pins σ H s) (ok : compOk X.N X.env.scope N' sc ix = true) : ∀ x ∈ sc.names, x.2 = NameKind.free → ∃ c, X.env.cells.lookup x.1 = some c := fun x hx e => by
  obtain ⟨n, k⟩ := x
  have e' : k = NameKind.free := e
  subst e'
  exact I.ok.has n (compOk.fr ok hx)
theorem comp_cl (I : Inv X pins σ H s) (ok : compOk X.N X.env.scope N' sc ix = true) {x : Str} {c : Addr} (h : (clOf X.env.cells sc.names []).lookup x = some c) : (x, NameKind.free) ∈ sc.names ∧ X.env.cells.lookup x = some c := by
  rcases clOf_cases _ _ h with ⟨m, e⟩ | z
  · obtain ⟨d, hd⟩ := comp_free I ok _ m rfl
    have hd' : X.env.cells.lookup x = some d := hd
    rw [hd'] at e
    have e2 : c = d := e
    subst e2
    exact ⟨m, hd'⟩
  · simp at z
theorem comp_inv {fp : List Addr} {L : Addr} {h1 : Heap} (I : Inv X pins σ H s) (hf : ∀ b ∈ fp, FpOk X pins H b) (hb : ∀ b ∈ fp, ∃ o, s.heap.get? b = some o) (ok : compOk X.N X.env.scope N' sc ix = true) (hk : sc.kind = .function) (hL : s.heap.objs.size ≤ L)
    (kp : ∀ b o, s.heap.get? b = some o → h1.get? b = some o) (ns : h1.Ns L fun _ => none)
    (hc : ∀ x c, (cellsFrom (L + 1) sc.names (clOf X.env.cells sc.names [])).lookup x = some c → (clOf X.env.cells sc.names []).lookup x = some c ∨ (L < c ∧ h1.IsCell c none)) :
    Inv (cxComp X N' sc L (cellsFrom (L + 1) sc.names (clOf X.env.cells sc.names [])) s H fp) [] (inS ix σ) H { s with heap := h1 } := by
  have cc : ∀ x c, (clOf X.env.cells sc.names []).lookup x = some c → (x, NameKind.free) ∈ sc.names ∧ X.env.cells.lookup x = some c ∧ (∃ v, s.heap.IsCell c v) ∧ c < s.heap.objs.size := fun x c e => by
    obtain ⟨m, e'⟩ := comp_cl I ok e
    obtain ⟨v, z⟩ := I.cell x c e'
    exact ⟨m, e', ⟨v, z⟩, z.lt⟩
  have fpl : ∀ b ∈ fp, b < s.heap.objs.size := fun b z => let ⟨o, e⟩ := hb b z; Heap.lt_size e
  have cne : ∀ b ∈ fp, ∀ x c, (cellsFrom (L + 1) sc.names (clOf X.env.cells sc.names [])).lookup x = some c → c ≠ b := fun b z x c e => by
    have hlt := fpl b z
    rcases hc x c e with q | ⟨q, _⟩
    · exact (hf b z).2.2.2.2.1 x c (cc x c q).2.1
    · exact gt_ne (Nat.lt_of_lt_of_le hlt hL) q
  have okk : (cxComp X N' sc L (cellsFrom (L + 1) sc.names (clOf X.env.cells sc.names [])) s H fp).Ok := by
    refine ⟨I.ok.mod, hk, I.ok.glob, I.ok.blt, hL, ?_, ?_, ?_, I.ok.hd, I.ok.frames, .inl rfl, ?_, I.bs, Nat.le_trans I.ok.bsz I.sz, ?_, ?_, I.stack, I.stkFree⟩
    · refine cells_inj sc.names (L + 1) _ (fun x y c e1 e2 => I.ok.inj x y c (cc x c e1).2.1 (cc y c e2).2.1) fun x c e => ?_
      exact Nat.lt_succ_of_lt (Nat.lt_of_lt_of_le (cc x c e).2.2.2 hL)
    · intro x hx
      have hx' := relab_back (env := X.env) (x := x) (ns := sc.names) hx
      have q : ((cellsFrom (L + 1) sc.names (clOf X.env.cells sc.names [])).lookup x).isSome = true := by
        rcases hx' with z | z
        · exact PySem.W.cellsFrom_some _ _ _ (.inl z)
        · exact PySem.W.cellsFrom_some _ _ _ (.inr (clOf_some _ _ (.inl (PySem.mem_of_lookup z))))
      exact Option.isSome_iff_exists.mp q
    · intro x c hfn e
      show s.heap.objs.size ≤ c
      rcases hc x c e with q | ⟨q, _⟩
      · have m := (cc x c q).1
        have hfn' : (!(sc.names.any fun p => p.1 == x && p.2 == NameKind.free)) = true := hfn
        have z : (sc.names.any fun p => p.1 == x && p.2 == NameKind.free) = true := List.any_eq_true.mpr ⟨_, m, by simp⟩
        rw [z] at hfn'
        cases hfn'
      · exact Nat.le_trans hL (Nat.le_of_lt q)
    · intro b z
      have hlt := fpl b z
      exact ⟨Nat.ne_of_lt (Nat.lt_of_lt_of_le hlt hL), cne b z⟩
    · intro b o e z
      rcases (hf b z).2.2.2.1 with q | q
      · exact I.ok.noex b o e q
      · exact absurd (Nat.lt_of_lt_of_le (Heap.lt_size e) (Nat.le_trans I.ok.bsz q)) (Nat.lt_irrefl _)
    · intro b z hs
      rcases List.mem_cons.mp (I.stkSub b hs) with q | q
      · exact (hf b z).2.1 q
      · exact (hf b z).2.2.1 q
  refine ⟨okk, rfl, I.bare, Un.kept kp, ⟨_, ns, fun i x v h1' h2 h3 => ?_⟩, fun x c e => ?_, I.hok.fresh hL, fun x c e => ?_, fun p hp => absurd hp (by simp [cxComp]), I.hok.kept kp, ?_⟩
  · have hix : ∃ j, ix[i]? = some (some j) ∧ σ[j]? = some (some v) := by
      unfold inS at h2
      rw [List.getElem?_map] at h2
      cases e : ix[i]? with
      | none => rw [e] at h2; cases h2
      | some o =>
        rw [e] at h2
        cases o with
        | none => cases h2
        | some j =>
          have h2' : (σ[j]?).join = some v := Option.some.inj h2
          refine ⟨j, rfl, ?_⟩
          cases e2 : σ[j]? with
          | none => rw [e2] at h2'; cases h2'
          | some w =>
            rw [e2] at h2'
            have h2'' : w = some v := h2'
            rw [h2'']
    obtain ⟨j, e1, e2⟩ := hix
    obtain ⟨e3, e4⟩ := compOk.at ok e1 h1'
    have hfr := compOk.fr ok (PySem.mem_of_lookup e4)
    obtain ⟨m, hn, hl⟩ := I.loc
    obtain ⟨u, r, l⟩ := hl j x v e3 e2 (hfr.elim (fun z => .inr (.inl z)) fun z => .inr (.inr z))
    refine ⟨u, r, .inr ⟨relab_free (env := X.env) (x := x) (ns := sc.names) e4, ?_⟩⟩
    rcases l with ⟨k, _⟩ | ⟨k, c, e, z⟩
    · rcases hfr with q | q <;> rw [q] at k <;> cases k
    · have q1 := clOf_some (cells := X.env.cells) sc.names [] (.inl (PySem.mem_of_lookup e4))
      obtain ⟨c2, q2⟩ := Option.isSome_iff_exists.mp q1
      have q3 := (cc x c2 q2).2.1
      rw [e] at q3
      cases q3
      have q4 := PySem.W.cellsFrom_some (x := x) sc.names (L + 1) (clOf X.env.cells sc.names []) (.inr q1)
      obtain ⟨c3, q5⟩ := Option.isSome_iff_exists.mp q4
      rcases hc x c3 q5 with q6 | ⟨q6, q7⟩
      · rw [q2] at q6
        cases q6
        exact ⟨c, q5, z.keeps kp⟩
      · exfalso
        rcases cells_cases _ _ _ q5 with ⟨_, m'⟩ | q8
        · exact compOk.apart ok m' (PySem.mem_of_lookup e4)
        · rw [q2] at q8
          cases q8
          exact absurd (Nat.lt_trans (Nat.lt_of_lt_of_le (cc x c q2).2.2.2 hL) q6) (Nat.lt_irrefl _)
  · rcases hc x c e with q | ⟨_, q⟩
    · obtain ⟨v, z⟩ := (cc x c q).2.2.1
      exact ⟨v, z.keeps kp⟩
    · exact ⟨_, q⟩
  · rcases hc x c e with q | ⟨q, _⟩
    · exact I.freeC x c (cc x c q).2.1
    · exact I.hok.fresh (Nat.le_trans hL (Nat.le_of_lt q))
  · show (inS ix σ).length = N'.length
    unfold inS
    rw [List.length_map]
    exact compOk.len ok
end
noncomputable def PTs (X : Cx) (ifs : List Expr) (t : TT) : Prop :=
  ∀ (pins : List (Addr × Obj)) (s : Shared) (σ : St) (H : Hp) (Q : Bool → Hp → Prop), Inv X pins σ H s → t σ H Q →
    wpAny (model X.prog X.w) X.A (forIn ifs true fun c r => if r = true then do let ok ← isTrue c X.env (eval c X.env); pure (ForInStep.yield ok) else pure (ForInStep.yield r)) (TP X pins σ Q) X.xe s
noncomputable def tYes : TT := fun _ H Q => Q true H
theorem pts_nil {X : Cx} : PTs X [] tYes := fun _ _ _ H _ I h => wpAny_tests_nil ⟨H, I, h⟩
theorem compLoop_any {prog : Program} {w : World} {A : Around} {R : Result → Shared → Prop} {s : Shared} {elt tg iter : Expr} {ifs : List Expr} {scope : Scope} {pos : Pos} {it acc : Value} {env : Env} (J : Nat → Shared → Prop)
    (turn : ∀ n s, J n s → wpAny (model prog w) A (pyNext it) (fun r s1 => match r with
      | none => R (.ok .next) s1
      | some v => wpAny (model prog w) A (letOwnedTupleGo tg it v) (fun _ s1' => wpAny (model prog w) A (assign tg env v) (fun _ s2 =>
          wpAny (model prog w) A (forIn ifs true fun c r => if r = true then do let ok ← isTrue c env (eval c env); pure (ForInStep.yield ok) else pure (ForInStep.yield r)) (fun ok s3 =>
            if ok = true then wpAny (model prog w) A (eval elt env) (fun x s4 => wpAny (model prog w) A (call (.builtin "list.append") [acc, x]) (fun _ s5 => ∃ m, m < n ∧ J m s5) (fun _ _ => False) s4) (fun _ _ => False) s3
            else ∃ m, m < n ∧ J m s3) (fun _ _ => False) s2) (fun _ _ => False) s1') (fun _ _ => False) s1) (fun _ _ => False) s)
    (n : Nat) (h : J n s) : codeAny (model prog w) A (.compLoop (.ListComp elt [⟨tg, iter, ifs, 0⟩] scope pos) 0 it acc env) R s := by
  refine codeAny_loop rfl J (fun n s hJ => ?_) n h
  show wpAny _ A ((compTurn (.ListComp elt [⟨tg, iter, ifs, 0⟩] scope pos) 0 it acc env).onRaise (fun x => do noteFrame x env; theTreesLotGoes x)) _ _ s
  refine wpAny_noted ?_
  rw [compTurn_list]
  refine wpAny_bind (wpAny_standAt (wpAny_bind (wpAny_mono (turn n s hJ) (fun r s1 h1 => ?_) fun _ _ z => z.elim)))
  cases r with
  | none => exact wpAny_pure h1
  | some v =>
    refine wpAny_bind (wpAny_mono h1 (fun _ s1' h1' => ?_) fun _ _ z => z.elim)
    refine wpAny_bind (wpAny_mono h1' (fun _ s2 h2 => wpAny_bind (wpAny_mono h2 (fun ok s3 h3 => ?_) fun _ _ z => z.elim)) fun _ _ z => z.elim)
    cases ok with
    | false => exact wpAny_pure ⟨rfl, h3⟩
    | true =>
      exact wpAny_bind (wpAny_bind (wpAny_mono h3 (fun x s4 h4 => wpAny_bind (wpAny_mono h4 (fun _ s5 h5 => wpAny_pure (wpAny_pure ⟨rfl, h5⟩)) fun _ _ z => z.elim)) fun _ _ z => z.elim))
noncomputable def compTurns (J : It) (ix : List (Option Nat)) (g : TG) (tt : TT) (te : TE) (σ : St) (F : List V → Hp → Prop) (H : Hp) : Prop :=
  ∃ W : Nat → Nat → List V → Hp → Prop, (∃ m, W 0 m [] H) ∧ ∀ i m ys H, W i m ys H →
    (J.stop i H ∧ ys.length ≤ sizeLine ∧ F ys H) ∨ (J.go i H ∧ ys.length ≤ sizeLine ∧ ∃ N : List V → Hp → Prop, (∀ ys' H', N ys' H' → ∃ m', m' < m ∧ W (i + 1) m' ys' H') ∧
      ∀ x H', J.yld i H x H' → g x (inS ix σ) H' fun σ2 H2 => tt σ2 H2 fun b H3 => if b = true then te σ2 H3 fun y H4 => N (ys ++ [y]) H4 else N ys H3)
section
variable {X : Cx} {pins : List (Addr × Obj)} {σ : St} {H : Hp} {s : Shared} {N' : List Str} {sc : Scope} {ix : List (Option Nat)}
theorem Inv.slots0 {X : Cx} {σ' : St} (I : Inv X pins σ' H s) (h : ∀ (i : Nat) v, (inS ix σ)[i]? = some (some v) → σ'[i]? = some (some v)) (hl : (inS ix σ).length = X.N.length) : Inv X pins (inS ix σ) H s :=
  I.weak (by rw [hl, I.len]) h
theorem comp_core {tg elt iter : Expr} {ifs : List Expr} {pos : Pos} {g : TG} {tt : TT} {te : TE} {J : It} {fp : List Addr} {it : Addr} {tn : Nat → Heap → Prop} {F : List V → Hp → Prop} {E : Value → Shared → Prop}
    (hc : X.calm = true) (I : Inv X pins σ H s) (T : Turn X.prog X.w X.K tg J fp it tn) (st : tn 0 s.heap) (hf : ∀ b ∈ fp, FpOk X pins H b) (ok : compOk X.N X.env.scope N' sc ix = true) (hk : sc.kind = .function)
    (hg : ∀ L cs s H fp, PG (cxComp X N' sc L cs s H fp) tg g) (hkeep : ∀ x σ' H' (Q : St → Hp → Prop), g x σ' H' Q → g x σ' H' fun σ2 H2 => Q σ2 H2 ∧ ∀ (i : Nat) v, σ'[i]? = some (some v) → (∃ j, ix[i]? = some (some j)) → σ2[i]? = some (some v))
    (ht : ∀ L cs s H fp, PTs (cxComp X N' sc L cs s H fp) ifs tt) (he : ∀ L cs s H fp, PE (cxComp X N' sc L cs s H fp) elt te)
    (tr : compTurns J ix g tt te σ F H) :
    wpAny (model X.prog X.w) X.A (newList []) (fun acc s3 => wpAny (model X.prog X.w) X.A (newFunctionEnv sc X.env.globals (clOf X.env.cells sc.names []) [] X.env.qual none .none (some X.env)) (fun cenv s4 =>
      codeAny (model X.prog X.w) X.A (.compStart (.ListComp elt [⟨tg, iter, ifs, 0⟩] sc pos) 0 (.ref it) acc { cenv with scope := relabel sc X.env }) (fun r s' => (∃ fl, r = .ok fl) ∧
        ∃ (p : Addr) (ys : List V) (H2 : Hp), acc = .ref p ∧ Inv X pins σ (upd H2 p (.lst ys)) s' ∧ H2 p = none ∧ F ys H2 ∧ (∃ m, s'.heap.Ns cenv.locals m) ∧ (upd H2 p (.lst ys)) cenv.locals = none ∧ cenv.locals ≠ X.env.locals ∧
          X.s₀.heap.objs.size ≤ cenv.locals ∧ (∀ x c, X.env.cells.lookup x = some c → c ≠ cenv.locals) ∧ ∀ q ∈ X.pn ++ pins, q.1 ≠ cenv.locals) s4) E s3) E s := by
  obtain ⟨W, ⟨m0, w0⟩, turn⟩ := tr
  refine wpAny_newObj_type (new_block fun h1 kp ns hcl => ?_)
  dsimp only at kp ns hcl ⊢
  generalize hH2 : s.heap.push { cls := .type "list", dict := none, data := .seq ([] : List Value).toArray } = HH at kp ns hcl ⊢
  have eL : HH.objs.size = s.heap.objs.size + 1 := by rw [← hH2, Heap.size_push]
  have kp0 : ∀ b o, s.heap.get? b = some o → h1.get? b = some o := fun b o e => kp b o (hH2 ▸ Heap.get?_push_of_some _ e)
  have hD0 : h1.PlainList s.heap.objs.size #[] := ⟨_, kp _ _ (hH2 ▸ Heap.get?_push_size _ rfl)⟩
  have fpo : ∀ b ∈ fp, ∃ o, s.heap.get? b = some o := fun b z => let ⟨o, e, _⟩ := T.obj 0 _ st b z; ⟨o, e⟩
  have fpl : ∀ b ∈ fp, b < s.heap.objs.size := fun b z => let ⟨o, e⟩ := fpo b z; Heap.lt_size e
  have sL : s.heap.objs.size ≤ HH.objs.size := by rw [eL]; exact Nat.le_succ _
  have sL' : s.heap.objs.size < HH.objs.size := by rw [eL]; exact Nat.lt_succ_self _
  have I0 := comp_inv (h1 := h1) I hf fpo ok hk sL kp0 ns hcl
  generalize hXX : cxComp X N' sc HH.objs.size (cellsFrom (HH.objs.size + 1) sc.names (clOf X.env.cells sc.names [])) s H fp = Y at I0
  have eY1 : Y.prog = X.prog := by subst hXX; rfl
  have eY2 : Y.w = X.w := by subst hXX; rfl
  have eY3 : Y.K = X.K := by subst hXX; rfl
  have eY4 : Y.calm = true := by subst hXX; exact hc
  have eY5 : Y.A = X.A := by subst hXX; rfl
  have eY6 : Y.env = { scope := relabel sc X.env, locals := HH.objs.size, globals := X.env.globals, cells := cellsFrom (HH.objs.size + 1) sc.names (clOf X.env.cells sc.names []), qual := X.env.qual, func := none, code := X.env.code, frame := X.env.frame, builtins := X.env.builtins } := by subst hXX; rfl
  have eY7 : Y.xe = fun _ _ => False := by subst hXX; rfl
  have eY8 : Y.pn = [] := by subst hXX; rfl
  have eY9 : Y.fs = frs X.stack := by subst hXX; rfl
  have eY10 : Y.s₀ = s := by subst hXX; rfl
  have eY11 : Y.H₀ = H := by subst hXX; rfl
  have eY12 : Y.ex = fp := by subst hXX; rfl
  have eY13 : Y.N = N' := by subst hXX; rfl
  have hgY : PG Y tg g := by subst hXX; exact hg _ _ _ _ _
  have htY : PTs Y ifs tt := by subst hXX; exact ht _ _ _ _ _
  have heY : PE Y elt te := by subst hXX; exact he _ _ _ _ _
  have lenI : (inS ix σ).length = Y.N.length := by rw [eY13]; unfold inS; rw [List.length_map]; exact compOk.len ok
  have cellN : ∀ (b : Addr), b ≤ HH.objs.size → (∀ x c, X.env.cells.lookup x = some c → c ≠ b) → ∀ x c, Y.env.cells.lookup x = some c → c ≠ b := fun b hb hx x c e => by
    rw [eY6] at e
    rcases hcl x c e with q | ⟨q, _⟩
    · exact hx x c (comp_cl I ok q).2
    · exact (lt_ne (Nat.lt_of_le_of_lt hb (Nat.lt_succ_self _)) q).symm
  have oldc : ∀ x c, X.env.cells.lookup x = some c → c < s.heap.objs.size := fun x c e => let ⟨v, z⟩ := I.cell x c e; z.lt
  have nfs : ∀ b, s.heap.objs.size ≤ b → b ∉ frs X.stack := fun b hb z => by
    rcases List.mem_cons.mp (I.stkSub b z) with q | q
    · exact lt_ne I.lt hb q.symm
    · exact I.nofs hb q
  have fpY : ∀ (pp : List (Addr × Obj)) (H' : Hp), (∀ b ∈ fp, H' b = none) → (∀ q ∈ pp, q.1 ∉ fp) → ∀ b ∈ fp, FpOk Y pp H' b := fun pp H' hn hq b z => by
    have hlt := fpl b z
    refine ⟨hn b z, ?_, ?_, .inl (by rw [eY12]; exact z), cellN b (Nat.le_of_lt (Nat.lt_trans hlt sL')) ((hf b z).2.2.2.2.1), fun q hq' e => ?_⟩
    · rw [eY6]; exact lt_ne hlt sL
    · rw [eY9]; intro hs
      rcases List.mem_cons.mp (I.stkSub b hs) with q | q
      · exact (hf b z).2.1 q
      · exact (hf b z).2.2.1 q
    · rw [eY8] at hq'
      exact hq q (by simpa using hq') (by rw [e]; exact z)
  have Dfp : s.heap.objs.size ∉ fp := fun z => absurd (fpl _ z) (Nat.lt_irrefl _)
  have Dok : ∀ (pp : List (Addr × Obj)) (H' : Hp), H' s.heap.objs.size = none → (∀ q ∈ pp, q.1 ≠ s.heap.objs.size) → FpOk Y pp H' s.heap.objs.size := fun pp H' hn hq => by
    refine ⟨hn, ?_, by rw [eY9]; exact nfs _ (Nat.le_refl _), .inr (by rw [eY10]; exact Nat.le_refl _), cellN _ sL (fun x c e => Nat.ne_of_lt (oldc x c e)), fun q hq' => ?_⟩
    · rw [eY6]; exact Nat.ne_of_lt sL'
    · rw [eY8] at hq'
      exact hq q (by simpa using hq')
  have loop : codeAny (model X.prog X.w) X.A (.compLoop (.ListComp elt [⟨tg, iter, ifs, 0⟩] sc pos) 0 (.ref it) (.ref s.heap.objs.size) Y.env) (fun r s' => (∃ fl, r = .ok fl) ∧
        ∃ (p : Addr) (ys : List V) (H2 : Hp), Value.ref s.heap.objs.size = .ref p ∧ Inv X pins σ (upd H2 p (.lst ys)) s' ∧ H2 p = none ∧ F ys H2 ∧ (∃ m, s'.heap.Ns HH.objs.size m) ∧ (upd H2 p (.lst ys)) HH.objs.size = none ∧ HH.objs.size ≠ X.env.locals ∧
          X.s₀.heap.objs.size ≤ HH.objs.size ∧ (∀ x c, X.env.cells.lookup x = some c → c ≠ HH.objs.size) ∧ ∀ q ∈ X.pn ++ pins, q.1 ≠ HH.objs.size) { s with heap := h1 } := by
    refine compLoop_any (fun n s' => ∃ i ys its H', Inv Y [] (inS ix σ) H' s' ∧ tn i s'.heap ∧ (∀ b ∈ fp, H' b = none) ∧ H' s.heap.objs.size = none ∧ s'.heap.PlainList s.heap.objs.size its ∧ Vals ys its.toList ∧ W i n ys H') ?_ m0
      ⟨0, [], #[], H, I0, T.keep _ _ _ st fun b _ o e => kp0 b o e, fun b z => (hf b z).1, I.hok.fresh (Nat.le_refl _), hD0, .nil, w0⟩
    rintro n s3 ⟨i, ys, its, H3, I3, st3, fr3, hD3, pl3, vs3, w3⟩
    obtain ⟨nD, oD⟩ := pl3
    have hpD : ∀ q ∈ [((s.heap.objs.size : Addr), ({ cls := .type "list", data := .seq its nD } : Obj))], q.1 ∉ fp := fun q hq => by
      have : q = _ := List.mem_singleton.mp hq
      rw [this]; exact Dfp
    have I3' : Inv Y [((s.heap.objs.size : Addr), ({ cls := .type "list", data := .seq its nD } : Obj))] (inS ix σ) H3 s3 := I3.pins_of fun q hq => by
      have e : q = _ := List.mem_singleton.mp hq
      obtain ⟨d0, d1, d2, _⟩ := Dok [] H3 hD3 (fun _ z => nomatch z)
      rw [e]
      exact ⟨oD, d0, d1, d2, fun v z => by cases z⟩
    rcases turn i n ys H3 w3 with ⟨stop, ln, qn⟩ | ⟨go, ln, NN, hNN, step⟩
    · have h1 := T.done Y eY1 eY2 eY3 eY4 i _ s3 _ H3 (fun _ _ => False) I3' (fpY _ H3 fr3 hpD) st3 stop
      rw [eY5] at h1
      refine wpAny_mono h1 (fun r s4 ⟨hr, I4⟩ => ?_) fun _ _ z => z
      subst hr
      obtain ⟨oD4, hD4, _⟩ := I4.pin ((s.heap.objs.size : Addr), ({ cls := .type "list", data := .seq its nD } : Obj)) (by rw [eY8]; simp)
      refine ⟨⟨_, rfl⟩, s.heap.objs.size, ys, H3, rfl, ?_, hD3, qn, ?_, ?_, ?_, ?_, ?_, ?_⟩
      · have ub : Un (frs X.stack) fp H H3 s.heap s4.heap := by
          have := I4.base
          rw [eY9, eY10, eY11, eY12] at this
          exact this
        have hok4 : HOk X.prog X.w H3 s4.heap := by
          have := I4.hok
          rw [eY1, eY2] at this
          exact this
        refine I.call' (ch := fp) (by have := I4.os; rw [eY10] at this; exact this) ⟨ub.keep, ub.slot, fun b o e nn hx => ?_, ub.there, fun b xs q => ?_, fun b o u q => ?_, fun b ps q => ?_⟩ (fun b u e => ?_) I4.bare (fun b hb => ?_)
        · rw [upd_ne (Nat.ne_of_lt (Heap.lt_size e))]; exact ub.free b o e nn hx
        · rw [upd_ne (ne_of_none (ub.tups b xs q) hD3)]; exact ub.tups b xs q
        · rw [upd_ne (ne_of_none (ub.frzs b o u q) hD3)]; exact ub.frzs b o u q
        · obtain ⟨more, z⟩ := ub.tbls b ps q
          exact ⟨more, by rw [upd_ne (ne_of_none z hD3)]; exact z⟩
        · by_cases hb : b = s.heap.objs.size
          · subst hb
            rw [upd_same] at e
            cases e
            exact ⟨ln, its.toList, nD, vs3, by simpa using oD4⟩
          · rw [upd_ne hb] at e
            exact (hok4 b u e).stay (fun _ _ _ q => q) (fun c q => by rw [upd_ne (ne_of_none q hD3)]; exact q) fun c xs q => by rw [upd_ne (ne_of_none q hD3)]; exact q
        · obtain ⟨f0, f1, f2, f3, f4, f5⟩ := hf b hb
          exact ⟨f3, f1, f4, f5⟩
      · obtain ⟨m, hn, _⟩ := I4.loc
        rw [eY6] at hn
        exact ⟨m, hn⟩
      · rw [upd_ne (Nat.ne_of_gt sL')]
        have := I4.free
        rw [eY6] at this
        exact this
      · exact Nat.ne_of_gt (Nat.lt_trans I.lt sL')
      · exact Nat.le_trans I.sz sL
      · exact fun x c e => lt_ne (oldc x c e) sL
      · exact fun q hq => lt_ne (Heap.lt_size (I.pin q hq).1) sL
    · have h1 := T.item Y eY1 eY2 eY3 eY4 i _ s3 _ H3 (fun _ _ => False) I3' (fpY _ H3 fr3 hpD) st3 go
      rw [eY5] at h1
      refine wpAny_mono h1 (fun r s4 ⟨u, hr, h4⟩ => ?_) fun _ _ z => z
      subst hr
      refine wpAny_mono h4 (fun _ s5 ⟨x, H5, I5, r5, y5, st5, fr5⟩ => ?_) fun _ _ z => z
      have I5' := I5.pinned (fpY _ H5 fr5 hpD) (T.obj _ _ st5)
      have h5 := hgY _ s5 _ H5 x u _ I5' r5 (hkeep x _ H5 _ (step x H5 y5))
      rw [eY1, eY2, eY5, eY7] at h5
      refine wpAny_mono h5 (fun _ s6 ⟨σ6, H6, I6, q6, k6⟩ => ?_) fun _ _ z => z
      have h6 := htY _ s6 σ6 H6 _ I6 q6
      rw [eY1, eY2, eY5, eY7] at h6
      refine wpAny_mono h6 (fun b s7 ⟨H7, I7, q7⟩ => ?_) fun _ _ z => z
      have back : ∀ {s8 : Shared} {H8 : Hp}, Inv Y ([((s.heap.objs.size : Addr), ({ cls := .type "list", data := .seq its nD } : Obj))] ++ pinsAt fp s5.heap) σ6 H8 s8 → Inv Y [] (inS ix σ) H8 s8 ∧ tn (i + 1) s8.heap ∧ (∀ b ∈ fp, H8 b = none) ∧ H8 s.heap.objs.size = none ∧ s8.heap.get? s.heap.objs.size = some { cls := .type "list", data := .seq its nD } := fun {s8 H8} I8 => by
        obtain ⟨a1, a2, _⟩ := I8.pin ((s.heap.objs.size : Addr), ({ cls := .type "list", data := .seq its nD } : Obj)) (by rw [eY8]; simp)
        refine ⟨(I8.pins_of (pins' := []) fun _ z => nomatch z).slots0 (fun k v e => ?_) lenI, T.keep _ _ _ st5 fun b hb o e => (I8.pin (b, o) (List.mem_append_right _ (List.mem_append_right _ (mem_pinsAt hb e)))).1, fun b hb => ?_, a2, a1⟩
        · refine k6 k v e ?_
          unfold inS at e
          rw [List.getElem?_map] at e
          cases e2 : ix[k]? with
          | none => rw [e2] at e; cases e
          | some o =>
            cases o with
            | none => rw [e2] at e; cases e
            | some j => exact ⟨j, rfl⟩
        · obtain ⟨o, e, d⟩ := T.obj _ _ st5 b hb
          exact (I8.pin (b, o) (List.mem_append_right _ (List.mem_append_right _ (mem_pinsAt hb e)))).2.1
      cases b with
      | false =>
        rw [if_neg Bool.false_ne_true] at q7 ⊢
        obtain ⟨m', hm, w7⟩ := hNN _ _ q7
        obtain ⟨b1, b2, b3, b4, b5⟩ := back I7
        exact ⟨m', hm, i + 1, ys, its, H7, b1, b2, b3, b4, ⟨nD, b5⟩, vs3, w7⟩
      | true =>
        rw [if_pos rfl] at q7 ⊢
        have h7 := heY _ s7 σ6 H7 _ I7 q7
        rw [eY1, eY2, eY5, eY7, eY6] at h7
        rw [eY6]
        refine wpAny_mono h7 (fun uu s8 ⟨y, H8, I8, r8, q8⟩ => ?_) fun _ _ z => z
        obtain ⟨m', hm, w8⟩ := hNN _ _ q8
        obtain ⟨b1, b2, b3, b4, b5⟩ := back I8
        have ez : its.size ≤ sizeLine := by
          have h1 := vs3.length
          have h2 : its.toList.length = its.size := by simp
          omega
        refine wpAny_list_append_plain (hsz := ez) ⟨nD, b5⟩ fun h9 pl9 sb9 => ?_
        obtain ⟨d0, d1, d2, d3, d4, d5⟩ := Dok [] H8 b4 (fun _ z => nomatch z)
        refine ⟨m', hm, i + 1, ys ++ [y], its.push uu, H8, b1.turned (t' := s8.toks) (fun b o hb e => (sb9.2 b hb).trans e) d0 d1 d3 d4 d5, T.keep _ _ _ b2 fun b hb o e => (sb9.2 b ?_).trans e, b3, b4, pl9, ?_, w8⟩
        · exact lt_ne (fpl b hb) (Nat.le_refl _)
        · rw [Array.toList_push]
          exact vs3.append (.cons r8 .nil)
  rw [eY6] at loop
  exact codeAny_compStart_list loop (T.self X.A 0 _ _ _ (T.keep _ _ _ st fun b _ o e => kp0 b o e) loop)
end
noncomputable def tComp (wi : TI) (ix : List (Option Nat)) (g : TG) (tt : TT) (te : TE) : TE := fun σ H Q => wi σ H fun J H1 => compTurns J ix g tt te σ (fun ys H2 => ∀ p, H2 p = none → Q (.ref p) (upd H2 p (.lst ys))) H1
noncomputable def Leaves (ix : List (Option Nat)) (g : TG) : Prop := ∀ x σ' H' (Q : St → Hp → Prop), g x σ' H' Q → g x σ' H' fun σ2 H2 => Q σ2 H2 ∧ ∀ (i : Nat) v, σ'[i]? = some (some v) → (∃ j, ix[i]? = some (some j)) → σ2[i]? = some (some v)
theorem leaves_name {ix : List (Option Nat)} {k : Nat} (h : ix[k]? = some none) : Leaves ix (gName k) := fun x σ' H' Q q => ⟨q, fun i v e ⟨j, hj⟩ => by
  have : k ≠ i := by rintro rfl; rw [h] at hj; cases hj
  rw [List.getElem?_set_ne this]; exact e⟩
section
variable {X : Cx} {N' : List Str} {sc : Scope} {ix : List (Option Nat)} {tg elt iter : Expr} {ifs : List Expr} {pos spos py : Pos} {wi : TI} {g : TG} {tt : TT} {te : TE}
theorem pe_comp (N' : List Str) (ix : List (Option Nat)) (hc : X.calm = true) (hi : PI X tg iter wi) (hg : ∀ L cs s H fp, PG (cxComp X N' sc L cs s H fp) tg g) (hl : Leaves ix g)
    (ht : ∀ L cs s H fp, PTs (cxComp X N' sc L cs s H fp) ifs tt) (he : ∀ L cs s H fp, PE (cxComp X N' sc L cs s H fp) elt te)
    (ok : compOk X.N X.env.scope N' sc ix = true := by rfl) (hk : sc.kind = .function := by rfl) (hs : ∀ x, foldedSetIterable iter X.env x = pure x := by intro _; rfl) :
    PE X (.ListComp elt [⟨tg, iter, ifs, 0⟩] sc pos) (tComp wi ix g tt te) := by
  intro pins s σ H Q I h
  rw [eval_ListComp]
  refine wpAny_comprehension_free (use := none) rfl hs (closure_eq (comp_free I ok)) hk (compOk.loc ok) (thn (hi pins s σ H _ I h) fun v s1 h1 => thn h1 fun itv s2 h2 => ?_)
  obtain ⟨it, fp, tn, J, H2, e, I2, T, st2, f2, tr⟩ := h2
  subst e
  refine thn (comp_core hc I2 T st2 f2 ok hk hg hl ht he tr) fun acc s3 h3 => thn h3 fun cenv s4 h4 => codeAny_mono h4 fun r s5 hr => ?_
  obtain ⟨⟨fl, e1⟩, p, ys, H5, e2, I5, hp, q, ⟨m, hn⟩, c0, c1, c2, c3, c4⟩ := hr
  subst e1
  subst e2
  exact ⟨m, hn, fun h' sb => ⟨.ref p, _, I5.turned (t' := s5.toks) (fun b o hb e => (sb.2 b hb).trans e) c0 c1 (.inr c2) c3 c4, rfl, q p hp⟩⟩
noncomputable def tSetComp (j : Nat) (wi : TI) (ix : List (Option Nat)) (g : TG) (tt : TT) (te : TE) : TS := fun D σ H => wi σ H fun J H1 => compTurns J ix g tt te σ (fun ys H2 => ∀ p, H2 p = none → D.nx (σ.set j (some (.ref p))) (upd H2 p (.lst ys))) H1
theorem ps_setComp (N' : List Str) (ix : List (Option Nat)) {j : Nat} {y : Str} (hN : X.N.Nodup) (hj : X.N[j]? = some y) (hy : X.env.scope.names.lookup y = some .local) (hc : X.calm = true) (hi : PI X tg iter wi) (hg : ∀ L cs s H fp, PG (cxComp X N' sc L cs s H fp) tg g) (hl : Leaves ix g)
    (ht : ∀ L cs s H fp, PTs (cxComp X N' sc L cs s H fp) ifs tt) (he : ∀ L cs s H fp, PE (cxComp X N' sc L cs s H fp) elt te)
    (hsw : swapsWith (.ListComp elt [⟨tg, iter, ifs, 0⟩] sc pos) (some (.Name y py)) spos.line X.env = pure true := by rfl)
    (ok : compOk X.N X.env.scope N' sc ix = true := by rfl) (hk : sc.kind = .function := by rfl) (hs : ∀ x, foldedSetIterable iter X.env x = pure x := by intro _; rfl) :
    PS X (.Assign [.Name y py] (.ListComp elt [⟨tg, iter, ifs, 0⟩] sc pos) spos) (tSetComp j wi ix g tt te) := by
  intro pins s σ H D I h
  rw [exec_Assign_Name_used _ _ _ _ hsw]
  refine wpAny_bind (wpAny_standAt (wpAny_bind ?_))
  show wpAny _ X.A (do let _ ← comprehension (.ListComp elt [⟨tg, iter, ifs, 0⟩] sc pos) sc X.env _ (newList []) false (eval iter X.env) (some (assign (.Name y py) X.env))) _ _ s
  refine wpAny_bind (wpAny_mono (wpAny_comprehension_free (use := some (assign (.Name y py) X.env)) (Q := fun _ s' => SP X pins D .next s') rfl hs (closure_eq (comp_free I ok)) hk (compOk.loc ok) (thn (hi pins s σ H _ I h) fun v s1 h1 => thn h1 fun itv s2 h2 => ?_)) (fun _ s' hq => wpAny_pure (wpAny_pure hq)) fun _ _ z => z)
  obtain ⟨it, fp, tn, J, H2, e, I2, T, st2, f2, tr⟩ := h2
  subst e
  refine thn (comp_core hc I2 T st2 f2 ok hk hg hl ht he tr) fun acc s3 h3 => thn h3 fun cenv s4 h4 => codeAny_mono h4 fun r s5 hr => ?_
  obtain ⟨⟨fl, e1⟩, p, ys, H5, e2, I5, hp, q, ⟨m, hn⟩, c0, c1, c2, c3, c4⟩ := hr
  subst e1
  subst e2
  show wpAny _ X.A (assign (.Name y py) X.env (.ref p)) _ _ s5
  refine wpAny_assign_Name (store_ok2 (v := .ref p) I5 hN hj (.inl hy) rfl (fun s6 I6 ⟨a, sb, ha⟩ => ?_) (.inr hy))
  have ea : cenv.locals ≠ a := by
    rcases ha with z | z
    · rw [z]; exact c1
    · exact fun e => c3 y a z e.symm
  refine ⟨m, hn.sameBut sb ea, fun h' sb' => ?_⟩
  exact ⟨_, _, I6.turned (t' := s6.toks) (fun b o hb e => (sb'.2 b hb).trans e) c0 c1 (.inr c2) c3 c4, q p hp⟩
end
end L2
namespace L2
open PySem PySem.Spec PyProof.Rows
section
variable {X : Cx}
theorem bools_of : ∀ {bs : List Bool} {us : List Value}, Vals (bs.map V.bl) us → LSm.BoolsAre us bs
  | [], _, .nil => .nil
  | b :: r, _, .cons e t => by cases e; exact .cons b (bools_of t)
theorem call_any (hc : X.calm = true) : CallR X (.builtin "any") (fun xs H Q => ∃ (a : Addr) (bs : List Bool), xs = [.ref a] ∧ SqL X.K H a (bs.map V.bl) ∧ Q (.bl (bs.any id)) H) := by
  intro pins s σ H xs us Q I r h
  obtain ⟨a, bs, rfl, hq, q⟩ := h
  obtain ⟨u, rfl, ru⟩ := r.one
  cases ru
  obtain ⟨its, rv, p, hz⟩ := I.list hq
  have hb := bools_of rv
  have hl := p.isList
  have hlt : a < s.heap.objs.size := by obtain ⟨_, e, _⟩ := hl; exact Heap.lt_size e
  refine call_any_walk (wpAny_pyIter_list hl ?_)
  refine ⟨s.heap.objs.size, [s.heap.objs.size, a], [s.heap.objs.size], its.toArray.size, _, _, fun i => (bs[i]?).getD false, rfl, Walks.list (A := X.A.in1) (I.ok.hd hc) _ a (Nat.ne_of_lt hlt) its.toArray,
    ⟨⟨_, Heap.get?_push_size _ rfl, rfl, rfl⟩, hl.push _⟩, fun i v s' Q' E' hP hQ => ?_, fun h' tk hk => ?_⟩
  · obtain ⟨b, e, rfl⟩ := hb.get i v (by simpa using hP)
    simp only [e, Option.getD_some] at hQ
    exact wpAny_truthy_bool hQ
  · have e : ((List.range its.toArray.size).any fun i => (bs[i]?).getD false) = bs.any id := by
      rw [List.size_toArray, hb.length]; exact LSm.range_any bs
    rw [e]
    exact ⟨.bl (bs.any id), H, I.kept (LSm.kept_iter hk), rfl, q⟩
noncomputable def clsV : V → Option Value
  | .ty n => some (.type n)
  | .ref a => some (.ref a)
  | _ => none
theorem clsV_is {y : V} {c u : Value} (h : clsV y = some c) (r : RelV y u) : u = c := by
  cases y with
  | ty n => cases r; exact Option.some.inj h
  | ref a => cases r; exact Option.some.inj h
  | _ => cases h
theorem call_isi : CallR X (.builtin "isinstance") (fun xs H Q => ∃ x y c t b, xs = [x, y] ∧ clsV y = some c ∧ TyOf X.K H x t ∧ PySem.W.kitOne X.K t c = some b ∧ Q (.bl b) H) := by
  intro pins s σ H xs us Q I r h
  obtain ⟨x, y, c, t, b, rfl, hc, ty, e, q⟩ := h
  obtain ⟨u, v, rfl, ru, rv⟩ := r.two
  have ev := clsV_is hc rv
  subst ev
  exact isinst_ok I ru ty e fun tk => ⟨.bl b, H, I.tok tk, rfl, q⟩
inductive EqV (K : PySem.W.Frag) (H : Hp) : Nat → V → V → Bool → Prop where
  | flat {n : Nat} {x y : V} (hx : flatV x = true) (hy : flatV y = true) : EqV K H n x y (eqV x y)
  | same {n : Nat} {a : Addr} : EqV K H n (.ref a) (.ref a) true
  | lists {n : Nat} {a b : Addr} {xs ys : List V} {e : Nat → Bool} (ha : SqL K H a xs) (hb : SqL K H b ys) (hl : xs.length = ys.length) (ne : a ≠ b)
      (he : ∀ j x y, xs[j]? = some x → ys[j]? = some y → EqV K H n x y (e j)) : EqV K H (n + 1) (.ref a) (.ref b) ((List.range xs.length).all e)
  | listsL {n : Nat} {a b : Addr} {xs ys : List V} (ha : SqL K H a xs) (hb : SqL K H b ys) (hl : xs.length ≠ ys.length) (ne : a ≠ b) : EqV K H (n + 1) (.ref a) (.ref b) false
  | tups {n : Nat} {a b : Addr} {xs ys : List V} {e : Nat → Bool} (ha : SqT K H a xs) (hb : SqT K H b ys) (ne : a ≠ b)
      (he : ∀ j x y, xs[j]? = some x → ys[j]? = some y → EqV K H n x y (e j)) : EqV K H (n + 1) (.ref a) (.ref b) ((List.range (min xs.length ys.length)).all e && xs.length == ys.length)
theorem Vals.atA {xs : List V} {us : List Value} (r : Vals xs us) {j : Nat} (h : j < us.toArray.size) : ∃ x, xs[j]? = some x ∧ RelV x us.toArray[j] := by
  have hl := r.length
  have hj : j < xs.length := by rw [hl]; simpa using h
  obtain ⟨u, e1, e2⟩ := r.get (i := j) (x := xs[j]) (by simp [hj])
  refine ⟨xs[j], by simp [hj], ?_⟩
  have : us.toArray[j] = u := by
    have h' : j < us.length := by simpa using h
    rw [List.getElem?_eq_getElem h'] at e1
    simpa using Option.some.inj e1
  rw [this]; exact e2
end
end L2
namespace L2
open PySem PySem.Spec PyProof.Rows
section
variable {X : Cx} {x : Str} {pos : Pos}
theorem pe_tyN {T : String} (hg : Gl X x) (hm : X.mg x = none) (hv : bootBuiltins x = some (.type T)) (hn : x ≠ "__name__" := by decide) (hd : (x == ("__debug__" : Str)) = false := by decide) : PE X (.Name x pos) (tC (.ty T)) := pe_bltn (v := .ty T) hg hm hv rfl hn hd
end
section
variable {P : Program} {w : World} {K : PySem.W.Frag} {mg : Str → Option Value} {base : Heap} {CX : CXT}
theorem Fun.okX {x qual : Str} {st : Stmt} {f : Addr} {fd : FuncData} {N ps : List Str} {k : Nat} {sp : Sp} (F : Fun K x qual st f fd) (S : FnScope N ps (defScope st)) (len : ∀ vs H Q E, sp vs H Q E → vs.length = ps.length)
    (hbody : ∀ (cdv : Value) (A : Around) (outer : List Env) (s : Shared) (H : Hp) (vs : List V) (Q : VK) (E : XK), Room k (A.deeper (envOfC qual (defScope st) s.heap.objs.size f cdv)) → sp vs H Q E →
      ∃ t, PSs (cxOf CX P w K mg base N qual (defScope st) f cdv A outer s H E).nox (defBody st) t ∧ t { nx := fun _ H' => Q .non H', rt := Q } (start N vs) H) : FnOk P w K mg base CX (k + 1) f fd ps sp := by
  obtain ⟨oc, od, kV, doc, pm, an, cdv, ct, osl, rfl, lk, hcd⟩ := F.ex
  refine fn_of lk hcd S len fun A outer s H vs Q E hr hsp => ?_
  obtain ⟨t, h, q⟩ := hbody cdv A outer s H vs Q E hr hsp
  exact ⟨t, h.nox, q⟩
structure Def (K : PySem.W.Frag) (mg : Str → Option Value) (x : Str) (st : Stmt) (ps : List Str) (f : Addr) (fd : FuncData) : Prop where
  fn : Fun K x x st f fd
  mg : mg x = some (.ref f)
  bd : Binds K fd ps []
theorem def_of {h : Heap} (KX : K.In h) (G : h.Ns mainGlobals mg) {x : Str} {st : Stmt} {ps : List Str} {f : Addr} {oc : Value} {od an : Option Addr} {osl : Array (Option Value)} {kV doc pm cdv ct : Value}
    (a : PySem.W.nsIn K mainGlobals x = some (some (.ref f))) (l : K.lookup f = some ⟨oc, od, .func (PySem.W.fnOf x x (defArgs st) (defBody st) (defScope st) .none kV doc pm an cdv ct), osl⟩) (c : PySem.W.codeIn K cdv x = true) (k : PySem.W.keepIn K (.ref f) = true)
    (hb : ∀ (kV doc pm : Value) (an : Option Addr) (cdv ct : Value) (us : List Value), us.length = ps.length → bindArgs (PySem.W.fnOf x x (defArgs st) (defBody st) (defScope st) .none kV doc pm an cdv ct) ⟨us, []⟩ = pure (ps.zip us)) :
    Def K mg x st ps f (PySem.W.fnOf x x (defArgs st) (defBody st) (defScope st) .none kV doc pm an cdv ct) :=
  ⟨fun_mk l c k, PySem.W.mg_of KX G a, (fun_mk l c k).binds hb⟩
structure Mth (K : PySem.W.Frag) (C : Addr) (x qual : Str) (st : Stmt) (ps : List Str) (f : Addr) (fd : FuncData) : Prop where
  fn : Fun K x qual st f fd
  mt : Meth K C x f
  bd : Binds K fd ps []
structure Kls (K : PySem.W.Frag) (mg : Str → Option Value) (x : Str) (C : Addr) : Prop where
  cl : Cls K C
  mg : mg x = some (.ref C)
  mks : PySem.W.makesIn K C = true
  kp : PySem.W.keepIn K (.ref C) = true
  c1 : PySem.W.findIn K (.ref C) "__class__" = some (some (.builtin "object.__class__"))
  c2 : PySem.W.specialIn K (.builtin "object.__class__") "__get__" = some (some (.builtin "getset_descriptor.__get__"))
  c3 : PySem.W.takesIn K (.builtin "object.__class__") = some true
  c4 : PySem.W.mroIn K C (.type "object") = some true
theorem Kls.ty {x : Str} {C a dx : Addr} {fs : List (Str × V)} {H : Hp} (k : Kls K mg x C) (e : H a = some (.ins C dx fs)) : TyOf K H (.ref a) (.ref C) := .ins e k.cl k.c1 k.c2 k.c3 k.c4
end
section
variable {X : Cx} {K : PySem.W.Frag}
theorem call_isiK (hK : X.K = K := by rfl) : CallR X (.builtin "isinstance") (fun xs H Q => ∃ x y c t b, xs = [x, y] ∧ clsV y = some c ∧ TyOf K H x t ∧ PySem.W.kitOne K t c = some b ∧ Q (.bl b) H) := by subst hK; exact call_isi
theorem pg_c {N' : List Str} {sc : Scope} {L : Addr} {cs : List (Str × Addr)} {s : Shared} {H : Hp} {fp : List Addr} {pos : Pos} {i : Nat} {x : Str} (hN : N'.Nodup) (hi : N'[i]? = some x) (hx : Loc (cxComp X N' sc L cs s H fp).env.scope x)
    (hf : (cxComp X N' sc L cs s H fp).fn x = true ∨ (cxComp X N' sc L cs s H fp).env.scope.names.lookup x = some .local := by first | exact .inl rfl | exact .inr rfl | assumption) : PG (cxComp X N' sc L cs s H fp) (.Name x pos) (gName i) := pg_name hN hi hx hf
end
structure Grid (H : Hp) (a : Addr) (as : List Addr) (rows : List (List Int)) : Prop where
  top : H a = some (.lst (as.map V.ref))
  len : as.length = rows.length
  row : ∀ (i : Nat) (b : Addr) (r : List Int), as[i]? = some b → rows[i]? = some r → H b = some (.lst (r.map V.int))
theorem Same.upd {H : Hp} {a : Addr} {o : HO} (h : H a = none) : Same H (upd H a o) := fun b u e => by rw [upd_ne (ne_of_none e h)]; exact e
end L2
namespace L2
open PySem PySem.Spec PyProof.Rows
section
variable {X : Cx} {CX : CXT} {k : Nat} {f C : Addr} {fd : FuncData} {ps : List Str} {sp : Sp} {dvs : List V} {ds : List Value} {E : XK} {x m : Str} {p pos apos : Pos} {e : Expr} {es : List Expr} {t : TA} {mc : Value}
structure Stat (K : PySem.W.Frag) (C : Addr) (mc : Value) (m : Str) (f : Addr) : Prop where
  s1 : PySem.W.specialIn K (.ref C) "__getattribute__" = some (some (.builtin "type.__getattribute__"))
  s2 : PySem.W.readsIn K C mc = true
  s3 : PySem.W.findCls K (.ref C) mc m = some (.val (.ref f))
  s4 : PySem.W.keepIn K (.ref f) = true
end
noncomputable def Keeps (S : Addr → Prop) (H H' : Hp) : Prop := ∀ b o, H b = some o → ¬ S b → H' b = some o
theorem Keeps.refl (S : Addr → Prop) (H : Hp) : Keeps S H H := fun _ _ e _ => e
end L2
namespace L2
open PySem PySem.Spec PyProof.Rows
section
variable {X : Cx} {a b c d : Expr} {ta tb tc td : TE} {pos : Pos}
theorem Same.tup {K : PySem.W.Frag} {H H' : Hp} {a : Addr} {xs : List V} (e : Same H H') (h : SqT K H a xs) : SqT K H' a xs := by
  rcases h with (h | ⟨o, h⟩) | h
  · exact .inl (.inl (e _ _ h))
  · exact .inl (.inr ⟨o, e _ _ h⟩)
  · exact .inr h
end
end L2
namespace L2
open PySem PySem.Spec PyProof.Rows
theorem tyV_list {K : PySem.W.Frag} {a : Addr} {H : Hp} {xs : List V} (h : H a = some (.lst xs)) : tyV K "list" (.ref a) H := .inl ⟨rfl, _, SqL.of h⟩
inductive Dat where
  | non | bl (b : Bool) | int (i : Int) | str (x : Str) | tup (ds : List Dat) | lst (ds : List Dat) | ins (C : Addr) (fs : List (Str × Dat)) | dic (ks : List (List Int × Dat))
noncomputable abbrev DRow := List Int × Addr × V
noncomputable def tHash (ks : List Int) : Int := reduceHash (PySem.Builtin.Tuple.tupleHashOf (ks.map hashInt))
noncomputable def rowE (x : List Int × Addr × Value) : DictEntry := ⟨tHash x.1, .ref x.2.1, x.2.2⟩
noncomputable def RowRel (p : DRow) (q : List Int × Addr × Value) : Prop := p.1 = q.1 ∧ p.2.1 = q.2.1 ∧ RelV p.2.2 q.2.2
noncomputable def DicOk (h : Heap) (a : Addr) (xs : List DRow) (ep : Nat) : Prop := ∃ vs : List (List Int × Addr × Value), Paired RowRel xs vs ∧ (a == sysModules) = false ∧ xs.length ≤ sizeLine ∧ (vs.map (·.1)).Nodup ∧ ∃ o es, h.get? a = some o ∧ o.ExactDict ∧ o.data = .dict es ep ∧ es.toList = vs.map rowE
noncomputable def DicO (a : Addr) (xs : List DRow) (ep : Nat) : HO := .ext fun h => DicOk h a xs ep
mutual
noncomputable def Deep (K : PySem.W.Frag) (F : Hp) : Dat → V → Prop
  | .non, v => v = .non
  | .bl b, v => v = .bl b
  | .int i, v => v = .int i
  | .str x, v => v = .str x
  | .tup ds, v => ∃ a xs, v = .ref a ∧ SqT K F a xs ∧ Deeps K F ds xs
  | .lst ds, v => ∃ a xs, v = .ref a ∧ SqL K F a xs ∧ Deeps K F ds xs
  | .ins C gs, v => ∃ a dx fs, v = .ref a ∧ F a = some (.ins C dx fs) ∧ DeepF K F gs fs
  | .dic ks, v => ∃ a xs, v = .ref a ∧ (∃ ep, F a = some (DicO a xs ep)) ∧ DeepK K F ks xs
noncomputable def Deeps (K : PySem.W.Frag) (F : Hp) : List Dat → List V → Prop
  | [], xs => xs = []
  | d :: ds, xs => ∃ v vs, xs = v :: vs ∧ Deep K F d v ∧ Deeps K F ds vs
noncomputable def DeepF (K : PySem.W.Frag) (F : Hp) : List (Str × Dat) → List (Str × V) → Prop
  | [], fs => fs = []
  | (f, d) :: gs, fs => ∃ v r, fs = (f, v) :: r ∧ Deep K F d v ∧ DeepF K F gs r
noncomputable def DeepK (K : PySem.W.Frag) (F : Hp) : List (List Int × Dat) → List DRow → Prop
  | [], xs => xs = []
  | (k, d) :: ks, xs => ∃ b v r, xs = (k, b, v) :: r ∧ SqT K F b (k.map .int) ∧ Deep K F d v ∧ DeepK K F ks r
end
mutual
noncomputable def flatD : Dat → Bool
  | .tup ds => flatDs ds
  | .lst _ => false
  | .ins _ _ => false
  | .dic _ => false
  | _ => true
noncomputable def flatDs : List Dat → Bool
  | [] => true
  | d :: ds => flatD d && flatDs ds
end
theorem Same.lst {K : PySem.W.Frag} {H H' : Hp} {a : Addr} {xs : List V} (e : Same H H') (h : SqL K H a xs) : SqL K H' a xs := by
  rcases h with (h | ⟨o, h⟩) | h
  · exact .inl (.inl (e _ _ h))
  · exact .inl (.inr ⟨o, e _ _ h⟩)
  · exact .inr h
mutual
theorem Deep.mono {K : PySem.W.Frag} {F F' : Hp} (s : Same F F') : ∀ {d : Dat} {v : V}, Deep K F d v → Deep K F' d v
  | .non, _, h => h
  | .bl _, _, h => h
  | .int _, _, h => h
  | .str _, _, h => h
  | .tup _, _, ⟨a, xs, e, q, r⟩ => ⟨a, xs, e, s.tup q, Deeps.mono s r⟩
  | .lst _, _, ⟨a, xs, e, q, r⟩ => ⟨a, xs, e, s.lst q, Deeps.mono s r⟩
  | .ins _ _, _, ⟨a, dx, fs, e, q, r⟩ => ⟨a, dx, fs, e, s _ _ q, DeepF.mono s r⟩
  | .dic _, _, ⟨a, xs, e, ⟨ep, q⟩, r⟩ => ⟨a, xs, e, ⟨ep, s _ _ q⟩, DeepK.mono s r⟩
theorem Deeps.mono {K : PySem.W.Frag} {F F' : Hp} (s : Same F F') : ∀ {ds : List Dat} {xs : List V}, Deeps K F ds xs → Deeps K F' ds xs
  | [], _, h => h
  | _ :: _, _, ⟨v, vs, e, q, r⟩ => ⟨v, vs, e, Deep.mono s q, Deeps.mono s r⟩
theorem DeepF.mono {K : PySem.W.Frag} {F F' : Hp} (s : Same F F') : ∀ {gs : List (Str × Dat)} {fs : List (Str × V)}, DeepF K F gs fs → DeepF K F' gs fs
  | [], _, h => h
  | (_, _) :: _, _, ⟨v, r, e, q, t⟩ => ⟨v, r, e, Deep.mono s q, DeepF.mono s t⟩
theorem DeepK.mono {K : PySem.W.Frag} {F F' : Hp} (s : Same F F') : ∀ {ks : List (List Int × Dat)} {xs : List DRow}, DeepK K F ks xs → DeepK K F' ks xs
  | [], _, h => h
  | (_, _) :: _, _, ⟨b, v, r, e, t, q, z⟩ => ⟨b, v, r, e, s.tup t, Deep.mono s q, DeepK.mono s z⟩
end
mutual
theorem Deep.flat {K : PySem.W.Frag} {F F' : Hp} (s : ∀ a xs, SqT K F a xs → SqT K F' a xs) : ∀ {d : Dat} {v : V}, flatD d = true → Deep K F d v → Deep K F' d v
  | .non, _, _, h => h
  | .bl _, _, _, h => h
  | .int _, _, _, h => h
  | .str _, _, _, h => h
  | .tup ds, _, f, ⟨a, xs, e, q, r⟩ => ⟨a, xs, e, s _ _ q, Deeps.flat s (by simpa [flatD] using f) r⟩
  | .lst _, _, f, _ => by simp [flatD] at f
  | .ins _ _, _, f, _ => by simp [flatD] at f
  | .dic _, _, f, _ => by simp [flatD] at f
theorem Deeps.flat {K : PySem.W.Frag} {F F' : Hp} (s : ∀ a xs, SqT K F a xs → SqT K F' a xs) : ∀ {ds : List Dat} {xs : List V}, flatDs ds = true → Deeps K F ds xs → Deeps K F' ds xs
  | [], _, _, h => h
  | d :: ds, _, f, ⟨v, vs, e, q, r⟩ => by
    simp only [flatDs, Bool.and_eq_true] at f
    exact ⟨v, vs, e, Deep.flat s f.1 q, Deeps.flat s f.2 r⟩
end
theorem Deeps.length {K : PySem.W.Frag} {F : Hp} : ∀ {ds : List Dat} {xs : List V}, Deeps K F ds xs → xs.length = ds.length
  | [], _, h => by rw [show _ = [] from h]; rfl
  | _ :: _, _, ⟨_, _, e, _, r⟩ => by rw [e, List.length_cons, List.length_cons, Deeps.length r]
theorem Deeps.get {K : PySem.W.Frag} {F : Hp} : ∀ {ds : List Dat} {xs : List V} {i : Nat} {d : Dat}, Deeps K F ds xs → ds[i]? = some d → ∃ v, xs[i]? = some v ∧ Deep K F d v
  | [], _, _, _, _, e => by simp at e
  | _ :: _, _, 0, _, ⟨v, vs, e, q, _⟩, h => by
    simp only [List.getElem?_cons_zero, Option.some.injEq] at h
    subst h e
    exact ⟨v, rfl, q⟩
  | _ :: _, _, i + 1, _, ⟨v, vs, e, _, r⟩, h => by
    subst e
    simp only [List.getElem?_cons_succ] at h ⊢
    exact Deeps.get r h
theorem Deeps.at {K : PySem.W.Frag} {F : Hp} {ds : List Dat} {xs : List V} {i : Nat} {v : V} (r : Deeps K F ds xs) (h : xs[i]? = some v) : ∃ d, ds[i]? = some d ∧ Deep K F d v := by
  have hi : i < ds.length := by rw [← r.length]; exact (List.getElem?_eq_some_iff.mp h).1
  obtain ⟨w, e, q⟩ := r.get (i := i) (d := ds[i]) (by simp [hi])
  rw [h] at e
  have e' := Option.some.inj e
  subst e'
  exact ⟨ds[i], by simp [hi], q⟩
theorem Deeps.cons {K : PySem.W.Frag} {F : Hp} {d : Dat} {v : V} {ds : List Dat} {xs : List V} (q : Deep K F d v) (r : Deeps K F ds xs) : Deeps K F (d :: ds) (v :: xs) := ⟨v, xs, rfl, q, r⟩
theorem Deeps.append {K : PySem.W.Frag} {F : Hp} : ∀ {ds es : List Dat} {xs ys : List V}, Deeps K F ds xs → Deeps K F es ys → Deeps K F (ds ++ es) (xs ++ ys)
  | [], _, _, _, h, r => by rw [show _ = [] from h]; exact r
  | _ :: _, _, _, _, ⟨v, vs, e, q, t⟩, r => by subst e; exact ⟨v, _, rfl, q, Deeps.append t r⟩
theorem Deeps.take {K : PySem.W.Frag} {F : Hp} : ∀ {ds : List Dat} {xs : List V} (n : Nat), Deeps K F ds xs → Deeps K F (ds.take n) (xs.take n)
  | _, _, 0, _ => rfl
  | [], _, _ + 1, h => by rw [show _ = [] from h]; rfl
  | _ :: _, _, n + 1, ⟨v, vs, e, q, r⟩ => by subst e; exact ⟨v, _, rfl, q, Deeps.take n r⟩
theorem Deeps.drop {K : PySem.W.Frag} {F : Hp} : ∀ {ds : List Dat} {xs : List V} (n : Nat), Deeps K F ds xs → Deeps K F (ds.drop n) (xs.drop n)
  | _, _, 0, h => h
  | [], _, _ + 1, h => by rw [show _ = [] from h]; rfl
  | _ :: _, _, n + 1, ⟨v, vs, e, q, r⟩ => by subst e; exact Deeps.drop n r
theorem Deeps.set {K : PySem.W.Frag} {F : Hp} {d : Dat} {v : V} (q : Deep K F d v) : ∀ {ds : List Dat} {xs : List V} (n : Nat), Deeps K F ds xs → Deeps K F (ds.set n d) (xs.set n v)
  | [], _, _, h => by rw [show _ = [] from h]; rfl
  | _ :: _, _, 0, ⟨w, vs, e, _, r⟩ => by subst e; exact ⟨v, _, rfl, q, r⟩
  | _ :: _, _, n + 1, ⟨w, vs, e, p, r⟩ => by subst e; exact ⟨w, _, rfl, p, Deeps.set q n r⟩
theorem Deeps.reverse {K : PySem.W.Frag} {F : Hp} : ∀ {ds : List Dat} {xs : List V}, Deeps K F ds xs → Deeps K F ds.reverse xs.reverse
  | [], _, h => by rw [show _ = [] from h]; rfl
  | _ :: _, _, ⟨w, vs, e, p, r⟩ => by
    subst e
    rw [List.reverse_cons, List.reverse_cons]
    exact Deeps.append (Deeps.reverse r) ⟨w, [], rfl, p, rfl⟩
theorem Deeps.of_get {K : PySem.W.Frag} {F : Hp} : ∀ {ds : List Dat} {xs : List V}, xs.length = ds.length → (∀ (i : Nat) d v, ds[i]? = some d → xs[i]? = some v → Deep K F d v) → Deeps K F ds xs
  | [], [], _, _ => rfl
  | [], _ :: _, h, _ => by simp at h
  | _ :: _, [], h, _ => by simp at h
  | d :: ds, v :: vs, h, q => ⟨v, vs, rfl, q 0 d v rfl rfl, Deeps.of_get (by simpa using h) fun i e w h1 h2 => q (i + 1) e w (by simpa using h1) (by simpa using h2)⟩
structure Step (F H F' H' : Hp) : Prop where
  ff : Same F F'
  hh : Same H H'
  fh : Same F' H'
  nw : ∀ b o, F' b = some o → F b = some o ∨ H b = none
theorem Step.refl {F H : Hp} (s : Same F H) : Step F H F H := ⟨Same.refl _, Same.refl _, s, fun _ _ h => .inl h⟩
theorem Step.trans {F H F1 H1 F2 H2 : Hp} (a : Step F H F1 H1) (b : Step F1 H1 F2 H2) : Step F H F2 H2 :=
  ⟨a.ff.trans b.ff, a.hh.trans b.hh, b.fh, fun x o h => (b.nw x o h).elim (fun z => a.nw x o z) fun z => .inr (a.hh.free z)⟩
theorem Step.lay {F H : Hp} {p : Addr} {o : HO} (s : Same F H) (hp : H p = none) : Step F H (upd F p o) (upd H p o) :=
  ⟨Same.upd (s.free hp), Same.upd hp, fun b u h => by
    by_cases e : b = p
    · subst e; rw [upd_same] at h ⊢; exact h
    · rw [upd_ne e] at h ⊢; exact s b u h, fun b u h => by
    by_cases e : b = p
    · subst e; exact .inr hp
    · rw [upd_ne e] at h; exact .inl h⟩
theorem Step.grow {F H : Hp} {p : Addr} {o : HO} (s : Same F H) (hp : H p = none) : Step F H F (upd H p o) :=
  ⟨Same.refl _, Same.upd hp, s.trans (Same.upd hp), fun _ _ h => .inl h⟩
noncomputable def OwnD (K : PySem.W.Frag) (F H0 H : Hp) : Dat → V → Prop
  | .lst ds, v => ∃ a xs, v = .ref a ∧ H a = some (.lst xs) ∧ F a = none ∧ H0 a = none ∧ Deeps K F ds xs
  | .dic ks, v => ∃ a xs, v = .ref a ∧ (∃ ep, H a = some (DicO a xs ep)) ∧ F a = none ∧ H0 a = none ∧ DeepK K F ks xs
  | d, v => Deep K F d v
noncomputable def isO : Dat → Bool
  | .lst _ => true
  | .dic _ => true
  | _ => false
noncomputable def isMu : HO → Bool
  | .lst _ => true
  | .ext _ => true
  | _ => false
theorem OwnD.non {K : PySem.W.Frag} {F H0 H : Hp} {d : Dat} {v : V} (hd : isO d = false) : OwnD K F H0 H d v = Deep K F d v := by
  cases d <;> first | rfl | cases hd
theorem OwnD.top {K : PySem.W.Frag} {F H0 H : Hp} {d : Dat} {v : V} (hd : isO d = true) (q : OwnD K F H0 H d v) : ∃ a o, v = .ref a ∧ H a = some o ∧ isMu o = true ∧ F a = none ∧ H0 a = none := by
  cases d with
  | lst ds => obtain ⟨a, xs, e, p, f, z, _⟩ := q; exact ⟨a, _, e, p, rfl, f, z⟩
  | dic ks => obtain ⟨a, xs, e, ⟨ep, p⟩, f, z, _⟩ := q; exact ⟨a, _, e, p, rfl, f, z⟩
  | _ => cases hd
theorem OwnD.re {K : PySem.W.Frag} {F F' H0 H H' : Hp} {d : Dat} {a : Addr} (hd : isO d = true) (q : OwnD K F H0 H d (.ref a)) (ff : Same F F') (fa : F' a = none) (hh : ∀ o, H a = some o → H' a = some o) : OwnD K F' H0 H' d (.ref a) := by
  cases d with
  | lst ds => obtain ⟨b, xs, e, p, f, z, r⟩ := q; cases e; exact ⟨a, xs, rfl, hh _ p, fa, z, r.mono ff⟩
  | dic ks => obtain ⟨b, xs, e, ⟨ep, p⟩, f, z, r⟩ := q; cases e; exact ⟨a, xs, rfl, ⟨ep, hh _ p⟩, fa, z, r.mono ff⟩
  | _ => cases hd
theorem OwnD.give {K : PySem.W.Frag} {F F' H0 H : Hp} {d : Dat} {a : Addr} (hd : isO d = true) (q : OwnD K F H0 H d (.ref a)) (ff : Same F F') (fa : F' a = H a) : Deep K F' d (.ref a) := by
  cases d with
  | lst ds => obtain ⟨b, xs, e, p, f, z, r⟩ := q; cases e; exact ⟨a, xs, rfl, SqL.of (fa.trans p), r.mono ff⟩
  | dic ks => obtain ⟨b, xs, e, ⟨ep, p⟩, f, z, r⟩ := q; cases e; exact ⟨a, xs, rfl, ⟨ep, fa.trans p⟩, r.mono ff⟩
  | _ => cases hd
noncomputable def Val (K : PySem.W.Frag) (own : Bool) (F H0 H : Hp) (d : Dat) (v : V) : Prop := if own = true then OwnD K F H0 H d v else Deep K F d v
theorem OwnD.back {K : PySem.W.Frag} {F H0 H1 H : Hp} {d : Dat} {v : V} (s : Same H0 H1) (h : OwnD K F H1 H d v) : OwnD K F H0 H d v := by
  cases d with
  | lst ds => obtain ⟨a, xs, e, p, q, z, r⟩ := h; exact ⟨a, xs, e, p, q, s.free z, r⟩
  | dic ks => obtain ⟨a, xs, e, p, q, z, r⟩ := h; exact ⟨a, xs, e, p, q, s.free z, r⟩
  | _ => exact h
theorem Val.back {K : PySem.W.Frag} {own : Bool} {F H0 H1 H : Hp} {d : Dat} {v : V} (s : Same H0 H1) (h : Val K own F H1 H d v) : Val K own F H0 H d v := by
  cases own with
  | true => exact OwnD.back s h
  | false => exact h
theorem OwnD.freeze {K : PySem.W.Frag} {F H0 H : Hp} {d : Dat} {v : V} (s : Same F H) (h : OwnD K F H0 H d v) : ∃ F', Same F F' ∧ Same F' H ∧ (∀ b o, F' b = some o → F b = some o ∨ H0 b = none) ∧ Deep K F' d v := by
  cases hd : isO d with
  | true =>
    obtain ⟨a, u, e, p, _, q, z⟩ := h.top hd
    subst e
    refine ⟨upd F a u, Same.upd q, fun b o h => ?_, fun b o h => ?_, h.give hd (Same.upd q) (by rw [upd_same, p])⟩
    · by_cases e : b = a
      · subst e; rw [upd_same] at h; rw [p, ← h]
      · rw [upd_ne e] at h; exact s b o h
    · by_cases e : b = a
      · subst e; exact .inr z
      · rw [upd_ne e] at h; exact .inl h
  | false => rw [OwnD.non hd] at h; exact ⟨F, Same.refl _, s, fun _ _ z => .inl z, h⟩
inductive Err where
  | stuck | exc (C : Addr) (fs : List (Str × Dat))
noncomputable abbrev M := Except Err
noncomputable abbrev Env' := List (Option Dat)
structure Wish where
  p : Err → Hp → Hp → Prop
  mono : ∀ {e : Err} {F H F' H' : Hp}, p e F H → Step F H F' H' → p e F' H'
  ns : ∀ {F H : Hp}, p .stuck F H → False
noncomputable def Wno : Wish := ⟨fun _ _ _ => False, fun h _ => h, fun h => h⟩
noncomputable def Post (K : PySem.W.Frag) (W : Wish) (own : Bool) (F H : Hp) (r : M Dat) (Q : VK) : Prop := match r with
  | .ok d => ∀ v F' H', Step F H F' H' → Val K own F' H H' d v → Q v H'
  | .error e => W.p e F H
theorem Post.step {K : PySem.W.Frag} {W : Wish} {own : Bool} {F H F1 H1 : Hp} {r : M Dat} {Q : VK} (p : Post K W own F H r Q) (s : Step F H F1 H1) : Post K W own F1 H1 r Q := by
  cases r with
  | ok d => exact fun v F' H' t q => p v F' H' (s.trans t) (q.back s.hh)
  | error e => exact W.mono p s
theorem Post.frz {K : PySem.W.Frag} {W : Wish} {F H : Hp} {r : M Dat} {Q : VK} (p : Post K W false F H r Q) : Post K W true F H r Q := by
  cases r with
  | ok d =>
    intro v F' H' t q
    obtain ⟨F2, s1, s2, n, z⟩ := OwnD.freeze t.fh q
    exact p v F2 H' ⟨t.ff.trans s1, t.hh, s2, fun b o h => (n b o h).elim (fun z => t.nw b o z) .inr⟩ z
  | error e => exact p
structure RepE (K : PySem.W.Frag) (F : Hp) (σ : St) (ρ : Env') : Prop where
  len : ρ.length = σ.length
  sl : ∀ (i : Nat) (d : Dat), ρ[i]? = some (some d) → ∃ v, σ[i]? = some (some v) ∧ Deep K F d v
theorem RepE.mono {K : PySem.W.Frag} {F F' : Hp} {σ : St} {ρ : Env'} (r : RepE K F σ ρ) (s : Same F F') : RepE K F' σ ρ :=
  ⟨r.len, fun i d e => let ⟨v, h, q⟩ := r.sl i d e; ⟨v, h, q.mono s⟩⟩
theorem RepE.set {K : PySem.W.Frag} {F : Hp} {σ : St} {ρ : Env'} {d : Dat} {v : V} (r : RepE K F σ ρ) (q : Deep K F d v) (i : Nat) : RepE K F (σ.set i (some v)) (ρ.set i (some d)) :=
  ⟨by rw [List.length_set, List.length_set, r.len], fun j e h => by
    by_cases hij : i = j
    · subst hij
      have hi : i < ρ.length := by
        have := (List.getElem?_eq_some_iff.mp h).1
        simpa using this
      rw [List.getElem?_set_self hi] at h
      cases h
      exact ⟨v, by rw [List.getElem?_set_self (by rw [← r.len]; exact hi)], q⟩
    · rw [List.getElem?_set_ne hij] at h
      obtain ⟨w, h1, h2⟩ := r.sl j e h
      exact ⟨w, by rw [List.getElem?_set_ne hij]; exact h1, h2⟩⟩
noncomputable def tD (K : PySem.W.Frag) (W : Wish) (own : Bool) (f : Env' → M Dat) : TE := fun σ H Q => ∃ F ρ, RepE K F σ ρ ∧ Same F H ∧ Post K W own F H (f ρ) Q
theorem tD_run {K : PySem.W.Frag} {W : Wish} {own : Bool} {f : Env' → M Dat} {σ : St} {ρ : Env'} {F H : Hp} {R : VK} (r : RepE K F σ ρ) (s : Same F H) (hE : ∀ e, f ρ = .error e → W.p e F H)
    (hO : ∀ d, f ρ = .ok d → ∀ v F1 H1, Step F H F1 H1 → Val K own F1 H H1 d v → R v H1) : tD K W own f σ H R := by
  refine ⟨F, ρ, r, s, ?_⟩
  cases e : f ρ with
  | ok d => exact hO d e
  | error x => exact hE x e
noncomputable def tDT (K : PySem.W.Frag) (W : Wish) (f : Env' → M Bool) : TT := fun σ H Q => ∃ F ρ, RepE K F σ ρ ∧ Same F H ∧ (match f ρ with
  | .ok b => ∀ F' H', Step F H F' H' → Q b H'
  | .error e => W.p e F H)
theorem tDT_run {K : PySem.W.Frag} {W : Wish} {f : Env' → M Bool} {σ : St} {ρ : Env'} {F H : Hp} {R : Bool → Hp → Prop} (r : RepE K F σ ρ) (s : Same F H) (hE : ∀ e, f ρ = .error e → W.p e F H)
    (hO : ∀ b, f ρ = .ok b → ∀ F1 H1, Step F H F1 H1 → R b H1) : tDT K W f σ H R := by
  refine ⟨F, ρ, r, s, ?_⟩
  cases e : f ρ with
  | ok d => exact hO d e
  | error x => exact hE x e
noncomputable def tDA (K : PySem.W.Frag) (W : Wish) (f : Env' → M (List Dat)) : TA := fun σ H Q => ∃ F ρ, RepE K F σ ρ ∧ Same F H ∧ (match f ρ with
  | .ok ds => ∀ vs F' H', Step F H F' H' → Deeps K F' ds vs → Q vs H'
  | .error e => W.p e F H)
theorem tDA_run {K : PySem.W.Frag} {W : Wish} {f : Env' → M (List Dat)} {σ : St} {ρ : Env'} {F H : Hp} {R : List V → Hp → Prop} (r : RepE K F σ ρ) (s : Same F H) (hE : ∀ e, f ρ = .error e → W.p e F H)
    (hO : ∀ ds, f ρ = .ok ds → ∀ vs F1 H1, Step F H F1 H1 → Deeps K F1 ds vs → R vs H1) : tDA K W f σ H R := by
  refine ⟨F, ρ, r, s, ?_⟩
  cases e : f ρ with
  | ok d => exact hO d e
  | error x => exact hE x e
noncomputable def fVar (i : Nat) : Env' → M Dat := fun ρ => match ρ[i]? with
  | some (some d) => .ok d
  | _ => .error .stuck
noncomputable def fC (d : Dat) : Env' → M Dat := fun _ => .ok d
noncomputable def f1 (g : Dat → M Dat) (fa : Env' → M Dat) : Env' → M Dat := fun ρ => (fa ρ).bind g
noncomputable def f2 (g : Dat → Dat → M Dat) (fa fb : Env' → M Dat) : Env' → M Dat := fun ρ => (fa ρ).bind fun a => (fb ρ).bind fun b => g a b
noncomputable def fNil : Env' → M (List Dat) := fun _ => .ok []
noncomputable def fCons (fa : Env' → M Dat) (fr : Env' → M (List Dat)) : Env' → M (List Dat) := fun ρ => (fa ρ).bind fun a => (fr ρ).bind fun r => .ok (a :: r)
noncomputable def fL (g : List Dat → M Dat) (fr : Env' → M (List Dat)) : Env' → M Dat := fun ρ => (fr ρ).bind g
noncomputable def mkTup (ds : List Dat) : M Dat := if ds.length ≤ sizeLine then .ok (.tup ds) else .error .stuck
noncomputable def mkLst (ds : List Dat) : M Dat := if ds.length ≤ sizeLine then .ok (.lst ds) else .error .stuck
noncomputable def fIte (ft : Env' → M Bool) (fa fb : Env' → M Dat) : Env' → M Dat := fun ρ => (ft ρ).bind fun b => if b = true then fa ρ else fb ρ
noncomputable def fAnd (ft fu : Env' → M Bool) : Env' → M Bool := fun ρ => (ft ρ).bind fun b => if b = true then fu ρ else .ok false
noncomputable def fOr (ft fu : Env' → M Bool) : Env' → M Bool := fun ρ => (ft ρ).bind fun b => if b = true then .ok true else fu ρ
noncomputable def fNot (ft : Env' → M Bool) : Env' → M Bool := fun ρ => (ft ρ).bind fun b => .ok (!b)
noncomputable def asB : Dat → M Bool
  | .bl b => .ok b
  | _ => .error .stuck
noncomputable def fB (fa : Env' → M Dat) : Env' → M Bool := fun ρ => (fa ρ).bind asB
noncomputable def fAndV (fa fb : Env' → M Dat) : Env' → M Dat := fun ρ => (fa ρ).bind fun a => (asB a).bind fun b => if b = true then fb ρ else .ok (.bl false)
noncomputable def fOrV (fa fb : Env' → M Dat) : Env' → M Dat := fun ρ => (fa ρ).bind fun a => (asB a).bind fun b => if b = true then .ok (.bl true) else fb ρ
noncomputable def notD : Dat → M Dat
  | .bl b => .ok (.bl (!b))
  | _ => .error .stuck
noncomputable def truD : Dat → M Bool
  | .non => .ok false
  | .bl b => .ok b
  | .int i => .ok (i != 0)
  | .str x => if x.length ≤ sizeLine then .ok ((x.length : Int) != 0) else .error .stuck
  | .tup ds => .ok (!ds.isEmpty)
  | .lst ds => .ok (!ds.isEmpty)
  | _ => .error .stuck
noncomputable def fTru (fa : Env' → M Dat) : Env' → M Bool := fun ρ => (fa ρ).bind truD
noncomputable def fChain (g g' : Dat → Dat → M Dat) (fa fb fc : Env' → M Dat) : Env' → M Dat := fun ρ => (fa ρ).bind fun a => (fb ρ).bind fun b => (g a b).bind fun x => (asB x).bind fun k => if k = true then (fc ρ).bind fun c => g' b c else .ok (.bl false)
noncomputable def rD2 (K : PySem.W.Frag) (W : Wish) (own : Bool) (g : Dat → Dat → M Dat) : R2 := fun x y H Q => ∃ F a b, Same F H ∧ Deep K F a x ∧ Deep K F b y ∧ Post K W own F H (g a b) Q
noncomputable def rD1 (K : PySem.W.Frag) (W : Wish) (own : Bool) (g : Dat → M Dat) : V → Hp → VK → Prop := fun x H Q => ∃ F a, Same F H ∧ Deep K F a x ∧ Post K W own F H (g a) Q
noncomputable def rDL (K : PySem.W.Frag) (W : Wish) (own : Bool) (g : List Dat → M Dat) : List V → Hp → VK → Prop := fun xs H Q => ∃ F ds, Same F H ∧ Deeps K F ds xs ∧ Post K W own F H (g ds) Q
section
variable {K : PySem.W.Frag} {W : Wish} {own : Bool} {σ : St} {H : Hp} {Q : VK} {fa fb fc : Env' → M Dat}
theorem rd_var {i : Nat} (h : tD K W false (fVar i) σ H Q) : tVar i σ H Q := by
  obtain ⟨F, ρ, r, s, p⟩ := h
  unfold fVar at p
  match e : ρ[i]? with
  | some (some d) =>
    rw [e] at p
    obtain ⟨v, e1, q⟩ := r.sl i d e
    exact ⟨v, e1, p v F H (Step.refl s) q⟩
  | some none => rw [e] at p; exact (W.ns p).elim
  | none => rw [e] at p; exact (W.ns p).elim
theorem rd_c {d : Dat} {v : V} (hd : ∀ F, Deep K F d v) (h : tD K W false (fC d) σ H Q) : tC v σ H Q := by
  obtain ⟨F, ρ, r, s, p⟩ := h
  exact p v F H (Step.refl s) (hd F)
theorem Post.err {F : Hp} {x : M Dat} {e : Err} (p : Post K W own F H x Q) (h : x = .error e) : W.p e F H := by rw [h] at p; exact p
theorem rd_1 {g : Dat → M Dat} (h : tD K W own (f1 g fa) σ H Q) : tUn (rD1 K W own g) (tD K W false fa) σ H Q := by
  obtain ⟨F, ρ, r, s, p⟩ := h
  refine tD_run r s (fun e he => p.err (by unfold f1; rw [he]; rfl)) fun a ha x F1 H1 s1 q1 => ?_
  refine ⟨F1, a, s1.fh, q1, ?_⟩
  have e : f1 g fa ρ = g a := by unfold f1; rw [ha]; rfl
  rw [e] at p
  exact p.step s1
theorem rd_2 {g : Dat → Dat → M Dat} (h : tD K W own (f2 g fa fb) σ H Q) : tOp (rD2 K W own g) (tD K W false fa) (tD K W false fb) σ H Q := by
  obtain ⟨F, ρ, r, s, p⟩ := h
  refine tD_run r s (fun e he => p.err (by unfold f2; rw [he]; rfl)) fun a ha x F1 H1 s1 q1 => ?_
  refine tD_run (r.mono s1.ff) s1.fh (fun e he => (p.step s1).err (by unfold f2; rw [ha]; show (fb ρ).bind _ = _; rw [he]; rfl)) fun b hb y F2 H2 s2 q2 => ?_
  refine ⟨F2, a, b, s2.fh, Deep.mono s2.ff q1, q2, ?_⟩
  have e : f2 g fa fb ρ = g a b := by unfold f2; rw [ha]; show (fb ρ).bind _ = _; rw [hb]; rfl
  rw [e] at p
  exact p.step (s1.trans s2)
theorem rd_nil {R : List V → Hp → Prop} (h : tDA K W fNil σ H R) : tNil σ H R := by
  obtain ⟨F, ρ, r, s, p⟩ := h
  exact p [] F H (Step.refl s) rfl
theorem rd_cons {fr : Env' → M (List Dat)} {R : List V → Hp → Prop} (h : tDA K W (fCons fa fr) σ H R) : tCons (tD K W false fa) (tDA K W fr) σ H R := by
  obtain ⟨F, ρ, r, s, p⟩ := h
  refine tD_run r s (fun e he => ?_) fun a ha x F1 H1 s1 q1 => tDA_run (r.mono s1.ff) s1.fh (fun e he => ?_) fun ds hd xs F2 H2 s2 q2 => ?_
  · have z : fCons fa fr ρ = .error e := by unfold fCons; rw [he]; rfl
    rw [z] at p
    exact p
  · have z : fCons fa fr ρ = .error e := by unfold fCons; rw [ha]; show (fr ρ).bind _ = _; rw [he]; rfl
    rw [z] at p
    exact W.mono p s1
  · have z : fCons fa fr ρ = .ok (a :: ds) := by unfold fCons; rw [ha]; show (fr ρ).bind _ = _; rw [hd]; rfl
    rw [z] at p
    exact p (x :: xs) F2 H2 (s1.trans s2) ⟨x, xs, rfl, Deep.mono s2.ff q1, q2⟩
theorem rd_L {g : List Dat → M Dat} {fr : Env' → M (List Dat)} (h : tD K W own (fL g fr) σ H Q) : tDA K W fr σ H fun xs H1 => rDL K W own g xs H1 Q := by
  obtain ⟨F, ρ, r, s, p⟩ := h
  refine tDA_run r s (fun e he => p.err (by unfold fL; rw [he]; rfl)) fun ds hd xs F1 H1 s1 q1 => ⟨F1, ds, s1.fh, q1, ?_⟩
  have e : fL g fr ρ = g ds := by unfold fL; rw [hd]; rfl
  rw [e] at p
  exact p.step s1
theorem rd_tup {fr : Env' → M (List Dat)} (h : tD K W own (fL mkTup fr) σ H Q) : tTup (tDA K W fr) σ H Q := by
  obtain ⟨F, ρ, r, s, p⟩ := rd_L h
  refine ⟨F, ρ, r, s, ?_⟩
  cases e : fr ρ with
  | error x => rw [e] at p; exact p
  | ok ds =>
    rw [e] at p
    intro vs F' H' t q
    obtain ⟨F1, es, s1, q1, z⟩ := p vs F' H' t q
    unfold mkTup at z
    by_cases hl : es.length ≤ sizeLine
    · rw [if_pos hl] at z
      refine ⟨by rw [q1.length]; exact hl, fun a ha => z (.ref a) _ _ (Step.lay s1 ha) ?_⟩
      have : Deep K (upd F1 a (.tup vs)) (.tup es) (.ref a) := ⟨a, vs, rfl, SqT.of upd_same, q1.mono (Same.upd (s1.free ha))⟩
      cases own with
      | true => exact this
      | false => exact this
    · rw [if_neg hl] at z
      exact (W.ns z).elim
theorem rd_lst {fr : Env' → M (List Dat)} (h : tD K W true (fL mkLst fr) σ H Q) : tLst (tDA K W fr) σ H Q := by
  obtain ⟨F, ρ, r, s, p⟩ := rd_L h
  refine ⟨F, ρ, r, s, ?_⟩
  cases e : fr ρ with
  | error x => rw [e] at p; exact p
  | ok ds =>
    rw [e] at p
    intro vs F' H' t q
    obtain ⟨F1, es, s1, q1, z⟩ := p vs F' H' t q
    unfold mkLst at z
    by_cases hl : es.length ≤ sizeLine
    · rw [if_pos hl] at z
      exact ⟨by rw [q1.length]; exact hl, fun a ha => z (.ref a) F1 _ (Step.grow s1 ha) ⟨a, vs, rfl, upd_same, s1.free ha, ha, q1⟩⟩
    · rw [if_neg hl] at z
      exact (W.ns z).elim
theorem rd_ite {ft : Env' → M Bool} (h : tD K W own (fIte ft fa fb) σ H Q) : tIf (tDT K W ft) (tD K W own fa) (tD K W own fb) σ H Q := by
  obtain ⟨F, ρ, r, s, p⟩ := h
  refine tDT_run r s (fun e he => p.err (by unfold fIte; rw [he]; rfl)) fun b hb F1 H1 s1 => ?_
  have e : fIte ft fa fb ρ = if b = true then fa ρ else fb ρ := by unfold fIte; rw [hb]; rfl
  rw [e] at p
  cases b with
  | true => exact ⟨F1, ρ, r.mono s1.ff, s1.fh, p.step s1⟩
  | false => exact ⟨F1, ρ, r.mono s1.ff, s1.fh, p.step s1⟩
theorem tDT_mono {f : Env' → M Bool} {F F1 H1 : Hp} {ρ : Env'} {R : Bool → Hp → Prop} (r : RepE K F σ ρ) (s1 : Step F H F1 H1) (p : match f ρ with
  | .ok b => ∀ F' H', Step F H F' H' → R b H'
  | .error e => W.p e F H) : tDT K W f σ H1 R := by
  refine ⟨F1, ρ, r.mono s1.ff, s1.fh, ?_⟩
  cases e : f ρ with
  | ok b => rw [e] at p; exact fun F' H' t => p F' H' (s1.trans t)
  | error x => rw [e] at p; exact W.mono p s1
theorem rd_and {ft fu : Env' → M Bool} {R : Bool → Hp → Prop} (h : tDT K W (fAnd ft fu) σ H R) : tAnd (tDT K W ft) (tDT K W fu) σ H R := by
  obtain ⟨F, ρ, r, s, p⟩ := h
  refine tDT_run r s (fun e he => ?_) fun b hb F1 H1 s1 => ?_
  · have z : fAnd ft fu ρ = .error e := by unfold fAnd; rw [he]; rfl
    rw [z] at p; exact p
  · have z : fAnd ft fu ρ = if b = true then fu ρ else .ok false := by unfold fAnd; rw [hb]; rfl
    rw [z] at p
    cases b with
    | true => exact tDT_mono r s1 p
    | false => exact p F1 H1 s1
theorem rd_or {ft fu : Env' → M Bool} {R : Bool → Hp → Prop} (h : tDT K W (fOr ft fu) σ H R) : tOr (tDT K W ft) (tDT K W fu) σ H R := by
  obtain ⟨F, ρ, r, s, p⟩ := h
  refine tDT_run r s (fun e he => ?_) fun b hb F1 H1 s1 => ?_
  · have z : fOr ft fu ρ = .error e := by unfold fOr; rw [he]; rfl
    rw [z] at p; exact p
  · have z : fOr ft fu ρ = if b = true then .ok true else fu ρ := by unfold fOr; rw [hb]; rfl
    rw [z] at p
    cases b with
    | false => exact tDT_mono r s1 p
    | true => exact p F1 H1 s1
theorem rd_not {ft : Env' → M Bool} {R : Bool → Hp → Prop} (h : tDT K W (fNot ft) σ H R) : tNot (tDT K W ft) σ H R := by
  obtain ⟨F, ρ, r, s, p⟩ := h
  refine tDT_run r s (fun e he => ?_) fun b hb F1 H1 s1 => ?_
  · have z : fNot ft ρ = .error e := by unfold fNot; rw [he]; rfl
    rw [z] at p; exact p
  · have z : fNot ft ρ = .ok (!b) := by unfold fNot; rw [hb]; rfl
    rw [z] at p; exact p F1 H1 s1
theorem rd_B {R : Bool → Hp → Prop} (h : tDT K W (fB fa) σ H R) : tTest (tD K W false fa) σ H R := by
  obtain ⟨F, ρ, r, s, p⟩ := h
  refine tD_run r s (fun e he => ?_) fun a ha x F1 H1 s1 q1 => ?_
  · have z : fB fa ρ = .error e := by unfold fB; rw [he]; rfl
    rw [z] at p; exact p
  · have z : fB fa ρ = asB a := by unfold fB; rw [ha]; rfl
    rw [z] at p
    cases a with
    | bl b => exact ⟨b, q1, p F1 H1 s1⟩
    | _ => exact (W.ns p).elim
theorem tru_of {F H1 : Hp} {a : Dat} {x : V} {b : Bool} (s : Same F H1) (q : Deep K F a x) (h : truD a = .ok b) : TruV K x H1 b := by
  cases a with
  | non => rw [show x = .non from q]; exact (Except.ok.inj h).symm
  | bl c => rw [show x = .bl c from q]; exact (Except.ok.inj h).symm
  | int i => rw [show x = .int i from q]; exact (Except.ok.inj h).symm
  | str y =>
    rw [show x = .str y from q]
    have h' : (if y.length ≤ sizeLine then Except.ok ((y.length : Int) != 0) else Except.error Err.stuck) = Except.ok b := h
    by_cases hy : y.length ≤ sizeLine
    · rw [if_pos hy] at h'
      exact ⟨hy, (Except.ok.inj h').symm⟩
    · rw [if_neg hy] at h'
      cases h'
  | tup ds =>
    obtain ⟨p, xs, e, t, r⟩ := q
    subst e
    refine .inr (.inl ⟨xs, s.tup t, ?_⟩)
    rw [← Except.ok.inj h]
    cases ds with
    | nil => rw [show xs = [] from r]; rfl
    | cons d ds => obtain ⟨v, vs, e, _⟩ := r; rw [e]; rfl
  | lst ds =>
    obtain ⟨p, xs, e, t, r⟩ := q
    subst e
    refine .inl ⟨xs, s.lst t, ?_⟩
    rw [← Except.ok.inj h]
    cases ds with
    | nil => rw [show xs = [] from r]; rfl
    | cons d ds => obtain ⟨v, vs, e, _⟩ := r; rw [e]; rfl
  | ins C fs => cases h
  | dic ks => cases h
theorem rd_tru {R : Bool → Hp → Prop} (h : tDT K W (fTru fa) σ H R) : tD K W false fa σ H fun x H1 => ∃ k, TruV K x H1 k ∧ R k H1 := by
  obtain ⟨F, ρ, r, s, p⟩ := h
  refine tD_run r s (fun e he => ?_) fun a ha x F1 H1 s1 q1 => ?_
  · have z : fTru fa ρ = .error e := by unfold fTru; rw [he]; rfl
    rw [z] at p; exact p
  · have z : fTru fa ρ = truD a := by unfold fTru; rw [ha]; rfl
    rw [z] at p
    cases e : truD a with
    | ok b => rw [e] at p; exact ⟨b, tru_of s1.fh q1 e, p F1 H1 s1⟩
    | error x =>
      rw [e] at p
      have : x = .stuck := by
        cases a with
        | str y =>
          have e' : (if y.length ≤ sizeLine then Except.ok ((y.length : Int) != 0) else Except.error Err.stuck) = Except.error x := e
          by_cases hy : y.length ≤ sizeLine
          · rw [if_pos hy] at e'
            cases e'
          · rw [if_neg hy] at e'
            cases e'
            rfl
        | ins C fs => cases e; rfl
        | dic ks => cases e; rfl
        | _ => cases e
      subst this
      exact (W.ns p).elim
theorem rd_andV (h : tD K W false (fAndV fa fb) σ H Q) : tAndV (tD K W false fa) (tD K W false fb) σ H Q := by
  obtain ⟨F, ρ, r, s, p⟩ := h
  refine tD_run r s (fun e he => p.err (by unfold fAndV; rw [he]; rfl)) fun a ha x F1 H1 s1 q1 => ?_
  have z : fAndV fa fb ρ = (asB a).bind fun b => if b = true then fb ρ else .ok (.bl false) := by unfold fAndV; rw [ha]; rfl
  rw [z] at p
  cases a with
  | bl b =>
    refine ⟨b, q1, ?_⟩
    cases b with
    | true => exact ⟨F1, ρ, r.mono s1.ff, s1.fh, Post.step (own := false) (r := fb ρ) p s1⟩
    | false => exact p (.bl false) F1 H1 s1 rfl
  | _ => exact (W.ns p).elim
theorem rd_orV (h : tD K W false (fOrV fa fb) σ H Q) : tOrV (tD K W false fa) (tD K W false fb) σ H Q := by
  obtain ⟨F, ρ, r, s, p⟩ := h
  refine tD_run r s (fun e he => p.err (by unfold fOrV; rw [he]; rfl)) fun a ha x F1 H1 s1 q1 => ?_
  have z : fOrV fa fb ρ = (asB a).bind fun b => if b = true then .ok (.bl true) else fb ρ := by unfold fOrV; rw [ha]; rfl
  rw [z] at p
  cases a with
  | bl b =>
    refine ⟨b, q1, ?_⟩
    cases b with
    | false => exact ⟨F1, ρ, r.mono s1.ff, s1.fh, Post.step (own := false) (r := fb ρ) p s1⟩
    | true => exact p (.bl true) F1 H1 s1 rfl
  | _ => exact (W.ns p).elim
theorem rd_notV (h : tD K W false (f1 notD fa) σ H Q) : tNotV (tD K W false fa) σ H Q := by
  obtain ⟨F, ρ, r, s, p⟩ := h
  refine tD_run r s (fun e he => p.err (by unfold f1; rw [he]; rfl)) fun a ha x F1 H1 s1 q1 => ?_
  have z : f1 notD fa ρ = notD a := by unfold f1; rw [ha]; rfl
  rw [z] at p
  cases a with
  | bl b => exact ⟨b, q1, p (.bl (!b)) F1 H1 s1 rfl⟩
  | _ => exact (W.ns p).elim
theorem rd_chain {g g' : Dat → Dat → M Dat} (h : tD K W false (fChain g g' fa fb fc) σ H Q) : tChain (rD2 K W false g) (rD2 K W false g') (tD K W false fa) (tD K W false fb) (tD K W false fc) σ H Q := by
  obtain ⟨F, ρ, r, s, p⟩ := h
  refine tD_run r s (fun e he => p.err (by unfold fChain; rw [he]; rfl)) fun a ha x F1 H1 s1 q1 => ?_
  refine tD_run (r.mono s1.ff) s1.fh (fun e he => (p.step s1).err (by unfold fChain; rw [ha]; show (fb ρ).bind _ = _; rw [he]; rfl)) fun b hb y F2 H2 s2 q2 => ?_
  have z : fChain g g' fa fb fc ρ = (g a b).bind fun x => (asB x).bind fun k => if k = true then (fc ρ).bind fun c => g' b c else .ok (.bl false) := by unfold fChain; rw [ha]; show (fb ρ).bind _ = _; rw [hb]; rfl
  rw [z] at p
  refine ⟨F2, a, b, s2.fh, Deep.mono s2.ff q1, q2, ?_⟩
  have p2 := p.step (s1.trans s2)
  cases e : g a b with
  | error x => rw [e] at p2; exact p2
  | ok d =>
    rw [e] at p2
    intro v F3 H3 s3 q3
    have p3 : Post K W false F3 H3 ((asB d).bind fun k => if k = true then (fc ρ).bind fun c => g' b c else .ok (.bl false)) Q := Post.step p2 s3
    cases d with
    | bl k =>
      refine ⟨k, q3, ?_⟩
      cases k with
      | false => exact p3 (.bl false) F3 H3 (Step.refl s3.fh) rfl
      | true =>
        have p4 : Post K W false F3 H3 ((fc ρ).bind fun c => g' b c) Q := p3
        refine tD_run (r.mono (s1.trans (s2.trans s3)).ff) s3.fh (fun e he => p4.err (by rw [he]; rfl)) fun c hc w F4 H4 s4 q4 => ⟨F4, b, c, s4.fh, Deep.mono (s3.trans s4).ff q2, q4, ?_⟩
        rw [hc] at p4
        exact p4.step s4
    | _ => exact (W.ns p3).elim
end
inductive Pat where
  | nm (i : Nat) | tp (is : List Nat)
noncomputable def setAll : List Nat → List Dat → Env' → Env'
  | i :: is, d :: ds, ρ => setAll is ds (ρ.set i (some d))
  | _, _, ρ => ρ
noncomputable def bindP : Pat → Dat → Env' → M Env'
  | .nm i, d, ρ => .ok (ρ.set i (some d))
  | .tp is, .tup ds, ρ => if ds.length = is.length then .ok (setAll is ds ρ) else .error .stuck
  | .tp _, _, _ => .error .stuck
noncomputable def gNames : List Nat → TGs
  | [] => gNil
  | i :: is => gCons (gName i) (gNames is)
noncomputable def gP (K : PySem.W.Frag) : Pat → TG
  | .nm i => gName i
  | .tp is => gTup K is.length (gNames is)
theorem gNames_run {K : PySem.W.Frag} {F H : Hp} {R : St → Hp → Prop} : ∀ {is : List Nat} {ds : List Dat} {vs : List V} {σ : St} {ρ : Env'}, RepE K F σ ρ → Deeps K F ds vs → ds.length = is.length → (∀ σ', RepE K F σ' (setAll is ds ρ) → R σ' H) → gNames is vs σ H R
  | [], [], _, σ, ρ, r, q, _, h => ⟨q, h σ r⟩
  | [], _ :: _, _, _, _, _, _, e, _ => by simp at e
  | _ :: _, [], _, _, _, _, _, e, _ => by simp at e
  | i :: is, d :: ds, _, σ, ρ, r, ⟨v, vs, e, q, t⟩, l, h => ⟨v, vs, e, gNames_run (r.set q i) t (by simpa using l) h⟩
theorem gP_run {K : PySem.W.Frag} {F H : Hp} {R : St → Hp → Prop} {p : Pat} {d : Dat} {v : V} {σ : St} {ρ ρ' : Env'} (r : RepE K F σ ρ) (s : Same F H) (q : Deep K F d v) (e : bindP p d ρ = .ok ρ') (h : ∀ σ', RepE K F σ' ρ' → R σ' H) : gP K p v σ H R := by
  cases p with
  | nm i =>
    have := Except.ok.inj e
    subst this
    exact h _ (r.set q i)
  | tp is =>
    cases d with
    | tup ds =>
      have e' : (if ds.length = is.length then Except.ok (setAll is ds ρ) else Except.error Err.stuck) = Except.ok ρ' := e
      by_cases hl : ds.length = is.length
      · rw [if_pos hl] at e'
        have := Except.ok.inj e'
        subst this
        obtain ⟨a, xs, ev, t, z⟩ := q
        exact ⟨a, xs, ev, s.tup t, by rw [z.length, hl], gNames_run r z hl h⟩
      · rw [if_neg hl] at e'
        cases e'
    | _ => cases e
theorem bindP_err {p : Pat} {d : Dat} {ρ : Env'} {e : Err} (h : bindP p d ρ = .error e) : e = .stuck := by
  cases p with
  | nm i => cases h
  | tp is =>
    cases d with
    | tup ds =>
      have e' : (if ds.length = is.length then Except.ok (setAll is ds ρ) else Except.error Err.stuck) = Except.error e := h
      by_cases hl : ds.length = is.length
      · rw [if_pos hl] at e'; cases e'
      · rw [if_neg hl] at e'; cases e'; rfl
    | _ => cases h; rfl
structure IterD (K : PySem.W.Frag) (F1 : Hp) (J : It) (ds : List Dat) : Prop where
  go : ∀ (i : Nat) (F H : Hp), Same F1 F → Same F H → i < ds.length → J.go i H
  yl : ∀ (i : Nat) (F H : Hp) (x : V) (H' : Hp) (d : Dat), Same F1 F → Same F H → ds[i]? = some d → J.yld i H x H' → ∃ F', Step F H F' H' ∧ Deep K F' d x
  st : ∀ (F H : Hp), Same F1 F → Same F H → J.stop ds.length H
noncomputable def iD (K : PySem.W.Frag) (W : Wish) (f : Env' → M (List Dat)) : TI := fun σ H R => ∃ F ρ, RepE K F σ ρ ∧ Same F H ∧ (match f ρ with
  | .ok ds => ∀ J F1 H1, Step F H F1 H1 → IterD K F1 J ds → R J H1
  | .error e => W.p e F H)
noncomputable def itemsD : Dat → M (List Dat)
  | .lst ds => .ok ds
  | .tup ds => .ok ds
  | _ => .error .stuck
noncomputable def fIt (fa : Env' → M Dat) : Env' → M (List Dat) := fun ρ => (fa ρ).bind itemsD
noncomputable def iSeq (K : PySem.W.Frag) (tl : TE) : TI := fun σ H R => tl σ H fun x H1 => ∃ a, x = .ref a ∧ ((∃ xs, SqL K H1 a xs) ∧ R (Itl K a) H1 ∨ (∃ xs, SqT K H1 a xs) ∧ R (Itt K a) H1)
theorem iter_list {K : PySem.W.Frag} {F : Hp} {a : Addr} {xs : List V} {ds : List Dat} (t : SqL K F a xs) (z : Deeps K F ds xs) : IterD K F (Itl K a) ds where
  go := fun i F' H' s1 s2 hi => ⟨xs, xs[i]'(by rw [z.length]; exact hi), s2.lst (s1.lst t), by simp [z.length, hi]⟩
  yl := fun i F' H' x H2 d s1 s2 hd hy => by
    obtain ⟨e, hy⟩ := hy
    subst e
    obtain ⟨v, e1, q⟩ := z.get hd
    have e2 := hy xs (s2.lst (s1.lst t))
    rw [e1] at e2
    cases e2
    exact ⟨F', Step.refl s2, q.mono s1⟩
  st := fun F' H' s1 s2 => ⟨xs, s2.lst (s1.lst t), by rw [z.length]; exact Nat.le_refl _⟩
theorem iter_tup {K : PySem.W.Frag} {F : Hp} {a : Addr} {xs : List V} {ds : List Dat} (t : SqT K F a xs) (z : Deeps K F ds xs) : IterD K F (Itt K a) ds where
  go := fun i F' H' s1 s2 hi => ⟨xs, xs[i]'(by rw [z.length]; exact hi), s2.tup (s1.tup t), by simp [z.length, hi]⟩
  yl := fun i F' H' x H2 d s1 s2 hd hy => by
    obtain ⟨e, hy⟩ := hy
    subst e
    obtain ⟨v, e1, q⟩ := z.get hd
    have e2 := hy xs (s2.tup (s1.tup t))
    rw [e1] at e2
    cases e2
    exact ⟨F', Step.refl s2, q.mono s1⟩
  st := fun F' H' s1 s2 => ⟨xs, s2.tup (s1.tup t), by rw [z.length]; exact Nat.le_refl _⟩
noncomputable def rangeL (lo : Int) (n : Nat) : List Dat := (List.range n).map fun k : Nat => Dat.int (lo + k)
theorem iter_range {K : PySem.W.Frag} {F : Hp} {lo : Int} {n : Nat} : IterD K F (Itr lo n) (rangeL lo n) where
  go := fun i F' H' s1 s2 hi => by show i < n; simpa [rangeL] using hi
  yl := fun i F' H' x H2 d s1 s2 hd hy => by
    obtain ⟨e, hy⟩ := hy
    subst e hy
    unfold rangeL at hd
    rw [List.getElem?_map] at hd
    have hi : i < n := by
      have := (List.getElem?_eq_some_iff.mp (show ((List.range n).map fun k : Nat => Dat.int (lo + k))[i]? = some d by rw [List.getElem?_map]; exact hd)).1
      simpa using this
    rw [List.getElem?_range hi] at hd
    cases hd
    exact ⟨F', Step.refl s2, rfl⟩
  st := fun F' H' s1 s2 => by show n ≤ _; simp [rangeL]
noncomputable def small62 (i : Int) : Bool := decide (-(2 ^ 62) ≤ i) && decide (i < 2 ^ 62)
noncomputable def rng2 : List Dat → M (List Dat)
  | [.int i, .int j] => if (small62 i && small62 j) = true then .ok (rangeL i (j - i).toNat) else .error .stuck
  | _ => .error .stuck
noncomputable def fRng (g : List Dat → M (List Dat)) (fr : Env' → M (List Dat)) : Env' → M (List Dat) := fun ρ => (fr ρ).bind g
section
variable {K : PySem.W.Frag} {W : Wish} {own : Bool} {σ : St} {H : Hp} {Q : VK} {fa fb fc : Env' → M Dat}
theorem ri_seq {R : It → Hp → Prop} (h : iD K W (fIt fa) σ H R) : iSeq K (tD K W false fa) σ H R := by
  obtain ⟨F, ρ, r, s, p⟩ := h
  refine tD_run r s (fun e he => ?_) fun a ha x F1 H1 s1 q1 => ?_
  · have z : fIt fa ρ = .error e := by unfold fIt; rw [he]; rfl
    rw [z] at p; exact p
  · have z : fIt fa ρ = itemsD a := by unfold fIt; rw [ha]; rfl
    rw [z] at p
    cases a with
    | lst ds =>
      obtain ⟨b, xs, e, t, z⟩ := q1
      exact ⟨b, e, .inl ⟨⟨xs, s1.fh.lst t⟩, p _ F1 H1 s1 (iter_list t z)⟩⟩
    | tup ds =>
      obtain ⟨b, xs, e, t, z⟩ := q1
      exact ⟨b, e, .inr ⟨⟨xs, s1.fh.tup t⟩, p _ F1 H1 s1 (iter_tup t z)⟩⟩
    | _ => exact (W.ns p).elim
theorem ri_rng2 {fr : Env' → M (List Dat)} {R : It → Hp → Prop} (h : iD K W (fRng rng2 fr) σ H R) : iRng2 (tDA K W fr) σ H R := by
  obtain ⟨F, ρ, r, s, p⟩ := h
  refine tDA_run r s (fun e he => ?_) fun ds hd xs F1 H1 s1 q1 => ?_
  · have z : fRng rng2 fr ρ = .error e := by unfold fRng; rw [he]; rfl
    rw [z] at p; exact p
  · have z : fRng rng2 fr ρ = rng2 ds := by unfold fRng; rw [hd]; rfl
    rw [z] at p
    by_cases hds : ∃ i j, ds = [.int i, .int j]
    · obtain ⟨i, j, rfl⟩ := hds
      obtain ⟨v, vs, e, q, v2, vs2, e2, q2, t⟩ := q1
      have p' : match (if (small62 i && small62 j) = true then Except.ok (rangeL i (j - i).toNat) else Except.error Err.stuck : M (List Dat)) with
        | .ok ds => ∀ J F1 H1, Step F H F1 H1 → IterD K F1 J ds → R J H1
        | .error e => W.p e F H := p
      by_cases hj : (small62 i && small62 j) = true
      · rw [if_pos hj] at p'
        unfold small62 at hj
        simp only [Bool.and_eq_true, decide_eq_true_eq] at hj
        exact ⟨i, j, by rw [e, show v = .int i from q, e2, show v2 = .int j from q2, show vs2 = [] from t], ⟨hj.1.1, hj.1.2, hj.2.1, hj.2.2⟩, p' _ F1 H1 s1 iter_range⟩
      · rw [if_neg hj] at p'
        exact (W.ns p').elim
    · have : rng2 ds = .error .stuck := by
        unfold rng2
        split
        · exact absurd ⟨_, _, rfl⟩ hds
        · rfl
      rw [this] at p
      exact (W.ns p).elim
noncomputable def inSE (ix : List (Option Nat)) (ρ : Env') : Env' := ix.map fun o => match o with
  | none => none
  | some j => (ρ[j]?).join
noncomputable def compD (p : Pat) (ft : Env' → M Bool) (fe : Env' → M Dat) (ρ0 : Env') : List Dat → M (List Dat)
  | [] => .ok []
  | d :: ds => (bindP p d ρ0).bind fun ρ => (ft ρ).bind fun b => if b = true then (fe ρ).bind fun y => (compD p ft fe ρ0 ds).bind fun r => .ok (y :: r) else compD p ft fe ρ0 ds
noncomputable def fComp (fi : Env' → M (List Dat)) (ix : List (Option Nat)) (p : Pat) (ft : Env' → M Bool) (fe : Env' → M Dat) : Env' → M Dat := fun ρ => (fi ρ).bind fun ds => if ds.length ≤ sizeLine then (compD p ft fe (inSE ix ρ) ds).bind fun r => .ok (.lst r) else .error .stuck
noncomputable def fYes : Env' → M Bool := fun _ => .ok true
theorem RepE.inS {F : Hp} {ρ : Env'} (r : RepE K F σ ρ) (ix : List (Option Nat)) : RepE K F (L2.inS ix σ) (inSE ix ρ) :=
  ⟨by simp [L2.inS, inSE], fun i d e => by
    unfold inSE at e
    unfold L2.inS
    rw [List.getElem?_map] at e ⊢
    cases h : ix[i]? with
    | none => rw [h] at e; cases e
    | some o =>
      rw [h] at e
      cases o with
      | none => cases e
      | some j =>
        simp only [Option.map_some, Option.some.injEq] at e ⊢
        have e1 : ρ[j]? = some (some d) := by
          cases z : ρ[j]? with
          | none => rw [z] at e; cases e
          | some w => rw [z] at e; simp at e; rw [e]
        obtain ⟨v, h1, h2⟩ := r.sl j d e1
        exact ⟨v, by rw [h1]; rfl, h2⟩⟩
theorem rd_comp {fi : Env' → M (List Dat)} {ix : List (Option Nat)} {p : Pat} {ft : Env' → M Bool} {fe : Env' → M Dat} (h : tD K W true (fComp fi ix p ft fe) σ H Q) :
    tComp (iD K W fi) ix (gP K p) (tDT K W ft) (tD K W false fe) σ H Q := by
  obtain ⟨F, ρ, r, s, q⟩ := h
  refine ⟨F, ρ, r, s, ?_⟩
  cases hf : fi ρ with
  | error e => exact q.err (by unfold fComp; rw [hf]; rfl)
  | ok ds =>
    intro J F1 H1 s1 it
    have e0 : fComp fi ix p ft fe ρ = if ds.length ≤ sizeLine then (compD p ft fe (inSE ix ρ) ds).bind fun r => .ok (.lst r) else .error .stuck := by unfold fComp; rw [hf]; rfl
    rw [e0] at q
    by_cases hl : ds.length ≤ sizeLine
    · rw [if_pos hl] at q
      refine ⟨fun i m ys H2 => m = ds.length - i ∧ i ≤ ds.length ∧ ∃ F2 yd, Step F1 H1 F2 H2 ∧ Deeps K F2 yd ys ∧ yd.length ≤ i ∧
        (match compD p ft fe (inSE ix ρ) (ds.drop i) with
          | .ok rr => compD p ft fe (inSE ix ρ) ds = .ok (yd ++ rr)
          | .error e => W.p e F H), ⟨ds.length, by omega, Nat.zero_le _, F1, [], Step.refl s1.fh, rfl, Nat.zero_le _, ?_⟩, ?_⟩
      · rw [List.drop_zero]
        cases e : compD p ft fe (inSE ix ρ) ds with
        | ok rr => rfl
        | error x => exact q.err (by rw [e]; rfl)
      · rintro i m ys H2 ⟨rfl, hi, F2, yd, s2, dy, ly, hc⟩
        have lys : ys.length ≤ sizeLine := by rw [dy.length]; omega
        by_cases hlt : i < ds.length
        · have ed : ds.drop i = ds[i] :: ds.drop (i + 1) := List.drop_eq_getElem_cons hlt
          rw [ed] at hc
          refine .inr ⟨it.go i F2 H2 s2.ff s2.fh hlt, lys, fun ys' H' => (i + 1 ≤ ds.length ∧ ∃ F2 yd, Step F1 H1 F2 H' ∧ Deeps K F2 yd ys' ∧ yd.length ≤ i + 1 ∧
            (match compD p ft fe (inSE ix ρ) (ds.drop (i + 1)) with
              | .ok rr => compD p ft fe (inSE ix ρ) ds = .ok (yd ++ rr)
              | .error e => W.p e F H)), fun ys' H' n => ⟨ds.length - (i + 1), by omega, rfl, n⟩, fun x H' y => ?_⟩
          obtain ⟨F3, s3, q3⟩ := it.yl i F2 H2 x H' ds[i] s2.ff s2.fh (by simp [hlt]) y
          have r3 : RepE K F3 (L2.inS ix σ) (inSE ix ρ) := (r.mono (s1.trans (s2.trans s3)).ff).inS ix
          have st3 : Step F H F3 H' := s1.trans (s2.trans s3)
          have ec : compD p ft fe (inSE ix ρ) (ds[i] :: ds.drop (i + 1)) = (bindP p ds[i] (inSE ix ρ)).bind fun ρ1 => (ft ρ1).bind fun b => if b = true then (fe ρ1).bind fun y => (compD p ft fe (inSE ix ρ) (ds.drop (i + 1))).bind fun r => .ok (y :: r) else compD p ft fe (inSE ix ρ) (ds.drop (i + 1)) := by rw [compD]
          rw [ec] at hc
          cases hb : bindP p ds[i] (inSE ix ρ) with
          | error e =>
            rw [hb] at hc
            have := bindP_err hb
            subst this
            exact (W.ns hc).elim
          | ok ρ1 =>
            rw [hb] at hc
            refine gP_run r3 s3.fh q3 hb fun σ2 r4 => ?_
            have hc1 : match ((ft ρ1).bind fun b => if b = true then (fe ρ1).bind fun y => (compD p ft fe (inSE ix ρ) (ds.drop (i + 1))).bind fun r => .ok (y :: r) else compD p ft fe (inSE ix ρ) (ds.drop (i + 1))) with
              | .ok rr => compD p ft fe (inSE ix ρ) ds = .ok (yd ++ rr)
              | .error e => W.p e F H := hc
            refine tDT_run r4 s3.fh (fun e he => by rw [he] at hc1; exact W.mono hc1 st3) fun b hb2 F5 H5 s5 => ?_
            rw [hb2] at hc1
            cases b with
            | false =>
              have hc2 : match compD p ft fe (inSE ix ρ) (ds.drop (i + 1)) with
                | .ok rr => compD p ft fe (inSE ix ρ) ds = .ok (yd ++ rr)
                | .error e => W.p e F H := hc1
              exact ⟨hlt, F5, yd, s2.trans (s3.trans s5), dy.mono (s3.trans s5).ff, by omega, hc2⟩
            | true =>
              have hc2 : match ((fe ρ1).bind fun y => (compD p ft fe (inSE ix ρ) (ds.drop (i + 1))).bind fun r => .ok (y :: r)) with
                | .ok rr => compD p ft fe (inSE ix ρ) ds = .ok (yd ++ rr)
                | .error e => W.p e F H := hc1
              refine tD_run (r4.mono s5.ff) s5.fh (fun e he => by rw [he] at hc2; exact W.mono hc2 (st3.trans s5)) fun d hd v F6 H6 s6 q6 => ?_
              rw [hd] at hc2
              refine ⟨hlt, F6, yd ++ [d], s2.trans (s3.trans (s5.trans s6)), Deeps.append (dy.mono (s3.trans (s5.trans s6)).ff) ⟨v, [], rfl, q6, rfl⟩, by simp; omega, ?_⟩
              have hc3 : match ((compD p ft fe (inSE ix ρ) (ds.drop (i + 1))).bind fun r => .ok (d :: r) : M (List Dat)) with
                | .ok rr => compD p ft fe (inSE ix ρ) ds = .ok (yd ++ rr)
                | .error e => W.p e F H := hc2
              cases e7 : compD p ft fe (inSE ix ρ) (ds.drop (i + 1)) with
              | ok rr =>
                rw [e7] at hc3
                show _ = Except.ok ((yd ++ [d]) ++ rr)
                rw [List.append_assoc]
                exact hc3
              | error x => rw [e7] at hc3; exact hc3
        · have : i = ds.length := by omega
          subst this
          rw [List.drop_length] at hc
          have hc' : compD p ft fe (inSE ix ρ) ds = .ok (yd ++ []) := hc
          rw [List.append_nil] at hc'
          rw [hc'] at q
          refine .inl ⟨it.st F2 H2 s2.ff s2.fh, lys, fun a ha => ?_⟩
          have st : Step F H F2 H2 := s1.trans s2
          exact q (.ref a) F2 _ (st.trans (Step.grow s2.fh ha)) ⟨a, ys, rfl, upd_same, s2.fh.free ha, st.hh.free ha, dy⟩
    · rw [if_neg hl] at q
      exact (W.ns q).elim
end
inductive Flo where
  | nx (ρ : Env') | rt (d : Dat) | bk (ρ : Env') | ct (ρ : Env')
structure Rep (K : PySem.W.Frag) (F0 H0 FB : Hp) (O : List Nat) (F H : Hp) (σ : St) (ρ : Env') : Prop where
  st : Step F0 H0 F H
  fb : Same FB F
  len : ρ.length = σ.length
  fz : ∀ (i : Nat) (d : Dat), ρ[i]? = some (some d) → i ∉ O → ∃ v, σ[i]? = some (some v) ∧ Deep K F d v
  ow : ∀ (i : Nat) (d : Dat), ρ[i]? = some (some d) → i ∈ O → ∃ v, σ[i]? = some (some v) ∧ OwnD K F H0 H d v
  ap : ∀ (i j : Nat) (d e : Dat) (a : Addr), i ∈ O → j ∈ O → (ρ[i]? = some (some d) ∧ isO d = true) → (ρ[j]? = some (some e) ∧ isO e = true) → σ[i]? = some (some (.ref a)) → σ[j]? = some (some (.ref a)) → i = j
noncomputable def Own' (O O2 : List Nat) (σ : St) (ρ : Env') (b : Addr) : Prop := ∃ (i : Nat) (d : Dat), i ∈ O ∧ i ∉ O2 ∧ isO d = true ∧ ρ[i]? = some (some d) ∧ σ[i]? = some (some (.ref b))
open Classical in
noncomputable def plus (F H : Hp) (A : Addr → Prop) : Hp := fun b => if A b then H b else F b
open Classical in
noncomputable def minus (F : Hp) (A : Addr → Prop) : Hp := fun b => if A b then none else F b
theorem plus_in {F H : Hp} {A : Addr → Prop} {b : Addr} (h : A b) : plus F H A b = H b := by unfold plus; rw [if_pos h]
theorem plus_out {F H : Hp} {A : Addr → Prop} {b : Addr} (h : ¬ A b) : plus F H A b = F b := by unfold plus; rw [if_neg h]
theorem minus_in {F : Hp} {A : Addr → Prop} {b : Addr} (h : A b) : minus F A b = none := by unfold minus; rw [if_pos h]
theorem minus_out {F : Hp} {A : Addr → Prop} {b : Addr} (h : ¬ A b) : minus F A b = F b := by unfold minus; rw [if_neg h]
section
variable {K : PySem.W.Frag} {F0 H0 FB F H : Hp} {O O2 : List Nat} {σ : St} {ρ : Env'}
theorem Rep.own (r : Rep K F0 H0 FB O F H σ ρ) {b : Addr} (h : Own' O O2 σ ρ b) : F b = none ∧ H0 b = none ∧ ∃ o, H b = some o ∧ isMu o = true := by
  obtain ⟨i, d, hi, _, hd, e1, e2⟩ := h
  obtain ⟨v, e3, q⟩ := r.ow i _ e1 hi
  rw [e2] at e3
  cases e3
  obtain ⟨a, o, e, p, m, f, z⟩ := q.top hd
  cases e
  exact ⟨f, z, o, p, m⟩
theorem Rep.plus_ff (r : Rep K F0 H0 FB O F H σ ρ) : Same F (plus F H (Own' O O2 σ ρ)) := fun b o h => by
  by_cases hb : Own' O O2 σ ρ b
  · rw [(r.own hb).1] at h; cases h
  · rw [plus_out hb]; exact h
theorem Rep.plus_fh (r : Rep K F0 H0 FB O F H σ ρ) : Same (plus F H (Own' O O2 σ ρ)) H := fun b o h => by
  by_cases hb : Own' O O2 σ ρ b
  · rw [plus_in hb] at h; exact h
  · rw [plus_out hb] at h; exact r.st.fh b o h
theorem Rep.freeze (r : Rep K F0 H0 FB O F H σ ρ) (hs : ∀ i ∈ O2, i ∈ O) : Rep K F0 H0 FB O2 (plus F H (Own' O O2 σ ρ)) H σ ρ where
  st := ⟨r.st.ff.trans r.plus_ff, r.st.hh, r.plus_fh, fun b o h => by
    by_cases hb : Own' O O2 σ ρ b
    · exact .inr (r.own hb).2.1
    · rw [plus_out hb] at h; exact r.st.nw b o h⟩
  fb := r.fb.trans r.plus_ff
  len := r.len
  fz := fun i d e hi => by
    by_cases ho : i ∈ O
    · obtain ⟨v, e3, q⟩ := r.ow i d e ho
      refine ⟨v, e3, ?_⟩
      cases hd : isO d with
      | true =>
        obtain ⟨a, _, ev, _⟩ := q.top hd
        subst ev
        exact q.give hd r.plus_ff (plus_in ⟨i, d, ho, hi, hd, e, e3⟩)
      | false => rw [OwnD.non hd] at q; exact q.mono r.plus_ff
    · obtain ⟨v, e3, q⟩ := r.fz i d e ho
      exact ⟨v, e3, q.mono r.plus_ff⟩
  ow := fun i d e hi => by
    obtain ⟨v, e3, q⟩ := r.ow i d e (hs i hi)
    refine ⟨v, e3, ?_⟩
    cases hd : isO d with
    | true =>
      obtain ⟨a, o, ev, p, _, f, z⟩ := q.top hd
      subst ev
      refine q.re hd r.plus_ff ?_ fun _ h => h
      have : ¬ Own' O O2 σ ρ a := fun ⟨j, d', hj, hj2, hd', f1, f2⟩ => by
        have := r.ap i j d d' a (hs i hi) hj ⟨e, hd⟩ ⟨f1, hd'⟩ e3 f2
        subst this
        exact hj2 hi
      rw [plus_out this]
      exact f
    | false => rw [OwnD.non hd] at q ⊢; exact q.mono r.plus_ff
  ap := fun i j d e a hi hj => r.ap i j d e a (hs i hi) (hs j hj)
theorem Rep.repE (r : Rep K F0 H0 FB [] F H σ ρ) : RepE K F σ ρ := ⟨r.len, fun i d e => r.fz i d e (by simp)⟩
theorem Rep.repAll (r : Rep K F0 H0 FB O F H σ ρ) : RepE K (plus F H (Own' O [] σ ρ)) σ ρ := (r.freeze (O2 := []) (by simp)).repE
noncomputable def erase : List Nat → Env' → Env'
  | [], ρ => ρ
  | i :: is, ρ => erase is (ρ.set i none)
theorem erase_len : ∀ (O : List Nat) (ρ : Env'), (erase O ρ).length = ρ.length
  | [], _ => rfl
  | i :: is, ρ => by rw [erase, erase_len, List.length_set]
theorem erase_get : ∀ (O : List Nat) (ρ : Env') (i : Nat) (d : Dat), (erase O ρ)[i]? = some (some d) → ρ[i]? = some (some d) ∧ i ∉ O
  | [], _, _, _, h => ⟨h, by simp⟩
  | j :: is, ρ, i, d, h => by
    obtain ⟨h1, h2⟩ := erase_get is (ρ.set j none) i d h
    by_cases e : j = i
    · subst e
      have hj : j < ρ.length := by
        have := (List.getElem?_eq_some_iff.mp h1).1
        simpa using this
      rw [List.getElem?_set_self hj] at h1
      cases h1
    · rw [List.getElem?_set_ne e] at h1
      exact ⟨h1, by simp [h2]; omega⟩
theorem Rep.repErase (r : Rep K F0 H0 FB O F H σ ρ) : RepE K F σ (erase O ρ) :=
  ⟨by rw [erase_len, r.len], fun i d e => let ⟨h1, h2⟩ := erase_get O ρ i d e; r.fz i d h1 h2⟩
theorem Rep.step {F1 H1 : Hp} (r : Rep K F0 H0 FB O F H σ ρ) (s : Step F H F1 H1) : Rep K F0 H0 FB O F1 H1 σ ρ where
  st := r.st.trans s
  fb := r.fb.trans s.ff
  len := r.len
  fz := fun i d e hi => let ⟨v, e3, q⟩ := r.fz i d e hi; ⟨v, e3, q.mono s.ff⟩
  ow := fun i d e hi => by
    obtain ⟨v, e3, q⟩ := r.ow i d e hi
    refine ⟨v, e3, ?_⟩
    cases hd : isO d with
    | true =>
      obtain ⟨a, u, ev, p, _, f, z⟩ := q.top hd
      subst ev
      refine q.re hd s.ff ?_ (s.hh a)
      cases e1 : F1 a with
      | none => rfl
      | some o =>
        rcases s.nw a o e1 with h | h
        · rw [f] at h; cases h
        · rw [p] at h; cases h
    | false => rw [OwnD.non hd] at q ⊢; exact q.mono s.ff
  ap := r.ap
theorem Rep.stepAll {F1 H1 : Hp} (r : Rep K F0 H0 FB O F H σ ρ) (s : Step (plus F H (Own' O [] σ ρ)) H F1 H1) : Rep K F0 H0 FB O (minus F1 (Own' O [] σ ρ)) H1 σ ρ := by
  refine r.step ⟨fun b o h => ?_, s.hh, fun b o h => ?_, fun b o h => ?_⟩
  · by_cases hb : Own' O [] σ ρ b
    · rw [(r.own hb).1] at h; cases h
    · rw [minus_out hb]; exact s.ff b o (by rw [plus_out hb]; exact h)
  · by_cases hb : Own' O [] σ ρ b
    · rw [minus_in hb] at h; cases h
    · rw [minus_out hb] at h; exact s.fh b o h
  · by_cases hb : Own' O [] σ ρ b
    · rw [minus_in hb] at h; cases h
    · rw [minus_out hb] at h
      rcases s.nw b o h with z | z
      · rw [plus_out hb] at z; exact .inl z
      · exact .inr z
theorem Rep.minusT {F1 H1 : Hp} (r : Rep K F0 H0 FB O F H σ ρ) (s : Step (plus F H (Own' O [] σ ρ)) H F1 H1) (a : Addr) (xs : List V) (h : SqT K F1 a xs) : SqT K (minus F1 (Own' O [] σ ρ)) a xs := by
  have key : ∀ {b : Addr} {o : HO}, F1 b = some o → isMu o = false → minus F1 (Own' O [] σ ρ) b = some o := fun {b o} h n => by
    by_cases hb : Own' O [] σ ρ b
    · obtain ⟨_, _, u, e, m⟩ := r.own hb
      have := s.ff b u (by rw [plus_in hb]; exact e)
      rw [h] at this
      cases this
      rw [n] at m
      cases m
    · rw [minus_out hb]; exact h
  rcases h with (h | ⟨o, h⟩) | h
  · exact .inl (.inl (key h rfl))
  · exact .inl (.inr ⟨o, key h rfl⟩)
  · exact .inr h
theorem Rep.set {d : Dat} {v : V} (r : Rep K F0 H0 FB O F H σ ρ) (q : Deep K F d v) (i : Nat) : Rep K F0 H0 FB (O.filter (· != i)) F H (σ.set i (some v)) (ρ.set i (some d)) where
  st := r.st
  fb := r.fb
  len := by rw [List.length_set, List.length_set, r.len]
  fz := fun j e h hj => by
    by_cases hij : i = j
    · subst hij
      have hi : i < ρ.length := by
        have := (List.getElem?_eq_some_iff.mp h).1
        simpa using this
      rw [List.getElem?_set_self hi] at h
      cases h
      exact ⟨v, by rw [List.getElem?_set_self (by rw [← r.len]; exact hi)], q⟩
    · rw [List.getElem?_set_ne hij] at h
      rw [List.getElem?_set_ne hij]
      exact r.fz j e h fun z => hj (List.mem_filter.mpr ⟨z, by simpa using Ne.symm hij⟩)
  ow := fun j e h hj => by
    obtain ⟨h1, h2⟩ := List.mem_filter.mp hj
    have hij : i ≠ j := fun z => by simp [z] at h2
    rw [List.getElem?_set_ne hij] at h ⊢
    exact r.ow j e h h1
  ap := fun j k ds es a hj hk e1 e2 e3 e4 => by
    obtain ⟨j1, j2⟩ := List.mem_filter.mp hj
    obtain ⟨k1, k2⟩ := List.mem_filter.mp hk
    have hij : i ≠ j := fun z => by simp [z] at j2
    have hik : i ≠ k := fun z => by simp [z] at k2
    rw [List.getElem?_set_ne hij] at e1 e3
    rw [List.getElem?_set_ne hik] at e2 e4
    exact r.ap j k ds es a j1 k1 e1 e2 e3 e4
theorem Rep.setOwn {d : Dat} {v : V} (r : Rep K F0 H0 FB O F H σ ρ) (q : OwnD K F H0 H d v) (nw : ∀ a, v = .ref a → isO d = true → ¬ Own' O [i] σ ρ a) : Rep K F0 H0 FB (i :: O.filter (· != i)) F H (σ.set i (some v)) (ρ.set i (some d)) where
  st := r.st
  fb := r.fb
  len := by rw [List.length_set, List.length_set, r.len]
  fz := fun j e h hj => by
    simp only [List.mem_cons, not_or] at hj
    have hij : i ≠ j := fun z => hj.1 z.symm
    rw [List.getElem?_set_ne hij] at h ⊢
    exact r.fz j e h fun z => hj.2 (List.mem_filter.mpr ⟨z, by simpa using Ne.symm hij⟩)
  ow := fun j e h hj => by
    by_cases hij : i = j
    · subst hij
      have hi : i < ρ.length := by
        have := (List.getElem?_eq_some_iff.mp h).1
        simpa using this
      rw [List.getElem?_set_self hi] at h
      cases h
      exact ⟨v, by rw [List.getElem?_set_self (by rw [← r.len]; exact hi)], q⟩
    · rw [List.getElem?_set_ne hij] at h ⊢
      rcases List.mem_cons.mp hj with z | z
      · exact absurd z.symm hij
      · exact r.ow j e h (List.mem_filter.mp z).1
  ap := fun j k ds es a hj hk e1 e2 e3 e4 => by
    have key : ∀ {k' : Nat} {ds' es' : Dat}, k' ∈ O → k' ≠ i → ((ρ.set i (some d))[i]? = some (some ds') ∧ isO ds' = true) → ((ρ.set i (some d))[k']? = some (some es') ∧ isO es' = true) → (σ.set i (some v))[i]? = some (some (.ref a)) → (σ.set i (some v))[k']? = some (some (.ref a)) → False := by
      intro k' ds' es' hk' hne f1 f2 f3 f4
      have hi : i < ρ.length := by
        have := (List.getElem?_eq_some_iff.mp f1.1).1
        simpa using this
      rw [List.getElem?_set_self hi] at f1
      rw [List.getElem?_set_self (by rw [← r.len]; exact hi)] at f3
      rw [List.getElem?_set_ne (Ne.symm hne)] at f2 f4
      have z1 : v = .ref a := by simpa using f3
      have z2 : d = ds' := by simpa using f1.1
      exact nw a z1 (z2 ▸ f1.2) ⟨k', es', hk', by simpa using hne, f2.2, f2.1, f4⟩
    rcases List.mem_cons.mp hj with zj | zj
    · rcases List.mem_cons.mp hk with zk | zk
      · rw [zj, zk]
      · obtain ⟨k1, k2⟩ := List.mem_filter.mp zk
        subst zj
        exact (key k1 (by simpa using k2) e1 e2 e3 e4).elim
    · obtain ⟨j1, j2⟩ := List.mem_filter.mp zj
      have hij : i ≠ j := fun z => by simp [z] at j2
      rcases List.mem_cons.mp hk with zk | zk
      · subst zk
        exact (key j1 (Ne.symm hij) e2 e1 e4 e3).elim
      · obtain ⟨k1, k2⟩ := List.mem_filter.mp zk
        have hik : i ≠ k := fun z => by simp [z] at k2
        rw [List.getElem?_set_ne hij] at e1 e3
        rw [List.getElem?_set_ne hik] at e2 e4
        exact r.ap j k ds es a j1 k1 e1 e2 e3 e4
end
section
variable {K : PySem.W.Frag} {F0 H0 FB F H : Hp} {O O2 : List Nat} {σ : St} {ρ : Env'}
theorem Rep.stepAll_ff {F1 H1 : Hp} (r : Rep K F0 H0 FB O F H σ ρ) (s : Step (plus F H (Own' O [] σ ρ)) H F1 H1) : Same F (minus F1 (Own' O [] σ ρ)) := fun b o h => by
  by_cases hb : Own' O [] σ ρ b
  · rw [(r.own hb).1] at h; cases h
  · rw [minus_out hb]; exact s.ff b o (by rw [plus_out hb]; exact h)
theorem filter_out {i : Nat} {O : List Nat} (h : i ∉ O) : O.filter (· != i) = O := by
  rw [List.filter_eq_self]
  intro a ha
  simp
  intro e
  exact h (e ▸ ha)
theorem Rep.set' {d : Dat} {v : V} (r : Rep K F0 H0 FB O F H σ ρ) (q : Deep K F d v) {i : Nat} (hi : i ∉ O) : Rep K F0 H0 FB O F H (σ.set i (some v)) (ρ.set i (some d)) := by
  have := r.set q i
  rw [filter_out hi] at this
  exact this
theorem Rep.base {FB' : Hp} (r : Rep K F0 H0 FB O F H σ ρ) (s : Same FB' FB) : Rep K F0 H0 FB' O F H σ ρ := ⟨r.st, s.trans r.fb, r.len, r.fz, r.ow, r.ap⟩
theorem Rep.writeO {i : Nat} {a : Addr} {d d' : Dat} {u : HO} (r : Rep K F0 H0 FB O F H σ ρ) (hi : i ∈ O) (e1 : ρ[i]? = some (some d)) (hd : isO d = true) (e2 : σ[i]? = some (some (.ref a))) (q : F a = none → H0 a = none → OwnD K F H0 (upd H a u) d' (.ref a)) : Rep K F0 H0 FB O F (upd H a u) σ (ρ.set i (some d')) := by
  have ho : F a = none ∧ H0 a = none ∧ ∃ o, H a = some o ∧ isMu o = true := r.own (O2 := []) ⟨i, d, hi, by simp, hd, e1, e2⟩
  have hil : i < ρ.length := (List.getElem?_eq_some_iff.mp e1).1
  refine ⟨⟨r.st.ff, fun b o h => ?_, fun b o h => ?_, r.st.nw⟩, r.fb, by rw [List.length_set, r.len], fun j e h hj => ?_, fun j e h hj => ?_, fun j k es fs b hj hk f1 f2 f3 f4 => ?_⟩
  · rw [upd_ne (ne_of_none h ho.2.1)]; exact r.st.hh b o h
  · rw [upd_ne (ne_of_none h ho.1)]; exact r.st.fh b o h
  · have hij : i ≠ j := fun z => hj (z ▸ hi)
    rw [List.getElem?_set_ne hij] at h
    exact r.fz j e h hj
  · by_cases hij : i = j
    · subst hij
      rw [List.getElem?_set_self hil] at h
      cases h
      exact ⟨.ref a, e2, q ho.1 ho.2.1⟩
    · rw [List.getElem?_set_ne hij] at h
      obtain ⟨v, e3, z⟩ := r.ow j e h hj
      refine ⟨v, e3, ?_⟩
      cases he : isO e with
      | true =>
        obtain ⟨b, o, ev, p, _, f, _⟩ := z.top he
        subst ev
        have hab : b ≠ a := fun z => by
          subst z
          exact hij (r.ap i j d e b hi hj ⟨e1, hd⟩ ⟨h, he⟩ e2 e3)
        exact z.re he (Same.refl _) f fun o h => by rw [upd_ne hab]; exact h
      | false => rw [OwnD.non he] at z ⊢; exact z
  · have fix : ∀ {j : Nat} {e : Dat}, ((ρ.set i (some d'))[j]? = some (some e) ∧ isO e = true) → ∃ e', ρ[j]? = some (some e') ∧ isO e' = true := fun {j e} f => by
      by_cases hij : i = j
      · subst hij; exact ⟨d, e1, hd⟩
      · rw [List.getElem?_set_ne hij] at f; exact ⟨e, f⟩
    obtain ⟨es', g1⟩ := fix f1
    obtain ⟨fs', g2⟩ := fix f2
    exact r.ap j k es' fs' b hj hk g1 g2 f3 f4
theorem Rep.write {i : Nat} {a : Addr} {ds ds' : List Dat} {xs' : List V} (r : Rep K F0 H0 FB O F H σ ρ) (hi : i ∈ O) (e1 : ρ[i]? = some (some (.lst ds))) (e2 : σ[i]? = some (some (.ref a))) (q : Deeps K F ds' xs') : Rep K F0 H0 FB O F (upd H a (.lst xs')) σ (ρ.set i (some (.lst ds'))) :=
  r.writeO hi e1 rfl e2 fun f z => ⟨a, xs', rfl, upd_same, f, z, q⟩
noncomputable def Pat.names : Pat → List Nat
  | .nm i => [i]
  | .tp is => is
theorem gNames_rep {R : St → Hp → Prop} : ∀ {is : List Nat} {ds : List Dat} {vs : List V} {σ : St} {ρ : Env'}, Rep K F0 H0 FB O F H σ ρ → (∀ i ∈ is, i ∉ O) → Deeps K F ds vs → ds.length = is.length → (∀ σ', Rep K F0 H0 FB O F H σ' (setAll is ds ρ) → R σ' H) → gNames is vs σ H R
  | [], [], _, σ, ρ, r, _, q, _, h => ⟨q, h σ r⟩
  | [], _ :: _, _, _, _, _, _, _, e, _ => by simp at e
  | _ :: _, [], _, _, _, _, _, _, e, _ => by simp at e
  | i :: is, d :: ds, _, σ, ρ, r, n, ⟨v, vs, e, q, t⟩, l, h => ⟨v, vs, e, gNames_rep (r.set' q (n i (by simp))) (fun j hj => n j (by simp [hj])) t (by simpa using l) h⟩
theorem gP_rep {R : St → Hp → Prop} {p : Pat} {d : Dat} {v : V} {ρ' : Env'} (r : Rep K F0 H0 FB O F H σ ρ) (n : ∀ i ∈ p.names, i ∉ O) (q : Deep K F d v) (e : bindP p d ρ = .ok ρ') (h : ∀ σ', Rep K F0 H0 FB O F H σ' ρ' → R σ' H) : gP K p v σ H R := by
  cases p with
  | nm i =>
    have := Except.ok.inj e
    subst this
    exact h _ (r.set' q (n i (by simp [Pat.names])))
  | tp is =>
    cases d with
    | tup ds =>
      have e' : (if ds.length = is.length then Except.ok (setAll is ds ρ) else Except.error Err.stuck) = Except.ok ρ' := e
      by_cases hl : ds.length = is.length
      · rw [if_pos hl] at e'
        have := Except.ok.inj e'
        subst this
        obtain ⟨a, xs, ev, t, z⟩ := q
        exact ⟨a, xs, ev, r.st.fh.tup t, by rw [z.length, hl], gNames_rep r n z hl h⟩
      · rw [if_neg hl] at e'
        cases e'
    | _ => cases e
end
noncomputable def PostS (K : PySem.W.Frag) (W : Wish) (ro : Bool) (F0 H0 FB : Hp) (OL O' : List Nat) (D : Ends) (r : M Flo) : Prop := match r with
  | .ok (.nx ρ) => ∀ σ F H, Rep K F0 H0 FB O' F H σ ρ → D.nx σ H
  | .ok (.rt d) => ∀ v F H, Step F0 H0 F H → Val K ro F H0 H d v → D.rt v H
  | .ok (.bk ρ) => ∀ σ F H, Rep K F0 H0 FB OL F H σ ρ → D.bk σ H
  | .ok (.ct ρ) => ∀ σ F H, Rep K F0 H0 FB OL F H σ ρ → D.ct σ H
  | .error e => W.p e F0 H0
noncomputable def tS (K : PySem.W.Frag) (W : Wish) (ro : Bool) (F0 H0 : Hp) (OL O O' : List Nat) (g : Env' → M Flo) : TS := fun D σ H => ∃ FB F ρ, Rep K F0 H0 FB O F H σ ρ ∧ PostS K W ro F0 H0 FB OL O' D (g ρ)
noncomputable def sNext : Env' → M Flo := fun ρ => .ok (.nx ρ)
noncomputable def sSeq (g h : Env' → M Flo) : Env' → M Flo := fun ρ => (g ρ).bind fun fl => match fl with
  | .nx ρ' => h ρ'
  | fl => .ok fl
noncomputable def sIf (ft : Env' → M Bool) (g h : Env' → M Flo) : Env' → M Flo := fun ρ => (ft ρ).bind fun b => if b = true then g ρ else h ρ
noncomputable def sSetB (O : List Nat) (i : Nat) (f : Env' → M Dat) : Env' → M Flo := fun ρ => (f (erase O ρ)).bind fun d => .ok (.nx (ρ.set i (some d)))
noncomputable def lstAt (ρ : Env') (i : Nat) : M (List Dat) := match ρ[i]? with
  | some (some (.lst ds)) => .ok ds
  | _ => .error .stuck
noncomputable def put (ρ : Env') (i : Nat) (ds : List Dat) : M Flo := .ok (.nx (ρ.set i (some (.lst ds))))
noncomputable def sAppB (O : List Nat) (i : Nat) (f : Env' → M Dat) : Env' → M Flo := fun ρ => (lstAt ρ i).bind fun ds => (f (erase O ρ)).bind fun d => if ds.length < sizeLine then put ρ i (ds ++ [d]) else .error .stuck
noncomputable def asI : Dat → M Int
  | .int i => .ok i
  | _ => .error .stuck
noncomputable def sSetI (i : Nat) (fi f : Env' → M Dat) : Env' → M Flo := fun ρ => (f ρ).bind fun d => (lstAt ρ i).bind fun ds => (fi ρ).bind fun k => (asI k).bind fun k => if flatD d = true then (match ixN ds.length k with
  | some j => put ρ i (ds.set j d)
  | none => .error .stuck) else .error .stuck
noncomputable def sRet (f : Env' → M Dat) : Env' → M Flo := fun ρ => (f ρ).bind fun d => .ok (.rt d)
noncomputable def forD (p : Pat) (g : Env' → M Flo) : List Dat → Env' → M Flo
  | [], ρ => .ok (.nx ρ)
  | d :: ds, ρ => (bindP p d ρ).bind fun ρ1 => (g ρ1).bind fun fl => match fl with
    | .nx ρ2 => forD p g ds ρ2
    | .ct ρ2 => forD p g ds ρ2
    | .bk ρ2 => .ok (.nx ρ2)
    | .rt d => .ok (.rt d)
noncomputable def sFor (O : List Nat) (fi : Env' → M (List Dat)) (p : Pat) (g : Env' → M Flo) : Env' → M Flo := fun ρ => (fi (erase O ρ)).bind fun ds => forD p g ds ρ
section
variable {K : PySem.W.Frag} {W : Wish} {ro own : Bool} {F0 H0 FB F H : Hp} {OL O O' O2 : List Nat} {D : Ends} {σ : St} {ρ : Env'} {g h : Env' → M Flo} {f fi : Env' → M Dat} {ft : Env' → M Bool}
theorem PostS.err {x : M Flo} {e : Err} (p : PostS K W ro F0 H0 FB OL O' D x) (h : x = .error e) : W.p e F0 H0 := by rw [h] at p; exact p
theorem PostS.errAt {x : M Flo} {e : Err} (p : PostS K W ro F0 H0 FB OL O' D x) (s : Step F0 H0 F H) (h : x = .error e) : W.p e F H := W.mono (p.err h) s
theorem PostS.stuck {x : M Flo} {P : Prop} (p : PostS K W ro F0 H0 FB OL O' D x) (h : x = .error .stuck) : P := (W.ns (p.err h)).elim
theorem tS.enter (hs : ∀ i ∈ O2, i ∈ O) (t : tS K W ro F0 H0 OL O O' g D σ H) : tS K W ro F0 H0 OL O2 O' g D σ H := by
  obtain ⟨FB, F, ρ, r, p⟩ := t
  exact ⟨FB, _, ρ, r.freeze hs, p⟩
theorem rs_next (t : tS K W ro F0 H0 OL O O sNext D σ H) : tNext D σ H := by
  obtain ⟨FB, F, ρ, r, p⟩ := t
  exact p σ F H r
theorem rs_seq (t : tS K W ro F0 H0 OL O O2 (sSeq g h) D σ H) : tSeq (tS K W ro F0 H0 OL O O' g) (tS K W ro F0 H0 OL O' O2 h) D σ H := by
  obtain ⟨FB, F, ρ, r, p⟩ := t
  refine ⟨FB, F, ρ, r, ?_⟩
  unfold sSeq at p
  cases e : g ρ with
  | error x => exact p.err (by rw [e]; rfl)
  | ok fl =>
    rw [e] at p
    cases fl with
    | nx ρ' => exact fun σ' F' H' r' => ⟨FB, F', ρ', r', p⟩
    | rt d => exact p
    | bk ρ' => exact p
    | ct ρ' => exact p
theorem rs_if (t : tS K W ro F0 H0 OL O O' (sIf ft g h) D σ H) : tIfS (tDT K W ft) (tS K W ro F0 H0 OL O O' g) (tS K W ro F0 H0 OL O O' h) D σ H := by
  obtain ⟨FB, F, ρ, r, p⟩ := t
  refine tDT_run r.repAll r.plus_fh (fun e he => p.errAt (r.freeze (O2 := []) (by simp)).st (by unfold sIf; rw [he]; rfl)) fun b hb F1 H1 s1 => ?_
  have z : sIf ft g h ρ = if b = true then g ρ else h ρ := by unfold sIf; rw [hb]; rfl
  rw [z] at p
  cases b with
  | true => exact ⟨FB, _, ρ, r.stepAll s1, p⟩
  | false => exact ⟨FB, _, ρ, r.stepAll s1, p⟩
noncomputable def aft (own : Bool) (i : Nat) (O : List Nat) : List Nat := if own = true then i :: O.filter (· != i) else O.filter (· != i)
theorem Rep.bindV {i : Nat} {d : Dat} {v : V} {H2 : Hp} (r : Rep K F0 H0 FB O F H σ ρ) (q : Val K own F H2 H d v) (h2 : Same H0 H2) (nw : ∀ a, Own' O [] σ ρ a → ∃ o, H2 a = some o) : Rep K F0 H0 FB (aft own i O) F H (σ.set i (some v)) (ρ.set i (some d)) := by
  cases own with
  | false => exact r.set q i
  | true =>
    refine r.setOwn (OwnD.back h2 q) fun a ha hd z => ?_
    subst ha
    obtain ⟨b, _, e, _, _, _, n⟩ := OwnD.top hd q
    cases e
    obtain ⟨j, es, h1, h2, h3, h4, h5⟩ := z
    obtain ⟨o, ho⟩ := nw a ⟨j, es, h1, by simp, h3, h4, h5⟩
    rw [n] at ho
    cases ho
theorem rs_setB {i : Nat} (t : tS K W ro F0 H0 OL O (aft own i O) (sSetB O i f) D σ H) : tAsg (tD K W own f) (gName i) D σ H := by
  obtain ⟨FB, F, ρ, r, p⟩ := t
  refine tD_run r.repErase r.st.fh (fun e he => p.errAt r.st (by unfold sSetB; rw [he]; rfl)) fun d hd v F1 H1 s1 q => ?_
  have z : sSetB O i f ρ = .ok (.nx (ρ.set i (some d))) := by unfold sSetB; rw [hd]; rfl
  rw [z] at p
  exact p _ F1 H1 ((r.step s1).bindV q r.st.hh fun a ha => let ⟨_, _, _, e, _⟩ := r.own ha; ⟨_, e⟩)
theorem lstAt_ok {i : Nat} {ds : List Dat} (h : lstAt ρ i = .ok ds) : ρ[i]? = some (some (.lst ds)) := by
  unfold lstAt at h
  split at h
  · cases h; assumption
  · cases h
theorem lstAt_err {i : Nat} {e : Err} (h : lstAt ρ i = .error e) : e = .stuck := by
  unfold lstAt at h
  split at h
  · cases h
  · cases h; rfl
theorem Rep.lstOwn {i : Nat} {ds : List Dat} (r : Rep K F0 H0 FB O F H σ ρ) (hi : i ∈ O) (e : ρ[i]? = some (some (.lst ds))) : ∃ a xs, σ[i]? = some (some (.ref a)) ∧ H a = some (.lst xs) ∧ Deeps K F ds xs := by
  obtain ⟨v, e3, a, xs, ev, p, _, _, t⟩ := r.ow i _ e hi
  subst ev
  exact ⟨a, xs, e3, p, t⟩
noncomputable def tApp (K : PySem.W.Frag) (i : Nat) (te : TE) : TS := tDrop (tBM K "list" rAppend (tVar i) (tCons te tNil))
theorem rs_appB {i : Nat} (hi : i ∈ O) (t : tS K W ro F0 H0 OL O O (sAppB O i f) D σ H) : tApp K i (tD K W false f) D σ H := by
  obtain ⟨FB, F, ρ, r, p⟩ := t
  cases hl : lstAt ρ i with
  | error e =>
    have := lstAt_err hl
    subst this
    exact p.stuck (by unfold sAppB; rw [hl]; rfl)
  | ok ds =>
    obtain ⟨a, xs, e2, ha, z⟩ := r.lstOwn hi (lstAt_ok hl)
    refine ⟨.ref a, e2, tyV_list ha, ?_⟩
    refine tD_run r.repErase r.st.fh (fun e he => p.errAt r.st (by unfold sAppB; rw [hl]; show (f (erase O ρ)).bind _ = _; rw [he]; rfl)) fun d hd v F1 H1 s1 q => ?_
    have ez : sAppB O i f ρ = if ds.length < sizeLine then put ρ i (ds ++ [d]) else .error .stuck := by unfold sAppB; rw [hl]; show (f (erase O ρ)).bind _ = _; rw [hd]; rfl
    rw [ez] at p
    by_cases hs : ds.length < sizeLine
    · rw [if_pos hs] at p
      exact ⟨a, xs, v, rfl, rfl, s1.hh _ _ ha, by rw [z.length]; exact hs, p σ F1 _ ((r.step s1).write hi (lstAt_ok hl) e2 (Deeps.append (z.mono s1.ff) ⟨v, [], rfl, q, rfl⟩))⟩
    · rw [if_neg hs] at p
      exact p.stuck rfl
theorem rs_setI {i : Nat} (hi : i ∈ O) (t : tS K W ro F0 H0 OL O O (sSetI i fi f) D σ H) : tAsg (tD K W false f) (gSub (tVar i) (tD K W false fi) rSetL) D σ H := by
  obtain ⟨FB, F, ρ, r, p⟩ := t
  refine tD_run r.repAll r.plus_fh (fun e he => p.errAt (r.freeze (O2 := []) (by simp)).st (by unfold sSetI; rw [he]; rfl)) fun d hd v F1 H1 s1 q => ?_
  have ez : sSetI i fi f ρ = (lstAt ρ i).bind fun ds => (fi ρ).bind fun k => (asI k).bind fun k => if flatD d = true then (match ixN ds.length k with
    | some j => put ρ i (ds.set j d)
    | none => .error .stuck) else .error .stuck := by unfold sSetI; rw [hd]; rfl
  rw [ez] at p
  cases hl : lstAt ρ i with
  | error e =>
    have := lstAt_err hl
    subst this
    exact p.stuck (by rw [hl]; rfl)
  | ok ds =>
    rw [hl] at p
    have p : PostS K W ro F0 H0 FB OL O D ((fi ρ).bind fun k => (asI k).bind fun k => if flatD d = true then (match ixN ds.length k with
      | some j => put ρ i (ds.set j d)
      | none => .error .stuck) else .error .stuck) := p
    have r1 := r.stepAll s1
    obtain ⟨a, xs, e2, ha, z⟩ := r1.lstOwn hi (lstAt_ok hl)
    refine ⟨.ref a, e2, ?_⟩
    refine tD_run r1.repAll r1.plus_fh (fun e he => p.errAt (r1.freeze (O2 := []) (by simp)).st (by rw [he]; rfl)) fun k hk w F2 H2 s2 q2 => ?_
    rw [hk] at p
    cases k with
    | int k =>
      have p : PostS K W ro F0 H0 FB OL O D (if flatD d = true then (match ixN ds.length k with
        | some j => put ρ i (ds.set j d)
        | none => .error .stuck) else .error .stuck) := p
      by_cases hf : flatD d = true
      · rw [if_pos hf] at p
        cases hj : ixN ds.length k with
        | none => rw [hj] at p; exact p.stuck rfl
        | some j =>
          rw [hj] at p
          refine ⟨a, xs, k, j, rfl, q2, s2.hh _ _ ha, by rw [z.length]; exact hj, ?_⟩
          have qd : Deep K (minus F1 (Own' O [] σ ρ)) d v := Deep.flat (r.minusT s1) hf q
          exact p σ _ _ ((r1.stepAll s2).write hi (lstAt_ok hl) e2 (Deeps.set (qd.mono (r1.stepAll_ff s2)) j (z.mono (r1.stepAll_ff s2))))
      · rw [if_neg hf] at p
        exact p.stuck rfl
    | _ => exact p.stuck rfl
theorem rs_ret (t : tS K W ro F0 H0 OL O O' (sRet f) D σ H) : tRet (tD K W ro f) D σ H := by
  obtain ⟨FB, F, ρ, r, p⟩ := t
  have rf := r.freeze (O2 := []) (by simp)
  refine tD_run r.repAll r.plus_fh (fun e he => p.errAt rf.st (by unfold sRet; rw [he]; rfl)) fun d hd v F1 H1 s1 q => ?_
  have z : sRet f ρ = .ok (.rt d) := by unfold sRet; rw [hd]; rfl
  rw [z] at p
  exact p v F1 H1 (rf.st.trans s1) (q.back r.st.hh)
theorem rs_for {fs : Env' → M (List Dat)} {pt : Pat} (n : ∀ i ∈ pt.names, i ∉ O) (t : tS K W ro F0 H0 OL O O (sFor O fs pt g) D σ H) : tFor (iD K W fs) (gP K pt) (tS K W ro F0 H0 O O O g) D σ H := by
  obtain ⟨FB, F, ρ, r, p⟩ := t
  refine ⟨F, erase O ρ, r.repErase, r.st.fh, ?_⟩
  cases e : fs (erase O ρ) with
  | error x => exact p.errAt r.st (by unfold sFor; rw [e]; rfl)
  | ok ds =>
    have z : sFor O fs pt g ρ = forD pt g ds ρ := by unfold sFor; rw [e]; rfl
    rw [z] at p
    intro J F1 H1 s1 it
    refine ⟨fun i m σ H => ∃ F ρ, Rep K F0 H0 F1 O F H σ ρ ∧ i ≤ ds.length ∧ m = ds.length - i ∧ PostS K W ro F0 H0 FB OL O D (forD pt g (ds.drop i) ρ), ⟨ds.length, F1, ρ, ?_, Nat.zero_le _, by omega, by rw [List.drop_zero]; exact p⟩, ?_⟩
    · have r1 := r.step s1
      exact ⟨r1.st, Same.refl _, r1.len, r1.fz, r1.ow, r1.ap⟩
    · rintro i m σ2 H2 ⟨F2, ρ2, r2, hi, rfl, p2⟩
      by_cases hlt : i < ds.length
      · have ed : ds.drop i = ds[i] :: ds.drop (i + 1) := List.drop_eq_getElem_cons hlt
        rw [ed] at p2
        refine .inr ⟨it.go i F2 H2 r2.fb r2.st.fh hlt, fun σ' H' => (∃ F ρ, Rep K F0 H0 F1 O F H' σ' ρ ∧ PostS K W ro F0 H0 FB OL O D (forD pt g (ds.drop (i + 1)) ρ)), fun σ' H' ⟨F, ρ, r, p⟩ => ⟨ds.length - (i + 1), by omega, F, ρ, r, hlt, rfl, p⟩, fun x H' y => ?_⟩
        obtain ⟨F3, s3, q3⟩ := it.yl i F2 H2 x H' ds[i] r2.fb r2.st.fh (by simp [hlt]) y
        have ef : forD pt g (ds[i] :: ds.drop (i + 1)) ρ2 = (bindP pt ds[i] ρ2).bind fun ρ1 => (g ρ1).bind fun fl => match fl with
          | .nx ρ2 => forD pt g (ds.drop (i + 1)) ρ2
          | .ct ρ2 => forD pt g (ds.drop (i + 1)) ρ2
          | .bk ρ2 => .ok (.nx ρ2)
          | .rt d => .ok (.rt d) := by rw [forD]
        rw [ef] at p2
        cases eb : bindP pt ds[i] ρ2 with
        | error x =>
          have := bindP_err eb
          subst this
          exact p2.stuck (by rw [eb]; rfl)
        | ok ρ3 =>
          rw [eb] at p2
          have p2 : PostS K W ro F0 H0 FB OL O D ((g ρ3).bind fun fl => match fl with
            | .nx ρ2 => forD pt g (ds.drop (i + 1)) ρ2
            | .ct ρ2 => forD pt g (ds.drop (i + 1)) ρ2
            | .bk ρ2 => .ok (.nx ρ2)
            | .rt d => .ok (.rt d)) := p2
          refine gP_rep (r2.step s3) n q3 eb fun σ4 r4 => ⟨F1, F3, ρ3, r4, ?_⟩
          have fb1 : Same FB F1 := (r.step s1).fb
          cases eg : g ρ3 with
          | error x => exact p2.err (by rw [eg]; rfl)
          | ok fl =>
            rw [eg] at p2
            cases fl with
            | nx ρ5 => exact fun σ' F' H' r' => ⟨F', ρ5, r', p2⟩
            | ct ρ5 => exact fun σ' F' H' r' => ⟨F', ρ5, r', p2⟩
            | bk ρ5 => exact fun σ' F' H' r' => p2 σ' F' H' (r'.base fb1)
            | rt d => exact p2
      · have : i = ds.length := by omega
        subst this
        rw [List.drop_length] at p2
        exact .inl ⟨it.st F2 H2 r2.fb r2.st.fh, p2 σ2 F2 H2 (r2.base (r.step s1).fb)⟩
end
noncomputable def stk {α : Type} : M α := .error .stuck
noncomputable def addD : Dat → Dat → M Dat
  | .int i, .int j => .ok (.int (i + j))
  | .str x, .str y => if x.length + y.length ≤ sizeLine then .ok (.str (x ++ y)) else stk
  | .lst xs, .lst ys => if xs.length + ys.length ≤ sizeLine then .ok (.lst (xs ++ ys)) else stk
  | .tup xs, .tup ys => if xs.length + ys.length ≤ sizeLine then .ok (.tup (xs ++ ys)) else stk
  | _, _ => stk
noncomputable def subD : Dat → Dat → M Dat
  | .int i, .int j => .ok (.int (i - j))
  | _, _ => stk
noncomputable def small64 (i : Int) : Bool := decide (-(2 ^ 64) < i) && decide (i < 2 ^ 64)
noncomputable def mulD : Dat → Dat → M Dat
  | .int i, .int j => if (small64 i || small64 j) = true then .ok (.int (i * j)) else stk
  | _, _ => stk
noncomputable def fdivD : Dat → Dat → M Dat
  | .int i, .int j => if (decide (0 < j) && decide (j < 18446744073709551616)) = true then .ok (.int (i / j)) else stk
  | _, _ => stk
noncomputable def modD : Dat → Dat → M Dat
  | .int i, .int j => if 0 < j then .ok (.int (i % j)) else stk
  | _, _ => stk
noncomputable def powD : Dat → Dat → M Dat
  | .int i, .int j => if (decide (0 ≤ j) && decide (j ≤ 1000000) && decide (i.natAbs < 2 ^ 64)) = true then .ok (.int (i ^ j.toNat)) else stk
  | _, _ => stk
noncomputable def negD : Dat → M Dat
  | .int i => .ok (.int (-i))
  | _ => stk
noncomputable def ltD : Dat → Dat → M Dat
  | .int i, .int j => .ok (.bl (decide (i < j)))
  | _, _ => stk
noncomputable def leD : Dat → Dat → M Dat
  | .int i, .int j => .ok (.bl (decide (i ≤ j)))
  | _, _ => stk
noncomputable def gtD : Dat → Dat → M Dat
  | .int i, .int j => .ok (.bl (decide (j < i)))
  | _, _ => stk
noncomputable def geD : Dat → Dat → M Dat
  | .int i, .int j => .ok (.bl (decide (j ≤ i)))
  | _, _ => stk
noncomputable def b2z (b : Bool) : Int := if b then 1 else 0
mutual
noncomputable def eqD : Dat → Dat → Bool
  | .non, .non => true
  | .bl a, .bl b => a == b
  | .bl a, .int b => b2z a == b
  | .int a, .bl b => a == b2z b
  | .int a, .int b => a == b
  | .str a, .str b => a == b
  | .tup xs, .tup ys => eqDs xs ys
  | .lst xs, .lst ys => eqDs xs ys
  | _, _ => false
noncomputable def eqDs : List Dat → List Dat → Bool
  | [], [] => true
  | d :: ds, e :: es => eqD d e && eqDs ds es
  | _, _ => false
end
mutual
noncomputable def okE : Dat → Nat → Bool
  | .tup ds, n => (match n with
    | 0 => false
    | n + 1 => okEs ds n)
  | .lst ds, n => (match n with
    | 0 => false
    | n + 1 => okEs ds n)
  | .ins _ _, _ => false
  | .dic _, _ => false
  | .non, _ => true
  | .bl _, _ => true
  | .int _, _ => true
  | .str _, _ => true
noncomputable def okEs : List Dat → Nat → Bool
  | [], _ => true
  | d :: ds, n => okE d n && okEs ds n
end
noncomputable def eqM (a b : Dat) : M Dat := if (okE a 40 && okE b 40) = true then .ok (.bl (eqD a b)) else stk
noncomputable def neM (a b : Dat) : M Dat := if (okE a 40 && okE b 40) = true then .ok (.bl (!eqD a b)) else stk
noncomputable def isND : Dat → Dat → M Dat
  | .non, .non => .ok (.bl true)
  | _, .non => .ok (.bl false)
  | _, _ => stk
noncomputable def notND : Dat → Dat → M Dat
  | .non, .non => .ok (.bl false)
  | _, .non => .ok (.bl true)
  | _, _ => stk
noncomputable def getI (ds : List Dat) (i : Int) : M Dat := match atI ds i with
  | some d => .ok d
  | none => stk
noncomputable def ixD : Dat → Dat → M Dat
  | .lst ds, .int i => getI ds i
  | .tup ds, .int i => getI ds i
  | _, _ => stk
noncomputable def lenD : List Dat → M Dat
  | [.lst ds] => .ok (.int ds.length)
  | [.tup ds] => .ok (.int ds.length)
  | _ => stk
noncomputable def boolsD : List Dat → M (List Bool)
  | [] => .ok []
  | d :: ds => (asB d).bind fun b => (boolsD ds).bind fun r => .ok (b :: r)
noncomputable def intsD : List Dat → M (List Int)
  | [] => .ok []
  | d :: ds => (asI d).bind fun b => (intsD ds).bind fun r => .ok (b :: r)
noncomputable def anyD : List Dat → M Dat
  | [.lst ds] => (boolsD ds).bind fun bs => .ok (.bl (bs.any id))
  | _ => stk
noncomputable def listD : List Dat → M Dat
  | [.lst ds] => .ok (.lst ds)
  | [.tup ds] => .ok (.lst ds)
  | _ => stk
noncomputable def intD : List Dat → M Dat
  | [.int i] => .ok (.int i)
  | [.bl b] => .ok (.int (b2z b))
  | _ => stk
noncomputable def maxZ (i j : Int) : Int := if j > i then j else i
noncomputable def maxL : List Int → M Dat
  | [] => stk
  | i :: is => .ok (.int (is.foldl maxZ i))
noncomputable def maxD : List Dat → M Dat
  | [.int i, .int j] => .ok (.int (maxZ i j))
  | [.lst ds] => (intsD ds).bind maxL
  | _ => stk
noncomputable def isi_intD : Dat → M Dat
  | .int _ => .ok (.bl true)
  | .bl _ => .ok (.bl true)
  | .ins _ _ => stk
  | .dic _ => stk
  | _ => .ok (.bl false)
noncomputable def isi_boolD : Dat → M Dat
  | .bl _ => .ok (.bl true)
  | .ins _ _ => stk
  | .dic _ => stk
  | _ => .ok (.bl false)
noncomputable def isi_listD : Dat → M Dat
  | .lst _ => .ok (.bl true)
  | .ins _ _ => stk
  | .dic _ => stk
  | _ => .ok (.bl false)
noncomputable def isi_tupleD : Dat → M Dat
  | .tup _ => .ok (.bl true)
  | .ins _ _ => stk
  | .dic _ => stk
  | _ => .ok (.bl false)
noncomputable def runB (nN n : Nat) (g : Env' → M Flo) (ds : List Dat) : M Dat := if ds.length = n then (g (ds.map some ++ List.replicate (nN - ds.length) none)).bind fun fl => match fl with
  | .nx _ => .ok .non
  | .rt d => .ok d
  | _ => stk else stk
@[simp] theorem bind_ok {α β : Type} (a : α) (f : α → M β) : Except.bind (Except.ok a : M α) f = f a := id rfl
@[simp] theorem bind_er {α β : Type} (e : Err) (f : α → M β) : Except.bind (Except.error e : M α) f = .error e := id rfl
@[simp] theorem intsD_map : ∀ is : List Int, intsD (is.map Dat.int) = .ok is
  | [] => rfl
  | i :: is => by simp [intsD, asI, intsD_map is]
@[simp] theorem boolsD_map : ∀ is : List Bool, boolsD (is.map Dat.bl) = .ok is
  | [] => rfl
  | i :: is => by simp [boolsD, asB, boolsD_map is]
theorem getI_nat {ds : List Dat} {k : Nat} (h : k < ds.length) : getI ds (k : Int) = .ok ds[k] := by
  unfold getI atI ixN
  rw [if_pos (by omega), if_pos (by omega)]
  simp [h]
theorem getI_int {is : List Int} {k : Int} (h0 : 0 ≤ k) (h : k < is.length) : getI (is.map Dat.int) k = .ok (.int (is[k.toNat]'(by omega))) := by
  have hj : k.toNat < (is.map Dat.int).length := by simp; omega
  have e : k = (k.toNat : Int) := by omega
  have := getI_nat hj
  rw [← e] at this
  rw [this]
  simp
theorem forD_inv {p : Pat} {g : Env' → M Flo} (P : Nat → Env' → Prop) : ∀ (ds : List Dat) (k : Nat) (ρ : Env'), P k ρ →
    (∀ (i : Nat) (d : Dat) (ρ : Env'), ds[i]? = some d → P (k + i) ρ → ∃ ρ1, bindP p d ρ = .ok ρ1 ∧ ∃ ρ2, (g ρ1 = .ok (.nx ρ2) ∨ g ρ1 = .ok (.ct ρ2)) ∧ P (k + i + 1) ρ2) → ∃ ρ', forD p g ds ρ = .ok (.nx ρ') ∧ P (k + ds.length) ρ'
  | [], k, ρ, h, _ => ⟨ρ, rfl, h⟩
  | d :: ds, k, ρ, h, st => by
    obtain ⟨ρ1, e1, ρ2, e2, h2⟩ := st 0 d ρ rfl h
    obtain ⟨ρ', e3, h3⟩ := forD_inv P ds (k + 1) ρ2 h2 fun i d' ρ he hp => by
      have := st (i + 1) d' ρ (by simpa using he) (by rw [show k + (i + 1) = k + 1 + i by omega]; exact hp)
      rw [show k + (i + 1) + 1 = k + 1 + i + 1 by omega] at this
      exact this
    refine ⟨ρ', ?_, by rw [show k + (d :: ds).length = k + 1 + ds.length by simp; omega]; exact h3⟩
    rw [forD, e1]
    rcases e2 with e2 | e2
    · simp only [bind_ok, e2]; exact e3
    · simp only [bind_ok, e2]; exact e3
theorem compD_map {p : Pat} {fe : Env' → M Dat} {ρ0 : Env'} (f : Dat → Dat) : ∀ (ds : List Dat), (∀ d ∈ ds, ∃ ρ, bindP p d ρ0 = .ok ρ ∧ fe ρ = .ok (f d)) → compD p fYes fe ρ0 ds = .ok (ds.map f)
  | [], _ => rfl
  | d :: ds, h => by
    obtain ⟨ρ, e1, e2⟩ := h d (by simp)
    rw [compD, e1]
    simp only [bind_ok, fYes, e2, compD_map f ds fun x hx => h x (by simp [hx])]
    simp
@[simp] theorem small_def (i : Int) : small64 i = (decide (-(2 ^ 64) < i) && decide (i < 2 ^ 64)) := id rfl
section
variable {ρ : Env'} {fa fb fc : Env' → M Dat} {fr : Env' → M (List Dat)} {ft fu : Env' → M Bool} {g h : Env' → M Flo}
@[simp] theorem e_var0 (d : Dat) (r : Env') : fVar 0 (some d :: r) = .ok d := id rfl
@[simp] theorem e_varS (i : Nat) (o : Option Dat) (r : Env') : fVar (i + 1) (o :: r) = fVar i r := by simp [fVar]
@[simp] theorem e_c (d : Dat) : fC d ρ = .ok d := id rfl
@[simp] theorem e_1 (k : Dat → M Dat) : f1 k fa ρ = (fa ρ).bind k := id rfl
@[simp] theorem e_2 (k : Dat → Dat → M Dat) : f2 k fa fb ρ = (fa ρ).bind fun a => (fb ρ).bind fun b => k a b := id rfl
@[simp] theorem e_nil : fNil ρ = .ok [] := id rfl
@[simp] theorem e_cons : fCons fa fr ρ = (fa ρ).bind fun a => (fr ρ).bind fun r => .ok (a :: r) := id rfl
@[simp] theorem e_L (k : List Dat → M Dat) : fL k fr ρ = (fr ρ).bind k := id rfl
@[simp] theorem e_ite : fIte ft fa fb ρ = (ft ρ).bind fun b => if b = true then fa ρ else fb ρ := id rfl
@[simp] theorem e_and : fAnd ft fu ρ = (ft ρ).bind fun b => if b = true then fu ρ else .ok false := id rfl
@[simp] theorem e_or : fOr ft fu ρ = (ft ρ).bind fun b => if b = true then .ok true else fu ρ := id rfl
@[simp] theorem e_not : fNot ft ρ = (ft ρ).bind fun b => .ok (!b) := id rfl
@[simp] theorem e_B : fB fa ρ = (fa ρ).bind asB := id rfl
@[simp] theorem e_andV : fAndV fa fb ρ = (fa ρ).bind fun a => (asB a).bind fun b => if b = true then fb ρ else .ok (.bl false) := id rfl
@[simp] theorem e_orV : fOrV fa fb ρ = (fa ρ).bind fun a => (asB a).bind fun b => if b = true then .ok (.bl true) else fb ρ := id rfl
@[simp] theorem e_tru : fTru fa ρ = (fa ρ).bind truD := id rfl
@[simp] theorem e_chain (k k' : Dat → Dat → M Dat) : fChain k k' fa fb fc ρ = (fa ρ).bind fun a => (fb ρ).bind fun b => (k a b).bind fun x => (asB x).bind fun z => if z = true then (fc ρ).bind fun c => k' b c else .ok (.bl false) := id rfl
@[simp] theorem e_yes : fYes ρ = .ok true := id rfl
@[simp] theorem e_it : fIt fa ρ = (fa ρ).bind itemsD := id rfl
@[simp] theorem e_rng (k : List Dat → M (List Dat)) : fRng k fr ρ = (fr ρ).bind k := id rfl
@[simp] theorem e_comp (fi : Env' → M (List Dat)) (ix : List (Option Nat)) (p : Pat) : fComp fi ix p ft fa ρ = (fi ρ).bind fun ds => if ds.length ≤ sizeLine then (compD p ft fa (inSE ix ρ) ds).bind fun r => .ok (.lst r) else .error .stuck := id rfl
@[simp] theorem e_asB (b : Bool) : asB (.bl b) = .ok b := id rfl
@[simp] theorem e_asI (b : Int) : asI (.int b) = .ok b := id rfl
@[simp] theorem e_itemsL (ds : List Dat) : itemsD (.lst ds) = .ok ds := id rfl
@[simp] theorem e_notD (b : Bool) : notD (.bl b) = .ok (.bl (!b)) := id rfl
@[simp] theorem e_truB (b : Bool) : truD (.bl b) = .ok b := id rfl
@[simp] theorem e_truL (ds : List Dat) : truD (.lst ds) = .ok (!ds.isEmpty) := id rfl
@[simp] theorem e_addI (i j : Int) : addD (.int i) (.int j) = .ok (.int (i + j)) := id rfl
@[simp] theorem e_subI (i j : Int) : subD (.int i) (.int j) = .ok (.int (i - j)) := id rfl
@[simp] theorem e_negI (i : Int) : negD (.int i) = .ok (.int (-i)) := id rfl
@[simp] theorem e_ltI (i j : Int) : ltD (.int i) (.int j) = .ok (.bl (decide (i < j))) := id rfl
@[simp] theorem e_leI (i j : Int) : leD (.int i) (.int j) = .ok (.bl (decide (i ≤ j))) := id rfl
@[simp] theorem e_gtI (i j : Int) : gtD (.int i) (.int j) = .ok (.bl (decide (j < i))) := id rfl
@[simp] theorem e_geI (i j : Int) : geD (.int i) (.int j) = .ok (.bl (decide (j ≤ i))) := id rfl
@[simp] theorem e_ixL (ds : List Dat) (i : Int) : ixD (.lst ds) (.int i) = getI ds i := id rfl
@[simp] theorem e_ixT (ds : List Dat) (i : Int) : ixD (.tup ds) (.int i) = getI ds i := id rfl
@[simp] theorem e_lenL (ds : List Dat) : lenD [.lst ds] = .ok (.int ds.length) := id rfl
@[simp] theorem e_any (ds : List Dat) : anyD [.lst ds] = (boolsD ds).bind fun bs => .ok (.bl (bs.any id)) := id rfl
@[simp] theorem e_listL (ds : List Dat) : listD [.lst ds] = .ok (.lst ds) := id rfl
@[simp] theorem e_intB (b : Bool) : intD [.bl b] = .ok (.int (b2z b)) := id rfl
@[simp] theorem e_max2 (i j : Int) : maxD [.int i, .int j] = .ok (.int (maxZ i j)) := id rfl
@[simp] theorem e_isN (d : Dat) : isND d .non = .ok (.bl (match d with | .non => true | _ => false)) := by cases d <;> rfl
@[simp] theorem e_notN (d : Dat) : notND d .non = .ok (.bl (match d with | .non => false | _ => true)) := by cases d <;> rfl
@[simp] theorem e_next : sNext ρ = .ok (.nx ρ) := id rfl
@[simp] theorem e_seq : sSeq g h ρ = (g ρ).bind fun fl => match fl with
  | .nx ρ' => h ρ'
  | fl => .ok fl := id rfl
@[simp] theorem e_if : sIf ft g h ρ = (ft ρ).bind fun b => if b = true then g ρ else h ρ := id rfl
@[simp] theorem e_setB (O : List Nat) (i : Nat) : sSetB O i fa ρ = (fa (erase O ρ)).bind fun d => .ok (.nx (ρ.set i (some d))) := id rfl
@[simp] theorem e_ret : sRet fa ρ = (fa ρ).bind fun d => .ok (.rt d) := id rfl
@[simp] theorem e_for (O : List Nat) (fi : Env' → M (List Dat)) (p : Pat) : sFor O fi p g ρ = (fi (erase O ρ)).bind fun ds => forD p g ds ρ := id rfl
@[simp] theorem e_appB (O : List Nat) (i : Nat) : sAppB O i fa ρ = (lstAt ρ i).bind fun ds => (fa (erase O ρ)).bind fun d => if ds.length < sizeLine then put ρ i (ds ++ [d]) else .error .stuck := id rfl
@[simp] theorem e_setI (i : Nat) : sSetI i fb fa ρ = (fa ρ).bind fun d => (lstAt ρ i).bind fun ds => (fb ρ).bind fun k => (asI k).bind fun k => if flatD d = true then (match ixN ds.length k with
  | some j => put ρ i (ds.set j d)
  | none => .error .stuck) else .error .stuck := id rfl
@[simp] theorem e_put (i : Nat) (ds : List Dat) : put ρ i ds = .ok (.nx (ρ.set i (some (.lst ds)))) := id rfl
@[simp] theorem e_lst0 (ds : List Dat) (r : Env') : lstAt (some (.lst ds) :: r) 0 = .ok ds := id rfl
@[simp] theorem e_lstS (i : Nat) (o : Option Dat) (r : Env') : lstAt (o :: r) (i + 1) = lstAt r i := by simp [lstAt]
@[simp] theorem e_er0 : erase [] ρ = ρ := id rfl
@[simp] theorem e_erS (i : Nat) (O : List Nat) : erase (i :: O) ρ = erase O (ρ.set i none) := id rfl
@[simp] theorem e_bnm (i : Nat) (d : Dat) : bindP (.nm i) d ρ = .ok (ρ.set i (some d)) := id rfl
@[simp] theorem e_btp (is : List Nat) (ds : List Dat) : bindP (.tp is) (.tup ds) ρ = if ds.length = is.length then .ok (setAll is ds ρ) else .error .stuck := id rfl
@[simp] theorem e_sa0 (ds : List Dat) : setAll [] ds ρ = ρ := by cases ds <;> rfl
@[simp] theorem e_saS (i : Nat) (is : List Nat) (d : Dat) (ds : List Dat) : setAll (i :: is) (d :: ds) ρ = setAll is ds (ρ.set i (some d)) := id rfl
@[simp] theorem e_in0 : inSE [] ρ = [] := id rfl
@[simp] theorem e_inN (ix : List (Option Nat)) : inSE (none :: ix) ρ = none :: inSE ix ρ := id rfl
@[simp] theorem e_inS (j : Nat) (ix : List (Option Nat)) : inSE (some j :: ix) ρ = (ρ[j]?).join :: inSE ix ρ := id rfl
@[simp] theorem e_tup (ds : List Dat) : mkTup ds = if ds.length ≤ sizeLine then .ok (.tup ds) else .error .stuck := id rfl
@[simp] theorem e_lst (ds : List Dat) : mkLst ds = if ds.length ≤ sizeLine then .ok (.lst ds) else .error .stuck := id rfl
@[simp] theorem e_line : sizeLine = 16777216 := sizeLine_eq
@[simp] theorem e_run (a b : Nat) (ds : List Dat) : runB a b g ds = if ds.length = b then (g (ds.map some ++ List.replicate (a - ds.length) none)).bind fun fl => match fl with
  | .nx _ => .ok .non
  | .rt d => .ok d
  | _ => stk else stk := id rfl
@[simp] theorem e_rng2 {i j : Int} (h : small62 i = true) (h2 : small62 j = true) : rng2 [.int i, .int j] = .ok (rangeL i (j - i).toNat) := by show (if (small62 i && small62 j) = true then _ else _) = _; rw [h, h2, Bool.and_true, if_pos rfl]
@[simp] theorem e_mod {i j : Int} (h : 0 < j) : modD (.int i) (.int j) = .ok (.int (i % j)) := by simp [modD, h]
@[simp] theorem e_fdiv {i j : Int} (h : 0 < j) (h2 : j < 18446744073709551616) : fdivD (.int i) (.int j) = .ok (.int (i / j)) := by simp [fdivD, h, h2]
@[simp] theorem e_mulR {i j : Int} (h : small64 j = true) : mulD (.int i) (.int j) = .ok (.int (i * j)) := by show (if (small64 i || small64 j) = true then _ else _) = _; rw [h, Bool.or_true, if_pos rfl]
@[simp] theorem e_mulL {i j : Int} (h : small64 i = true) : mulD (.int i) (.int j) = .ok (.int (i * j)) := by show (if (small64 i || small64 j) = true then _ else _) = _; rw [h, Bool.true_or, if_pos rfl]
end
end L2
namespace L2
open PySem PySem.Spec PyProof.Rows
section
variable {X : Cx} {K : PySem.W.Frag} {W : Wish} {own ro : Bool} {e a b c : Expr} {es rest : List Expr} {x : Str} {pos p : Pos} {f fa fb fc : Env' → M Dat} {fr : Env' → M (List Dat)} {ft fu : Env' → M Bool}
theorem PE.imp {t t' : TE} (h : PE X e t) (q : ∀ σ H Q, t' σ H Q → t σ H Q) : PE X e t' := fun pins s σ H Q I z => h pins s σ H Q I (q σ H Q z)
theorem PT.imp {t t' : TT} (h : PT X e t) (q : ∀ σ H Q, t' σ H Q → t σ H Q) : PT X e t' := fun pins s σ H Q I z => h pins s σ H Q I (q σ H Q z)
theorem PW.imp {t t' : TT} (h : PW X e t) (q : ∀ σ H Q, t' σ H Q → t σ H Q) : PW X e t' := fun wh pins s σ H Q I z => h wh pins s σ H Q I (q σ H Q z)
theorem PA.imp {t t' : TA} (h : PA X es t) (q : ∀ σ H Q, t' σ H Q → t σ H Q) : PA X es t' := fun ps pins s σ H Q I z => h ps pins s σ H Q I (q σ H Q z)
theorem PI.imp {tg : Expr} {t t' : TI} (h : PI X tg e t) (q : ∀ σ H Q, t' σ H Q → t σ H Q) : PI X tg e t' := fun pins s σ H Q I z => h pins s σ H Q I (q σ H Q z)
theorem PS.imp {st : Stmt} {t t' : TS} (h : PS X st t) (q : ∀ D σ H, t' D σ H → t D σ H) : PS X st t' := fun pins s σ H D I z => h pins s σ H D I (q D σ H z)
theorem PSs.imp {st : List Stmt} {t t' : TS} (h : PSs X st t) (q : ∀ D σ H, t' D σ H → t D σ H) : PSs X st t' := fun pins s σ H D I z => h pins s σ H D I (q D σ H z)
noncomputable abbrev DE (K : PySem.W.Frag) (W : Wish) (own : Bool) (X : Cx) (e : Expr) (f : Env' → M Dat) : Prop := PE X e (tD K W own f)
noncomputable abbrev DT (K : PySem.W.Frag) (W : Wish) (X : Cx) (e : Expr) (f : Env' → M Bool) : Prop := PT X e (tDT K W f)
noncomputable abbrev DW (K : PySem.W.Frag) (W : Wish) (X : Cx) (e : Expr) (f : Env' → M Bool) : Prop := PW X e (tDT K W f)
noncomputable abbrev DA (K : PySem.W.Frag) (W : Wish) (X : Cx) (es : List Expr) (f : Env' → M (List Dat)) : Prop := PA X es (tDA K W f)
noncomputable abbrev DI (K : PySem.W.Frag) (W : Wish) (X : Cx) (tg e : Expr) (f : Env' → M (List Dat)) : Prop := PI X tg e (iD K W f)
noncomputable abbrev DG (K : PySem.W.Frag) (X : Cx) (tg : Expr) (p : Pat) : Prop := PG X tg (gP K p)
noncomputable abbrev DS (K : PySem.W.Frag) (W : Wish) (ro : Bool) (X : Cx) (OL O O' : List Nat) (st : Stmt) (g : Env' → M Flo) : Prop := ∀ F0 H0 : Hp, PS X st (tS K W ro F0 H0 OL O O' g)
noncomputable abbrev DSs (K : PySem.W.Frag) (W : Wish) (ro : Bool) (X : Cx) (OL O O' : List Nat) (st : List Stmt) (g : Env' → M Flo) : Prop := ∀ F0 H0 : Hp, PSs X st (tS K W ro F0 H0 OL O O' g)
noncomputable abbrev Op2 (K : PySem.W.Frag) (W : Wish) (own : Bool) (X : Cx) (o : Value → Value → Sem Value) (g : Dat → Dat → M Dat) : Prop := OpR X o (rD2 K W own g)
noncomputable abbrev CallD (K : PySem.W.Frag) (W : Wish) (own : Bool) (X : Cx) (v : Value) (g : List Dat → M Dat) : Prop := CallR X v (rDL K W own g)
theorem de_v (i : Nat) (hN : X.N[i]? = some x := by rfl) (hv : Vis X.env.scope x := by first | exact Or.inl rfl | exact Or.inr (Or.inl rfl) | exact Or.inr (Or.inr rfl)) (hd : (x == ("__debug__" : Str)) = false := by decide)
    (hcd : (x == ("__classdict__" : Str)) = false := by decide) : DE K W false X (.Name x pos) (fVar i) := (pv i hN hv hd hcd).imp fun _ _ _ => rd_var
theorem de_int {i : Int} {j} : DE K W false X (.Constant (.int i) j pos) (fC (.int i)) := pe_int.imp fun _ _ _ => rd_c fun _ => rfl
theorem de_bl {k : Bool} {j} : DE K W false X (.Constant (.bool k) j pos) (fC (.bl k)) := pe_bl.imp fun _ _ _ => rd_c fun _ => rfl
theorem de_non {j} : DE K W false X (.Constant .none j pos) (fC .non) := pe_non.imp fun _ _ _ => rd_c fun _ => rfl
theorem de_frz (h : DE K W true X e f) : DE K W false X e f := PE.imp h fun _ _ _ ⟨F, ρ, r, s, p⟩ => ⟨F, ρ, r, s, p.frz⟩
theorem de_op {op : Operator} {g : Dat → Dat → M Dat} (ho : Op2 K W own X (binaryOp op) g) (ha : DE K W false X a fa) (hb : DE K W false X b fb) : DE K W own X (.BinOp a op b pos) (f2 g fa fb) := (pe_op ho ha hb).imp fun _ _ _ => rd_2
theorem de_un {op : UnaryOp} {g : Dat → M Dat} (ho : UnR X (unaryOp op) (rD1 K W own g)) (ha : DE K W false X a fa) : DE K W own X (.UnaryOp op a pos) (f1 g fa) := (pe_un ho ha).imp fun _ _ _ => rd_1
theorem de_cmp {op : CmpOp} {g : Dat → Dat → M Dat} (ho : Op2 K W false X (compareOp op) g) (ha : DE K W false X a fa) (hb : DE K W false X b fb) (hm : behindInMarks op b = false := by first | exact nomark _ | with_unfolding_all rfl) : DE K W false X (.Compare a [op] [b] pos) (f2 g fa fb) :=
  (pe_cmpR ho ha hb hm).imp fun _ _ _ => rd_2
theorem dt_cmp {op : CmpOp} {g : Dat → Dat → M Dat} (ho : Op2 K W false X (compareOp op) g) (ha : DE K W false X a fa) (hb : DE K W false X b fb) (hm : behindInMarks op b = false := by first | exact nomark _ | with_unfolding_all rfl) : DT K W X (.Compare a [op] [b] pos) (fB (f2 g fa fb)) :=
  (pt_cmpR ho ha hb hm).imp fun σ H Q h => by
    have q := rd_B h
    exact rd_2 (own := false) q
theorem de_chain {op op' : CmpOp} {g g' : Dat → Dat → M Dat} (ho : Op2 K W false X (compareOp op) g) (ho' : Op2 K W false X (compareOp op') g') (ha : DE K W false X a fa) (hb : DE K W false X b fb) (hc : DE K W false X c fc)
    (hm : lastMarks [op, op'] [b, c] = false := by with_unfolding_all rfl) : DE K W false X (.Compare a [op, op'] [b, c] pos) (fChain g g' fa fb fc) := (pe_chain ho ho' ha hb hc hm).imp fun _ _ _ => rd_chain
theorem dt_chain {op op' : CmpOp} {g g' : Dat → Dat → M Dat} (ho : Op2 K W false X (compareOp op) g) (ho' : Op2 K W false X (compareOp op') g') (ha : DE K W false X a fa) (hb : DE K W false X b fb) (hc : DE K W false X c fc)
    (hm : lastMarks [op, op'] [b, c] = false := by with_unfolding_all rfl) : DT K W X (.Compare a [op, op'] [b, c] pos) (fB (fChain g g' fa fb fc)) := (pt_chain ho ho' ha hb hc hm).imp fun σ H Q h => by
    have q := rd_B h
    exact rd_chain q
theorem dt_tru (ha : DE K W false X a fa) (hK : X.K = K := by rfl) (he : ∀ whole, isTrue a X.env whole = (do let v ← whole; standAt a.pos; holding [v] (truthy v)) := by intro _; rfl) : DT K W X a (fTru fa) := by
  subst hK
  exact (pt_truth ha he).imp fun _ _ _ => rd_tru
theorem dt_not (ha : DT K W X a ft) : DT K W X (.UnaryOp .Not a pos) (fNot ft) := (pt_not ha).imp fun _ _ _ => rd_not
theorem dw_and1 (ha : DT K W X a ft) : DW K W X (.BoolOp .And [a] pos) ft := pw_and1 ha
theorem dw_or1 (ha : DT K W X a ft) : DW K W X (.BoolOp .Or [a] pos) ft := pw_or1 ha
theorem dw_and (ha : DT K W X a ft) (hb : DW K W X (.BoolOp .And (b :: rest) pos) fu) : DW K W X (.BoolOp .And (a :: b :: rest) pos) (fAnd ft fu) := (pw_and ha hb).imp fun _ _ _ => rd_and
theorem dw_or (ha : DT K W X a ft) (hb : DW K W X (.BoolOp .Or (b :: rest) pos) fu) : DW K W X (.BoolOp .Or (a :: b :: rest) pos) (fOr ft fu) := (pw_or ha hb).imp fun _ _ _ => rd_or
theorem de_one {op} (h : DE K W false X a f) : DE K W false X (.BoolOp op [a] pos) f := pe_one h
theorem de_and (ha : DE K W false X a fa) (hb : DE K W false X (.BoolOp .And (b :: rest) pos) fb) : DE K W false X (.BoolOp .And (a :: b :: rest) pos) (fAndV fa fb) := (pe_and ha hb).imp fun _ _ _ => rd_andV
theorem de_or (ha : DE K W false X a fa) (hb : DE K W false X (.BoolOp .Or (b :: rest) pos) fb) : DE K W false X (.BoolOp .Or (a :: b :: rest) pos) (fOrV fa fb) := (pe_or ha hb).imp fun _ _ _ => rd_orV
theorem de_not (ha : DE K W false X a fa) : DE K W false X (.UnaryOp .Not a pos) (f1 notD fa) := (pe_not ha).imp fun _ _ _ => rd_notV
theorem de_ite (hc : DT K W X c ft) (ha : DE K W own X a fa) (hb : DE K W own X b fb) : DE K W own X (.IfExp c a b pos) (fIte ft fa fb) := (pe_ifExp hc ha hb).imp fun _ _ _ => rd_ite
theorem da_nil : DA K W X [] fNil := pa_nil.imp fun _ _ _ => rd_nil
theorem da_cons (ha : DE K W false X e fa) (hr : DA K W X es fr) (hs : starEach (e :: es) X.env = (false, eval e X.env) :: starEach es X.env := by rfl) : DA K W X (e :: es) (fCons fa fr) := (pa_cons ha hr hs).imp fun _ _ _ => rd_cons
theorem de_tup {x1} (h : DA K W X es fr) : DE K W own X (.Tuple es x1 pos) (fL mkTup fr) := (pe_tup h).imp fun _ _ _ => rd_tup
theorem de_lst (h : DA K W X es fr) : DE K W true X (.List es pos) (fL mkLst fr) := (pe_lst h).imp fun _ _ _ => rd_lst
theorem de_callB {id : String} {g : List Dat → M Dat} (hc : CallD K W own X (.builtin id) g) (hm : X.mg x = none) (hv : bootBuiltins x = some (.builtin id)) (ha : DA K W X (e :: es) fr) (hg : Gl X x := by rfl) (hn : x ≠ "__name__" := by decide) (hdb : (x == ("__debug__" : Str)) = false := by decide)
    (hst : starEach (e :: es) X.env = (false, eval e X.env) :: starEach es X.env := by rfl) (hpl : (backTo pos (starEach es X.env)).any (·.1) = false := by rfl) : DE K W own X (.Call (.Name x p) (e :: es) [] pos) (fL g fr) :=
  (pe_callB hc hg hm hv ha hn hdb hst hpl).imp fun _ _ _ => rd_L
theorem de_callTy {T : String} {g : List Dat → M Dat} (hc : CallD K W own X (.type T) g) (hm : X.mg x = none) (hv : bootBuiltins x = some (.type T)) (ha : DA K W X (e :: es) fr) (hg : Gl X x := by rfl) (hn : x ≠ "__name__" := by decide) (hdb : (x == ("__debug__" : Str)) = false := by decide)
    (hst : starEach (e :: es) X.env = (false, eval e X.env) :: starEach es X.env := by rfl) (hpl : (backTo pos (starEach es X.env)).any (·.1) = false := by rfl) : DE K W own X (.Call (.Name x p) (e :: es) [] pos) (fL g fr) :=
  (pe_callTy hc hg hm hv ha hn hdb hst hpl).imp fun _ _ _ => rd_L
theorem de_ix {g : Dat → Dat → M Dat} (hr : IxR X (rD2 K W own g)) (ha : DE K W false X a fa) (hb : DE K W false X b fb) (hs : PlainIx b := by exact fun _ _ => rfl) : DE K W own X (.Subscript a b pos) (f2 g fa fb) := (pe_ix hr ha hb hs).imp fun _ _ _ => rd_2
theorem dg_nm {i : Nat} (hN : X.N.Nodup) (hi : X.N[i]? = some x := by rfl) (hx : Loc X.env.scope x := by first | exact Or.inl rfl | exact Or.inr rfl) (hf : X.fn x = true ∨ X.env.scope.names.lookup x = some .local := by first | exact .inl rfl | exact .inr rfl | assumption) : DG K X (.Name x pos) (.nm i) := pg_name hN hi hx hf
theorem di_seq {tg : Expr} (hl : DE K W false X e fa) (hK : X.K = K := by rfl) : DI K W X tg e (fIt fa) := by
  subst hK
  refine PI.imp (t := iSeq X.K (tD X.K W false fa)) ?_ fun _ _ _ => ri_seq
  intro pins s σ H R I h
  refine thn (hl pins s σ H _ I h) fun v s1 ⟨y, H1, I1, r1, q1⟩ => ?_
  obtain ⟨l, e1, q⟩ := q1
  subst e1
  cases r1
  rcases q with ⟨⟨xs, hq⟩, q⟩ | ⟨⟨xs, hq⟩, q⟩
  · obtain ⟨its, rv, p, hz⟩ := I1.list hq
    refine wpAny_pyIter_list p.isList ?_
    refine ⟨s1.heap.objs.size, [s1.heap.objs.size], _, _, H1, rfl, I1.kept (t' := s1.toks) fun b o e => Heap.get?_push_of_some _ e, turn_list l _, ⟨_, Heap.get?_push_size _ rfl, rfl, rfl⟩, fun b hb => ?_, q⟩
    have e : b = s1.heap.objs.size := by simpa using hb
    subst e
    exact I1.fpOk (Nat.le_refl _) (I1.hok.fresh (Nat.le_refl _))
  · obtain ⟨its, rv, p, hz⟩ := I1.tuple hq
    refine wpAny_pyIter_tuple (show s1.heap.IsTuple l its.toArray from p) ?_
    refine ⟨s1.heap.objs.size, [s1.heap.objs.size], _, _, H1, rfl, I1.kept (t' := s1.toks) fun b o e => Heap.get?_push_of_some _ e, turn_tuple l _, ⟨_, Heap.get?_push_size _ rfl, rfl, rfl⟩, fun b hb => ?_, q⟩
    have e : b = s1.heap.objs.size := by simpa using hb
    subst e
    exact I1.fpOk (Nat.le_refl _) (I1.hok.fresh (Nat.le_refl _))
theorem di_rng2 {tg : Expr} (hm : X.mg "range" = none) (ha : DA K W X [a, b] fr) (hg : Gl X "range" := by rfl) (hs : starEach [a, b] X.env = [(false, eval a X.env), (false, eval b X.env)] := by rfl) (hs2 : starEach [b] X.env = [(false, eval b X.env)] := by rfl) :
    DI K W X tg (.Call (.Name "range" p) [a, b] [] pos) (fRng rng2 fr) := (pi_range2 hg hm ha hs hs2).imp fun _ _ _ => ri_rng2
variable {OL O O' O2 : List Nat} {st : Stmt} {sts : List Stmt} {g h : Env' → M Flo}
theorem ds_nil : DSs K W ro X OL O O [] sNext := fun _ _ => pss_nil.imp fun _ _ _ => rs_next
theorem ds_cons (h1 : DS K W ro X OL O O' st g) (h2 : DSs K W ro X OL O' O2 sts h) : DSs K W ro X OL O O2 (st :: sts) (sSeq g h) := fun F0 H0 => (pss_cons (h1 F0 H0) (h2 F0 H0)).imp fun _ _ _ => rs_seq
theorem ds_one (h1 : DS K W ro X OL O O' st g) : DSs K W ro X OL O O' [st] g := fun F0 H0 => pss_one (h1 F0 H0)
theorem ds_enter (h1 : DSs K W ro X OL O2 O' sts g) (hs : ∀ i ∈ O2, i ∈ O := by decide) : DSs K W ro X OL O O' sts g := fun F0 H0 => PSs.imp (h1 F0 H0) fun _ _ _ => tS.enter hs
theorem ds_if {sa sb : List Stmt} (hc : DT K W X c ft) (ha : DSs K W ro X OL O O' sa g) (hb : DSs K W ro X OL O O' sb h) : DS K W ro X OL O O' (.If c sa sb pos) (sIf ft g h) := fun F0 H0 => (ps_if hc (ha F0 H0) (hb F0 H0)).imp fun _ _ _ => rs_if
theorem ds_setB {i : Nat} {pos' : Pos} (hN : X.N.Nodup) (he : DE K W own X e f) (hi : X.N[i]? = some x := by rfl) (hx : Loc X.env.scope x := by first | exact Or.inl rfl | exact Or.inr rfl) (hs : swapsWith e (some (.Name x pos')) pos.line X.env = pure false := by rfl) (hf : X.fn x = true ∨ X.env.scope.names.lookup x = some .local := by first | exact .inl rfl | exact .inr rfl | assumption) :
    DS K W ro X OL O (aft own i O) (.Assign [.Name x pos'] e pos) (sSetB O i f) := fun F0 H0 => (ps_set hN hi hx he hs hf).imp fun _ _ _ => rs_setB
theorem ds_ret (he : DE K W ro X e f) : DS K W ro X OL O O' (.Return (some e) pos) (sRet f) := fun F0 H0 => (ps_ret he).imp fun _ _ _ => rs_ret
theorem ds_for {tg iter : Expr} {body : List Stmt} {fs : Env' → M (List Dat)} {pt : Pat} (hi : DI K W X tg iter fs) (hg : DG K X tg pt) (hb : DSs K W ro X O O O body g) (n : ∀ i ∈ pt.names, i ∉ O := by decide) (hp : PassesOwn (model X.prog X.w) X.A X.env X.xe := by exact PassesOwn.never) (hc : X.calm = true := by rfl)
    (hs : ∀ x, foldedSetIterable iter X.env x = pure x := by intro _; rfl) : DS K W ro X OL O O (.For tg iter body [] pos) (sFor O fs pt g) := fun F0 H0 => (ps_for hp hc hi hg (hb F0 H0) hs).imp fun _ _ _ => rs_for n
theorem ds_appB {i : Nat} {apos : Pos} {q : Pos} (he : DE K W false X e f) (ho : i ∈ O := by decide) (hN : X.N[i]? = some x := by rfl) (hv : Vis X.env.scope x := by first | exact Or.inl rfl | exact Or.inr (Or.inl rfl) | exact Or.inr (Or.inr rfl)) (hd : (x == ("__debug__" : Str)) = false := by decide) (hcd : (x == ("__classdict__" : Str)) = false := by decide) (hK : X.K = K := by rfl)
    (hst : starEach [e] X.env = [(false, eval e X.env)] := by rfl) (hbase : attributeBase (.Name x p) "append" X.env (eval (.Name x p) X.env) = eval (.Name x p) X.env := by rfl) (hfew : ((backTo q (starEach [e] X.env)).all (fun x => !x.1) && (backToKw q (keywordEach [] X.env)).all (fun x => x.1.isSome) && decide ([e].length + ([] : List Keyword).length + (if ([] : List Keyword).isEmpty then 0 else 1) < 30)) = true := by rfl) (hplain : (backTo q (starEach [] X.env)).any (·.1) = false := by rfl) (hline : (apos.endLine == q.line) = true := by rfl) (hsw : swapsWith (.Call (.Attribute (.Name x p) "append" apos) [e] [] q) none pos.line X.env = pure false := by rfl) :
    DS K W ro X OL O O (.Expr (.Call (.Attribute (.Name x p) "append" apos) [e] [] q) pos) (sAppB O i f) := fun F0 H0 => by
  subst hK
  exact PS.imp (ps_expr (pe_bm PySem.F.plainAttrs_list PySem.F.slot_list_append PySem.F.type_list_append mt_append (pv i hN hv hd hcd) (pa_cons he pa_nil hst) hbase hfew hline hst hplain) hsw) fun _ _ _ => rs_appB ho
end
end L2
namespace L2
open PySem PySem.Spec PyProof.Rows
section
variable {X : Cx} {K : PySem.W.Frag} {W : Wish} {own : Bool}
theorem OpR.imp {f : Value → Value → Sem Value} {r r' : R2} (h : OpR X f r) (q : ∀ x y H Q, r' x y H Q → r x y H Q) : OpR X f r' := fun pins s σ H x y v u Q I rx ry z => h pins s σ H x y v u Q I rx ry (q x y H Q z)
theorem UnR.imp {f : Value → Sem Value} {r r' : V → Hp → VK → Prop} (h : UnR X f r) (q : ∀ x H Q, r' x H Q → r x H Q) : UnR X f r' := fun pins s σ H x v Q I rx z => h pins s σ H x v Q I rx (q x H Q z)
theorem CallR.imp {f : Value} {r r' : List V → Hp → VK → Prop} (h : CallR X f r) (q : ∀ x H Q, r' x H Q → r x H Q) : CallR X f r' := fun pins s σ H x v Q I rx z => h pins s σ H x v Q I rx (q x H Q z)
theorem IxR.imp {r r' : R2} (h : IxR X r) (q : ∀ x y H Q, r' x y H Q → r x y H Q) : IxR X r' := fun va sl pins s σ H x y v u Q I rx ry z e => h va sl pins s σ H x y v u Q I rx ry (q x y H Q z) e
theorem Post.stuck {F H : Hp} {Q : VK} {P : Prop} (p : Post K W own F H (stk) Q) : P := (W.ns p).elim
theorem Post.int {F H : Hp} {Q : VK} {i : Int} (p : Post K W own F H (.ok (.int i)) Q) (s : Same F H) : Q (.int i) H := p _ F H (Step.refl s) (by cases own <;> rfl)
theorem Post.bl {F H : Hp} {Q : VK} {b : Bool} (p : Post K W own F H (.ok (.bl b)) Q) (s : Same F H) : Q (.bl b) H := p _ F H (Step.refl s) (by cases own <;> rfl)
theorem Post.str {F H : Hp} {Q : VK} {x : Str} (p : Post K W own F H (.ok (.str x)) Q) (s : Same F H) : Q (.str x) H := p _ F H (Step.refl s) (by cases own <;> rfl)
theorem Post.tup {F H : Hp} {Q : VK} {ds : List Dat} {xs : List V} {a : Addr} (p : Post K W own F H (.ok (.tup ds)) Q) (s : Same F H) (q : Deeps K F ds xs) (ha : H a = none) : Q (.ref a) (upd H a (.tup xs)) :=
  p _ _ _ (Step.lay s ha) (by
    have : Deep K (upd F a (.tup xs)) (.tup ds) (.ref a) := ⟨a, xs, rfl, SqT.of upd_same, q.mono (Same.upd (s.free ha))⟩
    cases own <;> exact this)
theorem Post.same {F H : Hp} {Q : VK} {ds : List Dat} {v : V} (p : Post K W own F H (.ok (.tup ds)) Q) (s : Same F H) (q : Deep K F (.tup ds) v) : Q v H := p _ F H (Step.refl s) (by cases own <;> exact q)
theorem Post.lst {F H : Hp} {Q : VK} {ds : List Dat} {xs : List V} {a : Addr} (p : Post K W true F H (.ok (.lst ds)) Q) (s : Same F H) (q : Deeps K F ds xs) (ha : H a = none) : Q (.ref a) (upd H a (.lst xs)) :=
  p _ F _ (Step.grow s ha) ⟨a, xs, rfl, upd_same, s.free ha, ha, q⟩
theorem two_ints {g : Dat → Dat → M Dat} (hg : ∀ a b, (∃ i j, a = .int i ∧ b = .int j) ∨ g a b = stk) {x y : V} {H : Hp} {Q : VK} (h : rD2 K W own g x y H Q) : ∃ F i j, Same F H ∧ x = .int i ∧ y = .int j ∧ Post K W own F H (g (.int i) (.int j)) Q := by
  obtain ⟨F, a, b, s, qa, qb, p⟩ := h
  rcases hg a b with ⟨i, j, rfl, rfl⟩ | e
  · exact ⟨F, i, j, s, qa, qb, p⟩
  · rw [e] at p; exact p.stuck
theorem o_sub : Op2 K W own X (binaryOp .Sub) subD := op_sub.imp fun x y H Q h => by
  obtain ⟨F, i, j, s, e1, e2, p⟩ := two_ints (fun a b => by cases a <;> cases b <;> first | exact .inr rfl | exact .inl ⟨_, _, rfl, rfl⟩) h
  exact ⟨i, j, e1, e2, p.int s⟩
theorem o_mul : Op2 K W own X (binaryOp .Mult) mulD := op_mul.imp fun x y H Q h => by
  obtain ⟨F, i, j, s, e1, e2, p⟩ := two_ints (fun a b => by cases a <;> cases b <;> first | exact .inr rfl | exact .inl ⟨_, _, rfl, rfl⟩) h
  have p' : Post K W own F H (if (small64 i || small64 j) = true then .ok (.int (i * j)) else stk) Q := p
  by_cases hc : (small64 i || small64 j) = true
  · rw [if_pos hc] at p'
    refine ⟨i, j, e1, e2, ?_, p'.int s⟩
    unfold small64 at hc
    simp only [Bool.or_eq_true, Bool.and_eq_true, decide_eq_true_eq] at hc
    exact hc
  · rw [if_neg hc] at p'; exact p'.stuck
theorem log_small {j : Int} (h0 : 0 < j) (h1 : j < 18446744073709551616) : j.natAbs.log2 < 9000 := by
  have a : j.natAbs < 2 ^ 64 := by omega
  have b := (Nat.log2_lt (n := j.natAbs) (k := 64) (by omega)).mpr a
  omega
theorem op_fdiv64 : OpR X (binaryOp .FloorDiv) (rI (fun _ j => 0 < j ∧ j < 18446744073709551616) fun i j => .int (i / j)) := opI fun i j _ _ _ _ _ hc q => by
  obtain ⟨c1, c2⟩ := hc
  exact floordiv_int (by omega) (by rw [Int.fdiv_eq_ediv_of_nonneg i (by omega)]; exact q) (.inl (PyProof.noPylong_of_log2 (log_small c1 c2)))
theorem o_fdiv : Op2 K W own X (binaryOp .FloorDiv) fdivD := op_fdiv64.imp fun x y H Q h => by
  obtain ⟨F, i, j, s, e1, e2, p⟩ := two_ints (fun a b => by cases a <;> cases b <;> first | exact .inr rfl | exact .inl ⟨_, _, rfl, rfl⟩) h
  have p' : Post K W own F H (if (decide (0 < j) && decide (j < 18446744073709551616)) = true then .ok (.int (i / j)) else stk) Q := p
  by_cases hc : (decide (0 < j) && decide (j < 18446744073709551616)) = true
  · rw [if_pos hc] at p'
    simp only [Bool.and_eq_true, decide_eq_true_eq] at hc
    exact ⟨i, j, e1, e2, hc, p'.int s⟩
  · rw [if_neg hc] at p'; exact p'.stuck
theorem o_mod : Op2 K W own X (binaryOp .Mod) modD := op_mod.imp fun x y H Q h => by
  obtain ⟨F, i, j, s, e1, e2, p⟩ := two_ints (fun a b => by cases a <;> cases b <;> first | exact .inr rfl | exact .inl ⟨_, _, rfl, rfl⟩) h
  have p' : Post K W own F H (if 0 < j then .ok (.int (i % j)) else stk) Q := p
  by_cases hc : 0 < j
  · rw [if_pos hc] at p'
    exact ⟨i, j, e1, e2, hc, p'.int s⟩
  · rw [if_neg hc] at p'; exact p'.stuck
theorem o_pow : Op2 K W own X (binaryOp .Pow) powD := op_pow.imp fun x y H Q h => by
  obtain ⟨F, i, j, s, e1, e2, p⟩ := two_ints (fun a b => by cases a <;> cases b <;> first | exact .inr rfl | exact .inl ⟨_, _, rfl, rfl⟩) h
  have p' : Post K W own F H (if (decide (0 ≤ j) && decide (j ≤ 1000000) && decide (i.natAbs < 2 ^ 64)) = true then .ok (.int (i ^ j.toNat)) else stk) Q := p
  by_cases hc : (decide (0 ≤ j) && decide (j ≤ 1000000) && decide (i.natAbs < 2 ^ 64)) = true
  · rw [if_pos hc] at p'
    simp only [Bool.and_eq_true, decide_eq_true_eq] at hc
    exact ⟨i, j, e1, e2, ⟨hc.1.1, hc.1.2, hc.2⟩, p'.int s⟩
  · rw [if_neg hc] at p'; exact p'.stuck
theorem o_neg : UnR X (unaryOp .USub) (rD1 K W own negD) := un_neg.imp fun x H Q h => by
  obtain ⟨F, a, s, qa, p⟩ := h
  cases a with
  | int i => exact ⟨i, qa, Post.int (own := own) p s⟩
  | _ => exact Post.stuck p
theorem o_lt : Op2 K W own X (compareOp .Lt) ltD := op_lt.imp fun x y H Q h => by
  obtain ⟨F, i, j, s, e1, e2, p⟩ := two_ints (fun a b => by cases a <;> cases b <;> first | exact .inr rfl | exact .inl ⟨_, _, rfl, rfl⟩) h
  exact ⟨i, j, e1, e2, p.bl s⟩
theorem o_le : Op2 K W own X (compareOp .LtE) leD := op_le.imp fun x y H Q h => by
  obtain ⟨F, i, j, s, e1, e2, p⟩ := two_ints (fun a b => by cases a <;> cases b <;> first | exact .inr rfl | exact .inl ⟨_, _, rfl, rfl⟩) h
  exact ⟨i, j, e1, e2, p.bl s⟩
theorem o_gt : Op2 K W own X (compareOp .Gt) gtD := op_gt.imp fun x y H Q h => by
  obtain ⟨F, i, j, s, e1, e2, p⟩ := two_ints (fun a b => by cases a <;> cases b <;> first | exact .inr rfl | exact .inl ⟨_, _, rfl, rfl⟩) h
  exact ⟨i, j, e1, e2, p.bl s⟩
theorem o_ge : Op2 K W own X (compareOp .GtE) geD := op_ge.imp fun x y H Q h => by
  obtain ⟨F, i, j, s, e1, e2, p⟩ := two_ints (fun a b => by cases a <;> cases b <;> first | exact .inr rfl | exact .inl ⟨_, _, rfl, rfl⟩) h
  exact ⟨i, j, e1, e2, p.bl s⟩
theorem op_catL : OpR X (binaryOp .Add) (fun x y H Q => ∃ l b xs zs, x = .ref l ∧ y = .ref b ∧ SqL X.K H l xs ∧ SqL X.K H b zs ∧ xs.length + zs.length ≤ sizeLine ∧ ∀ p, H p = none → Q (.ref p) (upd H p (.lst (xs ++ zs)))) := by
  intro pins s σ H x y v u Q I rx ry h
  obtain ⟨l, b, xs, zs, rfl, rfl, hH, hB, hz, q⟩ := h
  cases rx
  cases ry
  obtain ⟨its, r, p1, hl⟩ := I.list hH
  obtain ⟨its2, r2, p2, hl2⟩ := I.list hB
  have z1 := r.length
  have z2 := r2.length
  obtain ⟨⟨cls, dd, data, sl⟩, ho, hc, n, hd⟩ := id p1.isList
  obtain ⟨⟨cls2, dd2, data2, sl2⟩, ho2, hc2, n2, hd2⟩ := id p2.isList
  simp only at hc hd hc2 hd2
  subst hc hd hc2 hd2
  refine concat_meets ⟨_, ho, rfl⟩ ⟨_, ho2, rfl⟩ noFill_list_add seq_list_add PySem.F.slot_list_add PySem.F.entry_list_add (PySem.F.args_list_add_2 _ _) (list_addW l b its.toArray its2.toArray n n2 dd dd2 sl sl2 (by simp only [List.size_toArray]; omega)) ⟨ho, ho2, ?_⟩
  have ea : its.toArray ++ its2.toArray = (its ++ its2).toArray := by simp
  rw [ea]
  exact ⟨.ref _, _, I.lnew (t' := s.toks) (r.append r2) (by rw [List.length_append]; omega), rfl, q _ I.fresh⟩
theorem op_cat3 : OpR X (binaryOp .Add) (fun x y H Q => ∃ a b xs ys, x = .ref a ∧ y = .ref b ∧ SqT X.K H a xs ∧ SqT X.K H b ys ∧ xs.length + ys.length ≤ sizeLine ∧ (xs = [] → Q (.ref b) H) ∧ (ys = [] → Q (.ref a) H) ∧ ∀ p, H p = none → Q (.ref p) (upd H p (.tup (xs ++ ys)))) := by
  intro pins s σ H x y v u Q I rx ry h
  obtain ⟨a, b, xs, ys, rfl, rfl, ha, hb, hz, q1, q2, q3⟩ := h
  by_cases hx : xs = []
  · subst hx
    cases rx
    cases ry
    obtain ⟨its, r1, p1, _⟩ := I.tuple ha
    obtain ⟨its2, r2, p2, _⟩ := I.tuple hb
    cases r1
    obtain ⟨⟨cls, dd, data, sl⟩, ho, hc, n, hd⟩ := id p1
    obtain ⟨⟨cls2, dd2, data2, sl2⟩, ho2, hc2, n2, hd2⟩ := id p2
    simp only at hc hd hc2 hd2
    subst hc hd hc2 hd2
    exact concat_meets ⟨_, ho, rfl⟩ ⟨_, ho2, rfl⟩ noFill_tuple_add seq_tuple_add PySem.F.slot_tuple_add PySem.F.entry_tuple_add (PySem.F.args_tuple_add_2 _ _)
      (tuple_addW0 a b #[] its2.toArray n n2 dd dd2 sl sl2 rfl) ⟨ho, ho2, ⟨.ref b, H, I, rfl, q1 rfl⟩⟩
  · exact op_catT pins s σ H _ _ v u Q I rx ry ⟨a, b, xs, ys, rfl, rfl, ha, hb, hx, hz, fun e => q2 e, fun _ p hp => q3 p hp⟩
theorem o_add (hK : X.K = K := by rfl) : Op2 K W true X (binaryOp .Add) addD := by
  subst hK
  refine (op_add.or (op_add_str.or (op_catL.or op_cat3))).imp fun x y H Q h => ?_
  obtain ⟨F, a, b, s, qa, qb, p⟩ := h
  cases a with
  | int i =>
    cases b with
    | int j => exact .inl ⟨i, j, qa, qb, p.int s⟩
    | _ => exact Post.stuck p
  | str z =>
    cases b with
    | str w =>
      have p' : Post X.K W true F H (if z.length + w.length ≤ sizeLine then .ok (.str (z ++ w)) else stk) Q := p
      by_cases hc : z.length + w.length ≤ sizeLine
      · rw [if_pos hc] at p'
        exact .inr (.inl ⟨z, w, qa, qb, hc, p'.str s⟩)
      · rw [if_neg hc] at p'; exact p'.stuck
    | _ => exact Post.stuck p
  | lst ds =>
    cases b with
    | lst es =>
      obtain ⟨a, xs, e1, t1, r1⟩ := qa
      obtain ⟨b, ys, e2, t2, r2⟩ := qb
      have p' : Post X.K W true F H (if ds.length + es.length ≤ sizeLine then .ok (.lst (ds ++ es)) else stk) Q := p
      by_cases hc : ds.length + es.length ≤ sizeLine
      · rw [if_pos hc] at p'
        exact .inr (.inr (.inl ⟨a, b, xs, ys, e1, e2, s.lst t1, s.lst t2, by rw [r1.length, r2.length]; exact hc, fun l hl => p'.lst s (r1.append r2) hl⟩))
      · rw [if_neg hc] at p'; exact p'.stuck
    | _ => exact Post.stuck p
  | tup ds =>
    cases b with
    | tup es =>
      obtain ⟨a, xs, e1, t1, r1⟩ := qa
      obtain ⟨b, ys, e2, t2, r2⟩ := qb
      have p' : Post X.K W true F H (if ds.length + es.length ≤ sizeLine then .ok (.tup (ds ++ es)) else stk) Q := p
      by_cases hc : ds.length + es.length ≤ sizeLine
      · rw [if_pos hc] at p'
        refine .inr (.inr (.inr ⟨a, b, xs, ys, e1, e2, s.tup t1, s.tup t2, by rw [r1.length, r2.length]; exact hc, fun e => ?_, fun e => ?_, fun l hl => p'.tup s (r1.append r2) hl⟩))
        · have z : ds = [] := by have := r1.length; rw [e] at this; exact List.length_eq_zero_iff.mp this.symm
          subst z
          exact p'.same s ⟨b, ys, rfl, t2, r2⟩
        · have z : es = [] := by have := r2.length; rw [e] at this; exact List.length_eq_zero_iff.mp this.symm
          subst z
          rw [List.append_nil] at p'
          exact p'.same s ⟨a, xs, rfl, t1, r1⟩
      · rw [if_neg hc] at p'; exact p'.stuck
    | _ => exact Post.stuck p
  | _ => exact Post.stuck p
theorem o_isN : Op2 K W own X (compareOp .Is) isND := op_isN.imp fun x y H Q h => by
  obtain ⟨F, a, b, s, qa, qb, p⟩ := h
  have key : ∀ {k : Bool}, isND a b = .ok (.bl k) → b = .non → (decide (x = V.non) = k) → y = V.non ∧ Q (.bl (decide (x = V.non))) H := fun {k} e1 e2 e3 => by
    subst e2
    rw [e1] at p
    rw [e3]
    exact ⟨qb, p.bl s⟩
  cases b with
  | non =>
    cases a with
    | non => exact key rfl rfl (by rw [show x = .non from qa]; rfl)
    | bl k => exact key rfl rfl (by rw [show x = .bl k from qa]; rfl)
    | int k => exact key rfl rfl (by rw [show x = .int k from qa]; rfl)
    | str k => exact key rfl rfl (by rw [show x = .str k from qa]; rfl)
    | tup ds => obtain ⟨l, xs, e, _⟩ := qa; exact key rfl rfl (by rw [e]; rfl)
    | lst ds => obtain ⟨l, xs, e, _⟩ := qa; exact key rfl rfl (by rw [e]; rfl)
    | ins C fs => obtain ⟨l, dx, xs, e, _⟩ := qa; exact key rfl rfl (by rw [e]; rfl)
    | dic ks => obtain ⟨l, xs, e, _⟩ := qa; exact key rfl rfl (by rw [e]; rfl)
  | _ => cases a <;> exact Post.stuck p
theorem o_notN : Op2 K W own X (compareOp .IsNot) notND := op_notN.imp fun x y H Q h => by
  obtain ⟨F, a, b, s, qa, qb, p⟩ := h
  have key : ∀ {k : Bool}, notND a b = .ok (.bl k) → b = .non → ((!decide (x = V.non)) = k) → y = V.non ∧ Q (.bl (!decide (x = V.non))) H := fun {k} e1 e2 e3 => by
    subst e2
    rw [e1] at p
    rw [e3]
    exact ⟨qb, p.bl s⟩
  cases b with
  | non =>
    cases a with
    | non => exact key rfl rfl (by rw [show x = .non from qa]; rfl)
    | bl k => exact key rfl rfl (by rw [show x = .bl k from qa]; rfl)
    | int k => exact key rfl rfl (by rw [show x = .int k from qa]; rfl)
    | str k => exact key rfl rfl (by rw [show x = .str k from qa]; rfl)
    | tup ds => obtain ⟨l, xs, e, _⟩ := qa; exact key rfl rfl (by rw [e]; rfl)
    | lst ds => obtain ⟨l, xs, e, _⟩ := qa; exact key rfl rfl (by rw [e]; rfl)
    | ins C fs => obtain ⟨l, dx, xs, e, _⟩ := qa; exact key rfl rfl (by rw [e]; rfl)
    | dic ks => obtain ⟨l, xs, e, _⟩ := qa; exact key rfl rfl (by rw [e]; rfl)
  | _ => cases a <;> exact Post.stuck p
theorem getI_at {F H : Hp} {Q : VK} {ds : List Dat} {xs : List V} {i : Int} (p : Post K W false F H (getI ds i) Q) (s : Same F H) (r : Deeps K F ds xs) : ∃ v, atI xs i = some v ∧ Q v H := by
  unfold getI at p
  cases e : atI ds i with
  | none => rw [e] at p; exact Post.stuck p
  | some d =>
    rw [e] at p
    unfold atI at e
    cases hj : ixN ds.length i with
    | none => rw [hj] at e; cases e
    | some j =>
      rw [hj] at e
      obtain ⟨v, e1, q⟩ := r.get (show ds[j]? = some d from e)
      refine ⟨v, ?_, p v F H (Step.refl s) q⟩
      unfold atI
      rw [r.length, hj]
      exact e1
theorem x_ix (hK : X.K = K := by rfl) : IxR X (rD2 K W false ixD) := by
  subst hK
  refine ix_seq.imp fun x y H Q h => ?_
  obtain ⟨F, a, b, s, qa, qb, p⟩ := h
  cases a with
  | lst ds =>
    cases b with
    | int i =>
      obtain ⟨a, xs, e1, t1, r1⟩ := qa
      obtain ⟨v, e2, q⟩ := getI_at p s r1
      exact .inl ⟨a, xs, i, v, e1, qb, s.lst t1, e2, q⟩
    | _ => exact Post.stuck p
  | tup ds =>
    cases b with
    | int i =>
      obtain ⟨a, xs, e1, t1, r1⟩ := qa
      obtain ⟨v, e2, q⟩ := getI_at p s r1
      exact .inr (.inl ⟨a, xs, i, v, e1, qb, s.tup t1, e2, q⟩)
    | _ => exact Post.stuck p
  | _ => exact Post.stuck p
theorem c_len (hK : X.K = K := by rfl) : CallD K W own X (.builtin "len") lenD := by
  subst hK
  refine call_len_seq.imp fun xs H Q h => ?_
  obtain ⟨F, ds, s, q, p⟩ := h
  match ds, q, p with
  | [.lst es], ⟨v, vs, e, ⟨a, ys, e1, t, r⟩, e2⟩, p =>
    refine ⟨a, ys, by rw [e, e1, show vs = [] from e2], .inl (s.lst t), ?_⟩
    rw [r.length]
    exact Post.int (own := own) p s
  | [.tup es], ⟨v, vs, e, ⟨a, ys, e1, t, r⟩, e2⟩, p =>
    refine ⟨a, ys, by rw [e, e1, show vs = [] from e2], .inr (s.tup t), ?_⟩
    rw [r.length]
    exact Post.int (own := own) p s
  | [], _, p => exact Post.stuck p
  | [.non], _, p => exact Post.stuck p
  | [.bl _], _, p => exact Post.stuck p
  | [.int _], _, p => exact Post.stuck p
  | [.str _], _, p => exact Post.stuck p
  | [.ins _ _], _, p => exact Post.stuck p
  | [.dic _], _, p => exact Post.stuck p
  | .non :: _ :: _, _, p => exact Post.stuck p
  | .bl _ :: _ :: _, _, p => exact Post.stuck p
  | .int _ :: _ :: _, _, p => exact Post.stuck p
  | .str _ :: _ :: _, _, p => exact Post.stuck p
  | .ins _ _ :: _ :: _, _, p => exact Post.stuck p
  | .dic _ :: _ :: _, _, p => exact Post.stuck p
  | .lst _ :: _ :: _, _, p => exact Post.stuck p
  | .tup _ :: _ :: _, _, p => exact Post.stuck p
end
end L2
namespace L2
open PySem PySem.Spec PyProof.Rows
section
variable {X : Cx} {K : PySem.W.Frag} {W : Wish} {own ro : Bool}
theorem one_arg {g : List Dat → M Dat} (hg : ∀ ds, (∃ d, ds = [d]) ∨ g ds = stk) {xs : List V} {H : Hp} {Q : VK} (h : rDL K W own g xs H Q) : ∃ F d x, Same F H ∧ xs = [x] ∧ Deep K F d x ∧ Post K W own F H (g [d]) Q := by
  obtain ⟨F, ds, s, q, p⟩ := h
  rcases hg ds with ⟨d, rfl⟩ | e
  · obtain ⟨v, vs, e, q1, e2⟩ := q
    exact ⟨F, d, v, s, by rw [e, show vs = [] from e2], q1, p⟩
  · rw [e] at p; exact p.stuck
theorem two_arg {g : List Dat → M Dat} (hg : ∀ ds, (∃ d, ds = [d]) ∨ (∃ d e, ds = [d, e]) ∨ g ds = stk) {xs : List V} {H : Hp} {Q : VK} (h : rDL K W own g xs H Q) : (∃ F d x, Same F H ∧ xs = [x] ∧ Deep K F d x ∧ Post K W own F H (g [d]) Q) ∨ ∃ F d e x y, Same F H ∧ xs = [x, y] ∧ Deep K F d x ∧ Deep K F e y ∧ Post K W own F H (g [d, e]) Q := by
  obtain ⟨F, ds, s, q, p⟩ := h
  rcases hg ds with ⟨d, rfl⟩ | ⟨d, e, rfl⟩ | e
  · obtain ⟨v, vs, e, q1, e2⟩ := q
    exact .inl ⟨F, d, v, s, by rw [e, show vs = [] from e2], q1, p⟩
  · obtain ⟨v, vs, e1, q1, w, ws, e2, q2, e3⟩ := q
    exact .inr ⟨F, d, e, v, w, s, by rw [e1, e2, show ws = [] from e3], q1, q2, p⟩
  · rw [e] at p; exact p.stuck
theorem bools_deep {F : Hp} : ∀ {ds : List Dat} {xs : List V} {bs : List Bool}, Deeps K F ds xs → boolsD ds = .ok bs → xs = bs.map V.bl
  | [], _, _, q, e => by cases e; exact q
  | d :: ds, _, bs, ⟨v, vs, e1, q, r⟩, e => by
    cases d with
    | bl b =>
      cases e2 : boolsD ds with
      | error x => simp only [boolsD, asB, bind_ok, e2, bind_er] at e; cases e
      | ok cs =>
        simp only [boolsD, asB, bind_ok, e2] at e
        cases e
        rw [e1, show v = .bl b from q, bools_deep r e2]
        rfl
    | _ => cases e
theorem boolsD_err : ∀ {ds : List Dat} {e : Err}, boolsD ds = .error e → e = .stuck
  | [], _, h => by cases h
  | d :: ds, e, h => by
    cases d with
    | bl b =>
      cases e2 : boolsD ds with
      | error x => simp only [boolsD, asB, bind_ok, e2, bind_er] at h; cases h; exact boolsD_err e2
      | ok cs => simp only [boolsD, asB, bind_ok, e2] at h; cases h
    | _ => cases h; rfl
theorem ints_deep {F : Hp} : ∀ {ds : List Dat} {xs : List V} {bs : List Int}, Deeps K F ds xs → intsD ds = .ok bs → xs = bs.map V.int
  | [], _, _, q, e => by cases e; exact q
  | d :: ds, _, bs, ⟨v, vs, e1, q, r⟩, e => by
    cases d with
    | int b =>
      cases e2 : intsD ds with
      | error x => simp only [intsD, asI, bind_ok, e2, bind_er] at e; cases e
      | ok cs =>
        simp only [intsD, asI, bind_ok, e2] at e
        cases e
        rw [e1, show v = .int b from q, ints_deep r e2]
        rfl
    | _ => cases e
theorem intsD_err : ∀ {ds : List Dat} {e : Err}, intsD ds = .error e → e = .stuck
  | [], _, h => by cases h
  | d :: ds, e, h => by
    cases d with
    | int b =>
      cases e2 : intsD ds with
      | error x => simp only [intsD, asI, bind_ok, e2, bind_er] at h; cases h; exact intsD_err e2
      | ok cs => simp only [intsD, asI, bind_ok, e2] at h; cases h
    | _ => cases h; rfl
theorem c_any (hc : X.calm = true) (hK : X.K = K := by rfl) : CallD K W own X (.builtin "any") anyD := by
  subst hK
  refine (call_any hc).imp fun xs H Q h => ?_
  obtain ⟨F, d, x, s, e, q, p⟩ := one_arg (fun ds => by match ds with | [d] => exact .inl ⟨d, rfl⟩ | [] => exact .inr rfl | a :: b :: c => exact .inr (by cases a <;> rfl)) h
  cases d with
  | lst ds =>
    obtain ⟨a, ys, e1, t, r⟩ := q
    have p' : Post X.K W own F H ((boolsD ds).bind fun bs => .ok (.bl (bs.any id))) Q := p
    cases eb : boolsD ds with
    | error z => rw [eb] at p'; have := boolsD_err eb; subst this; exact Post.stuck p'
    | ok bs =>
      rw [eb] at p'
      refine ⟨a, bs, by rw [e, e1], ?_, Post.bl (own := own) p' s⟩
      rw [← bools_deep r eb]
      exact s.lst t
  | _ => exact Post.stuck p
theorem c_list (hK : X.K = K := by rfl) : CallD K W true X (.type "list") listD := by
  subst hK
  refine call_list_of.imp fun xs H Q h => ?_
  obtain ⟨F, d, x, s, e, q, p⟩ := one_arg (fun ds => by match ds with | [d] => exact .inl ⟨d, rfl⟩ | [] => exact .inr rfl | a :: b :: c => exact .inr (by cases a <;> rfl)) h
  cases d with
  | lst ds =>
    obtain ⟨a, ys, e1, t, r⟩ := q
    exact ⟨a, ys, by rw [e, e1], .inl (s.lst t), fun l hl => Post.lst p s r hl⟩
  | tup ds =>
    obtain ⟨a, ys, e1, t, r⟩ := q
    exact ⟨a, ys, by rw [e, e1], .inr (s.tup t), fun l hl => Post.lst p s r hl⟩
  | _ => exact Post.stuck p
theorem c_int : CallD K W own X (.type "int") intD := call_int1.imp fun xs H Q h => by
  obtain ⟨F, d, x, s, e, q, p⟩ := one_arg (fun ds => by match ds with | [d] => exact .inl ⟨d, rfl⟩ | [] => exact .inr rfl | a :: b :: c => exact .inr (by cases a <;> rfl)) h
  cases d with
  | int i => exact .inl ⟨i, by rw [e, show x = .int i from q], Post.int (own := own) p s⟩
  | bl b => exact .inr ⟨b, by rw [e, show x = .bl b from q], Post.int (own := own) p s⟩
  | _ => exact Post.stuck p
theorem fold_max : ∀ (is : List Int) (i : Int), (is.foldl maxZ i = i ∨ is.foldl maxZ i ∈ is) ∧ i ≤ is.foldl maxZ i ∧ ∀ a ∈ is, a ≤ is.foldl maxZ i
  | [], i => ⟨.inl rfl, Int.le_refl _, fun _ h => nomatch h⟩
  | j :: is, i => by
    obtain ⟨h1, h2, h3⟩ := fold_max is (maxZ i j)
    have z : (maxZ i j = i ∨ maxZ i j = j) ∧ i ≤ maxZ i j ∧ j ≤ maxZ i j := by unfold maxZ; split <;> (refine ⟨?_, ?_, ?_⟩ <;> first | exact .inl rfl | exact .inr rfl | omega)
    rw [List.foldl_cons]
    refine ⟨?_, Int.le_trans z.2.1 h2, fun a ha => ?_⟩
    · rcases h1 with h1 | h1
      · rw [h1]
        rcases z.1 with z | z
        · exact .inl z
        · exact .inr (by rw [z]; exact List.mem_cons_self)
      · exact .inr (List.mem_cons_of_mem _ h1)
    · rcases List.mem_cons.mp ha with e | e
      · rw [e]; exact Int.le_trans z.2.2 h2
      · exact h3 a e
theorem fold_max_is {is : List Int} {i m : Int} (h1 : m ∈ i :: is) (h2 : ∀ a ∈ i :: is, a ≤ m) : is.foldl maxZ i = m := by
  obtain ⟨g1, g2, g3⟩ := fold_max is i
  have a1 : is.foldl maxZ i ≤ m := by
    rcases g1 with g | g
    · rw [g]; exact h2 i List.mem_cons_self
    · exact h2 _ (List.mem_cons_of_mem _ g)
  have a2 : m ≤ is.foldl maxZ i := by
    rcases List.mem_cons.mp h1 with e | e
    · rw [e]; exact g2
    · exact g3 m e
  omega
theorem call_maxL (hc : X.calm = true) : CallR X (.builtin "max") (fun xs H Q => ∃ a i is, xs = [.ref a] ∧ SqL X.K H a ((i :: is).map V.int) ∧ Q (.int (is.foldl maxZ i)) H) := by
  intro pins s σ H xs us Q I r h
  obtain ⟨a, i, is, rfl, hq, q⟩ := h
  obtain ⟨u, rfl, ru⟩ := r.one
  cases ru
  obtain ⟨its, rv, p, hz⟩ := I.list hq
  have hi := intsAre_of rv
  obtain ⟨xs, e⟩ := hi.allInts.items
  have hns : i :: is = xs.toList.map (·.1) := by rw [← hi.numsOf, ← nums_intItems, ← e]
  have hsz : 0 < xs.size := by
    have h3 := congrArg List.length hns
    simp at h3
    omega
  have hl := p.isList
  rw [e] at hl
  refine max_intList (I.ok.hd hc) hl hsz fun v h' tk hv hk => ?_
  obtain ⟨t, rfl⟩ := intItems_at hv
  obtain ⟨h1, h2⟩ := argBest_gt (numAt xs) (xs.size - 1)
  refine ⟨.int _, H, I.kept hk, ⟨t, rfl⟩, ?_⟩
  have := fold_max_is (is := is) (i := i) (m := numAt xs (argBest (fun i j => decide (numAt xs i > numAt xs j)) (xs.size - 1))) (by
      rw [hns, numAt_eq]; exact getD_mem (by rw [List.length_map, Array.length_toList]; omega)) (fun a ha => by
      rw [hns] at ha
      obtain ⟨j, hj, rfl⟩ := mem_getD ha
      rw [List.length_map, Array.length_toList] at hj
      rw [← numAt_eq]; exact h2 j (by omega))
  rw [← this]
  exact q
theorem c_max (hc : X.calm = true) (hK : X.K = K := by rfl) : CallD K W own X (.builtin "max") maxD := by
  subst hK
  refine ((call_max2 hc).or (call_maxL hc)).imp fun xs H Q h => ?_
  rcases two_arg (fun ds => by match ds with | [d] => exact .inl ⟨d, rfl⟩ | [d, e] => exact .inr (.inl ⟨d, e, rfl⟩) | [] => exact .inr (.inr rfl) | a :: b :: c :: d => exact .inr (.inr (by cases a <;> cases b <;> rfl))) h with ⟨F, d, x, s, e, q, p⟩ | ⟨F, d, d2, x, y, s, e, q, q2, p⟩
  · cases d with
    | lst ds =>
      obtain ⟨a, ys, e1, t, r⟩ := q
      have p' : Post X.K W own F H ((intsD ds).bind maxL) Q := p
      cases eb : intsD ds with
      | error z => rw [eb] at p'; have := intsD_err eb; subst this; exact Post.stuck p'
      | ok is =>
        rw [eb] at p'
        cases is with
        | nil => exact Post.stuck p'
        | cons i is =>
          refine .inr ⟨a, i, is, by rw [e, e1], ?_, Post.int (own := own) p' s⟩
          rw [← ints_deep r eb]
          exact s.lst t
    | _ => exact Post.stuck p
  · cases d with
    | int i =>
      cases d2 with
      | int j => exact .inl ⟨i, j, by rw [e, show x = .int i from q, show y = .int j from q2], Post.int (own := own) p s⟩
      | _ => exact Post.stuck p
    | _ => cases d2 <;> exact Post.stuck p
end
section
variable {X : Cx} {K : PySem.W.Frag} {W : Wish} {own ro : Bool}
theorem SqL.inj {pins : List (Addr × Obj)} {σ : St} {H : Hp} {s : Shared} {a : Addr} {xs ys : List V} (I : Inv X pins σ H s) (h : SqL X.K H a xs) (h' : SqL X.K H a ys) : xs = ys := by
  obtain ⟨i1, r1, p1, _⟩ := I.list h
  obtain ⟨i2, r2, p2, _⟩ := I.list h'
  obtain ⟨o, n, e, _, _, d⟩ := p1
  obtain ⟨o', n', e', _, _, d'⟩ := p2
  rw [e] at e'
  cases e'
  rw [d] at d'
  injection d' with d1 _
  have : i1 = i2 := by simpa using congrArg Array.toList d1
  subst this
  exact r1.inj r2
theorem SqT.inj {pins : List (Addr × Obj)} {σ : St} {H : Hp} {s : Shared} {a : Addr} {xs ys : List V} (I : Inv X pins σ H s) (h : SqT X.K H a xs) (h' : SqT X.K H a ys) : xs = ys := by
  obtain ⟨i1, r1, p1, _⟩ := I.tuple h
  obtain ⟨i2, r2, p2, _⟩ := I.tuple h'
  obtain ⟨o, e, _, n, d⟩ := p1
  obtain ⟨o', e', _, n', d'⟩ := p2
  rw [e] at e'
  cases e'
  rw [d] at d'
  injection d' with d1 _
  have : i1 = i2 := by simpa using congrArg Array.toList d1
  subst this
  exact r1.inj r2
theorem Deeps.all_eq {F : Hp} (e : Nat → Bool) : ∀ {ds es : List Dat}, ds.length = es.length → (∀ (j : Nat) a b, ds[j]? = some a → es[j]? = some b → e j = eqD a b) → (List.range ds.length).all e = eqDs ds es := by
  intro ds
  induction ds generalizing e with
  | nil => intro es h _; cases es with
    | nil => rfl
    | cons _ _ => simp at h
  | cons d ds ih =>
    intro es h q
    cases es with
    | nil => simp at h
    | cons b es =>
      rw [List.length_cons, List.range_succ_eq_map, List.all_cons, List.all_map, eqDs]
      rw [q 0 d b rfl rfl]
      congr 1
      exact ih (e ∘ Nat.succ) (by simpa using h) fun j x y hx hy => q (j + 1) x y (by simpa using hx) (by simpa using hy)
theorem eqDs_len : ∀ {ds es : List Dat}, ds.length ≠ es.length → eqDs ds es = false
  | [], [], h => absurd rfl h
  | [], _ :: _, _ => rfl
  | _ :: _, [], _ => rfl
  | d :: ds, e :: es, h => by
    rw [eqDs, eqDs_len (ds := ds) (es := es) (fun z => h (by simp [z])), Bool.and_false]
theorem eqDs_zip (e : Nat → Bool) : ∀ {ds es : List Dat}, (∀ (j : Nat) a b, ds[j]? = some a → es[j]? = some b → e j = eqD a b) → ((List.range (min ds.length es.length)).all e && ds.length == es.length) = eqDs ds es := by
  intro ds es q
  by_cases hl : ds.length = es.length
  · have e1 : min ds.length es.length = ds.length := by omega
    rw [e1, Deeps.all_eq (F := fun _ => none) e hl q, hl, beq_self_eq_true, Bool.and_true]
  · rw [eqDs_len hl]
    have : (ds.length == es.length) = false := by simpa using hl
    rw [this, Bool.and_false]
mutual
theorem eqD_refl : ∀ {d : Dat} {n : Nat}, okE d n = true → eqD d d = true
  | .non, _, _ => rfl
  | .bl b, _, _ => by simp [eqD]
  | .int i, _, _ => by simp [eqD]
  | .str x, _, _ => by simp [eqD]
  | .tup ds, 0, h => by simp [okE] at h
  | .tup ds, n + 1, h => by simp only [okE] at h; simp only [eqD]; exact eqDs_refl h
  | .lst ds, 0, h => by simp [okE] at h
  | .lst ds, n + 1, h => by simp only [okE] at h; simp only [eqD]; exact eqDs_refl h
  | .ins _ _, _, h => by simp [okE] at h
  | .dic _, _, h => by simp [okE] at h
theorem eqDs_refl : ∀ {ds : List Dat} {n : Nat}, okEs ds n = true → eqDs ds ds = true
  | [], _, _ => rfl
  | d :: ds, n, h => by
    simp only [okEs, Bool.and_eq_true] at h
    simp only [eqDs, eqD_refl h.1, eqDs_refl h.2, Bool.and_self]
end
theorem okEs_get : ∀ {ds : List Dat} {n i : Nat} {d : Dat}, okEs ds n = true → ds[i]? = some d → okE d n = true
  | [], _, _, _, _, h => by simp at h
  | _ :: _, _, 0, _, h, e => by
    simp only [okEs, Bool.and_eq_true] at h
    simp at e
    rw [← e]; exact h.1
  | _ :: _, _, i + 1, _, h, e => by
    simp only [okEs, Bool.and_eq_true] at h
    exact okEs_get h.2 (by simpa using e)
end
noncomputable def eqAtJ (ds es : List Dat) (j : Nat) : Bool := match ds[j]?, es[j]? with
  | some a, some b => eqD a b
  | _, _ => true
inductive Sh (s : Shared) : Dat → Value → Prop
  | non : Sh s .non .none
  | bl (b : Bool) : Sh s (.bl b) (.bool b)
  | int (i : Int) (t : Nat) : Sh s (.int i) (.int i t)
  | str (x : Str) (t : Nat) : Sh s (.str x) (.str x t)
  | tup {ds : List Dat} {l : Addr} {is : Array Value} (p : s.heap.IsTuple l is) : Sh s (.tup ds) (.ref l)
  | lst {ds : List Dat} {l : Addr} {is : Array Value} (p : s.heap.IsList l is) : Sh s (.lst ds) (.ref l)
noncomputable def sq : Dat → Dat → Bool
  | .tup _, .tup _ => true
  | .lst _, .lst _ => true
  | _, _ => false
theorem sq_inv {a b : Dat} (h : sq a b = true) : (∃ ds es, a = .tup ds ∧ b = .tup es) ∨ ∃ ds es, a = .lst ds ∧ b = .lst es := by
  unfold sq at h
  split at h
  · exact .inl ⟨_, _, rfl, rfl⟩
  · exact .inr ⟨_, _, rfl, rfl⟩
  · cases h
theorem eqAt_U {s : Shared} {a b : Dat} {u v : Value} {A : Around} (ha : Sh s a u) (hb : Sh s b v) (hu : A.units < cLine) : sq a b = true ∨ SeqAt.EqAt A s u v (eqD a b) := match ha, hb with
  | .non, .non => .inr (.same _)
  | .non, .bl b => .inr (.none_bool b)
  | .non, .int b t2 => .inr (.none_int b t2)
  | .non, .str b t2 => .inr (.none_str b t2)
  | .non, .tup q => .inr (.none_tuple q hu)
  | .non, .lst q => .inr (.none_list q hu)
  | .bl a, .non => .inr (.bool_none a)
  | .bl a, .bl b => .inr (.bool_bool a b)
  | .bl a, .int b t2 => .inr (.bool_int a b t2)
  | .bl a, .str b t2 => .inr (.bool_str a b t2)
  | .bl a, .tup q => .inr (.bool_tuple a q hu)
  | .bl a, .lst q => .inr (.bool_list a q hu)
  | .int a t, .non => .inr (.int_none a t)
  | .int a t, .bl b => .inr (.int_bool a t b)
  | .int a t, .int b t2 => .inr (.int_int a t b t2)
  | .int a t, .str b t2 => .inr (.int_str a t b t2)
  | .int a t, .tup q => .inr (.int_tuple a t q hu)
  | .int a t, .lst q => .inr (.int_list a t q hu)
  | .str a t, .non => .inr (.str_none a t)
  | .str a t, .bl b => .inr (.str_bool a t b)
  | .str a t, .int b t2 => .inr (.str_int a t b t2)
  | .str a t, .str b t2 => .inr (.str_str a t b t2)
  | .str a t, .tup q => .inr (.str_tuple a t q hu)
  | .str a t, .lst q => .inr (.str_list a t q hu)
  | .tup p, .non => .inr (.tuple_none p hu)
  | .tup p, .bl b => .inr (.tuple_bool b p hu)
  | .tup p, .int b t2 => .inr (.tuple_int b t2 p hu)
  | .tup p, .str b t2 => .inr (.tuple_str b t2 p hu)
  | .tup _, .tup _ => .inl rfl
  | .tup p, .lst q => .inr (.tuple_list p q hu)
  | .lst p, .non => .inr (.list_none p hu)
  | .lst p, .bl b => .inr (.list_bool b p hu)
  | .lst p, .int b t2 => .inr (.list_int b t2 p hu)
  | .lst p, .str b t2 => .inr (.list_str b t2 p hu)
  | .lst p, .tup q => .inr (.list_tuple p q hu)
  | .lst _, .lst _ => .inl rfl
theorem rcAt_U {s : Shared} {a b : Dat} {u v : Value} {A : Around} (ha : Sh s a u) (hb : Sh s b v) (hu : A.units < cLine) : sq a b = true ∨ SeqAt.RcAt A s u v (eqD a b) := match ha, hb with
  | .non, .non => .inr (.none_none)
  | .non, .bl b => .inr (.none_bool b)
  | .non, .int b t2 => .inr (.none_int b t2)
  | .non, .str b t2 => .inr (.none_str b t2)
  | .non, .tup q => .inr (.none_tuple q hu)
  | .non, .lst q => .inr (.none_list q hu)
  | .bl a, .non => .inr (.bool_none a)
  | .bl a, .bl b => .inr (.bool_bool a b)
  | .bl a, .int b t2 => .inr (.bool_int a b t2)
  | .bl a, .str b t2 => .inr (.bool_str a b t2)
  | .bl a, .tup q => .inr (.bool_tuple a q hu)
  | .bl a, .lst q => .inr (.bool_list a q hu)
  | .int a t, .non => .inr (.int_none a t)
  | .int a t, .bl b => .inr (.int_bool a t b)
  | .int a t, .int b t2 => .inr (.int_int a t b t2)
  | .int a t, .str b t2 => .inr (.int_str a t b t2)
  | .int a t, .tup q => .inr (.int_tuple a t q hu)
  | .int a t, .lst q => .inr (.int_list a t q hu)
  | .str a t, .non => .inr (.str_none a t)
  | .str a t, .bl b => .inr (.str_bool a t b)
  | .str a t, .int b t2 => .inr (.str_int a t b t2)
  | .str a t, .str b t2 => .inr (.str_str a t b t2)
  | .str a t, .tup q => .inr (.str_tuple a t q hu)
  | .str a t, .lst q => .inr (.str_list a t q hu)
  | .tup p, .non => .inr (.tuple_none p hu)
  | .tup p, .bl b => .inr (.tuple_bool b p hu)
  | .tup p, .int b t2 => .inr (.tuple_int b t2 p hu)
  | .tup p, .str b t2 => .inr (.tuple_str b t2 p hu)
  | .tup _, .tup _ => .inl rfl
  | .tup p, .lst q => .inr (.tuple_list p q hu)
  | .lst p, .non => .inr (.list_none p hu)
  | .lst p, .bl b => .inr (.list_bool b p hu)
  | .lst p, .int b t2 => .inr (.list_int b t2 p hu)
  | .lst p, .str b t2 => .inr (.list_str b t2 p hu)
  | .lst p, .tup q => .inr (.list_tuple p q hu)
  | .lst _, .lst _ => .inl rfl
theorem rcNeAt_U {s : Shared} {a b : Dat} {u v : Value} {A : Around} (ha : Sh s a u) (hb : Sh s b v) (hu : A.units < cLine) : sq a b = true ∨ SeqAt.RcNeAt A s u v (!eqD a b) := match ha, hb with
  | .non, .non => .inr (.none_none)
  | .non, .bl b => .inr (.none_bool b)
  | .non, .int b t2 => .inr (.none_int b t2)
  | .non, .str b t2 => .inr (.none_str b t2)
  | .non, .tup q => .inr (.none_tuple q hu)
  | .non, .lst q => .inr (.none_list q hu)
  | .bl a, .non => .inr (.bool_none a)
  | .bl a, .bl b => .inr (.bool_bool a b)
  | .bl a, .int b t2 => .inr (.bool_int a b t2)
  | .bl a, .str b t2 => .inr (.bool_str a b t2)
  | .bl a, .tup q => .inr (.bool_tuple a q hu)
  | .bl a, .lst q => .inr (.bool_list a q hu)
  | .int a t, .non => .inr (.int_none a t)
  | .int a t, .bl b => .inr (.int_bool a t b)
  | .int a t, .int b t2 => .inr (.int_int a t b t2)
  | .int a t, .str b t2 => .inr (.int_str a t b t2)
  | .int a t, .tup q => .inr (.int_tuple a t q hu)
  | .int a t, .lst q => .inr (.int_list a t q hu)
  | .str a t, .non => .inr (.str_none a t)
  | .str a t, .bl b => .inr (.str_bool a t b)
  | .str a t, .int b t2 => .inr (.str_int a t b t2)
  | .str a t, .str b t2 => .inr (.str_str a t b t2)
  | .str a t, .tup q => .inr (.str_tuple a t q hu)
  | .str a t, .lst q => .inr (.str_list a t q hu)
  | .tup p, .non => .inr (.tuple_none p hu)
  | .tup p, .bl b => .inr (.tuple_bool b p hu)
  | .tup p, .int b t2 => .inr (.tuple_int b t2 p hu)
  | .tup p, .str b t2 => .inr (.tuple_str b t2 p hu)
  | .tup _, .tup _ => .inl rfl
  | .tup p, .lst q => .inr (.tuple_list p q hu)
  | .lst p, .non => .inr (.list_none p hu)
  | .lst p, .bl b => .inr (.list_bool b p hu)
  | .lst p, .int b t2 => .inr (.list_int b t2 p hu)
  | .lst p, .str b t2 => .inr (.list_str b t2 p hu)
  | .lst p, .tup q => .inr (.list_tuple p q hu)
  | .lst _, .lst _ => .inl rfl
section
variable {X : Cx} {pins : List (Addr × Obj)} {σ : St} {F H : Hp} {s : Shared}
theorem sh_of (I : Inv X pins σ H s) (hF : Same F H) {d : Dat} {x : V} {u : Value} {n : Nat} (o : okE d n = true) (q : Deep X.K F d x) (r : RelV x u) : Sh s d u := by
  cases d with
  | non => cases (show x = .non from q); cases r; exact .non
  | bl b => cases (show x = .bl b from q); cases r; exact .bl b
  | int i => cases (show x = .int i from q); obtain ⟨t, rfl⟩ := r; exact .int i t
  | str y => cases (show x = .str y from q); obtain ⟨t, rfl⟩ := r; exact .str y t
  | tup ds =>
    obtain ⟨l, xs, e, t, _⟩ := q
    subst e
    cases r
    obtain ⟨is, _, p, _⟩ := I.tuple (hF.tup t)
    exact .tup (show s.heap.IsTuple l is.toArray from p)
  | lst ds =>
    obtain ⟨l, xs, e, t, _⟩ := q
    subst e
    cases r
    obtain ⟨is, _, p, _⟩ := I.list (hF.lst t)
    exact .lst p.isList
  | _ => simp [okE] at o
theorem deeps_inj {n : Nat} (ih : ∀ (d e : Dat) {v : V}, Deep X.K F d v → Deep X.K F e v → okE d n = true → okE e n = true → d = e) : ∀ (ds es : List Dat) {xs : List V}, Deeps X.K F ds xs → Deeps X.K F es xs → okEs ds n = true → okEs es n = true → ds = es
  | [], [], _, _, _, _, _ => rfl
  | [], _ :: _, _, q, ⟨_, _, e, _⟩, _, _ => by rw [show _ = [] from q] at e; cases e
  | _ :: _, [], _, ⟨_, _, e, _⟩, q, _, _ => by rw [show _ = [] from q] at e; cases e
  | d :: ds, e :: es, _, ⟨v, vs, e1, q1, r1⟩, ⟨w, ws, e2, q2, r2⟩, o1, o2 => by
    rw [e1] at e2
    cases e2
    simp only [okEs, Bool.and_eq_true] at o1 o2
    rw [ih d e q1 q2 o1.1 o2.1, deeps_inj ih ds es r1 r2 o1.2 o2.2]
theorem deep_one {d e : Dat} {v : V} {n : Nat} (hd : sq d d = false) (q : Deep X.K F d v) (r : Deep X.K F e v) (o1 : okE d n = true) (o2 : okE e n = true) : d = e := by
  cases d <;> first | (cases hd; done) | (simp [okE] at o1; done) | (simp only [Deep] at q; subst q)
  all_goals cases e <;> first | (simp [okE] at o2; done) | (simp only [Deep] at r; first | (obtain ⟨_, _, z, _⟩ := r; cases z; done) | (cases r <;> rfl))
theorem deep_inj (I : Inv X pins σ H s) (hF : Same F H) : ∀ (n : Nat) (d e : Dat) {v : V}, Deep X.K F d v → Deep X.K F e v → okE d n = true → okE e n = true → d = e
  | n, .tup ds, e, v, ⟨l, xs, e1, h1, r1⟩, r, o1, o2 => by
    subst e1
    cases n with
    | zero => simp [okE] at o1
    | succ n =>
      cases e with
      | tup es =>
        obtain ⟨l2, ys, e2, h2, r2⟩ := r
        cases e2
        cases SqT.inj I (hF.tup h1) (hF.tup h2)
        rw [deeps_inj (deep_inj I hF n) _ _ r1 r2 (by simpa only [okE] using o1) (by simpa only [okE] using o2)]
      | lst es =>
        obtain ⟨l2, ys, e2, h2, r2⟩ := r
        cases e2
        obtain ⟨i1, _, p1, _⟩ := I.list (hF.lst h2)
        obtain ⟨i2, _, p2, _⟩ := I.tuple (hF.tup h1)
        exact absurd rfl (SeqAt.ne_of_list_tuple p1.isList (show s.heap.IsTuple l i2.toArray from p2))
      | _ => first | (simp [okE] at o2; done) | (simp only [Deep] at r; cases r)
  | n, .lst ds, e, v, ⟨l, xs, e1, h1, r1⟩, r, o1, o2 => by
    subst e1
    cases n with
    | zero => simp [okE] at o1
    | succ n =>
      cases e with
      | lst es =>
        obtain ⟨l2, ys, e2, h2, r2⟩ := r
        cases e2
        cases SqL.inj I (hF.lst h1) (hF.lst h2)
        rw [deeps_inj (deep_inj I hF n) _ _ r1 r2 (by simpa only [okE] using o1) (by simpa only [okE] using o2)]
      | tup es =>
        obtain ⟨l2, ys, e2, h2, r2⟩ := r
        cases e2
        obtain ⟨i1, _, p1, _⟩ := I.list (hF.lst h1)
        obtain ⟨i2, _, p2, _⟩ := I.tuple (hF.tup h2)
        exact absurd rfl (SeqAt.ne_of_list_tuple p1.isList (show s.heap.IsTuple l i2.toArray from p2))
      | _ => first | (simp [okE] at o2; done) | (simp only [Deep] at r; cases r)
  | _, .non, _, _, q, r, o1, o2 => deep_one rfl q r o1 o2
  | _, .bl _, _, _, q, r, o1, o2 => deep_one rfl q r o1 o2
  | _, .int _, _, _, q, r, o1, o2 => deep_one rfl q r o1 o2
  | _, .str _, _, _, q, r, o1, o2 => deep_one rfl q r o1 o2
  | _, .ins _ _, _, _, _, _, o1, _ => by simp [okE] at o1
  | _, .dic _, _, _, _, _, o1, _ => by simp [okE] at o1
termination_by n => n
theorem rcAt_S {a b : Dat} {x y : V} {u v : Value} {A : Around} (I : Inv X pins σ H s) (hF : Same F H) (hs : sq a b = true) (qa : Deep X.K F a x) (qb : Deep X.K F b y) (ra : RelV x u) (rb : RelV y v) (hu : A.units < cLine)
    (ih : ∀ (ds es : List Dat) (j : Nat) (d1 d2 : Dat) (x y : V) (u v : Value), (a = .tup ds ∧ b = .tup es ∨ a = .lst ds ∧ b = .lst es) → ds[j]? = some d1 → es[j]? = some d2 → Deep X.K F d1 x → Deep X.K F d2 y → RelV x u → RelV y v → SeqAt.EqAt A.in1 s u v (eqD d1 d2)) : SeqAt.RcAt A s u v (eqD a b) := by
  rcases sq_inv hs with ⟨ds, es, rfl, rfl⟩ | ⟨ds, es, rfl, rfl⟩
  · skip
    obtain ⟨l1, xs, e1, h1, r1⟩ := qa
    subst e1
    cases ra
    obtain ⟨is, w1, p1, _⟩ := I.tuple (hF.tup h1)
    obtain ⟨l2, ys, e2, h2, r2⟩ := qb
    subst e2
    cases rb
    obtain ⟨js, w2, p2, _⟩ := I.tuple (hF.tup h2)
    have z1 := w1.length
    have z2 := w2.length
    have y1 := r1.length
    have y2 := r2.length
    have q := SeqAt.RcAt.tuples (A := A) (e := eqAtJ ds es) (show s.heap.IsTuple l1 is.toArray from p1) (show s.heap.IsTuple l2 js.toArray from p2) hu (fun j h1 h2 => by
      obtain ⟨x', f1, g1⟩ := w1.atA h1
      obtain ⟨y', f2, g2⟩ := w2.atA h2
      obtain ⟨d1, k1, m1⟩ := r1.at f1
      obtain ⟨d2, k2, m2⟩ := r2.at f2
      rw [show eqAtJ ds es j = eqD d1 d2 by simp only [eqAtJ, k1, k2]]
      exact ih ds es j d1 d2 x' y' _ _ (.inl ⟨rfl, rfl⟩) k1 k2 m1 m2 g1 g2)
    rw [show is.toArray.size = ds.length by simp; omega, show js.toArray.size = es.length by simp; omega, eqDs_zip _ (fun j a b h1 h2 => by simp only [eqAtJ, h1, h2])] at q
    exact q
  · skip
    obtain ⟨l1, xs, e1, h1, r1⟩ := qa
    subst e1
    cases ra
    obtain ⟨is, w1, p1, _⟩ := I.list (hF.lst h1)
    obtain ⟨l2, ys, e2, h2, r2⟩ := qb
    subst e2
    cases rb
    obtain ⟨js, w2, p2, _⟩ := I.list (hF.lst h2)
    have z1 := w1.length
    have z2 := w2.length
    have y1 := r1.length
    have y2 := r2.length
    by_cases hl : ds.length = es.length
    · have q := SeqAt.RcAt.lists (A := A) (e := eqAtJ ds es) p1.isList p2.isList (by simp; omega) hu (fun j h1 h2 => by
      obtain ⟨x', f1, g1⟩ := w1.atA h1
      obtain ⟨y', f2, g2⟩ := w2.atA h2
      obtain ⟨d1, k1, m1⟩ := r1.at f1
      obtain ⟨d2, k2, m2⟩ := r2.at f2
      rw [show eqAtJ ds es j = eqD d1 d2 by simp only [eqAtJ, k1, k2]]
      exact ih ds es j d1 d2 x' y' _ _ (.inr ⟨rfl, rfl⟩) k1 k2 m1 m2 g1 g2)
      rw [show is.toArray.size = ds.length by simp; omega, Deeps.all_eq (F := F) _ hl (fun j a b h1 h2 => by simp only [eqAtJ, h1, h2])] at q
      exact q
    · rw [show eqD (.lst ds) (.lst es) = false from eqDs_len hl]
      exact SeqAt.RcAt.lists_lengths (A := A) p1.isList p2.isList (by simp; omega) hu
theorem rcNeAt_S {a b : Dat} {x y : V} {u v : Value} {A : Around} (I : Inv X pins σ H s) (hF : Same F H) (hs : sq a b = true) (qa : Deep X.K F a x) (qb : Deep X.K F b y) (ra : RelV x u) (rb : RelV y v) (hu : A.units < cLine)
    (ih : ∀ (ds es : List Dat) (j : Nat) (d1 d2 : Dat) (x y : V) (u v : Value), (a = .tup ds ∧ b = .tup es ∨ a = .lst ds ∧ b = .lst es) → ds[j]? = some d1 → es[j]? = some d2 → Deep X.K F d1 x → Deep X.K F d2 y → RelV x u → RelV y v → SeqAt.EqAt A.in1 s u v (eqD d1 d2)) : SeqAt.RcNeAt A s u v (!eqD a b) := by
  rcases sq_inv hs with ⟨ds, es, rfl, rfl⟩ | ⟨ds, es, rfl, rfl⟩
  · skip
    obtain ⟨l1, xs, e1, h1, r1⟩ := qa
    subst e1
    cases ra
    obtain ⟨is, w1, p1, _⟩ := I.tuple (hF.tup h1)
    obtain ⟨l2, ys, e2, h2, r2⟩ := qb
    subst e2
    cases rb
    obtain ⟨js, w2, p2, _⟩ := I.tuple (hF.tup h2)
    have z1 := w1.length
    have z2 := w2.length
    have y1 := r1.length
    have y2 := r2.length
    have q := SeqAt.RcNeAt.tuples (A := A) (e := eqAtJ ds es) (show s.heap.IsTuple l1 is.toArray from p1) (show s.heap.IsTuple l2 js.toArray from p2) hu (fun j h1 h2 => by
      obtain ⟨x', f1, g1⟩ := w1.atA h1
      obtain ⟨y', f2, g2⟩ := w2.atA h2
      obtain ⟨d1, k1, m1⟩ := r1.at f1
      obtain ⟨d2, k2, m2⟩ := r2.at f2
      rw [show eqAtJ ds es j = eqD d1 d2 by simp only [eqAtJ, k1, k2]]
      exact ih ds es j d1 d2 x' y' _ _ (.inl ⟨rfl, rfl⟩) k1 k2 m1 m2 g1 g2)
    rw [show is.toArray.size = ds.length by simp; omega, show js.toArray.size = es.length by simp; omega, eqDs_zip _ (fun j a b h1 h2 => by simp only [eqAtJ, h1, h2])] at q
    exact q
  · skip
    obtain ⟨l1, xs, e1, h1, r1⟩ := qa
    subst e1
    cases ra
    obtain ⟨is, w1, p1, _⟩ := I.list (hF.lst h1)
    obtain ⟨l2, ys, e2, h2, r2⟩ := qb
    subst e2
    cases rb
    obtain ⟨js, w2, p2, _⟩ := I.list (hF.lst h2)
    have z1 := w1.length
    have z2 := w2.length
    have y1 := r1.length
    have y2 := r2.length
    by_cases hl : ds.length = es.length
    · have q := SeqAt.RcNeAt.lists (A := A) (e := eqAtJ ds es) p1.isList p2.isList (by simp; omega) hu (fun j h1 h2 => by
      obtain ⟨x', f1, g1⟩ := w1.atA h1
      obtain ⟨y', f2, g2⟩ := w2.atA h2
      obtain ⟨d1, k1, m1⟩ := r1.at f1
      obtain ⟨d2, k2, m2⟩ := r2.at f2
      rw [show eqAtJ ds es j = eqD d1 d2 by simp only [eqAtJ, k1, k2]]
      exact ih ds es j d1 d2 x' y' _ _ (.inr ⟨rfl, rfl⟩) k1 k2 m1 m2 g1 g2)
      rw [show is.toArray.size = ds.length by simp; omega, Deeps.all_eq (F := F) _ hl (fun j a b h1 h2 => by simp only [eqAtJ, h1, h2])] at q
      exact q
    · rw [show eqD (.lst ds) (.lst es) = false from eqDs_len hl]
      exact SeqAt.RcNeAt.lists_lengths (A := A) p1.isList p2.isList (by simp; omega) hu
theorem ok_sub {a b d1 d2 : Dat} {n j : Nat} {ds es : List Dat} (oa : okE a n = true) (ob : okE b n = true) (h : a = .tup ds ∧ b = .tup es ∨ a = .lst ds ∧ b = .lst es) (k1 : ds[j]? = some d1) (k2 : es[j]? = some d2) : ∃ m, n = m + 1 ∧ okE d1 m = true ∧ okE d2 m = true := by
  cases n with
  | zero => rcases h with ⟨rfl, rfl⟩ | ⟨rfl, rfl⟩ <;> simp [okE] at oa
  | succ m => exact ⟨m, rfl, by rcases h with ⟨rfl, rfl⟩ | ⟨rfl, rfl⟩ <;> simp only [okE] at oa ob <;> exact ⟨okEs_get oa k1, okEs_get ob k2⟩⟩
theorem eqAt_N (I : Inv X pins σ H s) (hF : Same F H) : ∀ (n : Nat) (a b : Dat) {x y : V} {u v : Value} {A : Around}, okE a n = true → okE b n = true → Deep X.K F a x → Deep X.K F b y → RelV x u → RelV y v → A.units + n < cLine → SeqAt.EqAt A s u v (eqD a b) := by
  intro n
  induction n with
  | zero =>
    intro a b x y u v A oa ob qa qb ra rb hu
    refine (eqAt_U (sh_of I hF oa qa ra) (sh_of I hF ob qb rb) (by omega)).resolve_left fun h => ?_
    rcases sq_inv h with ⟨ds, es, rfl, rfl⟩ | ⟨ds, es, rfl, rfl⟩ <;> simp [okE] at oa
  | succ n ih =>
    intro a b x y u v A oa ob qa qb ra rb hu
    rcases eqAt_U (A := A) (sh_of I hF oa qa ra) (sh_of I hF ob qb rb) (by omega) with h | h
    · by_cases hab : x = y
      · subst hab
        cases (show a = b from deep_inj I hF (n + 1) a b qa qb oa ob)
        rw [eqD_refl oa]
        rcases sq_inv h with ⟨ds, es, rfl, _⟩ | ⟨ds, es, rfl, _⟩ <;> (obtain ⟨l1, xs, e1, _⟩ := qa; subst e1; cases ra; cases rb; exact SeqAt.EqAt.same _)
      · have q := rcAt_S (A := A) I hF h qa qb ra rb (by omega) fun ds es j d1 d2 x' y' u' v' hs k1 k2 m1 m2 g1 g2 => by
          obtain ⟨m, e, o1, o2⟩ := ok_sub oa ob hs k1 k2
          cases e
          exact ih d1 d2 o1 o2 m1 m2 g1 g2 (by show A.units + 1 + n < cLine; omega)
        rcases sq_inv h with ⟨ds, es, rfl, rfl⟩ | ⟨ds, es, rfl, rfl⟩ <;> (obtain ⟨l1, xs, e1, _⟩ := qa; obtain ⟨l2, ys, e2, _⟩ := qb; subst e1; subst e2; cases ra; cases rb; exact SeqAt.EqAt.of_refs (fun z => hab (by rw [z])) q)
    · exact h
theorem eqAt_D (I : Inv X pins σ H s) (hF : Same F H) (a b : Dat) {n : Nat} {x y : V} {u v : Value} {A : Around} (oa : okE a n = true) (ob : okE b n = true) (qa : Deep X.K F a x) (qb : Deep X.K F b y) (ra : RelV x u) (rb : RelV y v) (hu : A.units + n < cLine) : SeqAt.EqAt A s u v (eqD a b) := eqAt_N I hF n a b oa ob qa qb ra rb hu
theorem eqAt_I (I : Inv X pins σ H s) (hF : Same F H) {a b : Dat} {n : Nat} {A : Around} (oa : okE a n = true) (ob : okE b n = true) (hu : A.units + n < cLine) (ds es : List Dat) (j : Nat) (d1 d2 : Dat) (x y : V) (u v : Value) (hs : a = .tup ds ∧ b = .tup es ∨ a = .lst ds ∧ b = .lst es) (k1 : ds[j]? = some d1) (k2 : es[j]? = some d2) (m1 : Deep X.K F d1 x) (m2 : Deep X.K F d2 y) (g1 : RelV x u) (g2 : RelV y v) : SeqAt.EqAt A.in1 s u v (eqD d1 d2) := by
  obtain ⟨m, rfl, o1, o2⟩ := ok_sub oa ob hs k1 k2
  exact eqAt_D I hF d1 d2 o1 o2 m1 m2 g1 g2 (by show A.units + 1 + m < cLine; omega)
theorem rcAt_D (I : Inv X pins σ H s) (hF : Same F H) (a b : Dat) {n : Nat} {x y : V} {u v : Value} {A : Around} (oa : okE a n = true) (ob : okE b n = true) (qa : Deep X.K F a x) (qb : Deep X.K F b y) (ra : RelV x u) (rb : RelV y v) (hu : A.units + n < cLine) : SeqAt.RcAt A s u v (eqD a b) :=
  (rcAt_U (sh_of I hF oa qa ra) (sh_of I hF ob qb rb) (by omega)).elim (fun h => rcAt_S I hF h qa qb ra rb (by omega) (eqAt_I I hF oa ob hu)) id
theorem rcNeAt_D (I : Inv X pins σ H s) (hF : Same F H) (a b : Dat) {n : Nat} {x y : V} {u v : Value} {A : Around} (oa : okE a n = true) (ob : okE b n = true) (qa : Deep X.K F a x) (qb : Deep X.K F b y) (ra : RelV x u) (rb : RelV y v) (hu : A.units + n < cLine) : SeqAt.RcNeAt A s u v (!eqD a b) :=
  (rcNeAt_U (sh_of I hF oa qa ra) (sh_of I hF ob qb rb) (by omega)).elim (fun h => rcNeAt_S I hF h qa qb ra rb (by omega) (eqAt_I I hF oa ob hu)) id
end
section
variable {X : Cx} {K : PySem.W.Frag} {W : Wish} {own ro : Bool}
theorem Post.blS {F H : Hp} {Q : VK} {pins : List (Addr × Obj)} {σ : St} {s : Shared} {b : Bool} (p : Post K W own F H (.ok (.bl b)) Q) (s1 : Same F H) (I : Inv X pins σ H s) : EP X pins σ Q (.bool b) s := ⟨.bl b, H, I, rfl, p.bl s1⟩
theorem o_eq (hu : X.A.units + 64 < cLine) (hK : X.K = K := by rfl) : Op2 K W own X (compareOp .Eq) eqM := by
  subst hK
  intro pins s σ H x y v u Q I rx ry h
  obtain ⟨F, a, b, s1, qa, qb, p⟩ := h
  unfold eqM at p
  by_cases hc : (okE a 40 && okE b 40) = true
  · rw [if_pos hc] at p
    simp only [Bool.and_eq_true] at hc
    exact rcAt_D I s1 a b hc.1 hc.2 qa qb rx ry (by omega) _ _ _ _ (p.blS s1 I)
  · rw [if_neg hc] at p; exact p.stuck
theorem o_ne (hu : X.A.units + 64 < cLine) (hK : X.K = K := by rfl) : Op2 K W own X (compareOp .NotEq) neM := by
  subst hK
  intro pins s σ H x y v u Q I rx ry h
  obtain ⟨F, a, b, s1, qa, qb, p⟩ := h
  unfold neM at p
  by_cases hc : (okE a 40 && okE b 40) = true
  · rw [if_pos hc] at p
    simp only [Bool.and_eq_true] at hc
    exact rcNeAt_D I s1 a b hc.1 hc.2 qa qb rx ry (by omega) _ _ _ _ (p.blS s1 I)
  · rw [if_neg hc] at p; exact p.stuck
end
end L2
namespace L2
open PySem PySem.Spec PyProof.Rows
section
variable {X : Cx} {K : PySem.W.Frag} {W : Wish} {own ro : Bool} {e a b c : Expr} {es : List Expr} {x : Str} {pos p : Pos} {f fa fb fc : Env' → M Dat} {fr : Env' → M (List Dat)} {ft : Env' → M Bool}
theorem dts_nil : PTs X [] (tDT K W fYes) := fun pins s σ H Q I h => pts_nil pins s σ H Q I (by
  obtain ⟨F, ρ, r, s1, q⟩ := h
  exact q F H (Step.refl s1))
theorem dgs_nil : PGs X [] (gNames []) := pgs_nil
theorem dgs_cons {i : Nat} {is : List Nat} (hN : X.N.Nodup) (h2 : PGs X es (gNames is)) (hi : X.N[i]? = some x := by rfl) (hx : Loc X.env.scope x := by first | exact Or.inl rfl | exact Or.inr rfl) (hf : X.fn x = true ∨ X.env.scope.names.lookup x = some .local := by first | exact .inl rfl | exact .inr rfl | assumption)
    (hs : (assignEach (.Name x p :: es) X.env).map (·.2) = assign (.Name x p) X.env :: (assignEach es X.env).map (·.2) := by rfl) : PGs X (.Name x p :: es) (gNames (i :: is)) := pgs_cons (pg_name hN hi hx hf) h2 hs
theorem dg_tp {k : Nat} {is : List Nat} (hc : X.calm = true) (h : PGs X es (gNames is)) (hn : (assignEach es X.env).length = is.length := by rfl) (hst : (assignEach es X.env).findIdx? (·.1) = none := by rfl) (hK : X.K = K := by rfl) : DG K X (.Tuple es k pos) (.tp is) := by
  subst hK
  exact pg_tup hc h hn hst
theorem leaves_names {ix : List (Option Nat)} : ∀ {is : List Nat}, (∀ i ∈ is, ix[i]? = some none) → ∀ vs σ' H' (Q : St → Hp → Prop), gNames is vs σ' H' Q → gNames is vs σ' H' fun σ2 H2 => Q σ2 H2 ∧ ∀ (i : Nat) v, σ'[i]? = some (some v) → (∃ j, ix[i]? = some (some j)) → σ2[i]? = some (some v)
  | [], _, vs, σ', H', Q, ⟨e, q⟩ => ⟨e, q, fun _ _ h _ => h⟩
  | i :: is, hs, vs, σ', H', Q, ⟨v, r, e, q⟩ => by
    refine ⟨v, r, e, ?_⟩
    have := leaves_names (ix := ix) (is := is) (fun j hj => hs j (by simp [hj])) r (σ'.set i (some v)) H' Q q
    have mono : ∀ {is : List Nat} {vs : List V} {σ1 : St} {H1 : Hp} {Q Q' : St → Hp → Prop}, (∀ σ2 H2, Q σ2 H2 → Q' σ2 H2) → gNames is vs σ1 H1 Q → gNames is vs σ1 H1 Q' := by
      intro is
      induction is with
      | nil => rintro vs σ1 H1 Q Q' m ⟨e, q⟩; exact ⟨e, m _ _ q⟩
      | cons i is ih => rintro vs σ1 H1 Q Q' m ⟨v, r, e, q⟩; exact ⟨v, r, e, ih m q⟩
    refine mono (fun σ2 H2 ⟨q1, q2⟩ => ⟨q1, fun j w h ⟨l, hl⟩ => q2 j w ?_ ⟨l, hl⟩⟩) this
    have : i ≠ j := by rintro rfl; rw [hs i (by simp)] at hl; cases hl
    rw [List.getElem?_set_ne this]
    exact h
theorem leaves_tp {ix : List (Option Nat)} {is : List Nat} (h : ∀ i ∈ is, ix[i]? = some none) : Leaves ix (gP K (.tp is)) := fun x σ' H' Q ⟨a, xs, e, t, l, q⟩ => ⟨a, xs, e, t, l, leaves_names h xs σ' H' Q q⟩
theorem dgc_nm {N' : List Str} {sc : Scope} {L : Addr} {cs : List (Str × Addr)} {s : Shared} {H : Hp} {fp : List Addr} {i : Nat} (hN : N'.Nodup) (hi : N'[i]? = some x := by rfl) (hx : Loc (cxComp X N' sc L cs s H fp).env.scope x := by first | exact Or.inl rfl | exact Or.inr rfl)
    (hf : (cxComp X N' sc L cs s H fp).fn x = true ∨ (cxComp X N' sc L cs s H fp).env.scope.names.lookup x = some .local := by first | exact .inl rfl | exact .inr rfl | assumption) : DG K (cxComp X N' sc L cs s H fp) (.Name x pos) (.nm i) := pg_c hN hi hx hf
variable {sc : Scope} {tg elt iter : Expr} {ifs : List Expr} {fi : Env' → M (List Dat)} {pt : Pat} {fe : Env' → M Dat} {spos py : Pos}
theorem de_comp (N' : List Str) (ix : List (Option Nat)) (hi : DI K W X tg iter fi) (hg : ∀ L cs s H fp, DG K (cxComp X N' sc L cs s H fp) tg pt) (hl : Leaves ix (gP K pt))
    (ht : ∀ L cs s H fp, PTs (cxComp X N' sc L cs s H fp) ifs (tDT K W ft)) (he : ∀ L cs s H fp, DE K W false (cxComp X N' sc L cs s H fp) elt fe) (hc : X.calm = true := by rfl)
    (ok : compOk X.N X.env.scope N' sc ix = true := by rfl) (hk : sc.kind = .function := by rfl) (hs : ∀ x, foldedSetIterable iter X.env x = pure x := by intro _; rfl) :
    DE K W true X (.ListComp elt [⟨tg, iter, ifs, 0⟩] sc pos) (fComp fi ix pt ft fe) := (pe_comp N' ix hc hi hg hl ht he ok hk hs).imp fun _ _ _ => rd_comp
theorem tD_fr {σ : St} {H : Hp} {Q : VK} (h : tD K W own f σ H Q) : tD K W true f σ H Q := by
  cases own with
  | true => exact h
  | false => obtain ⟨F, ρ, r, s, p⟩ := h; exact ⟨F, ρ, r, s, p.frz⟩
theorem ds_compB {OL O : List Nat} {i : Nat} (own : Bool) (N' : List Str) (ix : List (Option Nat)) (hN : X.N.Nodup) (hi : DI K W X tg iter fi) (hg : ∀ L cs s H fp, DG K (cxComp X N' sc L cs s H fp) tg pt) (hl : Leaves ix (gP K pt))
    (ht : ∀ L cs s H fp, PTs (cxComp X N' sc L cs s H fp) ifs (tDT K W ft)) (he : ∀ L cs s H fp, DE K W false (cxComp X N' sc L cs s H fp) elt fe) (hj : X.N[i]? = some x := by rfl) (hy : X.env.scope.names.lookup x = some .local := by rfl) (hc : X.calm = true := by rfl)
    (hsw : swapsWith (.ListComp elt [⟨tg, iter, ifs, 0⟩] sc pos) (some (.Name x py)) spos.line X.env = pure true := by rfl)
    (ok : compOk X.N X.env.scope N' sc ix = true := by rfl) (hk : sc.kind = .function := by rfl) (hs : ∀ x, foldedSetIterable iter X.env x = pure x := by intro _; rfl) :
    DS K W ro X OL O (aft own i O) (.Assign [.Name x py] (.ListComp elt [⟨tg, iter, ifs, 0⟩] sc pos) spos) (sSetB O i (fComp fi ix pt ft fe)) := fun F0 H0 =>
  (ps_setComp N' ix hN hj hy hc hi hg hl ht he hsw ok hk hs).imp fun D σ H t => rd_comp (tD_fr (rs_setB t))
theorem ds_setI {OL O : List Nat} {i : Nat} {q r : Pos} {fk : Env' → M Dat} (he : DE K W false X e f) (hk : DE K W false X b fk) (ho : i ∈ O := by decide) (hN : X.N[i]? = some x := by rfl) (hv : Vis X.env.scope x := by first | exact Or.inl rfl | exact Or.inr (Or.inl rfl) | exact Or.inr (Or.inr rfl)) (hd : (x == ("__debug__" : Str)) = false := by decide) (hcd : (x == ("__classdict__" : Str)) = false := by decide)
    (ha : ∀ v, assign (.Subscript (.Name x p) b q) X.env v = (do
      let ov ← holding [v] (eval (.Name x p) X.env)
      let iv ← holding [v, ov] (eval b X.env)
      standAt q
      holding [v, ov, iv] (setItem ov iv v)
      release [v, ov, iv] []) := by intro _; rfl) (hs : swapsWithSole [.Subscript (.Name x p) b q] e r.line X.env = pure false := by rfl) (hw : swappedStores [.Subscript (.Name x p) b q] e X.env = pure none := by rfl)
    (h1 : (assignEach [.Subscript (.Name x p) b q] X.env).map (·.2) = [assign (.Subscript (.Name x p) b q) X.env] := by rfl) :
    DS K W ro X OL O O (.Assign [.Subscript (.Name x p) b q] e r) (sSetI i fk f) := fun F0 H0 => (ps_asg he (pg_sub (pv i hN hv hd hcd) hk set_list ha) hs hw h1).imp fun _ _ _ => rs_setI ho
noncomputable def spF (K : PySem.W.Frag) (ro : Bool) (g : List Dat → M Dat) (n : Nat) : Sp := fun vs H Q _ => ∃ F ds, Same F H ∧ Deeps K F ds vs ∧ ds.length = n ∧ Post K Wno ro F H (g ds) Q
theorem runB_len {nN n : Nat} {g : Env' → M Flo} {ds : List Dat} (h : ds.length ≠ n) : runB nN n g ds = stk := by unfold runB; rw [if_neg h]
theorem de_call {k nN n : Nat} {fad : Addr} {fd : FuncData} {ps : List Str} {g : Env' → M Flo} (F : FnOk X.prog X.w X.K X.mg X.base CX0 k fad fd ps (spF K ro (runB nN n g) n)) (hr : Room k X.A) (hm : X.mg x = some (.ref fad)) (hk : PySem.W.keepIn X.K (.ref fad) = true) (hb : Binds X.K fd ps [])
    (ha : DA K Wno X (e :: es) fr) (hg : Gl X x := by rfl) (hdb : (x == ("__debug__" : Str)) = false := by decide) (hst : starEach (e :: es) X.env = (false, eval e X.env) :: starEach es X.env := by rfl) (hpl : (backTo pos (starEach es X.env)).any (·.1) = false := by rfl) :
    DE K Wno ro X (.Call (.Name x p) (e :: es) [] pos) (fL (runB nN n g) fr) := by
  refine PE.imp (pe_call F hr hg hm hk hb .nil pass0 ha hdb hst hpl) fun σ H Q h => ?_
  obtain ⟨F, ρ, r, s, p⟩ := rd_L h
  refine ⟨F, ρ, r, s, ?_⟩
  cases e1 : fr ρ with
  | error z => rw [e1] at p; exact p
  | ok ds =>
    rw [e1] at p
    intro vs F' H' st q
    obtain ⟨F1, es1, s1, q1, z⟩ := p vs F' H' st q
    show spF K ro (runB nN n g) n (vs ++ []) H' Q E0
    rw [List.append_nil]
    by_cases hl : es1.length = n
    · exact ⟨F1, es1, s1, q1, hl, z⟩
    · rw [runB_len hl] at z
      exact Post.stuck z
end
section
variable {P : Program} {w : World} {K : PySem.W.Frag} {mg : Str → Option Value} {base : Heap}
theorem start_get {N : List Str} {vs : List V} {ds : List Dat} {i : Nat} {d : Dat} {F : Hp} (q : Deeps K F ds vs) (h : (ds.map some ++ List.replicate (N.length - ds.length) none)[i]? = some (some d)) : ∃ v, (start N vs)[i]? = some (some v) ∧ Deep K F d v := by
  have hi : i < ds.length := by
    by_cases hi : i < ds.length
    · exact hi
    · rw [List.getElem?_append_right (by simpa using hi), List.getElem?_replicate] at h
      split at h <;> cases h
  rw [List.getElem?_append_left (by simpa using hi), List.getElem?_map] at h
  cases e : ds[i]? with
  | none => rw [e] at h; cases h
  | some d' =>
    rw [e] at h
    cases h
    obtain ⟨v, e1, q1⟩ := q.get e
    refine ⟨v, ?_, q1⟩
    unfold start
    rw [List.getElem?_append_left (by rw [List.length_map, q.length]; exact hi), List.getElem?_map, e1]
    rfl
theorem fn_D {x qual : Str} {st : Stmt} {f : Addr} {fd : FuncData} {N ps : List Str} {k : Nat} {O' : List Nat} (F : Fun K x qual st f fd) (S : FnScope N ps (defScope st)) (ro : Bool) (g : Env' → M Flo)
    (hb : ∀ (cdv : Value) (A : Around) (outer : List Env) (s : Shared) (H : Hp) (E : XK), Room k (A.deeper (envOfC qual (defScope st) s.heap.objs.size f cdv)) →
      DSs K Wno ro (cxOf CX0 P w K mg base N qual (defScope st) f cdv A outer s H E).nox [] [] O' (defBody st) g) : FnOk P w K mg base CX0 (k + 1) f fd ps (spF K ro (runB N.length ps.length g) ps.length) := by
  have hpl : ps.length ≤ N.length := by have := congrArg List.length S.pre; rw [List.length_take] at this; omega
  refine F.okX S (fun vs H Q E ⟨F, ds, s, q, l, p⟩ => by rw [q.length, l]) fun cdv A outer s H vs Q E hr ⟨F1, ds, s1, q, l, p⟩ => ⟨_, hb cdv A outer s H E hr F1 H, F1, F1, ds.map some ++ List.replicate (N.length - ds.length) none, ?_, ?_⟩
  · refine ⟨Step.refl s1, Same.refl _, ?_, fun i d e _ => start_get q e, (fun i d e h => nomatch h), (fun i j ds es a h => nomatch h)⟩
    unfold start
    rw [List.length_append, List.length_append, List.length_map, List.length_map, List.length_replicate, List.length_replicate, q.length]
  · have e1 : runB N.length ps.length g ds = (g (ds.map some ++ List.replicate (N.length - ds.length) none)).bind fun fl => match fl with
      | .nx _ => .ok .non
      | .rt d => .ok d
      | _ => stk := by
        unfold runB
        exact if_pos l
    rw [e1] at p
    cases e2 : g (ds.map some ++ List.replicate (N.length - ds.length) none) with
    | error z => rw [e2] at p; exact p
    | ok fl =>
      rw [e2] at p
      cases fl with
      | nx ρ => exact fun σ F H r => p .non F H r.st (by cases ro <;> rfl)
      | rt d => exact fun v F H st q => p v F H st q
      | bk ρ => exact Post.stuck p
      | ct ρ => exact Post.stuck p
noncomputable def spLaw (K : PySem.W.Frag) : Sp := fun vs H Q _ => ∃ (a : Addr) (ns : List Int), vs = [.ref a] ∧ SqL K H a (ns.map V.int) ∧ ns.length ≤ 63 ∧ ∀ H', Q (.bl true) H'
theorem deeps_ints {F : Hp} : ∀ is : List Int, Deeps K F (is.map Dat.int) (is.map V.int)
  | [] => rfl
  | i :: is => ⟨.int i, is.map V.int, rfl, rfl, deeps_ints is⟩
theorem law_ok {k : Nat} {f : Addr} {fd : FuncData} {x : Str} {ro : Bool} {mlaw : Nat → List Dat → M Dat} (F : ∀ n, FnOk P w K mg base CX0 k f fd [x] (spF K ro (mlaw n) 1)) (h : ∀ ns : List Int, ns.length ≤ 63 → ∃ n, mlaw n [.lst (ns.map .int)] = .ok (.bl true)) : FnOk P w K mg base CX0 k f fd [x] (spLaw K) := by
  refine ⟨fun vs H Q E ⟨a, ns, e, _⟩ => by rw [e]; rfl, fun A outer s H args us vs Q E hr he hb hv ⟨a, ns, e, hq, hl, q⟩ => ?_⟩
  obtain ⟨n, hn⟩ := h ns hl
  refine (F n).run A outer s H args us vs Q E hr he hb hv ⟨H, [.lst (ns.map .int)], Same.refl _, ⟨.ref a, [], e, ⟨a, _, rfl, hq, deeps_ints ns⟩, rfl⟩, rfl, ?_⟩
  rw [hn]
  intro v F' H' st z
  have : v = .bl true := by cases ro <;> exact z
  rw [this]
  exact q H'
end
end L2
namespace L2
open PySem PySem.Spec PyProof.Rows
structure Kit (K : PySem.W.Frag) : Prop where
  q_int_int : PySem.W.kitOne K (.type "int") (.type "int") = some true
  q_bool_int : PySem.W.kitOne K (.type "bool") (.type "int") = some true
  q_list_int : PySem.W.kitOne K (.type "list") (.type "int") = some false
  q_tuple_int : PySem.W.kitOne K (.type "tuple") (.type "int") = some false
  q_str_int : PySem.W.kitOne K (.type "str") (.type "int") = some false
  q_NoneType_int : PySem.W.kitOne K (.type "NoneType") (.type "int") = some false
  q_int_bool : PySem.W.kitOne K (.type "int") (.type "bool") = some false
  q_bool_bool : PySem.W.kitOne K (.type "bool") (.type "bool") = some true
  q_list_bool : PySem.W.kitOne K (.type "list") (.type "bool") = some false
  q_tuple_bool : PySem.W.kitOne K (.type "tuple") (.type "bool") = some false
  q_str_bool : PySem.W.kitOne K (.type "str") (.type "bool") = some false
  q_NoneType_bool : PySem.W.kitOne K (.type "NoneType") (.type "bool") = some false
  q_int_list : PySem.W.kitOne K (.type "int") (.type "list") = some false
  q_bool_list : PySem.W.kitOne K (.type "bool") (.type "list") = some false
  q_list_list : PySem.W.kitOne K (.type "list") (.type "list") = some true
  q_tuple_list : PySem.W.kitOne K (.type "tuple") (.type "list") = some false
  q_str_list : PySem.W.kitOne K (.type "str") (.type "list") = some false
  q_NoneType_list : PySem.W.kitOne K (.type "NoneType") (.type "list") = some false
  q_int_tuple : PySem.W.kitOne K (.type "int") (.type "tuple") = some false
  q_bool_tuple : PySem.W.kitOne K (.type "bool") (.type "tuple") = some false
  q_list_tuple : PySem.W.kitOne K (.type "list") (.type "tuple") = some false
  q_tuple_tuple : PySem.W.kitOne K (.type "tuple") (.type "tuple") = some true
  q_str_tuple : PySem.W.kitOne K (.type "str") (.type "tuple") = some false
  q_NoneType_tuple : PySem.W.kitOne K (.type "NoneType") (.type "tuple") = some false
  q_int_str : PySem.W.kitOne K (.type "int") (.type "str") = some false
  q_bool_str : PySem.W.kitOne K (.type "bool") (.type "str") = some false
  q_list_str : PySem.W.kitOne K (.type "list") (.type "str") = some false
  q_tuple_str : PySem.W.kitOne K (.type "tuple") (.type "str") = some false
  q_str_str : PySem.W.kitOne K (.type "str") (.type "str") = some true
  q_NoneType_str : PySem.W.kitOne K (.type "NoneType") (.type "str") = some false
section
variable {X : Cx} {K : PySem.W.Frag} {W : Wish} {own ro : Bool} {e a b c : Expr} {es : List Expr} {x : Str} {pos p p2 : Pos} {f fa fb fc : Env' → M Dat} {fr : Env' → M (List Dat)} {ft : Env' → M Bool}
theorem isi_D {pins : List (Addr × Obj)} {σ : St} {F H : Hp} {s : Shared} {T : String} {d : Dat} {x : V} {u : Value} {bi bb bl bt bs bn : Bool} {Q : Value → Shared → Prop} (I : Inv X pins σ H s) (hF : Same F H) (q : Deep X.K F d x) (r : RelV x u)
    (hi : PySem.W.kitOne X.K (.type "int") (.type T) = some bi) (hb : PySem.W.kitOne X.K (.type "bool") (.type T) = some bb) (hl : PySem.W.kitOne X.K (.type "list") (.type T) = some bl) (ht : PySem.W.kitOne X.K (.type "tuple") (.type T) = some bt)
    (hs : PySem.W.kitOne X.K (.type "str") (.type T) = some bs) (hn : PySem.W.kitOne X.K (.type "NoneType") (.type T) = some bn)
    (h : ∀ k tk, (match d with | .int _ => k = bi | .bl _ => k = bb | .lst _ => k = bl | .tup _ => k = bt | .str _ => k = bs | .non => k = bn | .ins _ _ => False | .dic _ => False) → Q (.bool k) { s with toks := tk }) (no : ∀ C fs, d ≠ .ins C fs) (nd : ∀ ks, d ≠ .dic ks) :
    wpAny (model X.prog X.w) X.A (call (.builtin "isinstance") [u, .type T]) Q X.xe s := by
  cases d with
  | non => cases (show x = .non from q); cases r; exact PySem.W.kia_one PySem.W.kitx_none I.kIn True.intro hn (fun z => nomatch z) fun tk => h _ tk rfl
  | bl y => cases (show x = .bl y from q); cases r; exact PySem.W.kia_one PySem.W.kitx_bool I.kIn True.intro hb (fun z => nomatch z) fun tk => h _ tk rfl
  | int i => cases (show x = .int i from q); obtain ⟨t, rfl⟩ := r; exact PySem.W.kia_one PySem.W.kitx_int I.kIn True.intro hi (fun z => nomatch z) fun tk => h _ tk rfl
  | str y => cases (show x = .str y from q); obtain ⟨t, rfl⟩ := r; exact PySem.W.kia_one PySem.W.kitx_str I.kIn True.intro hs (fun z => nomatch z) fun tk => h _ tk rfl
  | lst ds =>
    obtain ⟨l, xs, e, t, _⟩ := q
    subst e
    cases r
    obtain ⟨its, _, pl, _⟩ := I.list (hF.lst t)
    obtain ⟨o, h1, h2, _⟩ := pl.isList
    exact PySem.W.kia_one PySem.W.kitx_list I.kIn ⟨o, h1, h2⟩ hl (fun z => nomatch z) fun tk => h _ tk rfl
  | tup ds =>
    obtain ⟨l, xs, e, t, _⟩ := q
    subst e
    cases r
    obtain ⟨its, _, pl, _⟩ := I.tuple (hF.tup t)
    obtain ⟨o, h1, h2, _⟩ := pl
    exact PySem.W.kia_one PySem.W.kitx_tuple I.kIn ⟨o, h1, h2⟩ ht (fun z => nomatch z) fun tk => h _ tk rfl
  | ins C fs => exact absurd rfl (no C fs)
  | dic ks => exact absurd rfl (nd ks)
theorem de_isi {T : String} {y : Str} {g : Dat → M Dat} (hc : CallR X (.builtin "isinstance") (fun xs H Q => ∃ v, xs = [v, .ty T] ∧ rD1 K W own g v H Q)) (hm : X.mg "isinstance" = none) (hmT : X.mg y = none) (hvT : bootBuiltins y = some (.type T)) (ha : DE K W false X a fa)
    (hg : Gl X "isinstance" := by rfl) (hgT : Gl X y := by rfl) (hn : y ≠ "__name__" := by decide) (hd : (y == ("__debug__" : Str)) = false := by decide)
    (hst : starEach [a, .Name y p2] X.env = [(false, eval a X.env), (false, eval (.Name y p2) X.env)] := by rfl) (hst2 : starEach [.Name y p2] X.env = [(false, eval (.Name y p2) X.env)] := by rfl) (hpl : (backTo pos (starEach [.Name y p2] X.env)).any (·.1) = false := by rfl) :
    DE K W own X (.Call (.Name "isinstance" p) [a, .Name y p2] [] pos) (f1 g fa) :=
  (pe_callB hc hg hm boot_isinstance (pa_cons ha (pa_cons (pe_tyN (pos := p2) hgT hmT hvT hn hd) pa_nil hst2) (by rw [hst, hst2])) (by decide) (by decide) (by rw [hst, hst2]) hpl).imp fun σ H Q h => by
    obtain ⟨F, ρ, r, s, q⟩ := rd_1 h
    refine ⟨F, ρ, r, s, ?_⟩
    cases e1 : fa ρ with
    | error z => rw [e1] at q; exact q
    | ok d => rw [e1] at q; exact fun v F' H' st z => ⟨v, rfl, q v F' H' st z⟩
theorem c_isi_int (kit : Kit K) (hK : X.K = K := by rfl) : CallR X (.builtin "isinstance") (fun xs H Q => ∃ v, xs = [v, .ty "int"] ∧ rD1 K W own isi_intD v H Q) := by
  subst hK
  intro pins s σ H xs us Q I r h
  obtain ⟨v, rfl, F, d, s1, q, p⟩ := h
  obtain ⟨u, w, rfl, ru, rw'⟩ := r.two
  cases (show w = Value.type "int" from rw')
  by_cases hi : (∃ C fs, d = .ins C fs) ∨ ∃ ks, d = .dic ks
  · rcases hi with ⟨C, fs, rfl⟩ | ⟨ks, rfl⟩ <;> exact Post.stuck p
  · refine isi_D I s1 q ru kit.q_int_int kit.q_bool_int kit.q_list_int kit.q_tuple_int kit.q_str_int kit.q_NoneType_int (fun k tk hk => ⟨.bl k, H, I.tok tk, rfl, ?_⟩) (fun C fs e => hi (.inl ⟨C, fs, e⟩)) (fun ks e => hi (.inr ⟨ks, e⟩))
    cases d <;> first | (have hk' : k = _ := hk; subst hk'; exact Post.bl (own := own) p s1) | exact absurd (.inl ⟨_, _, rfl⟩) hi | exact absurd (.inr ⟨_, rfl⟩) hi
theorem de_isi_int (kit : Kit K) (hm : X.mg "isinstance" = none) (hmT : X.mg "int" = none) (ha : DE K W false X a fa) (hK : X.K = K := by rfl)
    (hg : Gl X "isinstance" := by rfl) (hgT : Gl X "int" := by rfl)
    (hst : starEach [a, .Name "int" p2] X.env = [(false, eval a X.env), (false, eval (.Name "int" p2) X.env)] := by rfl) (hst2 : starEach [.Name "int" p2] X.env = [(false, eval (.Name "int" p2) X.env)] := by rfl) (hpl : (backTo pos (starEach [.Name "int" p2] X.env)).any (·.1) = false := by rfl) :
    DE K W own X (.Call (.Name "isinstance" p) [a, .Name "int" p2] [] pos) (f1 isi_intD fa) := de_isi (c_isi_int kit hK) hm hmT (by decide +kernel) ha hg hgT (by decide) (by decide) hst hst2 hpl
theorem c_isi_bool (kit : Kit K) (hK : X.K = K := by rfl) : CallR X (.builtin "isinstance") (fun xs H Q => ∃ v, xs = [v, .ty "bool"] ∧ rD1 K W own isi_boolD v H Q) := by
  subst hK
  intro pins s σ H xs us Q I r h
  obtain ⟨v, rfl, F, d, s1, q, p⟩ := h
  obtain ⟨u, w, rfl, ru, rw'⟩ := r.two
  cases (show w = Value.type "bool" from rw')
  by_cases hi : (∃ C fs, d = .ins C fs) ∨ ∃ ks, d = .dic ks
  · rcases hi with ⟨C, fs, rfl⟩ | ⟨ks, rfl⟩ <;> exact Post.stuck p
  · refine isi_D I s1 q ru kit.q_int_bool kit.q_bool_bool kit.q_list_bool kit.q_tuple_bool kit.q_str_bool kit.q_NoneType_bool (fun k tk hk => ⟨.bl k, H, I.tok tk, rfl, ?_⟩) (fun C fs e => hi (.inl ⟨C, fs, e⟩)) (fun ks e => hi (.inr ⟨ks, e⟩))
    cases d <;> first | (have hk' : k = _ := hk; subst hk'; exact Post.bl (own := own) p s1) | exact absurd (.inl ⟨_, _, rfl⟩) hi | exact absurd (.inr ⟨_, rfl⟩) hi
theorem de_isi_bool (kit : Kit K) (hm : X.mg "isinstance" = none) (hmT : X.mg "bool" = none) (ha : DE K W false X a fa) (hK : X.K = K := by rfl)
    (hg : Gl X "isinstance" := by rfl) (hgT : Gl X "bool" := by rfl)
    (hst : starEach [a, .Name "bool" p2] X.env = [(false, eval a X.env), (false, eval (.Name "bool" p2) X.env)] := by rfl) (hst2 : starEach [.Name "bool" p2] X.env = [(false, eval (.Name "bool" p2) X.env)] := by rfl) (hpl : (backTo pos (starEach [.Name "bool" p2] X.env)).any (·.1) = false := by rfl) :
    DE K W own X (.Call (.Name "isinstance" p) [a, .Name "bool" p2] [] pos) (f1 isi_boolD fa) := de_isi (c_isi_bool kit hK) hm hmT (by decide +kernel) ha hg hgT (by decide) (by decide) hst hst2 hpl
theorem c_isi_list (kit : Kit K) (hK : X.K = K := by rfl) : CallR X (.builtin "isinstance") (fun xs H Q => ∃ v, xs = [v, .ty "list"] ∧ rD1 K W own isi_listD v H Q) := by
  subst hK
  intro pins s σ H xs us Q I r h
  obtain ⟨v, rfl, F, d, s1, q, p⟩ := h
  obtain ⟨u, w, rfl, ru, rw'⟩ := r.two
  cases (show w = Value.type "list" from rw')
  by_cases hi : (∃ C fs, d = .ins C fs) ∨ ∃ ks, d = .dic ks
  · rcases hi with ⟨C, fs, rfl⟩ | ⟨ks, rfl⟩ <;> exact Post.stuck p
  · refine isi_D I s1 q ru kit.q_int_list kit.q_bool_list kit.q_list_list kit.q_tuple_list kit.q_str_list kit.q_NoneType_list (fun k tk hk => ⟨.bl k, H, I.tok tk, rfl, ?_⟩) (fun C fs e => hi (.inl ⟨C, fs, e⟩)) (fun ks e => hi (.inr ⟨ks, e⟩))
    cases d <;> first | (have hk' : k = _ := hk; subst hk'; exact Post.bl (own := own) p s1) | exact absurd (.inl ⟨_, _, rfl⟩) hi | exact absurd (.inr ⟨_, rfl⟩) hi
theorem de_isi_list (kit : Kit K) (hm : X.mg "isinstance" = none) (hmT : X.mg "list" = none) (ha : DE K W false X a fa) (hK : X.K = K := by rfl)
    (hg : Gl X "isinstance" := by rfl) (hgT : Gl X "list" := by rfl)
    (hst : starEach [a, .Name "list" p2] X.env = [(false, eval a X.env), (false, eval (.Name "list" p2) X.env)] := by rfl) (hst2 : starEach [.Name "list" p2] X.env = [(false, eval (.Name "list" p2) X.env)] := by rfl) (hpl : (backTo pos (starEach [.Name "list" p2] X.env)).any (·.1) = false := by rfl) :
    DE K W own X (.Call (.Name "isinstance" p) [a, .Name "list" p2] [] pos) (f1 isi_listD fa) := de_isi (c_isi_list kit hK) hm hmT (by decide +kernel) ha hg hgT (by decide) (by decide) hst hst2 hpl
theorem c_isi_tuple (kit : Kit K) (hK : X.K = K := by rfl) : CallR X (.builtin "isinstance") (fun xs H Q => ∃ v, xs = [v, .ty "tuple"] ∧ rD1 K W own isi_tupleD v H Q) := by
  subst hK
  intro pins s σ H xs us Q I r h
  obtain ⟨v, rfl, F, d, s1, q, p⟩ := h
  obtain ⟨u, w, rfl, ru, rw'⟩ := r.two
  cases (show w = Value.type "tuple" from rw')
  by_cases hi : (∃ C fs, d = .ins C fs) ∨ ∃ ks, d = .dic ks
  · rcases hi with ⟨C, fs, rfl⟩ | ⟨ks, rfl⟩ <;> exact Post.stuck p
  · refine isi_D I s1 q ru kit.q_int_tuple kit.q_bool_tuple kit.q_list_tuple kit.q_tuple_tuple kit.q_str_tuple kit.q_NoneType_tuple (fun k tk hk => ⟨.bl k, H, I.tok tk, rfl, ?_⟩) (fun C fs e => hi (.inl ⟨C, fs, e⟩)) (fun ks e => hi (.inr ⟨ks, e⟩))
    cases d <;> first | (have hk' : k = _ := hk; subst hk'; exact Post.bl (own := own) p s1) | exact absurd (.inl ⟨_, _, rfl⟩) hi | exact absurd (.inr ⟨_, rfl⟩) hi
theorem de_isi_tuple (kit : Kit K) (hm : X.mg "isinstance" = none) (hmT : X.mg "tuple" = none) (ha : DE K W false X a fa) (hK : X.K = K := by rfl)
    (hg : Gl X "isinstance" := by rfl) (hgT : Gl X "tuple" := by rfl)
    (hst : starEach [a, .Name "tuple" p2] X.env = [(false, eval a X.env), (false, eval (.Name "tuple" p2) X.env)] := by rfl) (hst2 : starEach [.Name "tuple" p2] X.env = [(false, eval (.Name "tuple" p2) X.env)] := by rfl) (hpl : (backTo pos (starEach [.Name "tuple" p2] X.env)).any (·.1) = false := by rfl) :
    DE K W own X (.Call (.Name "isinstance" p) [a, .Name "tuple" p2] [] pos) (f1 isi_tupleD fa) := de_isi (c_isi_tuple kit hK) hm hmT (by decide +kernel) ha hg hgT (by decide) (by decide) hst hst2 hpl
theorem Vals.of_get : ∀ {xs : List V} {us : List Value}, xs.length = us.length → (∀ (i : Nat) v u, xs[i]? = some v → us[i]? = some u → RelV v u) → Vals xs us
  | [], [], _, _ => .nil
  | [], _ :: _, h, _ => by simp at h
  | _ :: _, [], h, _ => by simp at h
  | x :: xs, u :: us, h, q => .cons (q 0 x u rfl rfl) (Vals.of_get (by simpa using h) fun i v w h1 h2 => q (i + 1) v w (by simpa using h1) (by simpa using h2))
end
end L2
namespace L2
open PySem PySem.Spec PyProof.Rows
section
variable {X : Cx} {es : List Expr} {x : Str} {p : Pos}
theorem dgcs_cons {N' : List Str} {sc : Scope} {L : Addr} {cs : List (Str × Addr)} {s : Shared} {H : Hp} {fp : List Addr} {i : Nat} {is : List Nat} (hN : N'.Nodup) (h2 : PGs (cxComp X N' sc L cs s H fp) es (gNames is)) (hi : N'[i]? = some x := by rfl) (hx : Loc (cxComp X N' sc L cs s H fp).env.scope x := by first | exact Or.inl rfl | exact Or.inr rfl)
    (hf : (cxComp X N' sc L cs s H fp).fn x = true ∨ (cxComp X N' sc L cs s H fp).env.scope.names.lookup x = some .local := by first | exact .inl rfl | exact .inr rfl | assumption)
    (hs : (assignEach (.Name x p :: es) (cxComp X N' sc L cs s H fp).env).map (·.2) = assign (.Name x p) (cxComp X N' sc L cs s H fp).env :: (assignEach es (cxComp X N' sc L cs s H fp).env).map (·.2) := by rfl) : PGs (cxComp X N' sc L cs s H fp) (.Name x p :: es) (gNames (i :: is)) := pgs_cons (pg_c hN hi hx hf) h2 hs
end
end L2
namespace L2
open PySem PySem.Spec PyProof.Rows
open PySem.W in
section
open PySem.W
variable {α β : Type} {lt : Nat → Nat → Bool}
variable {key : Nat → Int} {p : Array Nat}
noncomputable def ltK (key : Nat → Int) (i j : Nat) : Bool := decide (key i < key j)
end
end L2
namespace L2
open PySem PySem.Spec PyProof.Rows
section
open PySem.W
variable {α β : Type} {n : Nat}
variable {p : Array Nat}
end
section
open PySem.W
variable {prog : Program} {w : World} {A : Around} {E : Value → Shared → Prop} {s : Shared} {key : Nat → Int}
noncomputable def Asks (prog : Program) (w : World) (A : Around) (key : Nat → Int) (vs : List Value) (s' : Shared) : Prop :=
  wpAny (model prog w) A (keyKind' vs.toArray) (fun κ s2 => s2 = s' ∧ ∀ i j (C : Bool → Shared → Prop), i < vs.length → j < vs.length → C (ltK key i j) s' → kas_ask prog w A κ vs i j C s') (fun _ _ => False) s'
end
end L2
namespace L2
open PySem PySem.Spec PyProof.Rows
noncomputable def insL {α : Type} (lt : α → α → Bool) (x : α) : List α → List α
  | [] => [x]
  | y :: ys => if lt y x = true then y :: insL lt x ys else x :: y :: ys
noncomputable def isort {α : Type} (lt : α → α → Bool) : List α → List α
  | [] => []
  | x :: xs => insL lt x (isort lt xs)
noncomputable def ltZ (a b : Int) : Bool := decide (a < b)
noncomputable def lexZ : List Int → List Int → Bool
  | [], [] => false
  | [], _ :: _ => true
  | _ :: _, [] => false
  | a :: as, b :: bs => if a = b then lexZ as bs else decide (a < b)
noncomputable def tupZ (t : List Int) : Dat := .tup (t.map .int)
noncomputable def tupD : Dat → M (List Int)
  | .tup ds => intsD ds
  | _ => stk
noncomputable def tupsD : List Dat → M (List (List Int))
  | [] => .ok []
  | d :: ds => (tupD d).bind fun t => (tupsD ds).bind fun r => .ok (t :: r)
section
variable {α : Type} {lt : α → α → Bool}
structure Ord (lt : α → α → Bool) : Prop where
  irr : ∀ a, lt a a = false
  tr : ∀ a b c, lt a b = true → lt b c = true → lt a c = true
  tot : ∀ a b, lt a b = false → lt b a = false → a = b
theorem ordZ : Ord ltZ := ⟨fun a => by simp [ltZ], fun a b c h1 h2 => by simp [ltZ] at *; omega, fun a b h1 h2 => by simp [ltZ] at *; omega⟩
theorem ordLex : Ord lexZ := by
  refine ⟨fun a => ?_, fun a b c => ?_, fun a b => ?_⟩
  · induction a with
    | nil => rfl
    | cons x xs ih => simp [lexZ, ih]
  · induction a generalizing b c with
    | nil =>
      cases b with
      | nil => intro h; simp [lexZ] at h
      | cons y ys =>
        intro _ h2
        cases c with
        | nil => simp [lexZ] at h2
        | cons z zs => rfl
    | cons x xs ih =>
      intro h1 h2
      cases b with
      | nil => simp [lexZ] at h1
      | cons y ys =>
        cases c with
        | nil => simp [lexZ] at h2
        | cons z zs =>
          simp only [lexZ] at h1 h2 ⊢
          by_cases e1 : x = y
          · subst e1
            rw [if_pos rfl] at h1
            by_cases e2 : x = z
            · rw [if_pos e2] at h2 ⊢; exact ih _ _ h1 h2
            · rw [if_neg e2] at h2 ⊢; exact h2
          · rw [if_neg e1] at h1
            have h1' : x < y := of_decide_eq_true h1
            by_cases e2 : y = z
            · subst e2
              rw [if_neg e1]; exact h1
            · rw [if_neg e2] at h2
              have h2' : y < z := of_decide_eq_true h2
              rw [if_neg (by omega)]
              exact decide_eq_true (by omega)
  · induction a generalizing b with
    | nil =>
      cases b with
      | nil => intros; rfl
      | cons y ys => intro h; simp [lexZ] at h
    | cons x xs ih =>
      cases b with
      | nil => intro _ h; simp [lexZ] at h
      | cons y ys =>
        intro h1 h2
        simp only [lexZ] at h1 h2
        by_cases e1 : x = y
        · subst e1
          rw [if_pos rfl] at h1 h2
          rw [ih _ h1 h2]
        · rw [if_neg e1] at h1
          rw [if_neg (fun z => e1 z.symm)] at h2
          have h1' := of_decide_eq_false h1
          have h2' := of_decide_eq_false h2
          omega
theorem insL_perm (x : α) : ∀ l : List α, (insL lt x l).Perm (x :: l)
  | [] => List.Perm.refl _
  | y :: ys => by
    rw [insL]
    split
    · exact ((insL_perm x ys).cons y).trans (List.Perm.swap x y ys)
    · exact List.Perm.refl _
theorem isort_perm : ∀ l : List α, (isort lt l).Perm l
  | [] => List.Perm.refl _
  | x :: xs => (insL_perm x _).trans ((isort_perm xs).cons x)
theorem Ord.le_trans (o : Ord lt) {a b c : α} (h1 : lt b a = false) (h2 : lt c b = false) : lt c a = false := by
  cases h : lt c a with
  | false => rfl
  | true =>
    cases h3 : lt b c with
    | true => rw [o.tr b c a h3 h] at h1; cases h1
    | false =>
      have := o.tot c b h2 h3
      subst this
      rw [h] at h1; cases h1
theorem Ord.asym (o : Ord lt) {a b : α} (h : lt a b = true) : lt b a = false := by
  cases h2 : lt b a with
  | false => rfl
  | true => have := o.tr a b a h h2; rw [o.irr] at this; cases this
theorem insL_sorted (o : Ord lt) (x : α) : ∀ l : List α, l.Pairwise (fun a b => lt b a = false) → (insL lt x l).Pairwise (fun a b => lt b a = false)
  | [], _ => by simp [insL]
  | y :: ys, h => by
    rw [insL]
    rw [List.pairwise_cons] at h
    split
    · rename_i hc
      rw [List.pairwise_cons]
      refine ⟨fun b hb => ?_, insL_sorted o x ys h.2⟩
      rcases List.mem_cons.mp ((insL_perm x ys).mem_iff.mp hb) with e | e
      · rw [e]; exact o.asym hc
      · exact h.1 b e
    · rename_i hc
      have hc' : lt y x = false := by simpa using hc
      rw [List.pairwise_cons, List.pairwise_cons]
      refine ⟨fun b hb => ?_, h⟩
      rcases List.mem_cons.mp hb with e | e
      · rw [e]; exact hc'
      · exact o.le_trans hc' (h.1 b e)
theorem isort_sorted (o : Ord lt) : ∀ l : List α, (isort lt l).Pairwise (fun a b => lt b a = false)
  | [] => List.Pairwise.nil
  | x :: xs => insL_sorted o x _ (isort_sorted o xs)
theorem perm_unique (o : Ord lt) : ∀ {l m : List α}, l.Perm m → l.Pairwise (fun a b => lt b a = false) → m.Pairwise (fun a b => lt b a = false) → l = m
  | [], m, h, _, _ => (List.Perm.nil_eq h)
  | a :: l, m, h, h1, h2 => by
    cases m with
    | nil => exact absurd h.symm (by simp)
    | cons b m =>
      rw [List.pairwise_cons] at h1 h2
      have e : a = b := by
        rcases List.mem_cons.mp (h.mem_iff.mp List.mem_cons_self) with e | e
        · exact e
        · rcases List.mem_cons.mp (h.mem_iff.mpr List.mem_cons_self) with e2 | e2
          · exact e2.symm
          · exact o.tot a b (h2.1 a e) (h1.1 b e2)
      subst e
      rw [perm_unique o (List.Perm.cons_inv h) h1.2 h2.2]
end
section
open PySem.W
variable {α : Type} {lt : α → α → Bool}
theorem getD_get {l : List α} {i : Nat} {d : α} (h : i < l.length) : l.getD i d = l[i] := by simp [h]
noncomputable def rk (lt : α → α → Bool) (zs : List α) (d : α) (i : Nat) : Int := ((zs.filter fun z => lt z (zs.getD i d)).length : Int)
theorem filter_lt {p q : α → Bool} (h : ∀ z, p z = true → q z = true) : ∀ l : List α, (l.filter p).length ≤ (l.filter q).length ∧ ((∃ z ∈ l, p z = false ∧ q z = true) → (l.filter p).length < (l.filter q).length)
  | [] => ⟨Nat.le_refl _, fun ⟨_, h, _⟩ => nomatch h⟩
  | x :: xs => by
    obtain ⟨i1, i2⟩ := filter_lt h xs
    cases hp : p x with
    | true =>
      have hq := h x hp
      rw [List.filter_cons_of_pos hp, List.filter_cons_of_pos hq]
      refine ⟨by simp; exact i1, fun ⟨z, hz, e1, e2⟩ => ?_⟩
      rcases List.mem_cons.mp hz with e | e
      · rw [e, hp] at e1; cases e1
      · have := i2 ⟨z, e, e1, e2⟩
        simp; exact this
    | false =>
      rw [List.filter_cons_of_neg (by simp [hp])]
      cases hq : q x with
      | true =>
        rw [List.filter_cons_of_pos hq]
        exact ⟨by simp; omega, fun _ => by simp; omega⟩
      | false =>
        rw [List.filter_cons_of_neg (by simp [hq])]
        refine ⟨i1, fun ⟨z, hz, e1, e2⟩ => ?_⟩
        rcases List.mem_cons.mp hz with e | e
        · rw [e, hq] at e2; cases e2
        · exact i2 ⟨z, e, e1, e2⟩
theorem rk_lt (o : Ord lt) {zs : List α} {d : α} {i j : Nat} (hi : i < zs.length) (hj : j < zs.length) : ltK (rk lt zs d) i j = lt (zs.getD i d) (zs.getD j d) := by
  unfold ltK rk
  have gi : zs.getD i d ∈ zs := by rw [getD_get hi]; exact List.getElem_mem hi
  have gj : zs.getD j d ∈ zs := by rw [getD_get hj]; exact List.getElem_mem hj
  cases h : lt (zs.getD i d) (zs.getD j d) with
  | true =>
    refine decide_eq_true ?_
    have := (filter_lt (p := fun z => lt z (zs.getD i d)) (q := fun z => lt z (zs.getD j d)) (fun z hz => o.tr _ _ _ hz h) zs).2 ⟨_, gi, o.irr _, h⟩
    omega
  | false =>
    refine decide_eq_false ?_
    have := (filter_lt (p := fun z => lt z (zs.getD j d)) (q := fun z => lt z (zs.getD i d)) (fun z hz => by
      cases h3 : lt z (zs.getD i d) with
      | true => rfl
      | false =>
        have e := o.le_trans h h3
        rw [hz] at e; cases e) zs).1
    omega
variable {X : Cx} {K : PySem.W.Frag} {W : Wish} {own : Bool}
theorem vals_map {xs : List V} {us : List Value} (r : Vals xs us) (ps : List Nat) (hp : ∀ i ∈ ps, i < xs.length) : Vals (ps.map fun i => xs.getD i .non) (ps.map fun i => us.getD i .none) := by
  refine Vals.of_get (by simp) fun k v u h1 h2 => ?_
  rw [List.getElem?_map] at h1 h2
  cases e : ps[k]? with
  | none => rw [e] at h1; cases h1
  | some i =>
    rw [e] at h1 h2
    simp only [Option.map_some, Option.some.injEq] at h1 h2
    have hi := hp i (List.mem_of_getElem? e)
    have hl := r.length
    obtain ⟨u', e1, q⟩ := r.get (i := i) (x := xs[i]) (by simp [hi])
    rw [getD_get hi] at h1
    rw [List.getD_eq_getElem?_getD, e1] at h2
    rw [← h1, ← h2]
    exact q
theorem rk_ints (is : List Int) (i j : Nat) (hi : i < is.length) (hj : j < is.length) : ltK (rk ltZ is 0) i j = decide (is.getD i 0 < is.getD j 0) := rk_lt ordZ hi hj
theorem asks_ints {prog : Program} {w : World} {A : Around} {s' : Shared} {its : List Value} {is : List Int} (hi : IntsAre its is) (h2 : 2 ≤ its.length) : Asks prog w A (rk ltZ is 0) its s' := by
  have hl := hi.length
  obtain ⟨v1, v2, rest, rfl⟩ : ∃ v1 v2 rest, its = v1 :: v2 :: rest := by
    match its, h2 with
    | v1 :: v2 :: rest, _ => exact ⟨v1, v2, rest, rfl⟩
  unfold Asks
  rw [keyKind_ints hi]
  refine wpAny_pure ⟨rfl, fun i j C h1 h2 hc => ?_⟩
  unfold kas_ask
  obtain ⟨t1, e1⟩ := ints_at hi i h1
  obtain ⟨t2, e2⟩ := ints_at hi j h2
  rw [e1, e2]
  rw [rk_ints is i j (by omega) (by omega)] at hc
  exact kat_lt_int hc
where
  ints_at {vs : List Value} {ns : List Int} (h : IntsAre vs ns) (i : Nat) (hi : i < vs.length) : ∃ t, vs.getD i Value.none = .int (ns.getD i 0) t := by
    induction h generalizing i with
    | nil => simp at hi
    | cons n t r ih =>
      cases i with
      | zero => exact ⟨t, rfl⟩
      | succ i => obtain ⟨t', e⟩ := ih i (by simpa using hi); exact ⟨t', by simpa using e⟩
noncomputable def lexF (f : Bool) : List Int → List Int → Bool
  | a :: as, b :: bs => if a = b then lexF f as bs else decide (a < b)
  | _, _ => f
theorem lexF_lex : ∀ as bs : List Int, lexF (decide (as.length < bs.length)) as bs = lexZ as bs
  | [], [] => rfl
  | [], _ :: _ => by simp [lexF, lexZ]
  | _ :: _, [] => by simp [lexF, lexZ]
  | a :: as, b :: bs => by
    have := lexF_lex as bs
    simp only [lexF, lexZ, List.length_cons, Nat.add_lt_add_iff_right]
    rw [this]
theorem katLex_ints {prog : Program} {w : World} {A : Around} {s' : Shared} {f : Bool} {Q : Bool → Shared → Prop} : ∀ {us vs : List Value} {as bs : List Int} (i : Nat), IntsAre us as → IntsAre vs bs → Q (lexF f as bs) s' → KatLex prog w A true f Q (us.zip vs) i s'
  | _, _, _, bs, _, .nil, _, h => kat_nil (by cases bs <;> exact h)
  | _, _, _, _, _, .cons a t r, .nil, h => kat_nil h
  | _, _, _, _, i, .cons a t r, .cons b u r', h => by
    show KatLex prog w A true f Q ((.int a t, .int b u) :: (_ : List (Value × Value))) i s'
    refine kat_cons (SeqAt.EqAt.int_int a t b u _ _ _ _ ?_)
    by_cases e : a = b
    · rw [show (a == b) = true by simpa using e]
      rw [lexF, if_pos e] at h
      exact kat_yes (katLex_ints (i + 1) r r' h)
    · rw [show (a == b) = false by simpa using e]
      rw [lexF, if_neg e] at h
      refine kat_no ?_
      cases hb : (true && i == 0) with
      | true => exact oneLt_int h
      | false => exact kat_one _ _ (lt_int h)
theorem asks_tups {pins : List (Addr × Obj)} {σ : St} {F H : Hp} {s : Shared} {A : Around} {xs : List V} {ts : List (List Int)} {its : List Value} {h1 : Heap} (I : Inv X pins σ H s) (hF : Same F H) (r : Deeps X.K F (ts.map tupZ) xs) (hne : (ts.all fun t => !t.isEmpty) = true) (rv : Vals xs its) (h2 : 2 ≤ its.length)
    (kp : ∀ b o, s.heap.get? b = some o → h1.get? b = some o) : Asks X.prog X.w A (rk lexZ ts []) its { s with heap := h1 } := by
  have l1 := rv.length
  have l2 := r.length
  rw [List.length_map] at l2
  have at_ : ∀ i, i < its.length → ∃ (l : Addr) (ob : Obj) (us : List Value) (n : Nat), its.getD i Value.none = .ref l ∧ h1.get? l = some ob ∧ ob.cls = .type "tuple" ∧ ob.data = .seq us.toArray n ∧ IntsAre us (ts.getD i []) := fun i hi => by
    obtain ⟨v, e1, l, ys, e2, tq, rr⟩ := r.get (i := i) (d := tupZ (ts[i]'(by omega))) (by simp [show i < ts.length by omega])
    subst e2
    obtain ⟨u, e3, ru⟩ := rv.get e1
    cases ru
    obtain ⟨us, ru, pl, _⟩ := I.tuple (hF.tup tq)
    obtain ⟨ob, h3, h4, n, h5⟩ := pl
    have e4 : ys = (ts[i]'(by omega)).map V.int := ints_deep rr (intsD_map _)
    rw [e4] at ru
    exact ⟨l, ob, us, n, by rw [List.getD_eq_getElem?_getD, e3]; rfl, kp _ _ h3, h4, h5, by rw [getD_get (show i < ts.length by omega)]; exact intsAre_of ru⟩
  have tups : ∀ (k : Nat), k ≤ its.length → ∃ fs, KatTups h1 (its.drop (its.length - k)) fs ∧ fs.length = k ∧ ∀ v ∈ fs, ∃ i t, v = Value.int i t := by
    intro k
    induction k with
    | zero => intro _; exact ⟨[], by rw [Nat.sub_zero, List.drop_length]; exact KatTups.nil, rfl, fun _ h => nomatch h⟩
    | succ k ih =>
      intro hk
      obtain ⟨fs, q1, q2, q3⟩ := ih (by omega)
      have hi : its.length - (k + 1) < its.length := by omega
      obtain ⟨l, ob, us, n, e1, e2, e3, e4, e5⟩ := at_ _ hi
      have hn : (ts.getD (its.length - (k + 1)) []) ≠ [] := by
        rw [getD_get (show its.length - (k + 1) < ts.length by omega)]
        have := List.all_eq_true.mp hne _ (List.getElem_mem (show its.length - (k + 1) < ts.length by omega))
        simpa using this
      obtain ⟨z, ez⟩ : ∃ z, ts.getD (its.length - (k + 1)) [] = z := ⟨_, rfl⟩
      rw [ez] at e5 hn
      obtain ⟨f, fr, ef, hf⟩ : ∃ f fr, us = f :: fr ∧ ∃ i t, f = Value.int i t := by
        cases e5 with
        | nil => exact absurd rfl hn
        | cons m t r => exact ⟨_, _, rfl, _, _, rfl⟩
      refine ⟨f :: fs, ?_, by simp [q2], fun v hv => ?_⟩
      · rw [List.drop_eq_getElem_cons hi]
        rw [show its.length - (k + 1) + 1 = its.length - k by omega]
        rw [getD_get hi] at e1
        rw [e1]
        exact KatTups.cons e2 e3 e4 (by rw [ef]; rfl) q1
      · rcases List.mem_cons.mp hv with e | e
        · rw [e]; exact hf
        · exact q3 v e
  obtain ⟨fs, q1, q2, q3⟩ := tups its.length (Nat.le_refl _)
  rw [Nat.sub_self, List.drop_zero] at q1
  unfold Asks
  refine kat_kind (s := { s with heap := h1 }) (T := .type "int") q1 (by omega) (fun v hv => ?_) rfl ⟨rfl, fun i j C hi hj hc => ?_⟩
  · obtain ⟨i, t, e⟩ := q3 v hv
    rw [e]
    exact Looks.of_pure rfl
  · unfold kas_ask
    obtain ⟨x1, o1, us, n1, e1, g1, _, d1, a1⟩ := at_ i hi
    obtain ⟨x2, o2, vs, n2, e2, g2, _, d2, a2⟩ := at_ j hj
    rw [e1, e2]
    rw [rk_lt ordLex (show i < ts.length by omega) (show j < ts.length by omega)] at hc
    refine kat_lt (s := { s with heap := h1 }) g1 d1 g2 d2 (katLex_ints 0 a1 a2 ?_)
    rw [List.size_toArray, List.size_toArray, a1.length, a2.length, lexF_lex]
    exact hc
theorem tup_deep {F : Hp} {d : Dat} {t : List Int} (h : tupD d = .ok t) : d = tupZ t := by
  cases d with
  | tup ds =>
    have : ∀ {ds : List Dat} {t : List Int}, intsD ds = .ok t → ds = t.map .int := by
      intro ds
      induction ds with
      | nil => intro t h; cases h; rfl
      | cons d ds ih =>
        intro t h
        cases d with
        | int i =>
          cases e : intsD ds with
          | error x => simp only [intsD, asI, bind_ok, e, bind_er] at h; cases h
          | ok r =>
            simp only [intsD, asI, bind_ok, e] at h
            cases h
            rw [ih e]
            rfl
        | _ => cases h
    unfold tupZ
    rw [this h]
  | _ => cases h
theorem ints_data : ∀ {ds : List Dat} {t : List Int}, intsD ds = .ok t → ds = t.map .int := fun {ds t} h => by
  have := tup_deep (F := fun _ => none) (d := .tup ds) (t := t) h
  unfold tupZ at this
  injection this
theorem tups_data : ∀ {ds : List Dat} {ts : List (List Int)}, tupsD ds = .ok ts → ds = ts.map tupZ
  | [], _, h => by cases h; rfl
  | d :: ds, ts, h => by
    cases e : tupD d with
    | error x => simp only [tupsD, e, bind_er] at h; cases h
    | ok t =>
      cases e2 : tupsD ds with
      | error x => simp only [tupsD, e, bind_ok, e2, bind_er] at h; cases h
      | ok r =>
        simp only [tupsD, e, bind_ok, e2] at h
        cases h
        rw [tup_deep (F := fun _ => none) e, tups_data e2]
        rfl
theorem tupsD_err : ∀ {ds : List Dat} {e : Err}, tupsD ds = .error e → e = .stuck
  | [], _, h => by cases h
  | d :: ds, e, h => by
    cases e1 : tupD d with
    | error x =>
      simp only [tupsD, e1, bind_er] at h
      cases h
      cases d with
      | tup ds => exact intsD_err e1
      | _ => cases e1; rfl
    | ok t =>
      cases e2 : tupsD ds with
      | error x => simp only [tupsD, e1, bind_ok, e2, bind_er] at h; cases h; exact tupsD_err e2
      | ok r => simp only [tupsD, e1, bind_ok, e2] at h; cases h
end
end L2
namespace L2
open PySem PySem.Spec PyProof.Rows
noncomputable def cX (n d : Nat) : Option Int → Nat
  | none => d
  | some v => if v < 0 then (v + (n : Int)).toNat else min v.toNat n
noncomputable def cutL {α : Type} (xs : List α) (lo hi : Option Int) : List α := (xs.drop (cX xs.length 0 lo)).take (cX xs.length xs.length hi - cX xs.length 0 lo)
noncomputable def sliceD : Dat → Option Int → Option Int → M Dat
  | .lst ds, lo, hi => .ok (.lst (cutL ds lo hi))
  | .tup ds, lo, hi => if (decide (cX ds.length 0 lo = 0) && decide (cX ds.length ds.length hi = ds.length)) = true then stk else .ok (.tup (cutL ds lo hi))
  | _, _, _ => stk
noncomputable def pNone : Env' → M (Option Int) := fun _ => .ok none
noncomputable def pSome (f : Env' → M Dat) : Env' → M (Option Int) := fun ρ => (f ρ).bind fun d => (asI d).bind fun i => .ok (some i)
noncomputable def fSl (g : Dat → Option Int → Option Int → M Dat) (fa : Env' → M Dat) (fl fu : Env' → M (Option Int)) : Env' → M Dat := fun ρ => (fa ρ).bind fun a => (fl ρ).bind fun l => (fu ρ).bind fun u => g a l u
noncomputable def notBD : Dat → Dat → M Dat
  | .bl a, .bl b => .ok (.bl (a != b))
  | .non, .bl _ => .ok (.bl true)
  | .int _, .bl _ => .ok (.bl true)
  | .str _, .bl _ => .ok (.bl true)
  | .lst _, .bl _ => .ok (.bl true)
  | .tup _, .bl _ => .ok (.bl true)
  | _, _ => stk
section
variable {X : Cx} {K : PySem.W.Frag} {W : Wish} {own ro : Bool} {e a b c d : Expr} {lo hi : Option Expr} {es : List Expr} {x y : Str} {pos p p2 p3 q r t u : Pos} {f fa fb fc fd' fk : Env' → M Dat} {fl fu : Env' → M (Option Int)} {OL O : List Nat}
noncomputable def tDO (K : PySem.W.Frag) (W : Wish) (f : Env' → M (Option Int)) : TO := fun σ H Q => ∃ F ρ, RepE K F σ ρ ∧ Same F H ∧ (match f ρ with
  | .ok o => ∀ F' H', Step F H F' H' → Q o H'
  | .error e => W.p e F H)
theorem tDO_run {σ : St} {ρ : Env'} {F H : Hp} {R : Option Int → Hp → Prop} (r : RepE K F σ ρ) (s : Same F H) (hE : ∀ e, fl ρ = .error e → W.p e F H) (hO : ∀ o, fl ρ = .ok o → ∀ F1 H1, Step F H F1 H1 → R o H1) : tDO K W fl σ H R := by
  refine ⟨F, ρ, r, s, ?_⟩
  cases e : fl ρ with
  | ok d => exact hO d e
  | error x => exact hE x e
noncomputable abbrev DP (K : PySem.W.Frag) (W : Wish) (X : Cx) (e : Option Expr) (f : Env' → M (Option Int)) : Prop := PO X e (tDO K W f)
theorem PO.imp {t t' : TO} (h : PO X lo t) (q : ∀ σ H Q, t' σ H Q → t σ H Q) : PO X lo t' := fun pins s σ H Q I z => h pins s σ H Q I (q σ H Q z)
theorem dp_none : DP K W X none pNone := po_none.imp fun σ H Q ⟨F, ρ, r, s, p⟩ => p F H (Step.refl s)
theorem dp_some (h : DE K W false X e f) : DP K W X (some e) (pSome f) := (po_some h).imp fun σ H Q ⟨F, ρ, r, s, p⟩ => by
  refine tD_run r s (fun e he => ?_) fun d hd v F1 H1 s1 q1 => ?_
  · have z : pSome f ρ = .error e := by unfold pSome; rw [he]; rfl
    rw [z] at p; exact p
  · have z : pSome f ρ = (asI d).bind fun i => .ok (some i) := by unfold pSome; rw [hd]; rfl
    rw [z] at p
    cases d with
    | int i => exact ⟨i, q1, p F1 H1 s1⟩
    | _ => exact (W.ns p).elim
noncomputable def rDS (K : PySem.W.Frag) (W : Wish) (own : Bool) (g : Dat → Option Int → Option Int → M Dat) : V → Option Int → Option Int → Hp → VK → Prop := fun x lo hi H Q => ∃ F a, Same F H ∧ Deep K F a x ∧ Post K W own F H (g a lo hi) Q
theorem rd_sl {g : Dat → Option Int → Option Int → M Dat} {σ : St} {H : Hp} {Q : VK} (h : tD K W own (fSl g fa fl fu) σ H Q) : tSl (rDS K W own g) (tD K W false fa) (tDO K W fl) (tDO K W fu) σ H Q := by
  obtain ⟨F, ρ, r, s, p⟩ := h
  refine tD_run r s (fun e he => p.err (by unfold fSl; rw [he]; rfl)) fun a ha x F1 H1 s1 q1 => ?_
  refine tDO_run (r.mono s1.ff) s1.fh (fun e he => (p.step s1).err (by unfold fSl; rw [ha]; show (fl ρ).bind _ = _; rw [he]; rfl)) fun l hl F2 H2 s2 => ?_
  refine tDO_run ((r.mono s1.ff).mono s2.ff) s2.fh (fun e he => (p.step (s1.trans s2)).err (by unfold fSl; rw [ha]; show (fl ρ).bind _ = _; rw [hl]; show (fu ρ).bind _ = _; rw [he]; rfl)) fun u hu F3 H3 s3 => ?_
  refine ⟨F3, a, s3.fh, Deep.mono (s2.trans s3).ff q1, ?_⟩
  have e : fSl g fa fl fu ρ = g a l u := by unfold fSl; rw [ha]; show (fl ρ).bind _ = _; rw [hl]; show (fu ρ).bind _ = _; rw [hu]; rfl
  rw [e] at p
  exact p.step ((s1.trans s2).trans s3)
theorem de_sl {g : Dat → Option Int → Option Int → M Dat} (hr : SlR X (rDS K W own g)) (ha : DE K W false X a fa) (hl : DP K W X lo fl) (hu : DP K W X hi fu) : DE K W own X (.Subscript a (.Slice lo hi none p2) pos) (fSl g fa fl fu) := (pe_slice hr ha hl hu).imp fun _ _ _ => rd_sl
theorem cX_sIx (n d : Nat) (o : Option Int) : cX n d o = HT.sIx n d o := by cases o <;> rfl
theorem Deeps.cut {F : Hp} {ds : List Dat} {xs : List V} {l u : Option Int} (h : Deeps K F ds xs) : Deeps K F (cutL ds l u) (cutV xs l u) := by
  unfold cutL cutV
  rw [cX_sIx, cX_sIx, h.length]
  exact Deeps.take _ (Deeps.drop _ h)
theorem x_sl (hK : X.K = K := by rfl) : SlR X (rDS K W true sliceD) := by
  subst hK
  intro pins s σ H x v vl vu lo hi sl Q I rx hs pl pu h
  refine (SlR.or sl_list sl_tup) pins s σ H x v vl vu lo hi sl Q I rx hs pl pu ?_
  obtain ⟨F, a, s1, qa, p⟩ := h
  cases a with
  | lst ds =>
    obtain ⟨l, xs, e, t, z⟩ := qa
    exact .inl ⟨l, xs, e, s1.lst t, fun r hr => Post.lst p s1 z.cut hr⟩
  | tup ds =>
    obtain ⟨l, xs, e, t, z⟩ := qa
    have p' : Post X.K W true F H (if (decide (cX ds.length 0 lo = 0) && decide (cX ds.length ds.length hi = ds.length)) = true then stk else .ok (.tup (cutL ds lo hi))) Q := p
    by_cases hc : (decide (cX ds.length 0 lo = 0) && decide (cX ds.length ds.length hi = ds.length)) = true
    · rw [if_pos hc] at p'; exact p'.stuck
    · rw [if_neg hc] at p'
      refine .inr ⟨l, xs, e, s1.tup t, fun hw => hc ?_, fun r hr => Post.tup p' s1 z.cut hr⟩
      rw [cX_sIx, cX_sIx, ← z.length]
      simp only [Bool.and_eq_true, decide_eq_true_eq]
      exact hw
  | _ => exact Post.stuck p
theorem o_notB : Op2 K W own X (compareOp .IsNot) notBD := by
  intro pins s σ H x y v u Q I rx ry h
  obtain ⟨F, a, b, s1, qa, qb, p⟩ := h
  cases b with
  | bl k =>
    cases (show y = .bl k from qb)
    cases ry
    cases a with
    | bl j => cases (show x = .bl j from qa); cases rx; exact isnot_bool (fin_bl I (Post.bl p s1) rfl)
    | non => cases (show x = .non from qa); cases rx; exact wpAny_pure (fin_bl I (Post.bl p s1) rfl)
    | int j => cases (show x = .int j from qa); obtain ⟨t, rfl⟩ := rx; exact wpAny_pure (fin_bl I (Post.bl p s1) rfl)
    | str j => cases (show x = .str j from qa); obtain ⟨t, rfl⟩ := rx; exact wpAny_pure (fin_bl I (Post.bl p s1) rfl)
    | lst ds => obtain ⟨l, xs, e, _⟩ := qa; subst e; cases rx; exact wpAny_pure (fin_bl I (Post.bl p s1) rfl)
    | tup ds => obtain ⟨l, xs, e, _⟩ := qa; subst e; cases rx; exact wpAny_pure (fin_bl I (Post.bl p s1) rfl)
    | ins C fs => exact Post.stuck p
    | dic ks => exact Post.stuck p
  | _ => cases a <;> exact Post.stuck p
end
section
variable {ρ : Env'} {fa fb fc fd' : Env' → M Dat} {fl fu : Env' → M (Option Int)}
@[simp] theorem e_pNone : pNone ρ = .ok none := id rfl
@[simp] theorem e_pSome : pSome fa ρ = (fa ρ).bind fun d => (asI d).bind fun i => .ok (some i) := id rfl
@[simp] theorem e_slF (k : Dat → Option Int → Option Int → M Dat) : fSl k fa fl fu ρ = (fa ρ).bind fun a => (fl ρ).bind fun l => (fu ρ).bind fun u => k a l u := id rfl
@[simp] theorem e_sliceL (ds : List Dat) (lo hi : Option Int) : sliceD (.lst ds) lo hi = .ok (.lst (cutL ds lo hi)) := id rfl
@[simp] theorem e_notBB (a b : Bool) : notBD (.bl a) (.bl b) = .ok (.bl (a != b)) := id rfl
@[simp] theorem e_pow {i j : Int} (h0 : 0 ≤ j) (h1 : j ≤ 1000000) (h2 : i.natAbs < 2 ^ 64) : powD (.int i) (.int j) = .ok (.int (i ^ j.toNat)) := by
  show (if (decide (0 ≤ j) && decide (j ≤ 1000000) && decide (i.natAbs < 2 ^ 64)) = true then _ else _) = _
  rw [if_pos (by simp only [Bool.and_eq_true, decide_eq_true_eq]; exact ⟨⟨h0, h1⟩, h2⟩)]
@[simp] theorem e_eqII (i j : Int) : eqM (.int i) (.int j) = .ok (.bl (decide (i = j))) := by
  show Except.ok (Dat.bl (i == j)) = _
  rw [show (i == j) = decide (i = j) from rfl]
@[simp] theorem e_neII (i j : Int) : neM (.int i) (.int j) = .ok (.bl (!decide (i = j))) := by
  show Except.ok (Dat.bl (!(i == j))) = _
  rw [show (i == j) = decide (i = j) from rfl]
@[simp] theorem e_neBB (i j : Bool) : neM (.bl i) (.bl j) = .ok (.bl (!(i == j))) := id rfl
@[simp] theorem cut_take {α : Type} (xs : List α) {j : Int} (h : 0 ≤ j) : cutL xs none (some j) = xs.take j.toNat := by
  unfold cutL cX
  simp only [if_neg (show ¬ j < 0 by omega), List.drop_zero, Nat.sub_zero]
  rcases Nat.le_total j.toNat xs.length with h1 | h1
  · rw [Nat.min_eq_left h1]
  · rw [Nat.min_eq_right h1, List.take_length, List.take_of_length_le h1]
end
end L2
namespace L2
open PySem PySem.Spec PyProof.Rows
noncomputable def revD : Dat → M Dat
  | .lst ds => .ok (.lst ds.reverse)
  | _ => stk
section
variable {ρ : Env'} {fa fb : Env' → M Dat}
@[simp] theorem e_rev (ds : List Dat) : revD (.lst ds) = .ok (.lst ds.reverse) := id rfl
end
section
variable {X : Cx} {K : PySem.W.Frag} {W : Wish} {own ro : Bool} {e a b c d : Expr} {st : Option Expr} {te : TE} {tp : TO} {es : List Expr} {x y : Str} {pos p p2 p3 p4 q r t u : Pos} {f fa fb fc fk : Env' → M Dat} {fp : Env' → M (Option Int)} {OL O : List Nat}
theorem fm_range {α : Type} : ∀ l : List α, (List.range l.length).filterMap (fun k => l[k]?) = l
  | [] => rfl
  | a :: l => by
    rw [List.length_cons, List.range_succ_eq_map, List.filterMap_cons, List.filterMap_map]
    simp only [List.getElem?_cons_zero]
    congr 1
    exact fm_range l
theorem fm_congr {α β : Type} {f g : α → Option β} : ∀ {l : List α}, (∀ a ∈ l, f a = g a) → l.filterMap f = l.filterMap g
  | [], _ => rfl
  | a :: l, h => by rw [List.filterMap_cons, List.filterMap_cons, h a (by simp), fm_congr fun x hx => h x (by simp [hx])]
theorem slicePick_rev (its : List Value) : slicePick its.toArray none none (some (-1)) = its.reverse.toArray := by
  unfold slicePick sliceBounds sliceRange
  simp only [Option.getD_some, List.size_toArray]
  congr 1
  have hc : (if ((its.length : Int) - 1) > -1 then ((its.length : Int) - 1 - -1 - -1 - 1) / (- -1) else 0).toNat = its.length := by
    by_cases h : ((its.length : Int) - 1) > -1
    · rw [if_pos h, show (- -1 : Int) = 1 by decide, Int.ediv_one]; omega
    · rw [if_neg h]; omega
  simp only [show ¬ ((-1 : Int) > 0) by decide, if_false, hc, List.filterMap_map]
  have e := fm_range its.reverse
  rw [List.length_reverse] at e
  refine Eq.trans ?_ e
  refine fm_congr fun k hk => ?_
  have hk := List.mem_range.mp hk
  show its.toArray[_]? = _
  rw [List.getElem?_toArray, List.getElem?_reverse hk]
  congr 1
  show ((its.length : Int) - 1 + -1 * (k : Int)).toNat = _
  omega
noncomputable def tRv (r : V → Hp → VK → Prop) (te : TE) (tp : TO) : TE := fun σ H Q => te σ H fun x H1 => tp σ H1 fun o H2 => o = some (-1) ∧ r x H2 Q
noncomputable def rRevL (K : PySem.W.Frag) : V → Hp → VK → Prop := fun x H Q => ∃ a xs, x = .ref a ∧ SqL K H a xs ∧ ∀ p, H p = none → Q (.ref p) (upd H p (.lst xs.reverse))
theorem pe_rev (he : PE X e te) (hp : PO X (some d) tp) : PE X (.Subscript e (.Slice none none (some d) p2) pos) (tRv (rRevL X.K) te tp) := by
  intro pins s σ H Q I h
  refine Subscript_ (thn (he pins s σ H _ I h) fun v s1 ⟨x, H1, I1, r1, q1⟩ => ?_)
  refine wpAny_Slice ?_
  rw [evalPart_none]
  refine wpAny_pure (wpAny_pure (thn (hp pins s1 σ H1 _ I1 q1) fun vp s3 ⟨o, H3, I3, pp, q3⟩ => ?_))
  obtain ⟨rfl, l, xs, rfl, hx, q⟩ := q3
  cases r1
  have I4 : Inv X pins σ H3 { s3 with heap := s3.heap.push { cls := .type "slice", data := .fields #[.none, .none, vp] } } := I3.kept (t' := s3.toks) fun b ob q => Heap.get?_push_of_some _ q
  obtain ⟨its, r, ht, hz⟩ := I4.list hx
  have hlen := r.length
  have hg : wpAny (model X.prog X.w) X.A (getItem (.ref l) (.ref s3.heap.objs.size)) (EP X pins σ Q) X.xe { s3 with heap := s3.heap.push { cls := .type "slice", data := .fields #[.none, .none, vp] } } := by
    refine wpAny_getItem_list_slice ht.isList (Heap.IsSliceOf.new ..) .none .none pp (by decide) ?_ (by rw [List.size_toArray] <;> omega)
    rw [slicePick_rev]
    refine ⟨.ref (s3.heap.push { cls := .type "slice", data := .fields #[.none, .none, vp] }).objs.size, _, I4.laid (t' := s3.toks) (o := .lst xs.reverse) (fun b ob q => Heap.get?_push_of_some _ q) (Nat.le_refl _) ?_, rfl, q _ (I4.hok.fresh (Nat.le_refl _))⟩
    exact ⟨by rw [List.length_reverse]; exact hz, _, 0, r.reverse, Heap.get?_push_size _ rfl⟩
  show wpAny (model X.prog X.w) X.A (subscriptTail e (.Slice none none (some d) p2) (.ref l) (.ref s3.heap.objs.size)) (EP X pins σ Q) X.xe { s3 with heap := s3.heap.push { cls := .type "slice", data := .fields #[.none, .none, vp] } }
  exact tail_any (ops := [.ref l, .ref s3.heap.objs.size]) ht.isList.typeIs slot_list_getitem.lookup hg (by with_unfolding_all rfl)
theorem de_rev {j} (ha : DE K W false X a fa) (hK : X.K = K := by rfl) : DE K W true X (.Subscript a (.Slice none none (some (.UnaryOp .USub (.Constant (.int 1) j p3) p4)) p2) pos) (f1 revD fa) := by
  subst hK
  refine PE.imp (pe_rev ha (dp_some (K := X.K) (W := W) (de_un o_neg de_int))) fun σ H Q h => ?_
  obtain ⟨F, ρ, r, s, p⟩ := h
  refine tD_run r s (fun e he => p.err (by unfold f1; rw [he]; rfl)) fun a ha x F1 H1 s1 q1 => ?_
  refine ⟨F1, ρ, r.mono s1.ff, s1.fh, ?_⟩
  show ∀ F' H', Step F1 H1 F' H' → _
  intro F2 H2 s2
  refine ⟨rfl, ?_⟩
  have e : f1 revD fa ρ = revD a := by unfold f1; rw [ha]; rfl
  rw [e] at p
  have p := p.step (s1.trans s2)
  cases a with
  | lst ds =>
    obtain ⟨l, xs, e, t, z⟩ := q1
    exact ⟨l, xs, e, s2.fh.lst (s2.ff.lst t), fun r hr => Post.lst p s2.fh (Deeps.reverse (z.mono s2.ff)) hr⟩
  | _ => exact Post.stuck p
end
end L2
namespace L2
open PySem PySem.Spec PyProof.Rows
section
variable {X : Cx} {K : PySem.W.Frag} {W : Wish} {own ro : Bool} {e o a b c d : Expr} {es : List Expr} {x y m : Str} {pos p p2 apos : Pos} {f fa fo : Env' → M Dat} {fr : Env' → M (List Dat)} {OL O O' : List Nat} {C C2 : Addr} {Cs : List Addr}
end
end L2
namespace L2
open PySem PySem.Spec PyProof.Rows
end L2
namespace L2
open PySem PySem.Spec PyProof.Rows
end L2
namespace L2
open PySem PySem.Spec PyProof.Rows
end L2
namespace L2
open PySem PySem.Spec PyProof.Rows
section
variable {X : Cx} {K : PySem.W.Frag} {W : Wish} {own ro : Bool}
open Classical in
end
end L2
namespace L2
open PySem PySem.Spec PyProof.Rows
noncomputable abbrev ZRec (h : Heap) (z p q : Addr) (m k : Value) : Prop := h.get? z = some { cls := .type "zip", dict := none, data := .fields #[m, k, .bool false, .ref p, .ref q], slots := #[] }
structure Zs (z p q u v l m : Addr) (r k a b : Value) (i j : Nat) (xs ys : Array Value) (h : Heap) : Prop where
  me : ZRec h z p q r k
  its : IsPair h p (.ref u) (.ref v)
  own : IsPair h q a b
  one : h.IsListIter u l i
  two : h.IsListIter v m j
  xl : h.IsList l xs
  yl : h.IsList m ys
noncomputable def Off (z q u v : Addr) (h h' : Heap) : Prop := ∀ c o, c ≠ z → c ≠ q → c ≠ u → c ≠ v → h.get? c = some o → h'.get? c = some o
section
variable {z p q u v l m : Addr} {r k a b : Value} {i j n : Nat} {xs ys : Array Value} {h h' g : Heap}
theorem Off.refl : Off z q u v h h := fun _ _ _ _ _ _ e => e
theorem Off.then (A : Off z q u v h h') (B : Off z q u v h' g) : Off z q u v h g := fun c o a b d e x => B c o a b d e (A c o a b d e x)
end
inductive Mem : Value → Prop
  | no : Mem .none
  | was (a : Int) (t : Tok) : Mem (.int a t)
end L2
namespace L2
open PySem PySem.Spec PyProof.Rows
inductive Laid2 : Hp → List (V × V) → List V → Hp → Prop
  | nil {G : Hp} : Laid2 G [] [] G
  | cons {G G' : Hp} {T : Addr} {x y : V} {ps : List (V × V)} {vs : List V} : G T = none → Laid2 (upd G T (.tup [x, y])) ps vs G' → Laid2 G ((x, y) :: ps) (.ref T :: vs) G'
end L2
namespace L2
open PySem PySem.Spec PyProof.Rows
end L2
namespace L2
open PySem PySem.Spec PyProof.Rows
structure Owns (K : PySem.W.Frag) (F G H : Hp) (ds : List Dat) (vs : List V) : Prop where
  len : vs.length = ds.length
  get : ∀ (k : Nat) (d : Dat), ds[k]? = some d → ∃ a xs es, vs[k]? = some (.ref a) ∧ d = .lst es ∧ H a = some (.lst xs) ∧ F a = none ∧ G a = none ∧ Deeps K F es xs
  ap : ∀ (j k : Nat) (a : Addr), vs[j]? = some (.ref a) → vs[k]? = some (.ref a) → j = k
section
variable {K : PySem.W.Frag} {F G H F' H' : Hp} {ds : List Dat} {vs : List V}
theorem Owns.back {G' : Hp} (o : Owns K F G H ds vs) (s : Same G' G) : Owns K F G' H ds vs where
  len := o.len
  get := fun k d e => by
    obtain ⟨a, xs, es, h1, h2, h3, h4, h5, h6⟩ := o.get k d e
    exact ⟨a, xs, es, h1, h2, h3, h4, s.free h5, h6⟩
  ap := o.ap
end
end L2
namespace L2
open PySem PySem.Spec PyProof.Rows
end L2
namespace L2
open PySem PySem.Spec PyProof.Rows
structure Ys (z p q u v l m : Addr) (r k a b : Value) (i j : Nat) (xs ys : Array Value) (h : Heap) : Prop where
  me : ZRec h z p q r k
  its : IsPair h p (.ref u) (.ref v)
  own : IsPair h q a b
  one : h.IsTupleIter u l i
  two : h.IsTupleIter v m j
  xl : h.IsTuple l xs
  yl : h.IsTuple m ys
end L2
namespace L2
open PySem PySem.Spec PyProof.Rows
structure RepR (K : PySem.W.Frag) (F0 H0 FB : Hp) (i : Nat) (a : Addr) (ys : List V) (rs : List Dat) (F H : Hp) (σ : St) (ρ : Env') : Prop where
  r : Rep K F0 H0 FB [] F H σ ρ
  sl : σ[i]? = some (some (.ref a))
  hp : H a = some (.lst ys)
  fa : F a = none
  ha : H0 a = none
  nm : ∀ m : Nat, ys[m]? ≠ some (.ref a)
  ow : Owns K F H0 H rs ys
section
variable {K : PySem.W.Frag} {F0 H0 FB F H F1 H1 : Hp} {i : Nat} {a : Addr} {ys : List V} {rs : List Dat} {σ : St} {ρ : Env'}
theorem RepR.base {FB' : Hp} (h : RepR K F0 H0 FB i a ys rs F H σ ρ) (s : Same FB' FB) : RepR K F0 H0 FB' i a ys rs F H σ ρ := ⟨h.r.base s, h.sl, h.hp, h.fa, h.ha, h.nm, h.ow⟩
end
end L2
namespace L2
open PySem PySem.Spec PyProof.Rows
section
variable {κ : Type} [DecidableEq κ]
theorem RelO.getD {o : Option V} {u : Option Value} {d : V} {d' : Value} (r : RelO o u) (rd : RelV d d') : RelV (o.getD d) (u.getD d') := by
  cases o with
  | none => cases u with
    | none => exact rd
    | some _ => exact (show False from r).elim
  | some _ => cases u with
    | none => exact (show False from r).elim
    | some _ => exact r
theorem KV.length {kvs : List (κ × V)} {vs : List (κ × Value)} (r : KV kvs vs) : kvs.length = vs.length := Paired.length r
end
structure M1 (X : Cx) (o : Expr) (m : Str) (apos : Pos) (e : Expr) (cpos : Pos) : Prop where
  base : attributeBase o m X.env (eval o X.env) = eval o X.env
  few : ((backTo cpos (starEach [e] X.env)).all (fun x => !x.1) && (backToKw cpos (keywordEach [] X.env)).all (fun x => x.1.isSome)
    && decide (([e] : List Expr).length + ([] : List Keyword).length + (if ([] : List Keyword).isEmpty then 0 else 1) < 30)) = true
  line : (apos.endLine == cpos.line) = true
  trees : backTo cpos (starEach [e] X.env) = [(false, eval e X.env)]
structure M2 (X : Cx) (o : Expr) (m : Str) (apos : Pos) (e f : Expr) (cpos : Pos) : Prop where
  base : attributeBase o m X.env (eval o X.env) = eval o X.env
  few : ((backTo cpos (starEach [e, f] X.env)).all (fun x => !x.1) && (backToKw cpos (keywordEach [] X.env)).all (fun x => x.1.isSome)
    && decide (([e, f] : List Expr).length + ([] : List Keyword).length + (if ([] : List Keyword).isEmpty then 0 else 1) < 30)) = true
  line : (apos.endLine == cpos.line) = true
  trees : backTo cpos (starEach [e, f] X.env) = [(false, eval e X.env), (false, eval f X.env)]
end L2
namespace L2
open PySem PySem.Spec PyProof.Rows
noncomputable def keysI (ks : List Int) : List (Key × V) := ks.map fun k => (Sum.inl k, .bl true)
structure RepK (K : PySem.W.Frag) (F0 H0 FB : Hp) (i : Nat) (a : Addr) (ks : List Int) (F H : Hp) (σ : St) (ρ : Env') : Prop where
  r : Rep K F0 H0 FB [] F H σ ρ
  sl : σ[i]? = some (some (.ref a))
  hp : H a = some (.dK (keysI ks))
  fa : F a = none
  ha : H0 a = none
end L2
namespace L2
open PySem PySem.Spec PyProof.Rows
structure ExA (h : Heap) (e : Addr) (C : Value) (dx hd : Option Addr) : Prop where
  ob : ∃ oe vs, h.get? e = some oe ∧ oe.cls = C ∧ oe.dict = dx ∧ oe.data = .fields vs ∧ vs[1]? = some (hd.elim Value.none Value.ref)
  tb : ∀ T, hd = some T → T ≠ e ∧ ∃ oT ts, h.get? T = some oT ∧ oT.data = .fields ts ∧ ts[3]? = some .none
section
variable {M : Model} {A : Around} {E : Value → Shared → Prop} {s : Shared}
structure Left (fs : List Addr) (e : Addr) (hd : Option Addr) (h h' : Heap) : Prop where
  keep : ∀ b o, h.get? b = some o → b ∉ fs → b ≠ e → (∀ T, hd = some T → b ≠ T) → h'.get? b = some o
  slot : ∀ b o, h.get? b = some o → b ∈ fs → ∃ sl, h'.get? b = some { o with slots := sl }
  size : h.objs.size ≤ h'.objs.size
end
end L2
namespace L2
open PySem PySem.Spec PyProof.Rows
structure CXs (P : Program) (w : World) (outer : List Env) (H : Hp) (s : Shared) (E : XK) (a T : Addr) (C : Value) (dx : Option Addr) (H' : Hp) (s' : Shared) : Prop where
  ex : ExA s'.heap a C dx (some T)
  na : s.heap.get? a = none
  nT : s.heap.get? T = none
  fa : H' a = none
  fT : H' T = none
  os : s'.os = s.os
  bare : AllBare s'.gens
  un : Un (frs outer) [] H H' s.heap s'.heap
  hok : HOk P w H' s'.heap
  want : E C dx H'
end L2
namespace L2
open PySem PySem.Spec PyProof.Rows
end L2
namespace L2
open PySem PySem.Spec PyProof.Rows
end L2
namespace L2
open PySem PySem.Spec PyProof.Rows
section
variable {X : Cx} {pins : List (Addr × Obj)} {σ : St} {H : Hp} {s : Shared} {a : Addr} {C : Value} {dx hd : Option Addr}
structure Apart (X : Cx) (pins : List (Addr × Obj)) (H : Hp) (s : Shared) (a : Addr) (hd : Option Addr) : Prop where
  na : X.s₀.heap.get? a = none
  fa : H a = none
  pa : ∀ p ∈ X.pn ++ pins, p.1 ≠ a
  nT : ∀ T, hd = some T → X.s₀.heap.get? T = none ∧ H T = none ∧ ∀ p ∈ X.pn ++ pins, p.1 ≠ T
end
end L2
namespace L2
open PySem PySem.Spec PyProof.Rows
end L2
namespace L2
open PySem PySem.Spec PyProof.Rows
noncomputable def XNamed (K : PySem.W.Frag) (C : Addr) (bmB : List Value) : Prop := ∀ h : Heap, K.In h → ∃ tl N nm qn bs hdct sn sub ab col dd k0 k1 k2 k3 k5 newId, h.get? C = some (excClassObj nm qn C N bs tl hdct sn sub ab col dd k0 k1 k2 k3 k5 newId) ∧ OwnTail h bmB tl
noncomputable abbrev Cx.hand (X : Cx) (a : Addr) (oe : Obj) : Cx := { X with A := X.A.mark (some (.ref a)), calm := false, xe := fun _ _ => False, pn := (a, oe) :: X.pn }
end L2
namespace L2
open PySem PySem.Spec PyProof.Rows
end L2
namespace L2
open PySem PySem.Spec PyProof.Rows
end L2
namespace L2
open PySem PySem.Spec PyProof.Rows
section
open PySem.W
variable {prog : Program} {w : World} {A : Around} {E : Value → Shared → Prop} {h : Heap} {g : Array GenState} {d : Drawn} {t : Nat} {os : OsState} {a C : Addr} {oe : Obj} {od : Option Obj} {K : Frag} {bmB : List Value} {B : String}
theorem xcls_by {tk : Tok} {Q : Value → Shared → Prop} (FB : ExcAttrBase B bmB) (kX : K.In h) (I : W.InstAt h a oe C od) (e1 : findIn K (.ref C) "__getattribute__" = some (some (.builtin "BaseException.__getattribute__")))
    (e3 : findIn K (.ref C) "__getattr__" = some none)
    (hq : ∀ R : Result → Shared → Prop, R (.ok (.ret (.ref C))) ⟨h, g, d, t, os⟩ → codeAny (model prog w) A (.call (.builtin "BaseException.__getattribute__") ⟨[.ref a, .str "__class__" tk], []⟩) R ⟨h, g, d, t, os⟩) (q : Q (.ref C) ⟨h, g, d, t, os⟩) :
    wpAny (model prog w) A (getAttrBy (.ref a) (.str "__class__" tk) false) Q E ⟨h, g, d, t, os⟩ := by
  have m0 := I.type (M := model prog w)
  have m1 := looks_findIn (M := model prog w) kX e1
  have L2 := looks_findIn (M := model prog w) kX e3
  have b3 := FB.ga.bind (.ref a)
  have nx : (Value.builtin "BaseException.__getattribute__" == Value.builtin "object.__getattribute__") = false := by decide +kernel
  unfold getAttrBy
  repeat (any_goals (first | assumption | with_reducible refine m0.at ?_ | with_reducible refine m1.at ?_ | with_reducible refine L2.at ?_ | wp_step))
  all_goals (refine hq _ ?_)
  repeat (any_goals (first | wp_step | assumption))
theorem xcls_check {M : Model} {nameV : Value} {Q : Unit → Shared → Prop} (kX : K.In h) (I : W.InstAt h a oe C od) (hb : mroIn K C (.type "BaseException") = some true) (hq : Q () ⟨h, g, d, t, os⟩) :
    wpAny M A (checkBuiltinCall "BaseException.__getattribute__" ⟨[.ref a, nameV], []⟩) Q E ⟨h, g, d, t, os⟩ := by
  have kd : builtinKind "BaseException.__getattribute__" = some .slot := by decide +kernel
  have hs : splitId "BaseException.__getattribute__" = some ("BaseException", "__getattribute__") := by decide +kernel
  have m0 := I.type (M := M)
  have m1 := looks_mroIn (M := M) kX hb
  have ag := F.args_bexc_ga (.ref a) nameV
  simp only [checkBuiltinCall, hs, kd]
  refine wpAny_bind ?_
  unfold isInstance
  repeat (first | with_reducible refine m0.at ?_ | with_reducible refine m1.at ?_ | wp_step)
  exact hq
theorem xcls_entry {tk : Tok} {Q : Fin → Shared → Prop} (kX : K.In h) (I : W.InstAt h a oe C od) (e2 : findIn K (.ref C) "__class__" = some (some (.builtin "object.__class__"))) (hm : mroIn K C (.type "object") = some true) (hq : Q (.done (.ret (.ref C))) ⟨h, g, d, t, os⟩) :
    wpAny (model prog w) A (Builtin.«object.__getattribute__» ⟨[.ref a, .str "__class__" tk], []⟩) Q E ⟨h, g, d, t, os⟩ := by
  have tc : Shared.TypeIs ⟨h, g, d, t, os⟩ (.builtin "object.__class__") "getset_descriptor" := F.typeOf_object_class
  have m0 := I.type (M := model prog w)
  have m1 := looks_findIn (M := model prog w) kX e2
  have p5 := F.typeOf_object_class
  have p6 := F.slot_gs_get.lookup
  have p7 := F.slot_gs_set.lookup
  repeat (any_goals (first | assumption | with_reducible refine m0.at ?_ | with_reducible refine m1.at ?_ | wp_step))
  refine W.class_get (s := ⟨h, g, d, t, os⟩) kX I hm ?_
  repeat (any_goals (first | wp_step | assumption))
theorem xcls_attr {Q : Option Value → Shared → Prop} (FB : ExcAttrBase B bmB) (kX : K.In h) (I : W.InstAt h a oe C od) (e1 : findIn K (.ref C) "__getattribute__" = some (some (.builtin "BaseException.__getattribute__"))) (e2 : findIn K (.ref C) "__class__" = some (some (.builtin "object.__class__"))) (e3 : findIn K (.ref C) "__getattr__" = some none)
    (hb : mroIn K C (.type "BaseException") = some true) (hm : mroIn K C (.type "object") = some true) (hq : Q (some (.ref C)) ⟨h, g, d, t + 1, os⟩) : wpAny (model prog w) A (getAttr? (.ref a) "__class__") Q E ⟨h, g, d, t, os⟩ := by
  unfold getAttr? getAttrBy?
  refine wpAny_bind (wpAny_mkText (wpAny_bind (wpAny_attempt (xcls_by FB kX I e1 e3 (fun R hR => codeAny_call_builtin FB.ga.plain F.entry_bexc_ga (xcls_check kX I hb (xcls_entry kX I e2 hm hR))) ?_))))
  exact wpAny_pure hq
structure XIsi (K : Frag) (C : Addr) : Prop where
  ga : findIn K (.ref C) "__getattribute__" = some (some (.builtin "BaseException.__getattribute__"))
  cl : findIn K (.ref C) "__class__" = some (some (.builtin "object.__class__"))
  gt : findIn K (.ref C) "__getattr__" = some none
  bs : mroIn K C (.type "BaseException") = some true
  ob : mroIn K C (.type "object") = some true
  is : ∃ cd, clsIn K C = some cd
theorem kitx_exc (FB : ExcAttrBase B bmB) (Z : XIsi K C) : KitX K (.ref a) (.ref C) (fun h => W.InstAt h a oe C od) where
  ty := fun _ _ _ I => I.type
  it := fun _ _ X _ => by
    obtain ⟨cd, hc⟩ := Z.is
    unfold clsIn at hc
    split at hc
    · next ho =>
      intro A' Q' E' s' k q
      unfold isType loadHead
      refine wpAny_bind (wpAny_loadPart (k C _ (X C _ ho)) ?_)
      exact wpAny_pure q
    · cases hc
  ne := fun hh tq d1 is n1 s1 X htp => by
    obtain ⟨cd, hc⟩ := Z.is
    refine Bool.eq_false_iff.mpr (fun q => ?_)
    have e : C = tq := Value.ref.inj (beq_iff_eq.mp q)
    subst e
    unfold clsIn at hc
    split at hc
    · next ho =>
      cases (X C _ ho).symm.trans htp
    · cases hc
  ca := fun {_ _ _ _ _ s} X I k => by
    obtain ⟨h, g, d, t, os⟩ := s
    exact xcls_attr FB X I Z.ga Z.cl Z.gt Z.bs Z.ob k
end
theorem refs_are : ∀ {ys : List Addr} {its : List Value}, Vals (ys.map V.ref) its → its = ys.map Value.ref
  | [], _, .nil => rfl
  | y :: ys, _, .cons r rs => by rw [refs_are rs, show _ = Value.ref y from r]; rfl
section
variable {X : Cx} {C a : Addr} {oe : Obj} {B : String} {bmB : List Value}
theorem c_isiX (FB : ExcAttrBase B bmB) (Z : XIsi X.K C) (hc : oe.cls = .ref C) (hd : ∃ vs, oe.data = .fields vs) (hn : oe.dict = none) : CallR (X.hand a oe) (.builtin "isinstance") (fun xs H Q => ∃ v b, xs = [.ref a, v] ∧
    ((∃ c, RelV v c ∧ (∀ u, RelV v u → u = c) ∧ PySem.W.kitOne X.K (.ref C) c = some b) ∨ ∃ (tp : Addr) (ys : List Addr), v = .ref tp ∧ H tp = some (.tup (ys.map V.ref)) ∧ PySem.W.kitAny X.K (.ref C) (ys.map Value.ref) = some b) ∧ Q (.bl b) H) := by
  intro pins s σ H xs us Q I r h
  obtain ⟨v, b, rfl, h1, q⟩ := h
  obtain ⟨u, w, rfl, ru, rw'⟩ := r.two
  cases (show u = Value.ref a from ru)
  have pa := (I.pin (a, oe) (List.mem_cons_self ..)).1
  obtain ⟨vs, hdt⟩ := hd
  have J : PySem.W.InstAt s.heap a oe C none := ⟨pa, hc, by unfold PySem.W.notCls; rw [hdt], by rw [hn]; trivial⟩
  rcases h1 with ⟨c, rc, uniq, e⟩ | ⟨tp, ys, rfl, ht, e⟩
  · cases uniq w rw'
    exact PySem.W.kia_one (kitx_exc FB Z) I.kIn J e (fun z => nomatch z) fun tk => ⟨.bl b, H, I.tok tk, rfl, q⟩
  · cases (show w = Value.ref tp from rw')
    obtain ⟨_, its, rv, ob, z1, z2⟩ := (show ObjOk X.prog X.w H s.heap tp (.tup (ys.map V.ref)) from I.hok tp _ ht)
    obtain ⟨z3, n, z4⟩ := z2
    have ei : its = ys.map Value.ref := refs_are rv
    subst ei
    obtain ⟨oc, odd, odt, osl⟩ := ob
    have z5 : oc = Value.type "tuple" := z3
    have z6 : odt = .seq (ys.map Value.ref).toArray n := z4
    subst z5 z6
    exact PySem.W.kia_tup (kitx_exc FB Z) I.kIn J z1 e (fun z => nomatch z) fun tk => ⟨.bl b, H, I.tok tk, rfl, q⟩
end
end L2
namespace L2
open PySem PySem.Spec PyProof.Rows
noncomputable def tIsiX (i : Nat) (a : Addr) (b : Bool) : TE := fun σ H Q => σ[i]? = some (some (.ref a)) ∧ Q (.bl b) H
noncomputable def tIsiT (i : Nat) (a : Addr) (ys : List Addr) (b : Bool) : TE := fun σ H Q => σ[i]? = some (some (.ref a)) ∧ ∀ p, H p = none → Q (.bl b) (upd H p (.tup (ys.map V.ref)))
section
variable {X : Cx} {C a D : Addr} {oe : Obj} {B : String} {bmB : List Value} {i : Nat} {n x y T : Str} {p p1 p2 pos : Pos} {b : Bool}
theorem pe_isiO (FB : ExcAttrBase B bmB) (Z : XIsi X.K C) (hc : oe.cls = .ref C) (hd : ∃ vs, oe.data = .fields vs) (hn : oe.dict = none) (hm : X.mg "isinstance" = none) (hD : X.mg y = some (.ref D)) (hb : PySem.W.kitOne X.K (.ref C) (.ref D) = some b)
    (hN : X.N[i]? = some n := by rfl) (hv : Vis X.env.scope n := by first | exact Or.inl rfl | exact Or.inr (Or.inl rfl) | exact Or.inr (Or.inr rfl)) (hd1 : (n == ("__debug__" : Str)) = false := by decide) (hd2 : (n == ("__classdict__" : Str)) = false := by decide)
    (hg : Gl (X.hand a oe) "isinstance" := by rfl) (hgD : Gl (X.hand a oe) y := by rfl) (hd3 : (y == ("__debug__" : Str)) = false := by decide)
    (hst : starEach [.Name n p1, .Name y p2] X.env = [(false, eval (.Name n p1) X.env), (false, eval (.Name y p2) X.env)] := by rfl) (hst2 : starEach [.Name y p2] X.env = [(false, eval (.Name y p2) X.env)] := by rfl) (hpl : (backTo pos (starEach [.Name y p2] X.env)).any (·.1) = false := by rfl) :
    PE (X.hand a oe) (.Call (.Name "isinstance" p) [.Name n p1, .Name y p2] [] pos) (tIsiX i a b) := by
  have vD : PE (X.hand a oe) (.Name y p2) (tC (.ref D)) := fun pins s σ H Q I h => ld_glob I hgD hD ⟨.ref D, H, I, rfl, h⟩ hd3
  refine PE.imp (pe_callB (X := X.hand a oe) (c_isiX FB Z hc hd hn) hg hm boot_isinstance (pa_cons (pv i hN hv hd1 hd2) (pa_cons vD pa_nil hst2) (by rw [hst, hst2])) (by decide) (by decide) (by rw [hst, hst2]) hpl) fun σ H Q h => ?_
  obtain ⟨e1, q⟩ := h
  exact ⟨.ref a, e1, .ref D, b, rfl, .inl ⟨.ref D, rfl, fun u hu => hu, hb⟩, q⟩
end
noncomputable def tRefs (ys : List Addr) : TA := fun _ H Q => Q (ys.map V.ref) H
section
variable {X : Cx} {C a D : Addr} {oe : Obj} {B : String} {bmB : List Value} {i : Nat} {n x y : Str} {T : String} {p p1 p2 pos : Pos} {b : Bool} {ys : List Addr} {es : List Expr}
theorem pe_isiB (FB : ExcAttrBase B bmB) (Z : XIsi X.K C) (hc : oe.cls = .ref C) (hd : ∃ vs, oe.data = .fields vs) (hn : oe.dict = none) (hm : X.mg "isinstance" = none) (hmT : X.mg y = none) (hvT : bootBuiltins y = some (.type T)) (hb : PySem.W.kitOne X.K (.ref C) (.type T) = some b)
    (hN : X.N[i]? = some n := by rfl) (hv : Vis X.env.scope n := by first | exact Or.inl rfl | exact Or.inr (Or.inl rfl) | exact Or.inr (Or.inr rfl)) (hd1 : (n == ("__debug__" : Str)) = false := by decide) (hd2 : (n == ("__classdict__" : Str)) = false := by decide)
    (hg : Gl (X.hand a oe) "isinstance" := by rfl) (hgT : Gl (X.hand a oe) y := by rfl) (hy : y ≠ "__name__" := by decide) (hd3 : (y == ("__debug__" : Str)) = false := by decide)
    (hst : starEach [.Name n p1, .Name y p2] X.env = [(false, eval (.Name n p1) X.env), (false, eval (.Name y p2) X.env)] := by rfl) (hst2 : starEach [.Name y p2] X.env = [(false, eval (.Name y p2) X.env)] := by rfl) (hpl : (backTo pos (starEach [.Name y p2] X.env)).any (·.1) = false := by rfl) :
    PE (X.hand a oe) (.Call (.Name "isinstance" p) [.Name n p1, .Name y p2] [] pos) (tIsiX i a b) := by
  refine PE.imp (pe_callB (X := X.hand a oe) (c_isiX FB Z hc hd hn) hg hm boot_isinstance (pa_cons (pv i hN hv hd1 hd2) (pa_cons (pe_tyN (X := X.hand a oe) (pos := p2) hgT hmT hvT hy hd3) pa_nil hst2) (by rw [hst, hst2])) (by decide) (by decide) (by rw [hst, hst2]) hpl) fun σ H Q h => ?_
  obtain ⟨e1, q⟩ := h
  exact ⟨.ref a, e1, .ty T, b, rfl, .inl ⟨.type T, rfl, fun u hu => hu, hb⟩, q⟩
theorem pe_isiT {j} (FB : ExcAttrBase B bmB) (Z : XIsi X.K C) (hc : oe.cls = .ref C) (hd : ∃ vs, oe.data = .fields vs) (hn : oe.dict = none) (hm : X.mg "isinstance" = none) (hT : PA (X.hand a oe) es (tRefs ys)) (hl : ys.length ≤ sizeLine) (hb : PySem.W.kitAny X.K (.ref C) (ys.map Value.ref) = some b)
    (hN : X.N[i]? = some n := by rfl) (hv : Vis X.env.scope n := by first | exact Or.inl rfl | exact Or.inr (Or.inl rfl) | exact Or.inr (Or.inr rfl)) (hd1 : (n == ("__debug__" : Str)) = false := by decide) (hd2 : (n == ("__classdict__" : Str)) = false := by decide)
    (hg : Gl (X.hand a oe) "isinstance" := by rfl)
    (hst : starEach [.Name n p1, .Tuple es j p2] X.env = [(false, eval (.Name n p1) X.env), (false, eval (.Tuple es j p2) X.env)] := by rfl) (hst2 : starEach [.Tuple es j p2] X.env = [(false, eval (.Tuple es j p2) X.env)] := by rfl) (hpl : (backTo pos (starEach [.Tuple es j p2] X.env)).any (·.1) = false := by rfl) :
    PE (X.hand a oe) (.Call (.Name "isinstance" p) [.Name n p1, .Tuple es j p2] [] pos) (tIsiT i a ys b) := by
  refine PE.imp (pe_callB (X := X.hand a oe) (c_isiX FB Z hc hd hn) hg hm boot_isinstance (pa_cons (pv i hN hv hd1 hd2) (pa_cons (pe_tup hT) pa_nil hst2) (by rw [hst, hst2])) (by decide) (by decide) (by rw [hst, hst2]) hpl) fun σ H Q h => ?_
  obtain ⟨e1, q⟩ := h
  exact ⟨.ref a, e1, by rw [List.length_map]; exact hl, fun tp htp => ⟨.ref tp, b, rfl, .inr ⟨tp, ys, rfl, upd_same, hb⟩, q tp htp⟩⟩
end
end L2
namespace L2
open PySem PySem.Spec PyProof.Rows
end L2
namespace L2
open PySem PySem.Spec PyProof.Rows
end L2
namespace L2
open PySem PySem.Spec PyProof.Rows
theorem Rep.back {K : PySem.W.Frag} {F0 H0 F1 H1 FB F H : Hp} {O : List Nat} {σ : St} {ρ : Env'} (r : Rep K F1 H1 FB O F H σ ρ) (s : Step F0 H0 F1 H1) : Rep K F0 H0 FB O F H σ ρ :=
  ⟨s.trans r.st, r.fb, r.len, r.fz, fun i d e h => let ⟨v, z, q⟩ := r.ow i d e h; ⟨v, z, q.back s.hh⟩, r.ap⟩
end L2
namespace L2
open PySem PySem.Spec PyProof.Rows
noncomputable def excIn2 (K : PySem.W.Frag) (C : Addr) (bmB : List Value) (newId : String) (f : Addr) : Bool := match K.lookup C with
  | some ⟨.type "type", _, .cls cd, sl⟩ =>
      (match cd.mro, sl.toList with
    | .ref C' :: tl, [_, _, _, _, some (.builtin n), _] => (n == newId && C' == C && !cd.hasDel) && (PySem.W.nsOkIn K cd.ns && PySem.W.tailIn K bmB tl) && (PySem.W.nsIn K cd.ns "__init__" == some (some (.ref f)))
    | _, _ => false)
  | _ => false
end L2
namespace L2
open PySem PySem.Spec PyProof.Rows
noncomputable def veTail : List Value → Bool
  | .ref _ :: r => veTail r
  | [.type a, .type b, .type c, .type d] => a == "ValueError" && b == "Exception" && c == "BaseException" && d == "object"
  | _ => false
structure XFld (K : PySem.W.Frag) (C : Addr) (f : Str) : Prop where
  sa : PySem.W.findIn K (.ref C) "__setattr__"
      = some (some (.builtin "object.__setattr__"))
  no : PySem.W.findIn K (.ref C) f = some none
  cd : ((PySem.W.clsIn K C).any fun cd => veTail cd.mro && cd.hasDict) = true
section
open PySem.W
variable {prog : Program} {w : World} {A : Around} {E : Value → Shared → Prop} {s : Shared} {a C : Addr} {oe : Obj} {od : Option Obj} {K : Frag} {f : Str} {v : Value}
end
end L2
namespace L2
open PySem PySem.Spec PyProof.Rows
section
open PySem.W
variable {prog : Program} {w : World} {A : Around} {E : Value → Shared → Prop} {s : Shared} {a C : Addr} {oe od : Obj} {K : Frag} {f : Str} {v : Value} {B : String} {bmB : List Value}
end
end L2
namespace L2
open PySem PySem.Spec PyProof.Rows
end L2
namespace L2
open PySem PySem.Spec PyProof.Rows
end L2
namespace L2
open PySem PySem.Spec PyProof.Rows
structure XMk (K : PySem.W.Frag) (mg : Str → Option Value) (x : Str) (C f : Addr) : Prop where
  mg : mg x = some (.ref C)
  ex : excIn2 K C [.type "ValueError", .type "Exception", .type "BaseException", .type "object"] "ValueError.__new__" f = true
  fn : PySem.W.typeIn K (.ref f) = some (.type "function")
  kp : PySem.W.keepIn K (.ref C)
      = true
structure XTry (K : PySem.W.Frag) (mg : Str → Option Value) (x : Str) (C : Addr) : Prop where
  mg : mg x = some (.ref C)
  nm : XNamed K C [.type "ValueError", .type "Exception", .type "BaseException", .type "object"]
  isi : XIsi K C
end L2
namespace L2
open PySem PySem.Spec PyProof.Rows
end L2
namespace L2
open PySem PySem.Spec PyProof.Rows
noncomputable def isi_strD : Dat → M Dat
  | .str _ => .ok (.bl true)
  | .ins _ _ => stk
  | .dic _ => stk
  | _ => .ok (.bl false)
section
variable {X : Cx} {K : PySem.W.Frag} {W : Wish} {own : Bool} {a : Expr} {fa : Env' → M Dat} {pos p p2 : Pos}
theorem c_isi_str (kit : Kit K) (hK : X.K = K := by rfl) : CallR X (.builtin "isinstance") (fun xs H Q => ∃ v, xs = [v, .ty "str"] ∧ rD1 K W own isi_strD v H Q) := by
  subst hK
  intro pins s σ H xs us Q I r h; obtain ⟨v, rfl, F, d, s1, q, p⟩ := h
  obtain ⟨u, w, rfl, ru, rw'⟩ := r.two
  cases (show w = Value.type "str" from rw')
  by_cases hi : (∃ C fs, d = .ins C fs) ∨ ∃ ks, d = .dic ks
  · rcases hi with ⟨C, fs, rfl⟩ | ⟨ks, rfl⟩ <;> exact Post.stuck p
  · refine isi_D I s1 q ru kit.q_int_str kit.q_bool_str kit.q_list_str kit.q_tuple_str kit.q_str_str kit.q_NoneType_str (fun k tk hk => ⟨.bl k, H, I.tok tk, rfl, ?_⟩) (fun C fs e => hi (.inl ⟨C, fs, e⟩)) (fun ks e => hi (.inr ⟨ks, e⟩))
    cases d <;> first | (have hk' : k = _ := hk; subst hk'; exact Post.bl (own := own) p s1) | exact absurd (.inl ⟨_, _, rfl⟩) hi | exact absurd (.inr ⟨_, rfl⟩) hi
theorem de_isi_str (kit : Kit K) (hm : X.mg "isinstance" = none) (hmT : X.mg "str" = none) (ha : DE K W false X a fa) (hK : X.K = K := by rfl)
    (hg : Gl X "isinstance" := by rfl) (hgT : Gl X "str" := by rfl)
    (hst : starEach [a, .Name "str" p2] X.env = [(false, eval a X.env), (false, eval (.Name "str" p2) X.env)] := by rfl) (hst2 : starEach [.Name "str" p2] X.env = [(false, eval (.Name "str" p2) X.env)] := by rfl) (hpl : (backTo pos (starEach [.Name "str" p2] X.env)).any (·.1) = false := by rfl) :
    DE K W own X (.Call (.Name "isinstance" p) [a, .Name "str" p2] [] pos) (f1 isi_strD fa) := de_isi (c_isi_str kit hK) hm hmT (by decide +kernel) ha hg hgT (by decide) (by decide) hst hst2 hpl
end
end L2
namespace L2
open PySem PySem.Spec PyProof.Rows
noncomputable def rIsi (K : PySem.W.Frag) (C a : Addr) (R : Hp → Prop) : List V → Hp → VK → Prop := fun xs H Q => R H ∧ ∃ v b, xs = [.ref a, v] ∧
    ((∃ c, RelV v c ∧ (∀ u, RelV v u → u = c) ∧ PySem.W.kitOne K (.ref C) c = some b) ∨ ∃ (tp : Addr) (ys : List Addr), v = .ref tp ∧ H tp = some (.tup (ys.map V.ref)) ∧ PySem.W.kitAny K (.ref C) (ys.map Value.ref) = some b) ∧ Q (.bl b) H
noncomputable def XDk (d : Addr) : Hp → Prop := fun H => ∃ gs, H d = some (.xd gs)
noncomputable def tIsiR (i : Nat) (a : Addr) (R : Hp → Prop) (b : Bool) : TE := fun σ H Q => σ[i]? = some (some (.ref a)) ∧ R H ∧ Q (.bl b) H
noncomputable def tIsiTR (i : Nat) (a : Addr) (R : Hp → Prop) (ys : List Addr) (b : Bool) : TE := fun σ H Q => σ[i]? = some (some (.ref a)) ∧ ∀ p, H p = none → R (upd H p (.tup (ys.map V.ref))) ∧ Q (.bl b) (upd H p (.tup (ys.map V.ref)))
section
variable {X : Cx} {C a d D : Addr} {oe : Obj} {B : String} {bmB : List Value} {R : Hp → Prop}
theorem c_isiD (FB : ExcAttrBase B bmB) (Z : XIsi X.K C) (hc : oe.cls = .ref C) (hd : ∃ vs, oe.data = .fields vs) (hx : oe.dict = some d) : CallR (X.hand a oe) (.builtin "isinstance") (rIsi X.K C a (XDk d)) := by
  intro pins s σ H xs us Q I r h; obtain ⟨⟨gs, hg⟩, v, b, rfl, h1, q⟩ := h
  obtain ⟨u, w, rfl, ru, rw'⟩ := r.two
  cases (show u = Value.ref a from ru)
  have pa := (I.pin (a, oe) (List.mem_cons_self ..)).1
  obtain ⟨vs, hdt⟩ := hd
  obtain ⟨mA, ⟨od, es, ep, ho, hrest⟩, _⟩ := (show ObjOk X.prog X.w H s.heap d (.xd gs) from I.hok d _ hg)
  have J : PySem.W.InstAt s.heap a oe C (some od) := ⟨pa, hc, by unfold PySem.W.notCls; rw [hdt], by rw [hx]; exact ho⟩
  rcases h1 with ⟨c, rc, uniq, e⟩ | ⟨tp, ys, rfl, ht, e⟩
  · cases uniq w rw'
    exact PySem.W.kia_one (kitx_exc FB Z) I.kIn J e (fun z => nomatch z) fun tk => ⟨.bl b, H, I.tok tk, rfl, q⟩
  · cases (show w = Value.ref tp from rw')
    obtain ⟨_, its, rv, ob, z1, z2⟩ := (show ObjOk X.prog X.w H s.heap tp (.tup (ys.map V.ref)) from I.hok tp _ ht)
    obtain ⟨z3, n, z4⟩ := z2
    have ei : its = ys.map Value.ref := refs_are rv
    subst ei
    obtain ⟨oc, odd, odt, osl⟩ := ob
    have z5 : oc = Value.type "tuple" := z3
    have z6 : odt = .seq (ys.map Value.ref).toArray n := z4
    subst z5 z6
    exact PySem.W.kia_tup (kitx_exc FB Z) I.kIn J z1 e (fun z => nomatch z) fun tk => ⟨.bl b, H, I.tok tk, rfl, q⟩
end
section
variable {X : Cx} {C a D : Addr} {oe : Obj} {R : Hp → Prop} {i : Nat} {n y : Str} {T : String} {p p1 p2 pos : Pos} {b : Bool} {ys : List Addr} {es : List Expr}
theorem pe_isO (hcr : CallR (X.hand a oe) (.builtin "isinstance") (rIsi X.K C a R)) (hm : X.mg "isinstance" = none) (hD : X.mg y = some (.ref D)) (hb : PySem.W.kitOne X.K (.ref C) (.ref D) = some b)
    (hN : X.N[i]? = some n := by rfl) (hv : Vis X.env.scope n := by first | exact Or.inl rfl | exact Or.inr (Or.inl rfl) | exact Or.inr (Or.inr rfl)) (hd1 : (n == ("__debug__" : Str)) = false := by decide) (hd2 : (n == ("__classdict__" : Str)) = false := by decide)
    (hg : Gl (X.hand a oe) "isinstance" := by rfl) (hgD : Gl (X.hand a oe) y := by rfl) (hd3 : (y == ("__debug__" : Str)) = false := by decide)
    (hst : starEach [.Name n p1, .Name y p2] X.env = [(false, eval (.Name n p1) X.env), (false, eval (.Name y p2) X.env)] := by rfl) (hst2 : starEach [.Name y p2] X.env = [(false, eval (.Name y p2) X.env)] := by rfl) (hpl : (backTo pos (starEach [.Name y p2] X.env)).any (·.1) = false := by rfl) :
    PE (X.hand a oe) (.Call (.Name "isinstance" p) [.Name n p1, .Name y p2] [] pos) (tIsiR i a R b) := by
  have vD : PE (X.hand a oe) (.Name y p2) (tC (.ref D)) := fun pins s σ H Q I h => ld_glob I hgD hD ⟨.ref D, H, I, rfl, h⟩ hd3
  refine PE.imp (pe_callB (X := X.hand a oe) hcr hg hm boot_isinstance (pa_cons (pv i hN hv hd1 hd2) (pa_cons vD pa_nil hst2) (by rw [hst, hst2])) (by decide) (by decide) (by rw [hst, hst2]) hpl) fun σ H Q h => ?_
  obtain ⟨e1, hR, q⟩ := h
  exact ⟨.ref a, e1, hR, .ref D, b, rfl, .inl ⟨.ref D, rfl, fun u hu => hu, hb⟩, q⟩
theorem pe_isB (hcr : CallR (X.hand a oe) (.builtin "isinstance") (rIsi X.K C a R)) (hm : X.mg "isinstance" = none) (hmT : X.mg y = none) (hvT : bootBuiltins y = some (.type T)) (hb : PySem.W.kitOne X.K (.ref C) (.type T) = some b)
    (hN : X.N[i]? = some n := by rfl) (hv : Vis X.env.scope n := by first | exact Or.inl rfl | exact Or.inr (Or.inl rfl) | exact Or.inr (Or.inr rfl)) (hd1 : (n == ("__debug__" : Str)) = false := by decide) (hd2 : (n == ("__classdict__" : Str)) = false := by decide)
    (hg : Gl (X.hand a oe) "isinstance" := by rfl) (hgT : Gl (X.hand a oe) y := by rfl) (hy : y ≠ "__name__" := by decide) (hd3 : (y == ("__debug__" : Str)) = false := by decide)
    (hst : starEach [.Name n p1, .Name y p2] X.env = [(false, eval (.Name n p1) X.env), (false, eval (.Name y p2) X.env)] := by rfl) (hst2 : starEach [.Name y p2] X.env = [(false, eval (.Name y p2) X.env)] := by rfl) (hpl : (backTo pos (starEach [.Name y p2] X.env)).any (·.1) = false := by rfl) :
    PE (X.hand a oe) (.Call (.Name "isinstance" p) [.Name n p1, .Name y p2] [] pos) (tIsiR i a R b) := by
  refine PE.imp (pe_callB (X := X.hand a oe) hcr hg hm boot_isinstance (pa_cons (pv i hN hv hd1 hd2) (pa_cons (pe_tyN (X := X.hand a oe) (pos := p2) hgT hmT hvT hy hd3) pa_nil hst2) (by rw [hst, hst2])) (by decide) (by decide) (by rw [hst, hst2]) hpl) fun σ H Q h => ?_
  obtain ⟨e1, hR, q⟩ := h
  exact ⟨.ref a, e1, hR, .ty T, b, rfl, .inl ⟨.type T, rfl, fun u hu => hu, hb⟩, q⟩
theorem pe_isT {j} (hcr : CallR (X.hand a oe) (.builtin "isinstance") (rIsi X.K C a R)) (hm : X.mg "isinstance" = none) (hT : PA (X.hand a oe) es (tRefs ys)) (hl : ys.length ≤ sizeLine) (hb : PySem.W.kitAny X.K (.ref C) (ys.map Value.ref) = some b)
    (hN : X.N[i]? = some n := by rfl) (hv : Vis X.env.scope n := by first | exact Or.inl rfl | exact Or.inr (Or.inl rfl) | exact Or.inr (Or.inr rfl)) (hd1 : (n == ("__debug__" : Str)) = false := by decide) (hd2 : (n == ("__classdict__" : Str)) = false := by decide)
    (hg : Gl (X.hand a oe) "isinstance" := by rfl)
    (hst : starEach [.Name n p1, .Tuple es j p2] X.env = [(false, eval (.Name n p1) X.env), (false, eval (.Tuple es j p2) X.env)] := by rfl) (hst2 : starEach [.Tuple es j p2] X.env = [(false, eval (.Tuple es j p2) X.env)] := by rfl) (hpl : (backTo pos (starEach [.Tuple es j p2] X.env)).any (·.1) = false := by rfl) :
    PE (X.hand a oe) (.Call (.Name "isinstance" p) [.Name n p1, .Tuple es j p2] [] pos) (tIsiTR i a R ys b) := by
  refine PE.imp (pe_callB (X := X.hand a oe) hcr hg hm boot_isinstance (pa_cons (pv i hN hv hd1 hd2) (pa_cons (pe_tup hT) pa_nil hst2) (by rw [hst, hst2])) (by decide) (by decide) (by rw [hst, hst2]) hpl) fun σ H Q h => ?_
  obtain ⟨e1, q⟩ := h
  exact ⟨.ref a, e1, by rw [List.length_map]; exact hl, fun tp htp => ⟨(q tp htp).1, .ref tp, b, rfl, .inr ⟨tp, ys, rfl, upd_same, hb⟩, (q tp htp).2⟩⟩
end
end L2
namespace L2
open PySem PySem.Spec PyProof.Rows
end L2
namespace L2
open PySem PySem.Spec PyProof.Rows
structure Yd (P : Program) (w : World) (K : PySem.W.Frag) (mg : Str → Option Value) (base : Heap) (CX : CXT) (k : Nat) (x : Str) (st : Stmt) (ps : List Str) (sp : Sp) (f : Addr) (fd : FuncData) : Prop where
  d : Def K mg x st ps f fd
  o : FnOk P w K mg base CX k f fd ps sp
end L2
namespace L2
open PySem PySem.Spec PyProof.Rows
section
open PySem.W
variable {M : Model} {A : Around} {E : Value → Shared → Prop} {h : Heap} {g : Array GenState} {d : Drawn} {t : Nat} {os : OsState} {a C Cb : Addr} {oe : Obj} {K : Frag}
end
structure XUnder (K : PySem.W.Frag) (C Cb : Addr) : Prop where
  sub : PySem.W.mroIn K C (.ref Cb) = some true
  isi : XIsi K C
structure XBase (K : PySem.W.Frag) (mg : Str → Option Value) (x : Str) (Cb : Addr) : Prop where
  mg : mg x = some (.ref Cb)
  ty : PySem.W.typeIn K (.ref Cb) = some (.type "type")
  bs : PySem.W.mroIn K Cb (.type "BaseException") = some true
noncomputable def XR : Option Addr → Hp → Prop
  | none => fun _ => True
  | some d => XDk d
section
variable {X : Cx} {C a : Addr} {oe : Obj} {B : String} {bmB : List Value}
theorem c_isiA (FB : ExcAttrBase B bmB) (Z : XIsi X.K C) (hc : oe.cls = .ref C) (hd : ∃ vs, oe.data = .fields vs) : CallR (X.hand a oe) (.builtin "isinstance") (rIsi X.K C a (XR oe.dict)) := by
  cases hx : oe.dict with
  | none => exact fun pins s σ H xs us Q I r h => c_isiX FB Z hc hd hx pins s σ H xs us Q I r h.2
  | some d => exact c_isiD FB Z hc hd hx
end
structure XTell (K : PySem.W.Frag) (C : Addr) (A1 A2 A3 : Addr) (T : String) (ys : List Addr) (bs : List Bool) : Prop where
  ex : ∃ b1 b2 b3 b4 b5, bs = [b1, b2, b3, b4, b5] ∧ PySem.W.kitOne K (.ref C) (.ref A1) = some b1 ∧ PySem.W.kitOne K (.ref C) (.ref A2) = some b2 ∧ PySem.W.kitOne K (.ref C) (.ref A3) = some b3 ∧ PySem.W.kitOne K (.ref C) (.type T) = some b4 ∧ PySem.W.kitAny K (.ref C) (ys.map Value.ref) = some b5
structure XTxt (K : PySem.W.Frag) (mg : Str → Option Value) (x : Str) (C : Addr) : Prop where
  mg : mg x = some (.ref C)
  ex : PySem.W.excIn K C [.type "ValueError", .type "Exception", .type "BaseException", .type "object"] "ValueError.__new__" = true
end L2
namespace L2
open PySem PySem.Spec PyProof.Rows
section
open PySem.W
variable {M : Model} {A : Around} {E : Value → Shared → Prop} {h : Heap} {g : Array GenState} {d : Drawn} {t : Nat} {os : OsState} {a C Cb : Addr} {oe : Obj} {K : Frag}
end
structure XTwo (K : PySem.W.Frag) (mg : Str → Option Value) (c1 c2 : Str) (C1 C2 : Addr) : Prop where
  b1 : XBase K mg c1 C1
  b2 : XBase K mg c2 C2
  isi : XIsi K C1
  s1 : PySem.W.mroIn K C1 (.ref C1) = some true
  s2 : PySem.W.mroIn K C2 (.ref C2) = some true
  no : PySem.W.mroIn K C2 (.ref C1) = some false
end L2
namespace L2
open PySem PySem.Spec PyProof.Rows
end L2
namespace L2
open PySem PySem.Spec PyProof.Rows
section
open PySem.SetTable
end
section
open PySem
variable {prog : Program} {w : World} {A : Around} {E : Value → Shared → Prop} {s : Shared}
end
section
open PySem
variable {prog : Program} {w : World} {A : Around} {R : Result → Shared → Prop} {I : Addr} {fp wr : List Addr} {G : Array GenState → Array GenState → Prop} {n : Nat} {P : Nat → Value → Prop} {St : Nat → Shared → Prop} {b : Bool}
end
section
open PySem
variable {prog : Program} {w : World} {A : Around} {E : Value → Shared → Prop} {s : Shared}
end
section
open PySem
end
section
open PySem
variable {prog : Program} {w : World} {A : Around} {E : Value → Shared → Prop} {s : Shared} {I a T : Addr} {es : Array (Int × Value)} {ep n i : Nat} {t : SetTable}
end
section
open PySem
variable {prog : Program} {w : World} {A : Around} {E : Value → Shared → Prop} {s : Shared} {I a T : Addr} {es : Array (Int × Value)} {ep n i : Nat} {t : SetTable}
end
section
open PySem
variable {prog : Program} {w : World} {A : Around} {E : Value → Shared → Prop} {s : Shared} {a : Addr}
end
end L2
namespace L2
open PySem PySem.Spec PyProof.Rows
section
open PySem.W
variable {prog : Program} {w : World} {A : Around} {E : Value → Shared → Prop} {s : Shared}
end
end L2
namespace L2
open PySem PySem.Spec PyProof.Rows
end L2
namespace L2
open PySem PySem.Spec PyProof.Rows
end L2
namespace L2
open PySem PySem.Spec PyProof.Rows
end L2
namespace L2
open PySem PySem.Spec PyProof.Rows
structure Abt (p : Addr) (F H F' H' : Hp) : Prop where
  ff : Same F F'
  fh : Same F' H'
  fp : F' p = none
  nw : ∀ b o, F' b = some o → F b = some o ∨ H b = none
  hh : ∀ c o, H c = some o → c ≠ p → H' c = some o
section
variable {X : Cx} {K : PySem.W.Frag} {own ro : Bool} {e o a : Expr} {es : List Expr} {x m : Str} {pos p apos : Pos} {f fo : Env' → M Dat} {fr : Env' → M (List Dat)} {C C2 : Addr} {E : XK} {CX : CXT}
end
end L2
namespace L2
open PySem PySem.Spec PyProof.Rows
noncomputable def isiC (tb : List (Addr × Bool)) : Dat → M Dat
  | .ins C _ => match tb.lookup C with
    | some b => .ok (.bl b)
    | none => stk
  | _ => stk
section
variable {X : Cx} {K : PySem.W.Frag} {W : Wish} {own : Bool} {a : Expr} {fa : Env' → M Dat} {pos p p2 : Pos} {y : Str} {D : Addr} {tb : List (Addr × Bool)}
theorem c_isiC (hT : ∀ C b, tb.lookup C = some b → (∃ x, Kls K X.mg x C) ∧ PySem.W.kitOne K (.ref C) (.ref D) = some b) (hK : X.K = K := by rfl) : CallR X (.builtin "isinstance") (fun xs H Q => ∃ v, xs = [v, .ref D] ∧ rD1 K W own (isiC tb) v H Q) := by
  subst hK
  intro pins s σ H xs us Q I r h
  obtain ⟨v, rfl, F, d, s1, q, p⟩ := h
  obtain ⟨u, w, rfl, ru, rw'⟩ := r.two
  cases (show w = Value.ref D from rw')
  cases d with
  | ins C fs =>
    cases hl : tb.lookup C with
    | none =>
      have p : Post X.K W own F H (match tb.lookup C with
        | some b => .ok (.bl b)
        | none => stk) Q := p
      rw [hl] at p
      exact Post.stuck p
    | some b =>
      have p : Post X.K W own F H (match tb.lookup C with
        | some b => .ok (.bl b)
        | none => stk) Q := p
      rw [hl] at p
      obtain ⟨⟨x, hk⟩, hb⟩ := hT C b hl
      obtain ⟨l, dx, gs, e1, ea, df⟩ := q
      subst e1
      exact isinst_ok I ru (hk.ty (s1 _ _ ea)) hb fun tk => ⟨.bl b, H, I.tok tk, rfl, Post.bl (own := own) p s1⟩
  | _ => exact Post.stuck p
theorem de_isiC (hT : ∀ C b, tb.lookup C = some b → (∃ x, Kls K X.mg x C) ∧ PySem.W.kitOne K (.ref C) (.ref D) = some b) (hm : X.mg "isinstance" = none) (hD : X.mg y = some (.ref D)) (ha : DE K W false X a fa) (hK : X.K = K := by rfl)
    (hg : Gl X "isinstance" := by rfl) (hgT : Gl X y := by rfl) (hd : (y == ("__debug__" : Str)) = false := by decide)
    (hst : starEach [a, .Name y p2] X.env = [(false, eval a X.env), (false, eval (.Name y p2) X.env)] := by rfl) (hst2 : starEach [.Name y p2] X.env = [(false, eval (.Name y p2) X.env)] := by rfl) (hpl : (backTo pos (starEach [.Name y p2] X.env)).any (·.1) = false := by rfl) :
    DE K W own X (.Call (.Name "isinstance" p) [a, .Name y p2] [] pos) (f1 (isiC tb) fa) :=
  (pe_callB (c_isiC hT hK) hg hm boot_isinstance (pa_cons ha (pa_cons (pe_glob (v := .ref D) (pos := p2) hgT hD rfl hd) pa_nil hst2) (by rw [hst, hst2])) (by decide) (by decide) (by rw [hst, hst2]) hpl).imp fun σ H Q h => by
    obtain ⟨F, ρ, r, s, q⟩ := rd_1 h
    refine ⟨F, ρ, r, s, ?_⟩
    cases e1 : fa ρ with
    | error z => rw [e1] at q; exact q
    | ok d => rw [e1] at q; exact fun v F' H' st z => ⟨v, rfl, q v F' H' st z⟩
end
end L2
namespace L2
open PySem PySem.Spec PyProof.Rows
end L2
namespace L2
open PySem PySem.Spec PyProof.Rows
end L2
namespace L2
open PySem PySem.Spec PyProof.Rows
theorem DeepK.length {K : PySem.W.Frag} {F : Hp} : ∀ {ks : List (List Int × Dat)} {xs : List DRow}, DeepK K F ks xs → xs.length = ks.length
  | [], _, h => by rw [show _ = [] from h]; rfl
  | (k, d) :: ks, _, ⟨b, v, r, e, t, q, z⟩ => by rw [e, List.length_cons, List.length_cons, DeepK.length z]
section
variable {X : Cx} {pins : List (Addr × Obj)} {σ : St} {H : Hp} {s : Shared} {a b : Addr} {xs : List DRow} {ep : Nat} {k : List Int}
theorem dic_ok (I : Inv X pins σ H s) (e : H a = some (DicO a xs ep)) : DicOk s.heap a xs ep := (show DicOk s.heap a xs ep ∧ _ from I.hok a _ e).1
end
end L2
namespace L2
open PySem PySem.Spec PyProof.Rows
end L2
namespace L2
open PySem PySem.Spec PyProof.Rows
end L2
namespace L2
open PySem PySem.Spec PyProof.Rows
end L2
namespace L2
open PySem PySem.Spec PyProof.Rows
end L2
namespace L2
open PySem PySem.Spec PyProof.Rows
section
open PySem
variable {prog : Program} {w : World} {A : Around} {E : Value → Shared → Prop}
end
section
open PySem
variable {prog : Program} {w : World} {A : Around} {E : Value → Shared → Prop} {R : Result → Shared → Prop}
end
end L2
namespace L2
open PySem PySem.Spec PyProof.Rows
section
open PySem
variable {prog : Program} {w : World} {A : Around} {E : Value → Shared → Prop} {s : Shared}
end
end L2
namespace L2
open PySem PySem.Spec PyProof.Rows
end L2
namespace L2
open PySem PySem.Spec PyProof.Rows
end L2
namespace L2
open PySem PySem.Spec PyProof.Rows
structure KitD (K : PySem.W.Frag) : Prop where
  i : PySem.W.kitOne K (.type "dict") (.type "int") = some false
  b : PySem.W.kitOne K (.type "dict") (.type "bool") = some false
noncomputable def isi_intE : Dat → M Dat
  | .int _ => .ok (.bl true)
  | .bl _ => .ok (.bl true)
  | .ins _ _ => stk
  | _ => .ok (.bl false)
noncomputable def isi_boolE : Dat → M Dat
  | .bl _ => .ok (.bl true)
  | .ins _ _ => stk
  | _ => .ok (.bl false)
section
variable {X : Cx} {K : PySem.W.Frag} {W : Wish} {own : Bool} {a : Expr} {p p2 pos : Pos} {fa : Env' → M Dat} {pins : List (Addr × Obj)} {σ : St} {F H : Hp} {s : Shared}
theorem isi_dic {T : String} {ks : List (List Int × Dat)} {x : V} {u : Value} {Q : Value → Shared → Prop} (I : Inv X pins σ H s) (hF : Same F H) (q : Deep X.K F (.dic ks) x) (r : RelV x u)
    (hd : PySem.W.kitOne X.K (.type "dict") (.type T) = some false) (h : ∀ tk, Q (.bool false) { s with toks := tk }) : wpAny (model X.prog X.w) X.A (call (.builtin "isinstance") [u, .type T]) Q X.xe s := by
  obtain ⟨l, xs, e, ⟨ep, t⟩, _⟩ := q
  subst e
  cases r
  obtain ⟨_, _, _, _, _, o, _, h1, h2, _⟩ := dic_ok I (hF _ _ t)
  exact PySem.W.kia_one PySem.W.kitx_dict I.kIn ⟨o, h1, h2.1⟩ hd (fun z => nomatch z) fun tk => h tk
theorem c_isi_intE (kit : Kit K) (kd : KitD K) (hK : X.K = K := by rfl) : CallR X (.builtin "isinstance") (fun xs H Q => ∃ v, xs = [v, .ty "int"] ∧ rD1 K W own isi_intE v H Q) := by
  intro pins s σ H xs us Q I r h
  obtain ⟨v, rfl, F, d, s1, q, p⟩ := h
  cases d with
  | dic ks =>
    subst hK
    obtain ⟨u, w, rfl, ru, rw'⟩ := r.two
    cases (show w = Value.type "int" from rw')
    exact isi_dic I s1 q ru kd.i fun tk => ⟨.bl false, H, I.tok tk, rfl, Post.bl (own := own) p s1⟩
  | _ => exact c_isi_int (W := W) (own := own) kit hK pins s σ H _ _ Q I r ⟨v, rfl, F, _, s1, q, p⟩
theorem c_isi_boolE (kit : Kit K) (kd : KitD K) (hK : X.K = K := by rfl) : CallR X (.builtin "isinstance") (fun xs H Q => ∃ v, xs = [v, .ty "bool"] ∧ rD1 K W own isi_boolE v H Q) := by
  intro pins s σ H xs us Q I r h
  obtain ⟨v, rfl, F, d, s1, q, p⟩ := h
  cases d with
  | dic ks =>
    subst hK
    obtain ⟨u, w, rfl, ru, rw'⟩ := r.two
    cases (show w = Value.type "bool" from rw')
    exact isi_dic I s1 q ru kd.b fun tk => ⟨.bl false, H, I.tok tk, rfl, Post.bl (own := own) p s1⟩
  | _ => exact c_isi_bool (W := W) (own := own) kit hK pins s σ H _ _ Q I r ⟨v, rfl, F, _, s1, q, p⟩
theorem de_isi_intE (kit : Kit K) (kd : KitD K) (hm : X.mg "isinstance" = none) (hmT : X.mg "int" = none) (ha : DE K W false X a fa) (hK : X.K = K := by rfl)
    (hg : Gl X "isinstance" := by rfl) (hgT : Gl X "int" := by rfl)
    (hst : starEach [a, .Name "int" p2] X.env = [(false, eval a X.env), (false, eval (.Name "int" p2) X.env)] := by rfl) (hst2 : starEach [.Name "int" p2] X.env = [(false, eval (.Name "int" p2) X.env)] := by rfl) (hpl : (backTo pos (starEach [.Name "int" p2] X.env)).any (·.1) = false := by rfl) :
    DE K W own X (.Call (.Name "isinstance" p) [a, .Name "int" p2] [] pos) (f1 isi_intE fa) := de_isi (c_isi_intE kit kd hK) hm hmT (by decide +kernel) ha hg hgT (by decide) (by decide) hst hst2 hpl
theorem de_isi_boolE (kit : Kit K) (kd : KitD K) (hm : X.mg "isinstance" = none) (hmT : X.mg "bool" = none) (ha : DE K W false X a fa) (hK : X.K = K := by rfl)
    (hg : Gl X "isinstance" := by rfl) (hgT : Gl X "bool" := by rfl)
    (hst : starEach [a, .Name "bool" p2] X.env = [(false, eval a X.env), (false, eval (.Name "bool" p2) X.env)] := by rfl) (hst2 : starEach [.Name "bool" p2] X.env = [(false, eval (.Name "bool" p2) X.env)] := by rfl) (hpl : (backTo pos (starEach [.Name "bool" p2] X.env)).any (·.1) = false := by rfl) :
    DE K W own X (.Call (.Name "isinstance" p) [a, .Name "bool" p2] [] pos) (f1 isi_boolE fa) := de_isi (c_isi_boolE kit kd hK) hm hmT (by decide +kernel) ha hg hgT (by decide) (by decide) hst hst2 hpl
end
end L2
namespace L2
open PySem PySem.Spec PyProof.Rows
end L2
namespace L2
open PySem PySem.Spec PyProof.Rows
end L2
namespace L2
open PySem PySem.Spec PyProof.Rows
section
open PySem.W hiding kindOf
noncomputable def gallop' : Bool → Keyed → Array Keyed → Nat → Nat → Nat → StateT SortSt Sem (Option Nat) := sortPriv% PySem.Builtin.gallop
noncomputable def mergeLo' : Array Keyed → Array Keyed → StateT SortSt Sem (Array Keyed) := sortPriv% PySem.Builtin.mergeLo
noncomputable def mergeHi' : Array Keyed → Array Keyed → StateT SortSt Sem (Array Keyed) := sortPriv% PySem.Builtin.mergeHi
variable {prog : Program} {w : World} {A : Around} {E : Value → Shared → Prop} {s : Shared} {κ : SortKind} {f : Nat → Keyed} {key : Nat → Int} {n : Nat}
noncomputable def LtOk (prog : Program) (w : World) (A : Around) (E : Value → Shared → Prop) (s : Shared) (κ : SortKind) (f : Nat → Keyed) (key : Nat → Int) (n : Nat) : Prop :=
  ∀ i j (Q : Option Bool → SortSt → Prop) st, i < n → j < n → kindOf st = κ → Q (some (ltK key i j)) st → wpS (model prog w) A E s (lt' (f i) (f j)) Q st
noncomputable def InN (n : Nat) (p : List Nat) : Prop := ∀ x ∈ p, x < n
theorem wpS_elem {l : List Nat} {i x : Nat} {Q : Keyed → SortSt → Prop} {st : SortSt} (hx : l[i]? = some x) (h : Q (f x) st) : wpS (model prog w) A E s (elem' (l.map f).toArray i) Q st := by
  rw [elem'_eq]
  have e : (l.map f).toArray[i]? = some (f x) := by simp [hx]
  rw [e]
  exact wpS_pure h
theorem wp_gallop (L : LtOk prog w A E s κ f key n) {left : Bool} {q : Nat} {p : List Nat} {base m hint : Nat} {st : SortSt} {Q : Option Nat → SortSt → Prop} (hq : q < n) (hp : InN n p) (hb : base + m ≤ p.length) (hh : hint < m) (hk : kindOf st = κ)
    (hs : ∀ i j, i ≤ j → j < m → key (p.getD (base + i) 0) ≤ key (p.getD (base + j) 0))
    (h : ∀ k, k ≤ m → (∀ i, i < k → (if left = true then ltK key (p.getD (base + i) 0) q else !ltK key q (p.getD (base + i) 0)) = true) → (∀ i, k ≤ i → i < m → (if left = true then ltK key (p.getD (base + i) 0) q else !ltK key q (p.getD (base + i) 0)) = false) → Q (some k) st) :
    wpS (model prog w) A E s (gallop' left (f q) (p.map f).toArray base m hint) Q st := by
  obtain ⟨bd, ebd⟩ : ∃ bd : Nat → Bool, bd = fun i => if left = true then ltK key (p.getD (base + i) 0) q else !ltK key q (p.getD (base + i) 0) := ⟨_, rfl⟩
  have h' : ∀ k, k ≤ m → (∀ i, i < k → bd i = true) → (∀ i, k ≤ i → i < m → bd i = false) → Q (some k) st := by rw [ebd]; exact h
  have mono : ∀ i j, i ≤ j → j < m → bd j = true → bd i = true := fun i j hij hj e => by
    have := hs i j hij hj
    rw [ebd] at e ⊢
    dsimp only at e ⊢
    unfold ltK at e ⊢
    cases left <;> simp [-List.getD_eq_getElem?_getD] at e ⊢ <;> omega
  have mono' : ∀ i j, i ≤ j → j < m → bd i = false → bd j = false := fun i j hij hj e => by
    cases ej : bd j with
    | false => rfl
    | true => rw [mono i j hij hj ej] at e; exact e
  have hby : ∀ (i : Nat) (R : Option Bool → SortSt → Prop), i < m → R (some (bd i)) st → wpS (model prog w) A E s (do
      let x ← elem' (p.map f).toArray (base + i)
      if left = true then lt' x (f q) else do
        let l ← lt' (f q) x
        pure (Option.map (fun b => !b) l)) R st := fun i R hi hr => by
    have hl : base + i < p.length := by omega
    have hx : p[base + i]? = some (p.getD (base + i) 0) := by simp [hl]
    have hxn : p.getD (base + i) 0 < n := hp _ (by rw [show p.getD (base + i) 0 = p[base + i] by simp [hl]]; exact List.getElem_mem hl)
    refine wpS_bind (wpS_elem hx ?_)
    rw [ebd] at hr
    dsimp only at hr
    cases left with
    | true => exact L _ _ _ _ hxn hq hk hr
    | false => exact wpS_bind (L _ _ _ _ hq hxn hk (wpS_pure hr))
  refine wpS_bind (hby hint _ hh ?_)
  dsimp only
  have bin : ∀ lo hi, lo ≤ hi → hi ≤ m → (∀ i, i < lo → bd i = true) → (∀ i, hi ≤ i → i < m → bd i = false) → ∀ {F : Nat → Option (Option Nat) × Nat × Nat → StateT SortSt Sem (ForInStep (Option (Option Nat) × Nat × Nat))}, (∀ x lo hi (R : ForInStep (Option (Option Nat) × Nat × Nat) → SortSt → Prop), lo ≤ hi → hi ≤ m → (lo ≥ hi → R (.done (none, lo, hi)) st) → (lo < hi → bd (lo + (hi - lo) / 2) = true → R (.yield (none, lo + (hi - lo) / 2 + 1, hi)) st) → (lo < hi → bd (lo + (hi - lo) / 2) = false → R (.yield (none, lo, lo + (hi - lo) / 2)) st) → wpS (model prog w) A E s (F x (none, lo, hi)) R st) →
      wpS (model prog w) A E s (forIn [0:m] (none, lo, hi) F) (fun c st' => st' = st ∧ ∃ lo k, c = (none, lo, k) ∧ Q (some k) st) st := fun lo hi h1 h2 h3 h4 F hF => by
    refine wpS_forRange (I := fun x c st' => st' = st ∧ ∃ lo hi, c = (none, lo, hi) ∧ lo ≤ hi ∧ hi ≤ m ∧ hi - lo + x ≤ m ∧ (∀ i, i < lo → bd i = true) ∧ (∀ i, hi ≤ i → i < m → bd i = false)) ?step ?fin ⟨rfl, lo, hi, rfl, h1, h2, by omega, h3, h4⟩
    case fin =>
      rintro c st' ⟨rfl, lo, hi, rfl, a1, a2, a3, a4, a5⟩
      have : lo = hi := by omega
      subst this
      exact ⟨rfl, _, _, rfl, h' lo a2 a4 a5⟩
    case step =>
      rintro x c st' _ hx ⟨rfl, lo, hi, rfl, a1, a2, a3, a4, a5⟩
      refine hF x lo hi _ a1 a2 (fun e => ?_) (fun e eb => ?_) (fun e eb => ?_)
      · have : lo = hi := by omega
        subst this
        exact ⟨rfl, _, _, rfl, h' lo a2 a4 a5⟩
      · exact ⟨rfl, _, _, rfl, by omega, a2, by omega, fun i hi' => mono i _ (by omega) (by omega) eb, a5⟩
      · exact ⟨rfl, _, _, rfl, by omega, by omega, by omega, a4, fun i h5 h6 => mono' _ i h5 h6 eb⟩
  cases hr : bd hint with
  | true =>
    simp only [if_true]
    refine wpS_bind (wpS_mono (wpS_forRange (I := fun x c st' => st' = st ∧ ∃ la o, c = (none, la, o) ∧ bd (hint + la) = true ∧ la < o ∧ la < m - hint ∧ x + 1 ≤ o)
      (Q := fun c st' => st' = st ∧ ∃ la o, c = (none, la, o) ∧ bd (hint + la) = true ∧ la < o ∧ la < m - hint ∧ (o < m - hint → bd (hint + o) = false)) ?step ?fin ⟨rfl, 0, 1, rfl, hr, by omega, by omega, by omega⟩) ?post)
    case fin =>
      rintro c st' ⟨rfl, la, o, rfl, a1, a2, a3, a4⟩
      exact ⟨rfl, la, o, rfl, a1, a2, a3, fun e => by omega⟩
    case step =>
      rintro x c st' _ hx ⟨rfl, la, o, rfl, a1, a2, a3, a4⟩
      dsimp only
      by_cases ho : o ≥ m - hint
      · rw [if_pos ho]
        exact wpS_pure ⟨rfl, la, o, rfl, a1, a2, a3, fun e => by omega⟩
      · rw [if_neg ho]
        refine wpS_bind (hby (hint + o) _ (by omega) ?_)
        dsimp only
        cases hm : bd (hint + o) with
        | false => exact wpS_pure ⟨rfl, la, o, rfl, a1, a2, a3, fun _ => hm⟩
        | true => exact wpS_pure ⟨rfl, o, 2 * o + 1, rfl, hm, by omega, by omega, by omega⟩
    case post =>
      rintro c st' ⟨rfl, la, o, rfl, a1, a2, a3, a4⟩
      dsimp only
      refine wpS_bind (wpS_mono (bin _ _ (by omega) (by omega) (fun i hi => mono i _ (by omega) (by omega) a1) (fun i h5 h6 => ?_) ?body) ?post2)
      · have hlt : o < m - hint := by omega
        exact mono' (hint + o) i (by omega) h6 (a4 hlt)
      case post2 =>
        rintro c st' ⟨rfl, lo, k, rfl, hQ⟩
        exact wpS_pure hQ
      case body =>
        intro x lo hi R b1 b2 r1 r2 r3
        dsimp only
        by_cases e : lo ≥ hi
        · rw [if_pos e]; exact wpS_pure (r1 e)
        · rw [if_neg e]
          refine wpS_bind (hby _ _ (by omega) ?_)
          cases hm : bd (lo + (hi - lo) / 2) with
          | true => exact wpS_pure (r2 (by omega) hm)
          | false => exact wpS_pure (r3 (by omega) hm)
  | false =>
    simp only [Bool.false_eq_true, if_false]
    refine wpS_bind (wpS_mono (wpS_forRange (I := fun x c st' => st' = st ∧ ∃ la o, c = (none, la, o) ∧ bd (hint - la) = false ∧ la < o ∧ la < hint + 1 ∧ x + 1 ≤ o)
      (Q := fun c st' => st' = st ∧ ∃ la o, c = (none, la, o) ∧ bd (hint - la) = false ∧ la < o ∧ la < hint + 1 ∧ (o < hint + 1 → bd (hint - o) = true)) ?step ?fin ⟨rfl, 0, 1, rfl, hr, by omega, by omega, by omega⟩) ?post)
    case fin =>
      rintro c st' ⟨rfl, la, o, rfl, a1, a2, a3, a4⟩
      exact ⟨rfl, la, o, rfl, a1, a2, a3, fun e => by omega⟩
    case step =>
      rintro x c st' _ hx ⟨rfl, la, o, rfl, a1, a2, a3, a4⟩
      dsimp only
      by_cases ho : o ≥ hint + 1
      · rw [if_pos ho]
        exact wpS_pure ⟨rfl, la, o, rfl, a1, a2, a3, fun e => by omega⟩
      · rw [if_neg ho]
        refine wpS_bind (hby (hint - o) _ (by omega) ?_)
        dsimp only
        cases hm : bd (hint - o) with
        | true => exact wpS_pure ⟨rfl, la, o, rfl, a1, a2, a3, fun _ => hm⟩
        | false => exact wpS_pure ⟨rfl, o, 2 * o + 1, rfl, hm, by omega, by omega, by omega⟩
    case post =>
      rintro c st' ⟨rfl, la, o, rfl, a1, a2, a3, a4⟩
      dsimp only
      refine wpS_bind (wpS_mono (bin _ _ (by omega) (by omega) (fun i hi => ?_) (fun i h5 h6 => mono' _ i h5 h6 a1) ?body) ?post2)
      · have hlt : o < hint + 1 := by omega
        exact mono i (hint - o) (by omega) (by omega) (a4 hlt)
      case post2 =>
        rintro c st' ⟨rfl, lo, k, rfl, hQ⟩
        exact wpS_pure hQ
      case body =>
        intro x lo hi R b1 b2 r1 r2 r3
        dsimp only
        by_cases e : lo ≥ hi
        · rw [if_pos e]; exact wpS_pure (r1 e)
        · rw [if_neg e]
          refine wpS_bind (hby _ _ (by omega) ?_)
          cases hm : bd (lo + (hi - lo) / 2) with
          | true => exact wpS_pure (r2 (by omega) hm)
          | false => exact wpS_pure (r3 (by omega) hm)
end
section
open PySem.W hiding kindOf
variable {prog : Program} {w : World} {A : Around} {E : Value → Shared → Prop} {s : Shared} {κ : SortKind} {f : Nat → Keyed} {key : Nat → Int} {n : Nat}
noncomputable def Srt (key : Nat → Int) (l : List Nat) : Prop := l.Pairwise fun x y => key x ≤ key y
theorem Srt.sub {l r : List Nat} (h : Srt key l) (hs : r.Sublist l) : Srt key r := List.Pairwise.sublist hs h
theorem wp_gal (L : LtOk prog w A E s κ f key n) {left : Bool} {q : Nat} {p : List Nat} {base m hint : Nat} {st : SortSt} {Q : Option Nat → SortSt → Prop} (hq : q < n) (hp : InN n p) (hb : base + m ≤ p.length) (hh : hint < m) (hk : kindOf st = κ)
    (hs : Srt key ((p.drop base).take m))
    (h : ∀ k, k ≤ m → (∀ x ∈ ((p.drop base).take m).take k, (if left = true then ltK key x q else !ltK key q x) = true) → (∀ x ∈ ((p.drop base).take m).drop k, (if left = true then ltK key x q else !ltK key q x) = false) → Q (some k) st) :
    wpS (model prog w) A E s (gallop' left (f q) (p.map f).toArray base m hint) Q st := by
  have hg : ∀ i (hi : i < m), ((p.drop base).take m)[i]? = some (p.getD (base + i) 0) := fun i hi => by
    rw [List.getElem?_take_of_lt hi, List.getElem?_drop]
    have : base + i < p.length := by omega
    simp [this]
  refine wp_gallop L hq hp hb hh hk (fun i j hij hj => ?_) fun k hk' h1 h2 => h k hk' (fun x hx => ?_) (fun x hx => ?_)
  · rcases Nat.lt_or_ge i j with hlt | hge
    · obtain ⟨hi', ei⟩ := List.getElem?_eq_some_iff.mp (hg i (by omega))
      obtain ⟨hj', ej⟩ := List.getElem?_eq_some_iff.mp (hg j hj)
      rw [← ei, ← ej]
      exact List.pairwise_iff_getElem.mp hs i j hi' hj' hlt
    · rw [show i = j by omega]; exact Int.le_refl _
  · obtain ⟨i, hi, ei⟩ := List.getElem_of_mem hx
    have hik : i < k := by simp at hi; omega
    have := hg i (by omega)
    rw [List.getElem_take] at ei
    obtain ⟨_, e2⟩ := List.getElem?_eq_some_iff.mp this
    rw [← ei, e2]
    exact h1 i hik
  · obtain ⟨i, hi, ei⟩ := List.getElem_of_mem hx
    have hik : k + i < m := by simp at hi; omega
    have := hg (k + i) hik
    rw [List.getElem_drop] at ei
    obtain ⟨_, e2⟩ := List.getElem?_eq_some_iff.mp this
    rw [← ei, e2]
    exact h2 (k + i) (by omega) hik
theorem wp_galD (L : LtOk prog w A E s κ f key n) {left : Bool} {q : Nat} {p : List Nat} {base hint : Nat} {st : SortSt} {Q : Option Nat → SortSt → Prop} (hq : q < n) (hp : InN n p) (hh : hint < p.length - base) (hk : kindOf st = κ)
    (hs : Srt key (p.drop base))
    (h : ∀ k, base + k ≤ p.length → (∀ x ∈ (p.drop base).take k, (if left = true then ltK key x q else !ltK key q x) = true) → (∀ x ∈ p.drop (base + k), (if left = true then ltK key x q else !ltK key q x) = false) → Q (some k) st) :
    wpS (model prog w) A E s (gallop' left (f q) (p.map f).toArray base (p.length - base) hint) Q st := by
  have e : (p.drop base).take (p.length - base) = p.drop base := List.take_of_length_le (by simp)
  refine wp_gal L hq hp (by omega) hh hk (by rw [e]; exact hs) fun k hk' h1 h2 => h k (by omega) ?_ ?_
  · rwa [e] at h1
  · rwa [e, List.drop_drop] at h2
structure MI (key : Nat → Int) (all out xs ys : List Nat) : Prop where
  perm : (out ++ (xs ++ ys)).Perm all
  so : Srt key out
  sx : Srt key xs
  sy : Srt key ys
  ox : ∀ x ∈ out, ∀ y ∈ xs, key x ≤ key y
  oy : ∀ x ∈ out, ∀ y ∈ ys, key x ≤ key y
theorem MI.left {all out u xs ys : List Nat} (h : MI key all out (u ++ xs) ys) (hu : ∀ a ∈ u, ∀ y ∈ ys, key a ≤ key y) : MI key all (out ++ u) xs ys := by
  obtain ⟨h1, h2, h3, h4, h5, h6⟩ := h
  unfold Srt at *
  rw [List.pairwise_append] at h3
  refine ⟨by rw [List.append_assoc, ← List.append_assoc u]; exact h1, ?_, h3.2.1, h4, fun x hx y hy => ?_, fun x hx y hy => ?_⟩
  · exact List.pairwise_append.mpr ⟨h2, h3.1, fun x hx y hy => h5 x hx y (List.mem_append_left _ hy)⟩
  · rcases List.mem_append.mp hx with e | e
    · exact h5 x e y (List.mem_append_right _ hy)
    · exact h3.2.2 x e y hy
  · rcases List.mem_append.mp hx with e | e
    · exact h6 x e y hy
    · exact hu x e y hy
theorem MI.right {all out u xs ys : List Nat} (h : MI key all out xs (u ++ ys)) (hu : ∀ a ∈ u, ∀ y ∈ xs, key a ≤ key y) : MI key all (out ++ u) xs ys := by
  obtain ⟨h1, h2, h3, h4, h5, h6⟩ := h
  unfold Srt at *
  rw [List.pairwise_append] at h4
  refine ⟨?_, ?_, h3, h4.2.1, fun x hx y hy => ?_, fun x hx y hy => ?_⟩
  · refine List.Perm.trans ?_ h1
    rw [List.append_assoc]
    refine List.Perm.append_left _ ?_
    rw [← List.append_assoc, ← List.append_assoc]
    exact List.Perm.append_right _ List.perm_append_comm
  · exact List.pairwise_append.mpr ⟨h2, h4.1, fun x hx y hy => h6 x hx y (List.mem_append_left _ hy)⟩
  · rcases List.mem_append.mp hx with e | e
    · exact h5 x e y hy
    · exact hu x e y hy
  · rcases List.mem_append.mp hx with e | e
    · exact h6 x e y (List.mem_append_right _ hy)
    · exact h4.2.2 x e y hy
theorem MI.done {all out xs ys : List Nat} (h : MI key all out xs ys) (hu : ∀ a ∈ xs, ∀ y ∈ ys, key a ≤ key y) : (out ++ xs ++ ys).Perm all ∧ Srt key (out ++ xs ++ ys) := by
  have h1 := MI.left (xs := []) (u := xs) (by rw [List.append_nil]; exact h) hu
  have h2 := MI.right (ys := []) (u := ys) (by rw [List.append_nil]; exact h1) (fun _ _ _ hy => absurd hy List.not_mem_nil)
  exact ⟨by have := h2.perm; simpa using this, h2.so⟩
theorem MI.done2 {all out xs ys : List Nat} (h : MI key all out xs ys) (hu : ∀ a ∈ ys, ∀ y ∈ xs, key a ≤ key y) : (out ++ ys ++ xs).Perm all ∧ Srt key (out ++ ys ++ xs) := by
  have h1 := MI.right (ys := []) (u := ys) (by rw [List.append_nil]; exact h) hu
  have h2 := MI.left (xs := []) (u := xs) (by rw [List.append_nil]; exact h1) (fun _ _ _ hy => absurd hy List.not_mem_nil)
  exact ⟨by have := h2.perm; simpa using this, h2.so⟩
noncomputable def SameSt (st st' : SortSt) : Prop := ∃ g, st' = SortSt.mk' (kindOf st) (arrOf st) (pendingOf st) g (failedOf st)
theorem SameSt.refl (st : SortSt) : SameSt st st := ⟨gallopOf st, rfl⟩
theorem SameSt.trans {a b c : SortSt} (h : SameSt a b) (k : SameSt b c) : SameSt a c := by
  obtain ⟨g, rfl⟩ := h
  obtain ⟨g', rfl⟩ := k
  exact ⟨g', rfl⟩
theorem SameSt.kind {a b : SortSt} (h : SameSt a b) : kindOf b = kindOf a := by obtain ⟨g, rfl⟩ := h; rfl
noncomputable def setMinGallop' : Nat → StateT SortSt Sem Unit := sortPriv% PySem.Builtin.setMinGallop
theorem wpS_smg {g : Nat} {Q : Unit → SortSt → Prop} {st : SortSt} (h : ∀ st', SameSt st st' → Q () st') : wpS (model prog w) A E s (setMinGallop' g) Q st := wpS_modify (h _ ⟨_, rfl⟩)
theorem arr_push (o : List Nat) (x : Nat) : (o.map f).toArray.push (f x) = ((o ++ [x]).map f).toArray := by simp
theorem arr_ext (p : List Nat) (i : Nat) : (p.map f).toArray.extract i (p.map f).toArray.size = ((p.drop i).map f).toArray := by
  simp [List.extract_eq_drop_take, List.map_drop]
  rw [List.take_of_length_le]
  simp
theorem arr_exk (p : List Nat) (i j : Nat) : (p.map f).toArray.extract i j = (((p.drop i).take (j - i)).map f).toArray := by
  simp [List.extract_eq_drop_take, List.map_drop, List.map_take]
theorem arr_app (o p : List Nat) : (o.map f).toArray ++ (p.map f).toArray = ((o ++ p).map f).toArray := by simp
end
section
open PySem.W hiding kindOf
variable {prog : Program} {w : World} {A : Around} {E : Value → Shared → Prop} {s : Shared} {κ : SortKind} {f : Nat → Keyed} {key : Nat → Int} {n : Nat}
noncomputable def MOut (f : Nat → Keyed) (key : Nat → Int) (all : List Nat) (r : Array Keyed) : Prop := ∃ o : List Nat, r = (o.map f).toArray ∧ o.Perm all ∧ Srt key o
structure JL (f : Nat → Keyed) (key : Nat → Int) (pa pb : List Nat) (r : Array Keyed) (ia ib : Nat) (o : List Nat) : Prop where
  arr : r = (o.map f).toArray
  mi : MI key (pa ++ pb) o (pa.drop ia) (pb.drop ib)
  la : ia + 1 < pa.length
  lb : ib < pb.length
  len : o.length = ia + ib
noncomputable def GR (f : Nat → Keyed) (key : Nat → Int) (pa pb : List Nat) (st : SortSt) (l : Nat) (r : ForInStep (Option (Array Keyed) × Array Keyed × Nat × Nat × Nat × Nat × Nat)) (st' : SortSt) : Prop :=
  SameSt st st' ∧ (match r with
    | .done c => (∃ r, c.1 = some r ∧ MOut f key (pa ++ pb) r) ∨ ∃ r ia ib g ac bc o, c = (none, r, ia, ib, g, ac, bc) ∧ JL f key pa pb r ia ib o ∧ l ≤ o.length
    | .yield c => ∃ r ia ib g ac bc o, c = (none, r, ia, ib, g, ac, bc) ∧ JL f key pa pb r ia ib o ∧ l + 1 ≤ o.length)
theorem wpS_jp1 {M : Model} {α : Type} {jp : Unit → Nat → StateT SortSt Sem α} {Q : α → SortSt → Prop} {st : SortSt} {c : Prop} [Decidable c] {a b : Nat} (h : ∀ g, wpS M A E s (jp () g) Q st) : wpS M A E s (if c then jp () a else jp () b) Q st := by
  split
  · exact h _
  · exact h _
theorem wp_mergeLo (L : LtOk prog w A E s κ f key n) {pa pb : List Nat} {st : SortSt} {Q : Array Keyed → SortSt → Prop} (na : InN n pa) (nb : InN n pb) (hk : kindOf st = κ) (sa : Srt key pa) (sb : Srt key pb) (la : 0 < pa.length) (lb : 0 < pb.length)
    (hf : ∀ y ∈ pa, key (pb.getD 0 0) ≤ key y) (hl : ∀ y ∈ pb, key y ≤ key (pa.getD (pa.length - 1) 0))
    (h : ∀ r st', SameSt st st' → MOut f key (pa ++ pb) r → Q r st') : wpS (model prog w) A E s (mergeLo' (pa.map f).toArray (pb.map f).toArray) Q st := by
  have zA : (pa.map f).toArray.size = pa.length := by simp
  have zB : (pb.map f).toArray.size = pb.length := by simp
  have eA : ∀ i, (pa.map f).toArray.extract i pa.length = ((pa.drop i).map f).toArray := fun i => by rw [← arr_ext (f := f), zA]
  have eB : ∀ i, (pb.map f).toArray.extract i pb.length = ((pb.drop i).map f).toArray := fun i => by rw [← arr_ext (f := f), zB]
  have gA : ∀ i, i < pa.length → pa[i]? = some (pa.getD i 0) := fun i hi => by simp [hi]
  have gB : ∀ i, i < pb.length → pb[i]? = some (pb.getD i 0) := fun i hi => by simp [hi]
  have dA : ∀ i, i < pa.length → pa.drop i = pa.getD i 0 :: pa.drop (i + 1) := fun i hi => by rw [List.drop_eq_getElem_cons hi]; simp [hi]
  have dB : ∀ i, i < pb.length → pb.drop i = pb.getD i 0 :: pb.drop (i + 1) := fun i hi => by rw [List.drop_eq_getElem_cons hi]; simp [hi]
  have mA : ∀ i, i < pa.length → pa.getD i 0 < n := fun i hi => na _ (List.mem_of_getElem? (gA i hi))
  have mB : ∀ i, i < pb.length → pb.getD i 0 < n := fun i hi => nb _ (List.mem_of_getElem? (gB i hi))
  have hd : ∀ {l : List Nat} {x : Nat} {r : List Nat}, Srt key l → l = x :: r → ∀ y ∈ l, key x ≤ key y := fun {l x r} hs e y hy => by
    subst e
    rcases List.mem_cons.mp hy with e | e
    · rw [e]; exact Int.le_refl _
    · exact (List.pairwise_cons.mp hs).1 y e
  have last : ∀ {o ia ib}, MI key (pa ++ pb) o (pa.drop ia) (pb.drop ib) → ia + 1 = pa.length → MOut f key (pa ++ pb) ((o.map f).toArray ++ ((pb.drop ib).map f).toArray ++ ((pa.drop ia).map f).toArray) := fun {o ia ib} m e => by
    rw [arr_app, arr_app]
    refine ⟨_, rfl, MI.done2 m fun x hx y hy => ?_⟩
    rw [dA ia (by omega), List.drop_of_length_le (by omega)] at hy
    rw [List.mem_singleton.mp hy]
    have := hl x (List.mem_of_mem_drop hx)
    rwa [show pa.length - 1 = ia by omega] at this
  have fin : ∀ {o ia ib}, MI key (pa ++ pb) o (pa.drop ia) (pb.drop ib) → (ia = pa.length ∨ ib = pb.length) → MOut f key (pa ++ pb) ((o.map f).toArray ++ ((pa.drop ia).map f).toArray ++ ((pb.drop ib).map f).toArray) := fun {o ia ib} m e => by
    rw [arr_app, arr_app]
    refine ⟨_, rfl, MI.done m fun x hx y hy => ?_⟩
    rcases e with e | e
    · rw [List.drop_of_length_le (by omega)] at hx; exact absurd hx List.not_mem_nil
    · rw [List.drop_of_length_le (by omega)] at hy; exact absurd hy List.not_mem_nil
  refine wpS_bind (wpS_lift (wpAny_rule ⟨rfl, ?_⟩))
  refine wpS_bind (wpS_elem (gB 0 lb) ?_)
  show wpS _ _ _ _ (ite _ _ _) _ _
  have m0 : MI key (pa ++ pb) [pb.getD 0 0] (pa.drop 0) (pb.drop 1) := by
    have m : MI key (pa ++ pb) [] pa pb := ⟨List.Perm.refl _, List.Pairwise.nil, sa, sb, fun _ h => absurd h List.not_mem_nil, fun _ h => absurd h List.not_mem_nil⟩
    have := MI.right (u := [pb.getD 0 0]) (ys := pb.drop 1) (by have e := dB 0 lb; rw [List.drop_zero] at e; rw [List.singleton_append, ← e]; exact m) (fun a ha y hy => by rw [List.mem_singleton.mp ha]; exact hf y hy)
    exact this
  have a0 : (#[f (pb.getD 0 0)] : Array Keyed) = ([pb.getD 0 0].map f).toArray := rfl
  rw [zA, zB, a0]
  by_cases c1 : 1 = pb.length
  · rw [if_pos (by simpa using c1)]
    dsimp only
    rw [eA, eB]
    exact wpS_pure (h _ _ (SameSt.refl _) (fin m0 (.inr c1)))
  rw [if_neg (by simpa using c1)]
  by_cases c2 : 0 + 1 = pa.length
  · rw [if_pos (by simpa using c2)]
    dsimp only
    rw [eA, eB]
    exact wpS_pure (h _ _ (SameSt.refl _) (last m0 c2))
  rw [if_neg (by simpa using c2)]
  refine wpS_bind (wpS_get ?_)
  refine wpS_bind (wpS_mono (wpS_forRange (I := fun x c st' => SameSt st st' ∧ ∃ r ia ib g o, c = (none, r, ia, ib, g) ∧ JL f key pa pb r ia ib o ∧ 1 + x ≤ o.length)
    (Q := fun c st' => SameSt st st' ∧ ∃ r, c.1 = some r ∧ MOut f key (pa ++ pb) r) ?step ?fin ⟨SameSt.refl _, _, 0, 1, _, [pb.getD 0 0], rfl, ⟨rfl, m0, by omega, by omega, rfl⟩, by simp⟩) ?post)
  case post =>
    rintro c st' ⟨hs, r, e, hm⟩
    obtain ⟨c1, c2⟩ := c
    cases e
    exact wpS_pure (h _ _ hs hm)
  case fin =>
    rintro c st' ⟨hs, r, ia, ib, g, o, rfl, J, hx⟩
    have := J.la; have := J.lb; have := J.len
    omega
  case step =>
    rintro x c st1 _ hx ⟨hs, r, ia, ib, g, o, rfl, J, hlen⟩
    have hk1 : kindOf st1 = κ := hs.kind.trans hk
    refine wpS_bind (wpS_mono (wpS_forRange (I := fun y c st' => st' = st1 ∧ ∃ r ia ib ac bc o1, c = (none, r, ia, ib, ac, bc) ∧ JL f key pa pb r ia ib o1 ∧ o.length + y ≤ o1.length)
      (Q := fun c st' => st' = st1 ∧ ((∃ r, c.1 = some r ∧ MOut f key (pa ++ pb) r) ∨ ∃ r ia ib ac bc o1, c = (none, r, ia, ib, ac, bc) ∧ JL f key pa pb r ia ib o1 ∧ o.length + 1 ≤ o1.length)) ?step1 ?fin1 ⟨rfl, r, ia, ib, _, _, o, rfl, J, by omega⟩) ?post1)
    case fin1 =>
      rintro c st' ⟨rfl, r, ia, ib, ac, bc, o1, rfl, J1, hx1⟩
      have := J1.la; have := J1.lb; have := J1.len
      omega
    case step1 =>
      rintro y c st' _ hy ⟨rfl, r1, ia1, ib1, ac, bc, o1, rfl, J1, hx1⟩
      dsimp only
      obtain ⟨rfl, m1, la1, lb1, len1⟩ := J1
      refine wpS_bind (wpS_elem (gB ib1 lb1) (wpS_bind (wpS_elem (gA ia1 (by omega)) (wpS_bind (L _ _ _ _ (mB ib1 lb1) (mA ia1 (by omega)) hk1 ?_)))))
      dsimp only
      cases hw : ltK key (pb.getD ib1 0) (pa.getD ia1 0) with
      | true =>
        simp only [if_true]
        have hw' : key (pb.getD ib1 0) < key (pa.getD ia1 0) := of_decide_eq_true hw
        have m2 : MI key (pa ++ pb) (o1 ++ [pb.getD ib1 0]) (pa.drop ia1) (pb.drop (ib1 + 1)) := by
          refine MI.right (by rw [List.singleton_append, ← dB ib1 lb1]; exact m1) fun x hx y hy => ?_
          rw [List.mem_singleton.mp hx]
          have := hd m1.sx (dA ia1 (by omega)) y hy
          omega
        refine wpS_bind (wpS_elem (gB ib1 lb1) ?_)
        rw [arr_push]
        by_cases c3 : ib1 + 1 = pb.length
        · rw [if_pos (by simpa using c3), eA, eB]
          exact wpS_pure ⟨rfl, .inl ⟨_, rfl, fin m2 (.inr c3)⟩⟩
        · rw [if_neg (by simpa using c3)]
          have J2 : JL f key pa pb ((o1 ++ [pb.getD ib1 0]).map f).toArray ia1 (ib1 + 1) (o1 ++ [pb.getD ib1 0]) := ⟨rfl, m2, la1, by omega, by simp; omega⟩
          split
          · exact wpS_pure ⟨rfl, .inr ⟨_, _, _, _, _, _, rfl, J2, by simp; omega⟩⟩
          · exact wpS_pure ⟨rfl, _, _, _, _, _, _, rfl, J2, by simp; omega⟩
      | false =>
        simp only [Bool.false_eq_true, if_false]
        have hw' : ¬ key (pb.getD ib1 0) < key (pa.getD ia1 0) := of_decide_eq_false hw
        have m2 : MI key (pa ++ pb) (o1 ++ [pa.getD ia1 0]) (pa.drop (ia1 + 1)) (pb.drop ib1) := by
          refine MI.left (by rw [List.singleton_append, ← dA ia1 (by omega)]; exact m1) fun x hx y hy => ?_
          rw [List.mem_singleton.mp hx]
          have := hd m1.sy (dB ib1 (by omega)) y hy
          omega
        refine wpS_bind (wpS_elem (gA ia1 (by omega)) ?_)
        rw [arr_push]
        by_cases c3 : ia1 + 1 + 1 = pa.length
        · rw [if_pos (by simpa using c3), eA, eB]
          exact wpS_pure ⟨rfl, .inl ⟨_, rfl, last m2 c3⟩⟩
        · rw [if_neg (by simpa using c3)]
          have J2 : JL f key pa pb ((o1 ++ [pa.getD ia1 0]).map f).toArray (ia1 + 1) ib1 (o1 ++ [pa.getD ia1 0]) := ⟨rfl, m2, by omega, lb1, by simp; omega⟩
          split
          · exact wpS_pure ⟨rfl, .inr ⟨_, _, _, _, _, _, rfl, J2, by simp; omega⟩⟩
          · exact wpS_pure ⟨rfl, _, _, _, _, _, _, rfl, J2, by simp; omega⟩
    case post1 =>
      rintro c st' ⟨rfl, hc⟩
      rcases hc with ⟨r1, e, hm⟩ | ⟨r1, ia1, ib1, ac, bc, o1, rfl, J1, hx1⟩
      · obtain ⟨c1, c2⟩ := c
        cases e
        exact wpS_pure ⟨hs, r1, rfl, hm⟩
      refine wpS_bind (wpS_lift (wpAny_rule ⟨rfl, ?_⟩))
      refine wpS_bind (wpS_mono (wpS_forRange (I := fun y c st' => SameSt st st' ∧ ∃ r ia ib g ac bc o2, c = (none, r, ia, ib, g, ac, bc) ∧ JL f key pa pb r ia ib o2 ∧ o1.length + y ≤ o2.length)
        (Q := fun c st' => SameSt st st' ∧ ((∃ r, c.1 = some r ∧ MOut f key (pa ++ pb) r) ∨ ∃ r ia ib g ac bc o2, c = (none, r, ia, ib, g, ac, bc) ∧ JL f key pa pb r ia ib o2 ∧ o1.length ≤ o2.length)) ?step2 ?fin2 ⟨hs, r1, ia1, ib1, _, _, _, o1, rfl, J1, by omega⟩) ?post2)
      case fin2 =>
        rintro c st' ⟨hs2, r, ia, ib, g, ac, bc, o2, rfl, J2, hx2⟩
        have := J2.la; have := J2.lb; have := J2.len
        omega
      case post2 =>
        rintro c st' ⟨hs2, hc⟩
        rcases hc with ⟨r2, e, hm⟩ | ⟨r2, ia2, ib2, g2, ac, bc, o2, rfl, J2, hx2⟩
        · obtain ⟨c1, c2⟩ := c
          cases e
          exact wpS_pure ⟨hs2, r2, rfl, hm⟩
        · refine wpS_bind (wpS_modify (wpS_pure ⟨hs2.trans ⟨_, rfl⟩, _, _, _, _, o2, rfl, J2, by omega⟩))
      case step2 =>
        rintro y c st2 _ hy ⟨hs2, r2, ia2, ib2, g2, ac, bc, o2, rfl, J2, hx2⟩
        have hk2 : kindOf st2 = κ := hs2.kind.trans hk
        obtain ⟨rfl, m2, la2, lb2, len2⟩ := J2
        refine wpS_mono (Q := GR f key pa pb st (o1.length + y)) ?_ ?conv
        case conv =>
          rintro r st' ⟨hs', hr⟩
          cases r with
          | done c =>
            refine ⟨hs', ?_⟩
            rcases hr with hr | ⟨r, ia, ib, g, ac, bc, o2, e, J, hl⟩
            · exact .inl hr
            · exact .inr ⟨r, ia, ib, g, ac, bc, o2, e, J, by omega⟩
          | yield c => exact ⟨hs', hr⟩
        extract_lets s1 out s2 ia3 s3 ib3 s4 g3 s5 ac3 bc3 ib4 jp
        have e1 : out = (o2.map f).toArray := rfl
        have e2 : ia3 = ia2 := rfl
        have e3 : ib3 = ib2 := rfl
        have e4 : ib4 = ib3 + 1 := rfl
        clear_value ib4 out ia3 ib3 g3 ac3 bc3
        clear s1 s2 s3 s4 s5
        subst e1 e2 e3 e4
        refine wpS_jp1 (jp := jp) fun g' => ?_
        refine wpS_bind (wpS_smg fun st3 hs3 => ?_)
        have hk3 : kindOf st3 = κ := hs3.kind.trans hk2
        have hs4 : SameSt st st3 := hs2.trans hs3
        clear jp
        refine wpS_bind (wpS_elem (gB ib3 lb2) (wpS_bind (wp_galD L (mB ib3 lb2) na (by omega) hk3 m2.sx fun k hkl t1 t2 => ?_)))
        have m3 : MI key (pa ++ pb) (o2 ++ (pa.drop ia3).take k) (pa.drop (ia3 + k)) (pb.drop ib3) := by
          refine MI.left (by rw [← List.drop_drop, List.take_append_drop]; exact m2) fun x hx y hy => ?_
          have e1 := t1 x hx
          have e2 := hd m2.sy (dB ib3 lb2) y hy
          simp [ltK, -List.getD_eq_getElem?_getD] at e1
          omega
        have t3 : ∀ x ∈ pa.drop (ia3 + k), key (pb.getD ib3 0) ≤ key x := fun x hx => by
          have e1 := t2 x hx
          simp [ltK, -List.getD_eq_getElem?_getD] at e1
          omega
        clear t1 t2
        have len3 : (o2 ++ (pa.drop ia3).take k).length = ia3 + k + ib3 := by simp; omega
        dsimp -zeta only
        extract_lets ak jp out ia
        have eo : out = ((o2 ++ (pa.drop ia3).take k).map f).toArray := by
          show _ ++ _ = _
          rw [arr_exk, arr_app, Nat.add_sub_cancel_left]
        have ei : ia = ia3 + k := rfl
        clear_value out ia ak
        subst eo ei
        have hj : ∀ o3 ia4, MI key (pa ++ pb) o3 (pa.drop ia4) (pb.drop ib3) → (∀ x ∈ pa.drop ia4, key (pb.getD ib3 0) ≤ key x) → o3.length = ia4 + ib3 → ia4 + 1 < pa.length → o1.length + y ≤ o3.length → wpS (model prog w) A E s (jp () (o3.map f).toArray ia4) (GR f key pa pb st (o1.length + y)) st3 := by
          intro o3 ia4 m3 t3 len3 la4 hl3
          refine wpS_bind (wpS_elem (gB ib3 lb2) ?_)
          clear jp
          rw [arr_push]
          have m4 : MI key (pa ++ pb) (o3 ++ [pb.getD ib3 0]) (pa.drop ia4) (pb.drop (ib3 + 1)) := by
            refine MI.right (by rw [List.singleton_append, ← dB ib3 lb2]; exact m3) fun x hx y hy => ?_
            rw [List.mem_singleton.mp hx]
            exact t3 y hy
          have len4 : (o3 ++ [pb.getD ib3 0]).length = ia4 + (ib3 + 1) := by simp; omega
          have hl4 : o1.length + y + 1 ≤ (o3 ++ [pb.getD ib3 0]).length := by rw [len4]; omega
          generalize o3 ++ [pb.getD ib3 0] = o4 at m4 len4 hl4 ⊢
          clear m3 t3 len3 hl3
          extract_lets out ia5
          have eo : out = (o4.map f).toArray := rfl
          have ei : ia5 = ia4 + 1 := rfl
          clear_value out ia5
          subst eo ei
          by_cases c6 : ib3 + 1 = pb.length
          · rw [if_pos (by simpa using c6), eA, eB]
            exact wpS_pure ⟨hs4, .inl ⟨_, rfl, fin m4 (.inr c6)⟩⟩
          rw [if_neg (by simpa using c6)]
          refine wpS_bind (wpS_elem (gA ia4 (by omega)) (wpS_bind (wp_galD L (mA ia4 (by omega)) nb (by omega) hk3 m4.sy fun k2 hkl2 t1 t2 => ?_)))
          have m5 : MI key (pa ++ pb) (o4 ++ (pb.drop (ib3 + 1)).take k2) (pa.drop ia4) (pb.drop (ib3 + 1 + k2)) := by
            refine MI.right (by rw [← List.drop_drop (i := k2), List.take_append_drop]; exact m4) fun x hx y hy => ?_
            have e1 := t1 x hx
            have e2 := hd m4.sx (dA ia4 (by omega)) y hy
            simp [ltK, -List.getD_eq_getElem?_getD] at e1
            omega
          have t3 : ∀ x ∈ pb.drop (ib3 + 1 + k2), key (pa.getD ia4 0) ≤ key x := fun x hx => by
            have e1 := t2 x hx
            simp [ltK, -List.getD_eq_getElem?_getD] at e1
            omega
          clear t1 t2
          have len5 : (o4 ++ (pb.drop (ib3 + 1)).take k2).length = ia4 + (ib3 + 1 + k2) := by simp; omega
          dsimp -zeta only
          extract_lets bk jp out ib
          have eo : out = ((o4 ++ (pb.drop (ib3 + 1)).take k2).map f).toArray := by
            show _ ++ _ = _
            rw [arr_exk, arr_app, Nat.add_sub_cancel_left]
          have ei : ib = ib3 + 1 + k2 := rfl
          clear_value out ib bk
          subst eo ei
          have hj : ∀ o5 ib5, MI key (pa ++ pb) o5 (pa.drop ia4) (pb.drop ib5) → (∀ x ∈ pb.drop ib5, key (pa.getD ia4 0) ≤ key x) → o5.length = ia4 + ib5 → ib5 < pb.length → o1.length + y + 1 ≤ o5.length → wpS (model prog w) A E s (jp () (o5.map f).toArray ib5) (GR f key pa pb st (o1.length + y)) st3 := by
            intro o5 ib5 m5 t3 len5 lb5 hl5
            refine wpS_bind (wpS_elem (gA ia4 (by omega)) ?_)
            clear jp
            rw [arr_push]
            have m6 : MI key (pa ++ pb) (o5 ++ [pa.getD ia4 0]) (pa.drop (ia4 + 1)) (pb.drop ib5) := by
              refine MI.left (by rw [List.singleton_append, ← dA ia4 (by omega)]; exact m5) fun x hx y hy => ?_
              rw [List.mem_singleton.mp hx]
              exact t3 y hy
            have len6 : (o5 ++ [pa.getD ia4 0]).length = ia4 + 1 + ib5 := by simp; omega
            generalize o5 ++ [pa.getD ia4 0] = o6 at m6 len6 ⊢
            extract_lets out
            by_cases c7 : ia4 + 1 + 1 = pa.length
            · rw [if_pos (by simpa using c7), eA, eB]
              exact wpS_pure ⟨hs4, .inl ⟨_, rfl, last m6 c7⟩⟩
            rw [if_neg (by simpa using c7)]
            have J6 : JL f key pa pb (o6.map f).toArray (ia4 + 1) ib5 o6 := ⟨rfl, m6, by omega, lb5, len6⟩
            split
            · exact wpS_pure ⟨hs4, .inr ⟨_, _, _, _, _, _, o6, rfl, J6, by omega⟩⟩
            · exact wpS_pure ⟨hs4, _, _, _, _, _, _, o6, rfl, J6, by omega⟩
          by_cases c7 : k2 > 0
          · rw [if_pos c7]
            by_cases c8 : ib3 + 1 + k2 = pb.length
            · rw [if_pos (by simpa using c8), eA, eB]
              exact wpS_pure ⟨hs4, .inl ⟨_, rfl, fin m5 (.inr c8)⟩⟩
            rw [if_neg (by simpa using c8)]
            exact hj _ _ m5 t3 len5 (by omega) (by rw [len5]; omega)
          · rw [if_neg c7]
            have ek : k2 = 0 := by omega
            subst ek
            rw [List.take_zero, List.append_nil] at m5
            exact hj _ _ m5 t3 len4 (by omega) hl4
        by_cases c3 : k > 0
        · rw [if_pos c3]
          by_cases c4 : ia3 + k + 1 = pa.length
          · rw [if_pos (by simpa using c4), eA, eB]
            exact wpS_pure ⟨hs4, .inl ⟨_, rfl, last m3 c4⟩⟩
          rw [if_neg (by simpa using c4)]
          by_cases c5 : ia3 + k = pa.length
          · rw [if_pos (by simpa using c5), eA, eB]
            exact wpS_pure ⟨hs4, .inl ⟨_, rfl, fin m3 (.inl c5)⟩⟩
          rw [if_neg (by simpa using c5)]
          exact hj _ _ m3 t3 len3 (by omega) (by rw [len3]; omega)
        · rw [if_neg c3]
          have ek : k = 0 := by omega
          subst ek
          rw [List.take_zero, List.append_nil] at m3
          exact hj _ _ m3 t3 len2 la2 hx2
end
section
open PySem.W hiding kindOf
variable {prog : Program} {w : World} {A : Around} {E : Value → Shared → Prop} {s : Shared} {κ : SortKind} {f : Nat → Keyed} {key : Nat → Int} {n : Nat}
theorem wp_galT (L : LtOk prog w A E s κ f key n) {left : Bool} {q : Nat} {p : List Nat} {m hint : Nat} {st : SortSt} {Q : Option Nat → SortSt → Prop} (hq : q < n) (hp : InN n p) (hm : m ≤ p.length) (hh : hint < m) (hk : kindOf st = κ)
    (hs : Srt key (p.take m))
    (h : ∀ k, k ≤ m → (∀ x ∈ p.take k, (if left = true then ltK key x q else !ltK key q x) = true) → (∀ x ∈ (p.take m).drop k, (if left = true then ltK key x q else !ltK key q x) = false) → Q (some k) st) :
    wpS (model prog w) A E s (gallop' left (f q) (p.map f).toArray 0 m hint) Q st := by
  refine wp_gal L hq hp (by omega) hh hk (by rw [List.drop_zero]; exact hs) fun k hk' h1 h2 => h k hk' ?_ ?_
  · rwa [List.drop_zero, List.take_take, Nat.min_eq_left hk'] at h1
  · rwa [List.drop_zero] at h2
noncomputable def neg (key : Nat → Int) (x : Nat) : Int := -key x
theorem srt_neg {l : List Nat} : Srt (neg key) l ↔ Srt key l.reverse := by
  unfold Srt
  rw [List.pairwise_reverse]
  constructor
  · exact fun h => h.imp fun {a b} h => by unfold neg at h; omega
  · exact fun h => h.imp fun {a b} h => by unfold neg; omega
structure JH (f : Nat → Keyed) (key : Nat → Int) (pa pb : List Nat) (r : Array Keyed) (na nb : Nat) (o : List Nat) : Prop where
  arr : r = (o.map f).toArray
  mi : MI (neg key) (pa ++ pb) o (pa.take na).reverse (pb.take nb).reverse
  la : 0 < na
  lb : 1 < nb
  za : na ≤ pa.length
  zb : nb ≤ pb.length
  len : o.length + na + nb = pa.length + pb.length
noncomputable def GH (f : Nat → Keyed) (key : Nat → Int) (pa pb : List Nat) (st : SortSt) (l : Nat) (r : ForInStep (Option (Array Keyed) × Nat × Nat × Array Keyed × Nat × Nat × Nat)) (st' : SortSt) : Prop :=
  SameSt st st' ∧ (match r with
    | .done c => (∃ r, c.1 = some r ∧ MOut f key (pa ++ pb) r) ∨ ∃ r ia ib g ac bc o, c = (none, ia, ib, r, g, ac, bc) ∧ JH f key pa pb r ia ib o ∧ l ≤ o.length
    | .yield c => ∃ r ia ib g ac bc o, c = (none, ia, ib, r, g, ac, bc) ∧ JH f key pa pb r ia ib o ∧ l + 1 ≤ o.length)
theorem wp_mergeHi (L : LtOk prog w A E s κ f key n) {pa pb : List Nat} {st : SortSt} {Q : Array Keyed → SortSt → Prop} (na : InN n pa) (nb : InN n pb) (hk : kindOf st = κ) (sa : Srt key pa) (sb : Srt key pb) (la : 0 < pa.length) (lb : 0 < pb.length)
    (hf : ∀ y ∈ pa, key (pb.getD 0 0) ≤ key y) (hl : ∀ y ∈ pb, key y ≤ key (pa.getD (pa.length - 1) 0))
    (h : ∀ r st', SameSt st st' → MOut f key (pa ++ pb) r → Q r st') : wpS (model prog w) A E s (mergeHi' (pa.map f).toArray (pb.map f).toArray) Q st := by
  have zA : (pa.map f).toArray.size = pa.length := by simp
  have zB : (pb.map f).toArray.size = pb.length := by simp
  have eA : ∀ i, (pa.map f).toArray.extract 0 i = ((pa.take i).map f).toArray := fun i => by rw [arr_exk, List.drop_zero, Nat.sub_zero]
  have eB : ∀ i, (pb.map f).toArray.extract 0 i = ((pb.take i).map f).toArray := fun i => by rw [arr_exk, List.drop_zero, Nat.sub_zero]
  have eR : ∀ q : List Nat, (q.map f).toArray.reverse = (q.reverse.map f).toArray := fun q => by simp
  have gA : ∀ i, i < pa.length → pa[i]? = some (pa.getD i 0) := fun i hi => by simp [hi]
  have gB : ∀ i, i < pb.length → pb[i]? = some (pb.getD i 0) := fun i hi => by simp [hi]
  have dA : ∀ i, 0 < i → i ≤ pa.length → (pa.take i).reverse = pa.getD (i - 1) 0 :: (pa.take (i - 1)).reverse := fun i h0 hi => by
    obtain ⟨j, rfl⟩ : ∃ j, i = j + 1 := ⟨i - 1, by omega⟩
    rw [List.take_succ_eq_append_getElem (by omega), List.reverse_append]
    have : j < pa.length := by omega
    simp [this]
  have dB : ∀ i, 0 < i → i ≤ pb.length → (pb.take i).reverse = pb.getD (i - 1) 0 :: (pb.take (i - 1)).reverse := fun i h0 hi => by
    obtain ⟨j, rfl⟩ : ∃ j, i = j + 1 := ⟨i - 1, by omega⟩
    rw [List.take_succ_eq_append_getElem (by omega), List.reverse_append]
    have : j < pb.length := by omega
    simp [this]
  have mA : ∀ i, i < pa.length → pa.getD i 0 < n := fun i hi => na _ (List.mem_of_getElem? (gA i hi))
  have mB : ∀ i, i < pb.length → pb.getD i 0 < n := fun i hi => nb _ (List.mem_of_getElem? (gB i hi))
  have hd : ∀ {l : List Nat} {x : Nat} {r : List Nat}, Srt (neg key) l → l = x :: r → ∀ y ∈ l, key y ≤ key x := fun {l x r} hs e y hy => by
    subst e
    rcases List.mem_cons.mp hy with e | e
    · rw [e]; exact Int.le_refl _
    · have := (List.pairwise_cons.mp hs).1 y e
      unfold neg at this
      omega
  have out : ∀ {q u v : List Nat}, (q ++ u.reverse ++ v.reverse).Perm (pa ++ pb) ∧ Srt (neg key) (q ++ u.reverse ++ v.reverse) → MOut f key (pa ++ pb) ((v.map f).toArray ++ (u.map f).toArray ++ (q.map f).toArray.reverse) := fun {q u v} hh => by
    have e : (q ++ u.reverse ++ v.reverse).reverse = v ++ u ++ q.reverse := by simp
    rw [eR, arr_app, arr_app]
    refine ⟨_, rfl, ?_, ?_⟩
    · rw [← e]; exact (List.reverse_perm _).trans hh.1
    · rw [← e]; exact srt_neg.mp hh.2
  have first : ∀ {o ia ib}, MI (neg key) (pa ++ pb) o (pa.take ia).reverse (pb.take ib).reverse → ib = 1 → MOut f key (pa ++ pb) (((pb.take ib).map f).toArray ++ ((pa.take ia).map f).toArray ++ (o.map f).toArray.reverse) := fun {o ia ib} m e => by
    refine out (MI.done m fun x hx y hy => ?_)
    subst e
    rw [dB 1 (by omega) (by omega), List.take_zero] at hy
    rw [List.mem_singleton.mp hy]
    have := hf x (List.mem_of_mem_take (List.mem_reverse.mp hx))
    unfold neg
    rw [Nat.sub_self]
    omega
  have fin : ∀ {o ia ib}, MI (neg key) (pa ++ pb) o (pa.take ia).reverse (pb.take ib).reverse → (ia = 0 ∨ ib = 0) → MOut f key (pa ++ pb) (((pa.take ia).map f).toArray ++ ((pb.take ib).map f).toArray ++ (o.map f).toArray.reverse) := fun {o ia ib} m e => by
    refine out (MI.done2 m fun x hx y hy => ?_)
    rcases e with e | e
    · subst e; rw [List.take_zero] at hy; exact absurd hy List.not_mem_nil
    · subst e; rw [List.take_zero] at hx; exact absurd hx List.not_mem_nil
  refine wpS_bind (wpS_lift (wpAny_rule ⟨rfl, ?_⟩))
  rw [zA, zB]
  refine wpS_bind (wpS_elem (gA (pa.length - 1) (by omega)) ?_)
  show wpS _ _ _ _ (ite _ _ _) _ _
  have m0 : MI (neg key) (pa ++ pb) [pa.getD (pa.length - 1) 0] (pa.take (pa.length - 1)).reverse (pb.take pb.length).reverse := by
    have m : MI (neg key) (pa ++ pb) [] (pa.take pa.length).reverse (pb.take pb.length).reverse := by
      rw [List.take_length, List.take_length]
      refine ⟨by rw [List.nil_append]; exact List.Perm.append (List.reverse_perm _) (List.reverse_perm _), List.Pairwise.nil, srt_neg.mpr (by rw [List.reverse_reverse]; exact sa), srt_neg.mpr (by rw [List.reverse_reverse]; exact sb), fun _ h => absurd h List.not_mem_nil, fun _ h => absurd h List.not_mem_nil⟩
    have := MI.left (u := [pa.getD (pa.length - 1) 0]) (xs := (pa.take (pa.length - 1)).reverse) (by have e := dA pa.length la (Nat.le_refl _); rw [List.singleton_append, ← e]; exact m) (fun a ha y hy => by
      rw [List.mem_singleton.mp ha]
      have := hl y (List.mem_of_mem_take (List.mem_reverse.mp hy))
      unfold neg
      omega)
    exact this
  have a0 : (#[f (pa.getD (pa.length - 1) 0)] : Array Keyed) = ([pa.getD (pa.length - 1) 0].map f).toArray := rfl
  rw [a0]
  by_cases c1 : pa.length - 1 = 0
  · rw [if_pos (by simpa using c1)]
    dsimp only
    rw [eA, eB]
    exact wpS_pure (h _ _ (SameSt.refl _) (fin m0 (.inl c1)))
  rw [if_neg (by simpa using c1)]
  by_cases c2 : pb.length = 1
  · rw [if_pos (by simpa using c2)]
    dsimp only
    rw [eA, eB]
    exact wpS_pure (h _ _ (SameSt.refl _) (first m0 c2))
  rw [if_neg (by simpa using c2)]
  refine wpS_bind (wpS_get ?_)
  refine wpS_bind (wpS_mono (wpS_forRange (I := fun x c st' => SameSt st st' ∧ ∃ r ia ib g o, c = (none, ia, ib, r, g) ∧ JH f key pa pb r ia ib o ∧ 1 + x ≤ o.length)
    (Q := fun c st' => SameSt st st' ∧ ∃ r, c.1 = some r ∧ MOut f key (pa ++ pb) r) ?step ?fin ⟨SameSt.refl _, _, _, _, _, [pa.getD (pa.length - 1) 0], rfl, ⟨rfl, m0, by omega, by omega, by omega, by omega, by simp; omega⟩, by simp⟩) ?post)
  case post =>
    rintro c st' ⟨hs, r, e, hm⟩
    obtain ⟨c1, c2⟩ := c
    cases e
    exact wpS_pure (h _ _ hs hm)
  case fin =>
    rintro c st' ⟨hs, r, ia, ib, g, o, rfl, J, hx⟩
    have := J.la; have := J.lb; have := J.len
    omega
  case step =>
    rintro x c st1 _ hx ⟨hs, r, ia, ib, g, o, rfl, J, hlen⟩
    have hk1 : kindOf st1 = κ := hs.kind.trans hk
    refine wpS_bind (wpS_mono (wpS_forRange (I := fun y c st' => st' = st1 ∧ ∃ r ia ib ac bc o1, c = (none, ia, ib, r, ac, bc) ∧ JH f key pa pb r ia ib o1 ∧ o.length + y ≤ o1.length)
      (Q := fun c st' => st' = st1 ∧ ((∃ r, c.1 = some r ∧ MOut f key (pa ++ pb) r) ∨ ∃ r ia ib ac bc o1, c = (none, ia, ib, r, ac, bc) ∧ JH f key pa pb r ia ib o1 ∧ o.length + 1 ≤ o1.length)) ?step1 ?fin1 ⟨rfl, r, ia, ib, _, _, o, rfl, J, by omega⟩) ?post1)
    case fin1 =>
      rintro c st' ⟨rfl, r, ia, ib, ac, bc, o1, rfl, J1, hx1⟩
      have := J1.la; have := J1.lb; have := J1.len
      omega
    case step1 =>
      rintro y c st' _ hy ⟨rfl, r1, ia1, ib1, ac, bc, o1, rfl, J1, hx1⟩
      dsimp only
      obtain ⟨rfl, m1, la1, lb1, za1, zb1, len1⟩ := J1
      refine wpS_bind (wpS_elem (gB (ib1 - 1) (by omega)) (wpS_bind (wpS_elem (gA (ia1 - 1) (by omega)) (wpS_bind (L _ _ _ _ (mB (ib1 - 1) (by omega)) (mA (ia1 - 1) (by omega)) hk1 ?_)))))
      dsimp only
      cases hw : ltK key (pb.getD (ib1 - 1) 0) (pa.getD (ia1 - 1) 0) with
      | true =>
        simp only [if_true]
        have hw' : key (pb.getD (ib1 - 1) 0) < key (pa.getD (ia1 - 1) 0) := of_decide_eq_true hw
        have m2 : MI (neg key) (pa ++ pb) (o1 ++ [pa.getD (ia1 - 1) 0]) (pa.take (ia1 - 1)).reverse (pb.take ib1).reverse := by
          refine MI.left (by rw [List.singleton_append, ← dA ia1 la1 za1]; exact m1) fun x hx y hy => ?_
          rw [List.mem_singleton.mp hx]
          have := hd m1.sy (dB ib1 (by omega) zb1) y hy
          unfold neg
          omega
        refine wpS_bind (wpS_elem (gA (ia1 - 1) (by omega)) ?_)
        rw [arr_push]
        by_cases c3 : ia1 - 1 = 0
        · rw [if_pos (by simpa using c3), eA, eB]
          exact wpS_pure ⟨rfl, .inl ⟨_, rfl, fin m2 (.inl c3)⟩⟩
        · rw [if_neg (by simpa using c3)]
          have J2 : JH f key pa pb ((o1 ++ [pa.getD (ia1 - 1) 0]).map f).toArray (ia1 - 1) ib1 (o1 ++ [pa.getD (ia1 - 1) 0]) := ⟨rfl, m2, by omega, lb1, by omega, zb1, by simp; omega⟩
          split
          · exact wpS_pure ⟨rfl, .inr ⟨_, _, _, _, _, _, rfl, J2, by simp; omega⟩⟩
          · exact wpS_pure ⟨rfl, _, _, _, _, _, _, rfl, J2, by simp; omega⟩
      | false =>
        simp only [Bool.false_eq_true, if_false]
        have hw' : ¬ key (pb.getD (ib1 - 1) 0) < key (pa.getD (ia1 - 1) 0) := of_decide_eq_false hw
        have m2 : MI (neg key) (pa ++ pb) (o1 ++ [pb.getD (ib1 - 1) 0]) (pa.take ia1).reverse (pb.take (ib1 - 1)).reverse := by
          refine MI.right (by rw [List.singleton_append, ← dB ib1 (by omega) zb1]; exact m1) fun x hx y hy => ?_
          rw [List.mem_singleton.mp hx]
          have := hd m1.sx (dA ia1 la1 za1) y hy
          unfold neg
          omega
        refine wpS_bind (wpS_elem (gB (ib1 - 1) (by omega)) ?_)
        rw [arr_push]
        by_cases c3 : ib1 - 1 = 1
        · rw [if_pos (by simpa using c3), eA, eB]
          exact wpS_pure ⟨rfl, .inl ⟨_, rfl, first m2 c3⟩⟩
        · rw [if_neg (by simpa using c3)]
          have J2 : JH f key pa pb ((o1 ++ [pb.getD (ib1 - 1) 0]).map f).toArray ia1 (ib1 - 1) (o1 ++ [pb.getD (ib1 - 1) 0]) := ⟨rfl, m2, la1, by omega, za1, by omega, by simp; omega⟩
          split
          · exact wpS_pure ⟨rfl, .inr ⟨_, _, _, _, _, _, rfl, J2, by simp; omega⟩⟩
          · exact wpS_pure ⟨rfl, _, _, _, _, _, _, rfl, J2, by simp; omega⟩
    case post1 =>
      rintro c st' ⟨rfl, hc⟩
      rcases hc with ⟨r1, e, hm⟩ | ⟨r1, ia1, ib1, ac, bc, o1, rfl, J1, hx1⟩
      · obtain ⟨c1, c2⟩ := c
        cases e
        exact wpS_pure ⟨hs, r1, rfl, hm⟩
      refine wpS_bind (wpS_lift (wpAny_rule ⟨rfl, ?_⟩))
      refine wpS_bind (wpS_mono (wpS_forRange (I := fun y c st' => SameSt st st' ∧ ∃ r ia ib g ac bc o2, c = (none, ia, ib, r, g, ac, bc) ∧ JH f key pa pb r ia ib o2 ∧ o1.length + y ≤ o2.length)
        (Q := fun c st' => SameSt st st' ∧ ((∃ r, c.1 = some r ∧ MOut f key (pa ++ pb) r) ∨ ∃ r ia ib g ac bc o2, c = (none, ia, ib, r, g, ac, bc) ∧ JH f key pa pb r ia ib o2 ∧ o1.length ≤ o2.length)) ?step2 ?fin2 ⟨hs, r1, ia1, ib1, _, _, _, o1, rfl, J1, by omega⟩) ?post2)
      case fin2 =>
        rintro c st' ⟨hs2, r, ia, ib, g, ac, bc, o2, rfl, J2, hx2⟩
        have := J2.la; have := J2.lb; have := J2.len
        omega
      case post2 =>
        rintro c st' ⟨hs2, hc⟩
        rcases hc with ⟨r2, e, hm⟩ | ⟨r2, ia2, ib2, g2, ac, bc, o2, rfl, J2, hx2⟩
        · obtain ⟨c1, c2⟩ := c
          cases e
          exact wpS_pure ⟨hs2, r2, rfl, hm⟩
        · refine wpS_bind (wpS_modify (wpS_pure ⟨hs2.trans ⟨_, rfl⟩, _, _, _, _, o2, rfl, J2, by omega⟩))
      case step2 =>
        rintro y c st2 _ hy ⟨hs2, r2, ia2, ib2, g2, ac, bc, o2, rfl, J2, hx2⟩
        have hk2 : kindOf st2 = κ := hs2.kind.trans hk
        obtain ⟨rfl, m2, la2, lb2, za2, zb2, len2⟩ := J2
        refine wpS_mono (Q := GH f key pa pb st (o1.length + y)) ?_ ?conv
        case conv =>
          rintro r st' ⟨hs', hr⟩
          cases r with
          | done c =>
            refine ⟨hs', ?_⟩
            rcases hr with hr | ⟨r, ia, ib, g, ac, bc, o2, e, J, hl⟩
            · exact .inl hr
            · exact .inr ⟨r, ia, ib, g, ac, bc, o2, e, J, by omega⟩
          | yield c => exact ⟨hs', hr⟩
        extract_lets s1 ia3 s2 ib3 s3 out2 s4 g3 s5 ac3 bc3 ib4 jp
        have e1 : out2 = (o2.map f).toArray := rfl
        have e2 : ia3 = ia2 := rfl
        have e3 : ib3 = ib2 := rfl
        have e4 : ib4 = ib3 - 1 := rfl
        clear_value ib4 out2 ia3 ib3 g3 ac3 bc3
        clear s1 s2 s3 s4 s5
        subst e1 e2 e3 e4
        refine wpS_jp1 (jp := jp) fun g' => ?_
        refine wpS_bind (wpS_smg fun st3 hs3 => ?_)
        have hk3 : kindOf st3 = κ := hs3.kind.trans hk2
        have hs4 : SameSt st st3 := hs2.trans hs3
        clear jp
        have sxA : Srt key (pa.take ia3) := sa.sub (List.take_sublist _ _)
        refine wpS_bind (wpS_elem (gB (ib3 - 1) (by omega)) (wpS_bind (wp_galT L (mB (ib3 - 1) (by omega)) na za2 (by omega) hk3 sxA fun k hkl t1 t2 => ?_)))
        have m3 : MI (neg key) (pa ++ pb) (o2 ++ ((pa.take ia3).drop k).reverse) (pa.take k).reverse (pb.take ib3).reverse := by
          refine MI.left (by
            rw [← List.reverse_append]
            have : pa.take k ++ (pa.take ia3).drop k = pa.take ia3 := by
              have e := List.take_append_drop k (pa.take ia3)
              rwa [List.take_take, Nat.min_eq_left hkl] at e
            rw [this]
            exact m2) fun x hx y hy => ?_
          have e1 := t2 x (List.mem_reverse.mp hx)
          have e2 := hd m2.sy (dB ib3 (by omega) zb2) y hy
          simp [ltK, -List.getD_eq_getElem?_getD] at e1
          unfold neg
          omega
        have t3 : ∀ x ∈ (pa.take k).reverse, neg key (pb.getD (ib3 - 1) 0) ≤ neg key x := fun x hx => by
          have e1 := t1 x (List.mem_reverse.mp hx)
          simp [ltK, -List.getD_eq_getElem?_getD] at e1
          unfold neg
          omega
        clear t1 t2
        have len3 : (o2 ++ ((pa.take ia3).drop k).reverse).length + k + ib3 = pa.length + pb.length := by simp; omega
        have lo3 : o2.length ≤ (o2 ++ ((pa.take ia3).drop k).reverse).length := by simp
        dsimp -zeta only
        extract_lets kk ak jp out3 ia
        have eo : out3 = ((o2 ++ ((pa.take ia3).drop k).reverse).map f).toArray := by
          show _ ++ _ = _
          rw [arr_exk, eR, arr_app, List.drop_take]
        have ei : ia = k := rfl
        have ekk : kk = ia3 - k := rfl
        clear_value out3 ia ak kk
        subst eo ei
        have hj : ∀ o3 ia4, MI (neg key) (pa ++ pb) o3 (pa.take ia4).reverse (pb.take ib3).reverse → (∀ x ∈ (pa.take ia4).reverse, neg key (pb.getD (ib3 - 1) 0) ≤ neg key x) → o3.length + ia4 + ib3 = pa.length + pb.length → 0 < ia4 → ia4 ≤ pa.length → o1.length + y ≤ o3.length → wpS (model prog w) A E s (jp () ia4 (o3.map f).toArray) (GH f key pa pb st (o1.length + y)) st3 := by
          intro o3 ia4 m3 t3 len3 la4 za4 hl3
          refine wpS_bind (wpS_elem (gB (ib3 - 1) (by omega)) ?_)
          clear jp
          rw [arr_push]
          have m4 : MI (neg key) (pa ++ pb) (o3 ++ [pb.getD (ib3 - 1) 0]) (pa.take ia4).reverse (pb.take (ib3 - 1)).reverse := by
            refine MI.right (by rw [List.singleton_append, ← dB ib3 (by omega) zb2]; exact m3) fun x hx y hy => ?_
            rw [List.mem_singleton.mp hx]
            exact t3 y hy
          have len4 : (o3 ++ [pb.getD (ib3 - 1) 0]).length + ia4 + (ib3 - 1) = pa.length + pb.length := by simp; omega
          have hl4 : o1.length + y + 1 ≤ (o3 ++ [pb.getD (ib3 - 1) 0]).length := by simp; omega
          generalize o3 ++ [pb.getD (ib3 - 1) 0] = o4 at m4 len4 hl4 ⊢
          clear m3 t3 len3 hl3
          have lb4 : 0 < ib3 - 1 := by omega
          have zb4 : ib3 - 1 ≤ pb.length := by omega
          generalize ib3 - 1 = ib4 at *
          extract_lets out4 ia5
          have eo : out4 = (o4.map f).toArray := rfl
          have ei : ia5 = ia4 - 1 := rfl
          clear_value out4 ia5
          subst eo ei
          by_cases c6 : ib4 = 1
          · rw [if_pos (by simpa using c6), eA, eB]
            exact wpS_pure ⟨hs4, .inl ⟨_, rfl, first m4 c6⟩⟩
          rw [if_neg (by simpa using c6)]
          have sxB : Srt key (pb.take ib4) := sb.sub (List.take_sublist _ _)
          refine wpS_bind (wpS_elem (gA (ia4 - 1) (by omega)) (wpS_bind (wp_galT L (mA (ia4 - 1) (by omega)) nb zb4 (by omega) hk3 sxB fun k2 hkl2 t1 t2 => ?_)))
          have m5 : MI (neg key) (pa ++ pb) (o4 ++ ((pb.take ib4).drop k2).reverse) (pa.take ia4).reverse (pb.take k2).reverse := by
            refine MI.right (by
              rw [← List.reverse_append]
              have : pb.take k2 ++ (pb.take ib4).drop k2 = pb.take ib4 := by
                have e := List.take_append_drop k2 (pb.take ib4)
                rwa [List.take_take, Nat.min_eq_left hkl2] at e
              rw [this]
              exact m4) fun x hx y hy => ?_
            have e1 := t2 x (List.mem_reverse.mp hx)
            have e2 := hd m4.sx (dA ia4 (by omega) za4) y hy
            simp [ltK, -List.getD_eq_getElem?_getD] at e1
            unfold neg
            omega
          have t7 : ∀ x ∈ (pb.take k2).reverse, neg key (pa.getD (ia4 - 1) 0) ≤ neg key x := fun x hx => by
            have e1 := t1 x (List.mem_reverse.mp hx)
            simp [ltK, -List.getD_eq_getElem?_getD] at e1
            unfold neg
            omega
          clear t1 t2
          have len5 : (o4 ++ ((pb.take ib4).drop k2).reverse).length + ia4 + k2 = pa.length + pb.length := by simp; omega
          have lo5 : o4.length ≤ (o4 ++ ((pb.take ib4).drop k2).reverse).length := by simp
          dsimp -zeta only
          extract_lets k3 bk jp out5 ib
          have eo : out5 = ((o4 ++ ((pb.take ib4).drop k2).reverse).map f).toArray := by
            show _ ++ _ = _
            rw [arr_exk, eR, arr_app, List.drop_take]
          have ei : ib = k2 := rfl
          have ekk : k3 = ib4 - k2 := rfl
          clear_value out5 ib bk k3
          subst eo ei
          have hj : ∀ o5 ib5, MI (neg key) (pa ++ pb) o5 (pa.take ia4).reverse (pb.take ib5).reverse → (∀ x ∈ (pb.take ib5).reverse, neg key (pa.getD (ia4 - 1) 0) ≤ neg key x) → o5.length + ia4 + ib5 = pa.length + pb.length → 1 < ib5 → ib5 ≤ pb.length → o1.length + y + 1 ≤ o5.length → wpS (model prog w) A E s (jp () ib5 (o5.map f).toArray) (GH f key pa pb st (o1.length + y)) st3 := by
            intro o5 ib5 m5 t7 len5 lb5 zb5 hl5
            refine wpS_bind (wpS_elem (gA (ia4 - 1) (by omega)) ?_)
            clear jp
            rw [arr_push]
            have m6 : MI (neg key) (pa ++ pb) (o5 ++ [pa.getD (ia4 - 1) 0]) (pa.take (ia4 - 1)).reverse (pb.take ib5).reverse := by
              refine MI.left (by rw [List.singleton_append, ← dA ia4 la4 za4]; exact m5) fun x hx y hy => ?_
              rw [List.mem_singleton.mp hx]
              exact t7 y hy
            have len6 : (o5 ++ [pa.getD (ia4 - 1) 0]).length + (ia4 - 1) + ib5 = pa.length + pb.length := by simp; omega
            have hl6 : o5.length ≤ (o5 ++ [pa.getD (ia4 - 1) 0]).length := by simp
            generalize o5 ++ [pa.getD (ia4 - 1) 0] = o6 at m6 len6 hl6 ⊢
            extract_lets out6
            by_cases c7 : ia4 - 1 = 0
            · rw [if_pos (by simpa using c7), eA, eB]
              exact wpS_pure ⟨hs4, .inl ⟨_, rfl, fin m6 (.inl c7)⟩⟩
            rw [if_neg (by simpa using c7)]
            have J6 : JH f key pa pb (o6.map f).toArray (ia4 - 1) ib5 o6 := ⟨rfl, m6, by omega, lb5, by omega, zb5, len6⟩
            split
            · exact wpS_pure ⟨hs4, .inr ⟨_, _, _, _, _, _, o6, rfl, J6, by omega⟩⟩
            · exact wpS_pure ⟨hs4, _, _, _, _, _, _, o6, rfl, J6, by omega⟩
          by_cases c7 : k3 > 0
          · rw [if_pos c7]
            by_cases c8 : ib = 1
            · rw [if_pos (by simpa using c8), eA, eB]
              exact wpS_pure ⟨hs4, .inl ⟨_, rfl, first m5 c8⟩⟩
            rw [if_neg (by simpa using c8)]
            by_cases c9 : ib = 0
            · rw [if_pos (by simpa using c9), eA, eB]
              exact wpS_pure ⟨hs4, .inl ⟨_, rfl, fin m5 (.inr c9)⟩⟩
            rw [if_neg (by simpa using c9)]
            exact hj _ _ m5 t7 len5 (by omega) (by omega) (by omega)
          · rw [if_neg c7]
            have ek : ib = ib4 := by omega
            subst ek
            rw [List.drop_of_length_le (by simp; omega), List.reverse_nil, List.append_nil] at m5
            exact hj _ _ m5 t7 len4 (by omega) zb4 hl4
        by_cases c3 : kk > 0
        · rw [if_pos c3]
          by_cases c4 : ia = 0
          · rw [if_pos (by simpa using c4), eA, eB]
            exact wpS_pure ⟨hs4, .inl ⟨_, rfl, fin m3 (.inl c4)⟩⟩
          rw [if_neg (by simpa using c4)]
          exact hj _ _ m3 t3 len3 (by omega) (by omega) (by omega)
        · rw [if_neg c3]
          have ek : ia = ia3 := by omega
          subst ek
          rw [List.drop_of_length_le (by simp; omega), List.reverse_nil, List.append_nil] at m3
          exact hj _ _ m3 t3 len2 la2 za2 hx2
end
section
open PySem.W hiding kindOf
variable {prog : Program} {w : World} {A : Around} {E : Value → Shared → Prop} {s : Shared} {κ : SortKind} {f : Nat → Keyed} {key : Nat → Int} {n : Nat}
structure SS (κ : SortKind) (f : Nat → Keyed) (n : Nat) (st : SortSt) (p : List Nat) : Prop where
  kind : kindOf st = κ
  ok : failedOf st = none
  arr : arrOf st = (p.map f).toArray
  perm : p.Perm (List.range n)
theorem SS.inN {st : SortSt} {p : List Nat} (h : SS κ f n st p) : InN n p := fun x hx => List.mem_range.mp (h.perm.mem_iff.mp hx)
theorem SS.len {st : SortSt} {p : List Nat} (h : SS κ f n st p) : p.length = n := by rw [h.perm.length_eq, List.length_range]
theorem foldl_set {β : Type} : ∀ (o v u t : List β), v.length = o.length → (o.zipIdx u.length).foldl (fun a (p : β × Nat) => a.setIfInBounds p.2 p.1) (u ++ (v ++ t)).toArray = (u ++ (o ++ t)).toArray
  | [], [], u, t, _ => rfl
  | x :: o, y :: v, u, t, h => by
    rw [List.zipIdx_cons, List.foldl_cons]
    have e : ((u ++ (y :: v ++ t)).toArray.setIfInBounds u.length x) = ((u ++ [x]) ++ (v ++ t)).toArray := by
      rw [List.setIfInBounds_toArray]
      congr 1
      rw [List.set_append_right _ _ (Nat.le_refl _), Nat.sub_self]
      simp
    show List.foldl _ ((u ++ (y :: v ++ t)).toArray.setIfInBounds u.length x) _ = _
    rw [e]
    have := foldl_set o v (u ++ [x]) t (by simpa using h)
    rw [List.length_append, List.length_singleton] at this
    rw [this]
    simp
theorem foldl_setO {β : Type} (o v u t : List β) (h : v.length = o.length) : o.zipIdx.foldl (fun a (p : β × Nat) => a.setIfInBounds (u.length + p.2) p.1) (u ++ (v ++ t)).toArray = (u ++ (o ++ t)).toArray := by
  rw [← foldl_set o v u t h]
  rw [List.zipIdx_eq_map_add (l := o) (i := u.length), List.foldl_map]
theorem wp_mergeAt (L : LtOk prog w A E s κ f key n) {st : SortSt} {u a b t : List Nat} {pd : Array (Nat × Nat × Nat)} {i wa wb : Nat} {Q : Bool → SortSt → Prop} (S : SS κ f n st (u ++ (a ++ (b ++ t)))) (hp : pendingOf st = pd) (h1 : pd[i]? = some (u.length, a.length, wa)) (h2 : pd[i + 1]? = some (u.length + a.length, b.length, wb))
    (sa : Srt key a) (sb : Srt key b) (la : 0 < a.length) (lb : 0 < b.length)
    (h : ∀ st' m, m.Perm (a ++ b) → Srt key m → SS κ f n st' (u ++ (m ++ t)) → pendingOf st' = (pd.setIfInBounds i (u.length, a.length + b.length, wa)).eraseIdxIfInBounds (i + 1) → Q true st') :
    wpS (model prog w) A E s (mergeAt' i) Q st := by
  obtain ⟨kd, ar, pe, g, fl⟩ := st
  obtain ⟨S1, S2, S3, S4⟩ := S
  have S1 : kd = κ := S1
  have S2 : fl = none := S2
  have S3 : ar = ((u ++ (a ++ (b ++ t))).map f).toArray := S3
  have hp : pe = pd := hp
  subst S1 S2 S3 hp
  refine wpS_bind (wpS_get ?_)
  have hP : InN n (u ++ (a ++ (b ++ t))) := fun x hx => List.mem_range.mp (S4.mem_iff.mp hx)
  have hb0 : (u ++ (a ++ (b ++ t)))[u.length + a.length]? = some (b.getD 0 0) := by
    rw [List.getElem?_append_right (by omega), List.getElem?_append_right (by omega), List.getElem?_append_left (by omega)]
    have : u.length + a.length - u.length - a.length = 0 := by omega
    rw [this]
    simp [lb]
  have bN : b.getD 0 0 < n := hP _ (List.mem_of_getElem? hb0)
  have ds : (u ++ (a ++ (b ++ t))).drop u.length = a ++ (b ++ t) := List.drop_left
  have db : (u ++ (a ++ (b ++ t))).drop (u.length + a.length) = b ++ t := by rw [← List.drop_drop, ds, List.drop_left]
  have hsb : b = b.getD 0 0 :: b.drop 1 := by
    have e := List.drop_eq_getElem_cons (l := b) (i := 0) lb
    rw [List.drop_zero] at e
    rw [show b.getD 0 0 = b[0] by simp [lb]]
    exact e
  have hbm : ∀ y ∈ b, key (b.getD 0 0) ≤ key y := fun y hy => by
    have sb' := sb
    rw [hsb] at sb'
    rw [hsb] at hy
    rcases List.mem_cons.mp hy with e | e
    · rw [e]; exact Int.le_refl _
    · exact (List.pairwise_cons.mp sb').1 y e
  have hla : (u ++ (a ++ (b ++ t)))[u.length + a.length - 1]? = some (a.getD (a.length - 1) 0) := by
    rw [List.getElem?_append_right (by omega), List.getElem?_append_left (by omega)]
    rw [show u.length + a.length - 1 - u.length = a.length - 1 by omega]
    have : a.length - 1 < a.length := by omega
    simp [this]
  have aN : a.getD (a.length - 1) 0 < n := hP _ (List.mem_of_getElem? hla)
  have ham : ∀ y ∈ a, key y ≤ key (a.getD (a.length - 1) 0) := fun y hy => by
    obtain ⟨j, hj, ej⟩ := List.getElem_of_mem hy
    have hz : a.length - 1 < a.length := by omega
    rw [← ej, show a.getD (a.length - 1) 0 = a[a.length - 1] by simp [hz]]
    rcases Nat.lt_or_ge j (a.length - 1) with e | e
    · exact List.pairwise_iff_getElem.mp sa j (a.length - 1) hj (by omega) e
    · have : j = a.length - 1 := by omega
      subst this
      exact Int.le_refl _
  dsimp -zeta only
  rw [h1, h2]
  dsimp -zeta only
  refine wpS_bind (wpS_modify ?_)
  have sega : ((u ++ (a ++ (b ++ t))).drop u.length).take a.length = a := by rw [ds, List.take_left]
  have segb : ((u ++ (a ++ (b ++ t))).drop (u.length + a.length)).take b.length = b := by rw [db, List.take_left]
  have done : ∀ st', kindOf st' = kd → failedOf st' = none → arrOf st' = ((u ++ (a ++ (b ++ t))).map f).toArray → pendingOf st' = (pe.setIfInBounds i (u.length, a.length + b.length, wa)).eraseIdxIfInBounds (i + 1) → Srt key (a ++ b) → Q true st' := fun st' q1 q2 q3 q4 q5 =>
    h st' (a ++ b) (List.Perm.refl _) q5 ⟨q1, q2, by rw [q3, List.append_assoc], by rw [List.append_assoc]; exact S4⟩ q4
  refine wpS_bind (wpS_elem hb0 (wpS_bind (wp_gal L bN hP (by simp) la rfl (by rw [sega]; exact sa) fun k hk t1 t2 => ?_)))
  rw [sega] at t1 t2
  have t1' : ∀ x ∈ a.take k, key x ≤ key (b.getD 0 0) := fun x hx => by
    have e1 := t1 x hx
    simp [ltK, -List.getD_eq_getElem?_getD] at e1
    omega
  have t2' : ∀ x ∈ a.drop k, key (b.getD 0 0) < key x := fun x hx => by
    have e1 := t2 x hx
    simp [ltK, -List.getD_eq_getElem?_getD] at e1
    omega
  clear t1 t2
  dsimp -zeta only
  by_cases c1 : a.length - k = 0
  · rw [if_pos (by simpa using c1)]
    refine wpS_pure (done _ rfl rfl rfl rfl (List.pairwise_append.mpr ⟨sa, sb, fun x hx y hy => ?_⟩))
    have := t1' x (by rw [List.take_of_length_le (by omega)]; exact hx)
    have := hbm y hy
    omega
  rw [if_neg (by simpa using c1)]
  have ek : u.length + k + (a.length - k) - 1 = u.length + a.length - 1 := by omega
  rw [ek]
  refine wpS_bind (wpS_elem hla (wpS_bind (wp_gal L aN hP (by simp; omega) (by omega) rfl (by rw [segb]; exact sb) fun m hm t1 t2 => ?_)))
  rw [segb] at t1 t2
  have t3' : ∀ x ∈ b.take m, key x < key (a.getD (a.length - 1) 0) := fun x hx => by
    have e1 := t1 x hx
    simp [ltK, -List.getD_eq_getElem?_getD] at e1
    omega
  have t4' : ∀ x ∈ b.drop m, key (a.getD (a.length - 1) 0) ≤ key x := fun x hx => by
    have e1 := t2 x hx
    simp [ltK, -List.getD_eq_getElem?_getD] at e1
    omega
  clear t1 t2
  dsimp -zeta only
  by_cases c2 : m = 0
  · rw [if_pos (by simpa using c2)]
    refine wpS_pure (done _ rfl rfl rfl rfl (List.pairwise_append.mpr ⟨sa, sb, fun x hx y hy => ?_⟩))
    have := t4' y (by rw [c2, List.drop_zero]; exact hy)
    have := ham x hx
    omega
  rw [if_neg (by simpa using c2)]
  extract_lets xx yy jp
  have ex : xx = ((a.drop k).map f).toArray := by
    show Array.extract _ _ _ = _
    rw [arr_exk, ← List.drop_drop, ds]
    congr 2
    rw [List.drop_append_of_le_length hk, List.take_left' (by simp; omega)]
  have ey : yy = ((b.take m).map f).toArray := by
    show Array.extract _ _ _ = _
    rw [arr_exk, db]
    congr 2
    rw [Nat.add_sub_cancel_left, List.take_append_of_le_length hm]
  clear_value xx yy
  subst ex ey
  have hjp : ∀ r st', SameSt (SortSt.mk' kd ((u ++ (a ++ (b ++ t))).map f).toArray ((pe.setIfInBounds i (u.length, a.length + b.length, wa)).eraseIdxIfInBounds (i + 1)) g none) st' → MOut f key (a.drop k ++ b.take m) r → wpS (model prog w) A E s (jp r) Q st' := by
    rintro r st' ⟨g', rfl⟩ ⟨o, rfl, po, so⟩
    refine wpS_bind (wpS_modify (wpS_bind (wpS_get (wpS_pure ?_))))
    have pm : (a.take k ++ (o ++ b.drop m)).Perm (a ++ b) := by
      refine ((List.Perm.refl _).append (po.append_right _)).trans ?_
      rw [List.append_assoc, List.take_append_drop, ← List.append_assoc, List.take_append_drop]
    refine h _ (a.take k ++ (o ++ b.drop m)) pm ?_ ⟨rfl, rfl, ?_, ?_⟩ rfl
    · have mo : ∀ x ∈ o, x ∈ a.drop k ∨ x ∈ b.take m := fun x hx => List.mem_append.mp (po.mem_iff.mp hx)
      refine List.pairwise_append.mpr ⟨sa.sub (List.take_sublist _ _), List.pairwise_append.mpr ⟨so, sb.sub (List.drop_sublist _ _), fun x hx y hy => ?_⟩, fun x hx y hy => ?_⟩
      · have e4 := t4' y hy
        rcases mo x hx with e | e
        · have := ham x (List.mem_of_mem_drop e); omega
        · have := t3' x e; omega
      · have e1 := t1' x hx
        rcases List.mem_append.mp hy with e | e
        · rcases mo y e with e | e
          · have := t2' y e; omega
          · have := hbm y (List.mem_of_mem_take e); omega
        · have := hbm y (List.mem_of_mem_drop e); omega
    · show List.foldl _ ((u ++ (a ++ (b ++ t))).map f).toArray ((o.map f).toArray.toList.zipIdx) = _
      have e0 : (u ++ (a ++ (b ++ t))).map f = ((u ++ a.take k).map f) ++ (((a.drop k ++ b.take m).map f) ++ ((b.drop m ++ t).map f)) := by
        rw [← List.map_append, ← List.map_append]
        congr 1
        rw [List.append_assoc, List.append_assoc]
        congr 1
        rw [← List.append_assoc (b.take m), List.take_append_drop, ← List.append_assoc (a.take k), List.take_append_drop]
      have el : u.length + k = ((u ++ a.take k).map f).length := by simp; omega
      rw [e0, el]
      have := foldl_setO (o.map f) ((a.drop k ++ b.take m).map f) ((u ++ a.take k).map f) ((b.drop m ++ t).map f) (by simp [po.length_eq])
      refine this.trans ?_
      simp
    · refine List.Perm.trans ?_ S4
      rw [← List.append_assoc a b t]
      exact (pm.append_right _).append_left _
  clear_value jp
  have nA : InN n (a.drop k) := fun x hx => hP x (List.mem_append_right _ (List.mem_append_left _ (List.mem_of_mem_drop hx)))
  have nB : InN n (b.take m) := fun x hx => hP x (List.mem_append_right _ (List.mem_append_right _ (List.mem_append_left _ (List.mem_of_mem_take hx))))
  have f1 : ∀ y ∈ a.drop k, key ((b.take m).getD 0 0) ≤ key y := fun y hy => by
    have e : (b.take m).getD 0 0 = b.getD 0 0 := by
      obtain ⟨m', rfl⟩ : ∃ m', m = m' + 1 := ⟨m - 1, by omega⟩
      rw [hsb]; rfl
    rw [e]
    exact Int.le_of_lt (t2' y hy)
  have f2 : ∀ y ∈ b.take m, key y ≤ key ((a.drop k).getD ((a.drop k).length - 1) 0) := fun y hy => by
    have e : (a.drop k).getD ((a.drop k).length - 1) 0 = a.getD (a.length - 1) 0 := by
      rw [List.length_drop, List.getD_eq_getElem?_getD, List.getD_eq_getElem?_getD, List.getElem?_drop]
      congr 2
      omega
    rw [e]
    exact Int.le_of_lt (t3' y hy)
  split
  · exact wpS_bind (wp_mergeLo L nA nB rfl (sa.sub (List.drop_sublist _ _)) (sb.sub (List.take_sublist _ _)) (by simp; omega) (by simp; omega) f1 f2 fun r st' q1 q2 => hjp r st' q1 q2)
  · exact wpS_bind (wp_mergeHi L nA nB rfl (sa.sub (List.drop_sublist _ _)) (sb.sub (List.take_sublist _ _)) (by simp; omega) (by simp; omega) f1 f2 fun r st' q1 q2 => hjp r st' q1 q2)
end
section
open PySem.W hiding kindOf
variable {prog : Program} {w : World} {A : Around} {E : Value → Shared → Prop} {s : Shared} {κ : SortKind} {f : Nat → Keyed} {key : Nat → Int} {n : Nat}
noncomputable def kG (key : Nat → Int) (p : List Nat) (i : Nat) : Int := key (p.getD i 0)
noncomputable def Sg (key : Nat → Int) (p : List Nat) (lo hi : Nat) : Prop := ∀ i j, lo ≤ i → i ≤ j → j < hi → kG key p i ≤ kG key p j
noncomputable def Dg (key : Nat → Int) (p : List Nat) (lo hi : Nat) : Prop := ∀ i j, lo ≤ i → i ≤ j → j < hi → kG key p j ≤ kG key p i
noncomputable def Fx (lo : Nat) (p p' : List Nat) : Prop := ∀ i, i < lo → p'.getD i 0 = p.getD i 0
theorem Fx.refl {lo : Nat} (p : List Nat) : Fx lo p p := fun _ _ => rfl
theorem Fx.trans {lo : Nat} {p q r : List Nat} (h : Fx lo p q) (k : Fx lo q r) : Fx lo p r := fun i hi => (k i hi).trans (h i hi)
noncomputable def rv (p : List Nat) (i j : Nat) : List Nat := (kas_rev p.toArray i j).toList
noncomputable def bb (p : List Nat) (src d : Nat) : List Nat := (bubble p.toArray src d).toList
theorem rv_get {p : List Nat} {i j : Nat} (hj : j ≤ p.length) (k : Nat) : (rv p i j).getD k 0 = if i ≤ k ∧ k < j then p.getD (i + j - 1 - k) 0 else p.getD k 0 := by
  have e := getElem?_mirror_all (xs := p.toArray) (i := i) (j := j) (by simpa using hj) k
  unfold rv kas_rev
  rw [List.getD_eq_getElem?_getD, Array.getElem?_toList, e]
  split <;> simp
theorem bb_get {p : List Nat} {src d : Nat} (hs : src < p.length) (hd : d ≤ src) (k : Nat) : (bb p src d).getD k 0 = if k = src - d then p.getD src 0 else if src - d < k ∧ k ≤ src then p.getD (k - 1) 0 else p.getD k 0 := by
  have e := getElem?_bubble (xs := p.toArray) (src := src) (by simpa using hs) d hd k
  unfold bb
  rw [List.getD_eq_getElem?_getD, Array.getElem?_toList, e]
  split
  · simp
  · split <;> simp
theorem rv_perm {p : List Nat} {i j : Nat} : (rv p i j).Perm p := Array.perm_iff_toList_perm.mp (mirror_perm p.toArray i j _)
theorem bb_perm {p : List Nat} {i j : Nat} : (bb p i j).Perm p := Array.perm_iff_toList_perm.mp (bubble_perm p.toArray i j)
theorem rv_fx {p : List Nat} {i j lo : Nat} (hj : j ≤ p.length) (hi : lo ≤ i) : Fx lo p (rv p i j) := fun k hk => by rw [rv_get hj, if_neg (by omega)]
theorem wpS_revS {st : SortSt} {p : List Nat} {i j : Nat} {Q : Unit → SortSt → Prop} (S : SS κ f n st p) (h : ∀ st', SS κ f n st' (rv p i j) → pendingOf st' = pendingOf st → Q () st') : wpS (model prog w) A E s (reverseSlice' i j) Q st := by
  rw [reverseSlice'_eq]
  refine wpS_modify (h _ ⟨S.kind, S.ok, ?_, rv_perm.trans S.perm⟩ rfl)
  show mirror (arrOf st) i j ((j - i) / 2) = _
  rw [S.arr]
  have e1 : mirror (p.toArray.map f) i j ((j - i) / 2) = (mirror p.toArray i j ((j - i) / 2)).map f := kas_swaps_map f (fun k => i + k) (fun k => j - 1 - k) _ p.toArray
  have e2 : (p.map f).toArray = p.toArray.map f := by simp
  rw [e2, e1]
  unfold rv kas_rev
  apply Array.toList_inj.mp
  simp
theorem wpS_movS {st : SortSt} {p : List Nat} {k l : Nat} {Q : Unit → SortSt → Prop} (S : SS κ f n st p) (h : ∀ st', SS κ f n st' (bb p k (k - l)) → pendingOf st' = pendingOf st → Q () st') : wpS (model prog w) A E s (moveDown' k l) Q st := by
  rw [moveDown'_eq]
  refine wpS_modify (h _ ⟨S.kind, S.ok, ?_, bb_perm.trans S.perm⟩ rfl)
  show bubble (arrOf st) k (k - l) = _
  rw [S.arr]
  have e1 : bubble (p.toArray.map f) k (k - l) = (bubble p.toArray k (k - l)).map f := kas_swaps_map f (fun i => k - i) (fun i => k - i - 1) _ p.toArray
  have e2 : (p.map f).toArray = p.toArray.map f := by simp
  rw [e2, e1]
  unfold bb
  apply Array.toList_inj.mp
  simp
theorem wpS_ltS (L : LtOk prog w A E s κ f key n) {st : SortSt} {p : List Nat} {i j : Nat} {Q : Option Bool → SortSt → Prop} (S : SS κ f n st p) (hi : i < n) (hj : j < n) (h : Q (some (decide (kG key p i < kG key p j))) st) : wpS (model prog w) A E s (ltAt' i j) Q st := by
  have hl := S.len
  have gi : p[i]? = some (p.getD i 0) := by have : i < p.length := by omega
                                            simp [this]
  have gj : p[j]? = some (p.getD j 0) := by have : j < p.length := by omega
                                            simp [this]
  rw [ltAt'_eq]
  refine wpS_bind (wpS_get ?_)
  rw [S.arr]
  refine wpS_bind (wpS_elem gi (wpS_bind (wpS_elem gj ?_)))
  exact L _ _ _ _ (S.inN _ (List.mem_of_getElem? gi)) (S.inN _ (List.mem_of_getElem? gj)) S.kind h
theorem Sg.step {p : List Nat} {lo m : Nat} (h : Sg key p lo (lo + m)) (h1 : 1 ≤ m) (hl : ¬ kG key p (lo + m) < kG key p (lo + m - 1)) : Sg key p lo (lo + (m + 1)) := fun i j hi hij hj => by
  by_cases hjx : j < lo + m
  · exact h i j hi hij hjx
  · have ej : j = lo + m := by omega
    subst ej
    by_cases hi' : i = lo + m
    · subst hi'; exact Int.le_refl _
    · have := h i (lo + m - 1) hi (by omega) (by omega)
      omega
theorem Dg.step {p : List Nat} {lo m : Nat} (h : Dg key p lo (lo + m)) (h1 : 1 ≤ m) (hl : kG key p (lo + m) ≤ kG key p (lo + m - 1)) : Dg key p lo (lo + (m + 1)) := fun i j hi hij hj => by
  by_cases hjx : j < lo + m
  · exact h i j hi hij hjx
  · have ej : j = lo + m := by omega
    subst ej
    by_cases hi' : i = lo + m
    · subst hi'; exact Int.le_refl _
    · have := h i (lo + m - 1) hi (by omega) (by omega)
      omega
theorem asc_gen {st : SortSt} {p : List Nat} {lo nrem a : Nat} (S : SS κ f n st p) (hn : lo + nrem ≤ n) (ha : 1 ≤ a) (han : a ≤ nrem) (hs : Sg key p lo (lo + a)) {F : Nat → Option (Option Nat) × Nat → StateT SortSt Sem (ForInStep (Option (Option Nat) × Nat))}
    (hF : ∀ x m (R : ForInStep (Option (Option Nat) × Nat) → SortSt → Prop), 1 ≤ m → lo + m < n → (kG key p (lo + m) < kG key p (lo + m - 1) → R (.done (none, m)) st) → (¬ kG key p (lo + m) < kG key p (lo + m - 1) → R (.yield (none, m + 1)) st) → wpS (model prog w) A E s (F x (none, m)) R st) :
    wpS (model prog w) A E s (forIn [a:nrem] (none, a) F) (fun c st' => st' = st ∧ ∃ m, c = (none, m) ∧ a ≤ m ∧ m ≤ nrem ∧ Sg key p lo (lo + m) ∧ (m = nrem ∨ kG key p (lo + m) < kG key p (lo + m - 1))) st := by
  refine wpS_forRange (I := fun x c st' => st' = st ∧ c = (none, x) ∧ Sg key p lo (lo + x)) ?step ?fin ⟨rfl, rfl, hs⟩
  case fin =>
    rintro c st' ⟨rfl, rfl, hs'⟩
    rw [show max a nrem = nrem by omega] at hs' ⊢
    exact ⟨rfl, nrem, rfl, han, Nat.le_refl _, hs', .inl rfl⟩
  case step =>
    rintro x c st' hax hxn ⟨rfl, rfl, hs'⟩
    exact hF x x _ (by omega) (by omega) (fun e => ⟨rfl, x, rfl, hax, by omega, hs', .inr e⟩) fun e => ⟨rfl, rfl, hs'.step (by omega) e⟩
noncomputable def Al (key : Nat → Int) (p : List Nat) (m q : Nat) : Prop := ∀ i, m - (q + 1) ≤ i → i < m → kG key p i = kG key p (m - 1)
theorem rv_al {p : List Nat} {m q : Nat} (hn : m ≤ p.length) (ha : Al key p m q) (k : Nat) : kG key (rv p (m - (q + 1)) m) k = kG key p k := by
  show key _ = key _
  rw [rv_get hn]
  split
  · exact (ha _ (by omega) (by omega)).trans (ha k (by omega) (by omega)).symm
  · rfl
theorem desc_gen {st : SortSt} {p : List Nat} {lo nrem a : Nat} (S : SS κ f n st p) (hn : lo + nrem ≤ n) (ha : 1 ≤ a) (han : a ≤ nrem) (hs : Dg key p lo (lo + a)) {F : Nat → Option (Option Nat) × Nat × Nat → StateT SortSt Sem (ForInStep (Option (Option Nat) × Nat × Nat))}
    (hF : ∀ x m q st p (R : ForInStep (Option (Option Nat) × Nat × Nat) → SortSt → Prop), SS κ f n st p → 1 ≤ m → lo + m < n →
      (kG key p (lo + m) < kG key p (lo + m - 1) → q > 0 → ∀ st', SS κ f n st' (rv p (lo + m - (q + 1)) (lo + m)) → pendingOf st' = pendingOf st → R (.yield (none, m + 1, 0)) st') →
      (kG key p (lo + m) < kG key p (lo + m - 1) → ¬ q > 0 → R (.yield (none, m + 1, 0)) st) →
      (¬ kG key p (lo + m) < kG key p (lo + m - 1) → kG key p (lo + m - 1) < kG key p (lo + m) → R (.done (none, m, q)) st) →
      (¬ kG key p (lo + m) < kG key p (lo + m - 1) → ¬ kG key p (lo + m - 1) < kG key p (lo + m) → R (.yield (none, m + 1, q + 1)) st) → wpS (model prog w) A E s (F x (none, m, q)) R st) :
    wpS (model prog w) A E s (forIn [a:nrem] (none, a, 0) F) (fun c st' => ∃ m q p', c = (none, m, q) ∧ SS κ f n st' p' ∧ pendingOf st' = pendingOf st ∧ Fx lo p p' ∧ a ≤ m ∧ m ≤ nrem ∧ Dg key p' lo (lo + m) ∧ q + 1 ≤ m ∧ Al key p' (lo + m) q) st := by
  refine wpS_forRange (I := fun x c st' => ∃ q p', c = (none, x, q) ∧ SS κ f n st' p' ∧ pendingOf st' = pendingOf st ∧ Fx lo p p' ∧ Dg key p' lo (lo + x) ∧ q + 1 ≤ x ∧ Al key p' (lo + x) q) ?step ?fin ⟨0, p, rfl, S, rfl, Fx.refl _, hs, by omega, fun i h1 h2 => by rw [show i = lo + a - 1 by omega]⟩
  case fin =>
    rintro c st' ⟨q, p', rfl, S', e1, e2, e3, e4, e5⟩
    rw [show max a nrem = nrem by omega] at *
    exact ⟨nrem, q, p', rfl, S', e1, e2, han, Nat.le_refl _, e3, e4, e5⟩
  case step =>
    rintro x c st' hax hxn ⟨q, p', rfl, S', e1, e2, e3, e4, e5⟩
    have hl := S'.len
    have al0 : ∀ p, Al key p (lo + (x + 1)) 0 := fun p i h1 h2 => by rw [show i = lo + (x + 1) - 1 by omega]
    refine hF x x q st' p' _ S' (by omega) (by omega) (fun c1 c2 st2 S2 q2 => ?_) (fun c1 c2 => ?_) (fun c1 c2 => ?_) (fun c1 c2 => ?_)
    · refine ⟨0, _, rfl, S2, q2.trans e1, e2.trans (rv_fx (by omega) (by omega)), ?_, by omega, al0 _⟩
      have hd : Dg key (rv p' (lo + x - (q + 1)) (lo + x)) lo (lo + x) := fun i j h1 h2 h3 => by
        rw [rv_al (by omega) e5, rv_al (by omega) e5]
        exact e3 i j h1 h2 h3
      refine hd.step (by omega) ?_
      rw [rv_al (by omega) e5, rv_al (by omega) e5]
      omega
    · exact ⟨0, p', rfl, S', e1, e2, e3.step (by omega) (by omega), by omega, al0 _⟩
    · exact ⟨x, q, p', rfl, S', e1, e2, hax, by omega, e3, e4, e5⟩
    · refine ⟨q + 1, p', rfl, S', e1, e2, e3.step (by omega) (by omega), by omega, fun i h1 h2 => ?_⟩
      have ee : kG key p' (lo + x) = kG key p' (lo + x - 1) := by omega
      rw [show lo + (x + 1) - 1 = lo + x by omega]
      by_cases hi : i = lo + x
      · rw [hi]
      · rw [ee]; exact e5 i (by omega) (by omega)
theorem wp_countRun (L : LtOk prog w A E s κ f key n) {st : SortSt} {p : List Nat} {lo nrem : Nat} {Q : Option Nat → SortSt → Prop} (S : SS κ f n st p) (hn : lo + nrem ≤ n) (h1 : 1 ≤ nrem)
    (h : ∀ m st' p', SS κ f n st' p' → pendingOf st' = pendingOf st → 1 ≤ m → m ≤ nrem → Sg key p' lo (lo + m) → Fx lo p p' → Q (some m) st') : wpS (model prog w) A E s (countRun' lo nrem) Q st := by
  rw [countRun'_eq]
  dsimp only
  have hl := S.len
  refine wpS_bind (wpS_mono (asc_gen (key := key) S hn (Nat.le_refl 1) h1 (fun i j a1 a2 a3 => by rw [show i = j by omega]; exact Int.le_refl _) ?body) ?post)
  case body =>
    intro x m R b1 b2 r1 r2
    refine wpS_bind (wpS_ltS L S (by omega) (by omega) ?_)
    by_cases c : kG key p (lo + m) < kG key p (lo + m - 1)
    · rw [decide_eq_true c]; exact wpS_pure (r1 c)
    · rw [decide_eq_false c]; exact wpS_pure (r2 c)
  case post =>
    rintro c st' ⟨rfl, m, rfl, hm1, hm2, hs, hor⟩
    dsimp only
    by_cases c1 : m = nrem
    · rw [if_pos (by simpa using c1)]
      exact wpS_pure (h m st' p S rfl hm1 hm2 hs (Fx.refl _))
    rw [if_neg (by simpa using c1)]
    have hlt := hor.resolve_left c1
    by_cases c2 : m > 1
    case' pos =>
      rw [if_pos c2]
      refine wpS_bind (wpS_ltS L S (by omega) (by omega) ?_)
      by_cases c3 : kG key p lo < kG key p (lo + m - 1)
      · rw [decide_eq_true c3]
        exact wpS_pure (h m st' p S rfl hm1 hm2 hs (Fx.refl _))
      rw [decide_eq_false c3]
      simp only [Bool.false_eq_true, if_false]
      have al : ∀ i, lo ≤ i → i < lo + m → kG key p i = kG key p (lo + m - 1) := fun i a1 a2 => by
        have := hs lo i (Nat.le_refl _) a1 a2
        have := hs i (lo + m - 1) a1 (by omega) (by omega)
        omega
      refine wpS_bind (wpS_revS S fun st1 S1 q1 => ?_)
      have f1 : Fx lo p (rv p lo (lo + m)) := rv_fx (by omega) (Nat.le_refl _)
      have ek : ∀ k, kG key (rv p lo (lo + m)) k = kG key p k := fun k => by
        have := rv_al (key := key) (p := p) (m := lo + m) (q := m - 1) (by omega) (fun i a1 a2 => al i (by omega) a2) k
        rwa [show lo + m - (m - 1 + 1) = lo by omega] at this
      have d1 : Dg key (rv p lo (lo + m)) lo (lo + (m + 1)) := by
        refine Dg.step (fun i j a1 a2 a3 => ?_) hm1 ?_
        · rw [ek, ek, al i a1 (by omega), al j (by omega) a3]; exact Int.le_refl _
        · rw [ek, ek]; omega
    case' neg =>
      rw [if_neg c2]
      have f1 : Fx lo p p := Fx.refl _
      have S1 := S
      have q1 : pendingOf st' = pendingOf st' := rfl
      have d1 : Dg key p lo (lo + (m + 1)) := by
        refine Dg.step (fun i j a1 a2 a3 => by rw [show i = j by omega]; exact Int.le_refl _) hm1 (by omega)
    all_goals
      refine wpS_bind (wpS_lift (wpAny_rule ⟨rfl, ?_⟩))
      refine wpS_bind (wpS_mono (desc_gen (key := key) S1 hn (by omega) (by omega) d1 ?body2) ?post2)
      case body2 =>
        intro x m q st p R S b1 b2 r1 r2 r3 r4
        dsimp only
        refine wpS_bind (wpS_ltS L S (by omega) (by omega) ?_)
        by_cases c : kG key p (lo + m) < kG key p (lo + m - 1)
        · rw [decide_eq_true c]
          simp only [if_true]
          by_cases c' : q > 0
          · rw [if_pos c']
            exact wpS_bind (wpS_revS S fun st' S' e' => wpS_pure (r1 c c' st' S' e'))
          · rw [if_neg c']
            exact wpS_pure (r2 c c')
        · rw [decide_eq_false c]
          simp only [Bool.false_eq_true, if_false]
          refine wpS_bind (wpS_ltS L S (by omega) (by omega) ?_)
          by_cases c' : kG key p (lo + m - 1) < kG key p (lo + m)
          · rw [decide_eq_true c']
            exact wpS_pure (r3 c c')
          · rw [decide_eq_false c']
            exact wpS_pure (r4 c c')
      case post2 =>
        rintro c st2 ⟨m2, q2, p2, rfl, S2, e2, f2, g1, g2, d2, g3, al2⟩
        have hl2 := S2.len
        dsimp only
        by_cases c4 : q2 > 0
        case' pos =>
          rw [if_pos c4]
          refine wpS_bind (wpS_revS S2 fun st3 S3 e3 => ?_)
          have f3 := f2.trans (rv_fx (p := p2) (i := lo + m2 - (q2 + 1)) (j := lo + m2) (lo := lo) (by omega) (by omega))
          have d3 : Dg key (rv p2 (lo + m2 - (q2 + 1)) (lo + m2)) lo (lo + m2) := fun i j a1 a2 a3 => by
            rw [rv_al (by omega) al2, rv_al (by omega) al2]
            exact d2 i j a1 a2 a3
          generalize rv p2 (lo + m2 - (q2 + 1)) (lo + m2) = p3 at S3 f3 d3
        case' neg =>
          rw [if_neg c4]
          have S3 := S2
          have e3 : pendingOf st2 = pendingOf st2 := rfl
          have f3 := f2
          have d3 := d2
          generalize p2 = p3 at S3 f3 d3
        all_goals
          have hl3 := S3.len
          refine wpS_bind (wpS_revS S3 fun st4 S4 e4 => ?_)
          have f4 := f3.trans (rv_fx (i := lo) (j := lo + m2) (lo := lo) (by omega) (Nat.le_refl _))
          refine wpS_bind (wpS_mono (asc_gen (key := key) S4 hn (a := m2) (by omega) g2 (fun i j a1 a2 a3 => ?_) ?body3) ?post3)
          · show key _ ≤ key _
            rw [rv_get (by omega), rv_get (by omega), if_pos (by omega), if_pos (by omega)]
            exact d3 _ _ (by omega) (by omega) (by omega)
          case body3 =>
            intro x m R b1 b2 r1 r2
            refine wpS_bind (wpS_ltS L S4 (by omega) (by omega) ?_)
            by_cases c : kG key (rv p3 lo (lo + m2)) (lo + m) < kG key (rv p3 lo (lo + m2)) (lo + m - 1)
            · rw [decide_eq_true c]; exact wpS_pure (r1 c)
            · rw [decide_eq_false c]; exact wpS_pure (r2 c)
          case post3 =>
            rintro c st5 ⟨rfl, m5, rfl, h51, h52, s5, _⟩
            exact wpS_pure (h m5 _ _ S4 (e4.trans (e3.trans (e2.trans q1))) (by omega) h52 s5 (f1.trans f4))
end
section
open PySem.W hiding kindOf
variable {prog : Program} {w : World} {A : Around} {E : Value → Shared → Prop} {s : Shared} {κ : SortKind} {f : Nat → Keyed} {key : Nat → Int} {n : Nat}
theorem wp_binary (L : LtOk prog w A E s κ f key n) {st : SortSt} {p : List Nat} {lo m ok : Nat} {Q : Bool → SortSt → Prop} (S : SS κ f n st p) (hn : lo + m ≤ n) (h1 : 1 ≤ ok) (hok : ok ≤ m) (hs : Sg key p lo (lo + ok))
    (h : ∀ st' p', SS κ f n st' p' → pendingOf st' = pendingOf st → Sg key p' lo (lo + m) → Fx lo p p' → Q true st') : wpS (model prog w) A E s (binarySort' lo m ok) Q st := by
  unfold binarySort'
  refine wpS_bind (wpS_mono (wpS_forRange (I := fun k c st' => c = (none, ()) ∧ ∃ p', SS κ f n st' p' ∧ pendingOf st' = pendingOf st ∧ Sg key p' lo (lo + k) ∧ Fx lo p p')
    (Q := fun c st' => c = (none, ()) ∧ ∃ p', SS κ f n st' p' ∧ pendingOf st' = pendingOf st ∧ Sg key p' lo (lo + m) ∧ Fx lo p p') ?step ?fin ⟨rfl, p, S, rfl, by rw [Nat.max_eq_left h1]; exact hs, Fx.refl _⟩) ?post)
  case fin =>
    rintro c st' ⟨rfl, p', e⟩
    rw [show max (max ok 1) m = m by omega] at e
    exact ⟨rfl, p', e⟩
  case post =>
    rintro c st' ⟨rfl, p', S', e1, e2, e3⟩
    exact wpS_pure (h _ _ S' e1 e2 e3)
  case step =>
    rintro k c st1 hk1 hk2 ⟨rfl, p1, S1, e1, s1, f1⟩
    dsimp only
    have hl1 := S1.len
    have hk0 : 1 ≤ k := by omega
    refine wpS_bind (wpS_mono (wpS_forRange (I := fun x c st' => st' = st1 ∧ ∃ l r, c = (none, l, r) ∧ l ≤ r ∧ r ≤ k ∧ r - l + x ≤ k ∧ (∀ i, i < l → kG key p1 (lo + i) ≤ kG key p1 (lo + k)) ∧ (∀ i, r ≤ i → i < k → kG key p1 (lo + k) < kG key p1 (lo + i)))
      (Q := fun c st' => st' = st1 ∧ ∃ l r, c = (none, l, r) ∧ l ≤ k ∧ (∀ i, i < l → kG key p1 (lo + i) ≤ kG key p1 (lo + k)) ∧ (∀ i, l ≤ i → i < k → kG key p1 (lo + k) < kG key p1 (lo + i))) ?step1 ?fin1 ⟨rfl, 0, k, rfl, by omega, by omega, by omega, fun i hi => by omega, fun i h1 h2 => by omega⟩) ?post1)
    case fin1 =>
      rintro c st' ⟨rfl, l, r, rfl, a1, a2, a3, a4, a5⟩
      have : l = r := by omega
      subst this
      exact ⟨rfl, l, l, rfl, a2, a4, a5⟩
    case step1 =>
      rintro x c st' _ hx ⟨rfl, l, r, rfl, a1, a2, a3, a4, a5⟩
      dsimp only
      by_cases c1 : l ≥ r
      · rw [if_pos c1]
        have : l = r := by omega
        subst this
        exact wpS_pure ⟨rfl, l, l, rfl, a2, a4, a5⟩
      rw [if_neg c1]
      refine wpS_bind (wpS_ltS L S1 (by omega) (by omega) ?_)
      by_cases c2 : kG key p1 (lo + k) < kG key p1 (lo + (l + r) / 2)
      · rw [decide_eq_true c2]
        refine wpS_pure ⟨rfl, l, (l + r) / 2, rfl, by omega, by omega, by omega, a4, fun i q1 q2 => ?_⟩
        have := s1 (lo + (l + r) / 2) (lo + i) (by omega) (by omega) (by omega)
        omega
      · rw [decide_eq_false c2]
        refine wpS_pure ⟨rfl, (l + r) / 2 + 1, r, rfl, by omega, by omega, by omega, fun i q1 => ?_, a5⟩
        have := s1 (lo + i) (lo + (l + r) / 2) (by omega) (by omega) (by omega)
        omega
    case post1 =>
      rintro c st' ⟨rfl, l, r, rfl, a1, a2, a3⟩
      dsimp only
      refine wpS_bind (wpS_movS S1 fun st2 S2 e2 => wpS_pure ⟨rfl, _, S2, e2.trans e1, ?_, f1.trans ?_⟩)
      · have ek : lo + k - (lo + k - (lo + l)) = lo + l := by omega
        have kb : ∀ i, kG key (bb p1 (lo + k) (lo + k - (lo + l))) i = if i = lo + l then kG key p1 (lo + k) else if lo + l < i ∧ i ≤ lo + k then kG key p1 (i - 1) else kG key p1 i := fun i => by
          show key _ = _
          rw [bb_get (by omega) (by omega), ek]
          split
          · rfl
          · split <;> rfl
        intro i j b1 b2 b3
        rw [kb, kb]
        by_cases c1 : i = lo + l
        · rw [if_pos c1]
          by_cases c2 : j = lo + l
          · rw [if_pos c2]; exact Int.le_refl _
          · rw [if_neg c2, if_pos (by omega)]
            have := a3 (j - 1 - lo) (by omega) (by omega)
            rw [show lo + (j - 1 - lo) = j - 1 by omega] at this
            omega
        · rw [if_neg c1]
          by_cases c2 : j = lo + l
          · rw [if_pos c2, if_neg (by omega)]
            have := a2 (i - lo) (by omega)
            rwa [show lo + (i - lo) = i by omega] at this
          · rw [if_neg c2]
            by_cases c3 : lo + l < i ∧ i ≤ lo + k
            · rw [if_pos c3, if_pos (by omega)]
              exact s1 _ _ (by omega) (by omega) (by omega)
            · rw [if_neg c3]
              by_cases c4 : lo + l < j ∧ j ≤ lo + k
              · rw [if_pos c4]
                exact s1 _ _ (by omega) (by omega) (by omega)
              · rw [if_neg c4]
                exact s1 _ _ (by omega) (by omega) (by omega)
      · intro i hi
        rw [bb_get (by omega) (by omega), if_neg (by omega), if_neg (by omega)]
end
section
open PySem.W hiding kindOf
variable {prog : Program} {w : World} {A : Around} {E : Value → Shared → Prop} {s : Shared} {κ : SortKind} {f : Nat → Keyed} {key : Nat → Int} {n : Nat}
noncomputable def mkP : Nat → List (List Nat × Nat) → List (Nat × Nat × Nat)
  | _, [] => []
  | a, (l, w) :: r => (a, l.length, w) :: mkP (a + l.length) r
noncomputable def flt (gs : List (List Nat × Nat)) : List Nat := (gs.map Prod.fst).flatten
theorem flt_app (x y : List (List Nat × Nat)) : flt (x ++ y) = flt x ++ flt y := by simp [flt]
theorem flt_cons (g : List Nat × Nat) (y : List (List Nat × Nat)) : flt (g :: y) = g.1 ++ flt y := by simp [flt]
theorem mkP_app : ∀ (x : List (List Nat × Nat)) (a : Nat) (y : List (List Nat × Nat)), mkP a (x ++ y) = mkP a x ++ mkP (a + (flt x).length) y
  | [], a, y => by simp [mkP, flt]
  | (l, w) :: x, a, y => by
    show (a, l.length, w) :: mkP (a + l.length) (x ++ y) = (a, l.length, w) :: (mkP (a + l.length) x ++ _)
    rw [mkP_app x, flt_cons, List.length_append, Nat.add_assoc]
theorem mkP_len : ∀ (x : List (List Nat × Nat)) (a : Nat), (mkP a x).length = x.length
  | [], _ => rfl
  | (l, w) :: x, a => by simp [mkP, mkP_len x]
structure RI (κ : SortKind) (f : Nat → Keyed) (key : Nat → Int) (n : Nat) (st : SortSt) (gs : List (List Nat × Nat)) (rest : List Nat) : Prop where
  ss : SS κ f n st (flt gs ++ rest)
  pd : pendingOf st = (mkP 0 gs).toArray
  ok : ∀ g ∈ gs, Srt key g.1 ∧ 0 < g.1.length
theorem RI.size {st : SortSt} {gs : List (List Nat × Nat)} {rest : List Nat} (h : RI κ f key n st gs rest) : (pendingOf st).size = gs.length := by rw [h.pd]; simp [mkP_len]
theorem RI.few : ∀ {gs : List (List Nat × Nat)}, (∀ g ∈ gs, Srt key g.1 ∧ 0 < g.1.length) → gs.length ≤ (flt gs).length
  | [], _ => Nat.zero_le _
  | g :: gs, h => by
    have h1 := (h g List.mem_cons_self).2
    have h2 := RI.few (gs := gs) fun x hx => h x (List.mem_cons_of_mem _ hx)
    rw [flt_cons, List.length_append, List.length_cons]
    omega
theorem merge_gs (L : LtOk prog w A E s κ f key n) {st : SortSt} {pre post : List (List Nat × Nat)} {a b : List Nat} {wa wb i : Nat} {rest : List Nat} {Q : Bool → SortSt → Prop} (R : RI κ f key n st (pre ++ (a, wa) :: (b, wb) :: post) rest) (hi : i = pre.length)
    (h : ∀ st' m, m.length = a.length + b.length → RI κ f key n st' (pre ++ (m, wa) :: post) rest → Q true st') : wpS (model prog w) A E s (mergeAt' i) Q st := by
  subst hi
  have oka := R.ok (a, wa) (by simp)
  have okb := R.ok (b, wb) (by simp)
  have eF : flt (pre ++ (a, wa) :: (b, wb) :: post) ++ rest = flt pre ++ (a ++ (b ++ (flt post ++ rest))) := by rw [flt_app, flt_cons, flt_cons]; simp
  have eP : mkP 0 (pre ++ (a, wa) :: (b, wb) :: post) = mkP 0 pre ++ ((flt pre).length, a.length, wa) :: ((flt pre).length + a.length, b.length, wb) :: mkP ((flt pre).length + a.length + b.length) post := by
    rw [mkP_app]; simp [mkP]
  have S := R.ss
  rw [eF] at S
  have hp := R.pd
  rw [eP] at hp
  have lp := mkP_len pre 0
  refine wp_mergeAt L S hp (wa := wa) (wb := wb) ?_ ?_ oka.1 okb.1 oka.2 okb.2 fun st' m pm sm S' p' => h st' m (by rw [pm.length_eq, List.length_append]) ⟨?_, ?_, ?_⟩
  · rw [List.getElem?_toArray, List.getElem?_append_right (by omega), lp, Nat.sub_self]; rfl
  · rw [List.getElem?_toArray, List.getElem?_append_right (by omega), lp, Nat.add_sub_cancel_left]; rfl
  · have e : flt (pre ++ (m, wa) :: post) ++ rest = flt pre ++ (m ++ (flt post ++ rest)) := by rw [flt_app, flt_cons]; simp
    rw [e]
    exact S'
  · rw [p', mkP_app]
    have ml : m.length = a.length + b.length := by rw [pm.length_eq, List.length_append]
    show _ = (mkP 0 pre ++ (0 + (flt pre).length, m.length, wa) :: mkP (0 + (flt pre).length + m.length) post).toArray
    rw [Nat.zero_add, ml, List.setIfInBounds_toArray, ← lp, List.set_append_right _ _ (Nat.le_refl _), Nat.sub_self, List.set_cons_zero, List.eraseIdxIfInBounds_toArray, List.eraseIdx_append_of_length_le (by omega), Nat.add_sub_cancel_left, ← Nat.add_assoc]
    rfl
  · intro g hg
    rcases List.mem_append.mp hg with e | e
    · exact R.ok g (List.mem_append_left _ e)
    · rcases List.mem_cons.mp e with e | e
      · subst e
        have la : 0 < a.length := oka.2
        exact ⟨sm, by show 0 < m.length; rw [pm.length_eq, List.length_append]; omega⟩
      · exact R.ok g (List.mem_append_right _ (List.mem_cons_of_mem _ (List.mem_cons_of_mem _ e)))
theorem split2 {α : Type} {l : List α} {i : Nat} (h : i + 1 < l.length) : ∃ pre a b post, l = pre ++ a :: b :: post ∧ pre.length = i := by
  refine ⟨l.take i, l[i], l[i + 1], l.drop (i + 2), ?_, by simp; omega⟩
  rw [← List.drop_eq_getElem_cons, ← List.drop_eq_getElem_cons, List.take_append_drop]
noncomputable def rePw (pw : Nat) : Nat × Nat × Nat → Nat × Nat × Nat
  | (s, l, _) => (s, l, pw)
theorem RI.last {st : SortSt} {gs : List (List Nat × Nat)} {rest : List Nat} {pw : Nat} (h : RI κ f key n st gs rest) : ∃ gs', gs'.length = gs.length ∧ flt gs' = flt gs ∧ RI κ f key n (setPending st ((pendingOf st).modify ((pendingOf st).size - 1) (rePw pw))) gs' rest := by
  by_cases e : gs = []
  · subst e
    refine ⟨[], rfl, rfl, ⟨h.ss.kind, h.ss.ok, h.ss.arr, h.ss.perm⟩, ?_, h.ok⟩
    show (pendingOf st).modify ((pendingOf st).size - 1) (rePw pw) = _
    rw [h.pd]; rfl
  · obtain ⟨pre, b, eb⟩ : ∃ pre b, gs = pre ++ [b] := ⟨gs.dropLast, gs.getLast e, (List.dropLast_concat_getLast e).symm⟩
    subst eb
    obtain ⟨b, wb⟩ := b
    have ef : flt (pre ++ [(b, pw)]) = flt (pre ++ [(b, wb)]) := by simp [flt]
    refine ⟨pre ++ [(b, pw)], by simp, ef, ⟨h.ss.kind, h.ss.ok, ?_, ?_⟩, ?_, fun g hg => ?_⟩
    · rw [ef]; exact h.ss.arr
    · rw [ef]; exact h.ss.perm
    · show (pendingOf st).modify ((pendingOf st).size - 1) (rePw pw) = _
      rw [h.size, h.pd, mkP_app, mkP_app]
      have lp := mkP_len pre 0
      apply Array.ext_getElem?
      intro i
      rw [Array.getElem?_modify]
      simp only [List.length_append, List.length_singleton, Nat.add_sub_cancel, List.getElem?_toArray, mkP]
      by_cases c : pre.length = i
      · subst c
        rw [if_pos rfl, ← lp, List.getElem?_append_right (Nat.le_refl _), List.getElem?_append_right (Nat.le_refl _), Nat.sub_self]
        rfl
      · rw [if_neg c]
        rcases Nat.lt_or_ge i pre.length with d | d
        · rw [List.getElem?_append_left (by omega), List.getElem?_append_left (by omega)]
        · rw [List.getElem?_eq_none (by simp; omega), List.getElem?_eq_none (by simp; omega)]
    · rcases List.mem_append.mp hg with e | e
      · exact h.ok g (List.mem_append_left _ e)
      · have := List.mem_singleton.mp e
        subst this
        exact h.ok (b, wb) (by simp)
theorem RI.push {st : SortSt} {gs : List (List Nat × Nat)} {run rest : List Nat} (h : RI κ f key n st gs (run ++ rest)) (hs : Srt key run) (hl : 0 < run.length) : RI κ f key n (setPending st ((pendingOf st).push ((flt gs).length, run.length, 0))) (gs ++ [(run, 0)]) rest := by
  have ef : flt (gs ++ [(run, 0)]) ++ rest = flt gs ++ (run ++ rest) := by simp [flt]
  refine ⟨⟨h.ss.kind, h.ss.ok, ?_, ?_⟩, ?_, fun g hg => ?_⟩
  · rw [ef]; exact h.ss.arr
  · rw [ef]; exact h.ss.perm
  · show (pendingOf st).push _ = _
    rw [h.pd, mkP_app]
    simp [mkP]
  · rcases List.mem_append.mp hg with e | e
    · exact h.ok g e
    · rw [List.mem_singleton.mp e]
      exact ⟨hs, hl⟩
theorem cut_run {st st' : SortSt} {gs : List (List Nat × Nat)} {rest p' : List Nat} {m : Nat} (R : RI κ f key n st gs rest) (S' : SS κ f n st' p') (hp : pendingOf st' = pendingOf st) (hm : (flt gs).length + m ≤ n) (hs : Sg key p' (flt gs).length ((flt gs).length + m)) (hf : Fx (flt gs).length (flt gs ++ rest) p') :
    ∃ run rest', run.length = m ∧ Srt key run ∧ RI κ f key n st' gs (run ++ rest') := by
  have hl := S'.len
  refine ⟨(p'.drop (flt gs).length).take m, (p'.drop (flt gs).length).drop m, by simp; omega, ?_, ?_⟩
  · refine List.pairwise_iff_getElem.mpr fun i j hi hj hij => ?_
    simp only [List.length_take, List.length_drop] at hi hj
    rw [List.getElem_take, List.getElem_take, List.getElem_drop, List.getElem_drop]
    have := hs ((flt gs).length + i) ((flt gs).length + j) (by omega) (by omega) (by omega)
    unfold kG at this
    rw [show p'.getD ((flt gs).length + i) 0 = p'[(flt gs).length + i]'(by omega) by simp [show (flt gs).length + i < p'.length by omega], show p'.getD ((flt gs).length + j) 0 = p'[(flt gs).length + j]'(by omega) by simp [show (flt gs).length + j < p'.length by omega]] at this
    exact this
  · have e : flt gs ++ ((p'.drop (flt gs).length).take m ++ (p'.drop (flt gs).length).drop m) = p' := by
      rw [List.take_append_drop]
      have : p'.take (flt gs).length = flt gs := by
        apply List.ext_getElem
        · simp; omega
        · intro i h1 h2
          have := hf i h2
          rw [List.getElem_take]
          rw [show p'.getD i 0 = p'[i]'(by simp at h1; omega) by simp [show i < p'.length by simp at h1; omega], show (flt gs ++ rest).getD i 0 = (flt gs)[i] by rw [List.getD_eq_getElem?_getD, List.getElem?_append_left h2, List.getElem?_eq_getElem h2]; rfl] at this
          exact this
      have e2 := List.take_append_drop (flt gs).length p'
      rwa [this] at e2
    refine ⟨by rw [e]; exact S', by rw [hp]; exact R.pd, R.ok⟩
noncomputable def SR (κ : SortKind) (f : Nat → Keyed) (key : Nat → Int) (n x : Nat) (r : ForInStep (Option Unit × Nat)) (st' : SortSt) : Prop := match r with
  | .done c => ∃ gs rest, RI κ f key n st' gs rest ∧ c = (none, (flt gs).length) ∧ (flt gs).length = n
  | .yield c => ∃ gs rest, RI κ f key n st' gs rest ∧ c = (none, (flt gs).length) ∧ (x + 1 ≤ (flt gs).length ∨ (flt gs).length = n)
theorem wp_sortRuns (L : LtOk prog w A E s κ f key n) {st : SortSt} {Q : Unit → SortSt → Prop} (S : SS κ f n st (List.range n)) (hp : pendingOf st = #[]) (h1 : 1 ≤ n)
    (h : ∀ st' p, SS κ f n st' p → Srt key p → Q () st') : wpS (model prog w) A E s sortRuns' Q st := by
  rw [sortRuns'_eq]
  refine wpS_bind (wpS_get ?_)
  have hz : (arrOf st).size = n := by rw [S.arr]; simp
  rw [hz]
  extract_lets sz mr lo0
  have ez : sz = n := rfl
  have el : lo0 = 0 := rfl
  clear_value mr lo0 sz
  subst ez el
  refine wpS_bind (wpS_mono (wpS_forRange (I := fun x c st' => ∃ gs rest, RI κ f key sz st' gs rest ∧ c = (none, (flt gs).length) ∧ (x ≤ (flt gs).length ∨ (flt gs).length = sz))
    (Q := fun c st' => ∃ gs rest, RI κ f key sz st' gs rest ∧ c = (none, (flt gs).length) ∧ (flt gs).length = sz) ?step ?fin ⟨[], List.range sz, ⟨S, hp, fun _ h => absurd h List.not_mem_nil⟩, rfl, .inl (Nat.zero_le _)⟩) ?post)
  case fin =>
    rintro c st' ⟨gs, rest, R, rfl, hx⟩
    have := R.ss.len
    rw [List.length_append] at this
    exact ⟨gs, rest, R, rfl, by omega⟩
  case step =>
    rintro x c st1 _ hx ⟨gs, rest, R, rfl, hlo⟩
    have hlen := R.ss.len
    rw [List.length_append] at hlen
    refine wpS_mono (Q := SR κ f key sz x) ?_ (fun r st' hr => by cases r <;> exact hr)
    show wpS _ _ _ _ (ite _ _ _) _ _
    by_cases c1 : (flt gs).length ≥ sz
    · rw [if_pos c1]
      exact wpS_pure ⟨gs, rest, R, rfl, by omega⟩
    rw [if_neg c1]
    refine wpS_bind (wp_countRun L R.ss (by omega) (by omega) fun m st2 p2 S2 q2 m1 m2 s2 f2 => ?_)
    dsimp -zeta only
    extract_lets nn jp fo nn2
    have en : m = nn := rfl
    have eo : fo = min (sz - (flt gs).length) mr := rfl
    have en2 : nn2 = fo := rfl
    clear_value nn2 fo nn
    subst en en2 eo
    have hjp : ∀ m st2 p2, SS κ f sz st2 p2 → pendingOf st2 = pendingOf st1 → 1 ≤ m → m ≤ sz - (flt gs).length → Sg key p2 (flt gs).length ((flt gs).length + m) → Fx (flt gs).length (flt gs ++ rest) p2 → wpS (model prog w) A E s (jp () m) (SR κ f key sz x) st2 := by
      intro m st2 p2 S2 q2 m1 m2 s2 f2
      obtain ⟨run, rest', lr, sr, R2⟩ := cut_run R S2 q2 (by omega) s2 f2
      refine wpS_bind (wpS_get ?_)
      clear jp
      extract_lets lo2 jp
      have hj2 : ∀ st3 gs3, RI κ f key sz st3 gs3 (run ++ rest') → (flt gs3).length = (flt gs).length → wpS (model prog w) A E s (jp ()) (SR κ f key sz x) st3 := by
        intro st3 gs3 R3 l3
        refine wpS_bind (wpS_modify (wpS_pure ⟨gs3 ++ [(run, 0)], rest', ?_, ?_, ?_⟩))
        · have := R3.push sr (by omega)
          rw [l3, lr] at this
          exact this
        · have e : (flt (gs3 ++ [(run, 0)])).length = (flt gs).length + m := by rw [flt_app, List.length_append, l3, flt_cons, ← lr]; simp [flt]
          rw [e]
        · have e : (flt (gs3 ++ [(run, 0)])).length = (flt gs).length + m := by rw [flt_app, List.length_append, l3, flt_cons, ← lr]; simp [flt]
          rw [e]
          omega
      clear_value jp
      split
      · rename_i s1 n1 o1 hb
        extract_lets pw
        refine wpS_bind (wpS_mono (wpS_forRange (I := fun y c st' => c = (none, ()) ∧ ∃ gs3, RI κ f key sz st' gs3 (run ++ rest') ∧ (flt gs3).length = (flt gs).length)
          (Q := fun c st' => c = (none, ()) ∧ ∃ gs3, RI κ f key sz st' gs3 (run ++ rest') ∧ (flt gs3).length = (flt gs).length) ?step1 (fun _ _ hh => hh) ⟨rfl, gs, R2, rfl⟩) ?post1)
        case post1 =>
          rintro c st3 ⟨rfl, gs3, R3, l3⟩
          obtain ⟨gs4, a1, a2, R4⟩ := R3.last (pw := pw)
          exact wpS_bind (wpS_modify (hj2 _ gs4 R4 (by rw [a2, l3])))
        case step1 =>
          rintro y c st3 _ hy ⟨rfl, gs3, R3, l3⟩
          refine wpS_bind (wpS_get ?_)
          show wpS _ _ _ _ (match if (pendingOf st3).size > 1 then (pendingOf st3)[(pendingOf st3).size - 2]? else none with | some (_, _, older) => _ | _ => _) _ _
          rw [R3.size]
          split
          · rename_i o1 o2 older ho
            have hg : gs3.length > 1 := by
              by_cases c : gs3.length > 1
              · exact c
              · rw [if_neg c] at ho; cases ho
            split
            · exact wpS_pure ⟨rfl, gs3, R3, l3⟩
            · obtain ⟨pre, a, b, post, e, lp⟩ := split2 (l := gs3) (i := gs3.length - 2) (by omega)
              obtain ⟨a, wa⟩ := a
              obtain ⟨b, wb⟩ := b
              rw [e] at R3
              refine wpS_bind (merge_gs L R3 lp.symm fun st4 m4 lm R4 => ?_)
              refine wpS_pure ⟨rfl, _, R4, ?_⟩
              rw [← l3, e, flt_app, flt_app, flt_cons, flt_cons, flt_cons]
              simp [lm]
              omega
          · exact wpS_pure ⟨rfl, gs3, R3, l3⟩
      · exact hj2 _ gs R2 rfl
    clear_value jp
    by_cases c2 : m < mr
    · rw [if_pos c2]
      refine wpS_bind (wpS_lift (wpAny_rule ⟨rfl, ?_⟩))
      refine wpS_bind (wp_binary L S2 (by omega) m1 (by omega) s2 fun st3 p3 S3 q3 s3 f3 => ?_)
      exact hjp _ st3 p3 S3 (q3.trans q2) (by omega) (by omega) s3 (f2.trans f3)
    · rw [if_neg c2]
      exact hjp _ st2 p2 S2 q2 m1 m2 s2 f2
  case post =>
    rintro c st1 ⟨gs, rest, R, rfl, hlo⟩
    have hlen := R.ss.len
    rw [List.length_append] at hlen
    have er : rest = [] := List.length_eq_zero_iff.mp (by omega)
    subst er
    have hfew := RI.few R.ok
    show wpS _ _ _ _ (_ >>= _) _ _
    refine wpS_bind (wpS_mono (wpS_forRange (I := fun y c st' => c = (none, ()) ∧ ∃ gs3, RI κ f key sz st' gs3 [] ∧ (flt gs3).length = sz ∧ (gs3.length + y ≤ sz ∨ gs3.length ≤ 1))
      (Q := fun c st' => c = (none, ()) ∧ ∃ gs3, RI κ f key sz st' gs3 [] ∧ (flt gs3).length = sz ∧ gs3.length ≤ 1) ?step1 ?fin1 ⟨rfl, gs, R, hlo, .inl (by omega)⟩) ?post1)
    case fin1 =>
      rintro c st3 ⟨rfl, gs3, R3, l3, hy⟩
      exact ⟨rfl, gs3, R3, l3, by omega⟩
    case post1 =>
      rintro c st3 ⟨rfl, gs3, R3, l3, hg⟩
      refine wpS_pure (h st3 (flt gs3) (by have := R3.ss; rwa [List.append_nil] at this) ?_)
      match gs3, hg, R3.ok with
      | [], _, _ => exact List.Pairwise.nil
      | [g], _, ok => rw [flt_cons]; simpa [flt] using (ok g List.mem_cons_self).1
    case step1 =>
      rintro y c st3 _ hy ⟨rfl, gs3, R3, l3, hg⟩
      refine wpS_bind (wpS_get ?_)
      show wpS _ _ _ _ (ite _ _ _) _ _
      rw [R3.size]
      by_cases c3 : gs3.length ≤ 1
      · rw [if_pos c3]
        exact wpS_pure ⟨rfl, gs3, R3, l3, c3⟩
      rw [if_neg c3]
      extract_lets i0 before i1
      have e1 : i1 = i0 - 1 ∨ i1 = i0 := by
        show ite _ _ _ = _ ∨ ite _ _ _ = _
        split
        · exact .inl rfl
        · exact .inr rfl
      have e0 : i0 = gs3.length - 2 := rfl
      clear_value i1 before i0
      have hi : i1 + 1 < gs3.length := by omega
      obtain ⟨pre, a, b, post, e, lp⟩ := split2 hi
      obtain ⟨a, wa⟩ := a
      obtain ⟨b, wb⟩ := b
      rw [e] at R3
      refine wpS_bind (merge_gs L R3 lp.symm fun st4 m4 lm R4 => ?_)
      refine wpS_pure ⟨rfl, _, R4, ?_, ?_⟩
      · rw [← l3, e, flt_app, flt_app, flt_cons, flt_cons, flt_cons]
        simp [lm]
        omega
      · rw [e] at hg c3
        simp at hg c3 ⊢
        omega
end
section
open PySem.W hiding kindOf
variable {prog : Program} {w : World} {A : Around} {E : Value → Shared → Prop} {s : Shared} {key : Nat → Int}
noncomputable def InOrd (key : Nat → Int) (vs out : List Value) : Prop := ∃ ps : List Nat, ps.Perm (List.range vs.length) ∧ Srt key ps ∧ out = ps.map fun i => vs.getD i Value.none
theorem ltOk_of {κ : SortKind} {vs : List Value} (ask : ∀ i j (C : Bool → Shared → Prop), i < vs.length → j < vs.length → C (ltK key i j) s → kas_ask prog w A κ vs i j C s) : LtOk prog w A E s κ (fun i => (vs.getD i Value.none, vs.getD i Value.none)) key vs.length := by
  intro i j Q st hi hj hk h
  rw [lt'_eq]
  refine wpS_bind (wpS_get ?_)
  rw [hk]
  refine wpS_bind (wpS_lift (wpAny_attempt (wpAny_mono (ask i j (fun b s' => s' = s ∧ b = ltK key i j) hi hj ⟨rfl, rfl⟩) (fun b s' hb => ?_) fun _ _ x => x.elim)))
  obtain ⟨rfl, rfl⟩ := hb
  exact ⟨rfl, wpS_pure h⟩
theorem lsort_gen {a : Addr} {vs : List Value} {n : Nat} {P : PySem.Fin → Shared → Prop} (ho : s.heap.get? a = some (seqObj "list" vs.toArray n)) (hz : vs.length ≤ sizeLine)
    (hk : 2 ≤ vs.length → ∀ h1 : Heap, (∀ b o, b ≠ a → s.heap.get? b = some o → h1.get? b = some o) → Asks prog w A key vs { s with heap := h1 })
    (h : ∀ (h' : Heap) (c : Nat) (out : List Value), InOrd key vs out → (∀ b o, b ≠ a → s.heap.get? b = some o → h'.get? b = some o) → h'.get? a = some (seqObj "list" out.toArray c) → P (.done (.ret .none)) { s with heap := h' }) :
    wpAny (model prog w) A (Builtin.«list.sort» ⟨[.ref a], []⟩) P E s := by
  have hlt : a < s.heap.objs.size := Heap.lt_size ho
  obtain ⟨e1, ho1⟩ : ∃ e1, (s.heap.update a (Obj.mapSeq fun _ => (#[] : Array Value))).get? a = some (seqObj "list" #[] e1) := ⟨_, get?_update_seq ho fun _ => #[]⟩
  rw [list_sort_plain]
  refine wpAny_bind (listItems_at ho rfl (wpAny_bind (listUpdate_at ho rfl (wpAny_bind (seqEpoch_at ho1 rfl (wpAny_bind (wpAny_newTuple (wpAny_bind (wpAny_newList (wpAny_holding ?_) (Nat.zero_le _))) (by show vs.length ≤ _; omega))))) (by rw [List.size_toArray]; omega) (Nat.zero_le _))))
  have hkeep : ∀ b o, b ≠ a → s.heap.get? b = some o → (((s.heap.update a (Obj.mapSeq fun _ => (#[] : Array Value))).push (seqObj "tuple" vs.toArray 0)).push (seqObj "list" #[] 0)).get? b = some o := fun b o hb q =>
    Heap.get?_push_of_some _ (Heap.get?_push_of_some _ ((Heap.get?_update_other _ _ (Ne.symm hb)).trans q))
  have ho6 : (((s.heap.update a (Obj.mapSeq fun _ => (#[] : Array Value))).push (seqObj "tuple" vs.toArray 0)).push (seqObj "list" #[] 0)).get? a = some (seqObj "list" #[] e1) := Heap.get?_push_of_some _ (Heap.get?_push_of_some _ ho1)
  show wpAny (model prog w) A _ P E { s with heap := ((s.heap.update a (Obj.mapSeq fun _ => (#[] : Array Value))).push (seqObj "tuple" vs.toArray 0)).push (seqObj "list" #[] 0) }
  dsimp only
  have fin : ∀ (out : List Value), InOrd key vs out → P (.done (.ret .none)) { s with heap := (((s.heap.update a (Obj.mapSeq fun _ => (#[] : Array Value))).push (seqObj "tuple" vs.toArray 0)).push (seqObj "list" #[] 0)).update a (Obj.mapSeq fun _ => out.toArray) } := fun out eo =>
    h _ _ out eo (fun b o hb q => (Heap.get?_update_other _ _ (Ne.symm hb)).trans (hkeep b o hb q)) (get?_update_seq ho6 fun _ => out.toArray)
  have rng : (List.range vs.length).map (fun i => vs.getD i Value.none) = vs := by
    apply List.ext_getElem
    · simp
    · intro i h3 h4
      simp [h4]
  by_cases h2 : vs.toArray.size < 2
  · rw [if_pos h2, if_pos h2]
    refine wpAny_bind (wpAny_pure ?_)
    rw [StateT.run_pure]
    refine wpAny_bind (wpAny_pure ?_)
    dsimp only
    have h2' : vs.length < 2 := by simpa using h2
    have eo : (arrOf (SortSt.mk' general' (vs.toArray.zip vs.toArray) #[] 7 none)).map (·.2) = vs.toArray := by
      show (vs.toArray.zip vs.toArray).map (·.2) = vs.toArray
      apply Array.toList_inj.mp
      simp only [Array.toList_map, Array.toList_zip]
      exact List.map_snd_zip (Nat.le_refl _)
    rw [eo]
    refine wpAny_bind (seqEpoch_at ho6 rfl (wpAny_bind (listUpdate_at ho6 rfl ?_ (Nat.zero_le _) (by show vs.length ≤ _; omega))))
    have e3 : failedOf (SortSt.mk' general' (vs.toArray.zip vs.toArray) #[] 7 none) = none := rfl
    simp only [e3, bne_self_eq_false, Bool.false_eq_true, if_false]
    refine wpAny_pure (fin vs ⟨List.range vs.length, List.Perm.refl _, ?_, rng.symm⟩)
    match vs, h2' with
    | [], _ => exact List.Pairwise.nil
    | [x], _ => exact List.pairwise_singleton _ _
  · rw [if_neg h2, if_neg h2]
    have h2' : 2 ≤ vs.length := by rw [List.size_toArray] at h2; omega
    refine wpAny_bind (wpAny_mono (hk h2' _ hkeep) (fun κ s0 ⟨es, ask⟩ => ?_) fun _ _ x => x.elim)
    subst es
    have ea : vs.toArray.zip vs.toArray = ((List.range vs.length).map fun i => (vs.getD i Value.none, vs.getD i Value.none)).toArray := by
      apply Array.toList_inj.mp
      simp only [Array.toList_zip]
      apply List.ext_getElem
      · simp
      · intro i h3 h4
        simp at h3
        simp [h3]
    have run := wp_sortRuns (E := E) (ltOk_of (E := E) ask) (st := SortSt.mk' κ (vs.toArray.zip vs.toArray) #[] 7 none) (Q := fun _ st' => failedOf st' = none ∧ ∃ out, InOrd key vs out ∧ (arrOf st').map (·.2) = out.toArray) ⟨rfl, rfl, ea, List.Perm.refl _⟩ rfl (by omega) (fun st' p S sp => ⟨S.ok, _, ⟨p, S.perm, sp, rfl⟩, by rw [S.arr]; simp⟩)
    unfold wpS at run
    refine wpAny_bind (wpAny_mono run (fun r s' hr => ?_) fun _ _ x => x)
    obtain ⟨⟨⟩, st'⟩ := r
    obtain ⟨es, ef, out, ho, eo⟩ := hr
    subst es
    have ef : failedOf st' = none := ef
    have eo : (arrOf st').map (·.2) = out.toArray := eo
    dsimp only
    rw [eo]
    have hol : out.length = vs.length := by
      obtain ⟨ps, h1, _, rfl⟩ := ho
      rw [List.length_map, h1.length_eq, List.length_range]
    refine wpAny_bind (seqEpoch_at ho6 rfl (wpAny_bind (listUpdate_at ho6 rfl ?_ (Nat.zero_le _) (by show out.length ≤ _; omega))))
    simp only [ef, bne_self_eq_false, Bool.false_eq_true, if_false]
    exact wpAny_pure (fin _ ho)
theorem sorted_gen {l : Addr} {vs : List Value} {Q : Value → Shared → Prop} (hl : s.heap.IsList l vs.toArray) (hz0 : vs.length ≤ sizeLine)
    (hk : 2 ≤ vs.length → ∀ h1 : Heap, (∀ b o, s.heap.get? b = some o → h1.get? b = some o) → Asks prog w A.in1.in1 key vs { s with heap := h1 })
    (h : ∀ (h' : Heap) (D : Addr) (c : Nat) (out : List Value), InOrd key vs out → s.heap.objs.size ≤ D → (∀ b o, s.heap.get? b = some o → h'.get? b = some o) → h'.get? D = some (seqObj "list" out.toArray c) → Q (.ref D) { s with heap := h' }) :
    wpAny (model prog w) A (call (.builtin "sorted") [.ref l]) Q E s := by
  refine Calls.call_function_entry kind_sorted plain_sorted entry_sorted (args_sorted1 _) ?_
  unfold Builtin.«sorted»
  refine wpAny_bind (m := checkCount "sorted" 1 1 _) (wpAny_pure (wpAny_bind (collect_list hl (wpAny_bind (wpAny_newList ?_ (by omega))) (by omega))))
  have hz : ((s.heap.push (seqObj "list" #[] 0)).update s.heap.objs.size (Obj.mapSeq (· ++ vs.toArray))).objs.size = s.heap.objs.size + 1 := by rw [Heap.size_update, size_push']
  have hD : (((s.heap.push (seqObj "list" #[] 0)).update s.heap.objs.size (Obj.mapSeq (· ++ vs.toArray))).push (seqObj "list" vs.toArray 0)).get? (s.heap.objs.size + 1) = some (seqObj "list" vs.toArray 0) := by rw [← hz]; exact Heap.get?_push_size _ rfl
  have hkeep : ∀ b o, s.heap.get? b = some o → (((s.heap.push (seqObj "list" #[] 0)).update s.heap.objs.size (Obj.mapSeq (· ++ vs.toArray))).push (seqObj "list" vs.toArray 0)).get? b = some o := fun b o q =>
    Heap.get?_push_of_some _ ((Heap.get?_update_other _ _ (Nat.ne_of_gt (Heap.lt_size q))).trans (Heap.get?_push_of_some _ q))
  show wpAny _ _ _ _ _ { s with heap := ((s.heap.push (seqObj "list" #[] 0)).update s.heap.objs.size (Obj.mapSeq (· ++ vs.toArray))).push (seqObj "list" vs.toArray 0) }
  rw [hz]
  have hnD : ∀ b o, s.heap.get? b = some o → b ≠ s.heap.objs.size + 1 := fun b o q => Nat.ne_of_lt (Nat.lt_succ_of_lt (Heap.lt_size q))
  refine wpAny_bind (wpAny_holding (wpAny_call_entry slot_list_sort ⟨_, hD, rfl⟩ entry_list_sort (lsort_gen hD hz0 (fun h2 h1 hk1 => hk h2 h1 fun b o q => hk1 b o (hnD b o q) (hkeep b o q)) fun h' c out ho k' e' => ⟨_, rfl, ?_⟩) (args_list_sort _)))
  exact wpAny_pure ⟨_, rfl, h h' _ c out ho (Nat.le_succ _) (fun b o q => k' b o (hnD b o q) (hkeep b o q)) e'⟩
end
section
open PySem.W hiding kindOf
variable {α : Type} {lt : α → α → Bool}
theorem ord_isort (o : Ord lt) (zs : List α) (d : α) {ps : List Nat} (h1 : ps.Perm (List.range zs.length)) (h2 : Srt (rk lt zs d) ps) : ps.map (fun i => zs.getD i d) = isort lt zs := by
  refine perm_unique o ?_ ?_ (isort_sorted o zs)
  · refine (h1.map _).trans ?_
    have : (List.range zs.length).map (fun i => zs.getD i d) = zs := by
      apply List.ext_getElem
      · simp
      · intro i h3 h4
        simp [h4]
    rw [this]
    exact (isort_perm zs).symm
  · rw [List.pairwise_map]
    refine List.Pairwise.imp_of_mem (fun {a b} ha hb hab => ?_) h2
    rw [← rk_lt o (d := d) (List.mem_range.mp (h1.mem_iff.mp hb)) (List.mem_range.mp (h1.mem_iff.mp ha))]
    exact decide_eq_false (by omega)
variable {X : Cx} {K : PySem.W.Frag} {W : Wish} {own : Bool}
theorem sorted_DX (o : Ord lt) {pins : List (Addr × Obj)} {σ : St} {F H : Hp} {s : Shared} {Q : VK} {a : Addr} {xs : List V} {zs : List α} {d0 : α} {enc : α → Dat} (I : Inv X pins σ H s) (hF : Same F H) (t : SqL X.K F a xs) (r : Deeps X.K F (zs.map enc) xs)
    (hk : ∀ its : List Value, Vals xs its → 2 ≤ its.length → ∀ h1 : Heap, (∀ b o, s.heap.get? b = some o → h1.get? b = some o) → Asks X.prog X.w X.A.in1.in1 (rk lt zs d0) its { s with heap := h1 })
    (p : Post X.K W true F H (.ok (.lst ((isort lt zs).map enc))) Q) : wpAny (model X.prog X.w) X.A (call (.builtin "sorted") [.ref a]) (EP X pins σ Q) X.xe s := by
  obtain ⟨its, rv, pl, hz⟩ := I.list (hF.lst t)
  have l1 := rv.length
  have l2 := r.length
  rw [List.length_map] at l2
  refine sorted_gen (key := rk lt zs d0) pl.isList (by omega) (fun h2 h1 kp => hk its rv h2 h1 kp) fun h' D c out ho hD kp e => ?_
  obtain ⟨ps, h1, h2, rfl⟩ := ho
  rw [show its.length = zs.length by omega] at h1
  have inr : ∀ i ∈ ps, i < xs.length := fun i hi => by
    have := List.mem_range.mp (h1.mem_iff.mp hi); omega
  have hy1 : (ps.map fun i => xs.getD i .non).length ≤ sizeLine := by rw [List.length_map, h1.length_eq, List.length_range]; omega
  have hy2 := vals_map rv ps inr
  have hy3 : Deeps X.K F ((isort lt zs).map enc) (ps.map fun i => xs.getD i .non) := by
    rw [← ord_isort o zs d0 h1 h2, List.map_map]
    refine Deeps.of_get (by simp) fun k dd v g1 g2 => ?_
    rw [List.getElem?_map] at g1 g2
    cases ek : ps[k]? with
    | none => rw [ek] at g1; cases g1
    | some i =>
      rw [ek] at g1 g2
      simp only [Option.map_some, Option.some.injEq, Function.comp] at g1 g2
      have hi := inr i (List.mem_of_getElem? ek)
      obtain ⟨w, e1, q⟩ := r.get (i := i) (d := enc (zs[i]'(by omega))) (by simp [show i < zs.length by omega])
      rw [getD_get (show i < zs.length by omega)] at g1
      rw [List.getD_eq_getElem?_getD, e1] at g2
      rw [← g1, ← g2]
      exact q
  have I1 : Inv X pins σ (upd H D (.lst (ps.map fun i => xs.getD i .non))) { s with heap := h' } := I.laid (t' := s.toks) kp hD (show ObjOk X.prog X.w _ h' D (.lst _) from ⟨hy1, _, c, hy2, e⟩)
  exact ⟨.ref D, _, I1, rfl, p.lst hF hy3 (I.hok.fresh hD)⟩
noncomputable def sortDs2 (ds : List Dat) : M Dat := match intsD ds with
  | .ok is => .ok (.lst ((isort ltZ is).map .int))
  | .error _ => (tupsD ds).bind fun ts => if (ts.all fun t => !t.isEmpty) = true then .ok (.lst ((isort lexZ ts).map tupZ)) else stk
noncomputable def sortedD2 : List Dat → M Dat
  | [.lst ds] => sortDs2 ds
  | _ => stk
theorem c_sorted2 (hK : X.K = K := by rfl) : CallD K W true X (.builtin "sorted") sortedD2 := by
  subst hK
  intro pins s σ H xs us Q I rr h
  obtain ⟨F, d, x, s1, e, q, p⟩ := one_arg (fun ds => by match ds with | [d] => exact .inl ⟨d, rfl⟩ | [] => exact .inr rfl | a :: b :: c => exact .inr (by cases a <;> rfl)) h
  subst e
  obtain ⟨u, rfl, ru⟩ := rr.one
  cases d with
  | lst ds =>
    obtain ⟨a, ys, e1, t, r⟩ := q
    subst e1
    cases ru
    have p' : Post X.K W true F H (sortDs2 ds) Q := p
    unfold sortDs2 at p'
    cases ei : intsD ds with
    | ok is =>
      rw [ei] at p'
      have ed := ints_data ei
      subst ed
      refine sorted_DX ordZ (d0 := 0) I s1 t r (fun its rv h2 h1 kp => ?_) p'
      have e2 : ys = is.map V.int := ints_deep r ei
      subst e2
      exact asks_ints (intsAre_of rv) h2
    | error z =>
      rw [ei] at p'
      have p2 : Post X.K W true F H ((tupsD ds).bind fun ts => if (ts.all fun t => !t.isEmpty) = true then .ok (.lst ((isort lexZ ts).map tupZ)) else stk) Q := p'
      cases et : tupsD ds with
      | error z2 => rw [et] at p2; have := tupsD_err et; subst this; exact Post.stuck p2
      | ok ts =>
        rw [et] at p2
        have ed := tups_data et
        subst ed
        have p3 : Post X.K W true F H (if (ts.all fun t => !t.isEmpty) = true then .ok (.lst ((isort lexZ ts).map tupZ)) else stk) Q := p2
        by_cases hne : (ts.all fun t => !t.isEmpty) = true
        · rw [if_pos hne] at p3
          exact sorted_DX ordLex (d0 := []) I s1 t r (fun its rv h2 h1 kp => asks_tups I s1 r hne rv h2 kp) p3
        · rw [if_neg hne] at p3
          exact Post.stuck p3
  | _ => exact Post.stuck p
end
end L2
namespace Ru
open PySem L2 PyProof.Rows
noncomputable def c_joined_stretches_1 (n : Nat) : Env' → M Flo :=
  sIf (fAnd (fTru (fVar 1)) (fB (f2 leD (fVar 2) (f2 ixD (f2 ixD (fVar 1) (f1 negD (fC (.int 1)))) (fC (.int 1))))))
      (sSetI 1 (f1 negD (fC (.int 1))) (fL mkTup (fCons (f2 ixD (f2 ixD (fVar 1) (f1 negD (fC (.int 1)))) (fC (.int 0))) (fCons (fL maxD (fCons (fVar 3) (fCons (f2 ixD (f2 ixD (fVar 1) (f1 negD (fC (.int 1)))) (fC (.int 1))) fNil))) fNil))))
      (sAppB [1] 1 (fL mkTup (fCons (fVar 2) (fCons (fVar 3) fNil))))
noncomputable def b_joined_stretches_2 (n : Nat) : Env' → M Flo :=
  (c_joined_stretches_1 n)
noncomputable def g_joined_stretches (n : Nat) : Env' → M Flo :=
  (sSeq (sSetB [] 1 (fL mkLst fNil))
    (sSeq (sFor [1] (fIt (fL sortedD2 (fCons (fVar 0) fNil))) (.tp [2, 3]) (b_joined_stretches_2 n))
    (sRet (fVar 1))))
noncomputable def m_joined_stretches (n : Nat) : List Dat → M Dat := runB 4 1 (g_joined_stretches n)
noncomputable def c__law_stretch_1 (n : Nat) : Env' → M Flo :=
  sIf (fTru (fVar 1))
      (sSeq (sSetB [] 2 (f2 modD (fVar 0) (f2 powD (fC (.int 10)) (fC (.int 9)))))
    (sRet (fL mkTup (fCons (fVar 2) (fCons (f2 addD (f2 addD (fVar 2) (fC (.int 1))) (f2 modD (f2 fdivD (fVar 0) (f2 powD (fC (.int 10)) (fC (.int 9)))) (f2 subD (f2 powD (fC (.int 10)) (fC (.int 9))) (fVar 2)))) fNil)))))
      sNext
noncomputable def c__law_stretch_2 (n : Nat) : Env' → M Flo :=
  sIf (fB (f2 eqM (f2 modD (fVar 3) (fC (.int 8))) (fC (.int 0))))
      (sRet (fL mkTup (fCons (f2 addD (fC (.int 1000)) (f2 modD (f2 fdivD (fVar 3) (fC (.int 8))) (f2 powD (fC (.int 10)) (fC (.int 8))))) (fCons (f2 addD (f2 mulD (fC (.int 2)) (f2 powD (fC (.int 10)) (fC (.int 8)))) (f2 modD (f2 fdivD (fVar 3) (fC (.int 16))) (f2 powD (fC (.int 10)) (fC (.int 8))))) fNil))))
      sNext
noncomputable def c__law_stretch_3 (n : Nat) : Env' → M Flo :=
  sIf (fB (f2 eqM (f2 modD (fVar 3) (fC (.int 8))) (fC (.int 1))))
      (sRet (fL mkTup (fCons (fC (.int 0)) (fCons (f2 addD (fC (.int 1)) (f2 modD (f2 fdivD (fVar 3) (fC (.int 8))) (fC (.int 10)))) fNil))))
      sNext
noncomputable def g__law_stretch (n : Nat) : Env' → M Flo :=
  (sSeq (c__law_stretch_1 n)
    (sSeq (sSetB [] 3 (f2 modD (f2 mulD (f2 addD (f2 modD (f2 mulD (fVar 0) (fC (.int 16807))) (fC (.int 2147483647))) (fC (.int 3))) (fC (.int 48271))) (fC (.int 2147483629))))
    (sSeq (c__law_stretch_2 n)
    (sSeq (c__law_stretch_3 n)
    (sSeq (sSetB [] 2 (f2 modD (f2 fdivD (fVar 3) (fC (.int 8))) (fC (.int 50))))
    (sRet (fL mkTup (fCons (fVar 2) (fCons (f2 addD (f2 addD (fVar 2) (fC (.int 1))) (f2 modD (f2 fdivD (fVar 3) (fC (.int 512))) (fC (.int 9)))) fNil)))))))))
noncomputable def m__law_stretch (n : Nat) : List Dat → M Dat := runB 4 2 (g__law_stretch n)
noncomputable def c_last_open_1 (n : Nat) : Env' → M Flo :=
  sIf (fB (fChain leD ltD (fVar 3) (fVar 1) (fVar 4)))
      (sSetB [] 2 (f2 subD (fVar 3) (fC (.int 1))))
      sNext
noncomputable def b_last_open_2 (n : Nat) : Env' → M Flo :=
  (c_last_open_1 n)
noncomputable def g_last_open (n : Nat) : Env' → M Flo :=
  (sSeq (sSetB [] 2 (fVar 1))
    (sSeq (sFor [] (fIt (fL (m_joined_stretches n) (fCons (fVar 0) fNil))) (.tp [3, 4]) (b_last_open_2 n))
    (sRet (fIte (fB (f2 geD (fVar 2) (fC (.int 0)))) (fVar 2) (fC .non)))))
noncomputable def m_last_open (n : Nat) : List Dat → M Dat := runB 5 2 (g_last_open n)
noncomputable def c_next_open_1 (n : Nat) : Env' → M Flo :=
  sIf (fB (fChain leD ltD (fVar 2) (fVar 1) (fVar 3)))
      (sRet (fVar 3))
      sNext
noncomputable def b_next_open_2 (n : Nat) : Env' → M Flo :=
  (c_next_open_1 n)
noncomputable def g_next_open (n : Nat) : Env' → M Flo :=
  (sSeq (sFor [] (fIt (fL (m_joined_stretches n) (fCons (fVar 0) fNil))) (.tp [2, 3]) (b_next_open_2 n))
    (sRet (fVar 1)))
noncomputable def m_next_open (n : Nat) : List Dat → M Dat := runB 4 2 (g_next_open n)
noncomputable def g_is_open (n : Nat) : Env' → M Flo :=
  (sRet (f1 notD (fL anyD (fCons (fComp (fIt (fVar 0)) [none, none, some 1] (.tp [0, 1]) fYes (fChain leD ltD (fVar 0) (fVar 2) (fVar 1))) fNil))))
noncomputable def m_is_open (n : Nat) : List Dat → M Dat := runB 2 2 (g_is_open n)
noncomputable def c__law_between_shut_1 (n : Nat) : Env' → M Flo :=
  sIf (fB (f2 isND (fVar 1) (fC .non)))
      (sSetB [] 1 (f1 negD (fC (.int 1))))
      sNext
noncomputable def c__law_between_shut_2 (n : Nat) : Env' → M Flo :=
  sIf (fB (f2 gtD (f2 subD (fVar 2) (fVar 1)) (fC (.int 300))))
      (sRet (fC (.bl true)))
      sNext
noncomputable def c__law_between_shut_3 (n : Nat) : Env' → M Flo :=
  sIf (fB (f2 notBD (fL (m_is_open n) (fCons (fVar 0) (fCons (fVar 3) fNil))) (fC (.bl false))))
      (sRet (fC (.bl false)))
      sNext
noncomputable def b__law_between_shut_4 (n : Nat) : Env' → M Flo :=
  (c__law_between_shut_3 n)
noncomputable def g__law_between_shut (n : Nat) : Env' → M Flo :=
  (sSeq (c__law_between_shut_1 n)
    (sSeq (c__law_between_shut_2 n)
    (sSeq (sFor [] (fRng rng2 (fCons (f2 addD (fVar 1) (fC (.int 1))) (fCons (fVar 2) fNil))) (.nm 3) (b__law_between_shut_4 n))
    (sRet (fC (.bl true))))))
noncomputable def m__law_between_shut (n : Nat) : List Dat → M Dat := runB 4 3 (g__law_between_shut n)
noncomputable def c__law_one_good_1 (n : Nat) : Env' → M Flo :=
  sIf (fOr (fB (f2 notBD (fL (m_is_open n) (fCons (fVar 0) (fCons (fVar 4) fNil))) (fC (.bl true)))) (fOr (fB (f2 ltD (fVar 4) (fVar 3))) (fAnd (fB (f2 notND (fVar 5) (fC .non))) (fB (f2 gtD (fVar 5) (fVar 3))))))
      (sRet (fC (.bl false)))
      sNext
noncomputable def c__law_one_good_2 (n : Nat) : Env' → M Flo :=
  sIf (fAnd (fB (f2 neM (fVar 4) (fVar 3))) (fNot (fTru (fL (m__law_between_shut n) (fCons (fVar 0) (fCons (fVar 5) (fCons (fVar 4) fNil)))))))
      (sRet (fC (.bl false)))
      sNext
noncomputable def c__law_one_good_3 (n : Nat) : Env' → M Flo :=
  sIf (fOr (fB (f2 neM (f2 eqM (fVar 4) (fVar 3)) (f2 eqM (fVar 5) (fVar 3)))) (fB (f2 neM (f2 eqM (fVar 4) (fVar 3)) (fL (m_is_open n) (fCons (fVar 0) (fCons (fVar 3) fNil))))))
      (sRet (fC (.bl false)))
      sNext
noncomputable def c__law_one_good_4 (n : Nat) : Env' → M Flo :=
  sIf (fOr (fB (f2 neM (fL (m_next_open n) (fCons (fVar 1) (fCons (fVar 3) fNil))) (fVar 4))) (fB (f2 neM (fL (m_last_open n) (fCons (fVar 1) (fCons (fVar 3) fNil))) (fVar 5))))
      (sRet (fC (.bl false)))
      sNext
noncomputable def c__law_one_good_5 (n : Nat) : Env' → M Flo :=
  sIf (fOr (fB (f2 neM (fL (m_next_open n) (fCons (f1 revD (fVar 0)) (fCons (fVar 3) fNil))) (fVar 4))) (fB (f2 neM (fL (m_last_open n) (fCons (f1 revD (fVar 0)) (fCons (fVar 3) fNil))) (fVar 5))))
      (sRet (fC (.bl false)))
      sNext
noncomputable def c__law_one_good_6 (n : Nat) : Env' → M Flo :=
  sIf (fB (f2 ltD (fL (m_next_open n) (fCons (fVar 2) (fCons (fVar 3) fNil))) (fVar 4)))
      (sRet (fC (.bl false)))
      sNext
noncomputable def g__law_one_good (n : Nat) : Env' → M Flo :=
  (sSeq (sSetB [] 4 (fL (m_next_open n) (fCons (fVar 0) (fCons (fVar 3) fNil))))
    (sSeq (sSetB [] 5 (fL (m_last_open n) (fCons (fVar 0) (fCons (fVar 3) fNil))))
    (sSeq (c__law_one_good_1 n)
    (sSeq (c__law_one_good_2 n)
    (sSeq (c__law_one_good_3 n)
    (sSeq (c__law_one_good_4 n)
    (sSeq (c__law_one_good_5 n)
    (sSeq (sSetB [] 6 (fL (m_last_open n) (fCons (fVar 2) (fCons (fVar 3) fNil))))
    (sSeq (c__law_one_good_6 n)
    (sRet (fOrV (f2 isND (fVar 6) (fC .non)) (fAndV (f2 notND (fVar 5) (fC .non)) (f2 leD (fVar 6) (fVar 5))))))))))))))
noncomputable def m__law_one_good (n : Nat) : List Dat → M Dat := runB 7 4 (g__law_one_good n)
noncomputable def c__law_cell_at_1 (n : Nat) : Env' → M Flo :=
  sIf (fB (f2 ltD (fVar 1) (fL lenD (fCons (fVar 0) fNil))))
      (sRet (f2 ixD (fVar 0) (fVar 1)))
      sNext
noncomputable def g__law_cell_at (n : Nat) : Env' → M Flo :=
  (sSeq (c__law_cell_at_1 n)
    (sRet (fC (.int 0))))
noncomputable def m__law_cell_at (n : Nat) : List Dat → M Dat := runB 2 2 (g__law_cell_at n)
noncomputable def b_law_1 (n : Nat) : Env' → M Flo :=
  (sSetB [] 5 (fL sortedD2 (fCons (f2 addD (fVar 5) (fL mkLst (fCons (fL maxD (fCons (fC (.int 0)) (fCons (f2 subD (fVar 6) (fC (.int 1))) fNil))) (fCons (fVar 6) (fCons (f2 subD (fVar 7) (fC (.int 1))) (fCons (fVar 7) fNil)))))) fNil)))
noncomputable def c_law_2 (n : Nat) : Env' → M Flo :=
  sIf (fTru (fVar 1))
      (sSeq (sSetB [] 5 (fL sortedD2 (fCons (fComp (fIt (fSl sliceD (fVar 0) (pSome (fC (.int 21))) (pSome (fC (.int 63))))) [none] (.nm 0) fYes (f2 modD (fVar 0) (f2 mulD (fC (.int 2)) (f2 powD (fC (.int 10)) (fC (.int 9)))))) fNil)))
    (sFor [] (fIt (fSl sliceD (fVar 2) pNone (pSome (fC (.int 6))))) (.tp [6, 7]) (b_law_1 n)))
      sNext
noncomputable def c_law_3 (n : Nat) : Env' → M Flo :=
  sIf (fNot (fTru (fL (m__law_one_good n) (fCons (fVar 2) (fCons (fVar 3) (fCons (fVar 4) (fCons (fVar 9) fNil)))))))
      (sRet (fC (.bl false)))
      sNext
noncomputable def c_law_4 (n : Nat) : Env' → M Flo :=
  sIf (fB (f2 isND (fVar 10) (fC .non)))
      (sSetB [] 10 (f1 negD (fC (.int 1))))
      sNext
noncomputable def c_law_5 (n : Nat) : Env' → M Flo :=
  sIf (fOr (fB (f2 ltD (fL (m_next_open n) (fCons (fVar 2) (fCons (fVar 9) fNil))) (f2 ixD (fVar 8) (fC (.int 0))))) (fB (f2 ltD (fVar 10) (f2 ixD (fVar 8) (fC (.int 1))))))
      (sRet (fC (.bl false)))
      sNext
noncomputable def b_law_6 (n : Nat) : Env' → M Flo :=
  (sSeq (c_law_3 n)
    (sSeq (sSetB [] 10 (fL (m_last_open n) (fCons (fVar 2) (fCons (fVar 9) fNil))))
    (sSeq (c_law_4 n)
    (sSeq (c_law_5 n)
    (sSetB [] 8 (fL mkTup (fCons (fL (m_next_open n) (fCons (fVar 2) (fCons (fVar 9) fNil))) (fCons (fVar 10) fNil))))))))
noncomputable def g_law (n : Nat) : Env' → M Flo :=
  (sSeq (sSetB [] 1 (fAndV (f2 gtD (fL lenD (fCons (fVar 0) fNil)) (fC (.int 24))) (f2 eqM (f2 modD (f2 ixD (fVar 0) (fC (.int 0))) (fC (.int 2))) (fC (.int 0)))))
    (sSeq (sSetB [] 2 (fComp (fIt (fSl sliceD (fVar 0) (pSome (fC (.int 1))) (pSome (fC (.int 20))))) [none, some 1] (.nm 0) fYes (fL (m__law_stretch n) (fCons (fVar 0) (fCons (fVar 1) fNil)))))
    (sSeq (sSetB [] 3 (fL (m_joined_stretches n) (fCons (fL listD (fCons (fVar 2) fNil)) fNil)))
    (sSeq (sSetB [] 4 (f2 addD (fVar 2) (fL mkLst (fCons (fL (m__law_stretch n) (fCons (f2 addD (fL (m__law_cell_at n) (fCons (fVar 0) (fCons (fC (.int 20)) fNil))) (f2 mulD (fC (.int 3)) (fL intD (fCons (f1 notD (fVar 1)) fNil)))) (fCons (fVar 1) fNil))) fNil))))
    (sSeq (sSetB [] 5 (fL sortedD2 (fCons (fComp (fIt (fSl sliceD (fVar 0) pNone (pSome (fC (.int 63))))) [none] (.nm 0) fYes (f2 modD (fVar 0) (f2 ixD (fL mkLst (fCons (fC (.int 91)) (fCons (f2 mulD (fC (.int 5)) (f2 powD (fC (.int 10)) (fC (.int 8)))) fNil))) (f2 modD (f2 fdivD (fVar 0) (fC (.int 91))) (fC (.int 2)))))) fNil)))
    (sSeq (c_law_2 n)
    (sSeq (sSetB [] 8 (fL mkTup (fCons (fC (.int 0)) (fCons (f1 negD (fC (.int 1))) fNil))))
    (sSeq (sFor [] (fIt (fVar 5)) (.nm 9) (b_law_6 n))
    (sRet (fC (.bl true)))))))))))
noncomputable def m_law (n : Nat) : List Dat → M Dat := runB 11 1 (g_law n)
noncomputable def top (i : Nat) : Stmt := PySem.Challenge.pw_wakeorder_k13_whole_openings.main.body.getD i (.Pass ⟨0, 0, 0, 0⟩)
noncomputable abbrev s_joined_stretches : Stmt := top 1
noncomputable abbrev s__law_stretch : Stmt := top 7
noncomputable abbrev s_last_open : Stmt := top 4
noncomputable abbrev s_next_open : Stmt := top 3
noncomputable abbrev s_is_open : Stmt := top 2
noncomputable abbrev s__law_between_shut : Stmt := top 8
noncomputable abbrev s__law_one_good : Stmt := top 9
noncomputable abbrev s__law_cell_at : Stmt := top 6
noncomputable abbrev s_law : Stmt := top 10
structure Zs (K : PySem.W.Frag) (mg : Str → Option Value) : Prop where
  z_any : mg "any" = none
  z_int : mg "int" = none
  z_len : mg "len" = none
  z_list : mg "list" = none
  z_max : mg "max" = none
  z_range : mg "range" = none
  z_sorted : mg "sorted" = none
theorem sc_joined_stretches : FnScope ["closed", "joined", "start", "stop"] ["closed"] (defScope s_joined_stretches) := ⟨rfl, rfl, rfl, by decide +kernel, rfl, by decide +kernel, by decide +kernel⟩
theorem ok_joined_stretches {n : Nat} {P : Program} {w : World} {K : PySem.W.Frag} {mg : Str → Option Value} {base : Heap} (Z : Zs K mg) {f_joined_stretches : Addr} {fd_joined_stretches : FuncData} (D_joined_stretches : Def K mg "joined_stretches" s_joined_stretches ["closed"] f_joined_stretches fd_joined_stretches) : FnOk P w K mg base CX0 1 f_joined_stretches fd_joined_stretches ["closed"] (spF K false (m_joined_stretches n) 1) :=
  fn_D (O' := []) D_joined_stretches.fn sc_joined_stretches false (g_joined_stretches n) fun cdv A outer s H E hr =>
    (ds_cons (ds_setB (i := 1) (own := true) sc_joined_stretches.nd (de_lst da_nil))
    (ds_cons (ds_for (pt := .tp [2, 3]) (di_seq (de_frz (de_callB c_sorted2 Z.z_sorted boot_sorted (da_cons (de_v 0) da_nil)))) (dg_tp rfl (dgs_cons (i := 2) sc_joined_stretches.nd (dgs_cons (i := 3) sc_joined_stretches.nd dgs_nil)))
      (ds_one (ds_if (PW.pt (dw_and (dt_tru (de_v 1)) (dw_and1 (dt_cmp o_le (de_v 2) (de_ix x_ix (de_ix x_ix (de_v 1) (de_un o_neg de_int)) de_int)))))
      (ds_one (ds_setI (i := 1) (de_tup (da_cons (de_ix x_ix (de_ix x_ix (de_v 1) (de_un o_neg de_int)) de_int) (da_cons (de_callB (c_max rfl) Z.z_max boot_max (da_cons (de_v 3) (da_cons (de_ix x_ix (de_ix x_ix (de_v 1) (de_un o_neg de_int)) de_int) da_nil))) da_nil))) (de_un o_neg de_int)))
      (ds_one (ds_appB (i := 1) (de_tup (da_cons (de_v 2) (da_cons (de_v 3) da_nil))))))))
    (ds_enter (O2 := []) (ds_one (ds_ret (de_v 1))))))
theorem sc__law_stretch : FnScope ["_law_cell", "_law_by_digits", "_law_start", "_law_number"] ["_law_cell", "_law_by_digits"] (defScope s__law_stretch) := ⟨rfl, rfl, rfl, by decide +kernel, rfl, by decide +kernel, by decide +kernel⟩
theorem ok__law_stretch {n : Nat} {P : Program} {w : World} {K : PySem.W.Frag} {mg : Str → Option Value} {base : Heap} (Z : Zs K mg) {f__law_stretch : Addr} {fd__law_stretch : FuncData} (D__law_stretch : Def K mg "_law_stretch" s__law_stretch ["_law_cell", "_law_by_digits"] f__law_stretch fd__law_stretch) : FnOk P w K mg base CX0 1 f__law_stretch fd__law_stretch ["_law_cell", "_law_by_digits"] (spF K false (m__law_stretch n) 2) :=
  fn_D (O' := []) D__law_stretch.fn sc__law_stretch false (g__law_stretch n) fun cdv A outer s H E hr =>
    (ds_cons (ds_if (dt_tru (de_v 1))
      (ds_cons (ds_setB (i := 2) (own := false) sc__law_stretch.nd (de_op o_mod (de_v 0) (de_op o_pow de_int de_int)))
    (ds_one (ds_ret (de_tup (da_cons (de_v 2) (da_cons (de_frz (de_op o_add (de_frz (de_op o_add (de_v 2) de_int)) (de_op o_mod (de_op o_fdiv (de_v 0) (de_op o_pow de_int de_int)) (de_op o_sub (de_op o_pow de_int de_int) (de_v 2))))) da_nil))))))
      ds_nil)
    (ds_cons (ds_setB (i := 3) (own := false) sc__law_stretch.nd (de_op o_mod (de_op o_mul (de_frz (de_op o_add (de_op o_mod (de_op o_mul (de_v 0) de_int) de_int) de_int)) de_int) de_int))
    (ds_cons (ds_if (dt_cmp (o_eq hr.units) (de_op o_mod (de_v 3) de_int) de_int)
      (ds_one (ds_ret (de_tup (da_cons (de_frz (de_op o_add de_int (de_op o_mod (de_op o_fdiv (de_v 3) de_int) (de_op o_pow de_int de_int)))) (da_cons (de_frz (de_op o_add (de_op o_mul de_int (de_op o_pow de_int de_int)) (de_op o_mod (de_op o_fdiv (de_v 3) de_int) (de_op o_pow de_int de_int)))) da_nil)))))
      ds_nil)
    (ds_cons (ds_if (dt_cmp (o_eq hr.units) (de_op o_mod (de_v 3) de_int) de_int)
      (ds_one (ds_ret (de_tup (da_cons de_int (da_cons (de_frz (de_op o_add de_int (de_op o_mod (de_op o_fdiv (de_v 3) de_int) de_int))) da_nil)))))
      ds_nil)
    (ds_cons (ds_setB (i := 2) (own := false) sc__law_stretch.nd (de_op o_mod (de_op o_fdiv (de_v 3) de_int) de_int))
    (ds_one (ds_ret (de_tup (da_cons (de_v 2) (da_cons (de_frz (de_op o_add (de_frz (de_op o_add (de_v 2) de_int)) (de_op o_mod (de_op o_fdiv (de_v 3) de_int) de_int))) da_nil))))))))))
theorem sc_last_open : FnScope ["closed", "time", "found", "start", "stop"] ["closed", "time"] (defScope s_last_open) := ⟨rfl, rfl, rfl, by decide +kernel, rfl, by decide +kernel, by decide +kernel⟩
theorem ok_last_open {n : Nat} {P : Program} {w : World} {K : PySem.W.Frag} {mg : Str → Option Value} {base : Heap} (Z : Zs K mg) {f_joined_stretches : Addr} {fd_joined_stretches : FuncData} (Y_joined_stretches : Yd P w K mg base CX0 1 "joined_stretches" s_joined_stretches ["closed"] (spF K false (m_joined_stretches n) 1) f_joined_stretches fd_joined_stretches) {f_last_open : Addr} {fd_last_open : FuncData} (D_last_open : Def K mg "last_open" s_last_open ["closed", "time"] f_last_open fd_last_open) : FnOk P w K mg base CX0 2 f_last_open fd_last_open ["closed", "time"] (spF K false (m_last_open n) 2) :=
  fn_D (O' := []) D_last_open.fn sc_last_open false (g_last_open n) fun cdv A outer s H E hr =>
    (ds_cons (ds_setB (i := 2) (own := false) sc_last_open.nd (de_v 1))
    (ds_cons (ds_for (pt := .tp [3, 4]) (di_seq (de_call Y_joined_stretches.o hr Y_joined_stretches.d.mg Y_joined_stretches.d.fn.kp Y_joined_stretches.d.bd (da_cons (de_v 0) da_nil))) (dg_tp rfl (dgs_cons (i := 3) sc_last_open.nd (dgs_cons (i := 4) sc_last_open.nd dgs_nil)))
      (ds_one (ds_if (dt_chain o_le o_lt (de_v 3) (de_v 1) (de_v 4))
      (ds_one (ds_setB (i := 2) (own := false) sc_last_open.nd (de_op o_sub (de_v 3) de_int)))
      ds_nil)))
    (ds_one (ds_ret (de_ite (dt_cmp o_ge (de_v 2) de_int) (de_v 2) de_non)))))
theorem sc_next_open : FnScope ["closed", "time", "start", "stop"] ["closed", "time"] (defScope s_next_open) := ⟨rfl, rfl, rfl, by decide +kernel, rfl, by decide +kernel, by decide +kernel⟩
theorem ok_next_open {n : Nat} {P : Program} {w : World} {K : PySem.W.Frag} {mg : Str → Option Value} {base : Heap} (Z : Zs K mg) {f_joined_stretches : Addr} {fd_joined_stretches : FuncData} (Y_joined_stretches : Yd P w K mg base CX0 1 "joined_stretches" s_joined_stretches ["closed"] (spF K false (m_joined_stretches n) 1) f_joined_stretches fd_joined_stretches) {f_next_open : Addr} {fd_next_open : FuncData} (D_next_open : Def K mg "next_open" s_next_open ["closed", "time"] f_next_open fd_next_open) : FnOk P w K mg base CX0 2 f_next_open fd_next_open ["closed", "time"] (spF K false (m_next_open n) 2) :=
  fn_D (O' := []) D_next_open.fn sc_next_open false (g_next_open n) fun cdv A outer s H E hr =>
    (ds_cons (ds_for (pt := .tp [2, 3]) (di_seq (de_call Y_joined_stretches.o hr Y_joined_stretches.d.mg Y_joined_stretches.d.fn.kp Y_joined_stretches.d.bd (da_cons (de_v 0) da_nil))) (dg_tp rfl (dgs_cons (i := 2) sc_next_open.nd (dgs_cons (i := 3) sc_next_open.nd dgs_nil)))
      (ds_one (ds_if (dt_chain o_le o_lt (de_v 2) (de_v 1) (de_v 3))
      (ds_one (ds_ret (de_v 3)))
      ds_nil)))
    (ds_one (ds_ret (de_v 1))))
theorem sc_is_open : FnScope ["closed", "time"] ["closed", "time"] (defScope s_is_open) := ⟨rfl, rfl, rfl, by decide +kernel, rfl, by decide +kernel, by decide +kernel⟩
theorem ok_is_open {n : Nat} {P : Program} {w : World} {K : PySem.W.Frag} {mg : Str → Option Value} {base : Heap} (Z : Zs K mg) {f_is_open : Addr} {fd_is_open : FuncData} (D_is_open : Def K mg "is_open" s_is_open ["closed", "time"] f_is_open fd_is_open) : FnOk P w K mg base CX0 1 f_is_open fd_is_open ["closed", "time"] (spF K false (m_is_open n) 2) :=
  fn_D (O' := []) D_is_open.fn sc_is_open false (g_is_open n) fun cdv A outer s H E hr =>
    (ds_one (ds_ret (de_not (de_callB (c_any rfl) Z.z_any boot_any (da_cons (de_frz (de_comp ["start", "stop", "time"] [none, none, some 1] (di_seq (de_v 0)) (fun _ _ _ _ _ => dg_tp rfl (dgcs_cons (i := 0) (by decide +kernel) (dgcs_cons (i := 1) (by decide +kernel) dgs_nil))) (leaves_tp (by decide)) (fun _ _ _ _ _ => dts_nil) (fun _ _ _ _ _ => (de_chain o_le o_lt (de_v 0) (de_v 2) (de_v 1))))) da_nil)))))
theorem sc__law_between_shut : FnScope ["_law_closed", "_law_last", "_law_further", "_law_time"] ["_law_closed", "_law_last", "_law_further"] (defScope s__law_between_shut) := ⟨rfl, rfl, rfl, by decide +kernel, rfl, by decide +kernel, by decide +kernel⟩
theorem ok__law_between_shut {n : Nat} {P : Program} {w : World} {K : PySem.W.Frag} {mg : Str → Option Value} {base : Heap} (Z : Zs K mg) {f_is_open : Addr} {fd_is_open : FuncData} (Y_is_open : Yd P w K mg base CX0 1 "is_open" s_is_open ["closed", "time"] (spF K false (m_is_open n) 2) f_is_open fd_is_open) {f__law_between_shut : Addr} {fd__law_between_shut : FuncData} (D__law_between_shut : Def K mg "_law_between_shut" s__law_between_shut ["_law_closed", "_law_last", "_law_further"] f__law_between_shut fd__law_between_shut) : FnOk P w K mg base CX0 2 f__law_between_shut fd__law_between_shut ["_law_closed", "_law_last", "_law_further"] (spF K false (m__law_between_shut n) 3) :=
  fn_D (O' := []) D__law_between_shut.fn sc__law_between_shut false (g__law_between_shut n) fun cdv A outer s H E hr =>
    (ds_cons (ds_if (dt_cmp o_isN (de_v 1) de_non)
      (ds_one (ds_setB (i := 1) (own := false) sc__law_between_shut.nd (de_un o_neg de_int)))
      ds_nil)
    (ds_cons (ds_if (dt_cmp o_gt (de_op o_sub (de_v 2) (de_v 1)) de_int)
      (ds_one (ds_ret de_bl))
      ds_nil)
    (ds_cons (ds_for (pt := .nm 3) (di_rng2 Z.z_range (da_cons (de_frz (de_op o_add (de_v 1) de_int)) (da_cons (de_v 2) da_nil))) (dg_nm sc__law_between_shut.nd)
      (ds_one (ds_if (dt_cmp o_notB (de_call Y_is_open.o hr Y_is_open.d.mg Y_is_open.d.fn.kp Y_is_open.d.bd (da_cons (de_v 0) (da_cons (de_v 3) da_nil))) de_bl)
      (ds_one (ds_ret de_bl))
      ds_nil)))
    (ds_one (ds_ret de_bl)))))
theorem sc__law_one_good : FnScope ["_law_closed", "_law_joined", "_law_more", "_law_time", "_law_further", "_law_last", "_law_least"] ["_law_closed", "_law_joined", "_law_more", "_law_time"] (defScope s__law_one_good) := ⟨rfl, rfl, rfl, by decide +kernel, rfl, by decide +kernel, by decide +kernel⟩
theorem ok__law_one_good {n : Nat} {P : Program} {w : World} {K : PySem.W.Frag} {mg : Str → Option Value} {base : Heap} (Z : Zs K mg) {f_next_open : Addr} {fd_next_open : FuncData} (Y_next_open : Yd P w K mg base CX0 2 "next_open" s_next_open ["closed", "time"] (spF K false (m_next_open n) 2) f_next_open fd_next_open) {f_last_open : Addr} {fd_last_open : FuncData} (Y_last_open : Yd P w K mg base CX0 2 "last_open" s_last_open ["closed", "time"] (spF K false (m_last_open n) 2) f_last_open fd_last_open) {f_is_open : Addr} {fd_is_open : FuncData} (Y_is_open : Yd P w K mg base CX0 1 "is_open" s_is_open ["closed", "time"] (spF K false (m_is_open n) 2) f_is_open fd_is_open) {f__law_between_shut : Addr} {fd__law_between_shut : FuncData} (Y__law_between_shut : Yd P w K mg base CX0 2 "_law_between_shut" s__law_between_shut ["_law_closed", "_law_last", "_law_further"] (spF K false (m__law_between_shut n) 3) f__law_between_shut fd__law_between_shut) {f__law_one_good : Addr} {fd__law_one_good : FuncData} (D__law_one_good : Def K mg "_law_one_good" s__law_one_good ["_law_closed", "_law_joined", "_law_more", "_law_time"] f__law_one_good fd__law_one_good) : FnOk P w K mg base CX0 3 f__law_one_good fd__law_one_good ["_law_closed", "_law_joined", "_law_more", "_law_time"] (spF K false (m__law_one_good n) 4) :=
  fn_D (O' := []) D__law_one_good.fn sc__law_one_good false (g__law_one_good n) fun cdv A outer s H E hr =>
    (ds_cons (ds_setB (i := 4) (own := false) sc__law_one_good.nd (de_call Y_next_open.o hr Y_next_open.d.mg Y_next_open.d.fn.kp Y_next_open.d.bd (da_cons (de_v 0) (da_cons (de_v 3) da_nil))))
    (ds_cons (ds_setB (i := 5) (own := false) sc__law_one_good.nd (de_call Y_last_open.o hr Y_last_open.d.mg Y_last_open.d.fn.kp Y_last_open.d.bd (da_cons (de_v 0) (da_cons (de_v 3) da_nil))))
    (ds_cons (ds_if (PW.pt (dw_or (dt_cmp o_notB (de_call Y_is_open.o (hr.mono (by decide)) Y_is_open.d.mg Y_is_open.d.fn.kp Y_is_open.d.bd (da_cons (de_v 0) (da_cons (de_v 4) da_nil))) de_bl) (dw_or (dt_cmp o_lt (de_v 4) (de_v 3)) (dw_or1 (PW.pt (dw_and (dt_cmp o_notN (de_v 5) de_non) (dw_and1 (dt_cmp o_gt (de_v 5) (de_v 3)))))))))
      (ds_one (ds_ret de_bl))
      ds_nil)
    (ds_cons (ds_if (PW.pt (dw_and (dt_cmp (o_ne hr.units) (de_v 4) (de_v 3)) (dw_and1 (dt_not (dt_tru (de_call Y__law_between_shut.o hr Y__law_between_shut.d.mg Y__law_between_shut.d.fn.kp Y__law_between_shut.d.bd (da_cons (de_v 0) (da_cons (de_v 5) (da_cons (de_v 4) da_nil)))))))))
      (ds_one (ds_ret de_bl))
      ds_nil)
    (ds_cons (ds_if (PW.pt (dw_or (dt_cmp (o_ne hr.units) (de_cmp (o_eq hr.units) (de_v 4) (de_v 3)) (de_cmp (o_eq hr.units) (de_v 5) (de_v 3))) (dw_or1 (dt_cmp (o_ne hr.units) (de_cmp (o_eq hr.units) (de_v 4) (de_v 3)) (de_call Y_is_open.o (hr.mono (by decide)) Y_is_open.d.mg Y_is_open.d.fn.kp Y_is_open.d.bd (da_cons (de_v 0) (da_cons (de_v 3) da_nil)))))))
      (ds_one (ds_ret de_bl))
      ds_nil)
    (ds_cons (ds_if (PW.pt (dw_or (dt_cmp (o_ne hr.units) (de_call Y_next_open.o hr Y_next_open.d.mg Y_next_open.d.fn.kp Y_next_open.d.bd (da_cons (de_v 1) (da_cons (de_v 3) da_nil))) (de_v 4)) (dw_or1 (dt_cmp (o_ne hr.units) (de_call Y_last_open.o hr Y_last_open.d.mg Y_last_open.d.fn.kp Y_last_open.d.bd (da_cons (de_v 1) (da_cons (de_v 3) da_nil))) (de_v 5)))))
      (ds_one (ds_ret de_bl))
      ds_nil)
    (ds_cons (ds_if (PW.pt (dw_or (dt_cmp (o_ne hr.units) (de_call Y_next_open.o hr Y_next_open.d.mg Y_next_open.d.fn.kp Y_next_open.d.bd (da_cons (de_frz (de_rev (de_v 0))) (da_cons (de_v 3) da_nil))) (de_v 4)) (dw_or1 (dt_cmp (o_ne hr.units) (de_call Y_last_open.o hr Y_last_open.d.mg Y_last_open.d.fn.kp Y_last_open.d.bd (da_cons (de_frz (de_rev (de_v 0))) (da_cons (de_v 3) da_nil))) (de_v 5)))))
      (ds_one (ds_ret de_bl))
      ds_nil)
    (ds_cons (ds_setB (i := 6) (own := false) sc__law_one_good.nd (de_call Y_last_open.o hr Y_last_open.d.mg Y_last_open.d.fn.kp Y_last_open.d.bd (da_cons (de_v 2) (da_cons (de_v 3) da_nil))))
    (ds_cons (ds_if (dt_cmp o_lt (de_call Y_next_open.o hr Y_next_open.d.mg Y_next_open.d.fn.kp Y_next_open.d.bd (da_cons (de_v 2) (da_cons (de_v 3) da_nil))) (de_v 4))
      (ds_one (ds_ret de_bl))
      ds_nil)
    (ds_one (ds_ret (de_or (de_cmp o_isN (de_v 6) de_non) (de_one (de_and (de_cmp o_notN (de_v 5) de_non) (de_one (de_cmp o_le (de_v 6) (de_v 5)))))))))))))))))
theorem sc__law_cell_at : FnScope ["_law_script", "_law_k"] ["_law_script", "_law_k"] (defScope s__law_cell_at) := ⟨rfl, rfl, rfl, by decide +kernel, rfl, by decide +kernel, by decide +kernel⟩
theorem ok__law_cell_at {n : Nat} {P : Program} {w : World} {K : PySem.W.Frag} {mg : Str → Option Value} {base : Heap} (Z : Zs K mg) {f__law_cell_at : Addr} {fd__law_cell_at : FuncData} (D__law_cell_at : Def K mg "_law_cell_at" s__law_cell_at ["_law_script", "_law_k"] f__law_cell_at fd__law_cell_at) : FnOk P w K mg base CX0 1 f__law_cell_at fd__law_cell_at ["_law_script", "_law_k"] (spF K false (m__law_cell_at n) 2) :=
  fn_D (O' := []) D__law_cell_at.fn sc__law_cell_at false (g__law_cell_at n) fun cdv A outer s H E hr =>
    (ds_cons (ds_if (dt_cmp o_lt (de_v 1) (de_callB c_len Z.z_len PySem.boot_len (da_cons (de_v 0) da_nil)))
      (ds_one (ds_ret (de_ix x_ix (de_v 0) (de_v 1))))
      ds_nil)
    (ds_one (ds_ret de_int)))
theorem sc_law : FnScope ["_law_script", "_law_by_digits", "_law_closed", "_law_joined", "_law_more", "_law_times", "_law_start", "_law_stop", "_law_ahead", "_law_time", "_law_last"] ["_law_script"] (defScope s_law) := ⟨rfl, rfl, rfl, by decide +kernel, rfl, by decide +kernel, by decide +kernel⟩
theorem ok_law {n : Nat} {P : Program} {w : World} {K : PySem.W.Frag} {mg : Str → Option Value} {base : Heap} (Z : Zs K mg) {f_joined_stretches : Addr} {fd_joined_stretches : FuncData} (Y_joined_stretches : Yd P w K mg base CX0 1 "joined_stretches" s_joined_stretches ["closed"] (spF K false (m_joined_stretches n) 1) f_joined_stretches fd_joined_stretches) {f__law_stretch : Addr} {fd__law_stretch : FuncData} (Y__law_stretch : Yd P w K mg base CX0 1 "_law_stretch" s__law_stretch ["_law_cell", "_law_by_digits"] (spF K false (m__law_stretch n) 2) f__law_stretch fd__law_stretch) {f_last_open : Addr} {fd_last_open : FuncData} (Y_last_open : Yd P w K mg base CX0 2 "last_open" s_last_open ["closed", "time"] (spF K false (m_last_open n) 2) f_last_open fd_last_open) {f__law_one_good : Addr} {fd__law_one_good : FuncData} (Y__law_one_good : Yd P w K mg base CX0 3 "_law_one_good" s__law_one_good ["_law_closed", "_law_joined", "_law_more", "_law_time"] (spF K false (m__law_one_good n) 4) f__law_one_good fd__law_one_good) {f_next_open : Addr} {fd_next_open : FuncData} (Y_next_open : Yd P w K mg base CX0 2 "next_open" s_next_open ["closed", "time"] (spF K false (m_next_open n) 2) f_next_open fd_next_open) {f__law_cell_at : Addr} {fd__law_cell_at : FuncData} (Y__law_cell_at : Yd P w K mg base CX0 1 "_law_cell_at" s__law_cell_at ["_law_script", "_law_k"] (spF K false (m__law_cell_at n) 2) f__law_cell_at fd__law_cell_at) {f_law : Addr} {fd_law : FuncData} (D_law : Def K mg "law" s_law ["_law_script"] f_law fd_law) : FnOk P w K mg base CX0 4 f_law fd_law ["_law_script"] (spF K false (m_law n) 1) :=
  fn_D (O' := []) D_law.fn sc_law false (g_law n) fun cdv A outer s H E hr =>
    (ds_cons (ds_setB (i := 1) (own := false) sc_law.nd (de_and (de_cmp o_gt (de_callB c_len Z.z_len PySem.boot_len (da_cons (de_v 0) da_nil)) de_int) (de_one (de_cmp (o_eq hr.units) (de_op o_mod (de_ix x_ix (de_v 0) de_int) de_int) de_int))))
    (ds_cons (ds_compB (i := 2) false ["_law_cell", "_law_by_digits"] [none, some 1] sc_law.nd (di_seq (de_frz (de_sl x_sl (de_v 0) (dp_some de_int) (dp_some de_int)))) (fun _ _ _ _ _ => dgc_nm (by decide +kernel)) (leaves_name rfl) (fun _ _ _ _ _ => dts_nil) (fun _ _ _ _ _ => (de_call Y__law_stretch.o (hr.mono (by decide)) Y__law_stretch.d.mg Y__law_stretch.d.fn.kp Y__law_stretch.d.bd (da_cons (de_v 0) (da_cons (de_v 1) da_nil)))))
    (ds_cons (ds_setB (i := 3) (own := false) sc_law.nd (de_call Y_joined_stretches.o (hr.mono (by decide)) Y_joined_stretches.d.mg Y_joined_stretches.d.fn.kp Y_joined_stretches.d.bd (da_cons (de_frz (de_callTy c_list Z.z_list PyProof.Rows.boot_list (da_cons (de_v 2) da_nil))) da_nil)))
    (ds_cons (ds_setB (i := 4) (own := false) sc_law.nd (de_frz (de_op o_add (de_v 2) (de_frz (de_lst (da_cons (de_call Y__law_stretch.o (hr.mono (by decide)) Y__law_stretch.d.mg Y__law_stretch.d.fn.kp Y__law_stretch.d.bd (da_cons (de_frz (de_op o_add (de_call Y__law_cell_at.o (hr.mono (by decide)) Y__law_cell_at.d.mg Y__law_cell_at.d.fn.kp Y__law_cell_at.d.bd (da_cons (de_v 0) (da_cons de_int da_nil))) (de_op o_mul de_int (de_callTy c_int Z.z_int PyProof.Rows.boot_int (da_cons (de_not (de_v 1)) da_nil))))) (da_cons (de_v 1) da_nil))) da_nil))))))
    (ds_cons (ds_setB (i := 5) (own := false) sc_law.nd (de_frz (de_callB c_sorted2 Z.z_sorted boot_sorted (da_cons (de_frz (de_comp ["_law_cell"] [none] (di_seq (de_frz (de_sl x_sl (de_v 0) dp_none (dp_some de_int)))) (fun _ _ _ _ _ => dgc_nm (by decide +kernel)) (leaves_name rfl) (fun _ _ _ _ _ => dts_nil) (fun _ _ _ _ _ => (de_op o_mod (de_v 0) (de_ix x_ix (de_frz (de_lst (da_cons de_int (da_cons (de_op o_mul de_int (de_op o_pow de_int de_int)) da_nil)))) (de_op o_mod (de_op o_fdiv (de_v 0) de_int) de_int)))))) da_nil))))
    (ds_cons (ds_if (dt_tru (de_v 1))
      (ds_cons (ds_setB (i := 5) (own := false) sc_law.nd (de_frz (de_callB c_sorted2 Z.z_sorted boot_sorted (da_cons (de_frz (de_comp ["_law_cell"] [none] (di_seq (de_frz (de_sl x_sl (de_v 0) (dp_some de_int) (dp_some de_int)))) (fun _ _ _ _ _ => dgc_nm (by decide +kernel)) (leaves_name rfl) (fun _ _ _ _ _ => dts_nil) (fun _ _ _ _ _ => (de_op o_mod (de_v 0) (de_op o_mul de_int (de_op o_pow de_int de_int)))))) da_nil))))
    (ds_one (ds_for (pt := .tp [6, 7]) (di_seq (de_frz (de_sl x_sl (de_v 2) dp_none (dp_some de_int)))) (dg_tp rfl (dgs_cons (i := 6) sc_law.nd (dgs_cons (i := 7) sc_law.nd dgs_nil)))
      (ds_one (ds_setB (i := 5) (own := false) sc_law.nd (de_frz (de_callB c_sorted2 Z.z_sorted boot_sorted (da_cons (de_frz (de_op o_add (de_v 5) (de_frz (de_lst (da_cons (de_callB (c_max rfl) Z.z_max boot_max (da_cons de_int (da_cons (de_op o_sub (de_v 6) de_int) da_nil))) (da_cons (de_v 6) (da_cons (de_op o_sub (de_v 7) de_int) (da_cons (de_v 7) da_nil)))))))) da_nil))))))))
      ds_nil)
    (ds_cons (ds_setB (i := 8) (own := false) sc_law.nd (de_tup (da_cons de_int (da_cons (de_un o_neg de_int) da_nil))))
    (ds_cons (ds_for (pt := .nm 9) (di_seq (de_v 5)) (dg_nm sc_law.nd)
      (ds_cons (ds_if (dt_not (dt_tru (de_call Y__law_one_good.o hr Y__law_one_good.d.mg Y__law_one_good.d.fn.kp Y__law_one_good.d.bd (da_cons (de_v 2) (da_cons (de_v 3) (da_cons (de_v 4) (da_cons (de_v 9) da_nil)))))))
      (ds_one (ds_ret de_bl))
      ds_nil)
    (ds_cons (ds_setB (i := 10) (own := false) sc_law.nd (de_call Y_last_open.o (hr.mono (by decide)) Y_last_open.d.mg Y_last_open.d.fn.kp Y_last_open.d.bd (da_cons (de_v 2) (da_cons (de_v 9) da_nil))))
    (ds_cons (ds_if (dt_cmp o_isN (de_v 10) de_non)
      (ds_one (ds_setB (i := 10) (own := false) sc_law.nd (de_un o_neg de_int)))
      ds_nil)
    (ds_cons (ds_if (PW.pt (dw_or (dt_cmp o_lt (de_call Y_next_open.o (hr.mono (by decide)) Y_next_open.d.mg Y_next_open.d.fn.kp Y_next_open.d.bd (da_cons (de_v 2) (da_cons (de_v 9) da_nil))) (de_ix x_ix (de_v 8) de_int)) (dw_or1 (dt_cmp o_lt (de_v 10) (de_ix x_ix (de_v 8) de_int)))))
      (ds_one (ds_ret de_bl))
      ds_nil)
    (ds_one (ds_setB (i := 8) (own := false) sc_law.nd (de_tup (da_cons (de_call Y_next_open.o (hr.mono (by decide)) Y_next_open.d.mg Y_next_open.d.fn.kp Y_next_open.d.bd (da_cons (de_v 2) (da_cons (de_v 9) da_nil))) (da_cons (de_v 10) da_nil))))))))))
    (ds_one (ds_ret de_bl))))))))))
noncomputable abbrev Stre := Int × Int
noncomputable def stD (p : Stre) : Dat := .tup [.int p.1, .int p.2]
noncomputable def Cov (cs : List Stre) (t : Int) : Prop := ∃ p ∈ cs, p.1 ≤ t ∧ t < p.2
noncomputable def NextIs (cs : List Stre) (t u : Int) : Prop := t ≤ u ∧ ¬ Cov cs u ∧ ∀ v, t ≤ v → v < u → Cov cs v
noncomputable def LastIs (cs : List Stre) (t u : Int) : Prop := u ≤ t ∧ ¬ Cov cs u ∧ ∀ v, u < v → v ≤ t → Cov cs v
theorem NextIs.uniq {cs : List Stre} {t u v : Int} (h : NextIs cs t u) (k : NextIs cs t v) : u = v := by
  rcases Int.lt_trichotomy u v with e | e | e
  · exact absurd (k.2.2 u h.1 e) h.2.1
  · exact e
  · exact absurd (h.2.2 v k.1 e) k.2.1
theorem LastIs.uniq {cs : List Stre} {t u v : Int} (h : LastIs cs t u) (k : LastIs cs t v) : u = v := by
  rcases Int.lt_trichotomy u v with e | e | e
  · exact absurd (h.2.2 v e k.1) k.2.1
  · exact e
  · exact absurd (k.2.2 u e h.1) h.2.1
noncomputable def Joined (js : List Stre) : Prop := js.Pairwise (fun p q => p.2 < q.1) ∧ ∀ p ∈ js, p.1 < p.2
theorem tupsD_map : ∀ cs : List Stre, tupsD (cs.map stD) = .ok (cs.map fun p => [p.1, p.2])
  | [] => rfl
  | p :: cs => by simp [tupsD, tupD, stD, intsD, tupsD_map cs]
theorem sorted_st (cs : List Stre) (hl : cs.length < 64) : ∃ ss : List Stre, sortedD2 [.lst (cs.map stD)] = .ok (.lst (ss.map stD)) ∧ ss.Perm cs ∧ ss.Pairwise (fun p q => p.1 ≤ q.1) := by
  cases hc : cs with
  | nil => exact ⟨[], by simp [sortedD2, sortDs2, intsD, isort], List.Perm.refl _, List.Pairwise.nil⟩
  | cons p ps =>
    rw [← hc]
    have hi : ∃ e, intsD (cs.map stD) = .error e := ⟨.stuck, by rw [hc]; simp [intsD, stD, asI]⟩
    obtain ⟨e, he⟩ := hi
    have hne : ((cs.map fun p => [p.1, p.2]).all fun t => !t.isEmpty) = true := by simp
    have es : sortedD2 [.lst (cs.map stD)] = .ok (.lst ((isort lexZ (cs.map fun p => [p.1, p.2])).map tupZ)) := by
      simp only [sortedD2, sortDs2, he, tupsD_map, bind_ok, hne, if_true]
    have hp := isort_perm (lt := lexZ) (cs.map fun p => [p.1, p.2])
    have hs := isort_sorted ordLex (cs.map fun p => [p.1, p.2])
    generalize isort lexZ (cs.map fun p => [p.1, p.2]) = L at *
    let back : List Int → Stre := fun l => (l.getD 0 0, l.getD 1 0)
    have hL : ∀ l ∈ L, ∃ p : Stre, l = [p.1, p.2] := fun l h => by
      have := hp.mem_iff.mp h
      simp only [List.mem_map] at this
      obtain ⟨p, _, e⟩ := this
      exact ⟨p, e.symm⟩
    refine ⟨L.map back, ?_, ?_, ?_⟩
    · rw [es, List.map_map]
      congr 2
      refine List.map_congr_left fun l h => ?_
      obtain ⟨p, rfl⟩ := hL l h
      rfl
    · have := hp.map back
      rw [List.map_map] at this
      have e2 : List.map (back ∘ fun p => [p.1, p.2]) cs = cs := by
        rw [List.map_congr_left (g := id)]
        · simp
        · intro p _; rfl
      rwa [e2] at this
    · rw [List.pairwise_map]
      refine hs.imp_of_mem fun {a b} ha hb h => ?_
      obtain ⟨p, rfl⟩ := hL a ha
      obtain ⟨q, rfl⟩ := hL b hb
      show p.1 ≤ q.1
      simp only [lexZ] at h
      by_cases e1 : q.1 = p.1
      · omega
      · rw [if_neg e1] at h
        have := of_decide_eq_false h
        omega
theorem ixN_last (n : Nat) : ixN (n + 1) (-1) = some n := by unfold ixN; simp <;> omega
@[simp] theorem getI_last (ds : List Dat) (d : Dat) : getI (ds ++ [d]) (-1) = .ok d := by
  unfold getI atI
  rw [List.length_append, List.length_singleton, ixN_last]
  simp
@[simp] theorem getI_t0 (a b : Dat) : getI [a, b] 0 = .ok a := id rfl
@[simp] theorem getI_t1 (a b : Dat) : getI [a, b] 1 = .ok b := id rfl
noncomputable def JoinedOf (js done : List Stre) : Prop := Joined js ∧ (∀ t, Cov js t ↔ Cov done t) ∧ js.length ≤ done.length ∧ ∀ j ∈ js, ∃ d ∈ done, d.1 = j.1
theorem cov_nil (t : Int) : ¬ Cov [] t := fun ⟨_, h, _⟩ => by simp at h
theorem cov_cons {p : Stre} {cs : List Stre} {t : Int} : Cov (p :: cs) t ↔ (p.1 ≤ t ∧ t < p.2) ∨ Cov cs t := by
  constructor
  · rintro ⟨q, h, h2⟩
    rcases List.mem_cons.mp h with e | e
    · subst e; exact .inl h2
    · exact .inr ⟨q, e, h2⟩
  · rintro (h | ⟨q, h, h2⟩)
    · exact ⟨p, by simp, h⟩
    · exact ⟨q, by simp [h], h2⟩
theorem cov_append {as bs : List Stre} {t : Int} : Cov (as ++ bs) t ↔ Cov as t ∨ Cov bs t := by
  constructor
  · rintro ⟨q, h, h2⟩
    rcases List.mem_append.mp h with e | e
    · exact .inl ⟨q, e, h2⟩
    · exact .inr ⟨q, e, h2⟩
  · rintro (⟨q, h, h2⟩ | ⟨q, h, h2⟩)
    · exact ⟨q, by simp [h], h2⟩
    · exact ⟨q, by simp [h], h2⟩
theorem cov_perm {as bs : List Stre} (h : as.Perm bs) {t : Int} : Cov as t ↔ Cov bs t := ⟨fun ⟨p, m, q⟩ => ⟨p, h.mem_iff.mp m, q⟩, fun ⟨p, m, q⟩ => ⟨p, h.mem_iff.mpr m, q⟩⟩
theorem cov_one {p : Stre} {t : Int} : Cov [p] t ↔ p.1 ≤ t ∧ t < p.2 := by rw [cov_cons]; simp [cov_nil]
theorem JoinedOf.new {js done : List Stre} {p : Stre} (h : JoinedOf js done) (hp : p.1 < p.2) (hlt : ∀ x ∈ js, x.2 < p.1) : JoinedOf (js ++ [p]) (done ++ [p]) := by
  obtain ⟨⟨h1, h2⟩, h3, h4, h5⟩ := h
  refine ⟨⟨?_, ?_⟩, ?_, by simp; exact h4, ?_⟩
  · rw [List.pairwise_append]
    exact ⟨h1, by simp, fun a ha b hb => by simp at hb; subst hb; exact hlt a ha⟩
  · intro x hx
    rcases List.mem_append.mp hx with e | e
    · exact h2 x e
    · simp at e; subst e; exact hp
  · intro t; rw [cov_append, cov_append, h3]
  · intro j hj
    rcases List.mem_append.mp hj with e | e
    · obtain ⟨d, m, z⟩ := h5 j e; exact ⟨d, by simp [m], z⟩
    · simp at e; subst e; exact ⟨j, by simp, rfl⟩
theorem JoinedOf.more {js0 done : List Stre} {q p : Stre} (h : JoinedOf (js0 ++ [q]) done) (hp : p.1 < p.2) (h1 : q.1 ≤ p.1) (h2 : p.1 ≤ q.2) : JoinedOf (js0 ++ [(q.1, maxZ p.2 q.2)]) (done ++ [p]) := by
  obtain ⟨⟨a1, a2⟩, a3, a4, a5⟩ := h
  have hq : q.1 < q.2 := a2 q (by simp)
  have hm1 : p.2 ≤ maxZ p.2 q.2 := by unfold maxZ; split <;> omega
  have hm2 : q.2 ≤ maxZ p.2 q.2 := by unfold maxZ; split <;> omega
  have hm3 : maxZ p.2 q.2 = p.2 ∨ maxZ p.2 q.2 = q.2 := by unfold maxZ; split <;> omega
  rw [List.pairwise_append] at a1
  refine ⟨⟨?_, ?_⟩, ?_, by simp at a4 ⊢; omega, ?_⟩
  · rw [List.pairwise_append]
    exact ⟨a1.1, by simp, fun a ha b hb => by simp at hb; subst hb; exact a1.2.2 a ha q (by simp)⟩
  · intro x hx
    rcases List.mem_append.mp hx with e | e
    · exact a2 x (by simp [e])
    · simp at e; subst e; show q.1 < maxZ p.2 q.2; omega
  · intro t
    have := a3 t
    rw [cov_append, cov_one] at this
    rw [cov_append, cov_append, ← this, cov_one, cov_one]
    show Cov js0 t ∨ q.1 ≤ t ∧ t < maxZ p.2 q.2 ↔ _
    constructor
    · rintro (z | z)
      · exact .inl (.inl z)
      · by_cases e : t < q.2
        · exact .inl (.inr ⟨z.1, e⟩)
        · exact .inr (by omega)
    · rintro ((z | z) | z)
      · exact .inl z
      · exact .inr (by omega)
      · exact .inr (by omega)
  · intro j hj
    rcases List.mem_append.mp hj with e | e
    · obtain ⟨d, m, z⟩ := a5 j (by simp [e]); exact ⟨d, by simp [m], z⟩
    · simp at e; subst e
      obtain ⟨d, m, z⟩ := a5 q (by simp)
      exact ⟨d, by simp [m], z⟩
theorem find_loop {g : Env' → M Flo} {c : Option Dat} {t : Int} (r : Stre → Dat) (hg : ∀ p : Stre, g [c, some (.int t), some (.int p.1), some (.int p.2)] = if p.1 ≤ t ∧ t < p.2 then .ok (.rt (r p)) else .ok (.nx [c, some (.int t), some (.int p.1), some (.int p.2)])) :
    ∀ (js : List Stre) (z1 z2 : Option Dat), (∃ p ∈ js, (p.1 ≤ t ∧ t < p.2) ∧ forD (.tp [2, 3]) g (js.map stD) [c, some (.int t), z1, z2] = .ok (.rt (r p))) ∨ (¬ Cov js t ∧ ∃ z1' z2', forD (.tp [2, 3]) g (js.map stD) [c, some (.int t), z1, z2] = .ok (.nx [c, some (.int t), z1', z2']))
  | [], z1, z2 => .inr ⟨cov_nil t, z1, z2, rfl⟩
  | p :: js, z1, z2 => by
    have hb : bindP (.tp [2, 3]) (stD p) [c, some (.int t), z1, z2] = .ok [c, some (.int t), some (.int p.1), some (.int p.2)] := by simp [stD]
    by_cases h : p.1 ≤ t ∧ t < p.2
    · refine .inl ⟨p, by simp, h, ?_⟩
      rw [List.map_cons, forD, hb, bind_ok, hg, if_pos h]
      rfl
    · have e : forD (.tp [2, 3]) g ((p :: js).map stD) [c, some (.int t), z1, z2] = forD (.tp [2, 3]) g (js.map stD) [c, some (.int t), some (.int p.1), some (.int p.2)] := by
        rw [List.map_cons, forD, hb, bind_ok, hg, if_neg h]
        rfl
      rcases find_loop r hg js (some (.int p.1)) (some (.int p.2)) with ⟨q, hq, h2, h3⟩ | ⟨h2, h3⟩
      · exact .inl ⟨q, by simp [hq], h2, by rw [e]; exact h3⟩
      · refine .inr ⟨fun z => ?_, by rw [e]; exact h3⟩
        rcases cov_cons.mp z with z | z
        · exact h z
        · exact h2 z
theorem Joined.tri : ∀ {js : List Stre}, Joined js → ∀ p ∈ js, ∀ q ∈ js, p = q ∨ p.2 < q.1 ∨ q.2 < p.1
  | [], _, p, hp, _, _ => by simp at hp
  | a :: js, ⟨h1, h2⟩, p, hp, q, hq => by
    rw [List.pairwise_cons] at h1
    rcases List.mem_cons.mp hp with e | e <;> rcases List.mem_cons.mp hq with e2 | e2
    · exact .inl (e.trans e2.symm)
    · subst e; exact .inr (.inl (h1.1 q e2))
    · subst e2; exact .inr (.inr (h1.1 p e))
    · exact Joined.tri (js := js) ⟨h1.2, fun x hx => h2 x (by simp [hx])⟩ p e q e2
noncomputable def covB (cs : List Stre) (t : Int) : Bool := cs.any fun p => decide (p.1 ≤ t) && decide (t < p.2)
theorem covB_iff {cs : List Stre} {t : Int} : covB cs t = true ↔ Cov cs t := by
  unfold covB Cov
  simp
theorem last_loop {g : Env' → M Flo} {c : Option Dat} {t : Int} (hg : ∀ (p : Stre) (f : Int), g [c, some (.int t), some (.int f), some (.int p.1), some (.int p.2)] = .ok (.nx [c, some (.int t), some (.int (if p.1 ≤ t ∧ t < p.2 then p.1 - 1 else f)), some (.int p.1), some (.int p.2)])) :
    ∀ (js : List Stre) (f : Int) (z1 z2 : Option Dat), ∃ f' z1' z2', forD (.tp [3, 4]) g (js.map stD) [c, some (.int t), some (.int f), z1, z2] = .ok (.nx [c, some (.int t), some (.int f'), z1', z2']) ∧ ((∃ p ∈ js, (p.1 ≤ t ∧ t < p.2) ∧ f' = p.1 - 1) ∨ (¬ Cov js t ∧ f' = f))
  | [], f, z1, z2 => ⟨f, z1, z2, rfl, .inr ⟨cov_nil t, rfl⟩⟩
  | p :: js, f, z1, z2 => by
    have hb : bindP (.tp [3, 4]) (stD p) [c, some (.int t), some (.int f), z1, z2] = .ok [c, some (.int t), some (.int f), some (.int p.1), some (.int p.2)] := by simp [stD]
    obtain ⟨f', y1, y2, e, h⟩ := last_loop hg js (if p.1 ≤ t ∧ t < p.2 then p.1 - 1 else f) (some (.int p.1)) (some (.int p.2))
    refine ⟨f', y1, y2, ?_, ?_⟩
    · rw [List.map_cons, forD, hb, bind_ok, hg]; exact e
    · rcases h with ⟨q, hq, h1, h2⟩ | ⟨h1, h2⟩
      · exact .inl ⟨q, by simp [hq], h1, h2⟩
      · by_cases hp : p.1 ≤ t ∧ t < p.2
        · rw [if_pos hp] at h2
          exact .inl ⟨p, by simp, hp, h2⟩
        · rw [if_neg hp] at h2
          exact .inr ⟨fun z => (cov_cons.mp z).elim hp h1, h2⟩
theorem joined_ok (n : Nat) (cs : List Stre) (hl : cs.length < 64) (hs : ∀ p ∈ cs, p.1 < p.2) : ∃ js : List Stre, m_joined_stretches n [.lst (cs.map stD)] = .ok (.lst (js.map stD)) ∧ Joined js ∧ (∀ t, Cov js t ↔ Cov cs t) ∧ js.length ≤ cs.length := by
  obtain ⟨ss, e, hp, hw⟩ := sorted_st cs hl
  have hlen : ss.length = cs.length := hp.length_eq
  have key := forD_inv (p := .tp [2, 3]) (g := b_joined_stretches_2 n)
    (fun k ρ => ∃ js z1 z2, ρ = [some (.lst (cs.map stD)), some (.lst (js.map stD)), z1, z2] ∧ JoinedOf js (ss.take k)) (ss.map stD) 0 [some (.lst (cs.map stD)), some (.lst []), none, none] ⟨[], none, none, rfl, ⟨by simp [Joined], fun t => Iff.rfl, by simp, by simp⟩⟩ (by
    rintro i d ρ hd ⟨js, z1, z2, rfl, hj⟩
    rw [List.getElem?_map] at hd
    obtain ⟨p, hpi, rfl⟩ := Option.map_eq_some_iff.mp hd
    obtain ⟨hi, hpe⟩ := List.getElem?_eq_some_iff.mp hpi
    have htk : ss.take (0 + i + 1) = ss.take (0 + i) ++ [p] := by rw [Nat.zero_add, List.take_succ, hpi]; rfl
    have hpp : p.1 < p.2 := hs p (hp.mem_iff.mp (List.mem_of_getElem? hpi))
    have hstart : ∀ j ∈ js, j.1 ≤ p.1 := fun j hjm => by
      obtain ⟨d, dm, de⟩ := hj.2.2.2 j hjm
      rw [Nat.zero_add] at dm
      obtain ⟨m, hm, hme⟩ := List.mem_take_iff_getElem.mp dm
      have := List.pairwise_iff_getElem.mp hw m i (by omega) hi (by omega)
      rw [hme, hpe] at this
      omega
    have hjl : js.length < 64 := by
      have := hj.2.2.1
      rw [List.length_take] at this
      omega
    refine ⟨_, by simp [stD]; rfl, ?_⟩
    rw [htk]
    rcases List.eq_nil_or_concat js with e0 | ⟨js0, q, e0⟩
    · subst e0
      refine ⟨_, .inl (by simp [b_joined_stretches_2, c_joined_stretches_1]; rfl), [p], some (.int p.1), some (.int p.2), by simp [stD], by simpa using hj.new hpp (by simp)⟩
    · rw [List.concat_eq_append] at e0
      subst e0
      by_cases hc : p.1 ≤ q.2
      · refine ⟨_, .inl (by simp [b_joined_stretches_2, c_joined_stretches_1, stD, hc, flatD, flatDs, ixN_last]; rfl), js0 ++ [(q.1, maxZ p.2 q.2)], some (.int p.1), some (.int p.2), ?_, hj.more hpp (hstart q (by simp)) hc⟩
        simp [stD]
      · have hlt : ∀ x ∈ js0 ++ [q], x.2 < p.1 := fun x hx => by
          rcases List.mem_append.mp hx with e | e
          · have h1 := (List.pairwise_append.mp hj.1.1).2.2 x e q (by simp)
            have h2 := hj.1.2 q (by simp)
            omega
          · simp at e; subst e; omega
        simp at hjl
        have hjl2 : js0.length + 1 < 16777216 := by omega
        refine ⟨_, .inl (by simp [b_joined_stretches_2, c_joined_stretches_1, stD, hc, hjl2]; rfl), js0 ++ [q] ++ [p], some (.int p.1), some (.int p.2), by simp [stD], hj.new hpp hlt⟩)
  obtain ⟨ρ', e2, js, z1, z2, rfl, hj⟩ := key
  refine ⟨js, ?_, hj.1, fun t => ?_, ?_⟩
  · simp [m_joined_stretches, g_joined_stretches, e, e2]
  · rw [hj.2.1 t, Nat.zero_add, List.length_map, List.take_length]
    exact cov_perm hp
  · have := hj.2.2.1
    rw [List.length_take, List.length_map] at this
    omega
theorem next_ok (n : Nat) (cs : List Stre) (t : Int) (hl : cs.length < 64) (hs : ∀ p ∈ cs, p.1 < p.2) : ∃ u, m_next_open n [.lst (cs.map stD), .int t] = .ok (.int u) ∧ NextIs cs t u := by
  obtain ⟨js, e, hj, hc, _⟩ := joined_ok n cs hl hs
  rcases find_loop (g := b_next_open_2 n) (c := some (.lst (cs.map stD))) (t := t) (fun p => .int p.2) (fun p => by by_cases h1 : p.1 ≤ t <;> by_cases h2 : t < p.2 <;> simp [b_next_open_2, c_next_open_1, h1, h2]) js none none with ⟨p, hp, h, e2⟩ | ⟨h, z1, z2, e2⟩
  · refine ⟨p.2, by simp [m_next_open, g_next_open, e, e2], by omega, fun z => ?_, fun v h1 h2 => (hc v).mp ⟨p, hp, by omega, h2⟩⟩
    obtain ⟨q, hq, h3⟩ := (hc _).mpr z
    rcases hj.tri p hp q hq with e | e | e
    · subst e; omega
    · omega
    · have := hj.2 p hp; omega
  · exact ⟨t, by simp [m_next_open, g_next_open, e, e2], Int.le_refl _, fun z => h ((hc t).mpr z), fun v h1 h2 => by omega⟩
theorem last_ok (n : Nat) (cs : List Stre) (t : Int) (hl : cs.length < 64) (hs : ∀ p ∈ cs, p.1 < p.2) : ∃ u, m_last_open n [.lst (cs.map stD), .int t] = .ok (if 0 ≤ u then .int u else .non) ∧ LastIs cs t u := by
  obtain ⟨js, e, hj, hc, _⟩ := joined_ok n cs hl hs
  obtain ⟨f', z1, z2, e2, h⟩ := last_loop (g := b_last_open_2 n) (c := some (.lst (cs.map stD))) (t := t) (fun p f => by by_cases h1 : p.1 ≤ t <;> by_cases h2 : t < p.2 <;> simp [b_last_open_2, c_last_open_1, h1, h2]) js t none none
  refine ⟨f', ?_, ?_⟩
  · by_cases h0 : 0 ≤ f' <;> simp [m_last_open, g_last_open, e, e2, h0]
  · rcases h with ⟨p, hp, h1, h2⟩ | ⟨h1, h2⟩
    · subst h2
      refine ⟨by omega, fun z => ?_, fun v h3 h4 => (hc v).mp ⟨p, hp, by omega, by omega⟩⟩
      obtain ⟨q, hq, h3⟩ := (hc _).mpr z
      rcases hj.tri p hp q hq with e | e | e
      · subst e; omega
      · have := hj.2 p hp; omega
      · omega
    · subst h2
      exact ⟨Int.le_refl _, fun z => h1 ((hc _).mpr z), fun v h3 h4 => by omega⟩
theorem open_ok (n : Nat) (cs : List Stre) (t : Int) (hl : cs.length < 64) : m_is_open n [.lst (cs.map stD), .int t] = .ok (.bl (!covB cs t)) := by
  have hl2 : cs.length ≤ 16777216 := by omega
  have e : compD (.tp [0, 1]) fYes (fChain leD ltD (fVar 0) (fVar 2) (fVar 1)) [none, none, some (.int t)] (cs.map stD) = .ok ((cs.map fun p => decide (p.1 ≤ t) && decide (t < p.2)).map Dat.bl) := by
    rw [compD_map (fun d => match d with | .tup [.int a, .int b] => .bl (decide (a ≤ t) && decide (t < b)) | d => d)]
    · rw [List.map_map, List.map_map]; rfl
    · intro d hd
      obtain ⟨p, _, rfl⟩ := List.mem_map.mp hd
      refine ⟨[some (.int p.1), some (.int p.2), some (.int t)], by simp [stD], ?_⟩
      by_cases h1 : p.1 ≤ t <;> simp [stD, h1]
  simp [m_is_open, g_is_open, e, hl2, -List.map_map]
  unfold covB
  simp
theorem NextIs.congr {a b : List Stre} {t u : Int} (h : ∀ v, Cov a v ↔ Cov b v) (k : NextIs a t u) : NextIs b t u := ⟨k.1, fun z => k.2.1 ((h _).mpr z), fun v h1 h2 => (h v).mp (k.2.2 v h1 h2)⟩
theorem LastIs.congr {a b : List Stre} {t u : Int} (h : ∀ v, Cov a v ↔ Cov b v) (k : LastIs a t u) : LastIs b t u := ⟨k.1, fun z => k.2.1 ((h _).mpr z), fun v h1 h2 => (h v).mp (k.2.2 v h1 h2)⟩
noncomputable def Gd (cs : List Stre) : Prop := cs.length ≤ 20 ∧ ∀ p ∈ cs, 0 ≤ p.1 ∧ p.1 < p.2 ∧ p.2 ≤ 1000000000
theorem Gd.lt {cs : List Stre} (h : Gd cs) : ∀ p ∈ cs, p.1 < p.2 := fun p hp => (h.2 p hp).2.1
theorem Gd.small {cs : List Stre} (h : Gd cs) : cs.length < 64 := by have := h.1; omega
theorem next_le {cs : List Stre} {t u : Int} (h : Gd cs) (k : NextIs cs t u) : u ≤ t ∨ u ≤ 1000000000 := by
  rcases Int.lt_or_le t u with e | e
  · obtain ⟨p, hp, h1, h2⟩ := k.2.2 (u - 1) (by omega) (by omega)
    have := h.2 p hp
    exact .inr (by omega)
  · exact .inl e
theorem last_ge {cs : List Stre} {t u : Int} (h : Gd cs) (h0 : 0 ≤ t) (k : LastIs cs t u) : -1 ≤ u := by
  rcases Int.lt_or_le u t with e | e
  · obtain ⟨p, hp, h1, h2⟩ := k.2.2 (u + 1) (by omega) (by omega)
    have := h.2 p hp
    omega
  · omega
noncomputable def lsD (l : Int) : Dat := if 0 ≤ l then .int l else .non
theorem mem_rangeL {d : Dat} : ∀ {m : Nat} {i : Int}, d ∈ rangeL i m → ∃ v, d = .int v ∧ i ≤ v ∧ v < i + m := by
  intro m i h
  unfold rangeL at h
  simp only [List.mem_map, List.mem_range] at h
  obtain ⟨k, hk, rfl⟩ := h
  exact ⟨_, rfl, by omega, by omega⟩
theorem shut_ok (n : Nat) {cs : List Stre} (h : Gd cs) {l u : Int} (hl : -1 ≤ l) (hl2 : l ≤ 4000000000) (hu : u ≤ 4000000000) (hu0 : 0 ≤ u) (hc : ∀ v, l < v → v < u → Cov cs v) : m__law_between_shut n [.lst (cs.map stD), lsD l, .int u] = .ok (.bl true) := by
  obtain ⟨ρ', e2, z', rfl⟩ := forD_inv (p := .nm 3) (g := b__law_between_shut_4 n) (fun k ρ => ∃ z', ρ = [some (.lst (cs.map stD)), some (.int l), some (.int u), z']) (rangeL (l + 1) (u - (l + 1)).toNat) 0 [some (.lst (cs.map stD)), some (.int l), some (.int u), none] ⟨none, rfl⟩ (by
    rintro i d ρ hd ⟨z', rfl⟩
    obtain ⟨v, rfl, h1, h2⟩ := mem_rangeL (List.mem_of_getElem? hd)
    have hb : covB cs v = true := covB_iff.mpr (hc v (by omega) (by omega))
    refine ⟨_, by simp; rfl, _, .inl (by simp [b__law_between_shut_4, c__law_between_shut_3, open_ok n cs v h.small, hb]; rfl), _, rfl⟩)
  have s1 : small62 (l + 1) = true := by unfold small62; simp; omega
  have s2 : small62 u = true := by unfold small62; simp; omega
  have e1 : c__law_between_shut_1 n [some (.lst (cs.map stD)), some (lsD l), some (.int u), none] = .ok (.nx [some (.lst (cs.map stD)), some (.int l), some (.int u), none]) := by
    unfold lsD
    by_cases hl0 : 0 ≤ l
    · simp [c__law_between_shut_1, hl0]
    · have : l = -1 := by omega
      subst this
      simp [c__law_between_shut_1]
  have er : rng2 [.int (l + 1), .int u] = .ok (rangeL (l + 1) (u - (l + 1)).toNat) := e_rng2 s1 s2
  by_cases h300 : 300 < u - l
  · simp [m__law_between_shut, g__law_between_shut, c__law_between_shut_2, e1, h300]
  · simp [m__law_between_shut, g__law_between_shut, c__law_between_shut_2, e1, h300, er, e2]
theorem f_non (t : Int) : eqM Dat.non (Dat.int t) = .ok (.bl false) := id rfl
theorem f_nn : neM Dat.non Dat.non = .ok (.bl false) := id rfl
theorem good_ok (n : Nat) {cs js ms : List Stre} {t : Int} (h0 : 0 ≤ t) (ht : t ≤ 3000000000) (hc : Gd cs) (hj : js.length < 64 ∧ ∀ p ∈ js, p.1 < p.2) (hm : Gd ms) (ej : ∀ v, Cov js v ↔ Cov cs v) (em : ∀ v, Cov cs v → Cov ms v) :
    m__law_one_good n [.lst (cs.map stD), .lst (js.map stD), .lst (ms.map stD), .int t] = .ok (.bl true) := by
  obtain ⟨u, e1, N⟩ := next_ok n cs t hc.small hc.lt
  obtain ⟨l, e2, La⟩ := last_ok n cs t hc.small hc.lt
  obtain ⟨u1, e3, N1⟩ := next_ok n js t hj.1 hj.2
  obtain ⟨l1, e4, La1⟩ := last_ok n js t hj.1 hj.2
  have q1 : u1 = u := (N1.congr ej).uniq N
  have q2 : l1 = l := (La1.congr ej).uniq La
  subst q1 q2
  obtain ⟨u2, e5, N2⟩ := next_ok n cs.reverse t (by simpa using hc.small) (fun p hp => hc.lt p (List.mem_reverse.mp hp))
  obtain ⟨l2, e6, La2⟩ := last_ok n cs.reverse t (by simpa using hc.small) (fun p hp => hc.lt p (List.mem_reverse.mp hp))
  have er : ∀ v, Cov cs.reverse v ↔ Cov cs v := fun v => cov_perm (List.reverse_perm cs)
  have q3 : u2 = u1 := (N2.congr er).uniq N
  have q4 : l2 = l1 := (La2.congr er).uniq La
  subst q3 q4
  obtain ⟨u3, e7, N3⟩ := next_ok n ms t hm.small hm.lt
  obtain ⟨l3, e8, La3⟩ := last_ok n ms t hm.small hm.lt
  have g1 : u2 ≤ u3 := by
    rcases Int.lt_or_le u3 u2 with e | e
    · exact absurd (em _ (N.2.2 u3 N3.1 e)) N3.2.1
    · exact e
  have g2 : l3 ≤ l2 := by
    rcases Int.lt_or_le l2 l3 with e | e
    · exact absurd (em _ (La.2.2 l3 e La3.1)) La3.2.1
    · exact e
  have b1 := next_le hc N
  have b2 := last_ge hc h0 La
  have b3 := last_ge hm h0 La3
  have n1 := N.1
  have n2 := La.1
  have sh := shut_ok n hc b2 (by omega) (show u2 ≤ 4000000000 by omega) (by omega) (fun v h1 h2 => by
    rcases Int.lt_or_le v t with e | e
    · exact La.2.2 v h1 (by omega)
    · exact N.2.2 v e h2)
  have ho := open_ok n cs u2 hc.small
  have hot := open_ok n cs t hc.small
  have cu : covB cs u2 = false := by
    cases e : covB cs u2 with
    | false => rfl
    | true => exact absurd (covB_iff.mp e) N.2.1
  rw [cu] at ho
  have e2' : m_last_open n [.lst (cs.map stD), .int t] = .ok (lsD l2) := e2
  have e4' : m_last_open n [.lst (js.map stD), .int t] = .ok (lsD l2) := e4
  have e6' : m_last_open n [.lst (cs.map stD).reverse, .int t] = .ok (lsD l2) := by rw [← List.map_reverse]; exact e6
  have e5' : m_next_open n [.lst (cs.map stD).reverse, .int t] = .ok (.int u2) := by rw [← List.map_reverse]; exact e5
  have e8' : m_last_open n [.lst (ms.map stD), .int t] = .ok (lsD l3) := e8
  by_cases ct : Cov cs t
  · have h1 : t < u2 := by
      rcases Int.lt_or_le t u2 with e | e
      · exact e
      · have : u2 = t := by omega
        subst this
        exact absurd ct N.2.1
    have h2 : l2 < t := by
      rcases Int.lt_or_le l2 t with e | e
      · exact e
      · have : l2 = t := by omega
        subst this
        exact absurd ct La.2.1
    have cb : covB cs t = true := covB_iff.mpr ct
    rw [cb] at hot
    have k1 : ¬ u2 = t := by omega
    have k2 : ¬ l2 = t := by omega
    have k3 : ¬ u2 < t := by omega
    have k4 : ¬ t < l2 := by omega
    have k5 : ¬ u3 < u2 := by omega
    unfold lsD at *
    by_cases z2 : 0 ≤ l2 <;> by_cases z3 : 0 ≤ l3
    all_goals simp [z2] at sh
    all_goals simp [m__law_one_good, g__law_one_good, c__law_one_good_1, c__law_one_good_2, c__law_one_good_3, c__law_one_good_4, c__law_one_good_5, c__law_one_good_6, e1, e2', e3, e4', e5', e6', e7, e8', ho, hot, sh, z2, z3, k1, k2, k3, k4, k5, g2, f_non, f_nn]
    all_goals omega
  · have h1 : u2 = t := by
      rcases Int.lt_or_le t u2 with e | e
      · exact absurd (N.2.2 t (by omega) e) ct
      · omega
    have h2 : l2 = t := by
      rcases Int.lt_or_le l2 t with e | e
      · exact absurd (La.2.2 t e (by omega)) ct
      · omega
    subst h1 h2
    have k4 : ¬ u3 < l2 := by omega
    have k5 : ¬ l2 < l2 := by omega
    unfold lsD at *
    rw [cu] at hot
    by_cases z3 : 0 ≤ l3
    all_goals simp [m__law_one_good, g__law_one_good, c__law_one_good_1, c__law_one_good_2, c__law_one_good_3, c__law_one_good_4, c__law_one_good_5, c__law_one_good_6, e1, e2', e3, e4', e5', e6', e7, e8', ho, h0, z3, k4, g2, f_non, f_nn]
theorem stretch_ok (n : Nat) (c : Int) (b : Bool) : ∃ p : Stre, (0 ≤ p.1 ∧ p.1 < p.2 ∧ p.2 ≤ 1000000000) ∧ m__law_stretch n [.int c, .bl b] = .ok (stD p) := by
  cases b with
  | true =>
    have h1 : c % 1000000000 < 1000000000 := Int.emod_lt_of_pos _ (by decide)
    have h0 : 0 ≤ c % 1000000000 := Int.emod_nonneg _ (by decide)
    have h2 : 0 < 1000000000 - c % 1000000000 := by omega
    have h3 : 0 ≤ c / 1000000000 % (1000000000 - c % 1000000000) := Int.emod_nonneg _ (by omega)
    have h4 : c / 1000000000 % (1000000000 - c % 1000000000) < 1000000000 - c % 1000000000 := Int.emod_lt_of_pos _ h2
    refine ⟨(c % 1000000000, c % 1000000000 + 1 + c / 1000000000 % (1000000000 - c % 1000000000)), ⟨h0, by show _ < _; omega, by show _ ≤ _; omega⟩, ?_⟩
    simp [m__law_stretch, g__law_stretch, c__law_stretch_1, stD, e_mod h2]
  | false =>
    have hm : 0 ≤ (c * 16807 % 2147483647 + 3) * 48271 % 2147483629 := Int.emod_nonneg _ (by decide)
    generalize hx : (c * 16807 % 2147483647 + 3) * 48271 % 2147483629 = x at hm
    by_cases h0 : x % 8 = 0
    · refine ⟨(1000 + x / 8 % 100000000, 200000000 + x / 16 % 100000000), ⟨by show 0 ≤ 1000 + _; omega, by show _ < _; omega, by show _ ≤ _; omega⟩, ?_⟩
      simp [m__law_stretch, g__law_stretch, c__law_stretch_1, c__law_stretch_2, c__law_stretch_3, hx, h0, stD]
    · by_cases h1 : x % 8 = 1
      · refine ⟨(0, 1 + x / 8 % 10), ⟨by show 0 ≤ 0; omega, by show _ < _; omega, by show _ ≤ _; omega⟩, ?_⟩
        simp [m__law_stretch, g__law_stretch, c__law_stretch_1, c__law_stretch_2, c__law_stretch_3, hx, h1, stD]
      · refine ⟨(x / 8 % 50, x / 8 % 50 + 1 + x / 512 % 9), ⟨by show 0 ≤ x / 8 % 50; omega, by show _ < _; omega, by show _ ≤ _; omega⟩, ?_⟩
        simp [m__law_stretch, g__law_stretch, c__law_stretch_1, c__law_stretch_2, c__law_stretch_3, hx, h0, h1, stD]
theorem comp_st (n : Nat) (b : Bool) : ∀ ns : List Int, ∃ cs : List Stre, cs.length = ns.length ∧ (∀ p ∈ cs, 0 ≤ p.1 ∧ p.1 < p.2 ∧ p.2 ≤ 1000000000) ∧ compD (.nm 0) fYes (fL (m__law_stretch n) (fCons (fVar 0) (fCons (fVar 1) fNil))) [none, some (.bl b)] (ns.map .int) = .ok (cs.map stD)
  | [] => ⟨[], rfl, by simp, rfl⟩
  | c :: ns => by
    obtain ⟨cs, h1, h2, h3⟩ := comp_st n b ns
    obtain ⟨p, h4, h5⟩ := stretch_ok n c b
    refine ⟨p :: cs, by simp [h1], fun q hq => ?_, ?_⟩
    · rcases List.mem_cons.mp hq with e | e
      · subst e; exact h4
      · exact h2 q e
    · rw [List.map_cons, compD]
      simp [h5, h3]
theorem sort2_ints (xs : List Int) : ∃ ss : List Int, sortedD2 [.lst (xs.map .int)] = .ok (.lst (ss.map .int)) ∧ ss.Perm xs ∧ ss.Pairwise (· ≤ ·) := by
  have e : intsD (xs.map .int) = .ok xs := by
    induction xs with
    | nil => rfl
    | cons x xs ih => simp [intsD, asI, ih]
  refine ⟨isort ltZ xs, by simp [sortedD2, sortDs2, e], isort_perm _, ?_⟩
  exact (isort_sorted ordZ xs).imp fun {a b} h => by simp [ltZ] at h; omega
theorem next_mono {cs : List Stre} {t t' u u' : Int} (h : t ≤ t') (a : NextIs cs t u) (b : NextIs cs t' u') : u ≤ u' := by
  rcases Int.lt_or_le u' u with e | e
  · exact absurd (a.2.2 u' (by have := b.1; omega) e) b.2.1
  · exact e
theorem last_mono {cs : List Stre} {t t' l l' : Int} (h : t ≤ t') (a : LastIs cs t l) (b : LastIs cs t' l') : l ≤ l' := by
  rcases Int.lt_or_le l' l with e | e
  · exact absurd (b.2.2 l e (by have := a.1; omega)) a.2.1
  · exact e
theorem times_loop (n : Nat) {cs js ms : List Stre} (hc : Gd cs) (hj : js.length < 64 ∧ ∀ p ∈ js, p.1 < p.2) (hm : Gd ms) (ej : ∀ v, Cov js v ↔ Cov cs v) (em : ∀ v, Cov cs v → Cov ms v) (z0 z1 z5 z6 z7 : Option Dat) :
    ∀ (ts : List Int) (a b : Int) (z9 z10 : Option Dat), ts.Pairwise (· ≤ ·) → (∀ t ∈ ts, 0 ≤ t ∧ t ≤ 3000000000) → (∀ t ∈ ts, ∀ u l, NextIs cs t u → LastIs cs t l → a ≤ u ∧ b ≤ l) →
      ∃ ρ', forD (.nm 9) (b_law_6 n) (ts.map .int) [z0, z1, some (.lst (cs.map stD)), some (.lst (js.map stD)), some (.lst (ms.map stD)), z5, z6, z7, some (.tup [.int a, .int b]), z9, z10] = .ok (.nx ρ')
  | [], a, b, z9, z10, _, _, _ => ⟨_, rfl⟩
  | t :: ts, a, b, z9, z10, hp, ht, hb => by
    obtain ⟨u, e1, N⟩ := next_ok n cs t hc.small hc.lt
    obtain ⟨l, e2, La⟩ := last_ok n cs t hc.small hc.lt
    have ht0 := ht t List.mem_cons_self
    have g := good_ok n ht0.1 ht0.2 hc hj hm ej em
    obtain ⟨b1, b2⟩ := hb t List.mem_cons_self u l N La
    obtain ⟨p1, p2⟩ := List.pairwise_cons.mp hp
    have hl := last_ge hc ht0.1 La
    obtain ⟨ρ', ih⟩ := times_loop n hc hj hm ej em z0 z1 z5 z6 z7 ts u l (some (.int t)) (some (.int l)) p2 (fun x hx => ht x (List.mem_cons_of_mem _ hx)) (fun x hx u' l' N' La' => ⟨next_mono (p1 x hx) N N', last_mono (p1 x hx) La La'⟩)
    refine ⟨ρ', ?_⟩
    have k1 : ¬ u < a := by omega
    have k2 : ¬ l < b := by omega
    have st : b_law_6 n [z0, z1, some (.lst (cs.map stD)), some (.lst (js.map stD)), some (.lst (ms.map stD)), z5, z6, z7, some (.tup [.int a, .int b]), some (.int t), z10] = .ok (.nx [z0, z1, some (.lst (cs.map stD)), some (.lst (js.map stD)), some (.lst (ms.map stD)), z5, z6, z7, some (.tup [.int u, .int l]), some (.int t), some (.int l)]) := by
      by_cases h0 : 0 ≤ l
      · simp [b_law_6, c_law_3, c_law_4, c_law_5, g, e1, e2, h0, k1, k2]
      · have : l = -1 := by omega
        subst this
        simp [b_law_6, c_law_3, c_law_4, c_law_5, g, e1, e2, k1, k2]
    rw [List.map_cons, forD]
    simp [st, ih]
theorem add_ll {xs ys : List Dat} (h : xs.length ≤ 1000) (h2 : ys.length ≤ 1000) : addD (.lst xs) (.lst ys) = .ok (.lst (xs ++ ys)) := by
  show (if xs.length + ys.length ≤ sizeLine then _ else _) = _
  rw [if_pos (by rw [sizeLine_eq]; omega)]
theorem nx_seq {a b : Env' → M Flo} {ρ ρ1 : Env'} (h : a ρ = .ok (.nx ρ1)) : sSeq a b ρ = b ρ1 := by simp [h]
theorem cell_ok (n : Nat) (ns : List Int) (h : ns.length ≤ 63) : ∃ c : Int, m__law_cell_at n [.lst (ns.map .int), .int 20] = .ok (.int c) := by
  by_cases h1 : 20 < ns.length
  · have h2 : (20 : Int) < ns.length := by omega
    refine ⟨ns[20], ?_⟩
    have e := getI_int (is := ns) (k := 20) (by omega) h2
    have e2 : getI (ns.map Dat.int) 20 = .ok (.int ns[20]) := e
    simp [m__law_cell_at, g__law_cell_at, c__law_cell_at_1, h2, e2]
  · have h2 : ¬ (20 : Int) < ns.length := by omega
    exact ⟨0, by simp [m__law_cell_at, g__law_cell_at, c__law_cell_at_1, h2]⟩
theorem more_times (n : Nat) (z0 z1 z2 z3 z4 : Option Dat) : ∀ (cs : List Stre) (ts : List Int) (z6 z7 : Option Dat), (∀ p ∈ cs, 0 ≤ p.1 ∧ p.1 < p.2 ∧ p.2 ≤ 1000000000) → ts.Pairwise (· ≤ ·) → (∀ t ∈ ts, 0 ≤ t ∧ t ≤ 3000000000) → ts.length + 4 * cs.length < 1000 →
    ∃ (ts' : List Int) (y6 y7 : Option Dat), ts'.Pairwise (· ≤ ·) ∧ (∀ t ∈ ts', 0 ≤ t ∧ t ≤ 3000000000) ∧ forD (.tp [6, 7]) (b_law_1 n) (cs.map stD) [z0, z1, z2, z3, z4, some (.lst (ts.map .int)), z6, z7, none, none, none] = .ok (.nx [z0, z1, z2, z3, z4, some (.lst (ts'.map .int)), y6, y7, none, none, none])
  | [], ts, z6, z7, _, h1, h2, _ => ⟨ts, z6, z7, h1, h2, rfl⟩
  | p :: cs, ts, z6, z7, hp, h1, h2, h3 => by
    obtain ⟨ss, e, pm, ps⟩ := sort2_ints (ts ++ [maxZ 0 (p.1 - 1), p.1, p.2 - 1, p.2])
    have hp0 := hp p List.mem_cons_self
    simp only [List.length_cons] at h3
    obtain ⟨ts', y6, y7, a1, a2, a3⟩ := more_times n z0 z1 z2 z3 z4 cs ss (some (.int p.1)) (some (.int p.2)) (fun x hx => hp x (List.mem_cons_of_mem _ hx)) ps (fun t ht => by
      have := pm.mem_iff.mp ht
      rcases List.mem_append.mp this with e | e
      · exact h2 t e
      · simp at e
        rcases e with e | e | e | e
        · subst e; unfold maxZ; split <;> omega
        all_goals omega) (by rw [pm.length_eq, List.length_append]; simp; omega)
    refine ⟨ts', y6, y7, a1, a2, ?_⟩
    have hl : ts.length ≤ 16777212 := by omega
    have st : b_law_1 n [z0, z1, z2, z3, z4, some (.lst (ts.map .int)), some (.int p.1), some (.int p.2), none, none, none] = .ok (.nx [z0, z1, z2, z3, z4, some (.lst (ss.map .int)), some (.int p.1), some (.int p.2), none, none, none]) := by
      rw [List.map_append] at e
      simp at e
      have ea := add_ll (xs := ts.map Dat.int) (ys := [.int (maxZ 0 (p.1 - 1)), .int p.1, .int (p.2 - 1), .int p.2]) (by simp; omega) (by simp)
      simp [b_law_1, ea, e]
    rw [List.map_cons, forD]
    have hb : bindP (.tp [6, 7]) (stD p) [z0, z1, z2, z3, z4, some (.lst (ts.map .int)), z6, z7, none, none, none] = .ok [z0, z1, z2, z3, z4, some (.lst (ts.map .int)), some (.int p.1), some (.int p.2), none, none, none] := by simp [stD]
    rw [hb, bind_ok, st]
    exact a3
theorem cut_map {α β : Type} (f : α → β) (xs : List α) (lo hi : Option Int) : cutL (xs.map f) lo hi = (cutL xs lo hi).map f := by unfold cutL; simp
theorem cut_len {α : Type} (xs : List α) (lo hi : Option Int) : (cutL xs lo hi).length ≤ xs.length := by unfold cutL; simp; omega
theorem cut_19 (xs : List Int) : (cutL xs (some 1) (some 20)).length ≤ 19 := by unfold cutL cX; simp; omega
theorem comp_mod (k : Int) (h : 0 < k) (hk : k < 2 ^ 63) (g : Env' → M Dat) (hg : ∀ ρ, g ρ = .ok (.int k)) : ∀ ns : List Int, compD (.nm 0) fYes (f2 modD (fVar 0) g) [none] (ns.map .int) = .ok ((ns.map (· % k)).map .int)
  | [] => rfl
  | x :: ns => by
    rw [List.map_cons, compD]
    simp [comp_mod k h hk g hg ns, hg, e_mod h]
theorem comp_t : ∀ ns : List Int, ∃ ts : List Int, ts.length = ns.length ∧ (∀ t ∈ ts, 0 ≤ t ∧ t ≤ 3000000000) ∧ compD (.nm 0) fYes (f2 modD (fVar 0) (f2 ixD (fL mkLst (fCons (fC (.int 91)) (fCons (f2 mulD (fC (.int 5)) (f2 powD (fC (.int 10)) (fC (.int 8)))) fNil))) (f2 modD (f2 fdivD (fVar 0) (fC (.int 91))) (fC (.int 2))))) [none] (ns.map .int) = .ok (ts.map .int)
  | [] => ⟨[], rfl, by simp, rfl⟩
  | x :: ns => by
    obtain ⟨ts, h1, h2, h3⟩ := comp_t ns
    rcases (show x / 91 % 2 = 0 ∨ x / 91 % 2 = 1 by omega) with e | e
    · refine ⟨x % 91 :: ts, by simp [h1], fun t ht => ?_, ?_⟩
      · rcases List.mem_cons.mp ht with q | q
        · subst q; omega
        · exact h2 t q
      · rw [List.map_cons, compD]
        simp [h3, e]
    · refine ⟨x % 500000000 :: ts, by simp [h1], fun t ht => ?_, ?_⟩
      · rcases List.mem_cons.mp ht with q | q
        · subst q; omega
        · exact h2 t q
      · rw [List.map_cons, compD]
        simp [h3, e]
theorem law_true : ∀ ns : List Int, ns.length ≤ 63 → ∃ n, m_law n [.lst (ns.map .int)] = .ok (.bl true) := by
  intro ns hns
  refine ⟨64, ?_⟩
  obtain ⟨b, eb⟩ : ∃ b : Bool, fAndV (f2 gtD (fL lenD (fCons (fVar 0) fNil)) (fC (.int 24))) (f2 eqM (f2 modD (f2 ixD (fVar 0) (fC (.int 0))) (fC (.int 2))) (fC (.int 0))) [some (.lst (ns.map .int)), none, none, none, none, none, none, none, none, none, none] = .ok (.bl b) := by
    by_cases h1 : 24 < ns.length
    · have h2 : (24 : Int) < ns.length := by omega
      have e := getI_int (is := ns) (k := 0) (by omega) (by omega)
      have e2 : getI (ns.map Dat.int) 0 = .ok (.int ns[0]) := e
      exact ⟨decide (ns[0] % 2 = 0), by simp [h2, e2]⟩
    · have h2 : ¬ (24 : Int) < ns.length := by omega
      exact ⟨false, by simp [h2]⟩
  obtain ⟨cs, hc1, hc2, hc3⟩ := comp_st 64 b (cutL ns (some 1) (some 20))
  have l19 := cut_19 ns
  have hc : Gd cs := ⟨by omega, hc2⟩
  obtain ⟨js, ej, hj, hcv, hjl⟩ := joined_ok 64 cs hc.small hc.lt
  obtain ⟨c, ec⟩ := cell_ok 64 ns hns
  obtain ⟨p, hp, ep⟩ := stretch_ok 64 (c + 3 * b2z (!b)) b
  have hm : Gd (cs ++ [p]) := ⟨by simp; omega, fun q hq => by
    rcases List.mem_append.mp hq with e | e
    · exact hc2 q e
    · rw [List.mem_singleton.mp e]; exact hp⟩
  have em : ∀ v, Cov cs v → Cov (cs ++ [p]) v := fun v h => cov_append.mpr (.inl h)
  obtain ⟨ts, ht1, ht2, ht3⟩ := comp_t ns
  have h63 : (ns.map Dat.int).take 63 = ns.map .int := by rw [List.take_of_length_le (by simpa using hns)]
  obtain ⟨ss, es, pm, ps⟩ := sort2_ints ts
  have hss : ∀ t ∈ ss, 0 ≤ t ∧ t ≤ 3000000000 := fun t h => ht2 t (pm.mem_iff.mp h)
  have hl1 : (cutL ns (some 1) (some 20)).length ≤ 16777216 := by omega
  have hl2 : ns.length ≤ 16777216 := by omega
  have hl3 : (cutL ns (some 21) (some 63)).length ≤ 16777216 := by have := cut_len ns (some 21) (some 63); omega
  have hl4 : cs.length ≤ 16777215 := by omega
  have fin : ∀ (ts : List Int) (z6 z7 : Option Dat), ts.Pairwise (· ≤ ·) → (∀ t ∈ ts, 0 ≤ t ∧ t ≤ 3000000000) → ∃ ρ', forD (.nm 9) (b_law_6 64) (ts.map .int) [some (.lst (ns.map .int)), some (.bl b), some (.lst (cs.map stD)), some (.lst (js.map stD)), some (.lst ((cs ++ [p]).map stD)), some (.lst (ts.map .int)), z6, z7, some (.tup [.int 0, .int (-1)]), none, none] = .ok (.nx ρ') := fun ts z6 z7 h1 h2 =>
    times_loop 64 hc ⟨by omega, hj.2⟩ hm hcv em _ _ _ z6 z7 ts 0 (-1) none none h1 h2 (fun t ht u l N La => ⟨by have := N.1; have := h2 t ht; omega, last_ge hc (h2 t ht).1 La⟩)
  have s1 : sSetB [] 1 (fAndV (f2 gtD (fL lenD (fCons (fVar 0) fNil)) (fC (.int 24))) (f2 eqM (f2 modD (f2 ixD (fVar 0) (fC (.int 0))) (fC (.int 2))) (fC (.int 0)))) [some (.lst (ns.map .int)), none, none, none, none, none, none, none, none, none, none] = .ok (.nx [some (.lst (ns.map .int)), some (.bl b), none, none, none, none, none, none, none, none, none]) := by
    show (fAndV _ _ _).bind _ = _
    rw [show erase [] [some (Dat.lst (ns.map .int)), none, none, none, none, none, none, none, none, none, none] = [some (Dat.lst (ns.map .int)), none, none, none, none, none, none, none, none, none, none] from rfl, eb]
    rfl
  have ht4 : ∃ (ts2 : List Int) (z6 z7 : Option Dat), ts2.Pairwise (· ≤ ·) ∧ (∀ t ∈ ts2, 0 ≤ t ∧ t ≤ 3000000000) ∧ c_law_2 64 [some (.lst (ns.map .int)), some (.bl b), some (.lst (cs.map stD)), some (.lst (js.map stD)), some (.lst ((cs ++ [p]).map stD)), some (.lst (ss.map .int)), none, none, none, none, none] = .ok (.nx [some (.lst (ns.map .int)), some (.bl b), some (.lst (cs.map stD)), some (.lst (js.map stD)), some (.lst ((cs ++ [p]).map stD)), some (.lst (ts2.map .int)), z6, z7, none, none, none]) := by
    cases b with
    | false => exact ⟨ss, none, none, ps, hss, by simp [c_law_2]⟩
    | true =>
      obtain ⟨s2, e2, pm2, ps2⟩ := sort2_ints ((cutL ns (some 21) (some 63)).map (· % 2000000000))
      have hs2 : ∀ t ∈ s2, 0 ≤ t ∧ t ≤ 3000000000 := fun t h => by
        obtain ⟨x, _, rfl⟩ := List.mem_map.mp (pm2.mem_iff.mp h)
        show 0 ≤ x % 2000000000 ∧ x % 2000000000 ≤ 3000000000
        omega
      have l21 := cut_len ns (some 21) (some 63)
      have l6 : (cs.take 6).length ≤ cs.length := by simp; omega
      obtain ⟨ts', y6, y7, a1, a2, a3⟩ := more_times 64 (some (.lst (ns.map .int))) (some (.bl true)) (some (.lst (cs.map stD))) (some (.lst (js.map stD))) (some (.lst ((cs ++ [p]).map stD))) (cs.take 6) s2 none none (fun x hx => hc2 x (List.mem_of_mem_take hx)) ps2 hs2 (by rw [pm2.length_eq, List.length_map]; omega)
      refine ⟨ts', y6, y7, a1, a2, ?_⟩
      have ec := comp_mod 2000000000 (by decide) (by decide) (f2 mulD (fC (.int 2)) (f2 powD (fC (.int 10)) (fC (.int 9)))) (fun ρ => by simp) (cutL ns (some 21) (some 63))
      simp only [List.map_append, List.map_cons, List.map_nil, List.map_take] at a3 ⊢
      simp [c_law_2, cut_map, hl3, ec, e2, a3, -List.map_map]
  obtain ⟨ts2, z6, z7, q1, q2, q3⟩ := ht4
  obtain ⟨ρ', ef⟩ := fin ts2 z6 z7 q1 q2
  have s2 : sSetB [] 2 (fComp (fIt (fSl sliceD (fVar 0) (pSome (fC (.int 1))) (pSome (fC (.int 20))))) [none, some 1] (.nm 0) fYes (fL (m__law_stretch 64) (fCons (fVar 0) (fCons (fVar 1) fNil)))) [some (.lst (ns.map .int)), some (.bl b), none, none, none, none, none, none, none, none, none] = .ok (.nx [some (.lst (ns.map .int)), some (.bl b), some (.lst (cs.map stD)), none, none, none, none, none, none, none, none]) := by
    simp [cut_map, hl1, hc3]
  have s3 : sSetB [] 3 (fL (m_joined_stretches 64) (fCons (fL listD (fCons (fVar 2) fNil)) fNil)) [some (.lst (ns.map .int)), some (.bl b), some (.lst (cs.map stD)), none, none, none, none, none, none, none, none] = .ok (.nx [some (.lst (ns.map .int)), some (.bl b), some (.lst (cs.map stD)), some (.lst (js.map stD)), none, none, none, none, none, none, none]) := by
    simp [ej]
  have s4 : sSetB [] 4 (f2 addD (fVar 2) (fL mkLst (fCons (fL (m__law_stretch 64) (fCons (f2 addD (fL (m__law_cell_at 64) (fCons (fVar 0) (fCons (fC (.int 20)) fNil))) (f2 mulD (fC (.int 3)) (fL intD (fCons (f1 notD (fVar 1)) fNil)))) (fCons (fVar 1) fNil))) fNil))) [some (.lst (ns.map .int)), some (.bl b), some (.lst (cs.map stD)), some (.lst (js.map stD)), none, none, none, none, none, none, none] = .ok (.nx [some (.lst (ns.map .int)), some (.bl b), some (.lst (cs.map stD)), some (.lst (js.map stD)), some (.lst ((cs ++ [p]).map stD)), none, none, none, none, none, none]) := by
    have ea := add_ll (xs := cs.map stD) (ys := [stD p]) (by simp; omega) (by simp)
    cases b with
    | false =>
      have ep' : m__law_stretch 64 [Dat.int (c + 3 * b2z true), Dat.bl false] = .ok (stD p) := ep
      simp [ec, ep', ea]
    | true =>
      have ep' : m__law_stretch 64 [Dat.int (c + 3 * b2z false), Dat.bl true] = .ok (stD p) := ep
      simp [ec, ep', ea]
  have s5 : sSetB [] 5 (fL sortedD2 (fCons (fComp (fIt (fSl sliceD (fVar 0) pNone (pSome (fC (.int 63))))) [none] (.nm 0) fYes (f2 modD (fVar 0) (f2 ixD (fL mkLst (fCons (fC (.int 91)) (fCons (f2 mulD (fC (.int 5)) (f2 powD (fC (.int 10)) (fC (.int 8)))) fNil))) (f2 modD (f2 fdivD (fVar 0) (fC (.int 91))) (fC (.int 2)))))) fNil)) [some (.lst (ns.map .int)), some (.bl b), some (.lst (cs.map stD)), some (.lst (js.map stD)), some (.lst ((cs ++ [p]).map stD)), none, none, none, none, none, none] = .ok (.nx [some (.lst (ns.map .int)), some (.bl b), some (.lst (cs.map stD)), some (.lst (js.map stD)), some (.lst ((cs ++ [p]).map stD)), some (.lst (ss.map .int)), none, none, none, none, none]) := by
    simp [h63, hl2, ht3, es]
  have s6 : sSetB [] 8 (fL mkTup (fCons (fC (.int 0)) (fCons (f1 negD (fC (.int 1))) fNil))) [some (.lst (ns.map .int)), some (.bl b), some (.lst (cs.map stD)), some (.lst (js.map stD)), some (.lst ((cs ++ [p]).map stD)), some (.lst (ts2.map .int)), z6, z7, none, none, none] = .ok (.nx [some (.lst (ns.map .int)), some (.bl b), some (.lst (cs.map stD)), some (.lst (js.map stD)), some (.lst ((cs ++ [p]).map stD)), some (.lst (ts2.map .int)), z6, z7, some (.tup [.int 0, .int (-1)]), none, none]) := by
    simp
  have g : g_law 64 [some (.lst (ns.map .int)), none, none, none, none, none, none, none, none, none, none] = .ok (.rt (.bl true)) := by
    unfold g_law
    rw [nx_seq s1, nx_seq s2, nx_seq s3, nx_seq s4, nx_seq s5, nx_seq q3, nx_seq s6]
    have s7 : sFor [] (fIt (fVar 5)) (.nm 9) (b_law_6 64) [some (.lst (ns.map .int)), some (.bl b), some (.lst (cs.map stD)), some (.lst (js.map stD)), some (.lst ((cs ++ [p]).map stD)), some (.lst (ts2.map .int)), z6, z7, some (.tup [.int 0, .int (-1)]), none, none] = .ok (.nx ρ') := by
      rw [e_for]
      exact ef
    rw [nx_seq s7]
    rfl
  simp [m_law, g]
theorem fin_mk {P : Program} {w : World} {K : PySem.W.Frag} {mg : Str → Option Value} {st : Stmt} {ps : List Str} {f : Addr} {fd : FuncData} {k : Nat} (_ : Def K mg "law" st ps f fd) (hb : ∀ (s : Shared) (v : Value), BindsTo s fd ⟨[v], []⟩ [("_law_script", v)]) (h : ∀ base : Heap, FnOk P w K mg base CX0 k f fd ["_law_script"] (spLaw K)) : ∃ fd : FuncData, (∀ (s : Shared) (v : Value), BindsTo s fd ⟨[v], []⟩ [("_law_script", v)]) ∧ ∀ base : Heap, K.In base → base.Ns mainGlobals mg → FnOk P w K mg base CX0 k f fd ["_law_script"] (spLaw K) := ⟨fd, hb, fun base _ _ => h base⟩
theorem all_mk {l : PySem.W.OpenLaw} {w : World} {K : PySem.W.Frag} {h : Heap} {mg : Str → Option Value} {fa f_law : Addr} {od_law an_law : Option Addr} {sl_law : Array (Option Value)} {oc_law kV_law dc_law pm_law cd_law ct_law : Value} (KX : K.In h) (G : h.Ns mainGlobals mg) (hfa : mg "law" = some (.ref fa))
    (h_joined_stretches : ∃ f fd, Def K mg "joined_stretches" s_joined_stretches ["closed"] f fd)
    (h__law_stretch : ∃ f fd, Def K mg "_law_stretch" s__law_stretch ["_law_cell", "_law_by_digits"] f fd)
    (h_last_open : ∃ f fd, Def K mg "last_open" s_last_open ["closed", "time"] f fd)
    (h_next_open : ∃ f fd, Def K mg "next_open" s_next_open ["closed", "time"] f fd)
    (h_is_open : ∃ f fd, Def K mg "is_open" s_is_open ["closed", "time"] f fd)
    (h__law_between_shut : ∃ f fd, Def K mg "_law_between_shut" s__law_between_shut ["_law_closed", "_law_last", "_law_further"] f fd)
    (h__law_one_good : ∃ f fd, Def K mg "_law_one_good" s__law_one_good ["_law_closed", "_law_joined", "_law_more", "_law_time"] f fd)
    (h__law_cell_at : ∃ f fd, Def K mg "_law_cell_at" s__law_cell_at ["_law_script", "_law_k"] f fd)
    (a_law : PySem.W.nsIn K mainGlobals "law" = some (some (.ref f_law)))
    (l_law : K.lookup f_law = some ⟨oc_law, od_law, .func (PySem.W.fnOf "law" "law" (defArgs s_law) (defBody s_law) (defScope s_law) .none kV_law dc_law pm_law an_law cd_law ct_law), sl_law⟩)
    (d_law : PySem.W.codeIn K cd_law "law" = true)
    (k_law : PySem.W.keepIn K (.ref f_law) = true)
    (z_any : PySem.W.nsIn K mainGlobals "any" = some none)
    (z_int : PySem.W.nsIn K mainGlobals "int" = some none)
    (z_len : PySem.W.nsIn K mainGlobals "len" = some none)
    (z_list : PySem.W.nsIn K mainGlobals "list" = some none)
    (z_max : PySem.W.nsIn K mainGlobals "max" = some none)
    (z_range : PySem.W.nsIn K mainGlobals "range" = some none)
    (z_sorted : PySem.W.nsIn K mainGlobals "sorted" = some none) :
    ∃ fd : FuncData, (∀ (s : Shared) (v : Value), BindsTo s fd ⟨[v], []⟩ [("_law_script", v)]) ∧ ∀ base : Heap, K.In base → base.Ns mainGlobals mg → FnOk l.prog w K mg base CX0 4 fa fd ["_law_script"] (spLaw K) := by
  have e := hfa.symm.trans (PySem.W.mg_of KX G a_law)
  cases e
  obtain ⟨f_joined_stretches, fd_joined_stretches, D_joined_stretches⟩ := h_joined_stretches
  obtain ⟨f__law_stretch, fd__law_stretch, D__law_stretch⟩ := h__law_stretch
  obtain ⟨f_last_open, fd_last_open, D_last_open⟩ := h_last_open
  obtain ⟨f_next_open, fd_next_open, D_next_open⟩ := h_next_open
  obtain ⟨f_is_open, fd_is_open, D_is_open⟩ := h_is_open
  obtain ⟨f__law_between_shut, fd__law_between_shut, D__law_between_shut⟩ := h__law_between_shut
  obtain ⟨f__law_one_good, fd__law_one_good, D__law_one_good⟩ := h__law_one_good
  obtain ⟨f__law_cell_at, fd__law_cell_at, D__law_cell_at⟩ := h__law_cell_at
  have D_law := def_of (mg := mg) (st := s_law) (ps := ["_law_script"]) KX G a_law l_law d_law k_law fun _ _ _ _ _ _ us hl => match us, hl with | [_], _ => rfl
  have Z : Zs K mg := ⟨PySem.W.mg_none_of KX G z_any, PySem.W.mg_none_of KX G z_int, PySem.W.mg_none_of KX G z_len, PySem.W.mg_none_of KX G z_list, PySem.W.mg_none_of KX G z_max, PySem.W.mg_none_of KX G z_range, PySem.W.mg_none_of KX G z_sorted⟩
  refine fin_mk D_law (fun s v => .of_eq rfl) fun base => law_ok (ro := false) (mlaw := m_law) (fun n => ?_) (law_true)
  have OK_joined_stretches := ok_joined_stretches (n := n) (P := l.prog) (w := w) (base := base) Z  D_joined_stretches
  have OK__law_stretch := ok__law_stretch (n := n) (P := l.prog) (w := w) (base := base) Z  D__law_stretch
  have OK_last_open := ok_last_open (n := n) (P := l.prog) (w := w) (base := base) Z ⟨D_joined_stretches, OK_joined_stretches⟩ D_last_open
  have OK_next_open := ok_next_open (n := n) (P := l.prog) (w := w) (base := base) Z ⟨D_joined_stretches, OK_joined_stretches⟩ D_next_open
  have OK_is_open := ok_is_open (n := n) (P := l.prog) (w := w) (base := base) Z  D_is_open
  have OK__law_between_shut := ok__law_between_shut (n := n) (P := l.prog) (w := w) (base := base) Z ⟨D_is_open, OK_is_open⟩ D__law_between_shut
  have OK__law_one_good := ok__law_one_good (n := n) (P := l.prog) (w := w) (base := base) Z ⟨D_next_open, OK_next_open⟩ ⟨D_last_open, OK_last_open⟩ ⟨D_is_open, OK_is_open⟩ ⟨D__law_between_shut, OK__law_between_shut⟩ D__law_one_good
  have OK__law_cell_at := ok__law_cell_at (n := n) (P := l.prog) (w := w) (base := base) Z  D__law_cell_at
  have OK_law := ok_law (n := n) (P := l.prog) (w := w) (base := base) Z ⟨D_joined_stretches, OK_joined_stretches⟩ ⟨D__law_stretch, OK__law_stretch⟩ ⟨D_last_open, OK_last_open⟩ ⟨D__law_one_good, OK__law_one_good⟩ ⟨D_next_open, OK_next_open⟩ ⟨D__law_cell_at, OK__law_cell_at⟩ D_law
  exact OK_law
theorem walk {l : PySem.W.OpenLaw} {q : Program} {loose : List Str} {XP : (Str → Option Value) → Heap → Prop} {YP : World → Heap → Prop} {d : DefRec} {K : Params → PySem.W.Frag} (hn : l.most = some 63) (hdf : d.params.defaults = [])
    (hY : ∀ (w : World) (h : Heap), YP w h → (K w.params).In h)
    (F : ∀ (w : World) (mg : Str → Option Value) (fa : Addr) (h : Heap), (K w.params).In h → h.Ns mainGlobals mg → mg d.name = some (.ref fa) →
      ∃ fd : FuncData, (∀ (s : Shared) (u : Value), BindsTo s fd ⟨[u], []⟩ [("_law_script", u)]) ∧ ∀ base : Heap, (K w.params).In base → base.Ns mainGlobals mg → FnOk l.prog w (K w.params) mg base CX0 4 fa fd ["_law_script"] (spLaw (K w.params))) :
    PySem.W.WalkO q loose XP YP l.row.toRowW d [] (fun f vs => PySem.call f vs) :=
  L2.walk_of (n := 63) (k := 4) (x := "_law_script") (CX := fun _ => CX0) (sp := fun w => spLaw (K w.params)) hn (by decide) hdf ⟨rfl, by decide, by decide⟩ hY F (fun _ _ a ns hl _ hS => ⟨a, ns, rfl, hS, hl, fun _ => rfl⟩) fun _ _ _ _ _ z => z
end Ru
open PySem PySem.W PyProof.Rows
noncomputable def _root_.PySem.W.Fast.tw2657682119702063895 : Nat := 0
noncomputable def _root_.PySem.W.Fast.tw13702358505235143366 : Nat := 0
noncomputable def _root_.PySem.W.Fast.tw9141511141594717294 : Nat := 0
noncomputable def _root_.PySem.W.Fast.tw14351103508092981419 : Nat := 0
noncomputable def _root_.PySem.W.Fast.tw17934063118393303030 : Nat := 0
noncomputable def _root_.PySem.W.Fast.tw3847086260167765984 : Nat := 0
noncomputable def _root_.PySem.W.Fast.tw10348110036003423708 : Nat := 0
noncomputable def _root_.PySem.W.Fast.tw9768266791737596350 : Nat := 0
noncomputable def _root_.PySem.W.Fast.tw17501086820825578279 : Nat := 0
noncomputable def _root_.PySem.W.Fast.tw17879142602718108279 : Nat := 0
noncomputable def _root_.PySem.W.Fast.tw15071838249879172618 : Nat := 0
noncomputable def _root_.PySem.W.Fast.tw2386349176332612422 : Nat := 0
noncomputable def _root_.PySem.W.Fast.tw14144001021828259871 : Nat := 0
noncomputable def _root_.PySem.W.Fast.tw12548084037039380048 : Nat := 0
noncomputable def _root_.PySem.W.Fast.tw10541994544071179745 : Nat := 0
noncomputable def _root_.PySem.W.Fast.tw5959023871530185130 : Nat := 0
noncomputable def _root_.PySem.W.Fast.tw3856894159332465873 : Nat := 0
noncomputable def _root_.PySem.W.Fast.tw2866730290886564931 : Nat := 0
noncomputable def _root_.PySem.W.Fast.tw14687514119451331930 : Nat := 0
set_option maxRecDepth 100000 in
set_option maxHeartbeats 0 in
theorem PySem.Challenge.cw_wakeorder_k13_whole_openings_holds : PySem.Challenge.rw_wakeorder_k13_whole_openings.Holds := by
  w_on; o_law; k_head; (case hw => w_witness2)
  k_fill
  refine Ru.walk (l := PySem.Challenge.rw_wakeorder_k13_whole_openings) rfl rfl (fun w h Y => PySem.W.kIn_of Y) ?F
  case F =>
    intro w mg fa h KX G hmg
    refine' Ru.all_mk KX G hmg ?h_joined_stretches ?h__law_stretch ?h_last_open ?h_next_open ?h_is_open ?h__law_between_shut ?h__law_one_good ?h__law_cell_at ?a_law ?l_law ?d_law ?k_law ?z_any ?z_int ?z_len ?z_list ?z_max ?z_range ?z_sorted
    (case h_joined_stretches => exact ⟨_, _, L2.def_of KX G (by k_is) (by k_is) (by k_is) (by k_is) fun _ _ _ _ _ _ us hl => match us, hl with | [_], _ => rfl⟩)
    (case h__law_stretch => exact ⟨_, _, L2.def_of KX G (by k_is) (by k_is) (by k_is) (by k_is) fun _ _ _ _ _ _ us hl => match us, hl with | [_, _], _ => rfl⟩)
    (case h_last_open => exact ⟨_, _, L2.def_of KX G (by k_is) (by k_is) (by k_is) (by k_is) fun _ _ _ _ _ _ us hl => match us, hl with | [_, _], _ => rfl⟩)
    (case h_next_open => exact ⟨_, _, L2.def_of KX G (by k_is) (by k_is) (by k_is) (by k_is) fun _ _ _ _ _ _ us hl => match us, hl with | [_, _], _ => rfl⟩)
    (case h_is_open => exact ⟨_, _, L2.def_of KX G (by k_is) (by k_is) (by k_is) (by k_is) fun _ _ _ _ _ _ us hl => match us, hl with | [_, _], _ => rfl⟩)
    (case h__law_between_shut => exact ⟨_, _, L2.def_of KX G (by k_is) (by k_is) (by k_is) (by k_is) fun _ _ _ _ _ _ us hl => match us, hl with | [_, _, _], _ => rfl⟩)
    (case h__law_one_good => exact ⟨_, _, L2.def_of KX G (by k_is) (by k_is) (by k_is) (by k_is) fun _ _ _ _ _ _ us hl => match us, hl with | [_, _, _, _], _ => rfl⟩)
    (case h__law_cell_at => exact ⟨_, _, L2.def_of KX G (by k_is) (by k_is) (by k_is) (by k_is) fun _ _ _ _ _ _ us hl => match us, hl with | [_, _], _ => rfl⟩)
    (case a_law => k_is)
    (case l_law => k_is)
    (case d_law => k_is)
    (case k_law => k_is)
    (case z_any => k_is)
    (case z_int => k_is)
    (case z_len => k_is)
    (case z_list => k_is)
    (case z_max => k_is)
    (case z_range => k_is)
    (case z_sorted => k_is)
