import PyProof.Rows.All
import PyProof.FactsAll.list_1
import PyProof.FitsReplace
import PyProof.FactsAll.str_5
import PyProof.FString
import PyProof.StrLawsJoin
import PyProof.MeetsStr
import KE.KDictSum
import PyProof.Rows.RuleC_int
import PyProof.FactsAll.tuple_1
import KE.KEqDict
import PyProof.Rows.TupTab
import PyProof.AttrMissSeq
import KE.KDictOf
import KE.KPairComp
import PyProof.DictWalks
import PyProof.DictValues
import PyProof.DictItems
import PyProof.Rows.SetFrom
import KE.KRevIter
import PyProof.InstStoreFacts
import PyProof.ExcInit
import PyProof.IsiBase
import PyProof.ExcAttrAll.ValueError
import OpenK.KDescr
import KE.KIsAll
import PyProof.Rows.CatchOwn
import PyProof.RulesTry
import PyProof.RulesAs
import PyProof.RulesDel
import OpenK.KOwn
import PyProof.ExcBaseAll.ValueError
import PyProof.StationsW
import Wide.All
import OpenK.AllK
import Wide.FinOn
import Lean
import PyProof.EqAt
import PyProof.EqKinds
import PyProof.NeKinds
import PyProof.TupleCall
import PySem.Challenge.RW_wakeorder_k44_orders_told
set_option Elab.async false
set_option linter.all false
set_option maxRecDepth 100000
open PySem.W (lookIn specialIn keepIn kitOne kia_one fnOf codeIn nsIn mg_of kitAny mg_none_of)
namespace L2
open PySem PySem.Spec PyProof.Rows
noncomputable abbrev Key:=Sum Int Str
noncomputable def keyIs:Key->Value->Bool
 |.inl k,v=>Value.isInt k v
 |.inr x,v=>Value.isStrOf x v
noncomputable def keyH (w:World):Key->Int
 |.inl k=>hashInt k
 |.inr x=>hashStr w x
theorem bA:∀{k:Key} {v:Value},keyIs k v=true->(∃i t,k=Sum.inl i/\v=Value.int i t)\/(∃x t,k=Sum.inr x/\v=Value.str x t)
 |.inl i,v,h=>by
  obtain ⟨t,e⟩:=Value.isInt_shape (k:=i) (v:=v) h
  exact .inl ⟨i,t,rfl,e⟩
 |.inr x,v,h=>by
  obtain ⟨t,e⟩:=Value.isStrOf_shape (x:=x) (v:=v) h
  exact .inr ⟨x,t,rfl,e⟩
theorem key_ll (a b:Int):decide ((Sum.inl a:Key)=Sum.inl b)=(a==b):=by
 by_cases e:a=b
 ·subst e;simp
 ·have h:¬(Sum.inl a:Key)=Sum.inl b:=fun q=>e (Sum.inl.inj q)
  rw [decide_eq_false h]
  exact (beq_eq_false_iff_ne.mpr e).symm
theorem key_rr (a b:Str):decide ((Sum.inr a:Key)=Sum.inr b)=decide (a=b):=by
 by_cases e:a=b
 ·subst e;simp
 ·have h:¬(Sum.inr a:Key)=Sum.inr b:=fun q=>e (Sum.inr.inj q)
  rw [decide_eq_false h,decide_eq_false e]
theorem key_lr (a:Int) (b:Str):decide ((Sum.inl a:Key)=Sum.inr b)=false:=decide_eq_false (fun q=>nomatch q)
theorem key_rl (a:Str) (b:Int):decide ((Sum.inr a:Key)=Sum.inl b)=false:=decide_eq_false (fun q=>nomatch q)
noncomputable def pG (prog:Program) (w:World):PySem.KeyKind prog w Key where
 is:=keyIs
 hash:=keyH w
 inj:=fun v a b ha hb=>by
  rcases bA ha with ⟨i,t,rfl,rfl⟩|⟨x,t,rfl,rfl⟩
  ·rcases bA hb with ⟨j,u,rfl,e⟩|⟨y,u,rfl,e⟩
   ·injection e with e1 _;rw [e1]
   ·exact nomatch e
  ·rcases bA hb with ⟨j,u,rfl,e⟩|⟨y,u,rfl,e⟩
   ·exact nomatch e
   ·injection e with e1 _;rw [e1]
 byValue:=fun k v h=>by
  rcases bA h with ⟨i,t,rfl,rfl⟩|⟨x,t,rfl,rfl⟩<;>rfl
 pyHash:=fun hv h=>by
  rcases bA hv with ⟨i,t,rfl,rfl⟩|⟨x,t,rfl,rfl⟩
  ·exact wpAny_pyHash_int h
  ·exact wpAny_pyHash_str h
 eqBool:=fun hu hv h=>by
  rcases bA hu with ⟨i,t,rfl,rfl⟩|⟨x,t,rfl,rfl⟩
  ·rcases bA hv with ⟨j,u,rfl,rfl⟩|⟨y,u,rfl,rfl⟩
   ·rw [key_ll] at h;exact wpAny_eqBool_int h
   ·rw [key_lr] at h;exact SeqAt.EqAt.int_str i t y u _ _ _ _ h
  ·rcases bA hv with ⟨j,u,rfl,rfl⟩|⟨y,u,rfl,rfl⟩
   ·rw [key_rl] at h;exact SeqAt.EqAt.str_int x t j u _ _ _ _ h
   ·rw [key_rr] at h;exact wpAny_eqBool_str h
 «strs»:=fun k x t v h=>by
  rcases bA h with ⟨i,u,rfl,e⟩|⟨y,u,rfl,e⟩
  ·exact nomatch e
  ·injection e with e1 _
   subst e1
   cases v<;>rfl
end L2
namespace L2
open PySem PySem.Spec PyProof.Rows
inductive V where
 |non|bl (b:Bool)|int (i:Int)|str (x:Str)|byt (b:Array UInt8)|flt (b:UInt64)|ref (a:Addr)|ty (n:String)
 deriving DecidableEq
noncomputable def RelV:V->Value->Prop
 |.non,u=>u=Value.none
 |.bl b,u=>u=Value.bool b
 |.int i,u=>∃t,u=Value.int i t
 |.str x,u=>∃t,u=Value.str x t
 |.byt b,u=>∃t,u=Value.bytes b t
 |.flt b,u=>∃t,u=Value.float b t
 |.ref a,u=>u=Value.ref a
 |.ty n,u=>u=Value.type n
noncomputable abbrev Vals:List V->List Value->Prop:=Paired RelV
theorem Vals.length {xs:List V} {us:List Value} (r:Vals xs us):xs.length=us.length:=Paired.length r
theorem Vals.get:∀{xs:List V} {us:List Value} {i:Nat} {x:V},Vals xs us->xs[i]? =some x->∃u,us[i]? =some u/\RelV x u
 |_,_,_,_,.nil,e=>by simp at e
 |_,_,0,_,.cons r _,e=>by simp at e;subst e;exact ⟨_,rfl,r⟩
 |_,_,i+1,x,.cons _ t,e=>by
  obtain ⟨u,h1,h2⟩:=Vals.get (i:=i) (x:=x) t (by simpa using e)
  exact ⟨u,by simpa using h1,h2⟩
theorem Vals.append:∀{xs ys:List V} {us ws:List Value},Vals xs us->Vals ys ws->Vals (xs++ys) (us++ws)
 |_,_,_,_,.nil,s=>s
 |_,_,_,_,.cons r t,s=>.cons r (Vals.append t s)
theorem Vals.take:∀{xs:List V} {us:List Value} (n:Nat),Vals xs us->Vals (xs.take n) (us.take n)
 |_,_,0,_=>.nil
 |_,_,_+1,.nil=>.nil
 |_,_,n+1,.cons r t=>.cons r (Vals.take n t)
theorem Vals.drop:∀{xs:List V} {us:List Value} (n:Nat),Vals xs us->Vals (xs.drop n) (us.drop n)
 |_,_,0,r=>r
 |_,_,_+1,.nil=>.nil
 |_,_,n+1,.cons _ t=>Vals.drop n t
noncomputable def vR:Option V->Option Value->Prop
 |some v,some u=>RelV v u
 |none,none=>True
 |_,_=>False
noncomputable def KV {κ:Type}:List (κ×V)->List (κ×Value)->Prop:=Paired fun (p:κ×V) (q:κ×Value)=>p.1=q.1/\RelV p.2 q.2
noncomputable def kV:Key->V
 |.inl i=>.int i
 |.inr x=>.str x
inductive HO where
  |lst (xs:List V)
  |tup (xs:List V)
  |dK (kvs:List (Key×V))|dT (kvs:List (List Key×V))
  |set (S:Int->Bool) (n:Nat)
  |ins (C dx:Addr) (fs:List (Str×V))
  |own (x:Addr)
  |xd (fs:List (Str×V))
  |met (f x:Addr)
  |rng (lo hi:Int)
  |frz (o:Obj) (u:HO)
  |tbl (ps:Array Value)
  |ext (φ:Heap->Prop)
noncomputable abbrev Hp:=Addr->Option HO
noncomputable def upd (H:Hp) (a:Addr) (o:HO):Hp:=fun b=>if b=a then some o else H b
theorem ar {H:Hp} {a:Addr} {o:HO}:upd H a o a=some o:=by unfold upd;rw [if_pos rfl]
theorem aq {H:Hp} {a b:Addr} {o:HO} (h:b≠a):upd H a o b=H b:=by unfold upd;rw [if_neg h]
theorem au {H:Hp} {a b:Addr} {o:HO} (h:H a=some o) (h':H b=none):a≠b:=by
 intro e;subst e;rw [h] at h';cases h'
section
variable (P:Program) (w:World)
noncomputable def cA (H:Hp) (h:Heap) (a:Addr):HO->Prop
 |.lst xs=>xs.length<=sizeLine/\∃(its:List Value) (n:Nat),Vals xs its/\h.get? a=some {cls:=.type "list",data:=.seq its.toArray n}
 |.tup xs=>xs.length<=sizeLine/\∃its:List Value,Vals xs its/\IsTup h a its.toArray
 |.dK kvs=>kvs.length<=sizeLine/\(a==sysModules)=false/\∃vs,KV kvs vs/\h.DictOf (pG P w) a vs
 |.dT kvs=>kvs.length<=sizeLine/\(a==sysModules)=false/\∃xs:List (List Key×Addr×Value),
   Paired (fun (p:List Key×V) (q:List Key×Addr×Value)=>p.1=q.1/\H q.2.1=some (.tup (p.1.map kV))/\RelV p.2 q.2.2) kvs xs /\
   ∃o es ep,h.get? a=some o/\o.ExactDict/\o.data=.dict es ep/\es.toList=xs.map (entryOfKey (tupleKind (pG P w)))/\(xs.map (·.1)).Nodup
 |.set S n=>h.SetOf (intKind P w) a S n
 |.ins C dx fs=>H dx=some (.own a)/\fs.length<=1000/\dx≠a/\h.get? a=some (PySem.W.instObj C dx) /\
   ∃mA,h.Ns1 dx mA/\(∀f,vR (fs.lookup f) (mA f))/\PySem.Within mA (fs.map (·.1))
 |.own _=>∃o,h.get? a=some o
 |.xd fs=>∃mA,h.Ns1 a mA/\∀f,vR (fs.lookup f) (mA f)
 |.rng lo hi=>∃t u v,h.get? a=some {cls:=.type "range",data:=.fields #[.int lo t,.int hi u,.int 1 v]}
 |.frz o u=>h.get? a=some o/\cA H h a u
 |.tbl ps=>h.get? a=some {cls:=.none,data:=.fields ps}
 |.met f x=>h.get? a=some (PySem.W.methodObj (.ref f) (.ref x))
 |.ext φ=>φ h/\(∃o,h.get? a=some o)/\∀h1 h2:Heap,φ h1->(∀o,h1.get? a=some o->h2.get? a=some o)->φ h2
noncomputable def HOk (H:Hp) (h:Heap):Prop:=∀a o,H a=some o->cA P w H h a o
end
section
variable {P:Program} {w:World} {H H':Hp} {h h':Heap} {a:Addr} {o:HO}
theorem cA.lt (x:cA P w H h a o):a<h.objs.size:=by
 cases o with
 |lst xs=>obtain ⟨_,_,_,_,e⟩:=x;exact Heap.lt_size e
 |tup xs=>obtain ⟨_,_,_,p⟩:=x;exact p.lt
 |dK kvs=>obtain ⟨_,_,_,_,o,_,_,e,_⟩:=x;exact Heap.lt_size e
 |dT kvs=>obtain ⟨_,_,_,_,o,_,_,e,_⟩:=x;exact Heap.lt_size e
 |set S n=>obtain ⟨o,_,_,_,e,_⟩:=x;exact Heap.lt_size e
 |ins C dx fs=>obtain ⟨_,_,_,e,_⟩:=x;exact Heap.lt_size e
 |own y=>obtain ⟨_,e⟩:=x;exact Heap.lt_size e
 |xd fs=>obtain ⟨_,⟨_,_,_,e,_⟩,_⟩:=x;exact Heap.lt_size e
 |rng lo hi=>obtain ⟨_,_,_,e⟩:=x;exact Heap.lt_size e
 |frz ob u=>obtain ⟨e,_⟩:=x;exact Heap.lt_size e
 |tbl ps=>exact Heap.lt_size (show h.get? a=some _ from x)
 |met f y=>exact Heap.lt_size (show h.get? a=some _ from x)
 |ext φ=>obtain ⟨_,⟨_,e⟩,_⟩:=x;exact Heap.lt_size e
theorem Paired.mapP {α β:Type} {F G:α->β->Prop}:∀{l₁:List α} {l₂:List β},Paired F l₁ l₂->(∀a b,F a b->G a b)->Paired G l₁ l₂
 |_,_,.nil,_=>.nil
 |_,_,.cons r t,f=>.cons (f _ _ r) (Paired.mapP t f)
theorem cA.pf (x:cA P w H h a o) (k:∀b u,(b=a\/H b=some (.own a))->h.get? b=some u->h'.get? b=some u)
  (ho:∀b,H b=some (.own a)->H' b=some (.own a)) (ht:∀b xs,H b=some (.tup xs)->H' b=some (.tup xs)):cA P w H' h' a o:=by
 induction o with
 |lst xs=>obtain ⟨z,its,n,r,e⟩:=x;exact ⟨z,its,n,r,k _ _ (.inl rfl) e⟩
 |tup xs=>obtain ⟨z,its,r,ob,e,c⟩:=x;exact ⟨z,its,r,ob,k _ _ (.inl rfl) e,c⟩
 |dK kvs=>obtain ⟨z,y,vs,r,ob,es,ep,e,c⟩:=x;exact ⟨z,y,vs,r,ob,es,ep,k _ _ (.inl rfl) e,c⟩
 |dT kvs=>
  obtain ⟨z,y,xs,r,ob,es,ep,e,c⟩:=x
  exact ⟨z,y,xs,Paired.mapP r fun p q z=>⟨z.1,ht _ _ z.2.1,z.2.2⟩,ob,es,ep,k _ _ (.inl rfl) e,c⟩
 |set S n=>obtain ⟨ob,es,ep,t,e,c⟩:=x;exact ⟨ob,es,ep,t,k _ _ (.inl rfl) e,c⟩
 |ins C dx fs=>
  obtain ⟨d,z,ne,e,mA,⟨od,es,ep,e2,c⟩,r⟩:=x
  exact ⟨ho _ d,z,ne,k _ _ (.inl rfl) e,mA,⟨od,es,ep,k _ _ (.inr d) e2,c⟩,r⟩
 |own y=>obtain ⟨ob,e⟩:=x;exact ⟨ob,k _ _ (.inl rfl) e⟩
 |xd fs=>obtain ⟨mA,⟨od,es,ep,e,c⟩,r⟩:=x;exact ⟨mA,⟨od,es,ep,k _ _ (.inl rfl) e,c⟩,r⟩
 |rng lo hi=>obtain ⟨t,u,v,e⟩:=x;exact ⟨t,u,v,k _ _ (.inl rfl) e⟩
 |frz ob u ih=>obtain ⟨e,q⟩:=x;exact ⟨k _ _ (.inl rfl) e,ih q⟩
 |tbl ps=>
  have e:h.get? a=some {cls:=.none,data:=.fields ps}:=x
  show h'.get? a=some {cls:=.none,data:=.fields ps}
  exact k a _ (.inl rfl) e
 |met f y=>
  have e:h.get? a=some (PySem.W.methodObj (.ref f) (.ref y)):=x
  show h'.get? a=some (PySem.W.methodObj (.ref f) (.ref y))
  exact k a _ (.inl rfl) e
 |ext φ=>obtain ⟨p,⟨o,e⟩,st⟩:=x;exact ⟨st _ _ p fun o q=>k _ _ (.inl rfl) q,⟨o,k _ _ (.inl rfl) e⟩,st⟩
theorem HOk.lt (x:HOk P w H h) (e:H a=some o):a<h.objs.size:=(x a o e).lt
theorem HOk.fresh (x:HOk P w H h) (e:h.objs.size<=a):H a=none:=by
 cases q:H a with
 |none=>rfl
 |some u=>exact absurd (Nat.lt_of_lt_of_le (x.lt q) e) (Nat.lt_irrefl _)
theorem HOk.kept (x:HOk P w H h) (k:∀b u,h.get? b=some u->h'.get? b=some u):HOk P w H h':=fun a o e=>
 (x a o e).pf (fun b u _ q=>k b u q) (fun _ q=>q) fun _ _ q=>q
theorem HOk.laid (x:HOk P w H h) (k:∀b u,h.get? b=some u->h'.get? b=some u) (hp:h.objs.size<=a) (new:cA P w (upd H a o) h' a o):HOk P w (upd H a o) h':=fun b u e=>by
 have hn:=x.fresh hp
 by_cases hb:b=a
 ·subst hb;rw [ar] at e;cases e;exact new
 ·rw [aq hb] at e
  exact (x b u e).pf (fun c v _ q=>k c v q) (fun c q=>by rw [aq (au q hn)];exact q) fun c xs q=>by rw [aq (au q hn)];exact q
end
noncomputable def Rd (H:Hp) (a:Addr) (u:HO):Prop:=H a=some u\/∃o,H a=some (.frz o u)
theorem Rd.ok {P:Program} {w:World} {H:Hp} {h:Heap} {a:Addr} {u:HO} (r:Rd H a u) (x:HOk P w H h):cA P w H h a u:=by
 rcases r with r|⟨o,r⟩
 ·exact x a u r
 ·obtain ⟨_,q⟩:=x a _ r
  exact q
noncomputable def Mut:Option HO->Prop
 |some (.lst _)=>True
 |some (.dK _)=>True
 |some (.dT _)=>True
 |some (.set _ _)=>True
 |some (.ins _ _ _)=>True
 |some (.ext _)=>True
 |_=>False
section
variable {P:Program} {w:World} {H:Hp} {h h':Heap} {x e:Addr} {o':HO}
theorem HOk.write (ok:HOk P w H h) (mu:Mut (H x)) (he:e=x\/H e=some (.own x)) (k:∀b u,b≠e->h.get? b=some u->h'.get? b=some u) (heo:∃u,h'.get? e=some u)
  (new:cA P w (upd H x o') h' x o'):HOk P w (upd H x o') h':=fun b u q=>by
 have nown:∀c y,H c=some (.own y)->c≠x:=fun c y r z=>by subst z;rw [r] at mu;exact mu
 have ntup:∀c xs,H c=some (.tup xs)->c≠x:=fun c xs r z=>by subst z;rw [r] at mu;exact mu
 by_cases hb:b=x
 ·subst hb;rw [ar] at q;cases q;exact new
 ·rw [aq hb] at q
  by_cases hbe:b=e
  ·have q':H b=some (.own x):=by
    rcases he with z|z
    ·exact absurd (hbe.trans z) hb
    ·rw [hbe];exact z
   rw [q] at q';cases q'
   obtain ⟨v,hv⟩:=heo
   exact ⟨v,by rw [hbe];exact hv⟩
  ·refine (ok b u q).pf (fun c v hc r=>k c v ?_ r) (fun c r=>by rw [aq (nown c b r)];exact r) fun c xs r=>by rw [aq (ntup c xs r)];exact r
   rcases hc with rfl|hc
   ·exact hbe
   ·rintro rfl
    rcases he with z|z
    ·exact nown c b hc z
    ·rw [hc] at z;cases z;exact hb rfl
end
structure Un (fs ex:List Addr) (H H':Hp) (h h':Heap):Prop where
 keep:∀b o,h.get? b=some o->H b=none->b∉fs->b∉ex->h'.get? b=some o
 slot:∀b o,h.get? b=some o->H b=none->b∈fs->b∉ex->∃sl,h'.get? b=some {o with slots:=sl}
 free:∀b o,h.get? b=some o->H b=none->b∉ex->H' b=none
 there:∀b o,h.get? b=some o->b∉ex->∃o',h'.get? b=some o'
 tups:∀b xs,H b=some (.tup xs)->H' b=some (.tup xs)
 frzs:∀b o u,H b=some (.frz o u)->H' b=some (.frz o u)
 tbls:∀b ps,H b=some (.tbl ps)->∃more,H' b=some (.tbl (ps++more))
section
variable {fs fs' ex ex':List Addr} {H H1 H2:Hp} {h h1 h2 h':Heap} {a x e:Addr} {o:HO}
theorem Un.any (u:Un fs ex H H1 h h1) {b:Addr} {ob:Obj} (q:h.get? b=some ob) (n:H b=none) (hx:b∉ex):∃sl,h1.get? b=some {ob with slots:=sl}:=by
 by_cases hb:b∈fs
 ·exact u.slot b ob q n hb hx
 ·exact ⟨ob.slots,u.keep b ob q n hb hx⟩
theorem Un.trans (a:Un fs ex H H1 h h1) (b:Un fs ex H1 H2 h1 h2):Un fs ex H H2 h h2 where
 keep:=fun c ob q n hc hx=>b.keep c ob (a.keep c ob q n hc hx) (a.free c ob q n hx) hc hx
 slot:=fun c ob q n hc hx=>by
  obtain ⟨sl,e1⟩:=a.slot c ob q n hc hx
  obtain ⟨sl',e2⟩:=b.slot c _ e1 (a.free c ob q n hx) hc hx
  exact ⟨sl',e2⟩
 free:=fun c ob q n hx=>by
  obtain ⟨o',e1⟩:=a.there c ob q hx
  exact b.free c o' e1 (a.free c ob q n hx) hx
 there:=fun c ob q hx=>by
  obtain ⟨o',e1⟩:=a.there c ob q hx
  exact b.there c o' e1 hx
 tups:=fun c xs q=>b.tups c xs (a.tups c xs q)
 frzs:=fun c ob xs q=>b.frzs c ob xs (a.frzs c ob xs q)
 tbls:=fun c ps q=>by
  obtain ⟨m1,e1⟩:=a.tbls c ps q
  obtain ⟨m2,e2⟩:=b.tbls c _ e1
  exact ⟨m1++m2,by rw [e2,Array.append_assoc]⟩
theorem Un.kept (k:∀b u,h.get? b=some u->h'.get? b=some u):Un fs ex H H h h':=
 ⟨fun b ob q _ _ _=>k b ob q,fun b ob q _ _ _=>⟨ob.slots,k b ob q⟩,fun _ _ _ n _=>n,fun b ob q _=>⟨ob,k b ob q⟩,fun _ _ q=>q,fun _ _ _ q=>q,fun _ ps q=>⟨#[],by rw [q];simp⟩⟩
theorem Un.refl:Un fs ex H H h h:=Un.kept fun _ _ q=>q
theorem Un.laid (k:∀b u,h.get? b=some u->h'.get? b=some u) (hp:h.objs.size<=a) (hn:H a=none):Un fs ex H (upd H a o) h h' where
 keep:=fun b u q _ _ _=>k b u q
 slot:=fun b u q _ _ _=>⟨u.slots,k b u q⟩
 free:=fun b u q n _=>by rw [aq (Nat.ne_of_lt (Nat.lt_of_lt_of_le (Heap.lt_size q) hp))];exact n
 there:=fun b u q _=>⟨u,k b u q⟩
 tups:=fun b xs q=>by rw [aq (au q hn)];exact q
 frzs:=fun b u xs q=>by rw [aq (au q hn)];exact q
 tbls:=fun b ps q=>⟨#[],by rw [aq (au q hn),q];simp⟩
theorem Un.write (mu:Mut (H x)) (he:e=x\/H e=some (.own x)) (k:∀b u,b≠e->h.get? b=some u->h'.get? b=some u) (heo:∃u,h'.get? e=some u):Un fs ex H (upd H x o) h h':=by
 have hx:∀b,H b=none->b≠x:=fun b n z=>by subst z;rw [n] at mu;exact mu
 have hb:∀b,H b=none->b≠e:=fun b n z=>by
  subst z
  rcases he with r|r
  ·exact hx b n r
  ·rw [n] at r;cases r
 have hm:∀b u,H b=some u->¬Mut (some u)->b≠x:=fun b u q nm z=>by subst z;rw [q] at mu;exact nm mu
 refine ⟨fun b u q n _ _=>k b u (hb b n) q,fun b u q n _ _=>⟨u.slots,k b u (hb b n) q⟩,fun b u q n _=>by rw [aq (hx b n)];exact n,fun b u q _=>?_,
  fun b xs q=>by rw [aq (hm b _ q fun z=>z)];exact q,fun b u xs q=>by rw [aq (hm b _ q fun z=>z)];exact q,fun b ps q=>⟨#[],by rw [aq (hm b _ q fun z=>z),q];simp⟩⟩
 by_cases hbe:b=e
 ·subst hbe;exact heo
 ·exact ⟨u,k b u hbe q⟩
end
noncomputable def trk (h:Heap) (H:Hp):List Addr:=(List.range h.objs.size).filter fun a=>(H a).isSome
noncomputable def hidT (h:Heap) (H:Hp):Heap:=PySem.W.hideAll h (trk h H)
theorem v8 (h:Heap) (H:Hp):(hidT h H).objs.size=h.objs.size:=PySem.W.hideAll_size _ _
theorem hidT_get {h:Heap} {H:Hp} {b:Addr} {o:Obj} (e:h.get? b=some o) (n:H b=none):(hidT h H).get? b=some o:=
 PySem.W.hideAll_get _ e fun hm=>by
  have q:(H b).isSome=true:=(List.mem_filter.mp hm).2
  rw [n] at q;simp at q
theorem of_hidT {h:Heap} {H:Hp} {b:Addr} {o:Obj} (e:(hidT h H).get? b=some o):h.get? b=some o/\H b=none:=by
 have e':h.get? b=some o:=PySem.W.of_hideAll (trk h H) e
 refine ⟨e',?_⟩
 cases q:H b with
 |none=>rfl
 |some x=>
  have hm:b∈trk h H:=List.mem_filter.mpr ⟨List.mem_range.mpr (Heap.lt_size e'),by simp [q]⟩
  have z:(hidT h H).get? b=none:=PySem.W.hideAll_none (trk h H) hm
  rw [z] at e;cases e
end L2
namespace L2
open PySem PySem.Spec PyProof.Rows
structure Mod (K:PySem.W.Frag) (mg:Str->Option Value) (base:Heap):Prop where
 kin:K.In base
 glob:base.Ns mainGlobals mg
 blt:∃mb,base.Ns builtinsNs mb/\∀x:Str,x≠"__name__"->mb x=bootBuiltins x
 nolimit:base.NoLimit
structure Cx where
 prog:Program
 w:World
 K:PySem.W.Frag
 mg:Str->Option Value
 base:Heap
 A:Around
 N:List Str
 s₀:Shared
 H₀:Hp
 env:Env
 outer:List Env
 stack:List Env
 ex:List Addr
 fn:Str->Bool
 calm:Bool
 pn:List (Addr×Obj)
 xe:Value->Shared->Prop
noncomputable def frs (l:List Env):List Addr:=l.filterMap (·.frame)
noncomputable abbrev Cx.fs (X:Cx):List Addr:=frs X.outer
noncomputable def Vis (sc:Scope) (x:Str):Prop:=sc.names.lookup x=some .local\/sc.names.lookup x=some .cell\/sc.names.lookup x=some .free
noncomputable def Loc (sc:Scope) (x:Str):Prop:=sc.names.lookup x=some .local\/sc.names.lookup x=some .cell
noncomputable def Look (env:Env) (h:Heap) (m:Str->Option Value) (x:Str) (u:Value):Prop:=
 (env.kindOf x=some .local/\m x=some u)\/((env.kindOf x=some .cell\/env.kindOf x=some .free)/\∃c,env.cells.lookup x=some c/\h.IsCell c (some u))
structure Cx.Ok (X:Cx):Prop where
 mod:Mod X.K X.mg X.base
 kind:X.env.scope.kind=.function
 glob:X.env.globals=mainGlobals
 blt:X.env.builtins=builtinsNs
 above:X.s₀.heap.objs.size<=X.env.locals
 inj:∀x y c,X.env.cells.lookup x=some c->X.env.cells.lookup y=some c->x=y
 has:∀x,(X.env.kindOf x=some .cell\/X.env.kindOf x=some .free)->∃c,X.env.cells.lookup x=some c
 cab:∀x c,X.fn x=true->X.env.cells.lookup x=some c->X.s₀.heap.objs.size<=c
 hd:X.calm=true->X.A.handled=none
 frames:X.A.frames=some X.stack
 stk:X.stack=X.outer\/(X.stack=X.env::X.outer/\X.env.frame=some X.env.locals)
 exf:∀b∈X.ex,b≠X.env.locals/\∀x c,X.env.cells.lookup x=some c->c≠b
 bs:∀b o,X.base.get? b=some o->X.s₀.heap.get? b=some o/\X.H₀ b=none
 bsz:X.base.objs.size<=X.s₀.heap.objs.size
 noex:∀b o,X.base.get? b=some o->b∉X.ex
 exfs:∀b∈X.ex,b∉X.fs
 oQ:X.s₀.heap.FunFrames X.base X.outer
 frf:∀b∈X.fs,X.H₀ b=none
structure Inv (X:Cx) (pins:List (Addr×Obj)) (σ:List (Option V)) (H:Hp) (s:Shared):Prop where
 ok:X.Ok
 os:s.os=X.s₀.os
 bare:AllBare s.gens
 base:Un X.fs X.ex X.H₀ H X.s₀.heap s.heap
 loc:∃m,s.heap.Ns X.env.locals m/\∀(i:Nat) (x:Str) (v:V),X.N[i]? =some x->σ[i]? =some (some v)->Vis X.env.scope x->∃u,RelV v u/\Look X.env s.heap m x u
 cell:∀x c,X.env.cells.lookup x=some c->∃v,s.heap.IsCell c v
 free:H X.env.locals=none
 freeC:∀x c,X.env.cells.lookup x=some c->H c=none
 pin:∀p∈X.pn++pins,s.heap.get? p.1=some p.2/\H p.1=none/\p.1≠X.env.locals/\p.1∉X.fs/\∀v,p.2.data≠.cell v
 hok:HOk X.prog X.w H s.heap
 len:σ.length=X.N.length
section
variable {X:Cx} {pins:List (Addr×Obj)} {σ:List (Option V)} {H H':Hp} {s:Shared} {h':Heap}
theorem Cx.Ok.nofr (ok:X.Ok) {b:Addr} {o:Obj} (e:X.base.get? b=some o):b∉X.fs:=fun hb=>by
 have:=(ok.oQ.mem hb).1
 rw [e] at this;cases this
theorem Inv.bs (I:Inv X pins σ H s):∀b o,X.base.get? b=some o->s.heap.get? b=some o/\H b=none:=fun b o e=>
 ⟨I.base.keep b o (I.ok.bs b o e).1 (I.ok.bs b o e).2 (I.ok.nofr e) (I.ok.noex b o e),I.base.free b o (I.ok.bs b o e).1 (I.ok.bs b o e).2 (I.ok.noex b o e)⟩
theorem Inv.bk (I:Inv X pins σ H s):∀b o,X.base.get? b=some o->s.heap.get? b=some o:=fun b o e=>(I.bs b o e).1
theorem Inv.mod (I:Inv X pins σ H s):Mod X.K X.mg X.base:=I.ok.mod
theorem Inv.kIn (I:Inv X pins σ H s):X.K.In s.heap:=I.ok.mod.kin.keeps I.bk
theorem Inv.lt (I:Inv X pins σ H s):X.env.locals<s.heap.objs.size:=let ⟨_,hn,_⟩:=I.loc;hn.lt
theorem Inv.sz (I:Inv X pins σ H s):X.s₀.heap.objs.size<=s.heap.objs.size:=Nat.le_trans I.ok.above (Nat.le_of_lt I.lt)
theorem Inv.nofs (I:Inv X pins σ H s) {a:Addr} (h:s.heap.objs.size<=a):a∉X.fs:=fun hb=>by
 obtain ⟨_,o,ho,_⟩:=I.ok.oQ.mem hb
 exact absurd (Nat.lt_of_lt_of_le (Heap.lt_size ho) (Nat.le_trans I.sz h)) (Nat.lt_irrefl _)
theorem Inv.cne (I:Inv X pins σ H s):∀x c,X.env.cells.lookup x=some c->c≠X.env.locals:=fun x c e z=>by
 obtain ⟨v,o,ho,hd⟩:=I.cell x c e
 obtain ⟨m,⟨o',es,ep,ho',hd',_⟩,_⟩:=I.loc
 rw [z,ho'] at ho;cases ho;rw [hd'] at hd;cases hd
theorem Inv.oQ (I:Inv X pins σ H s):s.heap.FunFrames X.base X.outer:=by
 have all:∀(l:List Env),(∀b∈frs l,b∈X.fs)->X.s₀.heap.FunFrames X.base l->s.heap.FunFrames X.base l:=by
  intro l
  induction l with
  |nil=>intro _ _;trivial
  |cons env r ih=>
   intro hs hl
   obtain ⟨hk,⟨L,o,hf,hn,ho,hd⟩,hr⟩:=hl
   have hL:L∈X.fs:=hs L (by unfold frs;rw [List.filterMap_cons,hf];exact List.mem_cons_self)
   obtain ⟨sl,e⟩:=I.base.slot L o ho (I.ok.frf L hL) hL fun z=>I.ok.exfs L z hL
   exact ⟨hk,⟨L,_,hf,hn,e,hd⟩,ih (fun b hb=>hs b (by unfold frs;rw [List.filterMap_cons,hf];exact List.mem_cons_of_mem _ hb)) hr⟩
 exact all X.outer (fun _ hb=>hb) I.ok.oQ
theorem Inv.stack (I:Inv X pins σ H s):s.heap.FunFrames X.base X.stack:=by
 rcases I.ok.stk with e|⟨e,hf⟩
 ·rw [e];exact I.oQ
 ·rw [e]
  obtain ⟨m,hn,_⟩:=I.loc
  refine .cons (by rw [I.ok.kind];decide) hf hn ?_ I.oQ
  exact Heap.get?_none_of_le (Nat.le_trans I.ok.bsz I.ok.above)
theorem Inv.kY (I:Inv X pins σ H s):∀b∈frs X.stack,b∈X.env.locals::X.fs:=fun b hb=>by
 rcases I.ok.stk with e|⟨e,hf⟩
 ·rw [e] at hb;exact List.mem_cons_of_mem _ hb
 ·rw [e] at hb
  unfold frs at hb
  rw [List.filterMap_cons,hf] at hb
  exact hb
theorem Inv.tY (I:Inv X pins σ H s):∀b∈frs X.stack,H b=none:=fun b hb=>by
 rcases List.mem_cons.mp (I.kY b hb) with e|hb
 ·rw [e];exact I.free
 ·obtain ⟨_,o,ho,_⟩:=I.ok.oQ.mem hb
  exact I.base.free b o ho (I.ok.frf b hb) fun z=>I.ok.exfs b z hb
theorem Inv.step {g':Array GenState} {t':Nat} {d':Drawn} {ch:List Addr} (I:Inv X pins σ H s)
  (hch:∀b∈ch,(b∈X.ex\/X.s₀.heap.objs.size<=b)/\b≠X.env.locals/\(∀x c,X.env.cells.lookup x=some c->c≠b)/\∀p∈X.pn++pins,p.1≠b)
  (keep:∀b o,b≠X.env.locals->b∉X.fs->b∉ch->s.heap.get? b=some o->H b=none->h'.get? b=some o)
  (slot:∀b o,b≠X.env.locals->b∈X.fs->b∉ch->s.heap.get? b=some o->H b=none->∃sl,h'.get? b=some {o with slots:=sl}) (free:∀b o,b∉ch->s.heap.get? b=some o->H b=none->H' b=none)
  (there:∀b o,b∉ch->s.heap.get? b=some o->∃o',h'.get? b=some o')
  (tups:∀b xs,H b=some (.tup xs)->H' b=some (.tup xs)) (frzs:∀b o u,H b=some (.frz o u)->H' b=some (.frz o u)) (tbls:∀b ps,H b=some (.tbl ps)->∃more,H' b=some (.tbl (ps++more)))
  (ns:∀m,s.heap.Ns X.env.locals m->h'.Ns X.env.locals m) (hok:HOk X.prog X.w H' h') (hg:AllBare g') :
  Inv X pins σ H' {s with heap:=h',gens:=g',drawn:=d',toks:=t'}:=by
 have neL:∀b o,X.s₀.heap.get? b=some o->b≠X.env.locals:=fun b o e=>Nat.ne_of_lt (Nat.lt_of_lt_of_le (Heap.lt_size e) I.ok.above)
 have neC:∀b o,X.s₀.heap.get? b=some o->b∉X.ex->b∉ch:=fun b o e hx hb=>by
  rcases (hch b hb).1 with z|z
  ·exact hx z
  ·exact absurd (Nat.lt_of_lt_of_le (Heap.lt_size e) z) (Nat.lt_irrefl _)
 have cellK:∀x c,X.env.cells.lookup x=some c->∀v,s.heap.IsCell c v->h'.IsCell c v:=fun x c e v ⟨o,ho,hd⟩=>by
  have nch:c∉ch:=fun z=>(hch c z).2.2.1 x c e rfl
  by_cases hc:c∈X.fs
  ·obtain ⟨sl,q⟩:=slot c o (I.cne x c e) hc nch ho (I.freeC x c e)
   exact ⟨_,q,hd⟩
  ·exact ⟨o,keep c o (I.cne x c e) hc nch ho (I.freeC x c e),hd⟩
 refine ⟨I.ok,I.os,hg,⟨fun b o e n hb hx=>?_,fun b o e n hb hx=>?_,fun b o e n hx=>?_,fun b o e hx=>?_,fun b xs e=>tups b xs (I.base.tups b xs e),fun b o xs e=>frzs b o xs (I.base.frzs b o xs e),fun b ps e=>?_⟩,?_,fun x c e=>?_,?_,fun x c e=>?_,fun p hp=>?_,hok,I.len⟩
 ·exact keep b o (neL b o e) hb (neC b o e hx) (I.base.keep b o e n hb hx) (I.base.free b o e n hx)
 ·obtain ⟨sl,e1⟩:=I.base.slot b o e n hb hx
  obtain ⟨sl',e2⟩:=slot b _ (neL b o e) hb (neC b o e hx) e1 (I.base.free b o e n hx)
  exact ⟨sl',e2⟩
 ·obtain ⟨o',e1⟩:=I.base.there b o e hx
  exact free b o' (neC b o e hx) e1 (I.base.free b o e n hx)
 ·obtain ⟨o',e1⟩:=I.base.there b o e hx
  exact there b o' (neC b o e hx) e1
 ·obtain ⟨m1,e1⟩:=I.base.tbls b ps e
  obtain ⟨m2,e2⟩:=tbls b _ e1
  exact ⟨m1++m2,by rw [e2,Array.append_assoc]⟩
 ·obtain ⟨m,hn,hl⟩:=I.loc
  refine ⟨m,ns m hn,fun i x v e1 e2 e3=>?_⟩
  obtain ⟨u,r,l⟩:=hl i x v e1 e2 e3
  refine ⟨u,r,?_⟩
  rcases l with l|⟨k,c,e,z⟩
  ·exact .inl l
  ·exact .inr ⟨k,c,e,cellK x c e _ z⟩
 ·obtain ⟨v,z⟩:=I.cell x c e
  exact ⟨v,cellK x c e v z⟩
 ·obtain ⟨m,⟨o,_,_,ho,_⟩,_⟩:=I.loc
  exact free _ o (fun z=>(hch _ z).2.1 rfl) ho I.free
 ·obtain ⟨v,o,ho,hd⟩:=I.cell x c e
  exact free c o (fun z=>(hch c z).2.2.1 x c e rfl) ho (I.freeC x c e)
 ·obtain ⟨e,n,ne,nf,d⟩:=I.pin p hp
  have nch:p.1∉ch:=fun z=>(hch p.1 z).2.2.2 p hp rfl
  exact ⟨keep p.1 p.2 ne nf nch e n,free p.1 p.2 nch e n,ne,nf,d⟩
theorem Inv.un {t':Nat} (I:Inv X pins σ H s) (u:Un X.fs [] H H' s.heap h') (hok:HOk X.prog X.w H' h'):Inv X pins σ H' {s with heap:=h',toks:=t'}:=by
 obtain ⟨m,⟨o,es,ep,ho,r⟩,_⟩:=id I.loc
 obtain ⟨sl,hL⟩:=u.any ho I.free (by simp)
 exact I.step (g':=s.gens) (d':=s.drawn) (ch:=[]) (fun _ z=>nomatch z) (fun b o _ hb _ e n=>u.keep b o e n hb (by simp)) (fun b o _ hb _ e n=>u.slot b o e n hb (by simp)) (fun b o _ e n=>u.free b o e n (by simp)) (fun b o _ e=>u.there b o e (by simp)) u.tups u.frzs u.tbls (fun m' hm=>by
  obtain ⟨o',es',ep',ho',r'⟩:=hm
  rw [ho] at ho';cases ho'
  exact ⟨_,es',ep',hL,r'⟩) hok I.bare
theorem Inv.call {g':Array GenState} {t':Nat} {d':Drawn} {ch:List Addr} (I:Inv X pins σ H s) (u:Un (frs X.stack) ch H H' s.heap h') (hok:HOk X.prog X.w H' h') (hg:AllBare g')
  (hch:∀b∈ch,(b∈X.ex\/X.s₀.heap.objs.size<=b)/\b≠X.env.locals/\(∀x c,X.env.cells.lookup x=some c->c≠b)/\∀p∈X.pn++pins,p.1≠b) :
  Inv X pins σ H' {s with heap:=h',gens:=g',drawn:=d',toks:=t'}:=by
 obtain ⟨m,⟨o,es,ep,ho,r⟩,_⟩:=id I.loc
 obtain ⟨sl,hL⟩:=u.any ho I.free fun z=>(hch _ z).2.1 rfl
 exact I.step (ch:=ch) hch (fun b o hL hb hc e n=>u.keep b o e n (fun z=>(List.mem_cons.mp (I.kY b z)).elim hL hb) hc) (fun b o _ _ hc e n=>u.any e n hc) (fun b o hc e n=>u.free b o e n hc) (fun b o hc e=>u.there b o e hc) u.tups u.frzs u.tbls (fun m' hm=>by
  obtain ⟨o',es',ep',ho',r'⟩:=hm
  rw [ho] at ho';cases ho'
  exact ⟨_,es',ep',hL,r'⟩) hok hg
theorem Inv.turned {t':Nat} {it:Addr} (I:Inv X pins σ H s) (k:∀b o,b≠it->s.heap.get? b=some o->h'.get? b=some o) (hn:H it=none) (hL:it≠X.env.locals)
  (h1:it∈X.ex\/X.s₀.heap.objs.size<=it) (h2:∀x c,X.env.cells.lookup x=some c->c≠it) (h3:∀p∈X.pn++pins,p.1≠it):Inv X pins σ H {s with heap:=h',toks:=t'}:=by
 have nit:∀b u,H b=some u->b≠it:=fun b u e z=>by rw [z,hn] at e;cases e
 refine I.step (g':=s.gens) (d':=s.drawn) (ch:=[it]) (fun b hb=>?_) (fun b o _ _ hc e _=>k b o (fun z=>hc (by simp [z])) e) (fun b o _ _ hc e _=>⟨o.slots,k b o (fun z=>hc (by simp [z])) e⟩) (fun _ _ _ _ n=>n)
  (fun b o hc e=>⟨o,k b o (fun z=>hc (by simp [z])) e⟩) (fun _ _ e=>e) (fun _ _ _ e=>e) (fun b ps e=>⟨#[],by rw [e];simp⟩) (fun m hm=>?_) (fun b u e=>?_) I.bare
 ·have e:b=it:=by simpa using hb
  subst e
  exact ⟨h1,hL,h2,h3⟩
 ·obtain ⟨o,es,ep,ho,r⟩:=hm
  exact ⟨o,es,ep,k _ o (Ne.symm hL) ho,r⟩
 ·refine (I.hok b u e).pf (fun c v hc q=>k c v ?_ q) (fun _ q=>q) fun _ _ q=>q
  rcases hc with z|z
  ·rw [z];exact nit b u e
  ·exact nit c _ z
theorem Inv.tok (I:Inv X pins σ H s) (t:Nat):Inv X pins σ H {s with toks:=t}:=I.un (h':=s.heap) (t':=t) Un.refl I.hok
theorem Inv.kept {t':Nat} (I:Inv X pins σ H s) (k:∀b u,s.heap.get? b=some u->h'.get? b=some u):Inv X pins σ H {s with heap:=h',toks:=t'}:=I.un (Un.kept k) (I.hok.kept k)
theorem Inv.laid {a:Addr} {o:HO} {t':Nat} (I:Inv X pins σ H s) (k:∀b u,s.heap.get? b=some u->h'.get? b=some u) (hp:s.heap.objs.size<=a) (new:cA X.prog X.w (upd H a o) h' a o) :
  Inv X pins σ (upd H a o) {s with heap:=h',toks:=t'}:=I.un (Un.laid k hp (I.hok.fresh hp)) (I.hok.laid k hp new)
theorem Inv.write {x e:Addr} {o:HO} {t':Nat} (I:Inv X pins σ H s) (mu:Mut (H x)) (he:e=x\/H e=some (.own x)) (k:∀b u,b≠e->s.heap.get? b=some u->h'.get? b=some u) (heo:∃u,h'.get? e=some u)
  (new:cA X.prog X.w (upd H x o) h' x o):Inv X pins σ (upd H x o) {s with heap:=h',toks:=t'}:=I.un (Un.write mu he k heo) (I.hok.write mu he k heo new)
theorem Inv.weak {σ':List (Option V)} (I:Inv X pins σ H s) (hl:σ'.length=σ.length) (w:∀(i:Nat) v,σ'[i]? =some (some v)->σ[i]? =some (some v)):Inv X pins σ' H s:=
 ⟨I.ok,I.os,I.bare,I.base,let ⟨m,hn,hl'⟩:=I.loc;⟨m,hn,fun i x v e1 e2 e3=>hl' i x v e1 (w i v e2) e3⟩,I.cell,I.free,I.freeC,I.pin,I.hok,hl.trans I.len⟩
theorem Inv.ma {pins':List (Addr×Obj)} (I:Inv X pins σ H s) (h:∀p∈pins',s.heap.get? p.1=some p.2/\H p.1=none/\p.1≠X.env.locals/\p.1∉X.fs/\∀v,p.2.data≠.cell v):Inv X pins' σ H s:=
 ⟨I.ok,I.os,I.bare,I.base,I.loc,I.cell,I.free,I.freeC,fun p hp=>(List.mem_append.mp hp).elim (fun z=>I.pin p (List.mem_append_left _ z)) (h p),I.hok,I.len⟩
theorem mm {N:List Str} (hN:N.Nodup) {i j:Nat} {x:Str} (a:N[i]? =some x) (b:N[j]? =some x):i=j:=by
 obtain ⟨h1,e1⟩:=List.getElem?_eq_some_iff.mp a
 obtain ⟨h2,e2⟩:=List.getElem?_eq_some_iff.mp b
 exact (List.getElem_inj hN).mp (e1.trans e2.symm)
theorem nk {M:Model} {A:Around} {E:Value->Shared->Prop} {i:Nat} {x:Str} {v:V} {u:Value} {Q:Unit->Shared->Prop} (I:Inv X pins σ H s) (hN:X.N.Nodup) (hi:X.N[i]? =some x) (hx:Loc X.env.scope x) (r:RelV v u)
  (h:∀s',Inv X pins (σ.set i (some v)) H s'->(∃a,Heap.SameBut a s.heap s'.heap/\(a=X.env.locals\/X.env.cells.lookup x=some a))->Q () s') (hf:X.fn x=true\/X.env.scope.names.lookup x=some .local:=by first|exact .inl rfl|exact .inr rfl|assumption):wpAny M A (storeName X.env x u) Q E s:=by
 obtain ⟨m,hn,hl⟩:=id I.loc
 have hcls:(X.env.scope.kind==.class||(X.env.scope.kind==.module&&X.env.locals != X.env.globals))=false:=by rw [I.ok.kind];rfl
 have hiσ:i<σ.length:=by rw [I.len];exact (List.getElem?_eq_some_iff.mp hi).1
 have cne:=I.cne
 have tracked:∀{a:Addr} {h':Heap},(∃o,s.heap.get? a=some o/\H a=none)->Heap.SameBut a s.heap h'->HOk X.prog X.w H h':=fun {a h'} ha hs b ob e=>by
  obtain ⟨_,_,hfree⟩:=ha
  refine (I.hok b ob e).pf (fun c w' hc q=>(hs.2 c ?_).trans q) (fun _ q=>q) fun _ _ q=>q
  rintro rfl
  rcases hc with rfl|hc
  ·rw [hfree] at e;cases e
  ·rw [hfree] at hc;cases hc
 rcases hx with hk|hk
 ·refine wpAny_storeName_local hk hn (fun h' hn' hs=>?_) hcls
  obtain ⟨oL,_,_,hoL,_⟩:=id hn
  refine h _ ⟨I.ok,I.os,I.bare,⟨fun b o e n hb hx=>?_,fun b o e n hb hx=>?_,I.base.free,fun b o e hx=>?_,I.base.tups,I.base.frzs,I.base.tbls⟩,⟨_,hn',fun j y v' e1 e2 e3=>?_⟩,fun y c e=>?_,I.free,I.freeC,fun p hp=>?_,tracked ⟨oL,hoL,I.free⟩ hs,by simpa using I.len⟩ ⟨_,hs,.inl rfl⟩
  ·exact (hs.2 b (Nat.ne_of_lt (Nat.lt_of_lt_of_le (Heap.lt_size e) I.ok.above))).trans (I.base.keep b o e n hb hx)
  ·obtain ⟨sl,e1⟩:=I.base.slot b o e n hb hx
   exact ⟨sl,(hs.2 b (Nat.ne_of_lt (Nat.lt_of_lt_of_le (Heap.lt_size e) I.ok.above))).trans e1⟩
  ·obtain ⟨o',e1⟩:=I.base.there b o e hx
   exact ⟨o',(hs.2 b (Nat.ne_of_lt (Nat.lt_of_lt_of_le (Heap.lt_size e) I.ok.above))).trans e1⟩
  ·by_cases hj:j=i
   ·subst hj
    rw [hi] at e1;cases e1
    rw [List.getElem?_set_self hiσ] at e2
    cases e2
    exact ⟨u,r,.inl ⟨hk,by simp⟩⟩
   ·rw [List.getElem?_set_ne (Ne.symm hj)] at e2
    obtain ⟨u',r',q⟩:=hl j y v' e1 e2 e3
    refine ⟨u',r',?_⟩
    rcases q with ⟨k,e⟩|⟨k,c,e,z⟩
    ·refine .inl ⟨k,?_⟩
     have:y≠x:=fun e=>hj (mm hN e1 (e▸hi))
     simp [this,e]
    ·exact .inr ⟨k,c,e,z.sameBut hs (cne y c e)⟩
  ·obtain ⟨w',z⟩:=I.cell y c e
   exact ⟨w',z.sameBut hs (cne y c e)⟩
  ·obtain ⟨e,n,ne,nf,d⟩:=I.pin p hp
   exact ⟨(hs.2 p.1 ne).trans e,n,ne,nf,d⟩
 ·have hfn:X.fn x=true:=by
   rcases hf with z|z
   ·exact z
   ·rw [z] at hk;cases hk
  obtain ⟨c,hc⟩:=I.ok.has x (.inl hk)
  obtain ⟨w',z⟩:=I.cell x c hc
  refine wpAny_storeName_cell I.ok.kind hk hc z (fun h' hc' hs=>?_)
  obtain ⟨oc,hoc,hocd⟩:=id z
  refine h {s with heap:=h'} ⟨I.ok,I.os,I.bare,⟨fun b o e n hb hx=>?_,fun b o e n hb hx=>?_,I.base.free,fun b o e hx=>?_,I.base.tups,I.base.frzs,I.base.tbls⟩,⟨m,hn.sameBut hs (Ne.symm (cne x c hc)),fun j y v' e1 e2 e3=>?_⟩,fun y c' e=>?_,I.free,I.freeC,fun p hp=>?_,tracked ⟨oc,hoc,I.freeC x c hc⟩ hs,by simpa using I.len⟩ ⟨c,hs,.inr hc⟩
  ·exact (hs.2 b (Nat.ne_of_lt (Nat.lt_of_lt_of_le (Heap.lt_size e) (I.ok.cab x c hfn hc)))).trans (I.base.keep b o e n hb hx)
  ·obtain ⟨sl,e1⟩:=I.base.slot b o e n hb hx
   exact ⟨sl,(hs.2 b (Nat.ne_of_lt (Nat.lt_of_lt_of_le (Heap.lt_size e) (I.ok.cab x c hfn hc)))).trans e1⟩
  ·obtain ⟨o',e1⟩:=I.base.there b o e hx
   exact ⟨o',(hs.2 b (Nat.ne_of_lt (Nat.lt_of_lt_of_le (Heap.lt_size e) (I.ok.cab x c hfn hc)))).trans e1⟩
  ·by_cases hj:j=i
   ·subst hj
    rw [hi] at e1;cases e1
    rw [List.getElem?_set_self hiσ] at e2
    cases e2
    exact ⟨u,r,.inr ⟨.inl hk,c,hc,hc'⟩⟩
   ·rw [List.getElem?_set_ne (Ne.symm hj)] at e2
    obtain ⟨u',r',q⟩:=hl j y v' e1 e2 e3
    refine ⟨u',r',?_⟩
    rcases q with q|⟨k,c',e,z'⟩
    ·exact .inl q
    ·refine .inr ⟨k,c',e,z'.sameBut hs ?_⟩
     rintro rfl
     exact hj (mm hN e1 (I.ok.inj _ _ _ e hc▸hi))
  ·by_cases hcc:c'=c
   ·subst hcc;exact ⟨_,hc'⟩
   ·obtain ⟨w2,z2⟩:=I.cell y c' e
    exact ⟨w2,z2.sameBut hs hcc⟩
  ·obtain ⟨e,n,ne,nf,d⟩:=I.pin p hp
   refine ⟨(hs.2 p.1 ?_).trans e,n,ne,nf,d⟩
   intro q
   rw [q,hoc] at e
   have q':oc=p.2:=Option.some.inj e
   exact d w' (by rw [<- q'];exact hocd)
theorem jw {M:Model} {A:Around} {E:Value->Shared->Prop} {i:Nat} {x:Str} {v:V} {u:Value} {Q:Unit->Shared->Prop} (I:Inv X pins σ H s) (hN:X.N.Nodup) (hi:X.N[i]? =some x) (hx:Loc X.env.scope x) (r:RelV v u)
  (h:∀s',Inv X pins (σ.set i (some v)) H s'->Q () s') (hf:X.fn x=true\/X.env.scope.names.lookup x=some .local:=by first|exact .inl rfl|exact .inr rfl|assumption):wpAny M A (storeName X.env x u) Q E s:=
 nk I hN hi hx r (fun s' I' _=>h s' I') hf
theorem Inv.call' {s':Shared} {ch:List Addr} (I:Inv X pins σ H s) (ho:s'.os=s.os) (u:Un (frs X.stack) ch H H' s.heap s'.heap) (hok:HOk X.prog X.w H' s'.heap) (hg:AllBare s'.gens)
  (hch:∀b∈ch,(b∈X.ex\/X.s₀.heap.objs.size<=b)/\b≠X.env.locals/\(∀x c,X.env.cells.lookup x=some c->c≠b)/\∀p∈X.pn++pins,p.1≠b):Inv X pins σ H' s':=by
 obtain ⟨h',g',d',t',o'⟩:=s'
 have e:o'=s.os:=ho
 subst e
 exact I.call (g':=g') (t':=t') (d':=d') u hok hg hch
end
noncomputable abbrev XK:=Value->Option Addr->Hp->Prop
noncomputable abbrev St:=List (Option V)
noncomputable abbrev VK:=V->Hp->Prop
noncomputable abbrev TE:=St->Hp->VK->Prop
noncomputable abbrev TT:=St->Hp->(Bool->Hp->Prop)->Prop
noncomputable abbrev TA:=St->Hp->(List V->Hp->Prop)->Prop
structure Ends where
 nx:St->Hp->Prop
 rt:VK
 bk:St->Hp->Prop:=fun _ _=>False
 ct:St->Hp->Prop:=fun _ _=>False
noncomputable abbrev TS:=Ends->St->Hp->Prop
noncomputable def EP (X:Cx) (pins:List (Addr×Obj)) (σ:St) (Q:VK) (u:Value) (s':Shared):Prop:=∃v H',Inv X pins σ H' s'/\RelV v u/\Q v H'
noncomputable def TP (X:Cx) (pins:List (Addr×Obj)) (σ:St) (Q:Bool->Hp->Prop) (b:Bool) (s':Shared):Prop:=∃H',Inv X pins σ H' s'/\Q b H'
noncomputable def AP (X:Cx) (pins:List (Addr×Obj)) (σ:St) (Q:List V->Hp->Prop) (us:List Value) (s':Shared):Prop:=∃vs H',Inv X pins σ H' s'/\Vals vs us/\Q vs H'
noncomputable def SP (X:Cx) (pins:List (Addr×Obj)) (D:Ends) (f:Flow) (s':Shared):Prop:=
 match f with
 |.next=>∃σ' H',Inv X pins σ' H' s'/\D.nx σ' H'
 |.brk=>∃σ' H',Inv X pins σ' H' s'/\D.bk σ' H'
 |.cont=>∃σ' H',Inv X pins σ' H' s'/\D.ct σ' H'
 |.ret u=>∃v σ' H',Inv X pins σ' H' s'/\RelV v u/\D.rt v H'
noncomputable def PE (X:Cx) (e:Expr) (t:TE):Prop:=
 ∀(pins:List (Addr×Obj)) (s:Shared) (σ:St) (H:Hp) (Q:VK),Inv X pins σ H s->t σ H Q->wpAny (model X.prog X.w) X.A (eval e X.env) (EP X pins σ Q) X.xe s
noncomputable def PT (X:Cx) (e:Expr) (t:TT):Prop:=
 ∀(pins:List (Addr×Obj)) (s:Shared) (σ:St) (H:Hp) (Q:Bool->Hp->Prop),Inv X pins σ H s->t σ H Q->wpAny (model X.prog X.w) X.A (isTrue e X.env (eval e X.env)) (TP X pins σ Q) X.xe s
noncomputable def PW (X:Cx) (e:Expr) (t:TT):Prop:=
 ∀(whole:Sem Value) (pins:List (Addr×Obj)) (s:Shared) (σ:St) (H:Hp) (Q:Bool->Hp->Prop),Inv X pins σ H s->t σ H Q->wpAny (model X.prog X.w) X.A (isTrue e X.env whole) (TP X pins σ Q) X.xe s
theorem PW.pt {X:Cx} {e:Expr} {t:TT} (h:PW X e t):PT X e t:=h _
noncomputable def PA (X:Cx) (es:List Expr) (t:TA):Prop:=
 ∀(pos:Pos) (pins:List (Addr×Obj)) (s:Shared) (σ:St) (H:Hp) (Q:List V->Hp->Prop),Inv X pins σ H s->t σ H Q->wpAny (model X.prog X.w) X.A (spliced (backTo pos (starEach es X.env))) (AP X pins σ Q) X.xe s
noncomputable def PS (X:Cx) (st:Stmt) (t:TS):Prop:=
 ∀(pins:List (Addr×Obj)) (s:Shared) (σ:St) (H:Hp) (D:Ends),Inv X pins σ H s->t D σ H->wpAny (model X.prog X.w) X.A (exec st X.env) (SP X pins D) X.xe s
noncomputable def PSs (X:Cx) (st:List Stmt) (t:TS):Prop:=
 ∀(pins:List (Addr×Obj)) (s:Shared) (σ:St) (H:Hp) (D:Ends),Inv X pins σ H s->t D σ H->wpAny (model X.prog X.w) X.A (execs st X.env) (SP X pins D) X.xe s
theorem thn {α:Type} {t:Sem α} {Q Q':α->Shared->Prop} {M:Model} {A:Around} {E:Value->Shared->Prop} {s:Shared} (h:wpAny M A t Q E s) (hQ:∀a s,Q a s->Q' a s):wpAny M A t Q' E s:=wpAny_mono h hQ fun _ _ x=>x
end L2
namespace L2
open PySem PySem.Spec PyProof.Rows
section
variable {X:Cx}
noncomputable def kM (i:Nat):TE:=fun σ H Q=>∃v,σ[i]? =some (some v)/\Q v H
noncomputable def tC (v:V):TE:=fun _ H Q=>Q v H
theorem pe_var {i:Nat} {x:Str} {pos:Pos} (hN:X.N[i]? =some x) (hv:Vis X.env.scope x) (hd:(x==("__debug__":Str))=false:=by decide) (hcd:(x==("__classdict__":Str))=false:=by decide):PE X (.Name x pos) (kM i):=by
 intro pins s σ H Q I h
 obtain ⟨v,e,h⟩:=h
 obtain ⟨m,hn,hl⟩:=I.loc
 obtain ⟨u,r,l⟩:=hl i x v hN e hv
 have fin:EP X pins σ Q u s:=⟨v,H,I,r,h⟩
 rcases l with ⟨hk,hm⟩|⟨hk,c,hc,hcell⟩
 ·exact wpAny_Name (wpAny_loadName_local I.ok.kind hk hn hm fin) hd
 ·rcases hk with hk|hk
  ·exact wpAny_Name (wpAny_loadName_cell I.ok.kind hk hc hcell fin) hd
  ·exact wpAny_Name (wpAny_loadName_free I.ok.kind hk hc hcell fin hcd) hd
theorem pe_int {i j pos}:PE X (.Constant (.int i) j pos) (tC (.int i)):=fun _ _ _ H _ I h=>wpAny_Constant_int ⟨.int i,H,I.tok _,⟨_,rfl⟩,h⟩
theorem pe_bl {b j pos}:PE X (.Constant (.bool b) j pos) (tC (.bl b)):=fun _ _ _ H _ I h=>Constant_bool ⟨.bl b,H,I,rfl,h⟩
theorem pe_str {x j pos}:PE X (.Constant (.str x) j pos) (tC (.str x)):=fun _ _ _ H _ I h=>Calls.Constant_str ⟨.str x,H,I.tok _,⟨_,rfl⟩,h⟩
noncomputable def Gl (X:Cx) (x:Str):Prop:=X.env.kindOf x=some .globalImplicit
theorem ic {E:Value->Shared->Prop} {pins:List (Addr×Obj)} {s:Shared} {σ:St} {H:Hp} {x:Str} {u:Value} {pos:Pos} {Q:Value->Shared->Prop} (I:Inv X pins σ H s) (hg:Gl X x) (hm:X.mg x=some u) (h:Q u s)
  (hd:(x==("__debug__":Str))=false:=by decide):wpAny (model X.prog X.w) X.A (eval (.Name x pos) X.env) Q E s:=
 Calls.Name_function_global I.ok.kind hg (Calls.loadGlobal_global (by rw [I.ok.glob];exact I.mod.glob.keeps I.bk) hm h) hd
theorem hV {E:Value->Shared->Prop} {pins:List (Addr×Obj)} {s:Shared} {σ:St} {H:Hp} {x:Str} {u:Value} {pos:Pos} {Q:Value->Shared->Prop} (I:Inv X pins σ H s) (hg:Gl X x) (hm:X.mg x=none) (hv:bootBuiltins x=some u) (h:Q u s)
  (hn:x≠"__name__":=by decide) (hd:(x==("__debug__":Str))=false:=by decide):wpAny (model X.prog X.w) X.A (eval (.Name x pos) X.env) Q E s:=by
 obtain ⟨mb,h1,h2⟩:=I.mod.blt
 exact Calls.Name_function_global I.ok.kind hg (Calls.loadGlobal_builtin (by rw [I.ok.glob];exact I.mod.glob.keeps I.bk) hm (by rw [I.ok.blt];exact h1.keeps I.bk) ((h2 x hn).trans hv) h) hd
theorem pA {x:Str} {v:V} {u:Value} {pos:Pos} (hg:Gl X x) (hm:X.mg x=some u) (r:RelV v u) (hd:(x==("__debug__":Str))=false:=by decide):PE X (.Name x pos) (tC v):=
 fun _ _ _ H _ I h=>ic I hg hm ⟨v,H,I,r,h⟩ hd
theorem pe_bltn {x:Str} {v:V} {u:Value} {pos:Pos} (hg:Gl X x) (hm:X.mg x=none) (hv:bootBuiltins x=some u) (r:RelV v u) (hn:x≠"__name__":=by decide) (hd:(x==("__debug__":Str))=false:=by decide):PE X (.Name x pos) (tC v):=
 fun _ _ _ H _ I h=>hV I hg hm hv ⟨v,H,I,r,h⟩ hn hd
variable {a b:Expr} {ta tb:TE} {pos:Pos}
variable {tA tB':TT} {rest:List Expr}
noncomputable def tAnd (t u:TT):TT:=fun σ H Q=>t σ H fun c H1=>if c=true then u σ H1 Q else Q false H1
noncomputable def tOr (t u:TT):TT:=fun σ H Q=>t σ H fun c H1=>if c=true then Q true H1 else u σ H1 Q
noncomputable def tNot (t:TT):TT:=fun σ H Q=>t σ H fun c H1=>Q (!c) H1
theorem pw_and1 (ha:PT X a tA):PW X (.BoolOp .And [a] pos) tA:=by
 intro wh pins s σ H Q I h
 refine isTrue_and (thn (ha pins s σ H Q I h) fun c s1 e=>?_)
 cases c with
 |true=>exact isTrue_and_nil e
 |false=>exact e
theorem pw_or1 (ha:PT X a tA):PW X (.BoolOp .Or [a] pos) tA:=by
 intro wh pins s σ H Q I h
 refine isTrue_or (thn (ha pins s σ H Q I h) fun c s1 e=>?_)
 cases c with
 |false=>exact isTrue_or_nil e
 |true=>exact e
theorem pw_and (ha:PT X a tA) (hb:PW X (.BoolOp .And (b::rest) pos) tB'):PW X (.BoolOp .And (a::b::rest) pos) (tAnd tA tB'):=by
 intro wh pins s σ H Q I h
 refine isTrue_and (thn (ha pins s σ H _ I h) fun c s1 ⟨H1,I1,q1⟩=>?_)
 cases c with
 |true=>exact hb wh pins s1 σ H1 Q I1 q1
 |false=>exact ⟨H1,I1,q1⟩
theorem pw_or (ha:PT X a tA) (hb:PW X (.BoolOp .Or (b::rest) pos) tB'):PW X (.BoolOp .Or (a::b::rest) pos) (tOr tA tB'):=by
 intro wh pins s σ H Q I h
 refine isTrue_or (thn (ha pins s σ H _ I h) fun c s1 ⟨H1,I1,q1⟩=>?_)
 cases c with
 |true=>exact ⟨H1,I1,q1⟩
 |false=>exact hb wh pins s1 σ H1 Q I1 q1
theorem pt_not (ha:PT X a tA):PT X (.UnaryOp .Not a pos) (tNot tA):=by
 intro pins s σ H Q I h
 exact isTrue_not (ha pins s σ H (fun c H1=>Q (!c) H1) I h)
end
end L2
namespace L2
open PySem PySem.Spec PyProof.Rows
noncomputable def SqL (K:PySem.W.Frag) (H:Hp) (a:Addr) (xs:List V):Prop:=
 Rd H a (.lst xs) \/
  ∃(o:Obj) (its:Array Value) (n:Nat),K.lookup a=some o/\o.cls=.type "list"/\o.dict=none/\o.data=.seq its n/\its.size<=sizeLine/\Vals xs its.toList
noncomputable def SqT (K:PySem.W.Frag) (H:Hp) (a:Addr) (xs:List V):Prop:=
 Rd H a (.tup xs) \/
  ∃(o:Obj) (its:Array Value) (n:Nat),K.lookup a=some o/\o.cls=.type "tuple"/\o.data=.seq its n/\its.size<=sizeLine/\Vals xs its.toList
noncomputable def absV:Value->Option V
 |.none=>some .non
 |.bool b=>some (.bl b)
 |.int i _=>some (.int i)
 |.str x _=>some (.str x)
 |.bytes b _=>some (.byt b)
 |.float b _=>some (.flt b)
 |.ref a=>some (.ref a)
 |.type n=>some (.ty n)
 |_=>none
theorem RelV.abs {x:V} {u:Value} (r:RelV x u):absV u=some x:=by
 cases x with
 |non=>cases r;rfl
 |bl _=>cases r;rfl
 |int _=>obtain ⟨t,rfl⟩:=r;rfl
 |str _=>obtain ⟨t,rfl⟩:=r;rfl
 |byt _=>obtain ⟨t,rfl⟩:=r;rfl
 |flt _=>obtain ⟨t,rfl⟩:=r;rfl
 |ref _=>cases r;rfl
 |ty _=>cases r;rfl
theorem RelV.inj {x y:V} {u:Value} (r:RelV x u) (q:RelV y u):x=y:=Option.some.inj (r.abs.symm.trans q.abs)
theorem Vals.inj:∀{xs ys:List V} {us:List Value},Vals xs us->Vals ys us->xs=ys
 |_,_,_,.nil,.nil=>rfl
 |_,_,_,.cons r t,.cons r' t'=>by rw [r.inj r',Vals.inj t t']
section
variable {X:Cx} {pins:List (Addr×Obj)} {σ:St} {H:Hp} {s:Shared} {a:Addr} {xs ys:List V}
theorem SqL.of {K:PySem.W.Frag} (h:H a=some (.lst xs)):SqL K H a xs:=.inl (.inl h)
theorem SqT.of {K:PySem.W.Frag} (h:H a=some (.tup xs)):SqT K H a xs:=.inl (.inl h)
theorem Inv.list (I:Inv X pins σ H s) (h:SqL X.K H a xs):∃its:List Value,Vals xs its/\PlainL s.heap a its.toArray/\xs.length<=sizeLine:=by
 rcases h with h|⟨o,its,n,hk,hc,hd,hs,hz,r⟩
 ·obtain ⟨z,its,n,r,e⟩:=h.ok I.hok
  exact ⟨its,r,⟨_,n,e,rfl,rfl,rfl⟩,z⟩
 ·refine ⟨its.toList,r,⟨o,n,I.kIn a o hk,hc,hd,by simpa using hs⟩,?_⟩
  have e:=r.length
  simp only [Array.length_toList] at e
  omega
theorem Inv.tuple (I:Inv X pins σ H s) (h:SqT X.K H a xs):∃its:List Value,Vals xs its/\IsTup s.heap a its.toArray/\xs.length<=sizeLine:=by
 rcases h with h|⟨o,its,n,hk,hc,hs,hz,r⟩
 ·obtain ⟨z,its,r,p⟩:=h.ok I.hok
  exact ⟨its,r,p,z⟩
 ·refine ⟨its.toList,r,⟨o,I.kIn a o hk,hc,n,by simpa using hs⟩,?_⟩
  have e:=r.length
  simp only [Array.length_toList] at e
  omega
theorem Inv.jB (I:Inv X pins σ H s) (h:SqL X.K H a xs) (h':SqL X.K H a ys):xs=ys:=by
 obtain ⟨its,r,⟨o,n,e,_,_,d⟩,_⟩:=I.list h
 obtain ⟨its',r',⟨o',n',e',_,_,d'⟩,_⟩:=I.list h'
 rw [e] at e';cases e'
 rw [d] at d'
 injection d' with d1 _
 have:its=its':=by simpa using congrArg Array.toList d1
 subst this
 exact r.inj r'
theorem Inv.nh (I:Inv X pins σ H s) (h:SqT X.K H a xs) (h':SqT X.K H a ys):xs=ys:=by
 obtain ⟨its,r,⟨o,e,_,n,d⟩,_⟩:=I.tuple h
 obtain ⟨its',r',⟨o',e',_,n',d'⟩,_⟩:=I.tuple h'
 rw [e] at e';cases e'
 rw [d] at d'
 injection d' with d1 _
 have:its=its':=by simpa using congrArg Array.toList d1
 subst this
 exact r.inj r'
end
noncomputable abbrev Cx.oM (X:Cx) (E:Value->Shared->Prop):Cx:={X with xe:=E}
noncomputable abbrev Cx.nox (X:Cx):Cx:=X.oM fun _ _=>False
theorem Cx.Ok.oM {X:Cx} (ok:X.Ok) (E:Value->Shared->Prop):(X.oM E).Ok:=
 ⟨ok.mod,ok.kind,ok.glob,ok.blt,ok.above,ok.inj,ok.has,ok.cab,ok.hd,ok.frames,ok.stk,ok.exf,ok.bs,ok.bsz,ok.noex,ok.exfs,ok.oQ,ok.frf⟩
theorem Cx.Ok.gn {X:Cx} {E:Value->Shared->Prop} (ok:(X.oM E).Ok):X.Ok:=
 ⟨ok.mod,ok.kind,ok.glob,ok.blt,ok.above,ok.inj,ok.has,ok.cab,ok.hd,ok.frames,ok.stk,ok.exf,ok.bs,ok.bsz,ok.noex,ok.exfs,ok.oQ,ok.frf⟩
section
variable {X:Cx} {pins:List (Addr×Obj)} {σ:St} {H:Hp} {s:Shared} {E:Value->Shared->Prop}
theorem Inv.oM (I:Inv X pins σ H s) (E:Value->Shared->Prop):Inv (X.oM E) pins σ H s:=⟨I.ok.oM E,I.os,I.bare,I.base,I.loc,I.cell,I.free,I.freeC,I.pin,I.hok,I.len⟩
theorem Inv.gn (I:Inv (X.oM E) pins σ H s):Inv X pins σ H s:=⟨I.ok.gn,I.os,I.bare,I.base,I.loc,I.cell,I.free,I.freeC,I.pin,I.hok,I.len⟩
theorem SP.gn {D:Ends} {f:Flow} {s':Shared} (h:SP (X.oM E) pins D f s'):SP X pins D f s':=by
 cases f with
 |next=>obtain ⟨σ',H',I,q⟩:=h;exact ⟨σ',H',I.gn,q⟩
 |brk=>obtain ⟨σ',H',I,q⟩:=h;exact ⟨σ',H',I.gn,q⟩
 |cont=>obtain ⟨σ',H',I,q⟩:=h;exact ⟨σ',H',I.gn,q⟩
 |ret u=>obtain ⟨v,σ',H',I,r,q⟩:=h;exact ⟨v,σ',H',I.gn,r,q⟩
theorem PT.nox {e:Expr} {t:TT} (h:PT X.nox e t):PT X e t:=fun pins s σ H Q I hw=>
 wpAny_mono (h pins s σ H Q (I.oM _) hw) (fun _ _ ⟨H',I',q⟩=>⟨H',I'.gn,q⟩) fun _ _ z=>False.elim z
theorem PSs.nox {st:List Stmt} {t:TS} (h:PSs X.nox st t):PSs X st t:=fun pins s σ H D I hw=>
 wpAny_mono (h pins s σ H D (I.oM _) hw) (fun _ _ q=>q.gn) fun _ _ z=>False.elim z
end
section
variable {X:Cx} {st:Stmt} {rest:List Stmt} {t u:TS} {e:Expr} {te:TE} {pos:Pos}
noncomputable def pe:TS:=fun D σ H=>D.nx σ H
noncomputable def oN (t u:TS):TS:=fun D σ H=>t {D with nx:=u D} σ H
theorem px:PSs X [] pe:=fun _ _ σ H _ I h=>wpAny_execs_nil ⟨σ,H,I,h⟩
theorem eV (h1:PS X st t) (h2:PSs X rest u):PSs X (st::rest) (oN t u):=by
 intro pins s σ H D I h
 refine wpAny_execs_cons (thn (h1 pins s σ H {D with nx:=u D} I h) fun f s1 q=>?_)
 cases f with
 |next=>
  obtain ⟨σ',H',I',q⟩:=q
  exact h2 pins s1 σ' H' D I' q
 |ret v=>exact q
 |brk=>exact q
 |cont=>exact q
theorem j8 (h1:PS X st t):PSs X [st] t:=by
 intro pins s σ H D I h
 refine wpAny_execs_cons (thn (h1 pins s σ H D I h) fun f s1 q=>?_)
 cases f with
 |next=>exact wpAny_execs_nil q
 |ret v=>exact q
 |brk=>exact q
 |cont=>exact q
theorem Inv.quiet {pins:List (Addr×Obj)} {σ:St} {H:Hp} {s:Shared} (I:Inv X pins σ H s):interactive X.env=false:=by simp [interactive,I.ok.kind]
noncomputable def jO (te:TE):TS:=fun D σ H=>te σ H fun _ H1=>D.nx σ H1
theorem jS (he:PE X e te) (hs:swapsWith e none pos.line X.env=pure false:=by rfl):PS X (.Expr e pos) (jO te):=by
 intro pins s σ H D I h
 exact wpAny_Expr_any (thn (he pins s σ H _ I h) fun v s1 ⟨x,H1,I1,r1,q1⟩=>⟨σ,H1,I1,q1⟩) I.quiet hs
noncomputable def tRet (te:TE):TS:=fun D σ H=>te σ H D.rt
theorem ug (he:PE X e te):PS X (.Return (some e) pos) (tRet te):=by
 intro pins s σ H D I h
 exact wpAny_Return_some (thn (he pins s σ H _ I h) fun v s1 ⟨x,H1,I1,r1,q1⟩=>⟨x,σ,H1,I1,r1,q1⟩)
noncomputable def tIfS (c:TT) (t u:TS):TS:=fun D σ H=>c σ H fun b H1=>if b=true then t D σ H1 else u D σ H1
theorem ps_if {c:Expr} {a b:List Stmt} {tc:TT} (hc:PT X c tc) (ha:PSs X a t) (hb:PSs X b u):PS X (.If c a b pos) (tIfS tc t u):=by
 intro pins s σ H D I h
 refine wpAny_If (thn (hc pins s σ H _ I h) fun d s1 ⟨H1,I1,q1⟩=>?_)
 cases d with
 |true=>exact ha pins s1 σ H1 D I1 q1
 |false=>exact hb pins s1 σ H1 D I1 q1
end
noncomputable abbrev TG:=V->St->Hp->(St->Hp->Prop)->Prop
noncomputable abbrev TGs:=List V->St->Hp->(St->Hp->Prop)->Prop
noncomputable def PG (X:Cx) (target:Expr) (t:TG):Prop:=
 ∀(pins:List (Addr×Obj)) (s:Shared) (σ:St) (H:Hp) (v:V) (u:Value) (Q:St->Hp->Prop),Inv X pins σ H s->RelV v u->t v σ H Q ->
  wpAny (model X.prog X.w) X.A (assign target X.env u) (fun _ s'=>∃σ' H',Inv X pins σ' H' s'/\Q σ' H') X.xe s
noncomputable def PGs (X:Cx) (ts:List Expr) (t:TGs):Prop:=
 ∀(pins:List (Addr×Obj)) (s:Shared) (σ:St) (H:Hp) (vs:List V) (us:List Value) (Q:St->Hp->Prop),Inv X pins σ H s->Vals vs us->t vs σ H Q ->
  wpAny (model X.prog X.w) X.A (assignInOrder ((assignEach ts X.env).map (·.2)) us) (fun _ s'=>∃σ' H',Inv X pins σ' H' s'/\Q σ' H') X.xe s
section
variable {X:Cx} {pos:Pos}
noncomputable def g8 (i:Nat):TG:=fun v σ H Q=>Q (σ.set i (some v)) H
theorem jW {i:Nat} {x:Str} (hN:X.N.Nodup) (hi:X.N[i]? =some x) (hx:Loc X.env.scope x) (hf:X.fn x=true\/X.env.scope.names.lookup x=some .local:=by first|exact .inl rfl|exact .inr rfl|assumption):PG X (.Name x pos) (g8 i):=by
 intro pins s σ H v u Q I r h
 exact wpAny_assign_Name (jw I hN hi hx r (fun s' I'=>⟨_,H,I',h⟩) hf)
noncomputable def gNil:TGs:=fun vs σ H Q=>vs=[]/\Q σ H
noncomputable def gCons (t:TG) (u:TGs):TGs:=fun vs σ H Q=>∃v r,vs=v::r/\t v σ H fun σ' H'=>u r σ' H' Q
theorem pgs_nil:PGs X [] gNil:=by
 intro pins s σ H vs us Q I r h
 obtain ⟨e,h⟩:=h
 subst e
 cases r
 exact assignInOrder_nil ⟨σ,H,I,h⟩
theorem qz {e:Expr} {es:List Expr} {t:TG} {u:TGs} (h1:PG X e t) (h2:PGs X es u)
  (hs:(assignEach (e::es) X.env).map (·.2)=assign e X.env::(assignEach es X.env).map (·.2):=by rfl):PGs X (e::es) (gCons t u):=by
 intro pins s σ H vs us Q I r h
 obtain ⟨v,vr,e1,h⟩:=h
 subst e1
 cases r with
 |cons r rr=>
  rw [hs]
  refine assignInOrder_cons (thn (h1 pins s σ H _ _ _ I r h) fun _ s1 ⟨σ1,H1,I1,q1⟩=>?_)
  exact h2 pins s1 σ1 H1 _ _ Q I1 rr q1
noncomputable def gTup (K:PySem.W.Frag) (n:Nat) (t:TGs):TG:=fun v σ H Q=>∃a xs,v=.ref a/\SqT K H a xs/\xs.length=n/\t xs σ H Q
theorem pg_tup {es:List Expr} {k:Nat} {t:TGs} {n:Nat} (hc:X.calm=true) (h:PGs X es t)
  (hn:(assignEach es X.env).length=n:=by rfl) (hst:(assignEach es X.env).findIdx? (·.1)=none:=by rfl):PG X (.Tuple es k pos) (gTup X.K n t):=by
 intro pins s σ H v u Q I r hw
 obtain ⟨a,xs,e1,hq,hl,hw⟩:=hw
 subst e1
 cases r
 obtain ⟨its,rv,ht,hz⟩:=I.tuple hq
 refine assign_Tuple_tuple (I.ok.hd hc) ht (by simp [hn,<- hl,rv.length]) hst fun h' hx=>?_
 have I1:Inv X pins σ H {s with heap:=h'}:=I.kept (t':=s.toks) fun b o e=>hx b o (Nat.ne_of_lt (Heap.lt_size e)) e
 exact h pins _ σ H xs _ Q I1 (by simpa using rv) hw
noncomputable def tAsg (te:TE) (g:TG):TS:=fun D σ H=>te σ H fun x H1=>g x σ H1 D.nx
theorem qy {i:Nat} {x:Str} {e:Expr} {te:TE} {pos':Pos} (hN:X.N.Nodup) (hi:X.N[i]? =some x) (hx:Loc X.env.scope x) (he:PE X e te) (hs:swapsWith e (some (.Name x pos')) pos.line X.env=pure false:=by rfl) (hf:X.fn x=true\/X.env.scope.names.lookup x=some .local:=by first|exact .inl rfl|exact .inr rfl|assumption) :
  PS X (.Assign [.Name x pos'] e pos) (tAsg te (g8 i)):=by
 intro pins s σ H D I h
 refine wpAny_Assign_Name (thn (he pins s σ H _ I h) fun v s1 ⟨y,H1,I1,r1,q1⟩=>?_) hs
 exact jw I1 hN hi hx r1 (fun s2 I2=>⟨_,H1,I2,q1⟩) hf
end
structure It where
 go:Nat->Hp->Prop
 yld:Nat->Hp->V->Hp->Prop
 stop:Nat->Hp->Prop
noncomputable def t9 (X:Cx) (pins:List (Addr×Obj)) (H:Hp) (b:Addr):Prop:=
 H b=none/\b≠X.env.locals/\b∉X.fs/\(b∈X.ex\/X.s₀.heap.objs.size<=b)/\(∀x c,X.env.cells.lookup x=some c->c≠b)/\∀p∈X.pn++pins,p.1≠b
theorem Inv.fpOk {X:Cx} {pins:List (Addr×Obj)} {σ:St} {H H':Hp} {s:Shared} {b:Addr} (I:Inv X pins σ H s) (hb:s.heap.objs.size<=b) (hn:H' b=none):t9 X pins H' b:=by
 refine ⟨hn,Nat.ne_of_gt (Nat.lt_of_lt_of_le I.lt hb),I.nofs hb,.inr (Nat.le_trans I.sz hb),fun x c e z=>?_,fun p hp z=>?_⟩
 ·obtain ⟨v,q⟩:=I.cell x c e
  exact absurd (Nat.lt_of_lt_of_le q.lt (by rw [z];exact hb)) (Nat.lt_irrefl _)
 ·exact absurd (Nat.lt_of_lt_of_le (Heap.lt_size (I.pin p hp).1) (by rw [z];exact hb)) (Nat.lt_irrefl _)
structure Turn (P:Program) (w:World) (K:PySem.W.Frag) (tg:Expr) (J:It) (fp:List Addr) (it:Addr) (tn:Nat->Heap->Prop):Prop where
 mem:it∈fp
 obj:∀i h,tn i h->∀b∈fp,∃o,h.get? b=some o/\∀v,o.data≠.cell v
 keep:∀i h h',tn i h->(∀b∈fp,∀o,h.get? b=some o->h'.get? b=some o)->tn i h'
 item:∀(X:Cx),X.prog=P->X.w=w->X.K=K->X.calm=true->∀(i:Nat) (pins:List (Addr×Obj)) (s:Shared) (σ:St) (H:Hp) (E:Value->Shared->Prop),Inv X pins σ H s->(∀b∈fp,t9 X pins H b)->tn i s.heap->J.go i H ->
  wpAny (model P w) X.A (pyNext (.ref it)) (fun r s1=>∃u,r=some u /\
   wpAny (model P w) X.A (letOwnedTupleGo tg (.ref it) u) (fun _ s2=>∃x H',Inv X pins σ H' s2/\RelV x u/\J.yld i H x H'/\tn (i+1) s2.heap/\∀b∈fp,H' b=none) E s1) E s
 done:∀(X:Cx),X.prog=P->X.w=w->X.K=K->X.calm=true->∀(i:Nat) (pins:List (Addr×Obj)) (s:Shared) (σ:St) (H:Hp) (E:Value->Shared->Prop),Inv X pins σ H s->(∀b∈fp,t9 X pins H b)->tn i s.heap->J.stop i H ->
  wpAny (model P w) X.A (pyNext (.ref it)) (fun r s1=>r=none/\Inv X pins σ H s1) E s
 self:∀(A:Around) (i:Nat) (s:Shared) (Q:Value->Shared->Prop) (E:Value->Shared->Prop),tn i s.heap->Q (.ref it) s->wpAny (model P w) A (pyIter (.ref it)) Q E s
noncomputable abbrev TI:=St->Hp->(It->Hp->Prop)->Prop
noncomputable def PIE (X:Cx) (pins:List (Addr×Obj)) (σ:St) (tg:Expr) (R:It->Hp->Prop) (itv:Value) (s2:Shared):Prop:=
 ∃(it:Addr) (fp:List Addr) (tn:Nat->Heap->Prop) (J:It) (H':Hp),itv=.ref it/\Inv X pins σ H' s2/\Turn X.prog X.w X.K tg J fp it tn/\tn 0 s2.heap/\(∀b∈fp,t9 X pins H' b)/\R J H'
noncomputable def PI (X:Cx) (tg iter:Expr) (wi:TI):Prop:=
 ∀(pins:List (Addr×Obj)) (s:Shared) (σ:St) (H:Hp) (R:It->Hp->Prop),Inv X pins σ H s->wi σ H R ->
  wpAny (model X.prog X.w) X.A (eval iter X.env) (fun v s1=>wpAny (model X.prog X.w) X.A (pyIter v) (PIE X pins σ tg R) X.xe s1) X.xe s
theorem go_of {M : Model} {A : Around} {E : Value -> Shared -> Prop} {s : Shared} {tg : Expr} {it : Addr} {u : Value} {o : Obj} {n : String} {vs : Array Value} {Q : Unit -> Shared -> Prop} (ho : s.heap.get? it = some o) (hc : o.cls = .type n) (hd : o.data = .fields vs)
    (hn : ["enumerate", "zip", "dict_itemiterator", "dict_reverseitemiterator", "odict_iterator", "itertools.zip_longest", "itertools.pairwise"].contains n = false) (hQ : Q () s) : wpAny M A (letOwnedTupleGo tg (.ref it) u) Q E s := by
  unfold letOwnedTupleGo
  cases tg <;> first
    | exact wpAny_pure hQ
    | (cases u <;> first
        | exact wpAny_pure hQ
        | (refine wpAny_bind (wpAny_load ho ?_)
           rw [hc, hd]
           show wpAny M A (if (["enumerate", "zip", "dict_itemiterator", "dict_reverseitemiterator", "odict_iterator", "itertools.zip_longest", "itertools.pairwise"].contains n && vs[0]? == some (rawInt _)) = true then _ else _) Q E s
           rw [if_neg (by intro h; rw [hn, Bool.false_and] at h; cases h)]
           exact wpAny_pure hQ))
noncomputable def Itl (K:PySem.W.Frag) (a:Addr):It:=
 ⟨fun i H=>∃xs x,SqL K H a xs/\xs[i]? =some x,fun i H x H'=>H'=H/\∀xs,SqL K H a xs->xs[i]? =some x,fun i H=>∃xs,SqL K H a xs/\xs.length<=i⟩
noncomputable def Itt (K:PySem.W.Frag) (a:Addr):It:=
 ⟨fun i H=>∃xs x,SqT K H a xs/\xs[i]? =some x,fun i H x H'=>H'=H/\∀xs,SqT K H a xs->xs[i]? =some x,fun i H=>∃xs,SqT K H a xs/\xs.length<=i⟩
noncomputable def Itr (lo:Int) (n:Nat):It:=⟨fun i _=>i<n,fun i H x H'=>H'=H/\x=.int (lo+i),fun i _=>n<=i⟩
theorem n6 {P:Program} {w:World} {K:PySem.W.Frag} {tg:Expr} (a it:Addr):Turn P w K tg (Itl K a) [it] it (fun i h=>h.IsListIter it a i) where
 mem:=by simp
 obj:=fun i h st b hb=>by
  have e:b=it:=by simpa using hb
  subst e
  obtain ⟨o,e,c,d⟩:=st
  exact ⟨o,e,fun v z=>by rw [d] at z;cases z⟩
 keep:=fun i h h' st k=>st.at fun o e=>k it (by simp) o e
 item:=by
  intro X hP hw hK hc i pins s σ H E I hf st hg
  subst hP hw hK
  obtain ⟨xs,x,hq,hx⟩:=hg
  obtain ⟨its,rv,p,hz⟩:=I.list hq
  obtain ⟨u,hu,ru⟩:=rv.get hx
  obtain ⟨f0,f1,f2,f3,f4,f5⟩:=hf it (by simp)
  refine wpAny_pyNext_list_item st p.isList (x:=u) (by simpa using hu) fun h' st' sb=>?_
  have I1:Inv X pins σ H {s with heap:=h'}:=I.turned (t':=s.toks) (fun b o hb e=>(sb.2 b hb).trans e) f0 f1 f3 f4 f5
  obtain ⟨o,e,c,d⟩:=id st'
  exact ⟨u,rfl,go_of (s:={s with heap:=h'}) e c d (by decide) ⟨x,H,I1,ru,⟨rfl,fun ys hy=>by rw [I.jB hy hq];exact hx⟩,st',fun b hb=>(hf b hb).1⟩⟩
 done:=by
  intro X hP hw hK hc i pins s σ H E I hf st hg
  subst hP hw hK
  obtain ⟨xs,hq,hx⟩:=hg
  obtain ⟨its,rv,p,hz⟩:=I.list hq
  obtain ⟨f0,f1,f2,f3,f4,f5⟩:=hf it (by simp)
  have hl:=rv.length
  exact wpAny_pyNext_list_end (I.ok.hd hc) st p.isList (by simp;omega) fun h' eb=>⟨rfl,I.turned (t':=s.toks) (fun b o hb e=>eb b o hb e) f0 f1 f3 f4 f5⟩
 self:=fun _ _ _ _ _ st h=>wpAny_pyIter_listiter st h
theorem kW {P:Program} {w:World} {K:PySem.W.Frag} {tg:Expr} (a it:Addr):Turn P w K tg (Itt K a) [it] it (fun i h=>h.IsTupleIter it a i) where
 mem:=by simp
 obj:=fun i h st b hb=>by
  have e:b=it:=by simpa using hb
  subst e
  obtain ⟨o,e,c,d⟩:=st
  exact ⟨o,e,fun v z=>by rw [d] at z;cases z⟩
 keep:=fun i h h' st k=>st.at fun o e=>k it (by simp) o e
 item:=by
  intro X hP hw hK hc i pins s σ H E I hf st hg
  subst hP hw hK
  obtain ⟨xs,x,hq,hx⟩:=hg
  obtain ⟨its,rv,p,hz⟩:=I.tuple hq
  obtain ⟨u,hu,ru⟩:=rv.get hx
  obtain ⟨f0,f1,f2,f3,f4,f5⟩:=hf it (by simp)
  refine wpAny_pyNext_tuple_item st (show s.heap.IsTuple a its.toArray from p) (x:=u) (by simpa using hu) fun h' st' sb=>?_
  have I1:Inv X pins σ H {s with heap:=h'}:=I.turned (t':=s.toks) (fun b o hb e=>(sb.2 b hb).trans e) f0 f1 f3 f4 f5
  obtain ⟨o,e,c,d⟩:=id st'
  exact ⟨u,rfl,go_of (s:={s with heap:=h'}) e c d (by decide) ⟨x,H,I1,ru,⟨rfl,fun ys hy=>by rw [I.nh hy hq];exact hx⟩,st',fun b hb=>(hf b hb).1⟩⟩
 done:=by
  intro X hP hw hK hc i pins s σ H E I hf st hg
  subst hP hw hK
  obtain ⟨xs,hq,hx⟩:=hg
  obtain ⟨its,rv,p,hz⟩:=I.tuple hq
  obtain ⟨f0,f1,f2,f3,f4,f5⟩:=hf it (by simp)
  have hl:=rv.length
  exact wpAny_pyNext_tuple_end (I.ok.hd hc) st (show s.heap.IsTuple a its.toArray from p) (by simp;omega) fun h' eb=>⟨rfl,I.turned (t':=s.toks) (fun b o hb e=>eb b o hb e) f0 f1 f3 f4 f5⟩
 self:=fun _ _ _ _ _ st h=>wpAny_pyIter_tupleiter st h
theorem rO {P:Program} {w:World} {K:PySem.W.Frag} {tg:Expr} (it:Addr) (lo:Int) (n:Nat):Turn P w K tg (Itr lo n) [it] it (fun i h=>IsRangeIter h it (lo+(i:Nat)*1) ((n:Int)-(i:Nat)) 1) where
 mem:=by simp
 obj:=fun i h st b hb=>by
  have e:b=it:=by simpa using hb
  subst e
  exact ⟨_,st,fun v z=>by
   have z':Data.fields _=Data.cell v:=z
   cases z'⟩
 keep:=fun i h h' st k=>k it (by simp) _ st
 item:=by
  intro X hP hw hK hc i pins s σ H E I hf st hg
  subst hP hw hK
  obtain ⟨f0,f1,f2,f3,f4,f5⟩:=hf it (by simp)
  have W:=Walks.range (prog:=X.prog) (w:=X.w) (I.ok.hd hc) it lo 1 n
  refine W.item i s _ _ hg st fun v h' tk hv st' kk=>?_
  obtain ⟨t,rfl⟩:=hv
  have I1:Inv X pins σ H {s with heap:=h',toks:=tk}:=I.turned (fun b o hb e=>kk b o (by simpa using hb) e) f0 f1 f3 f4 f5
  refine ⟨_,rfl,go_of (s:={s with heap:=h',toks:=tk}) (n:="range_iterator") st' rfl rfl (by decide) ⟨.int (lo+i),H,I1,⟨t,?_⟩,⟨rfl,rfl⟩,st',fun b hb=>(hf b hb).1⟩⟩
  rw [Int.mul_one]
 done:=by
  intro X hP hw hK hc i pins s σ H E I hf st hg
  subst hP hw hK
  obtain ⟨f0,f1,f2,f3,f4,f5⟩:=hf it (by simp)
  exact wpAny_pyNext_range_end (I.ok.hd hc) st (by have:n<=i:=hg;omega) fun h' eb=>⟨rfl,I.turned (t':=s.toks) (fun b o hb e=>eb b o hb e) f0 f1 f3 f4 f5⟩
 self:=fun _ _ _ _ _ st h=>wpAny_pyIter_rangeiter st h
end L2
namespace L2
open PySem PySem.Spec PyProof.Rows
section
variable {X:Cx} {tg:Expr}
theorem qw {pins:List (Addr×Obj)} {σ:St} {H:Hp} {s:Shared} {R:It->Hp->Prop} {E:Value->Shared->Prop} {lo hi:Int} {t u v:Tok} {tk:Nat} (I:Inv X pins σ H s) (h1: -(2^62)<=lo) (h2:lo<2^62) (h3: -(2^62)<=hi) (h4:hi<2^62)
  (q:R (Itr lo (hi-lo).toNat) H):wpAny (model X.prog X.w) X.A (pyIter (.ref s.heap.objs.size)) (PIE X pins σ tg R) E {s with heap:=s.heap.push {cls:=.type "range",data:=.fields #[.int lo t,.int hi u,.int 1 v]},toks:=tk}:=by
 refine wpAny_pyIter_range (IsRange.new ..) (small_one h1 h2 h3 h4) ?_
 have I1:Inv X pins σ H {s with heap:=s.heap.push {cls:=.type "range",data:=.fields #[.int lo t,.int hi u,.int 1 v]},toks:=tk}:=I.kept fun b o e=>Heap.get?_push_of_some _ e
 refine ⟨(s.heap.push {cls:=.type "range",data:=.fields #[.int lo t,.int hi u,.int 1 v]}).objs.size,[(s.heap.push {cls:=.type "range",data:=.fields #[.int lo t,.int hi u,.int 1 v]}).objs.size],_,_,H,rfl,
  I1.kept (t':=tk) fun b o e=>Heap.get?_push_of_some _ e,rO _ lo (hi-lo).toNat,?_,fun b hb=>?_,q⟩
 ·have e1:lo+((0:Nat):Int)*1=lo:=by simp
  have e2:(((hi-lo).toNat:Nat):Int)-((0:Nat):Int)=Builtin.Range.rangeSize lo hi 1:=by rw [rangeSize_one];split<;>omega
  show IsRangeIter _ _ (lo+((0:Nat):Int)*1) ((((hi-lo).toNat:Nat):Int)-((0:Nat):Int)) 1
  rw [e1,e2]
  exact Heap.get?_push_size _ rfl
 ·have e:b=(s.heap.push {cls:=.type "range",data:=.fields #[.int lo t,.int hi u,.int 1 v]}).objs.size:=by simpa using hb
  subst e
  exact I1.fpOk (Nat.le_refl _) (I1.hok.fresh (Nat.le_refl _))
noncomputable def iRng1 (ta:TA):TI:=fun σ H R=>ta σ H fun vs H1=>∃j:Int,vs=[.int j]/\ -(2^62)<=j/\j<2^62/\R (Itr 0 j.toNat) H1
noncomputable def iRng2 (ta:TA):TI:=fun σ H R=>ta σ H fun vs H1=>∃i j:Int,vs=[.int i,.int j]/\(-(2^62)<=i/\i<2^62/\ -(2^62)<=j/\j<2^62)/\R (Itr i (j-i).toNat) H1
theorem um {a:Expr} {ta:TA} {p pos:Pos} (hg:Gl X "range") (hm:X.mg "range"=none) (ha:PA X [a] ta) (hs:starEach [a] X.env=[(false,eval a X.env)]:=by rfl):PI X tg (.Call (.Name "range" p) [a] [] pos) (iRng1 ta):=by
 intro pins s σ H R I h
 refine Call_ (hV I hg hm boot_range (PyProof.Rows.callWith_type1 (thn (ha pos pins s σ H _ I h) fun us s1 ⟨vs,H1,I1,r1,q1⟩=>?_) hs rfl))
 obtain ⟨j,e,q1,q2,q⟩:=q1
 subst e
 cases r1 with
 |cons r rr=>
  cases rr
  obtain ⟨t,rfl⟩:=r
  exact call_range_1 (qw I1 (by omega) (by omega) q1 q2 (by simpa using q))
theorem uk {a b:Expr} {ta:TA} {p pos:Pos} (hg:Gl X "range") (hm:X.mg "range"=none) (ha:PA X [a,b] ta) (hs:starEach [a,b] X.env=[(false,eval a X.env),(false,eval b X.env)]:=by rfl) (hs2:starEach [b] X.env=[(false,eval b X.env)]:=by rfl) :
  PI X tg (.Call (.Name "range" p) [a,b] [] pos) (iRng2 ta):=by
 intro pins s σ H R I h
 refine Call_ (hV I hg hm boot_range (PyProof.Rows.callWith_type1 (thn (ha pos pins s σ H _ I h) fun us s1 ⟨vs,H1,I1,r1,q1⟩=>?_) (by rw [hs,hs2]) (by rw [hs2];rfl)))
 obtain ⟨i,j,e,⟨q1,q2,q3,q4⟩,q⟩:=q1
 subst e
 cases r1 with
 |cons r rr=>
  cases rr with
  |cons r' rr=>
   cases rr
   obtain ⟨t,rfl⟩:=r
   obtain ⟨t',rfl⟩:=r'
   exact call_range_2 (qw I1 q1 q2 q3 q4 q)
noncomputable def tFor (wi:TI) (g:TG) (tb:TS):TS:=fun D σ H=>wi σ H fun J H1=>∃W:Nat->Nat->St->Hp->Prop,(∃m,W 0 m σ H1)/\∀i m σ H,W i m σ H ->
 (J.stop i H/\D.nx σ H)\/(J.go i H/\∃N:St->Hp->Prop,(∀σ' H',N σ' H'->∃m',m'<m/\W (i+1) m' σ' H')/\∀x H',J.yld i H x H'->g x σ H' fun σ2 H2=>tb {D with nx:=N,ct:=N,bk:=D.nx} σ2 H2)
noncomputable def nG (fp:List Addr) (h:Heap):List (Addr×Obj):=fp.filterMap fun b=>(h.get? b).map fun o=>(b,o)
theorem gL {fp:List Addr} {h:Heap} {b:Addr} {o:Obj} (hb:b∈fp) (e:h.get? b=some o):(b,o)∈nG fp h:=List.mem_filterMap.mpr ⟨b,hb,by rw [e];rfl⟩
theorem uC {fp:List Addr} {h:Heap} {p:Addr×Obj} (hp:p∈nG fp h):p.1∈fp/\h.get? p.1=some p.2:=by
 obtain ⟨b,hb,e⟩:=List.mem_filterMap.mp hp
 cases q:h.get? b with
 |none=>rw [q] at e;cases e
 |some o=>
  rw [q] at e
  have e':(b,o)=p:=Option.some.inj e
  subst e'
  exact ⟨hb,q⟩
theorem Inv.pinned {pins:List (Addr×Obj)} {σ:St} {H:Hp} {s:Shared} {fp:List Addr} (I:Inv X pins σ H s) (hf:∀b∈fp,t9 X pins H b) (ho:∀b∈fp,∃o,s.heap.get? b=some o/\∀v,o.data≠.cell v):Inv X (pins++nG fp s.heap) σ H s:=
 I.ma fun p hp=>(List.mem_append.mp hp).elim (fun z=>I.pin p (List.mem_append_right _ z)) fun z=>by
  obtain ⟨hb,e⟩:=uC z
  obtain ⟨f0,f1,f2,_⟩:=hf p.1 hb
  obtain ⟨o,e',d⟩:=ho p.1 hb
  rw [e] at e';cases e'
  exact ⟨e,f0,f1,f2,d⟩
theorem Inv.lT {pins pl:List (Addr×Obj)} {σ:St} {H:Hp} {s:Shared} (I:Inv X (pins++pl) σ H s):Inv X pins σ H s:=I.ma fun p hp=>I.pin p (List.mem_append_right _ (List.mem_append_left _ hp))
theorem uh {iter:Expr} {body:List Stmt} {wi:TI} {g:TG} {tb:TS} {pos:Pos} (hp:PassesOwn (model X.prog X.w) X.A X.env X.xe) (hc:X.calm=true) (hi:PI X tg iter wi) (hg:PG X tg g) (hb:PSs X body tb)
  (hs:∀x,foldedSetIterable iter X.env x=pure x:=by intro _;rfl):PS X (.For tg iter body [] pos) (tFor wi g tb):=by
 intro pins s σ H D I h
 refine wpAny_For (thn (hi pins s σ H _ I h) fun v s1 h1=>thn h1 fun itv s2 h2=>?_) hs
 obtain ⟨it,fp,tn,J,H2,e,I2,T,st2,f2,W,⟨m0,w0⟩,turn⟩:=h2
 subst e
 have stat:∀{H':Hp},(∀b∈fp,H' b=none)->∀b∈fp,t9 X pins H' b:=fun hn b hb=>⟨hn b hb,(f2 b hb).2⟩
 refine codeAny_forLoop_any (fun n s'=>∃i σ' H',Inv X pins σ' H' s'/\tn i s'.heap/\(∀b∈fp,H' b=none)/\W i n σ' H') ?_ m0 ⟨0,σ,H2,I2,st2,fun b hb=>(f2 b hb).1,w0⟩
 rintro n s3 ⟨i,σ3,H3,I3,st3,fr3,w3⟩
 rcases turn i n σ3 H3 w3 with ⟨stop,qn⟩|⟨go,N,hN,step⟩
 ·refine wpAny_passesOwn hp (thn (T.done X rfl rfl rfl hc i pins s3 σ3 H3 X.xe I3 (stat fr3) st3 stop) fun r s4 ⟨hr,I4⟩=>?_)
  subst hr
  exact wpAny_execs_nil ⟨σ3,H3,I4,qn⟩
 ·refine wpAny_passesOwn hp (thn (T.item X rfl rfl rfl hc i pins s3 σ3 H3 X.xe I3 (stat fr3) st3 go) fun r s4 ⟨u,hr,h4⟩=>?_)
  subst hr
  refine wpAny_passesOwn hp (thn h4 fun _ s5 ⟨x,H5,I5,r5,y5,st5,fr5⟩=>?_)
  have I5':=I5.pinned (stat fr5) (T.obj _ _ st5)
  refine wpAny_passesOwn hp (thn (hg _ s5 σ3 H5 x u _ I5' r5 (step x H5 y5)) fun _ s6 ⟨σ6,H6,I6,q6⟩=>?_)
  refine wpAny_passesOwn hp (thn (hb _ s6 σ6 H6 _ I6 q6) fun f s7 q7=>?_)
  have again:∀{σ7:St} {H7:Hp},Inv X (pins++nG fp s5.heap) σ7 H7 s7->N σ7 H7->∃m,m<n/\∃i σ' H',Inv X pins σ' H' s7/\tn i s7.heap/\(∀b∈fp,H' b=none)/\W i m σ' H':=fun {σ7 H7} I7 n7=>by
   obtain ⟨m',hm,w7⟩:=hN σ7 H7 n7
   refine ⟨m',hm,i+1,σ7,H7,I7.lT,T.keep _ _ _ st5 fun b hb o e=>(I7.pin (b,o) (List.mem_append_right _ (List.mem_append_right _ (gL hb e)))).1,fun b hb=>?_,w7⟩
   obtain ⟨o,e,d⟩:=T.obj _ _ st5 b hb
   exact (I7.pin (b,o) (List.mem_append_right _ (List.mem_append_right _ (gL hb e)))).2.1
  cases f with
  |next=>obtain ⟨σ7,H7,I7,n7⟩:=q7;exact again I7 n7
  |cont=>obtain ⟨σ7,H7,I7,n7⟩:=q7;exact again I7 n7
  |brk=>obtain ⟨σ7,H7,I7,q7⟩:=q7;exact ⟨σ7,H7,I7.lT,q7⟩
  |ret v=>obtain ⟨x7,σ7,H7,I7,r7,q7⟩:=q7;exact ⟨x7,σ7,H7,I7.lT,r7,q7⟩
end
end L2
namespace L2
open PySem PySem.Spec PyProof.Rows
noncomputable abbrev R2:=V->V->Hp->VK->Prop
noncomputable def OpR (X:Cx) (f:Value->Value->Sem Value) (r:R2):Prop:=
 ∀(pins:List (Addr×Obj)) (s:Shared) (σ:St) (H:Hp) (x y:V) (v u:Value) (Q:VK),Inv X pins σ H s->RelV x v->RelV y u->r x y H Q ->
  wpAny (model X.prog X.w) X.A (f v u) (EP X pins σ Q) X.xe s
noncomputable def UnR (X:Cx) (f:Value->Sem Value) (r:V->Hp->VK->Prop):Prop:=
 ∀(pins:List (Addr×Obj)) (s:Shared) (σ:St) (H:Hp) (x:V) (v:Value) (Q:VK),Inv X pins σ H s->RelV x v->r x H Q ->
  wpAny (model X.prog X.w) X.A (f v) (EP X pins σ Q) X.xe s
noncomputable def bB (X:Cx) (f:Value) (r:List V->Hp->VK->Prop):Prop:=
 ∀(pins:List (Addr×Obj)) (s:Shared) (σ:St) (H:Hp) (xs:List V) (us:List Value) (Q:VK),Inv X pins σ H s->Vals xs us->r xs H Q ->
  wpAny (model X.prog X.w) X.A (call f us) (EP X pins σ Q) X.xe s
noncomputable def TruR (X:Cx) (r:V->Hp->(Bool->Hp->Prop)->Prop):Prop:=
 ∀(pins:List (Addr×Obj)) (s:Shared) (σ:St) (H:Hp) (x:V) (v:Value) (Q:Bool->Hp->Prop),Inv X pins σ H s->RelV x v->r x H Q ->
  wpAny (model X.prog X.w) X.A (truthy v) (TP X pins σ Q) X.xe s
noncomputable def tOp (r:R2) (ta tb:TE):TE:=fun σ H Q=>ta σ H fun x H1=>tb σ H1 fun y H2=>r x y H2 Q
noncomputable def tUn (r:V->Hp->VK->Prop) (ta:TE):TE:=fun σ H Q=>ta σ H fun x H1=>r x H1 Q
noncomputable def rI (C:Int->Int->Prop) (g:Int->Int->V):R2:=fun x y H Q=>∃i j,x=.int i/\y=.int j/\C i j/\Q (g i j) H
noncomputable def rI0 (g:Int->Int->V):R2:=fun x y H Q=>∃i j,x=.int i/\y=.int j/\Q (g i j) H
noncomputable def rU (g:Int->V):V->Hp->VK->Prop:=fun x H Q=>∃i,x=.int i/\Q (g i) H
section
variable {X:Cx} {a b c:Expr} {ta tb tc:TE} {pos:Pos}
theorem binT (ha:PE X a ta) (hb:PE X b tb) {pins:List (Addr×Obj)} {s:Shared} {σ:St} {H:Hp} {R:V->V->Hp->Prop} (I:Inv X pins σ H s)
  (h:ta σ H fun x H1=>tb σ H1 fun y H2=>R x y H2) {Q:Value->Shared->Prop} {f:Value->Value->Sem Value}
  (hf:∀v u s2 x y H2,Inv X pins σ H2 s2->RelV x v->RelV y u->R x y H2->wpAny (model X.prog X.w) X.A (f v u) Q X.xe s2) :
  wpAny (model X.prog X.w) X.A (eval a X.env) (fun v s₁=>wpAny (model X.prog X.w) X.A (eval b X.env) (fun u s₂=>wpAny (model X.prog X.w) X.A (f v u) Q X.xe s₂) X.xe s₁) X.xe s:=by
 refine thn (ha pins s σ H _ I h) fun v s1 ⟨x,H1,I1,r1,q1⟩=>?_
 refine thn (hb pins s1 σ H1 _ I1 q1) fun u s2 ⟨y,H2,I2,r2,q2⟩=>?_
 exact hf v u s2 x y H2 I2 r1 r2 q2
theorem pe_op {op:Operator} {r:R2} (ho:OpR X (binaryOp op) r) (ha:PE X a ta) (hb:PE X b tb):PE X (.BinOp a op b pos) (tOp r ta tb):=by
 intro pins s σ H Q I h
 exact wpAny_BinOp (binT ha hb I h fun v u s2 x y H2 I2 rx ry q=>ho pins s2 σ H2 x y v u Q I2 rx ry q)
theorem pe_un {op:UnaryOp} {r:V->Hp->VK->Prop} (ho:UnR X (unaryOp op) r) (ha:PE X a ta):PE X (.UnaryOp op a pos) (tUn r ta):=by
 intro pins s σ H Q I h
 exact UnaryOp_ (thn (ha pins s σ H _ I h) fun v s1 ⟨x,H1,I1,r1,q1⟩=>ho pins s1 σ H1 x v Q I1 r1 q1)
theorem opI {f:Value->Value->Sem Value} {C:Int->Int->Prop} {g:Int->Int->Int}
  (rule:∀(i j:Int) (t u:Tok) (s:Shared) (Q:Value->Shared->Prop) (E:Value->Shared->Prop),C i j->Q (.int (g i j) s.toks) {s with toks:=s.toks+1}->wpAny (model X.prog X.w) X.A (f (.int i t) (.int j u)) Q E s) :
  OpR X f (rI C fun i j=>.int (g i j)):=by
 intro pins s σ H x y v u Q I rx ry h
 obtain ⟨i,j,rfl,rfl,hc,q⟩:=h
 obtain ⟨t,rfl⟩:=rx
 obtain ⟨t',rfl⟩:=ry
 exact rule i j t t' s _ _ hc ⟨.int (g i j),H,I.tok _,⟨_,rfl⟩,q⟩
theorem opI0 {f:Value->Value->Sem Value} {g:Int->Int->Int}
  (rule:∀(i j:Int) (t u:Tok) (s:Shared) (Q:Value->Shared->Prop) (E:Value->Shared->Prop),Q (.int (g i j) s.toks) {s with toks:=s.toks+1}->wpAny (model X.prog X.w) X.A (f (.int i t) (.int j u)) Q E s) :
  OpR X f (rI0 fun i j=>.int (g i j)):=by
 intro pins s σ H x y v u Q I rx ry h
 obtain ⟨i,j,rfl,rfl,q⟩:=h
 obtain ⟨t,rfl⟩:=rx
 obtain ⟨t',rfl⟩:=ry
 exact rule i j t t' s _ _ ⟨.int (g i j),H,I.tok _,⟨_,rfl⟩,q⟩
theorem opB0 {f:Value->Value->Sem Value} {g:Int->Int->Bool}
  (rule:∀(i j:Int) (t u:Tok) (s:Shared) (Q:Value->Shared->Prop) (E:Value->Shared->Prop),Q (.bool (g i j)) s->wpAny (model X.prog X.w) X.A (f (.int i t) (.int j u)) Q E s) :
  OpR X f (rI0 fun i j=>.bl (g i j)):=by
 intro pins s σ H x y v u Q I rx ry h
 obtain ⟨i,j,rfl,rfl,q⟩:=h
 obtain ⟨t,rfl⟩:=rx
 obtain ⟨t',rfl⟩:=ry
 exact rule i j t t' s _ _ ⟨.bl (g i j),H,I,rfl,q⟩
noncomputable def CMul (i j:Int):Prop:=(-(2^64)<i/\i<2^64)\/(-(2^64)<j/\j<2^64)
theorem CMul.ok {i j:Int} (h:CMul i j):IntMulOk i j:=by
 rcases h with ⟨h1,h2⟩|⟨h1,h2⟩
 ·exact .of_left (intBits_le_64 h1 h2)
 ·exact .of_right (intBits_le_64 h1 h2)
theorem op_add:OpR X (binaryOp .Add) (rI0 fun i j=>.int (i+j)):=opI0 fun _ _ _ _ _ _ _ q=>add_int q
theorem op_sub:OpR X (binaryOp .Sub) (rI0 fun i j=>.int (i-j)):=opI0 fun _ _ _ _ _ _ _ q=>sub_int q
theorem op_mul:OpR X (binaryOp .Mult) (rI CMul fun i j=>.int (i*j)):=opI fun _ _ _ _ _ _ _ hc q=>mul_int q hc.ok
theorem op_mod:OpR X (binaryOp .Mod) (rI (fun _ j=>0<j) fun i j=>.int (i%j)):=opI fun i j _ _ _ _ _ hc q=>by
 have h1:(0:Int)<j:=hc
 exact mod_int' (by omega) (by rw [Int.fmod_eq_emod_of_nonneg i (by omega)];exact q)
theorem unI {f:Value->Sem Value} {g:Int->Int}
  (rule:∀(i:Int) (t:Tok) (s:Shared) (Q:Value->Shared->Prop) (E:Value->Shared->Prop),Q (.int (g i) s.toks) {s with toks:=s.toks+1}->wpAny (model X.prog X.w) X.A (f (.int i t)) Q E s) :
  UnR X f (rU fun i=>.int (g i)):=by
 intro pins s σ H x v Q I rx h
 obtain ⟨i,rfl,q⟩:=h
 obtain ⟨t,rfl⟩:=rx
 exact rule i t s _ _ ⟨.int (g i),H,I.tok _,⟨_,rfl⟩,q⟩
theorem un_neg:UnR X (unaryOp .USub) (rU fun i=>.int (-i)):=unI fun _ _ _ _ _ q=>neg_int q
end
section
variable {X:Cx} {a b c:Expr} {ta tb tc:TE} {pos:Pos}
theorem op_lt:OpR X (compareOp .Lt) (rI0 fun i j=>.bl (decide (i<j))):=opB0 fun _ _ _ _ _ _ _ q=>lt_int q
theorem op_le:OpR X (compareOp .LtE) (rI0 fun i j=>.bl (decide (i<=j))):=opB0 fun _ _ _ _ _ _ _ q=>le_int q
theorem op_gt:OpR X (compareOp .Gt) (rI0 fun i j=>.bl (decide (j<i))):=opB0 fun _ _ _ _ _ _ _ q=>gt_int q
theorem op_ge:OpR X (compareOp .GtE) (rI0 fun i j=>.bl (decide (j<=i))):=opB0 fun _ _ _ _ _ _ _ q=>ge_int q
noncomputable def isObj:HO->Bool
 |.lst _=>true
 |.ins _ _ _=>true
 |_=>false
theorem OpR.or {f:Value->Value->Sem Value} {r r':R2} (h:OpR X f r) (h':OpR X f r'):OpR X f (fun x y H Q=>r x y H Q\/r' x y H Q):=by
 intro pins s σ H x y v u Q I rx ry q
 rcases q with q|q
 ·exact h pins s σ H x y v u Q I rx ry q
 ·exact h' pins s σ H x y v u Q I rx ry q
theorem nomark (b:Expr) {op:CmpOp} (h:op≠.In:=by decide) (h2:op≠.NotIn:=by decide):behindInMarks op b=false:=by
 have e1:(op==CmpOp.In)=false:=by cases op<;>first|rfl|exact absurd rfl h
 have e2:(op==CmpOp.NotIn)=false:=by cases op<;>first|rfl|exact absurd rfl h2
 cases b<;>simp [behindInMarks,e1,e2]
theorem pe_cmpR {op:CmpOp} {r:R2} (ho:OpR X (compareOp op) r) (ha:PE X a ta) (hb:PE X b tb) (hm:behindInMarks op b=false):PE X (.Compare a [op] [b] pos) (tOp r ta tb):=by
 intro pins s σ H Q I h
 exact wpAny_Compare1 (binT ha hb I h fun v u s2 x y H2 I2 rx ry q=>ho pins s2 σ H2 x y v u Q I2 rx ry q) hm
noncomputable def tTest (t:TE):TT:=fun σ H Q=>t σ H fun x H'=>∃k,x=.bl k/\Q k H'
theorem pt_cmpR {op:CmpOp} {r:R2} (ho:OpR X (compareOp op) r) (ha:PE X a ta) (hb:PE X b tb) (hm:behindInMarks op b=false):PT X (.Compare a [op] [b] pos) (tTest (tOp r ta tb)):=by
 intro pins s σ H Q I h
 refine wpAny_isTrue_Compare1 (thn (ha pins s σ H _ I h) fun v s1 ⟨x,H1,I1,r1,q1⟩=>thn (hb pins s1 σ H1 _ I1 q1) fun u s2 ⟨y,H2,I2,r2,q2⟩=>
  thn (ho pins s2 σ H2 x y v u _ I2 r1 r2 q2) fun c s3 ⟨z,H3,I3,r3,k,e,q3⟩=>?_) hm
 subst e
 cases r3
 exact wpAny_truthy_bool ⟨H3,I3,q3⟩
noncomputable def tChain (r r':R2) (ta tb tc:TE):TE:=fun σ H Q=>ta σ H fun x H1=>tb σ H1 fun y H2=>r x y H2 fun z H3=>∃k,z=.bl k /\
 (if k=true then tc σ H3 fun w' H4=>r' y w' H4 Q else Q (.bl false) H3)
theorem pt_chain {op op':CmpOp} {r r':R2} (ho:OpR X (compareOp op) r) (ho':OpR X (compareOp op') r') (ha:PE X a ta) (hb:PE X b tb) (hc:PE X c tc)
  (hm:lastMarks [op,op'] [b,c]=false:=by with_unfolding_all rfl):PT X (.Compare a [op,op'] [b,c] pos) (tTest (tChain r r' ta tb tc)):=by
 intro pins s σ H Q I h
 refine isTrue_chain (thn (ha pins s σ H _ I h) fun v s1 ⟨x,H1,I1,r1,q1⟩=>test_link (thn (hb pins s1 σ H1 _ I1 q1) fun u s2 ⟨y,H2,I2,r2,q2⟩=>
  thn (ho pins s2 σ H2 x y v u _ I2 r1 r2 q2) fun d s3 ⟨z,H3,I3,r3,k,e,q3⟩=>?_)) hm
 subst e
 cases r3
 refine wpAny_truthy_bool ?_
 cases k with
 |false=>
  obtain ⟨k',e',q'⟩:=q3
  cases e'
  exact ite_ff ⟨H3,I3,q'⟩
 |true=>
  refine ite_tt (test_last (thn (hc pins s3 σ H3 _ I3 q3) fun w' s4 ⟨z',H4,I4,r4,q4⟩=>thn (ho' pins s4 σ H4 y z' u w' _ I4 r2 r4 q4) fun d' s5 ⟨z2,H5,I5,r5,k2,e2,q5⟩=>?_))
  subst e2
  cases r5
  exact wpAny_truthy_bool ⟨H5,I5,q5⟩
noncomputable def TruV (K:PySem.W.Frag) (x:V) (H:Hp) (k:Bool):Prop:=
 match x with
 |.non=>k=false
 |.bl b=>k=b
 |.int i=>k=(i != 0)
 |.str y=>y.length<=sizeLine/\k=((y.length:Int) != 0)
 |.byt y=>y.size<=sizeLine/\k=((y.size:Int) != 0)
 |.ref p=>(∃xs,SqL K H p xs/\k= !xs.isEmpty)\/(∃xs,SqT K H p xs/\k= !xs.isEmpty)\/∃kvs,H p=some (.dK kvs)/\k= !kvs.isEmpty
 |_=>False
theorem sM {κ:Type} {kvs:List (κ×V)} {vs:List (κ×Value)} (r:KV kvs vs):(!vs.isEmpty)= !kvs.isEmpty:=by
 cases r<;>rfl
theorem lr {xs:List V} {its:List Value} (r:Vals xs its):(!its.toArray.isEmpty)= !xs.isEmpty:=by
 cases r<;>simp
theorem nP:(sizeLine:Nat)<2^63:=by rw [sizeLine_eq];decide
theorem tru_ok:TruR X (fun x H Q=>∃k,TruV X.K x H k/\Q k H):=by
 intro pins s σ H x v Q I rx h
 obtain ⟨k,e,q⟩:=h
 have hl:=nP
 have hs:sizeLine=16777216:=sizeLine_eq
 cases x with
 |non=>
  cases rx
  have e':k=false:=e
  subst e'
  exact truthy_none ⟨H,I,q⟩
 |bl b=>
  cases rx
  have e':k=b:=e
  subst e'
  exact wpAny_truthy_bool ⟨H,I,q⟩
 |int i=>
  obtain ⟨t,rfl⟩:=rx
  have e':k=(i != 0):=e
  subst e'
  exact PySem.P.truthy_int ⟨H,I,q⟩
 |str y=>
  obtain ⟨t,rfl⟩:=rx
  obtain ⟨hy,e'⟩:y.length<=sizeLine/\k=((y.length:Int) != 0):=e
  subst e'
  exact PySem.P.truthy_str (by omega) ⟨H,I.tok _,q⟩
 |byt y=>
  obtain ⟨t,rfl⟩:=rx
  obtain ⟨hy,e'⟩:y.size<=sizeLine/\k=((y.size:Int) != 0):=e
  subst e'
  exact PySem.W.truthy_bytes (by omega) ⟨H,I.tok _,q⟩
 |ref p=>
  cases rx
  have e':(∃xs,SqL X.K H p xs/\k= !xs.isEmpty)\/(∃xs,SqT X.K H p xs/\k= !xs.isEmpty)\/∃kvs,H p=some (.dK kvs)/\k= !kvs.isEmpty:=e
  rcases e' with ⟨xs,hx,e'⟩|⟨xs,hx,e'⟩|⟨kvs,hx,e'⟩
  ·subst e'
   obtain ⟨its,r,pl,hz⟩:=I.list hx
   have hlen:=r.length
   exact wpAny_truthy_list pl.isList (by simp only [List.size_toArray];omega) ⟨H,I.tok _,by rw [lr r];exact q⟩
  ·subst e'
   obtain ⟨its,r,pl,hz⟩:=I.tuple hx
   have hlen:=r.length
   exact truthy_tuple pl (by simp only [List.size_toArray];omega) ⟨H,I.tok _,by rw [lr r];exact q⟩
  ·subst e'
   obtain ⟨hz,hS,vs,r,m⟩:kvs.length<=sizeLine/\(p==sysModules)=false/\∃vs,KV kvs vs/\s.heap.DictOf (pG X.prog X.w) p vs:=I.hok p _ hx
   have hlen:kvs.length=vs.length:=Paired.length r
   exact wpAny_truthy_dict hS m (by omega) ⟨H,I.tok _,by rw [sM r];exact q⟩
 |_=>exact (show False from e).elim
theorem pt_truth (ha:PE X a ta) (he:∀whole,isTrue a X.env whole=(do let v <- whole;standAt a.pos;holding [v] (truthy v))) :
  PT X a (fun σ H Q=>ta σ H fun x H'=>∃k,TruV X.K x H' k/\Q k H'):=by
 intro pins s σ H Q I h
 exact isTrue_plain (thn (ha pins s σ H _ I h) fun v s1 ⟨x,H1,I1,r1,q1⟩=>tru_ok pins s1 σ H1 x v Q I1 r1 q1) (he _)
theorem sj:OpR X (binaryOp .Add) (fun x y H Q=>∃i j,x=.str i/\y=.str j/\i.length+j.length<=sizeLine/\Q (.str (i++j)) H):=by
 intro pins s σ H x y v u Q I rx ry h
 obtain ⟨i,j,rfl,rfl,hz,q⟩:=h
 obtain ⟨t,rfl⟩:=rx
 obtain ⟨t',rfl⟩:=ry
 exact add_str (fun t' tk=>⟨.str (i++j),H,I.tok _,⟨_,rfl⟩,q⟩) hz
theorem vals1 {x:V} {us:List Value} (r:Vals [x] us):∃u,us=[u]/\RelV x u:=by
 cases r with
 |cons r1 r2=>cases r2;exact ⟨_,rfl,r1⟩
theorem vals2 {x y:V} {us:List Value} (r:Vals [x,y] us):∃u w',us=[u,w']/\RelV x u/\RelV y w':=by
 cases r with
 |cons r1 r2=>
  cases r2 with
  |cons r3 r4=>cases r4;exact ⟨_,_,rfl,r1,r3⟩
theorem call_abs:bB X (.builtin "abs") (fun xs H Q=>∃i,xs=[.int i]/\Q (.int (if i<0 then -i else i)) H):=by
 intro pins s σ H xs us Q I r h
 obtain ⟨i,rfl,q⟩:=h
 obtain ⟨u,rfl,t,rfl⟩:=vals1 r
 exact call_abs_int fun u tk=>⟨.int (if i<0 then -i else i),H,I.tok _,⟨_,rfl⟩,q⟩
theorem vI (hc:X.calm=true):bB X (.builtin "max") (fun xs H Q=>∃i j,xs=[.int i,.int j]/\Q (.int (if j>i then j else i)) H):=by
 intro pins s σ H xs us Q I r h
 obtain ⟨i,j,rfl,q⟩:=h
 obtain ⟨u,w',rfl,⟨t,rfl⟩,⟨t',rfl⟩⟩:=vals2 r
 refine max_two_ints (I.ok.hd hc) fun h' tk k=>⟨_,H,I.kept k,?_,q⟩
 by_cases hj:j>i
 ·rw [if_pos hj,if_pos hj];exact ⟨_,rfl⟩
 ·rw [if_neg hj,if_neg hj];exact ⟨_,rfl⟩
theorem vG (hc:X.calm=true):bB X (.builtin "min") (fun xs H Q=>∃i j,xs=[.int i,.int j]/\Q (.int (if j<i then j else i)) H):=by
 intro pins s σ H xs us Q I r h
 obtain ⟨i,j,rfl,q⟩:=h
 obtain ⟨u,w',rfl,⟨t,rfl⟩,⟨t',rfl⟩⟩:=vals2 r
 refine min_two_ints (I.ok.hd hc) fun h' tk k=>⟨_,H,I.kept k,?_,q⟩
 by_cases hj:j<i
 ·rw [if_pos hj,if_pos hj];exact ⟨_,rfl⟩
 ·rw [if_neg hj,if_neg hj];exact ⟨_,rfl⟩
end
end L2
namespace L2
open PySem PySem.Spec PyProof.Rows
structure ObjM (h:Heap) (x dx C:Addr) (mA:Str->Option Value):Prop where
 obj:h.get? x=some (PySem.W.instObj C dx)
 ns:h.Ns1 dx mA
 ne:dx≠x
theorem uN {h:Heap} {dx:Addr} {mA:Str->Option Value} (n:h.Ns1 dx mA):∃od,h.get? dx=some od/\∀name,lookIn name od=some (mA name):=by
 obtain ⟨o,es,ep,ho,hd,hk,_,hm⟩:=n
 refine ⟨o,ho,fun name=>?_⟩
 have e:=hm name
 unfold nsFind findBy at e
 rw [<- Array.find?_toList] at e
 unfold lookIn
 rw [hd]
 dsimp only
 split
 ·rename_i y q
  rw [q] at e
  exact congrArg some e
 ·rename_i q
  rw [q] at e
  have a:es.toList.any (·.refKey)=false:=by
   rw [List.any_eq_false]
   intro y hy
   obtain ⟨z,t,hkey⟩:=hk y (Array.mem_toList_iff.mp hy)
   simp [DictEntry.refKey,hkey]
  have a':¬es.toList.any (·.refKey)=true:=by rw [a];exact Bool.false_ne_true
  rw [if_neg a']
  exact congrArg some e
theorem ObjM.look {h:Heap} {x dx C:Addr} {mA:Str->Option Value} (I:ObjM h x dx C mA):∃od,PySem.W.InstAt h x (PySem.W.instObj C dx) C (some od)/\∀name,lookIn name od=some (mA name):=
 let ⟨od,ho,hl⟩:=uN I.ns
 ⟨od,⟨I.obj,rfl,rfl,ho⟩,hl⟩
section
variable {prog:Program} {w:World} {A:Around} {E:Value->Shared->Prop} {s:Shared} {K:PySem.W.Frag} {x dx C f:Addr} {mA:Str->Option Value} {name:Str} {v:Value}
theorem get_meth {pl:Sem Bool} {Q:Value×List Value->Shared->Prop} (X:K.In s.heap) (I:ObjM s.heap x dx C mA) (hg:PySem.W.plainGet K C name=true)
  (hf:PySem.W.findIn K (.ref C) name=some (some (.ref f))) (ht:PySem.W.isFn K (.ref f)=true) (hv:mA name=none) (h:Q (.ref f,[.ref x]) s) :
  wpAny (model prog w) A (getMethod (.ref x) name pl) Q E s:=by
 obtain ⟨od,J,hl⟩:=I.look
 exact PySem.W.method_fn X J (PySem.W.plainGet_of hg).1 (PySem.W.plainGet_of hg).2 hf (beq_iff_eq.mp ht) (by show (lookIn name od).map (·.isSome)=some false;rw [hl,hv];rfl) h
theorem make_map {R:Result->Shared->Prop} {vs:List Value} {kw:List (Str×Value)} (X:K.In s.heap) (hm:PySem.W.makesIn K C=true)
  (hi:PySem.W.findIn K (.ref C) "__init__"=some (some (.ref f))) (hf:PySem.W.typeIn K (.ref f)=some (.type "function"))
  (h:codeAny (model prog w) (A.under (.builtin "type.__call__" ⟨.ref C::vs,kw⟩)) (.call (.ref f) ⟨.ref (s.heap.objs.size+1)::vs,kw⟩) (PySem.W.InitBack (s.heap.objs.size+1) R)
   {s with heap:=(s.heap.push PySem.W.emptyDict).push (PySem.W.instObj C s.heap.objs.size)}) :
  codeAny (model prog w) A (.call (.ref C) ⟨vs,kw⟩) R s:=by
 obtain ⟨hh,g,d,t,os⟩:=s
 exact PySem.W.make_core (PySem.W.makes_of X hm) (PySem.W.looks_findIn X hi) (fun self=>PySem.W.bind_fn X self hf) (.inl rfl) h
end
noncomputable def putF (f:Str) (v:V):List (Str×V)->List (Str×V)
 |[]=>[(f,v)]
 |(g,x)::r=>if g=f then (g,v)::r else (g,x)::putF f v r
theorem vR.none_of {o:Option Value} (r:vR none o):o=none:=by
 cases o with
 |none=>rfl
 |some u=>exact (show False from r).elim
section
variable {P:Program} {w:World} {H H':Hp} {h h':Heap} {a C dx:Addr} {fs fs':List (Str×V)}
theorem v7 (hok:HOk P w H h) (e:H a=some (.ins C dx fs)):∃mA,ObjM h a dx C mA/\(∀f,vR (fs.lookup f) (mA f))/\PySem.Within mA (fs.map (·.1))/\fs.length<=1000/\H dx=some (.own a):=by
 obtain ⟨d,z,ne,ob,mA,n,r,q⟩:=(show cA P w H h a (.ins C dx fs) from hok a _ e)
 exact ⟨mA,⟨ob,n,ne⟩,r,q,z,d⟩
end
structure Cls (K:PySem.W.Frag) (C:Addr):Prop where
 pg:PySem.W.plainGet K C Str.empty=true
 hd:PySem.W.hasDictIn K C=true
 po:PySem.W.plainOver K C=true
 sa:PySem.W.findIn K (.ref C) "__setattr__"=some (some (.builtin "object.__setattr__"))
theorem Cls.get {K:PySem.W.Frag} {C:Addr} (c:Cls K C) (f:Str):PySem.W.plainGet K C f=true:=c.pg
noncomputable def vU (K:PySem.W.Frag) (C:Addr) (f:Str):Prop:=PySem.W.findIn K (.ref C) f=some none
structure Con (K:PySem.W.Frag) (C:Addr) (f:Str) (v:V) (u:Value):Prop where
 at_:PySem.W.findIn K (.ref C) f=some (some u)
 rel:RelV v u
 get:specialIn K u "__get__"=some none
 cp:PySem.W.copiedNames.contains f=false
structure Meth (K:PySem.W.Frag) (C:Addr) (m:Str) (f:Addr):Prop where
 at_:PySem.W.findIn K (.ref C) m=some (some (.ref f))
 fn:PySem.W.isFn K (.ref f)=true
 kp:keepIn K (.ref f)=true
section
variable {X:Cx} {pins:List (Addr×Obj)} {σ:St} {H:Hp} {s:Shared} {a C dx:Addr} {fs:List (Str×V)} {f:Str} {v:V} {A:Around} {E:Value->Shared->Prop}
theorem sN {m:Str} {g:Addr} {pl:Sem Bool} {Q:Value×List Value->Shared->Prop} (I:Inv X pins σ H s) (e:H a=some (.ins C dx fs)) (c:Cls X.K C) (k:Meth X.K C m g) (l:fs.lookup m=none)
  (h:Q (.ref g,[.ref a]) s):wpAny (model X.prog X.w) A (getMethod (.ref a) m pl) Q E s:=by
 obtain ⟨mA,O,r,_,_,_⟩:=v7 I.hok e
 have hn:mA m=none:=vR.none_of (by rw [<- l];exact r m)
 exact get_meth I.kIn O (c.get m) k.at_ k.fn hn h
theorem Inv.made (I:Inv X pins σ H s):Inv X pins σ (upd (upd H s.heap.objs.size (.own (s.heap.objs.size+1))) (s.heap.objs.size+1) (.ins C s.heap.objs.size []))
  {s with heap:=(s.heap.push PySem.W.emptyDict).push (PySem.W.instObj C s.heap.objs.size)}:=by
 have e1:(s.heap.push PySem.W.emptyDict).get? s.heap.objs.size=some PySem.W.emptyDict:=Heap.get?_push_size s.heap rfl
 have e2:((s.heap.push PySem.W.emptyDict).push (PySem.W.instObj C s.heap.objs.size)).get? (s.heap.objs.size+1)=some (PySem.W.instObj C s.heap.objs.size):=by
  have:=Heap.get?_push_size (s.heap.push PySem.W.emptyDict) (o:=PySem.W.instObj C s.heap.objs.size) rfl
  rwa [Heap.size_push] at this
 have e3:(s.heap.push PySem.W.emptyDict).Ns s.heap.objs.size (fun _=>none):=⟨PySem.W.emptyDict,#[],_,e1,rfl,(fun e he=>absurd he (by simp)),fun _=>rfl⟩
 have I1:=I.laid (a:=s.heap.objs.size) (o:=.own (s.heap.objs.size+1)) (h':=s.heap.push PySem.W.emptyDict) (t':=s.toks) (fun b u q=>Heap.get?_push_of_some _ q) (Nat.le_refl _) ⟨_,e1⟩
 refine I1.laid (a:=s.heap.objs.size+1) (o:=.ins C s.heap.objs.size []) (t':=s.toks) (fun b u q=>Heap.get?_push_of_some _ q) (Nat.le_of_eq (Heap.size_push _ _)) ?_
 have ne:s.heap.objs.size≠s.heap.objs.size+1:=Nat.ne_of_lt (Nat.lt_succ_self _)
 refine ⟨by rw [aq ne,ar],Nat.zero_le _,ne,e2,fun _=>none,(Heap.Ns1.of_empty e3).at fun o q=>Heap.get?_push_of_some _ q,fun _=>True.intro,fun y hy=>absurd rfl hy⟩
end
noncomputable def tFld (K:PySem.W.Frag) (ta:TE) (f:Str):TE:=fun σ H Q=>ta σ H fun x H1=>∃a C dx fs v,x=.ref a/\H1 a=some (.ins C dx fs)/\Cls K C/\vU K C f/\fs.lookup f=some v/\Q v H1
noncomputable def sFld (K:PySem.W.Frag) (ta tv:TE) (f:Str):TS:=fun D σ H=>tv σ H fun y H1=>ta σ H1 fun x H2=>∃a C dx fs,x=.ref a/\H2 a=some (.ins C dx fs)/\Cls K C/\vU K C f/\fs.length<1000 /\
 D.nx σ (upd H2 a (.ins C dx (putF f y fs)))
section
variable {X:Cx} {o e value:Expr} {f:Str} {pos pos' tpos:Pos} {ta tv:TE}
theorem methcall_of {pl:Sem Bool} {m:Str} {apos:Pos} {args:List Expr} {pins:List (Addr×Obj)} {s:Shared} {σ:St} {H:Hp} {Q:Value->Shared->Prop} {te:TE} (he:PE X e te) (I:Inv X pins σ H s)
  (h:te σ H fun x H1=>∃a C dx fs g,x=.ref a/\H1 a=some (.ins C dx fs)/\Cls X.K C/\Meth X.K C m g/\fs.lookup m=none /\
   ∀s1,Inv X pins σ H1 s1->wpAny (model X.prog X.w) X.A (callWith pos (.ref g) [.ref a] (backTo pos (starEach args X.env)) (backToKw pos (keywordEach [] X.env))) Q X.xe s1)
  (ht:eval (.Call (.Attribute e m apos) args [] pos) X.env=(do
   let ov <- eval e X.env
   standAt apos.atName
   let (f,first) <- holding [ov] (getMethod ov m pl)
   callWith pos f first (backTo pos (starEach args X.env)) (backToKw pos (keywordEach [] X.env)))) :
  wpAny (model X.prog X.w) X.A (eval (.Call (.Attribute e m apos) args [] pos) X.env) Q X.xe s:=by
 refine PySem.W.methodCall_KW (pl:=pl) (thn (he pins s σ H _ I h) fun u s1 ⟨x,H1,I1,rx,a,C,dx,fs,g,ex,ea,c,k,l,q⟩=>?_) ht
 subst ex
 obtain rfl:u=Value.ref a:=rx
 exact sN I1 ea c k l (q s1 I1)
end
section
variable {X:Cx} {pins:List (Addr×Obj)} {σ:St} {H:Hp} {s:Shared} {A:Around} {E:Value->Shared->Prop} {Q:Value->Shared->Prop} {c:Value} {b:Bool}
inductive pZ (K:PySem.W.Frag) (H:Hp):V->Value->Prop where
 |non:pZ K H .non (.type "NoneType")
 |bl (x:Bool):pZ K H (.bl x) (.type "bool")
 |int (i:Int):pZ K H (.int i) (.type "int")
 |str (x:Str):pZ K H (.str x) (.type "str")
 |flt (x:UInt64):pZ K H (.flt x) (.type "float")
 |lst {a:Addr} {xs:List V} (e:H a=some (.lst xs)):pZ K H (.ref a) (.type "list")
 |frz {a:Addr} {o:Obj} {xs:List V} (e:H a=some (.frz o (.lst xs))):pZ K H (.ref a) (.type "list")
 |tup {a:Addr} {xs:List V} (e:H a=some (.tup xs)):pZ K H (.ref a) (.type "tuple")
 |dK {a:Addr} {kvs:List (Key×V)} (e:H a=some (.dK kvs)):pZ K H (.ref a) (.type "dict")
 |dT {a:Addr} {kvs:List (List Key×V)} (e:H a=some (.dT kvs)):pZ K H (.ref a) (.type "dict")
 |ins {a C dx:Addr} {fs:List (Str×V)} (e:H a=some (.ins C dx fs)) (cl:Cls K C) (ha:PySem.W.findIn K (.ref C) "__class__"=some (some (.builtin "object.__class__")))
   (hn:specialIn K (.builtin "object.__class__") "__get__"=some (some (.builtin "getset_descriptor.__get__"))) (htk:PySem.W.takesIn K (.builtin "object.__class__")=some true)
   (hm:PySem.W.mroIn K C (.type "object")=some true):pZ K H (.ref a) (.ref C)
theorem nS {x:V} {u t:Value} (I:Inv X pins σ H s) (rx:RelV x u) (ty:pZ X.K H x t) (e:kitOne X.K t c=some b) (h:∀tk,Q (.bool b) {s with toks:=tk}) :
  wpAny (model X.prog X.w) A (call (.builtin "isinstance") [u,c]) Q E s:=by
 cases ty with
 |non=>cases (show u=Value.none from rx);exact kia_one PySem.W.kitx_none I.kIn True.intro e (fun z=>nomatch z) h
 |bl y=>cases (show u=Value.bool y from rx);exact kia_one PySem.W.kitx_bool I.kIn True.intro e (fun z=>nomatch z) h
 |int i=>obtain ⟨t,q⟩:=(show ∃t,u=Value.int i t from rx);cases q;exact kia_one PySem.W.kitx_int I.kIn True.intro e (fun z=>nomatch z) h
 |str y=>obtain ⟨t,q⟩:=(show ∃t,u=Value.str y t from rx);cases q;exact kia_one PySem.W.kitx_str I.kIn True.intro e (fun z=>nomatch z) h
 |flt y=>obtain ⟨t,q⟩:=(show ∃t,u=Value.float y t from rx);cases q;exact kia_one PySem.W.kitx_float I.kIn True.intro e (fun z=>nomatch z) h
 |@lst a xs ea=>
  cases (show u=Value.ref a from rx)
  obtain ⟨_,_,n,_,h1⟩:=(show cA X.prog X.w H s.heap a (.lst xs) from I.hok a _ ea)
  exact kia_one PySem.W.kitx_list I.kIn ⟨_,h1,rfl⟩ e (fun z=>nomatch z) h
 |@frz a ob xs ea=>
  cases (show u=Value.ref a from rx)
  obtain ⟨_,_,_,n,_,h1⟩:=(show cA X.prog X.w H s.heap a (.frz ob (.lst xs)) from I.hok a _ ea)
  exact kia_one PySem.W.kitx_list I.kIn ⟨_,h1,rfl⟩ e (fun z=>nomatch z) h
 |@tup a xs ea=>
  cases (show u=Value.ref a from rx)
  obtain ⟨_,_,_,p⟩:=(show cA X.prog X.w H s.heap a (.tup xs) from I.hok a _ ea)
  obtain ⟨o,h1,h2,_⟩:=p
  exact kia_one PySem.W.kitx_tuple I.kIn ⟨o,h1,h2⟩ e (fun z=>nomatch z) h
 |@dK a kvs ea=>
  cases (show u=Value.ref a from rx)
  obtain ⟨_,_,vs,_,p⟩:=(show cA X.prog X.w H s.heap a (.dK kvs) from I.hok a _ ea)
  obtain ⟨o,es,ep,h1,h2,_⟩:=p
  exact kia_one PySem.W.kitx_dict I.kIn ⟨o,h1,h2.1⟩ e (fun z=>nomatch z) h
 |@dT a kvs ea=>
  cases (show u=Value.ref a from rx)
  obtain ⟨_,_,xs,_,o,es,ep,h1,h2,_⟩:=(show cA X.prog X.w H s.heap a (.dT kvs) from I.hok a _ ea)
  exact kia_one PySem.W.kitx_dict I.kIn ⟨o,h1,h2.1⟩ e (fun z=>nomatch z) h
 |@ins a C dx fs ea cl ha hn htk hm=>
  cases (show u=Value.ref a from rx)
  obtain ⟨mA,O,_⟩:=v7 I.hok ea
  obtain ⟨od,J,_⟩:=O.look
  exact kia_one (PySem.W.kitx_own (cl.get _) cl.hd ha hn htk hm) I.kIn J e (fun z=>nomatch z) h
end
end L2
namespace L2
open PySem PySem.Spec PyProof.Rows
structure jI (k:Nat) (A:Around):Prop where
 hd:A.handled=none
 dp:A.depth+3*k+5<recursionLimit
 un:A.units+16*k+200<cLine
theorem jI.mono {j k:Nat} {A:Around} (r:jI k A) (h:j<=k):jI j A:=⟨r.hd,by have:=r.dp;omega,by have:=r.un;omega⟩
theorem jI.deeper {k:Nat} {A:Around} (r:jI (k+1) A) (env:Env):jI k (A.deeper env):=
 ⟨r.hd,by have:=r.dp;show A.depth+1+3*k+5<_;omega,by have:=r.un;show A.units+3+16*k+200<_;omega⟩
theorem jI.depth {k:Nat} {A:Around} (r:jI k A):A.depth<recursionLimit:=by have:=r.dp;omega
theorem jI.units {k:Nat} {A:Around} (r:jI k A):A.units+64<cLine:=by have:=r.un;omega
noncomputable def oO:TA:=fun _ H Q=>Q [] H
noncomputable def fS (ta:TE) (tr:TA):TA:=fun σ H Q=>ta σ H fun x H1=>tr σ H1 fun xs H2=>Q (x::xs) H2
section
variable {X:Cx} {e:Expr} {es:List Expr} {te:TE} {t:TA} {pos:Pos}
theorem cj:PA X [] oO:=fun _ _ _ _ H Q I h=>Calls.spliced_nil ⟨[],H,I,.nil,h⟩
theorem aF (ha:PE X e te) (hr:PA X es t) (hs:starEach (e::es) X.env=(false,eval e X.env)::starEach es X.env:=by rfl):PA X (e::es) (fS te t):=by
 intro pos pins s σ H Q I h
 rw [hs]
 show wpAny _ _ (spliced ((false,eval e X.env)::backTo pos (starEach es X.env))) _ _ s
 refine Calls.spliced_cons (thn (ha pins s σ H _ I h) fun u s1 ⟨x,H1,I1,r1,q1⟩=>?_)
 exact thn (hr pos pins s1 σ H1 _ I1 q1) fun us s2 ⟨xs,H2,I2,r2,q2⟩=>⟨x::xs,H2,I2,.cons r1 r2,q2⟩
noncomputable def tTup (t:TA):TE:=fun σ H Q=>t σ H fun xs H1=>xs.length<=sizeLine/\∀p,H1 p=none->Q (.ref p) (upd H1 p (.tup xs))
noncomputable def tLst (t:TA):TE:=fun σ H Q=>t σ H fun xs H1=>xs.length<=sizeLine/\∀p,H1 p=none->Q (.ref p) (upd H1 p (.lst xs))
theorem uq {x1} (h:PA X es t):PE X (.Tuple es x1 pos) (tTup t):=by
 intro pins s σ H Q I hq
 refine wpAny_Tuple_spliced (thn (h pos pins s σ H _ I hq) fun us s1 ⟨xs,H1,I1,r,z,q⟩=>⟨by rw [<- r.length];exact z,?_⟩)
 have hf:H1 s1.heap.objs.size=none:=I1.hok.fresh (Nat.le_refl _)
 refine ⟨.ref s1.heap.objs.size,upd H1 s1.heap.objs.size (.tup xs),I1.laid (t':=s1.toks) (fun b u e=>Heap.get?_push_of_some _ e) (Nat.le_refl _) ?_,rfl,q _ hf⟩
 exact ⟨z,us,r,⟨_,Heap.get?_push_size _ rfl,rfl,_,rfl⟩⟩
theorem pe_lst (h:PA X es t):PE X (.List es pos) (tLst t):=by
 intro pins s σ H Q I hq
 refine wpAny_List_spliced (thn (h pos pins s σ H _ I hq) fun us s1 ⟨xs,H1,I1,r,z,q⟩=>⟨by rw [<- r.length];exact z,?_⟩)
 have hf:H1 s1.heap.objs.size=none:=I1.hok.fresh (Nat.le_refl _)
 refine ⟨.ref s1.heap.objs.size,upd H1 s1.heap.objs.size (.lst xs),I1.laid (t':=s1.toks) (fun b u e=>Heap.get?_push_of_some _ e) (Nat.le_refl _) ?_,rfl,q _ hf⟩
 exact ⟨z,us,0,r,Heap.get?_push_size _ rfl⟩
end
noncomputable abbrev Sp:=List V->Hp->VK->XK->Prop
noncomputable abbrev CXT:=List Env->Hp->Shared->XK->Value->Shared->Prop
structure Env0 (P:Program) (w:World) (K:PySem.W.Frag) (mg:Str->Option Value) (base:Heap) (A:Around) (outer:List Env) (s:Shared) (H:Hp):Prop where
 frames:A.frames=some outer
 mod:Mod K mg base
 bs:∀b o,base.get? b=some o->s.heap.get? b=some o/\H b=none
 bsz:base.objs.size<=s.heap.objs.size
 oQ:s.heap.FunFrames base outer
 frf:∀b∈frs outer,H b=none
 hok:HOk P w H s.heap
 bare:AllBare s.gens
noncomputable def CE (outer:List Env) (P:Program) (w:World) (H:Hp) (s:Shared) (Q:VK) (u:Value) (s':Shared):Prop:=
 ∃v H',s'.os=s.os/\AllBare s'.gens/\Un (frs outer) [] H H' s.heap s'.heap/\HOk P w H' s'.heap/\RelV v u/\Q v H'
noncomputable def CR (CX:CXT) (outer:List Env) (P:Program) (w:World) (H:Hp) (s:Shared) (Q:VK) (E:XK) (r:Result) (s':Shared):Prop:=
 match r with
 |.ok (.ret u)=>CE outer P w H s Q u s'
 |.ok _=>False
 |.error e=>CX outer H s E e s'
structure gS (P:Program) (w:World) (K:PySem.W.Frag) (mg:Str->Option Value) (base:Heap) (CX:CXT) (k:Nat) (f:Addr) (fd:FuncData) (ps:List Str) (sp:Sp):Prop where
 len:∀vs H Q E,sp vs H Q E->vs.length=ps.length
 run:∀(A:Around) (outer:List Env) (s:Shared) (H:Hp) (args:Args) (us:List Value) (vs:List V) (Q:VK) (E:XK),jI k A->Env0 P w K mg base A outer s H->BindsTo s fd args (ps.zip us)->Vals vs us->sp vs H Q E ->
  codeAny (model P w) A (.call (.ref f) args) (CR CX outer P w H s Q E) s
section
variable {X:Cx} {pins:List (Addr×Obj)} {σ:St} {H:Hp} {s s':Shared}
theorem Inv.env0 (I:Inv X pins σ H s):Env0 X.prog X.w X.K X.mg X.base X.A X.stack s H:=
 ⟨I.ok.frames,I.ok.mod,I.bs,Nat.le_trans I.ok.bsz I.sz,I.stack,I.tY,I.hok,I.bare⟩
theorem Inv.after {Q:VK} {u:Value} (I:Inv X pins σ H s) (h:CE X.stack X.prog X.w H s Q u s'):EP X pins σ Q u s':=by
 obtain ⟨v,H',os,bare,un,hok,r,q⟩:=h
 obtain ⟨hh,g,d,t,os'⟩:=s'
 obtain rfl:os'=s.os:=os
 exact ⟨v,H',I.call (h':=hh) (g':=g) (d':=d) (t':=t) (ch:=[]) un hok bare (fun b z=>absurd z (by simp)),r,q⟩
end
noncomputable def tCall (sp:Sp) (dvs:List V) (E:XK) (t:TA):TE:=fun σ H Q=>t σ H fun vs H1=>sp (vs++dvs) H1 Q E
noncomputable def tMeth (C:Addr) (m:Str) (sp:Sp) (dvs:List V) (E:XK) (ta:TE) (t:TA):TE:=fun σ H Q=>ta σ H fun x H1=>∃a dx fs,x=.ref a/\H1 a=some (.ins C dx fs)/\fs.lookup m=none /\
 t σ H1 fun vs H2=>sp (x::(vs++dvs)) H2 Q E
noncomputable def tMake (C:Addr) (sp:Sp) (dvs:List V) (E:XK) (t:TA):TE:=fun σ H Q=>t σ H fun vs H1=>∀x dx,H1 x=none->H1 dx=none->dx≠x ->
 sp (.ref x::(vs++dvs)) (upd (upd H1 dx (.own x)) x (.ins C dx [])) (fun v H2=>v=.non/\Q (.ref x) H2) E
noncomputable def Binds (K:PySem.W.Frag) (fd:FuncData) (ps:List Str) (ds:List Value):Prop:=
 ∀(s:Shared) (us:List Value),K.In s.heap->(us++ds).length=ps.length->BindsTo s fd ⟨us,[]⟩ (ps.zip (us++ds))
theorem Binds.all {K:PySem.W.Frag} {fd:FuncData} {ps:List Str} (h:∀us:List Value,us.length=ps.length->bindArgs fd ⟨us,[]⟩=pure (ps.zip us)):Binds K fd ps []:=fun s us _ hl=>by
 rw [List.append_nil] at hl ⊢
 exact .of_eq (h us hl)
noncomputable def Passes (CX:CXT) (X:Cx) (E:XK):Prop:=∀(pins:List (Addr×Obj)) (σ:St) (H:Hp) (s:Shared) (e:Value) (s':Shared),Inv X pins σ H s->CX X.stack H s E e s'->X.xe e s'
section
variable {X:Cx} {CX:CXT} {k:Nat} {f C:Addr} {fd:FuncData} {ps:List Str} {sp:Sp} {dvs:List V} {ds:List Value} {E:XK} {x m:Str} {p pos apos:Pos} {e o:Expr} {es:List Expr} {ta:TE} {t:TA}
theorem run_fn {pins:List (Addr×Obj)} {σ:St} {H:Hp} {s:Shared} {Q:VK} {us:List Value} {vs:List V} (F:gS X.prog X.w X.K X.mg X.base CX k f fd ps sp) (hr:jI k X.A) (hb:Binds X.K fd ps ds) (hd:Vals dvs ds) (hx:Passes CX X E)
  (I:Inv X pins σ H s) (r:Vals vs us) (h:sp (vs++dvs) H Q E):wpAny (model X.prog X.w) X.A (call (.ref f) us) (EP X pins σ Q) X.xe s:=by
 have r2:Vals (vs++dvs) (us++ds):=r.append hd
 have hl:(us++ds).length=ps.length:=by rw [<- r2.length];exact F.len _ _ _ _ h
 refine wpAny_call (codeAny_mono (F.run X.A X.stack s H ⟨us,[]⟩ (us++ds) (vs++dvs) Q E hr I.env0 (hb s us I.kIn hl) r2 h) fun r s' hq=>?_)
 cases r with
 |error e=>exact hx pins σ H s e s' I hq
 |ok fl=>
  cases fl with
  |ret u=>exact I.after hq
  |next=>exact False.elim hq
  |brk=>exact False.elim hq
  |cont=>exact False.elim hq
theorem uw (F:gS X.prog X.w X.K X.mg X.base CX k f fd ps sp) (hr:jI k X.A) (hg:Gl X x) (hm:X.mg x=some (.ref f)) (hk:keepIn X.K (.ref f)=true) (hb:Binds X.K fd ps ds) (hd:Vals dvs ds) (hx:Passes CX X E)
  (ha:PA X (e::es) t) (hdb:(x==("__debug__":Str))=false:=by decide) (he:starEach (e::es) X.env=(false,eval e X.env)::starEach es X.env:=by rfl) (hpl:(backTo pos (starEach es X.env)).any (·.1)=false:=by rfl) :
  PE X (.Call (.Name x p) (e::es) [] pos) (tCall sp dvs E t):=by
 intro pins s σ H Q I h
 refine wpAny_Call_Name_kw (ic I hg hm ?_ hdb)
 refine PySem.W.callWith_K (h₀:=X.base) I.ok.mod.kin hk (thn (ha pos pins s σ H _ I h) fun us s1 ⟨vs,H1,I1,r,q⟩=>⟨I1.kIn,?_⟩) he hpl
 exact run_fn F hr hb hd hx I1 r q
structure Mk (K:PySem.W.Frag) (C f:Addr):Prop where
 makes:PySem.W.makesIn K C=true
 init:PySem.W.findIn K (.ref C) "__init__"=some (some (.ref f))
 fn:PySem.W.isFn K (.ref f)=true
 kp:keepIn K (.ref C)=true
end
section
variable {X:Cx} {CX:CXT} {k:Nat} {f C:Addr} {fd:FuncData} {ps ks:List Str} {sp:Sp} {E:XK} {x m:Str} {p pos apos kpos:Pos} {e o:Expr} {es:List Expr} {kws:List Keyword} {te ta:TE} {t tk:TA} {nm:Option Str}
structure KBinds (K:PySem.W.Frag) (fd:FuncData) (ps ks:List Str) (g:List Value->List Value->List Value) (gV:List V->List V->List V):Prop where
 to:∀(s:Shared) (us ws:List Value),K.In s.heap->(g us ws).length=ps.length->BindsTo s fd ⟨us,ks.zip ws⟩ (ps.zip (g us ws))
 rel:∀{vs:List V} {us:List Value} {zs:List V} {ws:List Value},Vals vs us->Vals zs ws->Vals (gV vs zs) (g us ws)
variable {g:List Value->List Value->List Value} {gV:List V->List V->List V}
end
structure cB (N P:List Str) (sc:Scope):Prop where
 kind:sc.kind=.function
 co:sc.isCoroutine=false
 gen:sc.isGenerator=false
 nd:N.Nodup
 pre:N.take P.length=P
 par:∀x∈P,sc.names.lookup x=some .local\/sc.names.lookup x=some .cell
 nofree:∀y∈sc.names,y.2≠.free
theorem oB {kindOf:Str->Option NameKind} {x:Str}:∀{binds:List (Str×Value)} {m:Str->Option Value},(∀v,(x,v)∉binds)->bindL kindOf binds m x=m x
 |[],_,_=>rfl
 |(n,v)::r,m,h=>by
  unfold bindL
  rw [oB fun w hw=>h w (List.mem_cons_of_mem _ hw)]
  split
  ·have:x≠n:=by rintro rfl;exact h v List.mem_cons_self
   simp [this]
  ·rfl
theorem oE {kindOf:Str->Option NameKind} {x:Str}:∀{binds:List (Str×Value)} {m:Str->Option Value},(∀v,(x,v)∉binds)->bindC kindOf binds m x=m x
 |[],_,_=>rfl
 |(n,v)::r,m,h=>by
  unfold bindC
  rw [oE fun w hw=>h w (List.mem_cons_of_mem _ hw)]
  split
  ·rfl
  ·have:x≠n:=by rintro rfl;exact h v List.mem_cons_self
   simp [this]
theorem oC {kindOf:Str->Option NameKind} {x:Str} {v:Value}:∀{P:List Str} {vs:List Value} {i:Nat} {m:Str->Option Value},P.Nodup->P[i]? =some x->vs[i]? =some v->kindOf x=some .local ->
  bindL kindOf (P.zip vs) m x=some v
 |[],_,_,_,_,h,_,_=>by simp at h
 |_::_,[],_,_,_,_,h,_=>by simp at h
 |p::P,w::vs,0,m,nd,h1,h2,hk=>by
  simp at h1 h2;subst h1;subst h2
  show bindL kindOf ((p,w)::P.zip vs) m p=_
  unfold bindL
  rw [oB fun v hv=>(List.nodup_cons.mp nd).1 (List.of_mem_zip hv).1,if_pos hk]
  simp
 |p::P,w::vs,i+1,m,nd,h1,h2,hk=>by
  show bindL kindOf ((p,w)::P.zip vs) m x=_
  unfold bindL
  exact oC (i:=i) (List.nodup_cons.mp nd).2 (by simpa using h1) (by simpa using h2) hk
theorem oF {kindOf:Str->Option NameKind} {x:Str} {v:Value}:∀{P:List Str} {vs:List Value} {i:Nat} {m:Str->Option Value},P.Nodup->P[i]? =some x->vs[i]? =some v->kindOf x≠some .local ->
  bindC kindOf (P.zip vs) m x=some v
 |[],_,_,_,_,h,_,_=>by simp at h
 |_::_,[],_,_,_,_,h,_=>by simp at h
 |p::P,w::vs,0,m,nd,h1,h2,hk=>by
  simp at h1 h2;subst h1;subst h2
  show bindC kindOf ((p,w)::P.zip vs) m p=_
  unfold bindC
  rw [oE fun v hv=>(List.nodup_cons.mp nd).1 (List.of_mem_zip hv).1,if_neg hk]
  simp
 |p::P,w::vs,i+1,m,nd,h1,h2,hk=>by
  show bindC kindOf ((p,w)::P.zip vs) m x=_
  unfold bindC
  exact oF (i:=i) (List.nodup_cons.mp nd).2 (by simpa using h1) (by simpa using h2) hk
noncomputable def start (N:List Str) (vs:List V):St:=vs.map some++List.replicate (N.length-vs.length) none
noncomputable def vy (CX:CXT) (P:Program) (w:World) (K:PySem.W.Frag) (mg:Str->Option Value) (base:Heap) (N:List Str) (qual:Str) (scope:Scope) (f:Addr) (cd:Value) (A:Around) (outer:List Env) (s:Shared) (H:Hp) (E:XK):Cx where
 prog:=P
 w:=w
 K:=K
 mg:=mg
 base:=base
 A:=A.deeper (envOfC qual scope s.heap.objs.size f cd)
 N:=N
 s₀:=s
 H₀:=H
 env:=envOfC qual scope s.heap.objs.size f cd
 outer:=outer
 stack:=envOfC qual scope s.heap.objs.size f cd::outer
 ex:=[]
 calm:=true
 fn:=fun _=>true
 pn:=[]
 xe:=fun e s'=>wpAny (model P w) (A.deeper (envOfC qual scope s.heap.objs.size f cd)) (leaving (envOfC qual scope s.heap.objs.size f cd) e) (fun _ s''=>CX outer H s E e s'') (fun e' s''=>CX outer H s E e' s'') s'
theorem rl {sc:Scope} {n:Nat} {x:Str} (h:sc.names.lookup x=some .cell):∃c,(cellsFrom n sc.names []).lookup x=some c:=by
 have q:=PySem.W.cellsFrom_some sc.names n [] (.inl h)
 exact Option.isSome_iff_exists.mp q
theorem uZ {CX:CXT} {P:Program} {w:World} {K:PySem.W.Frag} {mg:Str->Option Value} {base:Heap} {N ps:List Str} {qual:Str} {scope:Scope} {f:Addr} {cd:Value} {A:Around} {outer:List Env} {s s1:Shared} {H:Hp} {E:XK} {us:List Value} {vs:List V}
  (S:cB N ps scope) (hd:A.handled=none) (e0:Env0 P w K mg base A outer s H) (hl:vs.length=ps.length) (r:Vals vs us)
  (x:InCallC s s.heap.objs.size (bindL (envOfC qual scope s.heap.objs.size f cd).kindOf (ps.zip us) fun _=>none) (cellsFrom (s.heap.objs.size+1) scope.names []) (bindC (envOfC qual scope s.heap.objs.size f cd).kindOf (ps.zip us) fun _=>none) s1) :
  Inv (vy CX P w K mg base N qual scope f cd A outer s H E) [] (start N vs) H s1:=by
 have hpl:ps.length<=N.length:=by have:=congrArg List.length S.pre;rw [List.length_take] at this;omega
 obtain ⟨h1,tk,rfl,hk⟩:=x.done
 have noA:∀b:Addr,b∉(vy CX P w K mg base N qual scope f cd A outer s H E).ex:=fun b z=>absurd (show b∈([]:List Addr) from z) (by simp)
 refine ⟨⟨e0.mod,S.kind,rfl,rfl,Nat.le_refl _,fun y z c h1 h2=>?_,fun y hy=>?_,fun y c _ h=>?_,fun _=>hd,Around.frames_deeper e0.frames,.inr ⟨rfl,rfl⟩,fun b z=>absurd z (noA b),e0.bs,e0.bsz,fun b _ _=>noA b,fun b z=>absurd z (noA b),e0.oQ,e0.frf⟩,
  rfl,e0.bare,Un.kept hk,⟨_,x.toInCall.ns,fun i y v h1 h2 h3=>?_⟩,fun y c h=>⟨_,x.cell y c h⟩,e0.hok.fresh (Nat.le_refl _),fun y c h=>?_,fun p hp=>absurd (show p∈([]:List (Addr×Obj)) from hp) (by simp),e0.hok.kept hk,?_⟩
 ·exact name_of_addr x.apart (PySem.mem_of_lookup h1) (PySem.mem_of_lookup h2)
 ·have hy:scope.names.lookup y=some .cell\/scope.names.lookup y=some .free:=hy
  rcases hy with hy|hy
  ·exact rl hy
  ·exact absurd rfl (S.nofree _ (PySem.mem_of_lookup hy))
 ·exact Nat.le_of_lt (x.above y c (PySem.mem_of_lookup h))
 ·have hi:i<vs.length:=by
   unfold start at h2
   by_cases hi:i<vs.length
   ·exact hi
   ·rw [List.getElem?_append_right (by simpa using hi)] at h2
    rw [List.getElem?_replicate] at h2
    split at h2<;>cases h2
  have ha:vs[i]? =some v:=by
   unfold start at h2
   rw [List.getElem?_append_left (by simpa using hi),List.getElem?_map] at h2
   cases e:vs[i]? with
   |none=>rw [e] at h2;cases h2
   |some a=>rw [e] at h2;cases h2;rfl
  obtain ⟨u,hu,rv⟩:=r.get ha
  have hp:ps[i]? =some y:=by
   rw [<- S.pre,List.getElem?_take_of_lt (by omega)];exact h1
  have ndP:ps.Nodup:=by rw [<- S.pre];exact S.nd.sublist (List.take_sublist _ _)
  refine ⟨u,rv,?_⟩
  rcases S.par y (List.mem_of_getElem? hp) with k|k
  ·exact .inl ⟨k,oC ndP hp hu k⟩
  ·obtain ⟨c,e⟩:=rl (n:=s.heap.objs.size+1) k
   refine .inr ⟨.inl k,c,e,?_⟩
   have q:=x.cell y c e
   rw [oF ndP hp hu (by show scope.names.lookup y≠_;rw [k];decide)] at q
   exact q
 ·exact e0.hok.fresh (Nat.le_of_lt (x.above y c (PySem.mem_of_lookup h)))
 ·unfold start
  show _=N.length
  rw [List.length_append,List.length_map,List.length_replicate]
  omega
theorem fn_of {CX:CXT} {P:Program} {w:World} {K:PySem.W.Frag} {mg:Str->Option Value} {base:Heap} {k:Nat} {f:Addr} {name qual:Str} {params:Arguments} {body:List Stmt} {scope:Scope} {dV kV doc pm cdv ct oc:Value} {an od:Option Addr}
  {osl:Array (Option Value)} {N ps:List Str} {sp:Sp} (lk:K.lookup f=some ⟨oc,od,.func (fnOf name qual params body scope dV kV doc pm an cdv ct),osl⟩) (hcd:codeIn K cdv qual=true) (S:cB N ps scope)
  (len:∀vs H Q E,sp vs H Q E->vs.length=ps.length)
  (hbody:∀(A:Around) (outer:List Env) (s:Shared) (H:Hp) (vs:List V) (Q:VK) (E:XK),jI k (A.deeper (envOfC qual scope s.heap.objs.size f cdv))->sp vs H Q E ->
   ∃t,PSs (vy CX P w K mg base N qual scope f cdv A outer s H E) body t/\t {nx:=fun _ H'=>Q .non H',rt:=Q} (start N vs) H) :
  gS P w K mg base CX (k+1) f (fnOf name qual params body scope dV kV doc pm an cdv ct) ps sp:=by
 refine ⟨len,fun A outer s H args us vs Q E hr e0 hb r hsp=>?_⟩
 have hl:=len _ _ _ _ hsp
 have KX:K.In s.heap:=e0.mod.kin.keeps fun b o e=>(e0.bs b o e).1
 have lim:s.heap.NoLimit:=e0.mod.nolimit.keeps fun b o e=>(e0.bs b o e).1
 have hkind:∀y∈ps.zip us,scope.names.lookup y.1=some .local\/(scope.names.lookup y.1=some .cell/\((cellsFrom (s.heap.objs.size+1) scope.names []).lookup y.1).isSome=true):=fun ⟨n,v⟩ hy=>by
  rcases S.par n (List.of_mem_zip hy).1 with q|q
  ·exact .inl q
  ·exact .inr ⟨q,PySem.W.cellsFrom_some _ _ _ (.inl q)⟩
 refine codeAny_call_function hr.depth (KX _ _ lk) rfl S.co S.gen rfl (PySem.W.codeRec_of KX hcd) (hb _ _ _ _ ?_)
 refine wpAny_newFunctionEnv_cells S.kind hkind fun env he s1 x=>?_
 subst he
 refine ⟨lim.keeps x.toInCall.keep,codeAny_func ?_⟩
 obtain ⟨t,ht,hq⟩:=hbody A outer s H vs Q E (hr.deeper _) hsp
 have I:Inv (vy CX P w K mg base N qual scope f cdv A outer s H E) [] (start N vs) H s1:=uZ S hr.hd e0 hl r x
 refine wpAny_mono (ht [] s1 (start N vs) H _ I hq) (fun fl s' hs=>?_) fun e s' hs=>hs
 have fin:∀{σ':St} {H':Hp} {v:V} {u:Value},Inv (vy CX P w K mg base N qual scope f cdv A outer s H E) [] σ' H' s'->RelV v u->Q v H'->CE outer P w H s Q u s':=
  fun {σ' H' v u} J rv q=>⟨v,H',J.os,J.bare,J.base,J.hok,rv,q⟩
 cases fl with
 |ret u=>
  obtain ⟨v,σ',H',J,rv,q⟩:=hs
  exact fin J rv q
 |next=>
  obtain ⟨σ',H',J,q⟩:=hs
  exact fin (v:=V.non) (u:=Value.none) J rfl q
 |brk=>
  obtain ⟨_,_,_,q⟩:=hs
  exact False.elim q
 |cont=>
  obtain ⟨_,_,_,q⟩:=hs
  exact False.elim q
end L2
namespace L2
open PySem PySem.Spec PyProof.Rows
section
variable {X:Cx} {x:Str} {p pos:Pos} {e:Expr} {es:List Expr} {t:TA} {id T:String} {r:List V->Hp->VK->Prop}
noncomputable def tCB (r:List V->Hp->VK->Prop) (t:TA):TE:=fun σ H Q=>t σ H fun vs H1=>r vs H1 Q
theorem dh (hc:bB X (.builtin id) r) (hg:Gl X x) (hm:X.mg x=none) (hv:bootBuiltins x=some (.builtin id)) (ha:PA X (e::es) t) (hn:x≠"__name__":=by decide) (hdb:(x==("__debug__":Str))=false:=by decide)
  (he:starEach (e::es) X.env=(false,eval e X.env)::starEach es X.env:=by rfl) (hpl:(backTo pos (starEach es X.env)).any (·.1)=false:=by rfl):PE X (.Call (.Name x p) (e::es) [] pos) (tCB r t):=by
 intro pins s σ H Q I h
 refine wpAny_Call_Name_kw (hV I hg hm hv ?_ hn hdb)
 exact PyProof.Rows.callWith_builtin1 (thn (ha pos pins s σ H _ I h) fun us s1 ⟨vs,H1,I1,r1,q1⟩=>hc pins s1 σ H1 vs us Q I1 r1 q1) he hpl
theorem iE (hc:bB X (.type T) r) (hg:Gl X x) (hm:X.mg x=none) (hv:bootBuiltins x=some (.type T)) (ha:PA X (e::es) t) (hn:x≠"__name__":=by decide) (hdb:(x==("__debug__":Str))=false:=by decide)
  (he:starEach (e::es) X.env=(false,eval e X.env)::starEach es X.env:=by rfl) (hpl:(backTo pos (starEach es X.env)).any (·.1)=false:=by rfl):PE X (.Call (.Name x p) (e::es) [] pos) (tCB r t):=by
 intro pins s σ H Q I h
 refine wpAny_Call_Name_kw (hV I hg hm hv ?_ hn hdb)
 exact PyProof.Rows.callWith_type1 (thn (ha pos pins s σ H _ I h) fun us s1 ⟨vs,H1,I1,r1,q1⟩=>hc pins s1 σ H1 vs us Q I1 r1 q1) he hpl
end
end L2
namespace HT
open PySem PyProof.Rows
section
open PySem.SeqAt
open PySem.AutoSeq1 (wpAny_loadPart')
open PySem.MeetsSeq PySem.MeetsSeq2 PySem.MeetsSeq3
end
section
variable {prog:Program} {w:World} {A:Around} {E:Value->Shared->Prop} {s:Shared}
theorem cat_tup {t b:Addr} {vs ws:List Value} {Q:Value->Shared->Prop} (ht:IsTup s.heap t vs.toArray) (hb:IsTup s.heap b ws.toArray) (hv:vs≠[])
  (h1:ws=[]->Q (.ref t) s) (h2:ws≠[]->Q (.ref s.heap.objs.size) {s with heap:=s.heap.push {cls:=.type "tuple",data:=.seq (vs++ws).toArray}})
  (hsz:vs.length+ws.length<=sizeLine):wpAny (model prog w) A (binaryOp .Add (.ref t) (.ref b)) Q E s:=by
 obtain ⟨⟨cls,dd,data,sl⟩,ho,hc,n,hd⟩:=id ht
 obtain ⟨⟨cls2,dd2,data2,sl2⟩,ho2,hc2,n2,hd2⟩:=id hb
 simp only at hc hd hc2 hd2
 subst hc hd hc2 hd2
 have e:vs.toArray++ws.toArray=(vs++ws).toArray:=by simp
 by_cases hw:ws=[]
 ·exact concat_meets ⟨_,ho,rfl⟩ ⟨_,ho2,rfl⟩ noFill_tuple_add seq_tuple_add PySem.F.slot_tuple_add PySem.F.entry_tuple_add (PySem.F.args_tuple_add_2 _ _)
   (tuple_addW1 t b vs.toArray ws.toArray n n2 dd dd2 sl sl2 (by simpa using hv) (by simp [hw])) ⟨ho,ho2,h1 hw⟩
 ·refine concat_meets ⟨_,ho,rfl⟩ ⟨_,ho2,rfl⟩ noFill_tuple_add seq_tuple_add PySem.F.slot_tuple_add PySem.F.entry_tuple_add (PySem.F.args_tuple_add_2 _ _)
   (tuple_addW2 t b vs.toArray ws.toArray n n2 dd dd2 sl sl2 (by simpa using hv) (by simpa using hw) (by rw [List.size_toArray,List.size_toArray];exact hsz)) ⟨ho,ho2,?_⟩
  rw [e]
  exact h2 hw
noncomputable def sIx (n d:Nat):Option Int->Nat
 |none=>d
 |some v=>if v<0 then (v+(n:Int)).toNat else min v.toNat n
theorem sIx_le (n d:Nat) (hd:d<=n) (o:Option Int):sIx n d o<=n:=by
 cases o with
 |none=>exact hd
 |some v=>
  show (if v<0 then (v+(n:Int)).toNat else min v.toNat n)<=n
  by_cases hv:v<0
  ·rw [if_pos hv];omega
  ·rw [if_neg hv];exact Nat.min_le_right _ _
theorem vB (v:Int) (n d:Nat):(if v<0 then max (v+(n:Int)) 0 else min v (n:Int))=((sIx n d (some v):Nat):Int):=by
 show (if v<0 then max (v+(n:Int)) 0 else min v (n:Int))=(((if v<0 then (v+(n:Int)).toNat else min v.toNat n):Nat):Int)
 by_cases hv:v<0
 ·simp only [if_pos hv];omega
 ·simp only [if_neg hv];omega
theorem t7 (lo hi:Option Int) (n:Nat):Builtin.Slice.sliceAdjust lo hi 1 (n:Int)=(((sIx n 0 lo:Nat):Int),((sIx n n hi:Nat):Int)):=by
 have h1:¬((1:Int)<0):=by omega
 unfold Builtin.Slice.sliceAdjust
 simp only [h1,if_false]
 refine Prod.ext ?_ ?_
 ·cases lo with
  |none=>rfl
  |some v=>exact vB v n 0
 ·cases hi with
  |none=>rfl
  |some v=>exact vB v n n
theorem se (i j:Nat):Builtin.Slice.slicePlaces (i:Int) (j:Int) 1=j-i:=by
 unfold Builtin.Slice.slicePlaces
 have h1:(1:Int)>0:=by omega
 simp only [h1,if_true,Int.ediv_one]
 split<;>omega
theorem l0 {v:Value} {o:Option Int} {Q:Option Int->Shared->Prop} (p:IsPart v o) (h:Q o s):wpAny (model prog w) A (Builtin.Slice.slicePartIndex v) Q E s:=by
 cases p with
 |none=>exact slicePart_none h
 |int i t=>exact slicePart_int h
theorem jm {sl:Addr} {vl vu:Value} {lo hi:Option Int} {n:Nat} {Q:Int×Int×Nat->Shared->Prop} (hs:s.heap.IsSliceOf sl vl vu .none) (pl:IsPart vl lo) (pu:IsPart vu hi)
  (h:Q (((sIx n 0 lo:Nat):Int),1,sIx n n hi-sIx n 0 lo) s):wpAny (model prog w) A (Builtin.Slice.sliceApplied (.ref sl) (pure (n:Int))) Q E s:=by
 obtain ⟨os,hos,hcs,hds⟩:=id hs
 unfold Builtin.Slice.sliceApplied Builtin.Slice.sliceFields
 refine wpAny_bind (wpAny_bind (wpAny_field hos hds (x:=vl) rfl (wpAny_bind (wpAny_field hos hds (x:=vu) rfl (wpAny_bind (wpAny_field hos hds (x:=.none) rfl (wpAny_pure ?_)))))))
 refine wpAny_bind (slicePart_none ?_)
 show wpAny _ _ (if ((1:Int)==0)=true then _ else _) _ _ s
 rw [if_neg (by decide)]
 refine wpAny_bind (l0 pl (wpAny_bind (l0 pu (wpAny_bind (wpAny_pure ?_)))))
 show wpAny _ _ (match Builtin.Slice.sliceAdjust lo hi 1 (n:Int) with|(lo,hi)=>pure (lo,(1:Int),Builtin.Slice.slicePlaces lo hi 1)) _ _ s
 rw [t7 lo hi n]
 show wpAny _ _ (pure (((sIx n 0 lo:Nat):Int),(1:Int),Builtin.Slice.slicePlaces ((sIx n 0 lo:Nat):Int) ((sIx n n hi:Nat):Int) 1)) _ _ s
 rw [se]
 exact wpAny_pure h
theorem pick_gen (xs:Array Value) (i k:Nat):((List.range k).filterMap fun (m:Nat)=>xs[((i:Int)+(m:Int)*1).toNat]?).toArray=((xs.toList.drop i).take k).toArray:=by
 have e:(fun (m:Nat)=>xs[((i:Int)+(m:Int)*1).toNat]?)=fun m=>xs[i+m]?:=by
  funext m
  have:((i:Int)+(m:Int)*1).toNat=i+m:=by omega
  rw [this]
 rw [e]
 have:=pick_run xs i k
 rw [List.filterMap_map] at this
 have e2:((fun x=>xs[x]?)∘fun x=>i+x)=fun m=>xs[i+m]?:=rfl
 rw [e2] at this
 rw [this]
theorem jb {t sl:Addr} {items:Array Value} {vl vu:Value} {lo hi:Option Int} {Q:Value->Shared->Prop} (ht:IsTup s.heap t items) (hs:s.heap.IsSliceOf sl vl vu .none) (pl:IsPart vl lo) (pu:IsPart vu hi)
  (hw:¬(sIx items.size 0 lo=0/\sIx items.size items.size hi=items.size))
  (h:Q (.ref s.heap.objs.size) {s with heap:=s.heap.push {cls:=.type "tuple",data:=.seq ((items.toList.drop (sIx items.size 0 lo)).take (sIx items.size items.size hi-sIx items.size 0 lo)).toArray}})
  (hsz:items.size<=sizeLine):wpAny (model prog w) A (getItem (.ref t) (.ref sl)) Q E s:=by
 have htake:sizeOk (.seq ((items.toList.drop (sIx items.size 0 lo)).take (sIx items.size items.size hi-sIx items.size 0 lo)).toArray):=by
  show ((items.toList.drop (sIx items.size 0 lo)).take (sIx items.size items.size hi-sIx items.size 0 lo)).toArray.size<=sizeLine
  rw [List.size_toArray,List.length_take,List.length_drop,Array.length_toList]
  omega
 have hj:sIx items.size items.size hi<=items.size:=sIx_le _ _ (Nat.le_refl _) hi
 obtain ⟨os,hos,hcs,hds⟩:=id hs
 have hTs:s.TypeIs (.ref sl) "slice":=⟨os,hos,hcs⟩
 unfold getItem
 try with_reducible refine wpAny_holding ?_
 first|refine wpAny_bind (wpAny_pure ?_)|skip
 refine wpAny_bind (wpAny_sequenceKey ht.typeIs (by decide) ?_)
 refine wpAny_bind (wpAny_callSpecial?_slot (name:=Str.ofString "__getitem__") ht.typeIs PyProof.Rows.slot_tuple_getitem
  (wpAny_call_entry PyProof.Rows.slot_tuple_getitem ht.typeIs entry_tuple_getitem ?_ (args_tuple_getitem _ _)))
 show wpAny _ _ (Builtin.Tuple.tupleItemsOf (.ref t) >>= _) _ _ s
 refine wpAny_bind (tupleItemsOf_ ht ?_)
 refine wpAny_bind (wpAny_typeOf hTs ?_)
 rw [if_pos (by decide)]
 refine wpAny_bind (jm hs pl pu ?_)
 have hno:¬((((sIx items.size 0 lo:Nat):Int)==0&&(1:Int)==1&&(sIx items.size items.size hi-sIx items.size 0 lo)==items.size)=true):=by
  intro q
  rw [Bool.and_eq_true,Bool.and_eq_true] at q
  have q1:((sIx items.size 0 lo:Nat):Int)=0:=eq_of_beq q.1.1
  have q2:sIx items.size items.size hi-sIx items.size 0 lo=items.size:=eq_of_beq q.2
  exact hw ⟨by omega,by omega⟩
 show wpAny _ _ (if (((sIx items.size 0 lo:Nat):Int)==0&&(1:Int)==1&&(sIx items.size items.size hi-sIx items.size 0 lo)==items.size)=true then _ else _) _ _ s
 rw [if_neg hno,pick_gen]
 first
  |exact wpAny_bind (m:=Builtin.Tuple.tupleExact _) (wpAny_newObj_type (wpAny_pure ⟨_,rfl,wpAny_pure h⟩) htake)
  |exact wpAny_bind (m:=Builtin.Tuple.tupleExact _) (wpAny_newObj_type (wpAny_bind (wpAny_pure (wpAny_pure ⟨_,rfl,wpAny_pure h⟩))) htake)
  |exact wpAny_bind (wpAny_bind (m:=Builtin.Tuple.tupleExact _) (wpAny_newObj_type (wpAny_pure (wpAny_pure ⟨_,rfl,wpAny_pure h⟩)) htake))
  |exact wpAny_bind (wpAny_bind (m:=Builtin.Tuple.tupleExact _) (wpAny_newObj_type (wpAny_pure ⟨_,rfl,wpAny_pure h⟩) htake))
end
end HT
namespace L2
open PySem PySem.Spec PyProof.Rows
noncomputable abbrev TO:=St->Hp->(Option Int->Hp->Prop)->Prop
noncomputable def PO (X:Cx) (e:Option Expr) (t:TO):Prop:=
 ∀(pins:List (Addr×Obj)) (s:Shared) (σ:St) (H:Hp) (Q:Option Int->Hp->Prop),Inv X pins σ H s->t σ H Q ->
  wpAny (model X.prog X.w) X.A (evalPart e X.env) (fun u s'=>∃o H',Inv X pins σ H' s'/\IsPart u o/\Q o H') X.xe s
noncomputable def tNoPart:TO:=fun _ H Q=>Q none H
noncomputable def tPart (t:TE):TO:=fun σ H Q=>t σ H fun x H1=>∃i,x=.int i/\Q (some i) H1
theorem intsAre_of {ns:List Int}:∀{us:List Value},Vals (ns.map V.int) us->IntsAre us ns:=by
 induction ns with
 |nil=>intro us r;rw [List.map_nil] at r;cases r;exact .nil
 |cons n ns ih=>
  intro us r
  rw [List.map_cons] at r
  cases r with
  |cons r1 r2=>
   obtain ⟨t,e⟩:=r1
   subst e
   exact .cons n t (ih r2)
section
variable {X:Cx} {e:Expr} {te:TE} {lo hi:Option Expr} {tl th:TO} {pos p2:Pos}
theorem po_none:PO X none tNoPart:=by
 intro pins s σ H Q I h
 rw [evalPart_none]
 exact wpAny_pure ⟨none,H,I,.none,h⟩
theorem po_some (h:PE X e te):PO X (some e) (tPart te):=by
 intro pins s σ H Q I hw
 rw [evalPart_some]
 refine thn (h pins s σ H _ I hw) fun u s1 ⟨x,H1,I1,r1,q1⟩=>?_
 obtain ⟨i,rfl,q⟩:=q1
 obtain ⟨t,rfl⟩:=r1
 exact ⟨some i,H1,I1,.int i t,q⟩
noncomputable def SlR (X:Cx) (r:V->Option Int->Option Int->Hp->VK->Prop):Prop:=
 ∀(pins:List (Addr×Obj)) (s:Shared) (σ:St) (H:Hp) (x:V) (v vl vu:Value) (lo hi:Option Int) (sl:Addr) (Q:VK),Inv X pins σ H s->RelV x v->s.heap.IsSliceOf sl vl vu .none->IsPart vl lo->IsPart vu hi->r x lo hi H Q ->
  ∃T id,typeLookup (.type T) "__getitem__"=pure (some (.builtin id))/\s.TypeIs v T/\wpAny (model X.prog X.w) X.A (getItem v (.ref sl)) (EP X pins σ Q) X.xe s
theorem SlR.or {r r':V->Option Int->Option Int->Hp->VK->Prop} (h:SlR X r) (h':SlR X r'):SlR X (fun x lo hi H Q=>r x lo hi H Q\/r' x lo hi H Q):=by
 intro pins s σ H x v vl vu lo hi sl Q I rx hs pl pu q
 rcases q with q|q
 ·exact h pins s σ H x v vl vu lo hi sl Q I rx hs pl pu q
 ·exact h' pins s σ H x v vl vu lo hi sl Q I rx hs pl pu q
noncomputable def tSl (r:V->Option Int->Option Int->Hp->VK->Prop) (te:TE) (tl th:TO):TE:=fun σ H Q=>te σ H fun x H1=>tl σ H1 fun l H2=>th σ H2 fun u H3=>r x l u H3 Q
theorem pe_slice {r:V->Option Int->Option Int->Hp->VK->Prop} (hr:SlR X r) (he:PE X e te) (hl:PO X lo tl) (hu:PO X hi th):PE X (.Subscript e (.Slice lo hi none p2) pos) (tSl r te tl th):=by
 intro pins s σ H Q I h
 refine Subscript_ (thn (he pins s σ H _ I h) fun v s1 ⟨x,H1,I1,r1,q1⟩=>?_)
 refine wpAny_Slice (thn (hl pins s1 σ H1 _ I1 q1) fun vl s2 ⟨l,H2,I2,pl,q2⟩=>thn (hu pins s2 σ H2 _ I2 q2) fun vu s3 ⟨u,H3,I3,pu,q3⟩=>?_)
 rw [evalPart_none]
 refine wpAny_pure ?_
 have I4:Inv X pins σ H3 {s3 with heap:=s3.heap.push {cls:=.type "slice",data:=.fields #[vl,vu,.none]}}:=I3.kept (t':=s3.toks) fun b ob q=>Heap.get?_push_of_some _ q
 obtain ⟨T,id,hT,ht,hg⟩:=hr pins {s3 with heap:=s3.heap.push {cls:=.type "slice",data:=.fields #[vl,vu,.none]}} σ H3 x v vl vu l u s3.heap.objs.size Q I4 r1 (Heap.IsSliceOf.new ..) pl pu q3
 show wpAny (model X.prog X.w) X.A (subscriptTail e (.Slice lo hi none p2) v (.ref s3.heap.objs.size)) (EP X pins σ Q) X.xe {s3 with heap:=s3.heap.push {cls:=.type "slice",data:=.fields #[vl,vu,.none]}}
 exact tail_any (ops:=[.ref s3.heap.objs.size,v]) ht hT hg (by with_unfolding_all rfl)
noncomputable def cutV (xs:List V) (lo hi:Option Int):List V:=(xs.drop (HT.sIx xs.length 0 lo)).take (HT.sIx xs.length xs.length hi-HT.sIx xs.length 0 lo)
theorem kD (xs:List V) (lo hi:Option Int):(cutV xs lo hi).length<=xs.length:=by
 unfold cutV
 rw [List.length_take,List.length_drop]
 omega
noncomputable def rSlT (K:PySem.W.Frag):V->Option Int->Option Int->Hp->VK->Prop:=fun x lo hi H Q=>∃a xs,x=.ref a/\SqT K H a xs /\
 ¬(HT.sIx xs.length 0 lo=0/\HT.sIx xs.length xs.length hi=xs.length)/\∀p,H p=none->Q (.ref p) (upd H p (.tup (cutV xs lo hi)))
theorem sl_tup:SlR X (rSlT X.K):=by
 intro pins s σ H x v vl vu lo hi sl Q I rx hs pl pu h
 obtain ⟨a,xs,rfl,hx,hw,q⟩:=h
 cases rx
 obtain ⟨its,r,ht,hz⟩:=I.tuple hx
 have hlen:its.toArray.size=xs.length:=by rw [List.size_toArray];exact r.length.symm
 refine ⟨"tuple",_,PyProof.Rows.slot_tuple_getitem.lookup,ht.typeIs,?_⟩
 refine HT.jb ht hs pl pu (by rw [hlen];exact hw) ?_ (by rw [hlen];exact hz)
 rw [hlen]
 refine ⟨.ref s.heap.objs.size,_,I.laid (t':=s.toks) (o:=.tup (cutV xs lo hi)) (fun b ob q=>Heap.get?_push_of_some _ q) (Nat.le_refl _) ?_,rfl,q _ (I.hok.fresh (Nat.le_refl _))⟩
 exact ⟨Nat.le_trans (kD xs lo hi) hz,_,(r.drop (HT.sIx xs.length 0 lo)).take (HT.sIx xs.length xs.length hi-HT.sIx xs.length 0 lo),IsTup.new _ _⟩
noncomputable def rCatT (K:PySem.W.Frag):R2:=fun x y H Q=>∃a b xs ys,x=.ref a/\y=.ref b/\SqT K H a xs/\SqT K H b ys/\xs≠[]/\xs.length+ys.length<=sizeLine /\
 (ys=[]->Q (.ref a) H)/\(ys≠[]->∀p,H p=none->Q (.ref p) (upd H p (.tup (xs++ys))))
theorem Vals.pD {xs:List V} {us:List Value} (r:Vals xs us):us=[]↔xs=[]:=by
 cases r with
 |nil=>simp
 |cons _ _=>simp
theorem op_catT:OpR X (binaryOp .Add) (rCatT X.K):=by
 intro pins s σ H x y v u Q I rx ry h
 obtain ⟨a,b,xs,ys,rfl,rfl,ha,hb,hx,hz,q1,q2⟩:=h
 cases rx
 cases ry
 obtain ⟨its,r1,p1,_⟩:=I.tuple ha
 obtain ⟨its2,r2,p2,_⟩:=I.tuple hb
 refine HT.cat_tup p1 p2 (fun z=>hx (r1.pD.mp z)) (fun z=>⟨.ref a,H,I,rfl,q1 (r2.pD.mp z)⟩) (fun z=>?_) (by rw [<- r1.length,<- r2.length];exact hz)
 refine ⟨.ref s.heap.objs.size,_,I.laid (t':=s.toks) (o:=.tup (xs++ys)) (fun b ob q=>Heap.get?_push_of_some _ q) (Nat.le_refl _) ?_,rfl,q2 (fun w=>z (r2.pD.mpr w)) _ (I.hok.fresh (Nat.le_refl _))⟩
 exact ⟨by rw [List.length_append];exact hz,_,r1.append r2,IsTup.new _ _⟩
end
end L2
namespace L2
open PySem PySem.Spec PyProof.Rows
noncomputable def ixN (n:Nat) (i:Int):Option Nat:=if 0<=i then (if i<n then some i.toNat else none) else if -(n:Int)<=i then some (i+n).toNat else none
noncomputable def atI {α:Type} (xs:List α) (i:Int):Option α:=(ixN xs.length i).bind fun j=>xs[j]?
theorem ixN_seq {n:Nat} {i:Int} {j:Nat} (h:ixN n i=some j):seqIndex? i n=some j/\j<n/\ -(n:Int)<=i/\i<n:=by
 unfold ixN at h
 by_cases h0:0<=i
 ·rw [if_pos h0] at h
  by_cases h1:i<n
  ·rw [if_pos h1] at h
   have e:i.toNat=j:=Option.some.inj h
   exact ⟨by rw [seqIndex_of h0 h1,e],by omega,by omega,h1⟩
  ·rw [if_neg h1] at h;cases h
 ·rw [if_neg h0] at h
  by_cases h1: -(n:Int)<=i
  ·rw [if_pos h1] at h
   have e:(i+n).toNat=j:=Option.some.inj h
   exact ⟨by rw [seqIndex_neg (by omega) h1,e],by omega,h1,by omega⟩
  ·rw [if_neg h1] at h;cases h
theorem pY {α:Type} {xs:List α} {i:Int} {v:α} (h:atI xs i=some v):∃j,seqIndex? i xs.length=some j/\xs[j]? =some v/\j<xs.length/\ -(xs.length:Int)<=i/\i<xs.length:=by
 unfold atI at h
 cases e:ixN xs.length i with
 |none=>rw [e] at h;cases h
 |some j=>
  rw [e] at h
  obtain ⟨h1,h2,h3,h4⟩:=ixN_seq e
  exact ⟨j,h1,h,h2,h3,h4⟩
noncomputable def vT (b:Expr):Prop:=∀o i,subscripted b false o i=operate [o,i] (getItem o i)
noncomputable def IxR (X:Cx) (r:R2):Prop:=
 ∀(value slice:Expr) (pins:List (Addr×Obj)) (s:Shared) (σ:St) (H:Hp) (x y:V) (v u:Value) (Q:VK),Inv X pins σ H s->RelV x v->RelV y u->r x y H Q ->
  subscripted slice false v u=operate [v,u] (getItem v u)->wpAny (model X.prog X.w) X.A (subscriptTail value slice v u) (EP X pins σ Q) X.xe s
noncomputable def MtR (X:Cx) (id:String) (r:V->List V->Hp->VK->Prop):Prop:=
 ∀(pins:List (Addr×Obj)) (s:Shared) (σ:St) (H:Hp) (x:V) (xs:List V) (v:Value) (us:List Value) (Q:VK),Inv X pins σ H s->RelV x v->Vals xs us->r x xs H Q ->
  wpAny (model X.prog X.w) X.A (call (.builtin id) (v::us)) (EP X pins σ Q) X.xe s
section
variable {X:Cx} {a b:Expr} {ta tb:TE} {pos:Pos}
theorem IxR.or {r r':R2} (h:IxR X r) (h':IxR X r'):IxR X (fun x y H Q=>r x y H Q\/r' x y H Q):=by
 intro value slice pins s σ H x y v u Q I rx ry q hs
 rcases q with q|q
 ·exact h value slice pins s σ H x y v u Q I rx ry q hs
 ·exact h' value slice pins s σ H x y v u Q I rx ry q hs
theorem pe_ix {r:R2} (hr:IxR X r) (ha:PE X a ta) (hb:PE X b tb) (hs:vT b):PE X (.Subscript a b pos) (tOp r ta tb):=by
 intro pins s σ H Q I h
 exact Subscript_ (binT ha hb I h fun v u s2 x y H2 I2 rx ry q=>hr a b pins s2 σ H2 x y v u Q I2 rx ry q (hs _ _))
noncomputable def rIxL (K:PySem.W.Frag):R2:=fun x y H Q=>∃p xs i v,x=.ref p/\y=.int i/\SqL K H p xs/\atI xs i=some v/\Q v H
noncomputable def rIxT (K:PySem.W.Frag):R2:=fun x y H Q=>∃p xs i v,x=.ref p/\y=.int i/\SqT K H p xs/\atI xs i=some v/\Q v H
noncomputable def rIxS:R2:=fun x y H Q=>∃z i c,x=.str z/\y=.int i/\z.length<=sizeLine/\atI z.cps.toList i=some c/\Q (.str ⟨#[c]⟩) H
theorem ix_list:IxR X (rIxL X.K):=by
 intro value slice pins s σ H x y v u Q I rx ry h hs
 obtain ⟨p,xs,i,z,rfl,rfl,hq,he,q⟩:=h
 cases rx
 obtain ⟨t,rfl⟩:=ry
 obtain ⟨its,r,pl,hz⟩:=I.list hq
 obtain ⟨j,h1,h2,h3,h4,h5⟩:=pY he
 obtain ⟨w,ew,rw'⟩:=r.get h2
 have hl:=r.length
 have hn:=nP
 have fin:EP X pins σ Q w s:=⟨z,H,I,rw',q⟩
 by_cases h0:0<=i
 ·have hj:i.toNat=j:=by
   rw [seqIndex_of h0 h5] at h1
   exact Option.some.inj h1
  exact item_listR pl.isList h0 (by omega) (by rw [hj];simpa using ew) fin hs
 ·have hj:(i+(its.toArray.size:Int)).toNat=j:=by
   rw [seqIndex_neg (by omega) h4] at h1
   rw [List.size_toArray,<- hl]
   exact Option.some.inj h1
  exact subscriptTail_builtinR (x:=w) pl.isList.typeIs slot_list_getitem.lookup
   (wpAny_getItem_list_neg (Q:=fun r s'=>r=w/\EP X pins σ Q r s') pl.isList (by omega) (by rw [List.size_toArray]<;>omega) (by omega) (by rw [hj];simpa using ew) ⟨rfl,fin⟩) hs
theorem ix_tup:IxR X (rIxT X.K):=by
 intro value slice pins s σ H x y v u Q I rx ry h hs
 obtain ⟨p,xs,i,z,rfl,rfl,hq,he,q⟩:=h
 cases rx
 obtain ⟨t,rfl⟩:=ry
 obtain ⟨its,r,pl,hz⟩:=I.tuple hq
 obtain ⟨j,h1,h2,h3,h4,h5⟩:=pY he
 obtain ⟨w,ew,rw'⟩:=r.get h2
 have hl:=r.length
 have hn:=nP
 have fin:EP X pins σ Q w s:=⟨z,H,I,rw',q⟩
 exact subscriptTail_builtinR (x:=w) pl.typeIs slot_tuple_getitem.lookup
  (getItem_tuple (j:=j) (Q:=fun r s'=>r=w/\EP X pins σ Q r s') pl (by omega) (by omega) (by rw [List.size_toArray,<- hl];exact h1) (by simpa using ew) ⟨rfl,fin⟩) hs
theorem ix_str:IxR X rIxS:=by
 intro value slice pins s σ H x y v u Q I rx ry h hs
 obtain ⟨z,i,c,rfl,rfl,hz,he,q⟩:=h
 obtain ⟨t,rfl⟩:=rx
 obtain ⟨t',rfl⟩:=ry
 obtain ⟨j,h1,h2,h3,h4,h5⟩:=pY he
 have hl:z.cps.toList.length=z.length:=by simp [Str.length]
 rw [hl] at h1 h4 h5
 have hn:=nP
 exact tail_any (typeIs_str s z t) slot_str_getitem.lookup (getItem_str (c:=c) (by
  have e1:decide (i< -(2^63:Int))=false:=decide_eq_false (by omega)
  have e2:decide (i>=2^63)=false:=decide_eq_false (by omega)
  rw [e1,e2,Bool.or_false]) (by rw [h1];simpa using h2) ⟨.str ⟨#[c]⟩,H,I.tok _,⟨_,rfl⟩,q⟩) hs
noncomputable def rIx (K:PySem.W.Frag):R2:=fun x y H Q=>rIxL K x y H Q\/rIxT K x y H Q\/rIxS x y H Q
theorem ix_seq:IxR X (rIx X.K):=ix_list.or (ix_tup.or ix_str)
theorem nv (lo hi:Option Int) (n:Nat):(sliceBounds lo hi none n).1=((HT.sIx n 0 lo:Nat):Int)/\(sliceBounds lo hi none n).2.1=((HT.sIx n n hi:Nat):Int)/\(sliceBounds lo hi none n).2.2=1:=by
 refine ⟨?_,?_,rfl⟩
 ·cases lo with
  |none=>simp [sliceBounds,HT.sIx]
  |some i=>
   simp only [sliceBounds,HT.sIx,Option.getD_none,show (1:Int)>0 by decide,if_true]
   by_cases h:i<0
   ·simp only [h,if_true]<;>omega
   ·simp only [h,if_false]<;>omega
 ·cases hi with
  |none=>simp [sliceBounds,HT.sIx]
  |some i=>
   simp only [sliceBounds,HT.sIx,Option.getD_none,show (1:Int)>0 by decide,if_true]
   by_cases h:i<0
   ·simp only [h,if_true]<;>omega
   ·simp only [h,if_false]<;>omega
theorem lY (its:List Value) (lo hi:Option Int):slicePick its.toArray lo hi none=((its.drop (HT.sIx its.length 0 lo)).take (HT.sIx its.length its.length hi-HT.sIx its.length 0 lo)).toArray:=by
 obtain ⟨h1,h2,h3⟩:=nv lo hi its.toArray.size
 unfold slicePick
 rw [h1,h2,h3]
 simp only [sliceRange_one,pick_run,List.size_toArray]<;>rfl
noncomputable def rSlL (K:PySem.W.Frag):V->Option Int->Option Int->Hp->VK->Prop:=fun x lo hi H Q=>∃a xs,x=.ref a/\SqL K H a xs/\∀p,H p=none->Q (.ref p) (upd H p (.lst (cutV xs lo hi)))
theorem sl_list:SlR X (rSlL X.K):=by
 intro pins s σ H x v vl vu lo hi sl Q I rx hs pl pu h
 obtain ⟨a,xs,rfl,hx,q⟩:=h
 cases rx
 obtain ⟨its,r,ht,hz⟩:=I.list hx
 have hlen:=r.length
 refine ⟨"list",_,slot_list_getitem.lookup,ht.isList.typeIs,?_⟩
 refine wpAny_getItem_list_slice ht.isList hs pl pu .none (by simp) ?_ (by rw [List.size_toArray]<;>omega)
 rw [lY,<- hlen]
 refine ⟨.ref s.heap.objs.size,_,I.laid (t':=s.toks) (o:=.lst (cutV xs lo hi)) (fun b ob q=>Heap.get?_push_of_some _ q) (Nat.le_refl _) ?_,rfl,q _ (I.hok.fresh (Nat.le_refl _))⟩
 exact ⟨Nat.le_trans (kD xs lo hi) hz,_,0,(r.drop (HT.sIx xs.length 0 lo)).take (HT.sIx xs.length xs.length hi-HT.sIx xs.length 0 lo),Heap.get?_push_size _ rfl⟩
noncomputable def flatV:V->Bool
 |.non=>true
 |.bl _=>true
 |.int _=>true
 |.str _=>true
 |_=>false
noncomputable def eqV:V->V->Bool
 |.non,.non=>true
 |.bl a,.bl b=>a==b
 |.bl a,.int b=>(if a then 1 else 0)==b
 |.int a,.bl b=>a==(if b then 1 else 0)
 |.int a,.int b=>a==b
 |.str a,.str b=>a==b
 |_,_=>false
theorem ou:bB X (.builtin "len") (fun xs H Q=>∃p ys,xs=[.ref p]/\(SqL X.K H p ys\/SqT X.K H p ys)/\Q (.int ys.length) H):=by
 intro pins s σ H xs us Q I r h
 obtain ⟨p,ys,rfl,hq,q⟩:=h
 obtain ⟨u,rfl,rx⟩:=vals1 r
 cases rx
 have hn:=nP
 rcases hq with hq|hq
 ·obtain ⟨its,r',pl,hz⟩:=I.list hq
  have hlen:=r'.length
  exact Calls.call_len_list pl.isList (by simp only [List.size_toArray]<;>omega) ⟨.int ys.length,H,I.tok _,⟨s.toks+1,by rw [List.size_toArray,hlen]⟩,q⟩
 ·obtain ⟨its,r',pl,hz⟩:=I.tuple hq
  have hlen:=r'.length
  exact len_tuple pl (by simp only [List.size_toArray]<;>omega) ⟨.int ys.length,H,I.tok _,⟨s.toks+1,by rw [List.size_toArray,hlen]⟩,q⟩
theorem bB.or {f:Value} {r r':List V->Hp->VK->Prop} (h:bB X f r) (h':bB X f r'):bB X f (fun xs H Q=>r xs H Q\/r' xs H Q):=by
 intro pins s σ H xs us Q I rs q
 rcases q with q|q
 ·exact h pins s σ H xs us Q I rs q
 ·exact h' pins s σ H xs us Q I rs q
theorem mS:bB X (.type "tuple") (fun xs H Q=>∃p ys,xs=[.ref p]/\((SqL X.K H p ys/\∀l,H l=none->Q (.ref l) (upd H l (.tup ys)))\/(SqT X.K H p ys/\Q (.ref p) H))):=by
 intro pins s σ H xs us Q I r h
 obtain ⟨p,ys,rfl,h⟩:=h
 obtain ⟨u,rfl,rx⟩:=vals1 r
 cases rx
 rcases h with ⟨hq,q⟩|⟨hq,q⟩
 ·obtain ⟨its,r',pl,hz⟩:=I.list hq
  have hlen:=r'.length
  refine call_tuple_list pl.isList (fun h' kp=>?_) (by simp only [List.size_toArray]<;>omega)
  have I1:Inv X pins σ H {s with heap:=h'}:=I.kept (t':=s.toks) kp
  have I2:Inv X pins σ (upd H h'.objs.size (.tup ys)) {s with heap:=h'.push {cls:=.type "tuple",data:=.seq its.toArray}}:=
   I1.laid (t':=s.toks) (fun b o e=>Heap.get?_push_of_some _ e) (Nat.le_refl _) (show cA X.prog X.w _ _ _ (.tup ys) from ⟨hz,its,r',IsTup.new _ _⟩)
  exact ⟨.ref h'.objs.size,_,I2,rfl,q _ (I1.hok.fresh (Nat.le_refl _))⟩
 ·obtain ⟨its,r',pl,hz⟩:=I.tuple hq
  exact call_tuple_same pl ⟨.ref p,H,I,rfl,q⟩
noncomputable def tyV (K:PySem.W.Frag) (T:String) (x:V) (H:Hp):Prop:=match x with
 |.str _=>T="str"
 |.int _=>T="int"
 |.ref p=>(T="list"/\∃xs,SqL K H p xs)\/(T="tuple"/\∃o,K.lookup p=some o/\o.cls=.type "tuple"/\o.dict=none) \/
   (T="dict"/\((∃kvs,H p=some (.dK kvs))\/∃kvs,H p=some (.dT kvs)))\/(T="set"/\∃S n,H p=some (.set S n))
 |_=>False
theorem tyV_is {pins:List (Addr×Obj)} {σ:St} {H:Hp} {s:Shared} {T:String} {x:V} {v:Value} (I:Inv X pins σ H s) (r:RelV x v) (ty:tyV X.K T x H) :
  s.TypeIs v T/\∀a,v=.ref a->∃ob,s.heap.get? a=some ob/\ob.dict=none:=by
 cases x with
 |str z=>
  obtain ⟨t,rfl⟩:=r
  cases (show T="str" from ty)
  exact ⟨typeIs_str s z t,fun _ e=>nomatch e⟩
 |int i=>
  obtain ⟨t,rfl⟩:=r
  cases (show T="int" from ty)
  exact ⟨typeIs_int s i t,fun _ e=>nomatch e⟩
 |ref p=>
  cases r
  rcases ty with ⟨rfl,xs,hq⟩|⟨rfl,o,hk,hc,hd⟩|⟨rfl,hk⟩|⟨rfl,S,n,hk⟩
  ·obtain ⟨its,_,pl,_⟩:=I.list hq
   refine ⟨pl.isList.typeIs,fun a e=>?_⟩
   cases e
   obtain ⟨o,n,e,c,hd,_⟩:=pl
   exact ⟨o,e,hd⟩
  ·refine ⟨⟨o,I.kIn p o hk,hc⟩,fun a e=>?_⟩
   cases e
   exact ⟨o,I.kIn _ o hk,hd⟩
  ·have z:∃o,s.heap.get? p=some o/\o.ExactDict:=by
    rcases hk with ⟨kvs,hk⟩|⟨kvs,hk⟩
    ·obtain ⟨_,_,_,_,o,_,_,e,ex,_⟩:=I.hok p _ hk
     exact ⟨o,e,ex⟩
    ·obtain ⟨_,_,_,_,o,_,_,e,ex,_⟩:=I.hok p _ hk
     exact ⟨o,e,ex⟩
   obtain ⟨o,e,ex⟩:=z
   refine ⟨⟨o,e,ex.1⟩,fun a e2=>?_⟩
   cases e2
   exact ⟨o,e,ex.2.1⟩
  ·obtain ⟨o,_,_,_,e,ex,_⟩:=I.hok p _ hk
   refine ⟨⟨o,e,ex.1⟩,fun a e2=>?_⟩
   cases e2
   exact ⟨o,e,ex.2.1⟩
 |_=>exact False.elim ty
noncomputable def tBM0 (K:PySem.W.Frag) (T:String) (r:V->List V->Hp->VK->Prop) (to:TE):TE:=fun σ H Q=>to σ H fun x H1=>tyV K T x H1/\r x [] H1 Q
noncomputable def tBM (K:PySem.W.Frag) (T:String) (r:V->List V->Hp->VK->Prop) (to:TE) (t:TA):TE:=fun σ H Q=>to σ H fun x H1=>tyV K T x H1/\t σ H1 fun xs H2=>r x xs H2 Q
variable {o e:Expr} {es:List Expr} {to:TE} {t:TA} {name:Str} {apos cpos:Pos} {T id:String} {r:V->List V->Hp->VK->Prop}
theorem pe_bm0 (pa:PlainAttrs T) (slot:Slot T name id) (hty:typeOf (.builtin id)=pure (.type "method_descriptor")) (hm:MtR X id r) (ho:PE X o to)
  (hbase:attributeBase o name X.env (eval o X.env)=eval o X.env:=by rfl) (hline:(apos.endLine==cpos.line)=true:=by rfl):PE X (.Call (.Attribute o name apos) [] [] cpos) (tBM0 X.K T r to):=by
 intro pins s σ H Q I h
 refine wpAny_Call_method0_late hbase hline (thn (ho pins s σ H _ I h) fun v s1 ⟨x,H1,I1,r1,ty,q1⟩=>?_)
 obtain ⟨h1,h2⟩:=tyV_is I1 r1 ty
 exact ⟨T,id,pa,slot,hty,h1,h2,Calls.callWith_builtin rfl (PySem.evalArgs_none (hm pins s1 σ H1 x [] v [] Q I1 r1 .nil q1))⟩
theorem pe_bm (pa:PlainAttrs T) (slot:Slot T name id) (hty:typeOf (.builtin id)=pure (.type "method_descriptor")) (hm:MtR X id r) (ho:PE X o to) (ha:PA X (e::es) t)
  (hbase:attributeBase o name X.env (eval o X.env)=eval o X.env:=by rfl)
  (hfew:((backTo cpos (starEach (e::es) X.env)).all (fun x=> !x.1)&&(backToKw cpos (keywordEach [] X.env)).all (fun x=>x.1.isSome)
   &&decide ((e::es).length+([]:List Keyword).length+(if ([]:List Keyword).isEmpty then 0 else 1)<30))=true:=by rfl)
  (hline:(apos.endLine==cpos.line)=true:=by rfl) (hs:starEach (e::es) X.env=(false,eval e X.env)::starEach es X.env:=by rfl) (hplain:(backTo cpos (starEach es X.env)).any (·.1)=false:=by rfl) :
  PE X (.Call (.Attribute o name apos) (e::es) [] cpos) (tBM X.K T r to t):=by
 intro pins s σ H Q I h
 refine wpAny_Call_method_late hbase hfew hline rfl (thn (ho pins s σ H _ I h) fun v s1 ⟨x,H1,I1,r1,ty,q1⟩=>?_)
 obtain ⟨h1,h2⟩:=tyV_is I1 r1 ty
 refine ⟨T,id,pa,slot,hty,h1,h2,?_⟩
 have hA:=ha cpos pins s1 σ H1 _ I1 q1
 rw [hs] at hA ⊢
 refine Calls.callWith_builtin (by show (false||(backTo cpos (starEach es X.env)).any (·.1))=false;rw [hplain]<;>rfl) (Calls.evalArgs_plain ?_)
 exact thn hA fun us s2 ⟨vs,H2,I2,r2,q2⟩=>hm pins s2 σ H2 x vs v us Q I2 r1 r2 q2
/- xs.append(e),list.index on a module's tuple .. are MtR facts of 06m -/
end
end L2
namespace L2
open PySem PySem.Spec PyProof.Rows
noncomputable def MtM (X:Cx) (id:String) (r:V->List V->Hp->VK->Prop):Prop:=
 ∀(pins:List (Addr×Obj)) (s:Shared) (σ:St) (H:Hp) (x:V) (xs:List V) (v:Value) (us:List Value) (Q:VK),Inv X pins σ H s->RelV x v->Vals xs us->r x xs H Q ->
  wpAny (model X.prog X.w) X.A (call (.builtin id) (v::us)) (EP X pins σ Q) X.xe s
theorem Vals.one:∀{x:V} {us:List Value},Vals [x] us->∃u,us=[u]/\RelV x u
 |_,_,.cons r .nil=>⟨_,rfl,r⟩
theorem Vals.two:∀{x y:V} {us:List Value},Vals [x,y] us->∃u v,us=[u,v]/\RelV x u/\RelV y v
 |_,_,_,.cons r (.cons q .nil)=>⟨_,_,rfl,r,q⟩
theorem Vals.zero:∀{us:List Value},Vals [] us->us=[]
 |_,.nil=>rfl
theorem Vals.eraseIdx:∀{xs:List V} {us:List Value} (i:Nat),Vals xs us->Vals (xs.eraseIdx i) (us.eraseIdx i)
 |_,_,_,.nil=>.nil
 |_,_,0,.cons _ t=>t
 |_,_,i+1,.cons r t=>.cons r (Vals.eraseIdx i t)
section
variable {X:Cx} {pins:List (Addr×Obj)} {σ:St} {H:Hp} {s:Shared} {l b:Addr} {xs ys zs:List V}
theorem Inv.lset {its its':List Value} {n:Nat} {f:Array Value->Array Value} {t':Nat} (I:Inv X pins σ H s) (hH:H l=some (.lst xs))
  (e:s.heap.get? l=some {cls:=.type "list",data:=.seq its.toArray n}) (hf:f its.toArray=its'.toArray) (hv:Vals ys its') (hz:ys.length<=sizeLine) :
  Inv X pins σ (upd H l (.lst ys)) {s with heap:=s.heap.update l (Obj.mapSeq f),toks:=t'}:=by
 have q:=PySem.IsL.update e f
 rw [hf] at q
 refine I.write (x:=l) (e:=l) (by rw [hH];exact trivial) (.inl rfl) (fun b' u hb hu=>(Heap.get?_update_other s.heap (Obj.mapSeq f) (Ne.symm hb)).trans hu) ⟨_,q⟩ ?_
 exact ⟨hz,its',_,hv,q⟩
theorem Inv.lnew {its:List Value} {t':Nat} (I:Inv X pins σ H s) (hv:Vals ys its) (hz:ys.length<=sizeLine) :
  Inv X pins σ (upd H s.heap.objs.size (.lst ys)) {s with heap:=s.heap.push {cls:=.type "list",data:=.seq its.toArray},toks:=t'}:=
 I.laid (fun _ _ q=>Heap.get?_push_of_some _ q) (Nat.le_refl _) ⟨hz,its,0,hv,Heap.get?_push_size _ rfl⟩
theorem Inv.fresh (I:Inv X pins σ H s):H s.heap.objs.size=none:=I.hok.fresh (Nat.le_refl _)
theorem Inv.lstM (I:Inv X pins σ H s) (hH:H l=some (.lst xs)):xs.length<=sizeLine/\∃(its:List Value) (n:Nat),Vals xs its/\xs.length=its.length/\s.heap.get? l=some {cls:=.type "list",data:=.seq its.toArray n}:=by
 obtain ⟨z,its,n,r,e⟩:=I.hok l _ hH
 exact ⟨z,its,n,r,r.length,e⟩
theorem notLongL {n:Nat} (h:n<=sizeLine):Builtin.List.listTooLong n=false:=by
 unfold Builtin.List.listTooLong
 exact decide_eq_false (by omega)
end
section
variable {X:Cx}
noncomputable def i5:V->List V->Hp->VK->Prop:=fun x vs H Q=>∃l xs y,x=.ref l/\vs=[y]/\H l=some (.lst xs)/\xs.length<sizeLine/\Q .non (upd H l (.lst (xs++[y])))
theorem ka:MtM X "list.append" i5:=by
 intro pins s σ H x vs v us Q I rx rv h
 obtain ⟨l,xs,y,rfl,rfl,hH,hz,q⟩:=h
 cases rx
 obtain ⟨u,rfl,ru⟩:=rv.one
 obtain ⟨z,its,n,r,hl,e⟩:=I.lstM hH
 refine call_meets F.slot_list_append ⟨_,e,rfl⟩ F.entry_list_append (F.args_list_append_2 _ _) (PySem.list_append l its.toArray n u (by rw [List.size_toArray];omega)) ⟨e,?_⟩
 refine ⟨.non,_,I.lset (its':=its++[u]) hH e (by simp) (r.append (.cons ru .nil)) ?_,rfl,q⟩
 rw [List.length_append,List.length_singleton]
 omega
noncomputable def ue:V->List V->Hp->VK->Prop:=fun x vs H Q=>∃l b xs zs,x=.ref l/\vs=[.ref b]/\H l=some (.lst xs)/\H b=some (.lst zs)/\xs.length+zs.length<=sizeLine/\Q .non (upd H l (.lst (xs++zs)))
theorem uH:MtM X "list.extend" ue:=by
 intro pins s σ H x vs v us Q I rx rv h
 obtain ⟨l,b,xs,zs,rfl,rfl,hH,hB,hz,q⟩:=h
 cases rx
 obtain ⟨u,rfl,ru⟩:=rv.one
 cases ru
 obtain ⟨z,its,n,r,hl,e⟩:=I.lstM hH
 obtain ⟨z2,its2,n2,r2,hl2,e2⟩:=I.lstM hB
 have hsz:its.toArray.size+its2.toArray.size<=sizeLine:=by rw [List.size_toArray,List.size_toArray];omega
 have hlong:¬(!its.toArray.isEmpty&&Builtin.List.listTooLong (its.toArray.size+its2.toArray.size))=true:=by
  rw [notLongL hsz,Bool.and_false]
  exact Bool.false_ne_true
 refine call_meets F.slot_list_extend ⟨_,e,rfl⟩ F.entry_list_extend (F.args_list_extend_2 _ _)
  (AutoSeq1.list_extend_list_list_0 l its.toArray n b its2.toArray n2 hlong (by rw [List.size_toArray];omega) (by omega)) ⟨e,e2,?_⟩
 refine ⟨.non,_,I.lset (its':=its++its2) hH e (by simp) (r.append r2) ?_,rfl,q⟩
 rw [List.length_append]
 omega
noncomputable def uf:V->List V->Hp->VK->Prop:=fun x vs H Q=>∃l xs,x=.ref l/\vs=[]/\H l=some (.lst xs)/\Q .non (upd H l (.lst []))
theorem mt_clear:MtM X "list.clear" uf:=by
 intro pins s σ H x vs v us Q I rx rv h
 obtain ⟨l,xs,rfl,rfl,hH,q⟩:=h
 cases rx
 have hus:=rv.zero
 subst hus
 obtain ⟨z,its,n,r,hl,e⟩:=I.lstM hH
 refine call_meets F.slot_list_clear ⟨_,e,rfl⟩ F.entry_list_clear (F.args_list_clear_1 _) (AutoSeq1.list_clear_list_0 l its.toArray n (by rw [List.size_toArray];omega)) ⟨e,?_⟩
 exact ⟨.non,_,I.lset (its':=[]) (ys:=[]) hH e rfl .nil (Nat.zero_le _),rfl,q⟩
end
end L2
namespace Att
open PySem PySem.W PySem.Calls PyProof.Rows
theorem ki {P:Params} {h:Heap}:∀(ns:List Int) (vs:List Value),WellAll P h vs (ns.map WData.int)->IntsAre vs ns:=by
 intro ns
 induction ns with
 |nil=>
  intro vs w
  rw [List.map_nil] at w
  cases w
  exact .nil
 |cons n ns ih=>
  intro vs w
  rw [List.map_cons] at w
  cases w with
  |cons a b=>
   cases a
   exact .cons _ _ (ih _ b)
theorem u7 {l:OpenLaw} {n:Nat} (hn:l.most=some n) {P:Params} {h:Heap} {args:List WData} {vals:List Value}
  (hpre:l.row.toRowW.claim.pre args=true) (hwl:WellAll P h vals args) :
  ∃a vs ns,vals=[Value.ref a]/\args=[WData.list (ns.map WData.int)]/\h.get? a=some {cls:=.type "list",data:=.seq vs.toArray}/\IntsAre vs ns/\ns.length<=n:=by
 have hsh:WShape.hasAll [] args [.list .int]=true:=(pre_splitW hpre).1
 have hc:l.pre.holds [] {args:=args}=true:=(pre_splitW hpre).2
 obtain ⟨d,r,rfl,h1,h2⟩:=hasAllW_cons hsh
 obtain rfl:=hasAllW_nil h2
 obtain ⟨xs,rfl,h3⟩:=hasW_list h1
 obtain ⟨ns,rfl⟩:=items_int h3
 have hlen:ns.length<=n:=by
  unfold OpenLaw.pre at hc
  have h4:(WTm.not (.lt (.lit (.int (n:Int))) (.len (.arg 0)))).holds [] {args:=[.list (ns.map .int)]}=true:=by
   have h4:=(holds_andW hc).1
   rw [hn] at h4
   exact h4
  have h5:=condW_of h4 (w_not (w_lt w_lit (w_len_list (w_arg rfl))))
  rw [List.length_map] at h5
  refine Nat.le_of_not_lt fun q=>?_
  have q':(n:Int)<((ns.length:Nat):Int):=by omega
  first
   |(rw [decide_eq_true q'] at h5;exact absurd h5 (by decide))
   |(simp at h5;omega)
 cases hwl with
 |cons w1 w2=>
  cases w2
  cases w1 with
  |list ho hall=>exact ⟨_,_,ns,rfl,rfl,ho,ki ns _ hall,hlen⟩
theorem ui (l:OpenLaw) (args:List WData):l.row.toRowW.claim.post args (.bool true) args=true:=
 postW_of (r:=l.row.toRowW) (X:=(true==true))
  (show WShape.has [] (.bool true) .bool=true by first|rfl|decide|simp [WShape.has,WShape.arms,WShape.armsAll])
  (show (WTm.eq .res (.lit (.bool true))).value [] {args:=args,res:=some (.bool true),after:=args}=some (.bool (true==true)) from w_eq_bool (w_res rfl) w_lit) rfl
theorem pX {l:OpenLaw} {n:Nat} {q:Program} {loose:List Str} {XP:(Str->Option Value)->Heap->Prop} {YP:World->Heap->Prop} {d:DefRec}
  (hn:l.most=some n) (hdf:d.params.defaults=[])
  (call:∀(w:World) (s₀ s₁:Shared) (mg mb:Str->Option Value) (fa:Addr) (o:Obj) (pm cd doc:Value) (a:Addr) (vs:List Value) (ns:List Int),
   Ground q loose [] XP w s₀ mg mb s₁.heap->YP w s₁.heap ->
   s₁.heap.get? fa=some o->o.data=.func (docDef d.name d.params d.body d.scope pm cd doc)->s₁.heap.CodeRec cd d.name->mg d.name=some (.ref fa) ->
   s₁.heap.get? a=some {cls:=.type "list",data:=.seq vs.toArray}->IntsAre vs ns->ns.length<=n->s₁.gens=#[] ->
   codeAny (model l.prog w) callerA (.call (.ref fa) ⟨[.ref a],[]⟩) (fun r s'=>r=.ok (.ret (.bool true))/\OldK s₁.heap s'.heap/\s'.os=s₁.os/\AllBare s'.gens) s₁) :
  WalkO q loose XP YP l.row.toRowW d [] (fun f vs=>PySem.call f vs):=by
 intro w s₀ s₁ mg mb G Y fa o pm cd doc dV kV ho hd hcd hD hmg hg args vals as hpre hlay hrd hwl hlo
 obtain rfl:dV=.none:=Dflts.none hD hdf
 obtain rfl:kV=.none:=Dflts.noKw hD
 obtain ⟨a,vs,ns,rfl,rfl,hobj,hints,hlen⟩:=u7 hn hpre hwl
 refine enter_call (codeAny_mono (call w s₀ s₁ mg mb fa o pm cd doc a vs ns G Y ho (fd_plain hd) hcd hmg hobj hints hlen hg) fun r s' hq=>?_)
 obtain ⟨rfl,h2,h3,h4⟩:=hq
 exact ⟨.inl ⟨.bool true,.bool true,[],rfl,fun _=>rfl,.bool true,ui l _,fun _=>⟨List.Pairwise.nil,fun _ hm=>(nomatch hm)⟩⟩,h2,h3,h4⟩
section
variable {prog:Program} {w:World} {A:Around} {E:Value->Shared->Prop} {s:Shared} {K:Frag}
theorem make_obj {R:Result->Shared->Prop} {C fI:Addr} {rest:List Value} {kw:List (Str×Value)}
  (X:K.In s.heap) (hm:makesIn K C=true) (hi:findIn K (.ref C) "__init__"=some (some (.ref fI))) (hf:isFn K (.ref fI)=true)
  (h:codeAny (model prog w) (A.under (.builtin "type.__call__" ⟨.ref C::rest,kw⟩)) (.call (.ref fI) ⟨.ref (s.heap.objs.size+1)::rest,kw⟩) (InitBack (s.heap.objs.size+1) R)
   {s with heap:=(s.heap.push emptyDict).push (instObj C s.heap.objs.size)}):codeAny (model prog w) A (.call (.ref C) ⟨rest,kw⟩) R s:=by
 obtain ⟨hh,g,d,t,os⟩:=s
 exact make_core (makes_of X hm) (looks_findIn X hi) (fun self=>bind_fn X self (beq_iff_eq.mp hf)) (.inl rfl) h
theorem get_field {x C:Addr} {ox:Obj} {es:List DictEntry} {n:Nat} {name:Str} {expr:Bool} {v:Value} {Q:Value->Shared->Prop}
  (X:K.In s.heap) (I:PySem.W.InstAt s.heap x ox C (some (dictOf es n))) (hg:plainGet K C name=true) (hh:hasDictIn K C=true) (ha:findIn K (.ref C) name=some none)
  (hl:getL name es=some (some v)) (hv:handedIn v=true) (h:Q v {s with toks:=s.toks+1}):wpAny (model prog w) A (getAttr (.ref x) name expr) Q E s:=
 get_value X I (plainGet_of hg).1 (findObj_own hh ha rfl hl) hv h
end
end Att
namespace L2
open PySem PySem.Spec PyProof.Rows
theorem n5:∀{vs:List Value} {ns:List Int},IntsAre vs ns->Vals (ns.map V.int) vs
 |_,_,.nil=>.nil
 |_,_,.cons n t h=>.cons ⟨t,rfl⟩ (n5 h)
noncomputable def Only (H:Hp):Prop:=∀b,H b=none\/∃o xs,H b=some (.frz o (.lst xs))
theorem law_call {P:Program} {w:World} {K:PySem.W.Frag} {mg mb:Str->Option Value} {CX:CXT} {k:Nat} {fa a:Addr} {fd:FuncData} {x:Str} {sp:Sp} {s₁:Shared} {vs:List Value} {ns:List Int}
  (KX:K.In s₁.heap) (hns:s₁.heap.Ns mainGlobals mg) (hb:s₁.heap.Ns builtinsNs mb) (hbb:∀x:Str,x≠"__name__"->mb x=bootBuiltins x) (hlim:s₁.heap.NoLimit) (hg:s₁.gens=#[])
  (ha:s₁.heap.get? a=some {cls:=.type "list",data:=.seq vs.toArray}) (hi:IntsAre vs ns) (hl:ns.length<=sizeLine) (hr:jI k callerA)
  (F:∀base:Heap,K.In base->base.Ns mainGlobals mg->gS P w K mg base CX k fa fd [x] sp) (hbind:∀(s:Shared) (u:Value),BindsTo s fd ⟨[u],[]⟩ [(x,u)])
  (hsp:∀H:Hp,Only H->SqL K H a (ns.map V.int)->sp [.ref a] H (fun v _=>v=.bl true) fun _ _ _=>False)
  (hCX:∀H e s',CX [] H s₁ (fun _ _ _=>False) e s'->False) :
  codeAny (model P w) callerA (.call (.ref fa) ⟨[.ref a],[]⟩) (fun r s'=>r=.ok (.ret (.bool true))/\OldK s₁.heap s'.heap/\s'.os=s₁.os/\AllBare s'.gens) s₁:=by
 have rv:=n5 hi
 have lenV:=hi.length
 have core:∀H:Hp,Only H->SqL K H a (ns.map V.int)->HOk P w H s₁.heap->(∀b,H b≠none->b=a)->(H a≠none->K.lookup a=none) ->
   codeAny (model P w) callerA (.call (.ref fa) ⟨[.ref a],[]⟩) (fun r s'=>r=.ok (.ret (.bool true))/\OldK s₁.heap s'.heap/\s'.os=s₁.os/\AllBare s'.gens) s₁:=by
  intro H hO hS hok hA hK
  have base_of:∀{b:Addr} {o:Obj},s₁.heap.get? b=some o->H b=none->(hidT s₁.heap H).get? b=some o:=fun e n=>hidT_get e n
  have noA:∀{b:Addr} {o:Obj} {es:Array DictEntry} {ep:Nat},s₁.heap.get? b=some o->o.data=.dict es ep->H b=none:=fun {b o es ep} e d=>by
   cases q:H b with
   |none=>rfl
   |some u=>
    have e':b=a:=hA b (by rw [q];simp)
    subst e'
    rw [ha] at e;cases e
    have d':Data.seq vs.toArray _=Data.dict es ep:=d
    cases d'
  have nsK:∀{b:Addr} {m:Str->Option Value},s₁.heap.Ns b m->(hidT s₁.heap H).Ns b m:=fun {b m} ⟨o,es,ep,e,d,r⟩=>⟨o,es,ep,base_of e (noA e d),d,r⟩
  have hKb:K.In (hidT s₁.heap H):=fun b o e=>base_of (KX b o e) (by
   cases q:H b with
   |none=>rfl
   |some u=>
    have e':b=a:=hA b (by rw [q];simp)
    subst e'
    rw [hK (by rw [q];simp)] at e;cases e)
  have hM:Mod K mg (hidT s₁.heap H):=⟨hKb,nsK hns,⟨mb,nsK hb,hbb⟩,let ⟨mc,h1,h2⟩:=hlim;⟨mc,nsK h1,h2⟩⟩
  have e0:Env0 P w K mg (hidT s₁.heap H) callerA [] s₁ H:=⟨rfl,hM,fun b o e=>of_hidT e,Nat.le_of_eq (v8 _ _),trivial,fun b hb=>absurd (show b∈([]:List Addr) from hb) (by simp),hok,.of_eq hg⟩
  refine codeAny_mono ((F _ hKb (nsK hns)).run callerA [] s₁ H ⟨[.ref a],[]⟩ [.ref a] [.ref a] _ _ hr e0 (hbind s₁ (.ref a)) (.cons rfl .nil) (hsp H hO hS)) fun r s' h=>?_
  cases r with
  |error e=>exact (hCX H e s' h).elim
  |ok fl=>
   cases fl with
   |next=>exact False.elim h
   |brk=>exact False.elim h
   |cont=>exact False.elim h
   |ret u=>
    obtain ⟨v,H',os,bare,un,hok',r',q⟩:=h
    have q':v=.bl true:=q
    subst q'
    obtain rfl:u=Value.bool true:=r'
    refine ⟨rfl,OldK.of_keep fun b o e=>?_,os,bare⟩
    cases q:H b with
    |none=>exact un.keep b o e q (by intro z;exact absurd (show b∈([]:List Addr) from z) (by simp)) (by simp)
    |some u=>
     rcases hO b with z|⟨ob,xs,z⟩
     ·rw [q] at z;cases z
     ·have z2:=un.frzs b ob _ z
      obtain ⟨e1,_⟩:=hok b _ z
      obtain ⟨e2,_⟩:=hok' b _ z2
      rw [e] at e1;cases e1
      exact e2
 cases hk:K.lookup a with
 |some o=>
  have e:=KX a o hk
  rw [ha] at e
  cases e
  refine core (fun _=>none) (fun _=>.inl rfl) (.inr ⟨_,vs.toArray,_,hk,rfl,rfl,rfl,by rw [List.size_toArray,lenV];exact hl,by simpa using rv⟩) (fun b u z=>by have z':(none:Option HO)=some u:=z;cases z') (fun b z=>absurd rfl z) fun z=>absurd rfl z
 |none=>
  refine core (fun b=>if b=a then some (.frz {cls:=.type "list",data:=.seq vs.toArray} (.lst (ns.map V.int))) else none) (fun b=>?_) (.inl (.inr ⟨{cls:=.type "list",data:=.seq vs.toArray},if_pos rfl⟩)) (fun b u z=>?_) (fun b z=>?_) fun _=>hk
  ·by_cases hb:b=a
   ·exact .inr ⟨_,_,if_pos hb⟩
   ·exact .inl (if_neg hb)
  ·by_cases hb:b=a
   ·have z':=(if_pos hb).symm.trans z
    cases z'
    subst hb
    exact ⟨ha,by rw [List.length_map];exact hl,vs,_,rv,ha⟩
   ·have z':=(if_neg hb).symm.trans z
    cases z'
  ·by_cases hb:b=a
   ·exact hb
   ·exact absurd (if_neg hb) z
end L2
namespace L2
open PySem PySem.Spec PyProof.Rows
theorem walk_of {l:PySem.W.OpenLaw} {n k:Nat} {q:Program} {loose:List Str} {XP:(Str->Option Value)->Heap->Prop} {YP:World->Heap->Prop} {d:DefRec} {K:Params->PySem.W.Frag} {CX:World->CXT} {sp:World->Sp} {x:Str}
  (hn:l.most=some n) (hn2:n<=sizeLine) (hdf:d.params.defaults=[]) (hr:jI k callerA)
  (hY:∀(w:World) (h:Heap),YP w h->(K w.params).In h)
  (F:∀(w:World) (mg:Str->Option Value) (fa:Addr) (h:Heap),(K w.params).In h->h.Ns mainGlobals mg->mg d.name=some (.ref fa) ->
   ∃fd:FuncData,(∀(s:Shared) (u:Value),BindsTo s fd ⟨[u],[]⟩ [(x,u)]) /\
    ∀base:Heap,(K w.params).In base->base.Ns mainGlobals mg->gS l.prog w (K w.params) mg base (CX w) k fa fd [x] (sp w))
  (hsp:∀(w:World) (H:Hp) (a:Addr) (ns:List Int),ns.length<=n->Only H->SqL (K w.params) H a (ns.map V.int)->sp w [.ref a] H (fun v _=>v=.bl true) fun _ _ _=>False)
  (hCX:∀(w:World) (H:Hp) (s:Shared) (e:Value) (s':Shared),CX w [] H s (fun _ _ _=>False) e s'->False) :
  PySem.W.WalkO q loose XP YP l.row.toRowW d [] (fun f vs=>PySem.call f vs):=by
 refine Att.pX hn hdf fun w s₀ s₁ mg mb fa o pm cd doc a vs ns G Y ho hd hcd hmg hobj hints hlen hg=>?_
 have KX:=hY w _ Y
 obtain ⟨fd,hb,hF⟩:=F w mg fa _ KX G.T.g hmg
 exact law_call KX G.T.g G.T.b G.T.builtins G.T.nolimit hg hobj hints (Nat.le_trans hlen hn2) hr hF hb (fun H hO hS=>hsp w H a ns hlen hO hS) fun H e s'=>hCX w H s₁ e s'
end L2
namespace L2
open PySem PySem.Spec PyProof.Rows
noncomputable def gH (s:Stmt):Arguments:=match s with
 |.FunctionDef _ a _ _ _ _ _ _ _ _=>a
 |_=>{posonlyargs:=[],args:=[],vararg:=none,kwonlyargs:=[],kw_defaults:=[],kwarg:=none,defaults:=[]}
noncomputable def eN (s:Stmt):List Stmt:=match s with
 |.FunctionDef _ _ b _ _ _ _ _ _ _=>b
 |_=>[]
noncomputable def aD (s:Stmt):Scope:=match s with
 |.FunctionDef _ _ _ _ _ _ sc _ _ _=>sc
 |_=>{kind:=.function,names:=[],isGenerator:=false,isCoroutine:=false}
noncomputable abbrev CX0:CXT:=fun _ _ _ _ _ _=>False
noncomputable abbrev E0:XK:=fun _ _ _=>False
theorem pass0 {X:Cx}:Passes CX0 X E0:=fun _ _ _ _ _ _ _ h=>h.elim
structure Fun (K:PySem.W.Frag) (x qual:Str) (st:Stmt) (f:Addr) (fd:FuncData):Prop where
 ex:∃(oc:Value) (od:Option Addr) (kV doc pm:Value) (an:Option Addr) (cdv ct:Value) (osl:Array (Option Value)),
  fd=fnOf x qual (gH st) (eN st) (aD st) .none kV doc pm an cdv ct/\K.lookup f=some ⟨oc,od,.func fd,osl⟩/\codeIn K cdv qual=true
 kp:keepIn K (.ref f)=true
section
variable {P:Program} {w:World} {K:PySem.W.Frag} {mg:Str->Option Value} {base:Heap}
theorem Fun.binds {x qual:Str} {st:Stmt} {f:Addr} {fd:FuncData} {ps:List Str} (F:Fun K x qual st f fd)
  (h:∀(kV doc pm:Value) (an:Option Addr) (cdv ct:Value) (us:List Value),us.length=ps.length->bindArgs (fnOf x qual (gH st) (eN st) (aD st) .none kV doc pm an cdv ct) ⟨us,[]⟩=pure (ps.zip us)):Binds K fd ps []:=by
 obtain ⟨oc,od,kV,doc,pm,an,cdv,ct,osl,rfl,lk,hcd⟩:=F.ex
 exact .all (h kV doc pm an cdv ct)
theorem fun_mk {x qual:Str} {st:Stmt} {f:Addr} {oc:Value} {od an:Option Addr} {osl:Array (Option Value)} {kV doc pm cdv ct:Value} (l:K.lookup f=some ⟨oc,od,.func (fnOf x qual (gH st) (eN st) (aD st) .none kV doc pm an cdv ct),osl⟩)
  (c:codeIn K cdv qual=true) (k:keepIn K (.ref f)=true):Fun K x qual st f (fnOf x qual (gH st) (eN st) (aD st) .none kV doc pm an cdv ct):=⟨⟨oc,od,kV,doc,pm,an,cdv,ct,osl,rfl,l,c⟩,k⟩
end
section
variable {X:Cx}
theorem pv (i:Nat) {x:Str} {pos:Pos} (hN:X.N[i]? =some x:=by rfl) (hv:Vis X.env.scope x:=by first|exact Or.inl rfl|exact Or.inr (Or.inl rfl)|exact Or.inr (Or.inr rfl)) (hd:(x==("__debug__":Str))=false:=by decide)
  (hcd:(x==("__classdict__":Str))=false:=by decide):PE X (.Name x pos) (kM i):=pe_var hN hv hd hcd
end
noncomputable def aC (H H':Hp):Prop:=∀b o,H b=some o->H' b=some o
theorem aC.refl (H:Hp):aC H H:=fun _ _ h=>h
theorem aC.trans {H H1 H2:Hp} (a:aC H H1) (b:aC H1 H2):aC H H2:=fun c o h=>b c o (a c o h)
theorem aC.free {H H':Hp} (e:aC H H') {l:Addr} (h:H' l=Option.none):H l=Option.none:=by
 cases q:H l with
 |none=>rfl
 |some o=>
  rw [e l o q] at h
  cases h
end L2
set_option maxHeartbeats 4000000
namespace L2
open PySem PySem.Spec PyProof.Rows
noncomputable def lK (cells:List (Str×Addr)):List (Str×NameKind)->List (Str×Addr)->List (Str×Addr)
 |[],acc=>acc
 |(x,k)::r,acc=>lK cells r (if (k==NameKind.free)=true then (x,(cells.lookup x).getD 0)::acc else acc)
theorem gt_ne {a b c:Addr} (h1:b<a) (h2:a<c):c≠b:=by
 rintro rfl
 exact absurd (Nat.lt_trans h1 h2) (Nat.lt_irrefl _)
theorem sG {a b:Addr} {n:Nat} (h1:a<n) (h2:n<=b):a≠b:=by
 rintro rfl
 exact absurd (Nat.lt_of_lt_of_le h1 h2) (Nat.lt_irrefl _)
theorem lJ {cells:List (Str×Addr)} {x:Str} {c:Addr}:∀(ns:List (Str×NameKind)) (acc:List (Str×Addr)),(lK cells ns acc).lookup x=some c ->
  ((x,NameKind.free)∈ns/\c=(cells.lookup x).getD 0)\/acc.lookup x=some c
 |[],_,h=>.inr h
 |(y,k)::r,acc,h=>by
  unfold lK at h
  rcases lJ r _ h with ⟨m,e⟩|q
  ·exact .inl ⟨List.mem_cons_of_mem _ m,e⟩
  ·by_cases hk:(k==NameKind.free)=true
   ·rw [if_pos hk,List.lookup_cons] at q
    cases hy:x==y with
    |true=>
     rw [hy] at q
     have e1:=eq_of_beq hy
     have e2:=eq_of_beq hk
     subst e1 e2
     exact .inl ⟨List.mem_cons_self,(Option.some.inj q).symm⟩
    |false=>rw [hy] at q;exact .inr q
   ·rw [if_neg hk] at q;exact .inr q
theorem kG {cells:List (Str×Addr)} {x:Str}:∀(ns:List (Str×NameKind)) (acc:List (Str×Addr)),((x,NameKind.free)∈ns\/(acc.lookup x).isSome=true)->((lK cells ns acc).lookup x).isSome=true
 |[],_,h=>h.elim (fun z=>nomatch z) id
 |(y,k)::r,acc,h=>by
  unfold lK
  refine kG r _ ?_
  rcases h with h|h
  ·rcases List.mem_cons.mp h with e|h
   ·cases e
    refine .inr ?_
    rw [if_pos (by decide),List.lookup_cons]
    simp
   ·exact .inl h
  ·refine .inr ?_
   by_cases hk:(k==NameKind.free)=true
   ·rw [if_pos hk,List.lookup_cons]
    cases hy:x==y with
    |true=>rfl
    |false=>exact h
   ·rw [if_neg hk];exact h
theorem il {x:Str} {c:Addr}:∀(ns:List (Str×NameKind)) (n:Nat) (acc:List (Str×Addr)),(cellsFrom n ns acc).lookup x=some c->(n<=c/\(x,NameKind.cell)∈ns)\/acc.lookup x=some c
 |[],_,_,h=>.inr h
 |(y,k)::r,n,acc,h=>by
  unfold cellsFrom at h
  by_cases hk:(k==NameKind.cell)=true
  ·rw [if_pos hk] at h
   rcases il r (n+1) _ h with ⟨a,m⟩|q
   ·exact .inl ⟨by omega,List.mem_cons_of_mem _ m⟩
   ·rw [List.lookup_cons] at q
    cases hy:x==y with
    |true=>
     rw [hy] at q
     have e1:=eq_of_beq hy
     have e2:=eq_of_beq hk
     have e3:=Option.some.inj q
     subst e1 e2 e3
     exact .inl ⟨Nat.le_refl _,List.mem_cons_self⟩
    |false=>rw [hy] at q;exact .inr q
  ·rw [if_neg hk] at h
   rcases il r n acc h with ⟨a,m⟩|q
   ·exact .inl ⟨a,List.mem_cons_of_mem _ m⟩
   ·exact .inr q
theorem kJ:∀(ns:List (Str×NameKind)) (n:Nat) (acc:List (Str×Addr)),(∀x y c,acc.lookup x=some c->acc.lookup y=some c->x=y)->(∀x c,acc.lookup x=some c->c<n) ->
  ∀x y c,(cellsFrom n ns acc).lookup x=some c->(cellsFrom n ns acc).lookup y=some c->x=y
 |[],_,_,hi,_=>hi
 |(z,k)::r,n,acc,hi,hl=>by
  unfold cellsFrom
  by_cases hk:(k==NameKind.cell)=true
  ·rw [if_pos hk]
   refine kJ r (n+1) _ (fun x y c h1 h2=>?_) (fun x c h1=>?_)
   ·rw [List.lookup_cons] at h1 h2
    cases hx:x==z with
    |true=>
     rw [hx] at h1
     have e1:=Option.some.inj h1
     cases hy:y==z with
     |true=>rw [eq_of_beq hx,eq_of_beq hy]
     |false=>
      rw [hy] at h2
      have h3:=hl y c h2
      rw [<- e1] at h3
      exact absurd h3 (Nat.lt_irrefl _)
    |false=>
     rw [hx] at h1
     cases hy:y==z with
     |true=>
      rw [hy] at h2
      have e2:=Option.some.inj h2
      have h3:=hl x c h1
      rw [<- e2] at h3
      exact absurd h3 (Nat.lt_irrefl _)
     |false=>
      rw [hy] at h2
      exact hi x y c h1 h2
   ·rw [List.lookup_cons] at h1
    cases hx:x==z with
    |true=>
     rw [hx] at h1
     have e1:=Option.some.inj h1
     rw [<- e1]
     exact Nat.lt_succ_self _
    |false=>
     rw [hx] at h1
     exact Nat.lt_succ_of_lt (hl x c h1)
  ·rw [if_neg hk]
   exact kJ r n acc hi hl
theorem j7 {x:Str} {c:Addr}:∀(ns:List (Str×NameKind)) (h:Heap) (acc:List (Str×Addr)),(cellsFrom h.objs.size ns acc).lookup x=some c ->
  acc.lookup x=some c\/(h.objs.size<=c/\(pushCells h ns).IsCell c none)
 |[],_,_,e=>.inl e
 |(y,k)::r,h,acc,e=>by
  unfold cellsFrom at e
  unfold pushCells
  by_cases hk:(k==NameKind.cell)=true
  ·rw [if_pos hk] at e ⊢
   have q:=j7 (x:=x) (c:=c) r (h.push {cls:=.type "cell",data:=.cell none}) ((y,h.objs.size)::acc) (by rw [Heap.size_push];exact e)
   rcases q with q|⟨q1,q2⟩
   ·rw [List.lookup_cons] at q
    cases hy:x==y with
    |true=>
     rw [hy] at q
     have e1:=Option.some.inj q
     subst e1
     exact .inr ⟨Nat.le_refl _,Heap.IsCell.keeps ⟨_,Heap.get?_push_size _ rfl,rfl⟩ (pushCells_keeps r _)⟩
    |false=>rw [hy] at q;exact .inl q
   ·rw [Heap.size_push] at q1
    exact .inr ⟨by omega,q2⟩
  ·rw [if_neg hk] at e ⊢
   exact j7 r h acc e
theorem jc {env:Env} (f:Str×NameKind->List (Str×Addr)->Sem (ForInStep (List (Str×Addr))))
  (hf:∀n k cs,f (n,k) cs=if (k==NameKind.free)=true then (do let a <- cellOf env n;pure (.yield ((n,a)::cs))) else pure (.yield cs)) :
  ∀(ns:List (Str×NameKind)) (acc:List (Str×Addr)),(∀x∈ns,x.2=NameKind.free->∃c,env.cells.lookup x.1=some c)->forIn ns acc f=(pure (lK env.cells ns acc):Sem _)
 |[],acc,_=>by rw [List.forIn_nil];rfl
 |(y,k)::r,acc,hc=>by
  have hr:∀x∈r,x.2=NameKind.free->∃c,env.cells.lookup x.1=some c:=fun x hx=>hc x (List.mem_cons_of_mem _ hx)
  rw [List.forIn_cons,hf]
  unfold lK
  by_cases hk:(k==NameKind.free)=true
  ·rw [if_pos hk,if_pos hk]
   obtain ⟨c,e⟩:=hc (y,k) List.mem_cons_self (eq_of_beq hk)
   have e':env.cells.lookup y=some c:=e
   have e2:cellOf env y=pure c:=by unfold cellOf;rw [e']
   rw [e2,e']
   exact jc f hf r _ hr
  ·rw [if_neg hk,if_neg hk]
   exact jc f hf r _ hr
theorem lI {scope:Scope} {env:Env} (hc:∀x∈scope.names,x.2=NameKind.free->∃c,env.cells.lookup x.1=some c):closureFor scope env=pure (lK env.cells scope.names []):=by
 simp only [closureFor]
 rw [jc (env:=env) _ (fun n k cs=>by cases h:(k==NameKind.free)<;>simp [h]) scope.names [] hc]
 rfl
theorem uG {M:Model} {A:Around} {E:Value->Shared->Prop} {s:Shared} {scope:Scope} {gl:Addr} {cl:List (Str×Addr)} {qual:Str} {around:Env} {Q:Env->Shared->Prop}
  (hQ:∀h1:Heap,(∀b o,s.heap.get? b=some o->h1.get? b=some o)->h1.Ns s.heap.objs.size (fun _=>none) ->
   (∀x c,(cellsFrom (s.heap.objs.size+1) scope.names cl).lookup x=some c->cl.lookup x=some c\/(s.heap.objs.size<c/\h1.IsCell c none)) ->
   Q {scope:=scope,locals:=s.heap.objs.size,globals:=gl,cells:=cellsFrom (s.heap.objs.size+1) scope.names cl,qual:=qual,func:=none,code:=around.code,frame:=around.frame,builtins:=around.builtins} {s with heap:=h1}) :
  wpAny M A (newFunctionEnv scope gl cl [] qual none .none (some around)) Q E s:=by
 simp only [newFunctionEnv,Option.isSome_some,if_true]
 refine wpAny_bind (wpAny_alloc ?_)
 refine wpAny_bind (wpAny_layCells _ (fun name kind cells=>by cases hkc:kind==NameKind.cell<;>simp [hkc]) _ _ _ _ ?_)
 rw [show ({s with heap:=s.heap.push {cls:=.type "dict",data:=.dict #[]}}:Shared).heap.objs.size=s.heap.objs.size+1 from Heap.size_push ..]
 rw [List.forIn_nil]
 refine wpAny_bind (wpAny_pure (wpAny_pure ?_))
 refine hQ _ (fun b o e=>pushCells_keeps _ _ b o (Heap.get?_push_of_some _ e)) ((Heap.Ns.new s.heap (.type "dict")).keeps (pushCells_keeps _ _)) fun x c e=>?_
 have q:=j7 (x:=x) (c:=c) scope.names (s.heap.push {cls:=.type "dict",data:=.dict #[]}) cl (by rw [Heap.size_push];exact e)
 rw [Heap.size_push] at q
 exact q.imp id fun ⟨a,b⟩=>⟨by omega,b⟩
theorem l8 {env:Env} {x:Str}:∀{ns:List (Str×NameKind)},ns.lookup x=some .free ->
  (ns.map fun (n,k)=>if (k==NameKind.free&&env.scope.kind==.function&&env.kindOf n==some .cell) then (n,NameKind.cell) else (n,k)).lookup x=some .cell \/
  (ns.map fun (n,k)=>if (k==NameKind.free&&env.scope.kind==.function&&env.kindOf n==some .cell) then (n,NameKind.cell) else (n,k)).lookup x=some .free
 |[],h=>by simp at h
 |(n,k)::r,h=>by
  have ih:=@l8 env x r
  rw [List.map_cons]
  dsimp only
  by_cases hc:(k==NameKind.free&&env.scope.kind==.function&&env.kindOf n==some .cell)=true
  ·rw [if_pos hc,List.lookup_cons]
   cases hx:x==n with
   |true=>exact .inl rfl
   |false=>rw [List.lookup_cons,hx] at h;exact ih h
  ·rw [if_neg hc,List.lookup_cons]
   cases hx:x==n with
   |true=>
    rw [List.lookup_cons,hx] at h
    have e:=Option.some.inj h
    subst e
    exact .inr rfl
   |false=>rw [List.lookup_cons,hx] at h;exact ih h
theorem l9 {env:Env} {x:Str}:∀{ns:List (Str×NameKind)},
  ((ns.map fun (n,k)=>if (k==NameKind.free&&env.scope.kind==.function&&env.kindOf n==some .cell) then (n,NameKind.cell) else (n,k)).lookup x=some .cell \/
  (ns.map fun (n,k)=>if (k==NameKind.free&&env.scope.kind==.function&&env.kindOf n==some .cell) then (n,NameKind.cell) else (n,k)).lookup x=some .free) ->
  ns.lookup x=some .cell\/ns.lookup x=some .free
 |[],h=>by simp at h
 |(n,k)::r,h=>by
  have ih:=@l9 env x r
  rw [List.map_cons] at h
  dsimp only at h
  by_cases hc:(k==NameKind.free&&env.scope.kind==.function&&env.kindOf n==some .cell)=true
  ·rw [if_pos hc,List.lookup_cons] at h
   rw [List.lookup_cons]
   cases hx:x==n with
   |true=>
    have:k=NameKind.free:=by
     rw [Bool.and_eq_true,Bool.and_eq_true] at hc
     exact eq_of_beq hc.1.1
    subst this
    exact .inr rfl
   |false=>rw [hx] at h;exact ih h
  ·rw [if_neg hc,List.lookup_cons] at h
   rw [List.lookup_cons]
   cases hx:x==n with
   |true=>rw [hx] at h;exact h
   |false=>rw [hx] at h;exact ih h
noncomputable def aS (X:Cx) (N':List Str) (sc:Scope) (L:Addr) (cs:List (Str×Addr)) (s:Shared) (H:Hp) (fp:List Addr):Cx:=
 {X with
  N:=N',s₀:=s,H₀:=H,outer:=X.stack,ex:=fp,pn:=[],xe:=fun _ _=>False
  fn:=fun x=> !(sc.names.any fun p=>p.1==x&&p.2==NameKind.free)
  env:={scope:=relabel sc X.env,locals:=L,globals:=X.env.globals,cells:=cs,qual:=X.env.qual,func:=none,code:=X.env.code,frame:=X.env.frame,builtins:=X.env.builtins}}
noncomputable def inS (ix:List (Option Nat)) (σ:St):St:=ix.map fun o=>match o with
 |none=>none
 |some j=>(σ[j]?).join
noncomputable def ba (N:List Str) (osc:Scope) (N':List Str) (sc:Scope) (ix:List (Option Nat)):Bool:=
 decide (ix.length=N'.length) &&
 ((List.range ix.length).all fun i=>match ix[i]? with
  |some (some j)=>(match N'[i]?,N[j]? with
   |some x,some y=>x==y&&sc.names.lookup x==some NameKind.free
   |_,_=>false)
  |_=>true) &&
 (sc.names.all fun p=>(p.2 != NameKind.free||(osc.names.lookup p.1==some NameKind.cell||osc.names.lookup p.1==some NameKind.free))&&(p.2 != NameKind.local||sc.names.lookup p.1==some NameKind.local)) &&
 (sc.names.all fun p=>sc.names.all fun q=> !(p.1==q.1)||p.2==q.2)
section
variable {X:Cx} {pins:List (Addr×Obj)} {σ:St} {H:Hp} {s:Shared} {N':List Str} {sc:Scope} {ix:List (Option Nat)}
theorem ba.len (ok:ba X.N X.env.scope N' sc ix=true):ix.length=N'.length:=by
 unfold ba at ok
 rw [Bool.and_eq_true,Bool.and_eq_true,Bool.and_eq_true] at ok
 exact of_decide_eq_true ok.1.1.1
theorem ba.at (ok:ba X.N X.env.scope N' sc ix=true) {i j:Nat} {x:Str} (h:ix[i]? =some (some j)) (hx:N'[i]? =some x):X.N[j]? =some x/\sc.names.lookup x=some .free:=by
 unfold ba at ok
 rw [Bool.and_eq_true,Bool.and_eq_true,Bool.and_eq_true] at ok
 have q:=List.all_eq_true.mp ok.1.1.2 i (List.mem_range.mpr (List.getElem?_eq_some_iff.mp h).1)
 rw [h,hx] at q
 dsimp only at q
 cases e:X.N[j]? with
 |none=>rw [e] at q;cases q
 |some y=>
  rw [e] at q
  dsimp only at q
  rw [Bool.and_eq_true] at q
  exact ⟨by rw [eq_of_beq q.1],eq_of_beq q.2⟩
theorem ba.fr (ok:ba X.N X.env.scope N' sc ix=true) {x:Str} (h:(x,NameKind.free)∈sc.names):X.env.kindOf x=some .cell\/X.env.kindOf x=some .free:=by
 unfold ba at ok
 rw [Bool.and_eq_true,Bool.and_eq_true] at ok
 have q:=List.all_eq_true.mp ok.1.2 _ h
 rw [Bool.and_eq_true] at q
 have q1:=q.1
 rw [Bool.or_eq_true] at q1
 rcases q1 with z|z
 ·exact absurd z (by simp)
 ·rw [Bool.or_eq_true] at z
  exact z.imp (fun e=>eq_of_beq e) fun e=>eq_of_beq e
theorem ba.loc (ok:ba X.N X.env.scope N' sc ix=true):∀x∈sc.names,x.2=NameKind.local->sc.names.lookup x.1=some .local:=fun x hx e=>by
 unfold ba at ok
 rw [Bool.and_eq_true,Bool.and_eq_true] at ok
 have q:=List.all_eq_true.mp ok.1.2 _ hx
 rw [Bool.and_eq_true] at q
 have q1:=q.2
 rw [Bool.or_eq_true] at q1
 rcases q1 with z|z
 ·rw [e] at z;exact absurd z (by decide)
 ·exact eq_of_beq z
theorem ba.apart (ok:ba X.N X.env.scope N' sc ix=true) {x:Str} (h1:(x,NameKind.cell)∈sc.names) (h2:(x,NameKind.free)∈sc.names):False:=by
 unfold ba at ok
 rw [Bool.and_eq_true] at ok
 have q:=List.all_eq_true.mp (List.all_eq_true.mp ok.2 _ h1) _ h2
 simp at q
theorem kE (I:Inv X pins σ H s) (ok:ba X.N X.env.scope N' sc ix=true):∀x∈sc.names,x.2=NameKind.free->∃c,X.env.cells.lookup x.1=some c:=fun x hx e=>by
 obtain ⟨n,k⟩:=x
 have e':k=NameKind.free:=e
 subst e'
 exact I.ok.has n (ba.fr ok hx)
theorem vz (I:Inv X pins σ H s) (ok:ba X.N X.env.scope N' sc ix=true) {x:Str} {c:Addr} (h:(lK X.env.cells sc.names []).lookup x=some c):(x,NameKind.free)∈sc.names/\X.env.cells.lookup x=some c:=by
 rcases lJ _ _ h with ⟨m,e⟩|z
 ·obtain ⟨d,hd⟩:=kE I ok _ m rfl
  have hd':X.env.cells.lookup x=some d:=hd
  rw [hd'] at e
  have e2:c=d:=e
  subst e2
  exact ⟨m,hd'⟩
 ·simp at z
theorem comp_inv {fp:List Addr} {L:Addr} {h1:Heap} (I:Inv X pins σ H s) (hf:∀b∈fp,t9 X pins H b) (hb:∀b∈fp,∃o,s.heap.get? b=some o) (ok:ba X.N X.env.scope N' sc ix=true) (hk:sc.kind=.function) (hL:s.heap.objs.size<=L)
  (kp:∀b o,s.heap.get? b=some o->h1.get? b=some o) (ns:h1.Ns L fun _=>none)
  (hc:∀x c,(cellsFrom (L+1) sc.names (lK X.env.cells sc.names [])).lookup x=some c->(lK X.env.cells sc.names []).lookup x=some c\/(L<c/\h1.IsCell c none)) :
  Inv (aS X N' sc L (cellsFrom (L+1) sc.names (lK X.env.cells sc.names [])) s H fp) [] (inS ix σ) H {s with heap:=h1}:=by
 have cc:∀x c,(lK X.env.cells sc.names []).lookup x=some c->(x,NameKind.free)∈sc.names/\X.env.cells.lookup x=some c/\(∃v,s.heap.IsCell c v)/\c<s.heap.objs.size:=fun x c e=>by
  obtain ⟨m,e'⟩:=vz I ok e
  obtain ⟨v,z⟩:=I.cell x c e'
  exact ⟨m,e',⟨v,z⟩,z.lt⟩
 have fpl:∀b∈fp,b<s.heap.objs.size:=fun b z=>let ⟨o,e⟩:=hb b z;Heap.lt_size e
 have cne:∀b∈fp,∀x c,(cellsFrom (L+1) sc.names (lK X.env.cells sc.names [])).lookup x=some c->c≠b:=fun b z x c e=>by
  have hlt:=fpl b z
  rcases hc x c e with q|⟨q,_⟩
  ·exact (hf b z).2.2.2.2.1 x c (cc x c q).2.1
  ·exact gt_ne (Nat.lt_of_lt_of_le hlt hL) q
 have okk:(aS X N' sc L (cellsFrom (L+1) sc.names (lK X.env.cells sc.names [])) s H fp).Ok:=by
  refine ⟨I.ok.mod,hk,I.ok.glob,I.ok.blt,hL,?_,?_,?_,I.ok.hd,I.ok.frames,.inl rfl,?_,I.bs,Nat.le_trans I.ok.bsz I.sz,?_,?_,I.stack,I.tY⟩
  ·refine kJ sc.names (L+1) _ (fun x y c e1 e2=>I.ok.inj x y c (cc x c e1).2.1 (cc y c e2).2.1) fun x c e=>?_
   exact Nat.lt_succ_of_lt (Nat.lt_of_lt_of_le (cc x c e).2.2.2 hL)
  ·intro x hx
   have hx':=l9 (env:=X.env) (x:=x) (ns:=sc.names) hx
   have q:((cellsFrom (L+1) sc.names (lK X.env.cells sc.names [])).lookup x).isSome=true:=by
    rcases hx' with z|z
    ·exact PySem.W.cellsFrom_some _ _ _ (.inl z)
    ·exact PySem.W.cellsFrom_some _ _ _ (.inr (kG _ _ (.inl (PySem.mem_of_lookup z))))
   exact Option.isSome_iff_exists.mp q
  ·intro x c hfn e
   show s.heap.objs.size<=c
   rcases hc x c e with q|⟨q,_⟩
   ·have m:=(cc x c q).1
    have hfn':(!(sc.names.any fun p=>p.1==x&&p.2==NameKind.free))=true:=hfn
    have z:(sc.names.any fun p=>p.1==x&&p.2==NameKind.free)=true:=List.any_eq_true.mpr ⟨_,m,by simp⟩
    rw [z] at hfn'
    cases hfn'
   ·exact Nat.le_trans hL (Nat.le_of_lt q)
  ·intro b z
   have hlt:=fpl b z
   exact ⟨Nat.ne_of_lt (Nat.lt_of_lt_of_le hlt hL),cne b z⟩
  ·intro b o e z
   rcases (hf b z).2.2.2.1 with q|q
   ·exact I.ok.noex b o e q
   ·exact absurd (Nat.lt_of_lt_of_le (Heap.lt_size e) (Nat.le_trans I.ok.bsz q)) (Nat.lt_irrefl _)
  ·intro b z hs
   rcases List.mem_cons.mp (I.kY b hs) with q|q
   ·exact (hf b z).2.1 q
   ·exact (hf b z).2.2.1 q
 refine ⟨okk,rfl,I.bare,Un.kept kp,⟨_,ns,fun i x v h1' h2 h3=>?_⟩,fun x c e=>?_,I.hok.fresh hL,fun x c e=>?_,fun p hp=>absurd hp (by simp [aS]),I.hok.kept kp,?_⟩
 ·have hix:∃j,ix[i]? =some (some j)/\σ[j]? =some (some v):=by
   unfold inS at h2
   rw [List.getElem?_map] at h2
   cases e:ix[i]? with
   |none=>rw [e] at h2;cases h2
   |some o=>
    rw [e] at h2
    cases o with
    |none=>cases h2
    |some j=>
     have h2':(σ[j]?).join=some v:=Option.some.inj h2
     refine ⟨j,rfl,?_⟩
     cases e2:σ[j]? with
     |none=>rw [e2] at h2';cases h2'
     |some w=>
      rw [e2] at h2'
      have h2'':w=some v:=h2'
      rw [h2'']
  obtain ⟨j,e1,e2⟩:=hix
  obtain ⟨e3,e4⟩:=ba.at ok e1 h1'
  have hfr:=ba.fr ok (PySem.mem_of_lookup e4)
  obtain ⟨m,hn,hl⟩:=I.loc
  obtain ⟨u,r,l⟩:=hl j x v e3 e2 (hfr.elim (fun z=>.inr (.inl z)) fun z=>.inr (.inr z))
  refine ⟨u,r,.inr ⟨l8 (env:=X.env) (x:=x) (ns:=sc.names) e4,?_⟩⟩
  rcases l with ⟨k,_⟩|⟨k,c,e,z⟩
  ·rcases hfr with q|q<;>rw [q] at k<;>cases k
  ·have q1:=kG (cells:=X.env.cells) sc.names [] (.inl (PySem.mem_of_lookup e4))
   obtain ⟨c2,q2⟩:=Option.isSome_iff_exists.mp q1
   have q3:=(cc x c2 q2).2.1
   rw [e] at q3
   cases q3
   have q4:=PySem.W.cellsFrom_some (x:=x) sc.names (L+1) (lK X.env.cells sc.names []) (.inr q1)
   obtain ⟨c3,q5⟩:=Option.isSome_iff_exists.mp q4
   rcases hc x c3 q5 with q6|⟨q6,q7⟩
   ·rw [q2] at q6
    cases q6
    exact ⟨c,q5,z.keeps kp⟩
   ·exfalso
    rcases il _ _ _ q5 with ⟨_,m'⟩|q8
    ·exact ba.apart ok m' (PySem.mem_of_lookup e4)
    ·rw [q2] at q8
     cases q8
     exact absurd (Nat.lt_trans (Nat.lt_of_lt_of_le (cc x c q2).2.2.2 hL) q6) (Nat.lt_irrefl _)
 ·rcases hc x c e with q|⟨_,q⟩
  ·obtain ⟨v,z⟩:=(cc x c q).2.2.1
   exact ⟨v,z.keeps kp⟩
  ·exact ⟨_,q⟩
 ·rcases hc x c e with q|⟨q,_⟩
  ·exact I.freeC x c (cc x c q).2.1
  ·exact I.hok.fresh (Nat.le_trans hL (Nat.le_of_lt q))
 ·show (inS ix σ).length=N'.length
  unfold inS
  rw [List.length_map]
  exact ba.len ok
end
noncomputable def PTs (X:Cx) (ifs:List Expr) (t:TT):Prop:=
 ∀(pins:List (Addr×Obj)) (s:Shared) (σ:St) (H:Hp) (Q:Bool->Hp->Prop),Inv X pins σ H s->t σ H Q ->
  wpAny (model X.prog X.w) X.A (forIn ifs true fun c r=>if r=true then do let ok <- isTrue c X.env (eval c X.env);pure (ForInStep.yield ok) else pure (ForInStep.yield r)) (TP X pins σ Q) X.xe s
noncomputable def tYes:TT:=fun _ H Q=>Q true H
theorem pts_nil {X:Cx}:PTs X [] tYes:=fun _ _ _ H _ I h=>wpAny_tests_nil ⟨H,I,h⟩
theorem pq {X:Cx} {c:Expr} {t:TT} (h:PT X c t):PTs X [c] t:=fun pins s σ H Q I q=>wpAny_tests_one (h pins s σ H Q I q)
theorem oo {prog:Program} {w:World} {A:Around} {R:Result->Shared->Prop} {s:Shared} {elt tg iter:Expr} {ifs:List Expr} {scope:Scope} {pos:Pos} {it acc:Value} {env:Env} (J:Nat->Shared->Prop)
  (turn:∀n s,J n s->wpAny (model prog w) A (pyNext it) (fun r s1=>match r with
   |none=>R (.ok .next) s1
   |some v=>wpAny (model prog w) A (letOwnedTupleGo tg it v) (fun _ s1'=>wpAny (model prog w) A (assign tg env v) (fun _ s2=>
     wpAny (model prog w) A (forIn ifs true fun c r=>if r=true then do let ok <- isTrue c env (eval c env);pure (ForInStep.yield ok) else pure (ForInStep.yield r)) (fun ok s3=>
      if ok=true then wpAny (model prog w) A (eval elt env) (fun x s4=>wpAny (model prog w) A (call (.builtin "list.append") [acc,x]) (fun _ s5=>∃m,m<n/\J m s5) (fun _ _=>False) s4) (fun _ _=>False) s3
      else ∃m,m<n/\J m s3) (fun _ _=>False) s2) (fun _ _=>False) s1') (fun _ _=>False) s1) (fun _ _=>False) s)
  (n:Nat) (h:J n s):codeAny (model prog w) A (.compLoop (.ListComp elt [⟨tg,iter,ifs,0⟩] scope pos) 0 it acc env) R s:=by
 refine codeAny_loop rfl J (fun n s hJ=>?_) n h
 show wpAny _ A ((compTurn (.ListComp elt [⟨tg,iter,ifs,0⟩] scope pos) 0 it acc env).onRaise (fun x=>do noteFrame x env;theTreesLotGoes x)) _ _ s
 refine wpAny_noted ?_
 rw [compTurn_list]
 refine wpAny_bind (wpAny_standAt (wpAny_bind (wpAny_mono (turn n s hJ) (fun r s1 h1=>?_) fun _ _ z=>z.elim)))
 cases r with
 |none=>exact wpAny_pure h1
 |some v=>
  refine wpAny_bind (wpAny_mono h1 (fun _ s1' h1'=>?_) fun _ _ z=>z.elim)
  refine wpAny_bind (wpAny_mono h1' (fun _ s2 h2=>wpAny_bind (wpAny_mono h2 (fun ok s3 h3=>?_) fun _ _ z=>z.elim)) fun _ _ z=>z.elim)
  cases ok with
  |false=>exact wpAny_pure ⟨rfl,h3⟩
  |true=>
   exact wpAny_bind (wpAny_bind (wpAny_mono h3 (fun x s4 h4=>wpAny_bind (wpAny_mono h4 (fun _ s5 h5=>wpAny_pure (wpAny_pure ⟨rfl,h5⟩)) fun _ _ z=>z.elim)) fun _ _ z=>z.elim))
noncomputable def kF (J:It) (ix:List (Option Nat)) (g:TG) (tt:TT) (te:TE) (σ:St) (F:List V->Hp->Prop) (H:Hp):Prop:=
 ∃W:Nat->Nat->List V->Hp->Prop,(∃m,W 0 m [] H)/\∀i m ys H,W i m ys H ->
  (J.stop i H/\ys.length<=sizeLine/\F ys H)\/(J.go i H/\ys.length<=sizeLine/\∃N:List V->Hp->Prop,(∀ys' H',N ys' H'->∃m',m'<m/\W (i+1) m' ys' H') /\
   ∀x H',J.yld i H x H'->g x (inS ix σ) H' fun σ2 H2=>tt σ2 H2 fun b H3=>if b=true then te σ2 H3 fun y H4=>N (ys++[y]) H4 else N ys H3)
section
variable {X:Cx} {pins:List (Addr×Obj)} {σ:St} {H:Hp} {s:Shared} {N':List Str} {sc:Scope} {ix:List (Option Nat)}
theorem Inv.slots0 {X:Cx} {σ':St} (I:Inv X pins σ' H s) (h:∀(i:Nat) v,(inS ix σ)[i]? =some (some v)->σ'[i]? =some (some v)) (hl:(inS ix σ).length=X.N.length):Inv X pins (inS ix σ) H s:=
 I.weak (by rw [hl,I.len]) h
theorem om {tg elt iter:Expr} {ifs:List Expr} {pos:Pos} {g:TG} {tt:TT} {te:TE} {J:It} {fp:List Addr} {it:Addr} {tn:Nat->Heap->Prop} {F:List V->Hp->Prop} {E:Value->Shared->Prop}
  (hc:X.calm=true) (I:Inv X pins σ H s) (T:Turn X.prog X.w X.K tg J fp it tn) (st:tn 0 s.heap) (hf:∀b∈fp,t9 X pins H b) (ok:ba X.N X.env.scope N' sc ix=true) (hk:sc.kind=.function)
  (hg:∀L cs s H fp,PG (aS X N' sc L cs s H fp) tg g) (hkeep:∀x σ' H' (Q:St->Hp->Prop),g x σ' H' Q->g x σ' H' fun σ2 H2=>Q σ2 H2/\∀(i:Nat) v,σ'[i]? =some (some v)->(∃j,ix[i]? =some (some j))->σ2[i]? =some (some v))
  (ht:∀L cs s H fp,PTs (aS X N' sc L cs s H fp) ifs tt) (he:∀L cs s H fp,PE (aS X N' sc L cs s H fp) elt te)
  (tr:kF J ix g tt te σ F H) :
  wpAny (model X.prog X.w) X.A (newList []) (fun acc s3=>wpAny (model X.prog X.w) X.A (newFunctionEnv sc X.env.globals (lK X.env.cells sc.names []) [] X.env.qual none .none (some X.env)) (fun cenv s4=>
   codeAny (model X.prog X.w) X.A (.compStart (.ListComp elt [⟨tg,iter,ifs,0⟩] sc pos) 0 (.ref it) acc {cenv with scope:=relabel sc X.env}) (fun r s'=>(∃fl,r=.ok fl) /\
    ∃(p:Addr) (ys:List V) (H2:Hp),acc=.ref p/\Inv X pins σ (upd H2 p (.lst ys)) s'/\H2 p=none/\F ys H2/\(∃m,s'.heap.Ns cenv.locals m)/\(upd H2 p (.lst ys)) cenv.locals=none/\cenv.locals≠X.env.locals /\
     X.s₀.heap.objs.size<=cenv.locals/\(∀x c,X.env.cells.lookup x=some c->c≠cenv.locals)/\∀q∈X.pn++pins,q.1≠cenv.locals) s4) E s3) E s:=by
 obtain ⟨W,⟨m0,w0⟩,turn⟩:=tr
 refine wpAny_newObj_type (uG fun h1 kp ns hcl=>?_)
 dsimp only at kp ns hcl ⊢
 generalize hH2:s.heap.push {cls:=.type "list",dict:=none,data:=.seq ([]:List Value).toArray}=HH at kp ns hcl ⊢
 have eL:HH.objs.size=s.heap.objs.size+1:=by rw [<- hH2,Heap.size_push]
 have kp0:∀b o,s.heap.get? b=some o->h1.get? b=some o:=fun b o e=>kp b o (hH2▸Heap.get?_push_of_some _ e)
 have hD0:h1.PlainList s.heap.objs.size #[]:=⟨_,kp _ _ (hH2▸Heap.get?_push_size _ rfl)⟩
 have fpo:∀b∈fp,∃o,s.heap.get? b=some o:=fun b z=>let ⟨o,e,_⟩:=T.obj 0 _ st b z;⟨o,e⟩
 have fpl:∀b∈fp,b<s.heap.objs.size:=fun b z=>let ⟨o,e⟩:=fpo b z;Heap.lt_size e
 have sL:s.heap.objs.size<=HH.objs.size:=by rw [eL];exact Nat.le_succ _
 have sL':s.heap.objs.size<HH.objs.size:=by rw [eL];exact Nat.lt_succ_self _
 have I0:=comp_inv (h1:=h1) I hf fpo ok hk sL kp0 ns hcl
 generalize hXX:aS X N' sc HH.objs.size (cellsFrom (HH.objs.size+1) sc.names (lK X.env.cells sc.names [])) s H fp=Y at I0
 have eY1:Y.prog=X.prog:=by subst hXX;rfl
 have eY2:Y.w=X.w:=by subst hXX;rfl
 have eY3:Y.K=X.K:=by subst hXX;rfl
 have eY4:Y.calm=true:=by subst hXX;exact hc
 have eY5:Y.A=X.A:=by subst hXX;rfl
 have eY6:Y.env={scope:=relabel sc X.env,locals:=HH.objs.size,globals:=X.env.globals,cells:=cellsFrom (HH.objs.size+1) sc.names (lK X.env.cells sc.names []),qual:=X.env.qual,func:=none,code:=X.env.code,frame:=X.env.frame,builtins:=X.env.builtins}:=by subst hXX;rfl
 have eY7:Y.xe=fun _ _=>False:=by subst hXX;rfl
 have eY8:Y.pn=[]:=by subst hXX;rfl
 have eY9:Y.fs=frs X.stack:=by subst hXX;rfl
 have eY10:Y.s₀=s:=by subst hXX;rfl
 have eY11:Y.H₀=H:=by subst hXX;rfl
 have eY12:Y.ex=fp:=by subst hXX;rfl
 have eY13:Y.N=N':=by subst hXX;rfl
 have hgY:PG Y tg g:=by subst hXX;exact hg _ _ _ _ _
 have htY:PTs Y ifs tt:=by subst hXX;exact ht _ _ _ _ _
 have heY:PE Y elt te:=by subst hXX;exact he _ _ _ _ _
 have lenI:(inS ix σ).length=Y.N.length:=by rw [eY13];unfold inS;rw [List.length_map];exact ba.len ok
 have cellN:∀(b:Addr),b<=HH.objs.size->(∀x c,X.env.cells.lookup x=some c->c≠b)->∀x c,Y.env.cells.lookup x=some c->c≠b:=fun b hb hx x c e=>by
  rw [eY6] at e
  rcases hcl x c e with q|⟨q,_⟩
  ·exact hx x c (vz I ok q).2
  ·exact (sG (Nat.lt_of_le_of_lt hb (Nat.lt_succ_self _)) q).symm
 have oldc:∀x c,X.env.cells.lookup x=some c->c<s.heap.objs.size:=fun x c e=>let ⟨v,z⟩:=I.cell x c e;z.lt
 have nfs:∀b,s.heap.objs.size<=b->b∉frs X.stack:=fun b hb z=>by
  rcases List.mem_cons.mp (I.kY b z) with q|q
  ·exact sG I.lt hb q.symm
  ·exact I.nofs hb q
 have fpY:∀(pp:List (Addr×Obj)) (H':Hp),(∀b∈fp,H' b=none)->(∀q∈pp,q.1∉fp)->∀b∈fp,t9 Y pp H' b:=fun pp H' hn hq b z=>by
  have hlt:=fpl b z
  refine ⟨hn b z,?_,?_,.inl (by rw [eY12];exact z),cellN b (Nat.le_of_lt (Nat.lt_trans hlt sL')) ((hf b z).2.2.2.2.1),fun q hq' e=>?_⟩
  ·rw [eY6];exact sG hlt sL
  ·rw [eY9];intro hs
   rcases List.mem_cons.mp (I.kY b hs) with q|q
   ·exact (hf b z).2.1 q
   ·exact (hf b z).2.2.1 q
  ·rw [eY8] at hq'
   exact hq q (by simpa using hq') (by rw [e];exact z)
 have Dfp:s.heap.objs.size∉fp:=fun z=>absurd (fpl _ z) (Nat.lt_irrefl _)
 have Dok:∀(pp:List (Addr×Obj)) (H':Hp),H' s.heap.objs.size=none->(∀q∈pp,q.1≠s.heap.objs.size)->t9 Y pp H' s.heap.objs.size:=fun pp H' hn hq=>by
  refine ⟨hn,?_,by rw [eY9];exact nfs _ (Nat.le_refl _),.inr (by rw [eY10];exact Nat.le_refl _),cellN _ sL (fun x c e=>Nat.ne_of_lt (oldc x c e)),fun q hq'=>?_⟩
  ·rw [eY6];exact Nat.ne_of_lt sL'
  ·rw [eY8] at hq'
   exact hq q (by simpa using hq')
 have loop:codeAny (model X.prog X.w) X.A (.compLoop (.ListComp elt [⟨tg,iter,ifs,0⟩] sc pos) 0 (.ref it) (.ref s.heap.objs.size) Y.env) (fun r s'=>(∃fl,r=.ok fl) /\
    ∃(p:Addr) (ys:List V) (H2:Hp),Value.ref s.heap.objs.size=.ref p/\Inv X pins σ (upd H2 p (.lst ys)) s'/\H2 p=none/\F ys H2/\(∃m,s'.heap.Ns HH.objs.size m)/\(upd H2 p (.lst ys)) HH.objs.size=none/\HH.objs.size≠X.env.locals /\
     X.s₀.heap.objs.size<=HH.objs.size/\(∀x c,X.env.cells.lookup x=some c->c≠HH.objs.size)/\∀q∈X.pn++pins,q.1≠HH.objs.size) {s with heap:=h1}:=by
  refine oo (fun n s'=>∃i ys its H',Inv Y [] (inS ix σ) H' s'/\tn i s'.heap/\(∀b∈fp,H' b=none)/\H' s.heap.objs.size=none/\s'.heap.PlainList s.heap.objs.size its/\Vals ys its.toList/\W i n ys H') ?_ m0
   ⟨0,[],#[],H,I0,T.keep _ _ _ st fun b _ o e=>kp0 b o e,fun b z=>(hf b z).1,I.hok.fresh (Nat.le_refl _),hD0,.nil,w0⟩
  rintro n s3 ⟨i,ys,its,H3,I3,st3,fr3,hD3,pl3,vs3,w3⟩
  obtain ⟨nD,oD⟩:=pl3
  have hpD:∀q∈[((s.heap.objs.size:Addr),({cls:=.type "list",data:=.seq its nD}:Obj))],q.1∉fp:=fun q hq=>by
   have:q=_:=List.mem_singleton.mp hq
   rw [this];exact Dfp
  have I3':Inv Y [((s.heap.objs.size:Addr),({cls:=.type "list",data:=.seq its nD}:Obj))] (inS ix σ) H3 s3:=I3.ma fun q hq=>by
   have e:q=_:=List.mem_singleton.mp hq
   obtain ⟨d0,d1,d2,_⟩:=Dok [] H3 hD3 (fun _ z=>nomatch z)
   rw [e]
   exact ⟨oD,d0,d1,d2,fun v z=>by cases z⟩
  rcases turn i n ys H3 w3 with ⟨stop,ln,qn⟩|⟨go,ln,NN,hNN,step⟩
  ·have h1:=T.done Y eY1 eY2 eY3 eY4 i _ s3 _ H3 (fun _ _=>False) I3' (fpY _ H3 fr3 hpD) st3 stop
   rw [eY5] at h1
   refine wpAny_mono h1 (fun r s4 ⟨hr,I4⟩=>?_) fun _ _ z=>z
   subst hr
   obtain ⟨oD4,hD4,_⟩:=I4.pin ((s.heap.objs.size:Addr),({cls:=.type "list",data:=.seq its nD}:Obj)) (by rw [eY8];simp)
   refine ⟨⟨_,rfl⟩,s.heap.objs.size,ys,H3,rfl,?_,hD3,qn,?_,?_,?_,?_,?_,?_⟩
   ·have ub:Un (frs X.stack) fp H H3 s.heap s4.heap:=by
     have:=I4.base
     rw [eY9,eY10,eY11,eY12] at this
     exact this
    have hok4:HOk X.prog X.w H3 s4.heap:=by
     have:=I4.hok
     rw [eY1,eY2] at this
     exact this
    refine I.call' (ch:=fp) (by have:=I4.os;rw [eY10] at this;exact this) ⟨ub.keep,ub.slot,fun b o e nn hx=>?_,ub.there,fun b xs q=>?_,fun b o u q=>?_,fun b ps q=>?_⟩ (fun b u e=>?_) I4.bare (fun b hb=>?_)
    ·rw [aq (Nat.ne_of_lt (Heap.lt_size e))];exact ub.free b o e nn hx
    ·rw [aq (au (ub.tups b xs q) hD3)];exact ub.tups b xs q
    ·rw [aq (au (ub.frzs b o u q) hD3)];exact ub.frzs b o u q
    ·obtain ⟨more,z⟩:=ub.tbls b ps q
     exact ⟨more,by rw [aq (au z hD3)];exact z⟩
    ·by_cases hb:b=s.heap.objs.size
     ·subst hb
      rw [ar] at e
      cases e
      exact ⟨ln,its.toList,nD,vs3,by simpa using oD4⟩
     ·rw [aq hb] at e
      exact (hok4 b u e).pf (fun _ _ _ q=>q) (fun c q=>by rw [aq (au q hD3)];exact q) fun c xs q=>by rw [aq (au q hD3)];exact q
    ·obtain ⟨f0,f1,f2,f3,f4,f5⟩:=hf b hb
     exact ⟨f3,f1,f4,f5⟩
   ·obtain ⟨m,hn,_⟩:=I4.loc
    rw [eY6] at hn
    exact ⟨m,hn⟩
   ·rw [aq (Nat.ne_of_gt sL')]
    have:=I4.free
    rw [eY6] at this
    exact this
   ·exact Nat.ne_of_gt (Nat.lt_trans I.lt sL')
   ·exact Nat.le_trans I.sz sL
   ·exact fun x c e=>sG (oldc x c e) sL
   ·exact fun q hq=>sG (Heap.lt_size (I.pin q hq).1) sL
  ·have h1:=T.item Y eY1 eY2 eY3 eY4 i _ s3 _ H3 (fun _ _=>False) I3' (fpY _ H3 fr3 hpD) st3 go
   rw [eY5] at h1
   refine wpAny_mono h1 (fun r s4 ⟨u,hr,h4⟩=>?_) fun _ _ z=>z
   subst hr
   refine wpAny_mono h4 (fun _ s5 ⟨x,H5,I5,r5,y5,st5,fr5⟩=>?_) fun _ _ z=>z
   have I5':=I5.pinned (fpY _ H5 fr5 hpD) (T.obj _ _ st5)
   have h5:=hgY _ s5 _ H5 x u _ I5' r5 (hkeep x _ H5 _ (step x H5 y5))
   rw [eY1,eY2,eY5,eY7] at h5
   refine wpAny_mono h5 (fun _ s6 ⟨σ6,H6,I6,q6,k6⟩=>?_) fun _ _ z=>z
   have h6:=htY _ s6 σ6 H6 _ I6 q6
   rw [eY1,eY2,eY5,eY7] at h6
   refine wpAny_mono h6 (fun b s7 ⟨H7,I7,q7⟩=>?_) fun _ _ z=>z
   have back:∀{s8:Shared} {H8:Hp},Inv Y ([((s.heap.objs.size:Addr),({cls:=.type "list",data:=.seq its nD}:Obj))]++nG fp s5.heap) σ6 H8 s8->Inv Y [] (inS ix σ) H8 s8/\tn (i+1) s8.heap/\(∀b∈fp,H8 b=none)/\H8 s.heap.objs.size=none/\s8.heap.get? s.heap.objs.size=some {cls:=.type "list",data:=.seq its nD}:=fun {s8 H8} I8=>by
    obtain ⟨a1,a2,_⟩:=I8.pin ((s.heap.objs.size:Addr),({cls:=.type "list",data:=.seq its nD}:Obj)) (by rw [eY8];simp)
    refine ⟨(I8.ma (pins':=[]) fun _ z=>nomatch z).slots0 (fun k v e=>?_) lenI,T.keep _ _ _ st5 fun b hb o e=>(I8.pin (b,o) (List.mem_append_right _ (List.mem_append_right _ (gL hb e)))).1,fun b hb=>?_,a2,a1⟩
    ·refine k6 k v e ?_
     unfold inS at e
     rw [List.getElem?_map] at e
     cases e2:ix[k]? with
     |none=>rw [e2] at e;cases e
     |some o=>
      cases o with
      |none=>rw [e2] at e;cases e
      |some j=>exact ⟨j,rfl⟩
    ·obtain ⟨o,e,d⟩:=T.obj _ _ st5 b hb
     exact (I8.pin (b,o) (List.mem_append_right _ (List.mem_append_right _ (gL hb e)))).2.1
   cases b with
   |false=>
    rw [if_neg Bool.false_ne_true] at q7 ⊢
    obtain ⟨m',hm,w7⟩:=hNN _ _ q7
    obtain ⟨b1,b2,b3,b4,b5⟩:=back I7
    exact ⟨m',hm,i+1,ys,its,H7,b1,b2,b3,b4,⟨nD,b5⟩,vs3,w7⟩
   |true=>
    rw [if_pos rfl] at q7 ⊢
    have h7:=heY _ s7 σ6 H7 _ I7 q7
    rw [eY1,eY2,eY5,eY7,eY6] at h7
    rw [eY6]
    refine wpAny_mono h7 (fun uu s8 ⟨y,H8,I8,r8,q8⟩=>?_) fun _ _ z=>z
    obtain ⟨m',hm,w8⟩:=hNN _ _ q8
    obtain ⟨b1,b2,b3,b4,b5⟩:=back I8
    have ez:its.size<=sizeLine:=by
     have h1:=vs3.length
     have h2:its.toList.length=its.size:=by simp
     omega
    refine wpAny_list_append_plain (hsz:=ez) ⟨nD,b5⟩ fun h9 pl9 sb9=>?_
    obtain ⟨d0,d1,d2,d3,d4,d5⟩:=Dok [] H8 b4 (fun _ z=>nomatch z)
    refine ⟨m',hm,i+1,ys++[y],its.push uu,H8,b1.turned (t':=s8.toks) (fun b o hb e=>(sb9.2 b hb).trans e) d0 d1 d3 d4 d5,T.keep _ _ _ b2 fun b hb o e=>(sb9.2 b ?_).trans e,b3,b4,pl9,?_,w8⟩
    ·exact sG (fpl b hb) (Nat.le_refl _)
    ·rw [Array.toList_push]
     exact vs3.append (.cons r8 .nil)
 rw [eY6] at loop
 exact codeAny_compStart_list loop (T.self X.A 0 _ _ _ (T.keep _ _ _ st fun b _ o e=>kp0 b o e) loop)
end
noncomputable def tComp (wi:TI) (ix:List (Option Nat)) (g:TG) (tt:TT) (te:TE):TE:=fun σ H Q=>wi σ H fun J H1=>kF J ix g tt te σ (fun ys H2=>∀p,H2 p=none->Q (.ref p) (upd H2 p (.lst ys))) H1
noncomputable def lO (ix:List (Option Nat)) (g:TG):Prop:=∀x σ' H' (Q:St->Hp->Prop),g x σ' H' Q->g x σ' H' fun σ2 H2=>Q σ2 H2/\∀(i:Nat) v,σ'[i]? =some (some v)->(∃j,ix[i]? =some (some j))->σ2[i]? =some (some v)
theorem da {ix:List (Option Nat)} {k:Nat} (h:ix[k]? =some none):lO ix (g8 k):=fun x σ' H' Q q=>⟨q,fun i v e ⟨j,hj⟩=>by
 have:k≠i:=by rintro rfl;rw [h] at hj;cases hj
 rw [List.getElem?_set_ne this];exact e⟩
section
variable {X:Cx} {N':List Str} {sc:Scope} {ix:List (Option Nat)} {tg elt iter:Expr} {ifs:List Expr} {pos spos py:Pos} {wi:TI} {g:TG} {tt:TT} {te:TE}
theorem pe_comp (N':List Str) (ix:List (Option Nat)) (hc:X.calm=true) (hi:PI X tg iter wi) (hg:∀L cs s H fp,PG (aS X N' sc L cs s H fp) tg g) (hl:lO ix g)
  (ht:∀L cs s H fp,PTs (aS X N' sc L cs s H fp) ifs tt) (he:∀L cs s H fp,PE (aS X N' sc L cs s H fp) elt te)
  (ok:ba X.N X.env.scope N' sc ix=true:=by rfl) (hk:sc.kind=.function:=by rfl) (hs:∀x,foldedSetIterable iter X.env x=pure x:=by intro _;rfl) :
  PE X (.ListComp elt [⟨tg,iter,ifs,0⟩] sc pos) (tComp wi ix g tt te):=by
 intro pins s σ H Q I h
 rw [eval_ListComp]
 refine wpAny_comprehension_free (use:=none) rfl hs (lI (kE I ok)) hk (ba.loc ok) (thn (hi pins s σ H _ I h) fun v s1 h1=>thn h1 fun itv s2 h2=>?_)
 obtain ⟨it,fp,tn,J,H2,e,I2,T,st2,f2,tr⟩:=h2
 subst e
 refine thn (om hc I2 T st2 f2 ok hk hg hl ht he tr) fun acc s3 h3=>thn h3 fun cenv s4 h4=>codeAny_mono h4 fun r s5 hr=>?_
 obtain ⟨⟨fl,e1⟩,p,ys,H5,e2,I5,hp,q,⟨m,hn⟩,c0,c1,c2,c3,c4⟩:=hr
 subst e1
 subst e2
 exact ⟨m,hn,fun h' sb=>⟨.ref p,_,I5.turned (t':=s5.toks) (fun b o hb e=>(sb.2 b hb).trans e) c0 c1 (.inr c2) c3 c4,rfl,q p hp⟩⟩
noncomputable def tSetComp (j:Nat) (wi:TI) (ix:List (Option Nat)) (g:TG) (tt:TT) (te:TE):TS:=fun D σ H=>wi σ H fun J H1=>kF J ix g tt te σ (fun ys H2=>∀p,H2 p=none->D.nx (σ.set j (some (.ref p))) (upd H2 p (.lst ys))) H1
theorem sd (N':List Str) (ix:List (Option Nat)) {j:Nat} {y:Str} (hN:X.N.Nodup) (hj:X.N[j]? =some y) (hy:X.env.scope.names.lookup y=some .local) (hc:X.calm=true) (hi:PI X tg iter wi) (hg:∀L cs s H fp,PG (aS X N' sc L cs s H fp) tg g) (hl:lO ix g)
  (ht:∀L cs s H fp,PTs (aS X N' sc L cs s H fp) ifs tt) (he:∀L cs s H fp,PE (aS X N' sc L cs s H fp) elt te)
  (hsw:swapsWith (.ListComp elt [⟨tg,iter,ifs,0⟩] sc pos) (some (.Name y py)) spos.line X.env=pure true:=by rfl)
  (ok:ba X.N X.env.scope N' sc ix=true:=by rfl) (hk:sc.kind=.function:=by rfl) (hs:∀x,foldedSetIterable iter X.env x=pure x:=by intro _;rfl) :
  PS X (.Assign [.Name y py] (.ListComp elt [⟨tg,iter,ifs,0⟩] sc pos) spos) (tSetComp j wi ix g tt te):=by
 intro pins s σ H D I h
 rw [exec_Assign_Name_used _ _ _ _ hsw]
 refine wpAny_bind (wpAny_standAt (wpAny_bind ?_))
 show wpAny _ X.A (do let _ <- comprehension (.ListComp elt [⟨tg,iter,ifs,0⟩] sc pos) sc X.env _ (newList []) false (eval iter X.env) (some (assign (.Name y py) X.env))) _ _ s
 refine wpAny_bind (wpAny_mono (wpAny_comprehension_free (use:=some (assign (.Name y py) X.env)) (Q:=fun _ s'=>SP X pins D .next s') rfl hs (lI (kE I ok)) hk (ba.loc ok) (thn (hi pins s σ H _ I h) fun v s1 h1=>thn h1 fun itv s2 h2=>?_)) (fun _ s' hq=>wpAny_pure (wpAny_pure hq)) fun _ _ z=>z)
 obtain ⟨it,fp,tn,J,H2,e,I2,T,st2,f2,tr⟩:=h2
 subst e
 refine thn (om hc I2 T st2 f2 ok hk hg hl ht he tr) fun acc s3 h3=>thn h3 fun cenv s4 h4=>codeAny_mono h4 fun r s5 hr=>?_
 obtain ⟨⟨fl,e1⟩,p,ys,H5,e2,I5,hp,q,⟨m,hn⟩,c0,c1,c2,c3,c4⟩:=hr
 subst e1
 subst e2
 show wpAny _ X.A (assign (.Name y py) X.env (.ref p)) _ _ s5
 refine wpAny_assign_Name (nk (v:=.ref p) I5 hN hj (.inl hy) rfl (fun s6 I6 ⟨a,sb,ha⟩=>?_) (.inr hy))
 have ea:cenv.locals≠a:=by
  rcases ha with z|z
  ·rw [z];exact c1
  ·exact fun e=>c3 y a z e.symm
 refine ⟨m,hn.sameBut sb ea,fun h' sb'=>?_⟩
 exact ⟨_,_,I6.turned (t':=s6.toks) (fun b o hb e=>(sb'.2 b hb).trans e) c0 c1 (.inr c2) c3 c4,q p hp⟩
end
end L2
namespace L2
open PySem PySem.Spec PyProof.Rows
section
variable {X:Cx}
noncomputable def clsV:V->Option Value
 |.ty n=>some (.type n)
 |.ref a=>some (.ref a)
 |_=>none
theorem clsV_is {y:V} {c u:Value} (h:clsV y=some c) (r:RelV y u):u=c:=by
 cases y with
 |ty n=>cases r;exact Option.some.inj h
 |ref a=>cases r;exact Option.some.inj h
 |_=>cases h
theorem call_isi:bB X (.builtin "isinstance") (fun xs H Q=>∃x y c t b,xs=[x,y]/\clsV y=some c/\pZ X.K H x t/\kitOne X.K t c=some b/\Q (.bl b) H):=by
 intro pins s σ H xs us Q I r h
 obtain ⟨x,y,c,t,b,rfl,hc,ty,e,q⟩:=h
 obtain ⟨u,v,rfl,ru,rv⟩:=r.two
 have ev:=clsV_is hc rv
 subst ev
 exact nS I ru ty e fun tk=>⟨.bl b,H,I.tok tk,rfl,q⟩
inductive EqV (K:PySem.W.Frag) (H:Hp):Nat->V->V->Bool->Prop where
 |flat {n:Nat} {x y:V} (hx:flatV x=true) (hy:flatV y=true):EqV K H n x y (eqV x y)
 |same {n:Nat} {a:Addr}:EqV K H n (.ref a) (.ref a) true
 |lists {n:Nat} {a b:Addr} {xs ys:List V} {e:Nat->Bool} (ha:SqL K H a xs) (hb:SqL K H b ys) (hl:xs.length=ys.length) (ne:a≠b)
   (he:∀j x y,xs[j]? =some x->ys[j]? =some y->EqV K H n x y (e j)):EqV K H (n+1) (.ref a) (.ref b) ((List.range xs.length).all e)
 |listsL {n:Nat} {a b:Addr} {xs ys:List V} (ha:SqL K H a xs) (hb:SqL K H b ys) (hl:xs.length≠ys.length) (ne:a≠b):EqV K H (n+1) (.ref a) (.ref b) false
 |tups {n:Nat} {a b:Addr} {xs ys:List V} {e:Nat->Bool} (ha:SqT K H a xs) (hb:SqT K H b ys) (ne:a≠b)
   (he:∀j x y,xs[j]? =some x->ys[j]? =some y->EqV K H n x y (e j)):EqV K H (n+1) (.ref a) (.ref b) ((List.range (min xs.length ys.length)).all e&&xs.length==ys.length)
theorem Vals.atA {xs:List V} {us:List Value} (r:Vals xs us) {j:Nat} (h:j<us.toArray.size):∃x,xs[j]? =some x/\RelV x us.toArray[j]:=by
 have hl:=r.length
 have hj:j<xs.length:=by rw [hl];simpa using h
 obtain ⟨u,e1,e2⟩:=r.get (i:=j) (x:=xs[j]) (by simp [hj])
 refine ⟨xs[j],by simp [hj],?_⟩
 have:us.toArray[j]=u:=by
  have h':j<us.length:=by simpa using h
  rw [List.getElem?_eq_getElem h'] at e1
  simpa using Option.some.inj e1
 rw [this];exact e2
end
end L2
namespace L2
open PySem PySem.Spec PyProof.Rows
section
variable {X:Cx} {x:Str} {pos:Pos}
theorem uo {T:String} (hg:Gl X x) (hm:X.mg x=none) (hv:bootBuiltins x=some (.type T)) (hn:x≠"__name__":=by decide) (hd:(x==("__debug__":Str))=false:=by decide):PE X (.Name x pos) (tC (.ty T)):=pe_bltn (v:=.ty T) hg hm hv rfl hn hd
theorem pe_gint {n:Int} (hg:Gl X x) (hm:∃t,X.mg x=some (.int n t)) (hd:(x==("__debug__":Str))=false:=by decide):PE X (.Name x pos) (tC (.int n)):=by
 obtain ⟨t,e⟩:=hm
 exact pA (v:=.int n) hg e ⟨t,rfl⟩ hd
end
section
variable {P:Program} {w:World} {K:PySem.W.Frag} {mg:Str->Option Value} {base:Heap} {CX:CXT}
theorem Fun.okX {x qual:Str} {st:Stmt} {f:Addr} {fd:FuncData} {N ps:List Str} {k:Nat} {sp:Sp} (F:Fun K x qual st f fd) (S:cB N ps (aD st)) (len:∀vs H Q E,sp vs H Q E->vs.length=ps.length)
  (hbody:∀(cdv:Value) (A:Around) (outer:List Env) (s:Shared) (H:Hp) (vs:List V) (Q:VK) (E:XK),jI k (A.deeper (envOfC qual (aD st) s.heap.objs.size f cdv))->sp vs H Q E ->
   ∃t,PSs (vy CX P w K mg base N qual (aD st) f cdv A outer s H E).nox (eN st) t/\t {nx:=fun _ H'=>Q .non H',rt:=Q} (start N vs) H):gS P w K mg base CX (k+1) f fd ps sp:=by
 obtain ⟨oc,od,kV,doc,pm,an,cdv,ct,osl,rfl,lk,hcd⟩:=F.ex
 refine fn_of lk hcd S len fun A outer s H vs Q E hr hsp=>?_
 obtain ⟨t,h,q⟩:=hbody cdv A outer s H vs Q E hr hsp
 exact ⟨t,h.nox,q⟩
structure Def (K:PySem.W.Frag) (mg:Str->Option Value) (x:Str) (st:Stmt) (ps:List Str) (f:Addr) (fd:FuncData):Prop where
 fn:Fun K x x st f fd
 mg:mg x=some (.ref f)
 bd:Binds K fd ps []
theorem i0 {h:Heap} (KX:K.In h) (G:h.Ns mainGlobals mg) {x:Str} {st:Stmt} {ps:List Str} {f:Addr} {oc:Value} {od an:Option Addr} {osl:Array (Option Value)} {kV doc pm cdv ct:Value}
  (a:nsIn K mainGlobals x=some (some (.ref f))) (l:K.lookup f=some ⟨oc,od,.func (fnOf x x (gH st) (eN st) (aD st) .none kV doc pm an cdv ct),osl⟩) (c:codeIn K cdv x=true) (k:keepIn K (.ref f)=true)
  (hb:∀(kV doc pm:Value) (an:Option Addr) (cdv ct:Value) (us:List Value),us.length=ps.length->bindArgs (fnOf x x (gH st) (eN st) (aD st) .none kV doc pm an cdv ct) ⟨us,[]⟩=pure (ps.zip us)) :
  Def K mg x st ps f (fnOf x x (gH st) (eN st) (aD st) .none kV doc pm an cdv ct):=
 ⟨fun_mk l c k,mg_of KX G a,(fun_mk l c k).binds hb⟩
structure Mth (K:PySem.W.Frag) (C:Addr) (x qual:Str) (st:Stmt) (ps:List Str) (f:Addr) (fd:FuncData):Prop where
 fn:Fun K x qual st f fd
 mt:Meth K C x f
 bd:Binds K fd ps []
structure Kls (K:PySem.W.Frag) (mg:Str->Option Value) (x:Str) (C:Addr):Prop where
 cl:Cls K C
 mg:mg x=some (.ref C)
 mks:PySem.W.makesIn K C=true
 kp:keepIn K (.ref C)=true
 c1:PySem.W.findIn K (.ref C) "__class__"=some (some (.builtin "object.__class__"))
 c2:specialIn K (.builtin "object.__class__") "__get__"=some (some (.builtin "getset_descriptor.__get__"))
 c3:PySem.W.takesIn K (.builtin "object.__class__")=some true
 c4:PySem.W.mroIn K C (.type "object")=some true
theorem Kls.ty {x:Str} {C a dx:Addr} {fs:List (Str×V)} {H:Hp} (k:Kls K mg x C) (e:H a=some (.ins C dx fs)):pZ K H (.ref a) (.ref C):=.ins e k.cl k.c1 k.c2 k.c3 k.c4
end
section
variable {X:Cx} {K:PySem.W.Frag}
theorem call_isiK (hK:X.K=K:=by rfl):bB X (.builtin "isinstance") (fun xs H Q=>∃x y c t b,xs=[x,y]/\clsV y=some c/\pZ K H x t/\kitOne K t c=some b/\Q (.bl b) H):=by subst hK;exact call_isi
theorem pg_c {N':List Str} {sc:Scope} {L:Addr} {cs:List (Str×Addr)} {s:Shared} {H:Hp} {fp:List Addr} {pos:Pos} {i:Nat} {x:Str} (hN:N'.Nodup) (hi:N'[i]? =some x) (hx:Loc (aS X N' sc L cs s H fp).env.scope x)
  (hf:(aS X N' sc L cs s H fp).fn x=true\/(aS X N' sc L cs s H fp).env.scope.names.lookup x=some .local:=by first|exact .inl rfl|exact .inr rfl|assumption):PG (aS X N' sc L cs s H fp) (.Name x pos) (g8 i):=jW hN hi hx hf
end
structure Grid (H:Hp) (a:Addr) (as:List Addr) (rows:List (List Int)):Prop where
 top:H a=some (.lst (as.map V.ref))
 len:as.length=rows.length
 row:∀(i:Nat) (b:Addr) (r:List Int),as[i]? =some b->rows[i]? =some r->H b=some (.lst (r.map V.int))
theorem Grid.same {H H':Hp} {a:Addr} {as:List Addr} {rows:List (List Int)} (g:Grid H a as rows) (h:aC H H'):Grid H' a as rows:=
 ⟨h _ _ g.top,g.len,fun i b r e1 e2=>h _ _ (g.row i b r e1 e2)⟩
theorem aC.upd {H:Hp} {a:Addr} {o:HO} (h:H a=none):aC H (upd H a o):=fun b u e=>by rw [aq (au e h)];exact e
end L2
namespace L2
open PySem PySem.Spec PyProof.Rows
section
variable {X:Cx} {CX:CXT} {k:Nat} {f C:Addr} {fd:FuncData} {ps:List Str} {sp:Sp} {dvs:List V} {ds:List Value} {E:XK} {x m:Str} {p pos apos:Pos} {e:Expr} {es:List Expr} {t:TA} {mc:Value}
structure Stat (K:PySem.W.Frag) (C:Addr) (mc:Value) (m:Str) (f:Addr):Prop where
 s1:specialIn K (.ref C) "__getattribute__"=some (some (.builtin "type.__getattribute__"))
 s2:PySem.W.readsIn K C mc=true
 s3:PySem.W.findCls K (.ref C) mc m=some (.val (.ref f))
 s4:keepIn K (.ref f)=true
end
noncomputable def Keeps (S:Addr->Prop) (H H':Hp):Prop:=∀b o,H b=some o->¬S b->H' b=some o
theorem Keeps.same {S:Addr->Prop} {H H1 H2:Hp} (k:Keeps S H H1) (s:aC H1 H2):Keeps S H H2:=fun b o e n=>s b o (k b o e n)
end L2
namespace L2
open PySem PySem.Spec PyProof.Rows
section
variable {X:Cx} {a b c d:Expr} {ta tb tc td:TE} {pos:Pos}
theorem aC.tup {K:PySem.W.Frag} {H H':Hp} {a:Addr} {xs:List V} (e:aC H H') (h:SqT K H a xs):SqT K H' a xs:=by
 rcases h with (h|⟨o,h⟩)|h
 ·exact .inl (.inl (e _ _ h))
 ·exact .inl (.inr ⟨o,e _ _ h⟩)
 ·exact .inr h
end
end L2
namespace L2
open PySem PySem.Spec PyProof.Rows
theorem iq {K:PySem.W.Frag} {a:Addr} {H:Hp} {xs:List V} (h:H a=some (.lst xs)):tyV K "list" (.ref a) H:=.inl ⟨rfl,_,SqL.of h⟩
inductive Dat where
 |non|bl (b:Bool)|int (i:Int)|str (x:Str)|tup (ds:List Dat)|lst (ds:List Dat)|ins (C:Addr) (fs:List (Str×Dat))|dic (ks:List (List Int×Dat))|dil (ks:List (Int×List (List Int)))
noncomputable abbrev gJ:=List Int×Addr×V
noncomputable def tHash (ks:List Int):Int:=reduceHash (PySem.Builtin.Tuple.tupleHashOf (ks.map hashInt))
noncomputable def rowE (x:List Int×Addr×Value):DictEntry:=⟨tHash x.1,.ref x.2.1,x.2.2⟩
noncomputable def eP (p:gJ) (q:List Int×Addr×Value):Prop:=p.1=q.1/\p.2.1=q.2.1/\RelV p.2.2 q.2.2
noncomputable def kT (h:Heap) (a:Addr) (xs:List gJ) (ep:Nat):Prop:=∃vs:List (List Int×Addr×Value),Paired eP xs vs/\(a==sysModules)=false/\xs.length<=sizeLine/\(vs.map (·.1)).Nodup/\∃o es,h.get? a=some o/\o.ExactDict/\o.data=.dict es ep/\es.toList=vs.map rowE
noncomputable def jv (a:Addr) (xs:List gJ) (ep:Nat):HO:=.ext fun h=>kT h a xs ep
noncomputable abbrev LK:=Int×List (List Int)
noncomputable def lHash (k:LK):Int:=reduceHash (PySem.Builtin.Tuple.tupleHashOf [hashInt k.1,reduceHash (PySem.Builtin.Tuple.tupleHashOf (k.2.map tHash))])
noncomputable def rowL (x:LK×Addr):DictEntry:=⟨lHash x.1,.ref x.2,.bool true⟩
noncomputable def DilOk (h:Heap) (a:Addr) (xs:List (LK×Addr)) (ep:Nat):Prop:=(a==sysModules)=false/\xs.length<=sizeLine/\(xs.map (·.1)).Nodup/\∃o es,h.get? a=some o/\o.ExactDict/\o.data=.dict es ep/\es.toList=xs.map rowL
noncomputable def DilO (a:Addr) (xs:List (LK×Addr)) (ep:Nat):HO:=.ext fun h=>DilOk h a xs ep
noncomputable def LabAt (K:PySem.W.Frag) (F:Hp) (b:Addr) (k:LK):Prop:=∃(r:Addr) (bs:List Addr),SqT K F b [V.int k.1,V.ref r]/\SqT K F r (bs.map V.ref)/\bs.length=k.2.length/\∀(j:Nat) (row:List Int) (c:Addr),k.2[j]? =some row->bs[j]? =some c->SqT K F c (row.map V.int)
noncomputable def tf (K:PySem.W.Frag) (F:Hp) (ks:List LK) (xs:List (LK×Addr)):Prop:=xs.map (·.1)=ks/\∀x∈xs,LabAt K F x.2 x.1
mutual
noncomputable def aZ (K:PySem.W.Frag) (F:Hp):Dat->V->Prop
 |.non,v=>v=.non
 |.bl b,v=>v=.bl b
 |.int i,v=>v=.int i
 |.str x,v=>v=.str x
 |.tup ds,v=>∃a xs,v=.ref a/\SqT K F a xs/\ak K F ds xs
 |.lst ds,v=>∃a xs,v=.ref a/\SqL K F a xs/\ak K F ds xs
 |.ins C gs,v=>∃a dx fs,v=.ref a/\F a=some (.ins C dx fs)/\oK K F gs fs
 |.dic ks,v=>∃a xs,v=.ref a/\(∃ep,F a=some (jv a xs ep))/\bx K F ks xs
 |.dil ks,v=>∃a xs,v=.ref a/\(∃ep,F a=some (DilO a xs ep))/\tf K F ks xs
noncomputable def ak (K:PySem.W.Frag) (F:Hp):List Dat->List V->Prop
 |[],xs=>xs=[]
 |d::ds,xs=>∃v vs,xs=v::vs/\aZ K F d v/\ak K F ds vs
noncomputable def oK (K:PySem.W.Frag) (F:Hp):List (Str×Dat)->List (Str×V)->Prop
 |[],fs=>fs=[]
 |(f,d)::gs,fs=>∃v r,fs=(f,v)::r/\aZ K F d v/\oK K F gs r
noncomputable def bx (K:PySem.W.Frag) (F:Hp):List (List Int×Dat)->List gJ->Prop
 |[],xs=>xs=[]
 |(k,d)::ks,xs=>∃b v r,xs=(k,b,v)::r/\SqT K F b (k.map .int)/\aZ K F d v/\bx K F ks r
end
mutual
noncomputable def ig:Dat->Bool
 |.tup ds=>qT ds
 |.lst _=>false
 |.ins _ _=>false
 |.dic _=>false
 |.dil _=>false
 |_=>true
noncomputable def qT:List Dat->Bool
 |[]=>true
 |d::ds=>ig d&&qT ds
end
theorem aC.lst {K:PySem.W.Frag} {H H':Hp} {a:Addr} {xs:List V} (e:aC H H') (h:SqL K H a xs):SqL K H' a xs:=by
 rcases h with (h|⟨o,h⟩)|h
 ·exact .inl (.inl (e _ _ h))
 ·exact .inl (.inr ⟨o,e _ _ h⟩)
 ·exact .inr h
theorem LabAt.mono {K:PySem.W.Frag} {F F':Hp} (s:aC F F') {b:Addr} {k:LK} (h:LabAt K F b k):LabAt K F' b k:=
 let ⟨r,bs,t1,t2,l,t3⟩:=h;⟨r,bs,s.tup t1,s.tup t2,l,fun j row c e1 e2=>s.tup (t3 j row c e1 e2)⟩
theorem tf.mono {K:PySem.W.Frag} {F F':Hp} (s:aC F F') {ks:List LK} {xs:List (LK×Addr)} (h:tf K F ks xs):tf K F' ks xs:=⟨h.1,fun x hx=>(h.2 x hx).mono s⟩
mutual
theorem aZ.mono {K:PySem.W.Frag} {F F':Hp} (s:aC F F'):∀{d:Dat} {v:V},aZ K F d v->aZ K F' d v
 |.non,_,h=>h
 |.bl _,_,h=>h
 |.int _,_,h=>h
 |.str _,_,h=>h
 |.tup _,_,⟨a,xs,e,q,r⟩=>⟨a,xs,e,s.tup q,ak.mono s r⟩
 |.lst _,_,⟨a,xs,e,q,r⟩=>⟨a,xs,e,s.lst q,ak.mono s r⟩
 |.ins _ _,_,⟨a,dx,fs,e,q,r⟩=>⟨a,dx,fs,e,s _ _ q,oK.mono s r⟩
 |.dic _,_,⟨a,xs,e,⟨ep,q⟩,r⟩=>⟨a,xs,e,⟨ep,s _ _ q⟩,bx.mono s r⟩
 |.dil _,_,⟨a,xs,e,⟨ep,q⟩,r⟩=>⟨a,xs,e,⟨ep,s _ _ q⟩,tf.mono s r⟩
theorem ak.mono {K:PySem.W.Frag} {F F':Hp} (s:aC F F'):∀{ds:List Dat} {xs:List V},ak K F ds xs->ak K F' ds xs
 |[],_,h=>h
 |_::_,_,⟨v,vs,e,q,r⟩=>⟨v,vs,e,aZ.mono s q,ak.mono s r⟩
theorem oK.mono {K:PySem.W.Frag} {F F':Hp} (s:aC F F'):∀{gs:List (Str×Dat)} {fs:List (Str×V)},oK K F gs fs->oK K F' gs fs
 |[],_,h=>h
 |(_,_)::_,_,⟨v,r,e,q,t⟩=>⟨v,r,e,aZ.mono s q,oK.mono s t⟩
theorem bx.mono {K:PySem.W.Frag} {F F':Hp} (s:aC F F'):∀{ks:List (List Int×Dat)} {xs:List gJ},bx K F ks xs->bx K F' ks xs
 |[],_,h=>h
 |(_,_)::_,_,⟨b,v,r,e,t,q,z⟩=>⟨b,v,r,e,s.tup t,aZ.mono s q,bx.mono s z⟩
end
mutual
theorem aZ.flat {K:PySem.W.Frag} {F F':Hp} (s:∀a xs,SqT K F a xs->SqT K F' a xs):∀{d:Dat} {v:V},ig d=true->aZ K F d v->aZ K F' d v
 |.non,_,_,h=>h
 |.bl _,_,_,h=>h
 |.int _,_,_,h=>h
 |.str _,_,_,h=>h
 |.tup ds,_,f,⟨a,xs,e,q,r⟩=>⟨a,xs,e,s _ _ q,ak.flat s (by simpa [ig] using f) r⟩
 |.lst _,_,f,_=>by simp [ig] at f
 |.ins _ _,_,f,_=>by simp [ig] at f
 |.dic _,_,f,_=>by simp [ig] at f
 |.dil _,_,f,_=>by simp [ig] at f
theorem ak.flat {K:PySem.W.Frag} {F F':Hp} (s:∀a xs,SqT K F a xs->SqT K F' a xs):∀{ds:List Dat} {xs:List V},qT ds=true->ak K F ds xs->ak K F' ds xs
 |[],_,_,h=>h
 |d::ds,_,f,⟨v,vs,e,q,r⟩=>by
  simp only [qT,Bool.and_eq_true] at f
  exact ⟨v,vs,e,aZ.flat s f.1 q,ak.flat s f.2 r⟩
end
theorem ak.length {K:PySem.W.Frag} {F:Hp}:∀{ds:List Dat} {xs:List V},ak K F ds xs->xs.length=ds.length
 |[],_,h=>by rw [show _=[] from h];rfl
 |_::_,_,⟨_,_,e,_,r⟩=>by rw [e,List.length_cons,List.length_cons,ak.length r]
theorem ak.get {K:PySem.W.Frag} {F:Hp}:∀{ds:List Dat} {xs:List V} {i:Nat} {d:Dat},ak K F ds xs->ds[i]? =some d->∃v,xs[i]? =some v/\aZ K F d v
 |[],_,_,_,_,e=>by simp at e
 |_::_,_,0,_,⟨v,vs,e,q,_⟩,h=>by
  simp only [List.getElem?_cons_zero,Option.some.injEq] at h
  subst h e
  exact ⟨v,rfl,q⟩
 |_::_,_,i+1,_,⟨v,vs,e,_,r⟩,h=>by
  subst e
  simp only [List.getElem?_cons_succ] at h ⊢
  exact ak.get r h
theorem ak.at {K:PySem.W.Frag} {F:Hp} {ds:List Dat} {xs:List V} {i:Nat} {v:V} (r:ak K F ds xs) (h:xs[i]? =some v):∃d,ds[i]? =some d/\aZ K F d v:=by
 have hi:i<ds.length:=by rw [<- r.length];exact (List.getElem?_eq_some_iff.mp h).1
 obtain ⟨w,e,q⟩:=r.get (i:=i) (d:=ds[i]) (by simp [hi])
 rw [h] at e
 have e':=Option.some.inj e
 subst e'
 exact ⟨ds[i],by simp [hi],q⟩
theorem ak.cons {K:PySem.W.Frag} {F:Hp} {d:Dat} {v:V} {ds:List Dat} {xs:List V} (q:aZ K F d v) (r:ak K F ds xs):ak K F (d::ds) (v::xs):=⟨v,xs,rfl,q,r⟩
theorem ak.append {K:PySem.W.Frag} {F:Hp}:∀{ds es:List Dat} {xs ys:List V},ak K F ds xs->ak K F es ys->ak K F (ds++es) (xs++ys)
 |[],_,_,_,h,r=>by rw [show _=[] from h];exact r
 |_::_,_,_,_,⟨v,vs,e,q,t⟩,r=>by subst e;exact ⟨v,_,rfl,q,ak.append t r⟩
theorem ak.take {K:PySem.W.Frag} {F:Hp}:∀{ds:List Dat} {xs:List V} (n:Nat),ak K F ds xs->ak K F (ds.take n) (xs.take n)
 |_,_,0,_=>rfl
 |[],_,_+1,h=>by rw [show _=[] from h];rfl
 |_::_,_,n+1,⟨v,vs,e,q,r⟩=>by subst e;exact ⟨v,_,rfl,q,ak.take n r⟩
theorem ak.drop {K:PySem.W.Frag} {F:Hp}:∀{ds:List Dat} {xs:List V} (n:Nat),ak K F ds xs->ak K F (ds.drop n) (xs.drop n)
 |_,_,0,h=>h
 |[],_,_+1,h=>by rw [show _=[] from h];rfl
 |_::_,_,n+1,⟨v,vs,e,q,r⟩=>by subst e;exact ak.drop n r
theorem ak.eraseIdx {K:PySem.W.Frag} {F:Hp}:∀{ds:List Dat} {xs:List V} (n:Nat),ak K F ds xs->ak K F (ds.eraseIdx n) (xs.eraseIdx n)
 |[],_,_,h=>by rw [show _=[] from h];rfl
 |_::_,_,0,⟨w,vs,e,_,r⟩=>by subst e;exact r
 |_::_,_,n+1,⟨w,vs,e,p,r⟩=>by subst e;exact ⟨w,_,rfl,p,ak.eraseIdx n r⟩
theorem ak.of_get {K:PySem.W.Frag} {F:Hp}:∀{ds:List Dat} {xs:List V},xs.length=ds.length->(∀(i:Nat) d v,ds[i]? =some d->xs[i]? =some v->aZ K F d v)->ak K F ds xs
 |[],[],_,_=>rfl
 |[],_::_,h,_=>by simp at h
 |_::_,[],h,_=>by simp at h
 |d::ds,v::vs,h,q=>⟨v,vs,rfl,q 0 d v rfl rfl,ak.of_get (by simpa using h) fun i e w h1 h2=>q (i+1) e w (by simpa using h1) (by simpa using h2)⟩
structure Step (F H F' H':Hp):Prop where
 ff:aC F F'
 hh:aC H H'
 fh:aC F' H'
 nw:∀b o,F' b=some o->F b=some o\/H b=none
theorem Step.refl {F H:Hp} (s:aC F H):Step F H F H:=⟨aC.refl _,aC.refl _,s,fun _ _ h=>.inl h⟩
theorem Step.trans {F H F1 H1 F2 H2:Hp} (a:Step F H F1 H1) (b:Step F1 H1 F2 H2):Step F H F2 H2:=
 ⟨a.ff.trans b.ff,a.hh.trans b.hh,b.fh,fun x o h=>(b.nw x o h).elim (fun z=>a.nw x o z) fun z=>.inr (a.hh.free z)⟩
theorem Step.lay {F H:Hp} {p:Addr} {o:HO} (s:aC F H) (hp:H p=none):Step F H (upd F p o) (upd H p o):=
 ⟨aC.upd (s.free hp),aC.upd hp,fun b u h=>by
  by_cases e:b=p
  ·subst e;rw [ar] at h ⊢;exact h
  ·rw [aq e] at h ⊢;exact s b u h,fun b u h=>by
  by_cases e:b=p
  ·subst e;exact .inr hp
  ·rw [aq e] at h;exact .inl h⟩
theorem Step.grow {F H:Hp} {p:Addr} {o:HO} (s:aC F H) (hp:H p=none):Step F H F (upd H p o):=
 ⟨aC.refl _,aC.upd hp,s.trans (aC.upd hp),fun _ _ h=>.inl h⟩
theorem Step.same {F H H':Hp} (s:aC F H) (h:aC H H'):Step F H F H':=⟨aC.refl _,h,s.trans h,fun _ _ z=>.inl z⟩
noncomputable def jg (K:PySem.W.Frag) (F H0 H:Hp):Dat->V->Prop
 |.lst ds,v=>∃a xs,v=.ref a/\H a=some (.lst xs)/\F a=none/\H0 a=none/\ak K F ds xs
 |.dic ks,v=>∃a xs,v=.ref a/\(∃ep,H a=some (jv a xs ep))/\F a=none/\H0 a=none/\bx K F ks xs
 |.dil ks,v=>∃a xs,v=.ref a/\(∃ep,H a=some (DilO a xs ep))/\F a=none/\H0 a=none/\tf K F ks xs
 |d,v=>aZ K F d v
noncomputable def isO:Dat->Bool
 |.lst _=>true
 |.dic _=>true
 |.dil _=>true
 |_=>false
noncomputable def isMu:HO->Bool
 |.lst _=>true
 |.ext _=>true
 |_=>false
theorem jg.non {K:PySem.W.Frag} {F H0 H:Hp} {d:Dat} {v:V} (hd:isO d=false):jg K F H0 H d v=aZ K F d v:=by
 cases d<;>first|rfl|cases hd
theorem jg.top {K:PySem.W.Frag} {F H0 H:Hp} {d:Dat} {v:V} (hd:isO d=true) (q:jg K F H0 H d v):∃a o,v=.ref a/\H a=some o/\isMu o=true/\F a=none/\H0 a=none:=by
 cases d with
 |lst ds=>obtain ⟨a,xs,e,p,f,z,_⟩:=q;exact ⟨a,_,e,p,rfl,f,z⟩
 |dic ks=>obtain ⟨a,xs,e,⟨ep,p⟩,f,z,_⟩:=q;exact ⟨a,_,e,p,rfl,f,z⟩
 |dil ks=>obtain ⟨a,xs,e,⟨ep,p⟩,f,z,_⟩:=q;exact ⟨a,_,e,p,rfl,f,z⟩
 |_=>cases hd
theorem jg.re {K:PySem.W.Frag} {F F' H0 H H':Hp} {d:Dat} {a:Addr} (hd:isO d=true) (q:jg K F H0 H d (.ref a)) (ff:aC F F') (fa:F' a=none) (hh:∀o,H a=some o->H' a=some o):jg K F' H0 H' d (.ref a):=by
 cases d with
 |lst ds=>obtain ⟨b,xs,e,p,f,z,r⟩:=q;cases e;exact ⟨a,xs,rfl,hh _ p,fa,z,r.mono ff⟩
 |dic ks=>obtain ⟨b,xs,e,⟨ep,p⟩,f,z,r⟩:=q;cases e;exact ⟨a,xs,rfl,⟨ep,hh _ p⟩,fa,z,r.mono ff⟩
 |dil ks=>obtain ⟨b,xs,e,⟨ep,p⟩,f,z,r⟩:=q;cases e;exact ⟨a,xs,rfl,⟨ep,hh _ p⟩,fa,z,r.mono ff⟩
 |_=>cases hd
theorem jg.give {K:PySem.W.Frag} {F F' H0 H:Hp} {d:Dat} {a:Addr} (hd:isO d=true) (q:jg K F H0 H d (.ref a)) (ff:aC F F') (fa:F' a=H a):aZ K F' d (.ref a):=by
 cases d with
 |lst ds=>obtain ⟨b,xs,e,p,f,z,r⟩:=q;cases e;exact ⟨a,xs,rfl,SqL.of (fa.trans p),r.mono ff⟩
 |dic ks=>obtain ⟨b,xs,e,⟨ep,p⟩,f,z,r⟩:=q;cases e;exact ⟨a,xs,rfl,⟨ep,fa.trans p⟩,r.mono ff⟩
 |dil ks=>obtain ⟨b,xs,e,⟨ep,p⟩,f,z,r⟩:=q;cases e;exact ⟨a,xs,rfl,⟨ep,fa.trans p⟩,r.mono ff⟩
 |_=>cases hd
noncomputable def Val (K:PySem.W.Frag) (own:Bool) (F H0 H:Hp) (d:Dat) (v:V):Prop:=if own=true then jg K F H0 H d v else aZ K F d v
theorem jg.back {K:PySem.W.Frag} {F H0 H1 H:Hp} {d:Dat} {v:V} (s:aC H0 H1) (h:jg K F H1 H d v):jg K F H0 H d v:=by
 cases d with
 |lst ds=>obtain ⟨a,xs,e,p,q,z,r⟩:=h;exact ⟨a,xs,e,p,q,s.free z,r⟩
 |dic ks=>obtain ⟨a,xs,e,p,q,z,r⟩:=h;exact ⟨a,xs,e,p,q,s.free z,r⟩
 |dil ks=>obtain ⟨a,xs,e,p,q,z,r⟩:=h;exact ⟨a,xs,e,p,q,s.free z,r⟩
 |_=>exact h
theorem Val.back {K:PySem.W.Frag} {own:Bool} {F H0 H1 H:Hp} {d:Dat} {v:V} (s:aC H0 H1) (h:Val K own F H1 H d v):Val K own F H0 H d v:=by
 cases own with
 |true=>exact jg.back s h
 |false=>exact h
theorem jg.freeze {K:PySem.W.Frag} {F H0 H:Hp} {d:Dat} {v:V} (s:aC F H) (h:jg K F H0 H d v):∃F',aC F F'/\aC F' H/\(∀b o,F' b=some o->F b=some o\/H0 b=none)/\aZ K F' d v:=by
 cases hd:isO d with
 |true=>
  obtain ⟨a,u,e,p,_,q,z⟩:=h.top hd
  subst e
  refine ⟨upd F a u,aC.upd q,fun b o h=>?_,fun b o h=>?_,h.give hd (aC.upd q) (by rw [ar,p])⟩
  ·by_cases e:b=a
   ·subst e;rw [ar] at h;rw [p,<- h]
   ·rw [aq e] at h;exact s b o h
  ·by_cases e:b=a
   ·subst e;exact .inr z
   ·rw [aq e] at h;exact .inl h
 |false=>rw [jg.non hd] at h;exact ⟨F,aC.refl _,s,fun _ _ z=>.inl z,h⟩
inductive Err where
 |stuck|exc (C:Addr) (fs:List (Str×Dat))
noncomputable abbrev M:=Except Err
noncomputable abbrev ae:=List (Option Dat)
structure cy where
 p:Err->Hp->Hp->Prop
 mono:∀{e:Err} {F H F' H':Hp},p e F H->Step F H F' H'->p e F' H'
 ns:∀{F H:Hp},p .stuck F H->False
noncomputable def Wno:cy:=⟨fun _ _ _=>False,fun h _=>h,fun h=>h⟩
noncomputable def aw (K:PySem.W.Frag) (W:cy) (own:Bool) (F H:Hp) (r:M Dat) (Q:VK):Prop:=match r with
 |.ok d=>∀v F' H',Step F H F' H'->Val K own F' H H' d v->Q v H'
 |.error e=>W.p e F H
theorem aw.step {K:PySem.W.Frag} {W:cy} {own:Bool} {F H F1 H1:Hp} {r:M Dat} {Q:VK} (p:aw K W own F H r Q) (s:Step F H F1 H1):aw K W own F1 H1 r Q:=by
 cases r with
 |ok d=>exact fun v F' H' t q=>p v F' H' (s.trans t) (q.back s.hh)
 |error e=>exact W.mono p s
theorem aw.frz {K:PySem.W.Frag} {W:cy} {F H:Hp} {r:M Dat} {Q:VK} (p:aw K W false F H r Q):aw K W true F H r Q:=by
 cases r with
 |ok d=>
  intro v F' H' t q
  obtain ⟨F2,s1,s2,n,z⟩:=jg.freeze t.fh q
  exact p v F2 H' ⟨t.ff.trans s1,t.hh,s2,fun b o h=>(n b o h).elim (fun z=>t.nw b o z) .inr⟩ z
 |error e=>exact p
structure eR (K:PySem.W.Frag) (F:Hp) (σ:St) (ρ:ae):Prop where
 len:ρ.length=σ.length
 sl:∀(i:Nat) (d:Dat),ρ[i]? =some (some d)->∃v,σ[i]? =some (some v)/\aZ K F d v
theorem eR.mono {K:PySem.W.Frag} {F F':Hp} {σ:St} {ρ:ae} (r:eR K F σ ρ) (s:aC F F'):eR K F' σ ρ:=
 ⟨r.len,fun i d e=>let ⟨v,h,q⟩:=r.sl i d e;⟨v,h,q.mono s⟩⟩
theorem eR.set {K:PySem.W.Frag} {F:Hp} {σ:St} {ρ:ae} {d:Dat} {v:V} (r:eR K F σ ρ) (q:aZ K F d v) (i:Nat):eR K F (σ.set i (some v)) (ρ.set i (some d)):=
 ⟨by rw [List.length_set,List.length_set,r.len],fun j e h=>by
  by_cases hij:i=j
  ·subst hij
   have hi:i<ρ.length:=by
    have:=(List.getElem?_eq_some_iff.mp h).1
    simpa using this
   rw [List.getElem?_set_self hi] at h
   cases h
   exact ⟨v,by rw [List.getElem?_set_self (by rw [<- r.len];exact hi)],q⟩
  ·rw [List.getElem?_set_ne hij] at h
   obtain ⟨w,h1,h2⟩:=r.sl j e h
   exact ⟨w,by rw [List.getElem?_set_ne hij];exact h1,h2⟩⟩
noncomputable def tD (K:PySem.W.Frag) (W:cy) (own:Bool) (f:ae->M Dat):TE:=fun σ H Q=>∃F ρ,eR K F σ ρ/\aC F H/\aw K W own F H (f ρ) Q
theorem aW {K:PySem.W.Frag} {W:cy} {own:Bool} {f:ae->M Dat} {σ:St} {ρ:ae} {F H:Hp} {R:VK} (r:eR K F σ ρ) (s:aC F H) (hE:∀e,f ρ=.error e->W.p e F H)
  (hO:∀d,f ρ=.ok d->∀v F1 H1,Step F H F1 H1->Val K own F1 H H1 d v->R v H1):tD K W own f σ H R:=by
 refine ⟨F,ρ,r,s,?_⟩
 cases e:f ρ with
 |ok d=>exact hO d e
 |error x=>exact hE x e
noncomputable def tDT (K:PySem.W.Frag) (W:cy) (f:ae->M Bool):TT:=fun σ H Q=>∃F ρ,eR K F σ ρ/\aC F H/\(match f ρ with
 |.ok b=>∀F' H',Step F H F' H'->Q b H'
 |.error e=>W.p e F H)
theorem i3 {K:PySem.W.Frag} {W:cy} {f:ae->M Bool} {σ:St} {ρ:ae} {F H:Hp} {R:Bool->Hp->Prop} (r:eR K F σ ρ) (s:aC F H) (hE:∀e,f ρ=.error e->W.p e F H)
  (hO:∀b,f ρ=.ok b->∀F1 H1,Step F H F1 H1->R b H1):tDT K W f σ H R:=by
 refine ⟨F,ρ,r,s,?_⟩
 cases e:f ρ with
 |ok d=>exact hO d e
 |error x=>exact hE x e
noncomputable def tDA (K:PySem.W.Frag) (W:cy) (f:ae->M (List Dat)):TA:=fun σ H Q=>∃F ρ,eR K F σ ρ/\aC F H/\(match f ρ with
 |.ok ds=>∀vs F' H',Step F H F' H'->ak K F' ds vs->Q vs H'
 |.error e=>W.p e F H)
theorem i4 {K:PySem.W.Frag} {W:cy} {f:ae->M (List Dat)} {σ:St} {ρ:ae} {F H:Hp} {R:List V->Hp->Prop} (r:eR K F σ ρ) (s:aC F H) (hE:∀e,f ρ=.error e->W.p e F H)
  (hO:∀ds,f ρ=.ok ds->∀vs F1 H1,Step F H F1 H1->ak K F1 ds vs->R vs H1):tDA K W f σ H R:=by
 refine ⟨F,ρ,r,s,?_⟩
 cases e:f ρ with
 |ok d=>exact hO d e
 |error x=>exact hE x e
noncomputable def ao (i:Nat):ae->M Dat:=fun ρ=>match ρ[i]? with
 |some (some d)=>.ok d
 |_=>.error .stuck
noncomputable def fC (d:Dat):ae->M Dat:=fun _=>.ok d
noncomputable def f1 (g:Dat->M Dat) (fa:ae->M Dat):ae->M Dat:=fun ρ=>(fa ρ).bind g
noncomputable def f2 (g:Dat->Dat->M Dat) (fa fb:ae->M Dat):ae->M Dat:=fun ρ=>(fa ρ).bind fun a=>(fb ρ).bind fun b=>g a b
noncomputable def aX:ae->M (List Dat):=fun _=>.ok []
noncomputable def aa (fa:ae->M Dat) (fr:ae->M (List Dat)):ae->M (List Dat):=fun ρ=>(fa ρ).bind fun a=>(fr ρ).bind fun r=>.ok (a::r)
noncomputable def fL (g:List Dat->M Dat) (fr:ae->M (List Dat)):ae->M Dat:=fun ρ=>(fr ρ).bind g
noncomputable def fO (ds:List Dat):M Dat:=if ds.length<=sizeLine then .ok (.tup ds) else .error .stuck
noncomputable def bw (ds:List Dat):M Dat:=if ds.length<=sizeLine then .ok (.lst ds) else .error .stuck
noncomputable def fAnd (ft fu:ae->M Bool):ae->M Bool:=fun ρ=>(ft ρ).bind fun b=>if b=true then fu ρ else .ok false
noncomputable def fOr (ft fu:ae->M Bool):ae->M Bool:=fun ρ=>(ft ρ).bind fun b=>if b=true then .ok true else fu ρ
noncomputable def mC (ft:ae->M Bool):ae->M Bool:=fun ρ=>(ft ρ).bind fun b=>.ok (!b)
noncomputable def asB:Dat->M Bool
 |.bl b=>.ok b
 |_=>.error .stuck
noncomputable def fB (fa:ae->M Dat):ae->M Bool:=fun ρ=>(fa ρ).bind asB
noncomputable def truD:Dat->M Bool
 |.non=>.ok false
 |.bl b=>.ok b
 |.int i=>.ok (i != 0)
 |.str x=>if x.length<=sizeLine then .ok ((x.length:Int) != 0) else .error .stuck
 |.tup ds=>.ok (!ds.isEmpty)
 |.lst ds=>.ok (!ds.isEmpty)
 |_=>.error .stuck
noncomputable def jD (fa:ae->M Dat):ae->M Bool:=fun ρ=>(fa ρ).bind truD
noncomputable def hW (g g':Dat->Dat->M Dat) (fa fb fc:ae->M Dat):ae->M Dat:=fun ρ=>(fa ρ).bind fun a=>(fb ρ).bind fun b=>(g a b).bind fun x=>(asB x).bind fun k=>if k=true then (fc ρ).bind fun c=>g' b c else .ok (.bl false)
noncomputable def rD2 (K:PySem.W.Frag) (W:cy) (own:Bool) (g:Dat->Dat->M Dat):R2:=fun x y H Q=>∃F a b,aC F H/\aZ K F a x/\aZ K F b y/\aw K W own F H (g a b) Q
noncomputable def rD1 (K:PySem.W.Frag) (W:cy) (own:Bool) (g:Dat->M Dat):V->Hp->VK->Prop:=fun x H Q=>∃F a,aC F H/\aZ K F a x/\aw K W own F H (g a) Q
noncomputable def rDL (K:PySem.W.Frag) (W:cy) (own:Bool) (g:List Dat->M Dat):List V->Hp->VK->Prop:=fun xs H Q=>∃F ds,aC F H/\ak K F ds xs/\aw K W own F H (g ds) Q
section
variable {K:PySem.W.Frag} {W:cy} {own:Bool} {σ:St} {H:Hp} {Q:VK} {fa fb fc:ae->M Dat}
theorem rd_var {i:Nat} (h:tD K W false (ao i) σ H Q):kM i σ H Q:=by
 obtain ⟨F,ρ,r,s,p⟩:=h
 unfold ao at p
 match e:ρ[i]? with
 |some (some d)=>
  rw [e] at p
  obtain ⟨v,e1,q⟩:=r.sl i d e
  exact ⟨v,e1,p v F H (Step.refl s) q⟩
 |some none=>rw [e] at p;exact (W.ns p).elim
 |none=>rw [e] at p;exact (W.ns p).elim
theorem rd_c {d:Dat} {v:V} (hd:∀F,aZ K F d v) (h:tD K W false (fC d) σ H Q):tC v σ H Q:=by
 obtain ⟨F,ρ,r,s,p⟩:=h
 exact p v F H (Step.refl s) (hd F)
theorem aw.err {F:Hp} {x:M Dat} {e:Err} (p:aw K W own F H x Q) (h:x=.error e):W.p e F H:=by rw [h] at p;exact p
theorem rd_1 {g:Dat->M Dat} (h:tD K W own (f1 g fa) σ H Q):tUn (rD1 K W own g) (tD K W false fa) σ H Q:=by
 obtain ⟨F,ρ,r,s,p⟩:=h
 refine aW r s (fun e he=>p.err (by unfold f1;rw [he];rfl)) fun a ha x F1 H1 s1 q1=>?_
 refine ⟨F1,a,s1.fh,q1,?_⟩
 have e:f1 g fa ρ=g a:=by unfold f1;rw [ha];rfl
 rw [e] at p
 exact p.step s1
theorem rd_2 {g:Dat->Dat->M Dat} (h:tD K W own (f2 g fa fb) σ H Q):tOp (rD2 K W own g) (tD K W false fa) (tD K W false fb) σ H Q:=by
 obtain ⟨F,ρ,r,s,p⟩:=h
 refine aW r s (fun e he=>p.err (by unfold f2;rw [he];rfl)) fun a ha x F1 H1 s1 q1=>?_
 refine aW (r.mono s1.ff) s1.fh (fun e he=>(p.step s1).err (by unfold f2;rw [ha];show (fb ρ).bind _=_;rw [he];rfl)) fun b hb y F2 H2 s2 q2=>?_
 refine ⟨F2,a,b,s2.fh,aZ.mono s2.ff q1,q2,?_⟩
 have e:f2 g fa fb ρ=g a b:=by unfold f2;rw [ha];show (fb ρ).bind _=_;rw [hb];rfl
 rw [e] at p
 exact p.step (s1.trans s2)
theorem rd_nil {R:List V->Hp->Prop} (h:tDA K W aX σ H R):oO σ H R:=by
 obtain ⟨F,ρ,r,s,p⟩:=h
 exact p [] F H (Step.refl s) rfl
theorem rd_cons {fr:ae->M (List Dat)} {R:List V->Hp->Prop} (h:tDA K W (aa fa fr) σ H R):fS (tD K W false fa) (tDA K W fr) σ H R:=by
 obtain ⟨F,ρ,r,s,p⟩:=h
 refine aW r s (fun e he=>?_) fun a ha x F1 H1 s1 q1=>i4 (r.mono s1.ff) s1.fh (fun e he=>?_) fun ds hd xs F2 H2 s2 q2=>?_
 ·have z:aa fa fr ρ=.error e:=by unfold aa;rw [he];rfl
  rw [z] at p
  exact p
 ·have z:aa fa fr ρ=.error e:=by unfold aa;rw [ha];show (fr ρ).bind _=_;rw [he];rfl
  rw [z] at p
  exact W.mono p s1
 ·have z:aa fa fr ρ=.ok (a::ds):=by unfold aa;rw [ha];show (fr ρ).bind _=_;rw [hd];rfl
  rw [z] at p
  exact p (x::xs) F2 H2 (s1.trans s2) ⟨x,xs,rfl,aZ.mono s2.ff q1,q2⟩
theorem rd_L {g:List Dat->M Dat} {fr:ae->M (List Dat)} (h:tD K W own (fL g fr) σ H Q):tDA K W fr σ H fun xs H1=>rDL K W own g xs H1 Q:=by
 obtain ⟨F,ρ,r,s,p⟩:=h
 refine i4 r s (fun e he=>p.err (by unfold fL;rw [he];rfl)) fun ds hd xs F1 H1 s1 q1=>⟨F1,ds,s1.fh,q1,?_⟩
 have e:fL g fr ρ=g ds:=by unfold fL;rw [hd];rfl
 rw [e] at p
 exact p.step s1
theorem rd_tup {fr:ae->M (List Dat)} (h:tD K W own (fL fO fr) σ H Q):tTup (tDA K W fr) σ H Q:=by
 obtain ⟨F,ρ,r,s,p⟩:=rd_L h
 refine ⟨F,ρ,r,s,?_⟩
 cases e:fr ρ with
 |error x=>rw [e] at p;exact p
 |ok ds=>
  rw [e] at p
  intro vs F' H' t q
  obtain ⟨F1,es,s1,q1,z⟩:=p vs F' H' t q
  unfold fO at z
  by_cases hl:es.length<=sizeLine
  ·rw [if_pos hl] at z
   refine ⟨by rw [q1.length];exact hl,fun a ha=>z (.ref a) _ _ (Step.lay s1 ha) ?_⟩
   have:aZ K (upd F1 a (.tup vs)) (.tup es) (.ref a):=⟨a,vs,rfl,SqT.of ar,q1.mono (aC.upd (s1.free ha))⟩
   cases own with
   |true=>exact this
   |false=>exact this
  ·rw [if_neg hl] at z
   exact (W.ns z).elim
theorem rd_lst {fr:ae->M (List Dat)} (h:tD K W true (fL bw fr) σ H Q):tLst (tDA K W fr) σ H Q:=by
 obtain ⟨F,ρ,r,s,p⟩:=rd_L h
 refine ⟨F,ρ,r,s,?_⟩
 cases e:fr ρ with
 |error x=>rw [e] at p;exact p
 |ok ds=>
  rw [e] at p
  intro vs F' H' t q
  obtain ⟨F1,es,s1,q1,z⟩:=p vs F' H' t q
  unfold bw at z
  by_cases hl:es.length<=sizeLine
  ·rw [if_pos hl] at z
   exact ⟨by rw [q1.length];exact hl,fun a ha=>z (.ref a) F1 _ (Step.grow s1 ha) ⟨a,vs,rfl,ar,s1.free ha,ha,q1⟩⟩
  ·rw [if_neg hl] at z
   exact (W.ns z).elim
theorem qj {f:ae->M Bool} {F F1 H1:Hp} {ρ:ae} {R:Bool->Hp->Prop} (r:eR K F σ ρ) (s1:Step F H F1 H1) (p:match f ρ with
 |.ok b=>∀F' H',Step F H F' H'->R b H'
 |.error e=>W.p e F H):tDT K W f σ H1 R:=by
 refine ⟨F1,ρ,r.mono s1.ff,s1.fh,?_⟩
 cases e:f ρ with
 |ok b=>rw [e] at p;exact fun F' H' t=>p F' H' (s1.trans t)
 |error x=>rw [e] at p;exact W.mono p s1
theorem rd_and {ft fu:ae->M Bool} {R:Bool->Hp->Prop} (h:tDT K W (fAnd ft fu) σ H R):tAnd (tDT K W ft) (tDT K W fu) σ H R:=by
 obtain ⟨F,ρ,r,s,p⟩:=h
 refine i3 r s (fun e he=>?_) fun b hb F1 H1 s1=>?_
 ·have z:fAnd ft fu ρ=.error e:=by unfold fAnd;rw [he];rfl
  rw [z] at p;exact p
 ·have z:fAnd ft fu ρ=if b=true then fu ρ else .ok false:=by unfold fAnd;rw [hb];rfl
  rw [z] at p
  cases b with
  |true=>exact qj r s1 p
  |false=>exact p F1 H1 s1
theorem rd_or {ft fu:ae->M Bool} {R:Bool->Hp->Prop} (h:tDT K W (fOr ft fu) σ H R):tOr (tDT K W ft) (tDT K W fu) σ H R:=by
 obtain ⟨F,ρ,r,s,p⟩:=h
 refine i3 r s (fun e he=>?_) fun b hb F1 H1 s1=>?_
 ·have z:fOr ft fu ρ=.error e:=by unfold fOr;rw [he];rfl
  rw [z] at p;exact p
 ·have z:fOr ft fu ρ=if b=true then .ok true else fu ρ:=by unfold fOr;rw [hb];rfl
  rw [z] at p
  cases b with
  |false=>exact qj r s1 p
  |true=>exact p F1 H1 s1
theorem rd_not {ft:ae->M Bool} {R:Bool->Hp->Prop} (h:tDT K W (mC ft) σ H R):tNot (tDT K W ft) σ H R:=by
 obtain ⟨F,ρ,r,s,p⟩:=h
 refine i3 r s (fun e he=>?_) fun b hb F1 H1 s1=>?_
 ·have z:mC ft ρ=.error e:=by unfold mC;rw [he];rfl
  rw [z] at p;exact p
 ·have z:mC ft ρ=.ok (!b):=by unfold mC;rw [hb];rfl
  rw [z] at p;exact p F1 H1 s1
theorem rd_B {R:Bool->Hp->Prop} (h:tDT K W (fB fa) σ H R):tTest (tD K W false fa) σ H R:=by
 obtain ⟨F,ρ,r,s,p⟩:=h
 refine aW r s (fun e he=>?_) fun a ha x F1 H1 s1 q1=>?_
 ·have z:fB fa ρ=.error e:=by unfold fB;rw [he];rfl
  rw [z] at p;exact p
 ·have z:fB fa ρ=asB a:=by unfold fB;rw [ha];rfl
  rw [z] at p
  cases a with
  |bl b=>exact ⟨b,q1,p F1 H1 s1⟩
  |_=>exact (W.ns p).elim
theorem tru_of {F H1:Hp} {a:Dat} {x:V} {b:Bool} (s:aC F H1) (q:aZ K F a x) (h:truD a=.ok b):TruV K x H1 b:=by
 cases a with
 |non=>rw [show x=.non from q];exact (Except.ok.inj h).symm
 |bl c=>rw [show x=.bl c from q];exact (Except.ok.inj h).symm
 |int i=>rw [show x=.int i from q];exact (Except.ok.inj h).symm
 |str y=>
  rw [show x=.str y from q]
  have h':(if y.length<=sizeLine then Except.ok ((y.length:Int) != 0) else Except.error Err.stuck)=Except.ok b:=h
  by_cases hy:y.length<=sizeLine
  ·rw [if_pos hy] at h'
   exact ⟨hy,(Except.ok.inj h').symm⟩
  ·rw [if_neg hy] at h'
   cases h'
 |tup ds=>
  obtain ⟨p,xs,e,t,r⟩:=q
  subst e
  refine .inr (.inl ⟨xs,s.tup t,?_⟩)
  rw [<- Except.ok.inj h]
  cases ds with
  |nil=>rw [show xs=[] from r];rfl
  |cons d ds=>obtain ⟨v,vs,e,_⟩:=r;rw [e];rfl
 |lst ds=>
  obtain ⟨p,xs,e,t,r⟩:=q
  subst e
  refine .inl ⟨xs,s.lst t,?_⟩
  rw [<- Except.ok.inj h]
  cases ds with
  |nil=>rw [show xs=[] from r];rfl
  |cons d ds=>obtain ⟨v,vs,e,_⟩:=r;rw [e];rfl
 |ins C fs=>cases h
 |dic ks=>cases h
 |dil ks=>cases h
theorem rd_tru {R:Bool->Hp->Prop} (h:tDT K W (jD fa) σ H R):tD K W false fa σ H fun x H1=>∃k,TruV K x H1 k/\R k H1:=by
 obtain ⟨F,ρ,r,s,p⟩:=h
 refine aW r s (fun e he=>?_) fun a ha x F1 H1 s1 q1=>?_
 ·have z:jD fa ρ=.error e:=by unfold jD;rw [he];rfl
  rw [z] at p;exact p
 ·have z:jD fa ρ=truD a:=by unfold jD;rw [ha];rfl
  rw [z] at p
  cases e:truD a with
  |ok b=>rw [e] at p;exact ⟨b,tru_of s1.fh q1 e,p F1 H1 s1⟩
  |error x=>
   rw [e] at p
   have:x=.stuck:=by
    cases a with
    |str y=>
     have e':(if y.length<=sizeLine then Except.ok ((y.length:Int) != 0) else Except.error Err.stuck)=Except.error x:=e
     by_cases hy:y.length<=sizeLine
     ·rw [if_pos hy] at e'
      cases e'
     ·rw [if_neg hy] at e'
      cases e'
      rfl
    |ins C fs=>cases e;rfl
    |dic ks=>cases e;rfl
    |dil ks=>cases e;rfl
    |_=>cases e
   subst this
   exact (W.ns p).elim
theorem rd_chain {g g':Dat->Dat->M Dat} (h:tD K W false (hW g g' fa fb fc) σ H Q):tChain (rD2 K W false g) (rD2 K W false g') (tD K W false fa) (tD K W false fb) (tD K W false fc) σ H Q:=by
 obtain ⟨F,ρ,r,s,p⟩:=h
 refine aW r s (fun e he=>p.err (by unfold hW;rw [he];rfl)) fun a ha x F1 H1 s1 q1=>?_
 refine aW (r.mono s1.ff) s1.fh (fun e he=>(p.step s1).err (by unfold hW;rw [ha];show (fb ρ).bind _=_;rw [he];rfl)) fun b hb y F2 H2 s2 q2=>?_
 have z:hW g g' fa fb fc ρ=(g a b).bind fun x=>(asB x).bind fun k=>if k=true then (fc ρ).bind fun c=>g' b c else .ok (.bl false):=by unfold hW;rw [ha];show (fb ρ).bind _=_;rw [hb];rfl
 rw [z] at p
 refine ⟨F2,a,b,s2.fh,aZ.mono s2.ff q1,q2,?_⟩
 have p2:=p.step (s1.trans s2)
 cases e:g a b with
 |error x=>rw [e] at p2;exact p2
 |ok d=>
  rw [e] at p2
  intro v F3 H3 s3 q3
  have p3:aw K W false F3 H3 ((asB d).bind fun k=>if k=true then (fc ρ).bind fun c=>g' b c else .ok (.bl false)) Q:=aw.step p2 s3
  cases d with
  |bl k=>
   refine ⟨k,q3,?_⟩
   cases k with
   |false=>exact p3 (.bl false) F3 H3 (Step.refl s3.fh) rfl
   |true=>
    have p4:aw K W false F3 H3 ((fc ρ).bind fun c=>g' b c) Q:=p3
    refine aW (r.mono (s1.trans (s2.trans s3)).ff) s3.fh (fun e he=>p4.err (by rw [he];rfl)) fun c hc w F4 H4 s4 q4=>⟨F4,b,c,s4.fh,aZ.mono (s3.trans s4).ff q2,q4,?_⟩
    rw [hc] at p4
    exact p4.step s4
  |_=>exact (W.ns p3).elim
end
inductive Pat where
 |nm (i:Nat)|tp (is:List Nat)
noncomputable def gc:List Nat->List Dat->ae->ae
 |i::is,d::ds,ρ=>gc is ds (ρ.set i (some d))
 |_,_,ρ=>ρ
noncomputable def gX:Pat->Dat->ae->M ae
 |.nm i,d,ρ=>.ok (ρ.set i (some d))
 |.tp is,.tup ds,ρ=>if ds.length=is.length then .ok (gc is ds ρ) else .error .stuck
 |.tp _,_,_=>.error .stuck
noncomputable def f6:List Nat->TGs
 |[]=>gNil
 |i::is=>gCons (g8 i) (f6 is)
noncomputable def gP (K:PySem.W.Frag):Pat->TG
 |.nm i=>g8 i
 |.tp is=>gTup K is.length (f6 is)
theorem lB {K:PySem.W.Frag} {F H:Hp} {R:St->Hp->Prop}:∀{is:List Nat} {ds:List Dat} {vs:List V} {σ:St} {ρ:ae},eR K F σ ρ->ak K F ds vs->ds.length=is.length->(∀σ',eR K F σ' (gc is ds ρ)->R σ' H)->f6 is vs σ H R
 |[],[],_,σ,ρ,r,q,_,h=>⟨q,h σ r⟩
 |[],_::_,_,_,_,_,_,e,_=>by simp at e
 |_::_,[],_,_,_,_,_,e,_=>by simp at e
 |i::is,d::ds,_,σ,ρ,r,⟨v,vs,e,q,t⟩,l,h=>⟨v,vs,e,lB (r.set q i) t (by simpa using l) h⟩
theorem gP_run {K:PySem.W.Frag} {F H:Hp} {R:St->Hp->Prop} {p:Pat} {d:Dat} {v:V} {σ:St} {ρ ρ':ae} (r:eR K F σ ρ) (s:aC F H) (q:aZ K F d v) (e:gX p d ρ=.ok ρ') (h:∀σ',eR K F σ' ρ'->R σ' H):gP K p v σ H R:=by
 cases p with
 |nm i=>
  have:=Except.ok.inj e
  subst this
  exact h _ (r.set q i)
 |tp is=>
  cases d with
  |tup ds=>
   have e':(if ds.length=is.length then Except.ok (gc is ds ρ) else Except.error Err.stuck)=Except.ok ρ':=e
   by_cases hl:ds.length=is.length
   ·rw [if_pos hl] at e'
    have:=Except.ok.inj e'
    subst this
    obtain ⟨a,xs,ev,t,z⟩:=q
    exact ⟨a,xs,ev,s.tup t,by rw [z.length,hl],lB r z hl h⟩
   ·rw [if_neg hl] at e'
    cases e'
  |_=>cases e
theorem oA {p:Pat} {d:Dat} {ρ:ae} {e:Err} (h:gX p d ρ=.error e):e=.stuck:=by
 cases p with
 |nm i=>cases h
 |tp is=>
  cases d with
  |tup ds=>
   have e':(if ds.length=is.length then Except.ok (gc is ds ρ) else Except.error Err.stuck)=Except.error e:=h
   by_cases hl:ds.length=is.length
   ·rw [if_pos hl] at e';cases e'
   ·rw [if_neg hl] at e';cases e';rfl
  |_=>cases h;rfl
structure mX (K:PySem.W.Frag) (F1:Hp) (J:It) (ds:List Dat):Prop where
 go:∀(i:Nat) (F H:Hp),aC F1 F->aC F H->i<ds.length->J.go i H
 yl:∀(i:Nat) (F H:Hp) (x:V) (H':Hp) (d:Dat),aC F1 F->aC F H->ds[i]? =some d->J.yld i H x H'->∃F',Step F H F' H'/\aZ K F' d x
 st:∀(F H:Hp),aC F1 F->aC F H->J.stop ds.length H
noncomputable def iD (K:PySem.W.Frag) (W:cy) (f:ae->M (List Dat)):TI:=fun σ H R=>∃F ρ,eR K F σ ρ/\aC F H/\(match f ρ with
 |.ok ds=>∀J F1 H1,Step F H F1 H1->mX K F1 J ds->R J H1
 |.error e=>W.p e F H)
noncomputable def gd:Dat->M (List Dat)
 |.lst ds=>.ok ds
 |.tup ds=>.ok ds
 |_=>.error .stuck
noncomputable def fIt (fa:ae->M Dat):ae->M (List Dat):=fun ρ=>(fa ρ).bind gd
noncomputable def iSeq (K:PySem.W.Frag) (tl:TE):TI:=fun σ H R=>tl σ H fun x H1=>∃a,x=.ref a/\((∃xs,SqL K H1 a xs)/\R (Itl K a) H1\/(∃xs,SqT K H1 a xs)/\R (Itt K a) H1)
theorem uV {K:PySem.W.Frag} {F:Hp} {a:Addr} {xs:List V} {ds:List Dat} (t:SqL K F a xs) (z:ak K F ds xs):mX K F (Itl K a) ds where
 go:=fun i F' H' s1 s2 hi=>⟨xs,xs[i]'(by rw [z.length];exact hi),s2.lst (s1.lst t),by simp [z.length,hi]⟩
 yl:=fun i F' H' x H2 d s1 s2 hd hy=>by
  obtain ⟨e,hy⟩:=hy
  subst e
  obtain ⟨v,e1,q⟩:=z.get hd
  have e2:=hy xs (s2.lst (s1.lst t))
  rw [e1] at e2
  cases e2
  exact ⟨F',Step.refl s2,q.mono s1⟩
 st:=fun F' H' s1 s2=>⟨xs,s2.lst (s1.lst t),by rw [z.length];exact Nat.le_refl _⟩
theorem iter_tup {K:PySem.W.Frag} {F:Hp} {a:Addr} {xs:List V} {ds:List Dat} (t:SqT K F a xs) (z:ak K F ds xs):mX K F (Itt K a) ds where
 go:=fun i F' H' s1 s2 hi=>⟨xs,xs[i]'(by rw [z.length];exact hi),s2.tup (s1.tup t),by simp [z.length,hi]⟩
 yl:=fun i F' H' x H2 d s1 s2 hd hy=>by
  obtain ⟨e,hy⟩:=hy
  subst e
  obtain ⟨v,e1,q⟩:=z.get hd
  have e2:=hy xs (s2.tup (s1.tup t))
  rw [e1] at e2
  cases e2
  exact ⟨F',Step.refl s2,q.mono s1⟩
 st:=fun F' H' s1 s2=>⟨xs,s2.tup (s1.tup t),by rw [z.length];exact Nat.le_refl _⟩
noncomputable def bz (lo:Int) (n:Nat):List Dat:=(List.range n).map fun k:Nat=>Dat.int (lo+k)
theorem lj {K:PySem.W.Frag} {F:Hp} {lo:Int} {n:Nat}:mX K F (Itr lo n) (bz lo n) where
 go:=fun i F' H' s1 s2 hi=>by show i<n;simpa [bz] using hi
 yl:=fun i F' H' x H2 d s1 s2 hd hy=>by
  obtain ⟨e,hy⟩:=hy
  subst e hy
  unfold bz at hd
  rw [List.getElem?_map] at hd
  have hi:i<n:=by
   have:=(List.getElem?_eq_some_iff.mp (show ((List.range n).map fun k:Nat=>Dat.int (lo+k))[i]? =some d by rw [List.getElem?_map];exact hd)).1
   simpa using this
  rw [List.getElem?_range hi] at hd
  cases hd
  exact ⟨F',Step.refl s2,rfl⟩
 st:=fun F' H' s1 s2=>by show n<=_;simp [bz]
noncomputable def aK (i:Int):Bool:=decide (-(2^62)<=i)&&decide (i<2^62)
noncomputable def jy:List Dat->M (List Dat)
 |[.int j]=>if aK j=true then .ok (bz 0 j.toNat) else .error .stuck
 |_=>.error .stuck
noncomputable def oP:List Dat->M (List Dat)
 |[.int i,.int j]=>if (aK i&&aK j)=true then .ok (bz i (j-i).toNat) else .error .stuck
 |_=>.error .stuck
noncomputable def gm (g:List Dat->M (List Dat)) (fr:ae->M (List Dat)):ae->M (List Dat):=fun ρ=>(fr ρ).bind g
section
variable {K:PySem.W.Frag} {W:cy} {own:Bool} {σ:St} {H:Hp} {Q:VK} {fa fb fc:ae->M Dat}
theorem ri_seq {R:It->Hp->Prop} (h:iD K W (fIt fa) σ H R):iSeq K (tD K W false fa) σ H R:=by
 obtain ⟨F,ρ,r,s,p⟩:=h
 refine aW r s (fun e he=>?_) fun a ha x F1 H1 s1 q1=>?_
 ·have z:fIt fa ρ=.error e:=by unfold fIt;rw [he];rfl
  rw [z] at p;exact p
 ·have z:fIt fa ρ=gd a:=by unfold fIt;rw [ha];rfl
  rw [z] at p
  cases a with
  |lst ds=>
   obtain ⟨b,xs,e,t,z⟩:=q1
   exact ⟨b,e,.inl ⟨⟨xs,s1.fh.lst t⟩,p _ F1 H1 s1 (uV t z)⟩⟩
  |tup ds=>
   obtain ⟨b,xs,e,t,z⟩:=q1
   exact ⟨b,e,.inr ⟨⟨xs,s1.fh.tup t⟩,p _ F1 H1 s1 (iter_tup t z)⟩⟩
  |_=>exact (W.ns p).elim
theorem ri_rng1 {fr:ae->M (List Dat)} {R:It->Hp->Prop} (h:iD K W (gm jy fr) σ H R):iRng1 (tDA K W fr) σ H R:=by
 obtain ⟨F,ρ,r,s,p⟩:=h
 refine i4 r s (fun e he=>?_) fun ds hd xs F1 H1 s1 q1=>?_
 ·have z:gm jy fr ρ=.error e:=by unfold gm;rw [he];rfl
  rw [z] at p;exact p
 ·have z:gm jy fr ρ=jy ds:=by unfold gm;rw [hd];rfl
  rw [z] at p
  match ds,q1,p with
  |[.int j],⟨v,vs,e,q,t⟩,p=>
   have p':match (if aK j=true then Except.ok (bz 0 j.toNat) else Except.error Err.stuck:M (List Dat)) with
    |.ok ds=>∀J F1 H1,Step F H F1 H1->mX K F1 J ds->R J H1
    |.error e=>W.p e F H:=p
   by_cases hj:aK j=true
   ·rw [if_pos hj] at p'
    unfold aK at hj
    simp only [Bool.and_eq_true,decide_eq_true_eq] at hj
    exact ⟨j,by rw [e,show v=.int j from q,show vs=[] from t],hj.1,hj.2,p' _ F1 H1 s1 lj⟩
   ·rw [if_neg hj] at p'
    exact (W.ns p').elim
  |[],_,p=>exact (W.ns p).elim
  |.non::_,_,p=>exact (W.ns p).elim
  |.bl _::_,_,p=>exact (W.ns p).elim
  |.str _::_,_,p=>exact (W.ns p).elim
  |.tup _::_,_,p=>exact (W.ns p).elim
  |.lst _::_,_,p=>exact (W.ns p).elim
  |.ins _ _::_,_,p=>exact (W.ns p).elim
  |.dic _::_,_,p=>exact (W.ns p).elim
  |.dil _::_,_,p=>exact (W.ns p).elim
  |.int _::_::_,_,p=>exact (W.ns p).elim
theorem ri_rng2 {fr:ae->M (List Dat)} {R:It->Hp->Prop} (h:iD K W (gm oP fr) σ H R):iRng2 (tDA K W fr) σ H R:=by
 obtain ⟨F,ρ,r,s,p⟩:=h
 refine i4 r s (fun e he=>?_) fun ds hd xs F1 H1 s1 q1=>?_
 ·have z:gm oP fr ρ=.error e:=by unfold gm;rw [he];rfl
  rw [z] at p;exact p
 ·have z:gm oP fr ρ=oP ds:=by unfold gm;rw [hd];rfl
  rw [z] at p
  by_cases hds:∃i j,ds=[.int i,.int j]
  ·obtain ⟨i,j,rfl⟩:=hds
   obtain ⟨v,vs,e,q,v2,vs2,e2,q2,t⟩:=q1
   have p':match (if (aK i&&aK j)=true then Except.ok (bz i (j-i).toNat) else Except.error Err.stuck:M (List Dat)) with
    |.ok ds=>∀J F1 H1,Step F H F1 H1->mX K F1 J ds->R J H1
    |.error e=>W.p e F H:=p
   by_cases hj:(aK i&&aK j)=true
   ·rw [if_pos hj] at p'
    unfold aK at hj
    simp only [Bool.and_eq_true,decide_eq_true_eq] at hj
    exact ⟨i,j,by rw [e,show v=.int i from q,e2,show v2=.int j from q2,show vs2=[] from t],⟨hj.1.1,hj.1.2,hj.2.1,hj.2.2⟩,p' _ F1 H1 s1 lj⟩
   ·rw [if_neg hj] at p'
    exact (W.ns p').elim
  ·have:oP ds=.error .stuck:=by
    unfold oP
    split
    ·exact absurd ⟨_,_,rfl⟩ hds
    ·rfl
   rw [this] at p
   exact (W.ns p).elim
noncomputable def gU (ix:List (Option Nat)) (ρ:ae):ae:=ix.map fun o=>match o with
 |none=>none
 |some j=>(ρ[j]?).join
noncomputable def bH (p:Pat) (ft:ae->M Bool) (fe:ae->M Dat) (ρ0:ae):List Dat->M (List Dat)
 |[]=>.ok []
 |d::ds=>(gX p d ρ0).bind fun ρ=>(ft ρ).bind fun b=>if b=true then (fe ρ).bind fun y=>(bH p ft fe ρ0 ds).bind fun r=>.ok (y::r) else bH p ft fe ρ0 ds
noncomputable def gE (fi:ae->M (List Dat)) (ix:List (Option Nat)) (p:Pat) (ft:ae->M Bool) (fe:ae->M Dat):ae->M Dat:=fun ρ=>(fi ρ).bind fun ds=>if ds.length<=sizeLine then (bH p ft fe (gU ix ρ) ds).bind fun r=>.ok (.lst r) else .error .stuck
noncomputable def qV:ae->M Bool:=fun _=>.ok true
theorem eR.inS {F:Hp} {ρ:ae} (r:eR K F σ ρ) (ix:List (Option Nat)):eR K F (L2.inS ix σ) (gU ix ρ):=
 ⟨by simp [L2.inS,gU],fun i d e=>by
  unfold gU at e
  unfold L2.inS
  rw [List.getElem?_map] at e ⊢
  cases h:ix[i]? with
  |none=>rw [h] at e;cases e
  |some o=>
   rw [h] at e
   cases o with
   |none=>cases e
   |some j=>
    simp only [Option.map_some,Option.some.injEq] at e ⊢
    have e1:ρ[j]? =some (some d):=by
     cases z:ρ[j]? with
     |none=>rw [z] at e;cases e
     |some w=>rw [z] at e;simp at e;rw [e]
    obtain ⟨v,h1,h2⟩:=r.sl j d e1
    exact ⟨v,by rw [h1];rfl,h2⟩⟩
theorem ud {fi:ae->M (List Dat)} {ix:List (Option Nat)} {p:Pat} {ft:ae->M Bool} {fe:ae->M Dat} (h:tD K W true (gE fi ix p ft fe) σ H Q) :
  tComp (iD K W fi) ix (gP K p) (tDT K W ft) (tD K W false fe) σ H Q:=by
 obtain ⟨F,ρ,r,s,q⟩:=h
 refine ⟨F,ρ,r,s,?_⟩
 cases hf:fi ρ with
 |error e=>exact q.err (by unfold gE;rw [hf];rfl)
 |ok ds=>
  intro J F1 H1 s1 it
  have e0:gE fi ix p ft fe ρ=if ds.length<=sizeLine then (bH p ft fe (gU ix ρ) ds).bind fun r=>.ok (.lst r) else .error .stuck:=by unfold gE;rw [hf];rfl
  rw [e0] at q
  by_cases hl:ds.length<=sizeLine
  ·rw [if_pos hl] at q
   refine ⟨fun i m ys H2=>m=ds.length-i/\i<=ds.length/\∃F2 yd,Step F1 H1 F2 H2/\ak K F2 yd ys/\yd.length<=i /\
    (match bH p ft fe (gU ix ρ) (ds.drop i) with
     |.ok rr=>bH p ft fe (gU ix ρ) ds=.ok (yd++rr)
     |.error e=>W.p e F H),⟨ds.length,by omega,Nat.zero_le _,F1,[],Step.refl s1.fh,rfl,Nat.zero_le _,?_⟩,?_⟩
   ·rw [List.drop_zero]
    cases e:bH p ft fe (gU ix ρ) ds with
    |ok rr=>rfl
    |error x=>exact q.err (by rw [e];rfl)
   ·rintro i m ys H2 ⟨rfl,hi,F2,yd,s2,dy,ly,hc⟩
    have lys:ys.length<=sizeLine:=by rw [dy.length];omega
    by_cases hlt:i<ds.length
    ·have ed:ds.drop i=ds[i]::ds.drop (i+1):=List.drop_eq_getElem_cons hlt
     rw [ed] at hc
     refine .inr ⟨it.go i F2 H2 s2.ff s2.fh hlt,lys,fun ys' H'=>(i+1<=ds.length/\∃F2 yd,Step F1 H1 F2 H'/\ak K F2 yd ys'/\yd.length<=i+1 /\
      (match bH p ft fe (gU ix ρ) (ds.drop (i+1)) with
       |.ok rr=>bH p ft fe (gU ix ρ) ds=.ok (yd++rr)
       |.error e=>W.p e F H)),fun ys' H' n=>⟨ds.length-(i+1),by omega,rfl,n⟩,fun x H' y=>?_⟩
     obtain ⟨F3,s3,q3⟩:=it.yl i F2 H2 x H' ds[i] s2.ff s2.fh (by simp [hlt]) y
     have r3:eR K F3 (L2.inS ix σ) (gU ix ρ):=(r.mono (s1.trans (s2.trans s3)).ff).inS ix
     have st3:Step F H F3 H':=s1.trans (s2.trans s3)
     have ec:bH p ft fe (gU ix ρ) (ds[i]::ds.drop (i+1))=(gX p ds[i] (gU ix ρ)).bind fun ρ1=>(ft ρ1).bind fun b=>if b=true then (fe ρ1).bind fun y=>(bH p ft fe (gU ix ρ) (ds.drop (i+1))).bind fun r=>.ok (y::r) else bH p ft fe (gU ix ρ) (ds.drop (i+1)):=by rw [bH]
     rw [ec] at hc
     cases hb:gX p ds[i] (gU ix ρ) with
     |error e=>
      rw [hb] at hc
      have:=oA hb
      subst this
      exact (W.ns hc).elim
     |ok ρ1=>
      rw [hb] at hc
      refine gP_run r3 s3.fh q3 hb fun σ2 r4=>?_
      have hc1:match ((ft ρ1).bind fun b=>if b=true then (fe ρ1).bind fun y=>(bH p ft fe (gU ix ρ) (ds.drop (i+1))).bind fun r=>.ok (y::r) else bH p ft fe (gU ix ρ) (ds.drop (i+1))) with
       |.ok rr=>bH p ft fe (gU ix ρ) ds=.ok (yd++rr)
       |.error e=>W.p e F H:=hc
      refine i3 r4 s3.fh (fun e he=>by rw [he] at hc1;exact W.mono hc1 st3) fun b hb2 F5 H5 s5=>?_
      rw [hb2] at hc1
      cases b with
      |false=>
       have hc2:match bH p ft fe (gU ix ρ) (ds.drop (i+1)) with
        |.ok rr=>bH p ft fe (gU ix ρ) ds=.ok (yd++rr)
        |.error e=>W.p e F H:=hc1
       exact ⟨hlt,F5,yd,s2.trans (s3.trans s5),dy.mono (s3.trans s5).ff,by omega,hc2⟩
      |true=>
       have hc2:match ((fe ρ1).bind fun y=>(bH p ft fe (gU ix ρ) (ds.drop (i+1))).bind fun r=>.ok (y::r)) with
        |.ok rr=>bH p ft fe (gU ix ρ) ds=.ok (yd++rr)
        |.error e=>W.p e F H:=hc1
       refine aW (r4.mono s5.ff) s5.fh (fun e he=>by rw [he] at hc2;exact W.mono hc2 (st3.trans s5)) fun d hd v F6 H6 s6 q6=>?_
       rw [hd] at hc2
       refine ⟨hlt,F6,yd++[d],s2.trans (s3.trans (s5.trans s6)),ak.append (dy.mono (s3.trans (s5.trans s6)).ff) ⟨v,[],rfl,q6,rfl⟩,by simp;omega,?_⟩
       have hc3:match ((bH p ft fe (gU ix ρ) (ds.drop (i+1))).bind fun r=>.ok (d::r):M (List Dat)) with
        |.ok rr=>bH p ft fe (gU ix ρ) ds=.ok (yd++rr)
        |.error e=>W.p e F H:=hc2
       cases e7:bH p ft fe (gU ix ρ) (ds.drop (i+1)) with
       |ok rr=>
        rw [e7] at hc3
        show _=Except.ok ((yd++[d])++rr)
        rw [List.append_assoc]
        exact hc3
       |error x=>rw [e7] at hc3;exact hc3
    ·have:i=ds.length:=by omega
     subst this
     rw [List.drop_length] at hc
     have hc':bH p ft fe (gU ix ρ) ds=.ok (yd++[]):=hc
     rw [List.append_nil] at hc'
     rw [hc'] at q
     refine .inl ⟨it.st F2 H2 s2.ff s2.fh,lys,fun a ha=>?_⟩
     have st:Step F H F2 H2:=s1.trans s2
     exact q (.ref a) F2 _ (st.trans (Step.grow s2.fh ha)) ⟨a,ys,rfl,ar,s2.fh.free ha,st.hh.free ha,dy⟩
  ·rw [if_neg hl] at q
   exact (W.ns q).elim
end
inductive Flo where
 |nx (ρ:ae)|rt (d:Dat)|bk (ρ:ae)|ct (ρ:ae)
structure Rep (K:PySem.W.Frag) (F0 H0 FB:Hp) (O:List Nat) (F H:Hp) (σ:St) (ρ:ae):Prop where
 st:Step F0 H0 F H
 fb:aC FB F
 len:ρ.length=σ.length
 fz:∀(i:Nat) (d:Dat),ρ[i]? =some (some d)->i∉O->∃v,σ[i]? =some (some v)/\aZ K F d v
 ow:∀(i:Nat) (d:Dat),ρ[i]? =some (some d)->i∈O->∃v,σ[i]? =some (some v)/\jg K F H0 H d v
 ap:∀(i j:Nat) (d e:Dat) (a:Addr),i∈O->j∈O->(ρ[i]? =some (some d)/\isO d=true)->(ρ[j]? =some (some e)/\isO e=true)->σ[i]? =some (some (.ref a))->σ[j]? =some (some (.ref a))->i=j
noncomputable def jJ (O O2:List Nat) (σ:St) (ρ:ae) (b:Addr):Prop:=∃(i:Nat) (d:Dat),i∈O/\i∉O2/\isO d=true/\ρ[i]? =some (some d)/\σ[i]? =some (some (.ref b))
open Classical in
noncomputable def plus (F H:Hp) (A:Addr->Prop):Hp:=fun b=>if A b then H b else F b
open Classical in
noncomputable def minus (F:Hp) (A:Addr->Prop):Hp:=fun b=>if A b then none else F b
theorem pz {F H:Hp} {A:Addr->Prop} {b:Addr} (h:A b):plus F H A b=H b:=by unfold plus;rw [if_pos h]
theorem fX {F H:Hp} {A:Addr->Prop} {b:Addr} (h:¬A b):plus F H A b=F b:=by unfold plus;rw [if_neg h]
theorem qI {F:Hp} {A:Addr->Prop} {b:Addr} (h:A b):minus F A b=none:=by unfold minus;rw [if_pos h]
theorem gA {F:Hp} {A:Addr->Prop} {b:Addr} (h:¬A b):minus F A b=F b:=by unfold minus;rw [if_neg h]
section
variable {K:PySem.W.Frag} {F0 H0 FB F H:Hp} {O O2:List Nat} {σ:St} {ρ:ae}
theorem Rep.own (r:Rep K F0 H0 FB O F H σ ρ) {b:Addr} (h:jJ O O2 σ ρ b):F b=none/\H0 b=none/\∃o,H b=some o/\isMu o=true:=by
 obtain ⟨i,d,hi,_,hd,e1,e2⟩:=h
 obtain ⟨v,e3,q⟩:=r.ow i _ e1 hi
 rw [e2] at e3
 cases e3
 obtain ⟨a,o,e,p,m,f,z⟩:=q.top hd
 cases e
 exact ⟨f,z,o,p,m⟩
theorem Rep.i6 (r:Rep K F0 H0 FB O F H σ ρ):aC F (plus F H (jJ O O2 σ ρ)):=fun b o h=>by
 by_cases hb:jJ O O2 σ ρ b
 ·rw [(r.own hb).1] at h;cases h
 ·rw [fX hb];exact h
theorem Rep.jT (r:Rep K F0 H0 FB O F H σ ρ):aC (plus F H (jJ O O2 σ ρ)) H:=fun b o h=>by
 by_cases hb:jJ O O2 σ ρ b
 ·rw [pz hb] at h;exact h
 ·rw [fX hb] at h;exact r.st.fh b o h
theorem Rep.freeze (r:Rep K F0 H0 FB O F H σ ρ) (hs:∀i∈O2,i∈O):Rep K F0 H0 FB O2 (plus F H (jJ O O2 σ ρ)) H σ ρ where
 st:=⟨r.st.ff.trans r.i6,r.st.hh,r.jT,fun b o h=>by
  by_cases hb:jJ O O2 σ ρ b
  ·exact .inr (r.own hb).2.1
  ·rw [fX hb] at h;exact r.st.nw b o h⟩
 fb:=r.fb.trans r.i6
 len:=r.len
 fz:=fun i d e hi=>by
  by_cases ho:i∈O
  ·obtain ⟨v,e3,q⟩:=r.ow i d e ho
   refine ⟨v,e3,?_⟩
   cases hd:isO d with
   |true=>
    obtain ⟨a,_,ev,_⟩:=q.top hd
    subst ev
    exact q.give hd r.i6 (pz ⟨i,d,ho,hi,hd,e,e3⟩)
   |false=>rw [jg.non hd] at q;exact q.mono r.i6
  ·obtain ⟨v,e3,q⟩:=r.fz i d e ho
   exact ⟨v,e3,q.mono r.i6⟩
 ow:=fun i d e hi=>by
  obtain ⟨v,e3,q⟩:=r.ow i d e (hs i hi)
  refine ⟨v,e3,?_⟩
  cases hd:isO d with
  |true=>
   obtain ⟨a,o,ev,p,_,f,z⟩:=q.top hd
   subst ev
   refine q.re hd r.i6 ?_ fun _ h=>h
   have:¬jJ O O2 σ ρ a:=fun ⟨j,d',hj,hj2,hd',f1,f2⟩=>by
    have:=r.ap i j d d' a (hs i hi) hj ⟨e,hd⟩ ⟨f1,hd'⟩ e3 f2
    subst this
    exact hj2 hi
   rw [fX this]
   exact f
  |false=>rw [jg.non hd] at q ⊢;exact q.mono r.i6
 ap:=fun i j d e a hi hj=>r.ap i j d e a (hs i hi) (hs j hj)
theorem Rep.repE (r:Rep K F0 H0 FB [] F H σ ρ):eR K F σ ρ:=⟨r.len,fun i d e=>r.fz i d e (by simp)⟩
theorem Rep.qv (r:Rep K F0 H0 FB O F H σ ρ):eR K (plus F H (jJ O [] σ ρ)) σ ρ:=(r.freeze (O2:=[]) (by simp)).repE
noncomputable def erase:List Nat->ae->ae
 |[],ρ=>ρ
 |i::is,ρ=>erase is (ρ.set i none)
theorem o6:∀(O:List Nat) (ρ:ae),(erase O ρ).length=ρ.length
 |[],_=>rfl
 |i::is,ρ=>by rw [erase,o6,List.length_set]
theorem o7:∀(O:List Nat) (ρ:ae) (i:Nat) (d:Dat),(erase O ρ)[i]? =some (some d)->ρ[i]? =some (some d)/\i∉O
 |[],_,_,_,h=>⟨h,by simp⟩
 |j::is,ρ,i,d,h=>by
  obtain ⟨h1,h2⟩:=o7 is (ρ.set j none) i d h
  by_cases e:j=i
  ·subst e
   have hj:j<ρ.length:=by
    have:=(List.getElem?_eq_some_iff.mp h1).1
    simpa using this
   rw [List.getElem?_set_self hj] at h1
   cases h1
  ·rw [List.getElem?_set_ne e] at h1
   exact ⟨h1,by simp [h2];omega⟩
theorem Rep.iC (r:Rep K F0 H0 FB O F H σ ρ):eR K F σ (erase O ρ):=
 ⟨by rw [o6,r.len],fun i d e=>let ⟨h1,h2⟩:=o7 O ρ i d e;r.fz i d h1 h2⟩
theorem Rep.step {F1 H1:Hp} (r:Rep K F0 H0 FB O F H σ ρ) (s:Step F H F1 H1):Rep K F0 H0 FB O F1 H1 σ ρ where
 st:=r.st.trans s
 fb:=r.fb.trans s.ff
 len:=r.len
 fz:=fun i d e hi=>let ⟨v,e3,q⟩:=r.fz i d e hi;⟨v,e3,q.mono s.ff⟩
 ow:=fun i d e hi=>by
  obtain ⟨v,e3,q⟩:=r.ow i d e hi
  refine ⟨v,e3,?_⟩
  cases hd:isO d with
  |true=>
   obtain ⟨a,u,ev,p,_,f,z⟩:=q.top hd
   subst ev
   refine q.re hd s.ff ?_ (s.hh a)
   cases e1:F1 a with
   |none=>rfl
   |some o=>
    rcases s.nw a o e1 with h|h
    ·rw [f] at h;cases h
    ·rw [p] at h;cases h
  |false=>rw [jg.non hd] at q ⊢;exact q.mono s.ff
 ap:=r.ap
theorem Rep.lX {F1 H1:Hp} (r:Rep K F0 H0 FB O F H σ ρ) (s:Step (plus F H (jJ O [] σ ρ)) H F1 H1):Rep K F0 H0 FB O (minus F1 (jJ O [] σ ρ)) H1 σ ρ:=by
 refine r.step ⟨fun b o h=>?_,s.hh,fun b o h=>?_,fun b o h=>?_⟩
 ·by_cases hb:jJ O [] σ ρ b
  ·rw [(r.own hb).1] at h;cases h
  ·rw [gA hb];exact s.ff b o (by rw [fX hb];exact h)
 ·by_cases hb:jJ O [] σ ρ b
  ·rw [qI hb] at h;cases h
  ·rw [gA hb] at h;exact s.fh b o h
 ·by_cases hb:jJ O [] σ ρ b
  ·rw [qI hb] at h;cases h
  ·rw [gA hb] at h
   rcases s.nw b o h with z|z
   ·rw [fX hb] at z;exact .inl z
   ·exact .inr z
theorem Rep.minusT {F1 H1:Hp} (r:Rep K F0 H0 FB O F H σ ρ) (s:Step (plus F H (jJ O [] σ ρ)) H F1 H1) (a:Addr) (xs:List V) (h:SqT K F1 a xs):SqT K (minus F1 (jJ O [] σ ρ)) a xs:=by
 have key:∀{b:Addr} {o:HO},F1 b=some o->isMu o=false->minus F1 (jJ O [] σ ρ) b=some o:=fun {b o} h n=>by
  by_cases hb:jJ O [] σ ρ b
  ·obtain ⟨_,_,u,e,m⟩:=r.own hb
   have:=s.ff b u (by rw [pz hb];exact e)
   rw [h] at this
   cases this
   rw [n] at m
   cases m
  ·rw [gA hb];exact h
 rcases h with (h|⟨o,h⟩)|h
 ·exact .inl (.inl (key h rfl))
 ·exact .inl (.inr ⟨o,key h rfl⟩)
 ·exact .inr h
theorem Rep.set {d:Dat} {v:V} (r:Rep K F0 H0 FB O F H σ ρ) (q:aZ K F d v) (i:Nat):Rep K F0 H0 FB (O.filter (· != i)) F H (σ.set i (some v)) (ρ.set i (some d)) where
 st:=r.st
 fb:=r.fb
 len:=by rw [List.length_set,List.length_set,r.len]
 fz:=fun j e h hj=>by
  by_cases hij:i=j
  ·subst hij
   have hi:i<ρ.length:=by
    have:=(List.getElem?_eq_some_iff.mp h).1
    simpa using this
   rw [List.getElem?_set_self hi] at h
   cases h
   exact ⟨v,by rw [List.getElem?_set_self (by rw [<- r.len];exact hi)],q⟩
  ·rw [List.getElem?_set_ne hij] at h
   rw [List.getElem?_set_ne hij]
   exact r.fz j e h fun z=>hj (List.mem_filter.mpr ⟨z,by simpa using Ne.symm hij⟩)
 ow:=fun j e h hj=>by
  obtain ⟨h1,h2⟩:=List.mem_filter.mp hj
  have hij:i≠j:=fun z=>by simp [z] at h2
  rw [List.getElem?_set_ne hij] at h ⊢
  exact r.ow j e h h1
 ap:=fun j k ds es a hj hk e1 e2 e3 e4=>by
  obtain ⟨j1,j2⟩:=List.mem_filter.mp hj
  obtain ⟨k1,k2⟩:=List.mem_filter.mp hk
  have hij:i≠j:=fun z=>by simp [z] at j2
  have hik:i≠k:=fun z=>by simp [z] at k2
  rw [List.getElem?_set_ne hij] at e1 e3
  rw [List.getElem?_set_ne hik] at e2 e4
  exact r.ap j k ds es a j1 k1 e1 e2 e3 e4
theorem Rep.setOwn {d:Dat} {v:V} (r:Rep K F0 H0 FB O F H σ ρ) (q:jg K F H0 H d v) (nw:∀a,v=.ref a->isO d=true->¬jJ O [i] σ ρ a):Rep K F0 H0 FB (i::O.filter (· != i)) F H (σ.set i (some v)) (ρ.set i (some d)) where
 st:=r.st
 fb:=r.fb
 len:=by rw [List.length_set,List.length_set,r.len]
 fz:=fun j e h hj=>by
  simp only [List.mem_cons,not_or] at hj
  have hij:i≠j:=fun z=>hj.1 z.symm
  rw [List.getElem?_set_ne hij] at h ⊢
  exact r.fz j e h fun z=>hj.2 (List.mem_filter.mpr ⟨z,by simpa using Ne.symm hij⟩)
 ow:=fun j e h hj=>by
  by_cases hij:i=j
  ·subst hij
   have hi:i<ρ.length:=by
    have:=(List.getElem?_eq_some_iff.mp h).1
    simpa using this
   rw [List.getElem?_set_self hi] at h
   cases h
   exact ⟨v,by rw [List.getElem?_set_self (by rw [<- r.len];exact hi)],q⟩
  ·rw [List.getElem?_set_ne hij] at h ⊢
   rcases List.mem_cons.mp hj with z|z
   ·exact absurd z.symm hij
   ·exact r.ow j e h (List.mem_filter.mp z).1
 ap:=fun j k ds es a hj hk e1 e2 e3 e4=>by
  have key:∀{k':Nat} {ds' es':Dat},k'∈O->k'≠i->((ρ.set i (some d))[i]? =some (some ds')/\isO ds'=true)->((ρ.set i (some d))[k']? =some (some es')/\isO es'=true)->(σ.set i (some v))[i]? =some (some (.ref a))->(σ.set i (some v))[k']? =some (some (.ref a))->False:=by
   intro k' ds' es' hk' hne f1 f2 f3 f4
   have hi:i<ρ.length:=by
    have:=(List.getElem?_eq_some_iff.mp f1.1).1
    simpa using this
   rw [List.getElem?_set_self hi] at f1
   rw [List.getElem?_set_self (by rw [<- r.len];exact hi)] at f3
   rw [List.getElem?_set_ne (Ne.symm hne)] at f2 f4
   have z1:v=.ref a:=by simpa using f3
   have z2:d=ds':=by simpa using f1.1
   exact nw a z1 (z2▸f1.2) ⟨k',es',hk',by simpa using hne,f2.2,f2.1,f4⟩
  rcases List.mem_cons.mp hj with zj|zj
  ·rcases List.mem_cons.mp hk with zk|zk
   ·rw [zj,zk]
   ·obtain ⟨k1,k2⟩:=List.mem_filter.mp zk
    subst zj
    exact (key k1 (by simpa using k2) e1 e2 e3 e4).elim
  ·obtain ⟨j1,j2⟩:=List.mem_filter.mp zj
   have hij:i≠j:=fun z=>by simp [z] at j2
   rcases List.mem_cons.mp hk with zk|zk
   ·subst zk
    exact (key j1 (Ne.symm hij) e2 e1 e4 e3).elim
   ·obtain ⟨k1,k2⟩:=List.mem_filter.mp zk
    have hik:i≠k:=fun z=>by simp [z] at k2
    rw [List.getElem?_set_ne hij] at e1 e3
    rw [List.getElem?_set_ne hik] at e2 e4
    exact r.ap j k ds es a j1 k1 e1 e2 e3 e4
end
section
variable {K:PySem.W.Frag} {F0 H0 FB F H:Hp} {O O2:List Nat} {σ:St} {ρ:ae}
theorem Rep.kZ {F1 H1:Hp} (r:Rep K F0 H0 FB O F H σ ρ) (s:Step (plus F H (jJ O [] σ ρ)) H F1 H1):aC F (minus F1 (jJ O [] σ ρ)):=fun b o h=>by
 by_cases hb:jJ O [] σ ρ b
 ·rw [(r.own hb).1] at h;cases h
 ·rw [gA hb];exact s.ff b o (by rw [fX hb];exact h)
theorem sQ {i:Nat} {O:List Nat} (h:i∉O):O.filter (· != i)=O:=by
 rw [List.filter_eq_self]
 intro a ha
 simp
 intro e
 exact h (e▸ha)
theorem Rep.set' {d:Dat} {v:V} (r:Rep K F0 H0 FB O F H σ ρ) (q:aZ K F d v) {i:Nat} (hi:i∉O):Rep K F0 H0 FB O F H (σ.set i (some v)) (ρ.set i (some d)):=by
 have:=r.set q i
 rw [sQ hi] at this
 exact this
theorem Rep.base {FB':Hp} (r:Rep K F0 H0 FB O F H σ ρ) (s:aC FB' FB):Rep K F0 H0 FB' O F H σ ρ:=⟨r.st,s.trans r.fb,r.len,r.fz,r.ow,r.ap⟩
theorem Rep.writeO {i:Nat} {a:Addr} {d d':Dat} {u:HO} (r:Rep K F0 H0 FB O F H σ ρ) (hi:i∈O) (e1:ρ[i]? =some (some d)) (hd:isO d=true) (e2:σ[i]? =some (some (.ref a))) (q:F a=none->H0 a=none->jg K F H0 (upd H a u) d' (.ref a)):Rep K F0 H0 FB O F (upd H a u) σ (ρ.set i (some d')):=by
 have ho:F a=none/\H0 a=none/\∃o,H a=some o/\isMu o=true:=r.own (O2:=[]) ⟨i,d,hi,by simp,hd,e1,e2⟩
 have hil:i<ρ.length:=(List.getElem?_eq_some_iff.mp e1).1
 refine ⟨⟨r.st.ff,fun b o h=>?_,fun b o h=>?_,r.st.nw⟩,r.fb,by rw [List.length_set,r.len],fun j e h hj=>?_,fun j e h hj=>?_,fun j k es fs b hj hk f1 f2 f3 f4=>?_⟩
 ·rw [aq (au h ho.2.1)];exact r.st.hh b o h
 ·rw [aq (au h ho.1)];exact r.st.fh b o h
 ·have hij:i≠j:=fun z=>hj (z▸hi)
  rw [List.getElem?_set_ne hij] at h
  exact r.fz j e h hj
 ·by_cases hij:i=j
  ·subst hij
   rw [List.getElem?_set_self hil] at h
   cases h
   exact ⟨.ref a,e2,q ho.1 ho.2.1⟩
  ·rw [List.getElem?_set_ne hij] at h
   obtain ⟨v,e3,z⟩:=r.ow j e h hj
   refine ⟨v,e3,?_⟩
   cases he:isO e with
   |true=>
    obtain ⟨b,o,ev,p,_,f,_⟩:=z.top he
    subst ev
    have hab:b≠a:=fun z=>by
     subst z
     exact hij (r.ap i j d e b hi hj ⟨e1,hd⟩ ⟨h,he⟩ e2 e3)
    exact z.re he (aC.refl _) f fun o h=>by rw [aq hab];exact h
   |false=>rw [jg.non he] at z ⊢;exact z
 ·have fix:∀{j:Nat} {e:Dat},((ρ.set i (some d'))[j]? =some (some e)/\isO e=true)->∃e',ρ[j]? =some (some e')/\isO e'=true:=fun {j e} f=>by
   by_cases hij:i=j
   ·subst hij;exact ⟨d,e1,hd⟩
   ·rw [List.getElem?_set_ne hij] at f;exact ⟨e,f⟩
  obtain ⟨es',g1⟩:=fix f1
  obtain ⟨fs',g2⟩:=fix f2
  exact r.ap j k es' fs' b hj hk g1 g2 f3 f4
theorem Rep.write {i:Nat} {a:Addr} {ds ds':List Dat} {xs':List V} (r:Rep K F0 H0 FB O F H σ ρ) (hi:i∈O) (e1:ρ[i]? =some (some (.lst ds))) (e2:σ[i]? =some (some (.ref a))) (q:ak K F ds' xs'):Rep K F0 H0 FB O F (upd H a (.lst xs')) σ (ρ.set i (some (.lst ds'))):=
 r.writeO hi e1 rfl e2 fun f z=>⟨a,xs',rfl,ar,f,z,q⟩
noncomputable def Pat.names:Pat->List Nat
 |.nm i=>[i]
 |.tp is=>is
theorem lC {R:St->Hp->Prop}:∀{is:List Nat} {ds:List Dat} {vs:List V} {σ:St} {ρ:ae},Rep K F0 H0 FB O F H σ ρ->(∀i∈is,i∉O)->ak K F ds vs->ds.length=is.length->(∀σ',Rep K F0 H0 FB O F H σ' (gc is ds ρ)->R σ' H)->f6 is vs σ H R
 |[],[],_,σ,ρ,r,_,q,_,h=>⟨q,h σ r⟩
 |[],_::_,_,_,_,_,_,_,e,_=>by simp at e
 |_::_,[],_,_,_,_,_,_,e,_=>by simp at e
 |i::is,d::ds,_,σ,ρ,r,n,⟨v,vs,e,q,t⟩,l,h=>⟨v,vs,e,lC (r.set' q (n i (by simp))) (fun j hj=>n j (by simp [hj])) t (by simpa using l) h⟩
theorem gP_rep {R:St->Hp->Prop} {p:Pat} {d:Dat} {v:V} {ρ':ae} (r:Rep K F0 H0 FB O F H σ ρ) (n:∀i∈p.names,i∉O) (q:aZ K F d v) (e:gX p d ρ=.ok ρ') (h:∀σ',Rep K F0 H0 FB O F H σ' ρ'->R σ' H):gP K p v σ H R:=by
 cases p with
 |nm i=>
  have:=Except.ok.inj e
  subst this
  exact h _ (r.set' q (n i (by simp [Pat.names])))
 |tp is=>
  cases d with
  |tup ds=>
   have e':(if ds.length=is.length then Except.ok (gc is ds ρ) else Except.error Err.stuck)=Except.ok ρ':=e
   by_cases hl:ds.length=is.length
   ·rw [if_pos hl] at e'
    have:=Except.ok.inj e'
    subst this
    obtain ⟨a,xs,ev,t,z⟩:=q
    exact ⟨a,xs,ev,r.st.fh.tup t,by rw [z.length,hl],lC r n z hl h⟩
   ·rw [if_neg hl] at e'
    cases e'
  |_=>cases e
end
noncomputable def gY (K:PySem.W.Frag) (W:cy) (ro:Bool) (F0 H0 FB:Hp) (OL O':List Nat) (D:Ends) (r:M Flo):Prop:=match r with
 |.ok (.nx ρ)=>∀σ F H,Rep K F0 H0 FB O' F H σ ρ->D.nx σ H
 |.ok (.rt d)=>∀v F H,Step F0 H0 F H->Val K ro F H0 H d v->D.rt v H
 |.ok (.bk ρ)=>∀σ F H,Rep K F0 H0 FB OL F H σ ρ->D.bk σ H
 |.ok (.ct ρ)=>∀σ F H,Rep K F0 H0 FB OL F H σ ρ->D.ct σ H
 |.error e=>W.p e F0 H0
noncomputable def tS (K:PySem.W.Frag) (W:cy) (ro:Bool) (F0 H0:Hp) (OL O O':List Nat) (g:ae->M Flo):TS:=fun D σ H=>∃FB F ρ,Rep K F0 H0 FB O F H σ ρ/\gY K W ro F0 H0 FB OL O' D (g ρ)
noncomputable def iA:ae->M Flo:=fun ρ=>.ok (.nx ρ)
noncomputable def fy (g h:ae->M Flo):ae->M Flo:=fun ρ=>(g ρ).bind fun fl=>match fl with
 |.nx ρ'=>h ρ'
 |fl=>.ok fl
noncomputable def sIf (ft:ae->M Bool) (g h:ae->M Flo):ae->M Flo:=fun ρ=>(ft ρ).bind fun b=>if b=true then g ρ else h ρ
noncomputable def bL (O:List Nat) (i:Nat) (f:ae->M Dat):ae->M Flo:=fun ρ=>(f (erase O ρ)).bind fun d=>.ok (.nx (ρ.set i (some d)))
noncomputable def iJ (ρ:ae) (i:Nat):M (List Dat):=match ρ[i]? with
 |some (some (.lst ds))=>.ok ds
 |_=>.error .stuck
noncomputable def put (ρ:ae) (i:Nat) (ds:List Dat):M Flo:=.ok (.nx (ρ.set i (some (.lst ds))))
noncomputable def m5 (O:List Nat) (i:Nat) (f:ae->M Dat):ae->M Flo:=fun ρ=>(iJ ρ i).bind fun ds=>(f (erase O ρ)).bind fun d=>if ds.length<sizeLine then put ρ i (ds++[d]) else .error .stuck
noncomputable def asI:Dat->M Int
 |.int i=>.ok i
 |_=>.error .stuck
noncomputable def ji (f:ae->M Dat):ae->M Flo:=fun ρ=>(f ρ).bind fun d=>.ok (.rt d)
noncomputable def dQ (p:Pat) (g:ae->M Flo):List Dat->ae->M Flo
 |[],ρ=>.ok (.nx ρ)
 |d::ds,ρ=>(gX p d ρ).bind fun ρ1=>(g ρ1).bind fun fl=>match fl with
  |.nx ρ2=>dQ p g ds ρ2
  |.ct ρ2=>dQ p g ds ρ2
  |.bk ρ2=>.ok (.nx ρ2)
  |.rt d=>.ok (.rt d)
noncomputable def m4 (O:List Nat) (fi:ae->M (List Dat)) (p:Pat) (g:ae->M Flo):ae->M Flo:=fun ρ=>(fi (erase O ρ)).bind fun ds=>dQ p g ds ρ
section
variable {K:PySem.W.Frag} {W:cy} {ro own:Bool} {F0 H0 FB F H:Hp} {OL O O' O2:List Nat} {D:Ends} {σ:St} {ρ:ae} {g h:ae->M Flo} {f fi:ae->M Dat} {ft:ae->M Bool}
theorem gY.err {x:M Flo} {e:Err} (p:gY K W ro F0 H0 FB OL O' D x) (h:x=.error e):W.p e F0 H0:=by rw [h] at p;exact p
theorem gY.mD {x:M Flo} {e:Err} (p:gY K W ro F0 H0 FB OL O' D x) (s:Step F0 H0 F H) (h:x=.error e):W.p e F H:=W.mono (p.err h) s
theorem gY.stuck {x:M Flo} {P:Prop} (p:gY K W ro F0 H0 FB OL O' D x) (h:x=.error .stuck):P:=(W.ns (p.err h)).elim
theorem tS.enter (hs:∀i∈O2,i∈O) (t:tS K W ro F0 H0 OL O O' g D σ H):tS K W ro F0 H0 OL O2 O' g D σ H:=by
 obtain ⟨FB,F,ρ,r,p⟩:=t
 exact ⟨FB,_,ρ,r.freeze hs,p⟩
theorem rs_next (t:tS K W ro F0 H0 OL O O iA D σ H):pe D σ H:=by
 obtain ⟨FB,F,ρ,r,p⟩:=t
 exact p σ F H r
theorem rs_seq (t:tS K W ro F0 H0 OL O O2 (fy g h) D σ H):oN (tS K W ro F0 H0 OL O O' g) (tS K W ro F0 H0 OL O' O2 h) D σ H:=by
 obtain ⟨FB,F,ρ,r,p⟩:=t
 refine ⟨FB,F,ρ,r,?_⟩
 unfold fy at p
 cases e:g ρ with
 |error x=>exact p.err (by rw [e];rfl)
 |ok fl=>
  rw [e] at p
  cases fl with
  |nx ρ'=>exact fun σ' F' H' r'=>⟨FB,F',ρ',r',p⟩
  |rt d=>exact p
  |bk ρ'=>exact p
  |ct ρ'=>exact p
theorem rs_if (t:tS K W ro F0 H0 OL O O' (sIf ft g h) D σ H):tIfS (tDT K W ft) (tS K W ro F0 H0 OL O O' g) (tS K W ro F0 H0 OL O O' h) D σ H:=by
 obtain ⟨FB,F,ρ,r,p⟩:=t
 refine i3 r.qv r.jT (fun e he=>p.mD (r.freeze (O2:=[]) (by simp)).st (by unfold sIf;rw [he];rfl)) fun b hb F1 H1 s1=>?_
 have z:sIf ft g h ρ=if b=true then g ρ else h ρ:=by unfold sIf;rw [hb];rfl
 rw [z] at p
 cases b with
 |true=>exact ⟨FB,_,ρ,r.lX s1,p⟩
 |false=>exact ⟨FB,_,ρ,r.lX s1,p⟩
noncomputable def aft (own:Bool) (i:Nat) (O:List Nat):List Nat:=if own=true then i::O.filter (· != i) else O.filter (· != i)
theorem Rep.bindV {i:Nat} {d:Dat} {v:V} {H2:Hp} (r:Rep K F0 H0 FB O F H σ ρ) (q:Val K own F H2 H d v) (h2:aC H0 H2) (nw:∀a,jJ O [] σ ρ a->∃o,H2 a=some o):Rep K F0 H0 FB (aft own i O) F H (σ.set i (some v)) (ρ.set i (some d)):=by
 cases own with
 |false=>exact r.set q i
 |true=>
  refine r.setOwn (jg.back h2 q) fun a ha hd z=>?_
  subst ha
  obtain ⟨b,_,e,_,_,_,n⟩:=jg.top hd q
  cases e
  obtain ⟨j,es,h1,h2,h3,h4,h5⟩:=z
  obtain ⟨o,ho⟩:=nw a ⟨j,es,h1,by simp,h3,h4,h5⟩
  rw [n] at ho
  cases ho
theorem ua {i:Nat} (t:tS K W ro F0 H0 OL O (aft own i O) (bL O i f) D σ H):tAsg (tD K W own f) (g8 i) D σ H:=by
 obtain ⟨FB,F,ρ,r,p⟩:=t
 refine aW r.iC r.st.fh (fun e he=>p.mD r.st (by unfold bL;rw [he];rfl)) fun d hd v F1 H1 s1 q=>?_
 have z:bL O i f ρ=.ok (.nx (ρ.set i (some d))):=by unfold bL;rw [hd];rfl
 rw [z] at p
 exact p _ F1 H1 ((r.step s1).bindV q r.st.hh fun a ha=>let ⟨_,_,_,e,_⟩:=r.own ha;⟨_,e⟩)
theorem jA {i:Nat} {ds:List Dat} (h:iJ ρ i=.ok ds):ρ[i]? =some (some (.lst ds)):=by
 unfold iJ at h
 split at h
 ·cases h;assumption
 ·cases h
theorem nO {i:Nat} {e:Err} (h:iJ ρ i=.error e):e=.stuck:=by
 unfold iJ at h
 split at h
 ·cases h
 ·cases h;rfl
theorem Rep.lstOwn {i:Nat} {ds:List Dat} (r:Rep K F0 H0 FB O F H σ ρ) (hi:i∈O) (e:ρ[i]? =some (some (.lst ds))):∃a xs,σ[i]? =some (some (.ref a))/\H a=some (.lst xs)/\ak K F ds xs:=by
 obtain ⟨v,e3,a,xs,ev,p,_,_,t⟩:=r.ow i _ e hi
 subst ev
 exact ⟨a,xs,e3,p,t⟩
noncomputable def tApp (K:PySem.W.Frag) (i:Nat) (te:TE):TS:=jO (tBM K "list" i5 (kM i) (fS te oO))
theorem rs_appB {i:Nat} (hi:i∈O) (t:tS K W ro F0 H0 OL O O (m5 O i f) D σ H):tApp K i (tD K W false f) D σ H:=by
 obtain ⟨FB,F,ρ,r,p⟩:=t
 cases hl:iJ ρ i with
 |error e=>
  have:=nO hl
  subst this
  exact p.stuck (by unfold m5;rw [hl];rfl)
 |ok ds=>
  obtain ⟨a,xs,e2,ha,z⟩:=r.lstOwn hi (jA hl)
  refine ⟨.ref a,e2,iq ha,?_⟩
  refine aW r.iC r.st.fh (fun e he=>p.mD r.st (by unfold m5;rw [hl];show (f (erase O ρ)).bind _=_;rw [he];rfl)) fun d hd v F1 H1 s1 q=>?_
  have ez:m5 O i f ρ=if ds.length<sizeLine then put ρ i (ds++[d]) else .error .stuck:=by unfold m5;rw [hl];show (f (erase O ρ)).bind _=_;rw [hd];rfl
  rw [ez] at p
  by_cases hs:ds.length<sizeLine
  ·rw [if_pos hs] at p
   exact ⟨a,xs,v,rfl,rfl,s1.hh _ _ ha,by rw [z.length];exact hs,p σ F1 _ ((r.step s1).write hi (jA hl) e2 (ak.append (z.mono s1.ff) ⟨v,[],rfl,q,rfl⟩))⟩
  ·rw [if_neg hs] at p
   exact p.stuck rfl
theorem rs_ret (t:tS K W ro F0 H0 OL O O' (ji f) D σ H):tRet (tD K W ro f) D σ H:=by
 obtain ⟨FB,F,ρ,r,p⟩:=t
 have rf:=r.freeze (O2:=[]) (by simp)
 refine aW r.qv r.jT (fun e he=>p.mD rf.st (by unfold ji;rw [he];rfl)) fun d hd v F1 H1 s1 q=>?_
 have z:ji f ρ=.ok (.rt d):=by unfold ji;rw [hd];rfl
 rw [z] at p
 exact p v F1 H1 (rf.st.trans s1) (q.back r.st.hh)
theorem rs_for {fs:ae->M (List Dat)} {pt:Pat} (n:∀i∈pt.names,i∉O) (t:tS K W ro F0 H0 OL O O (m4 O fs pt g) D σ H):tFor (iD K W fs) (gP K pt) (tS K W ro F0 H0 O O O g) D σ H:=by
 obtain ⟨FB,F,ρ,r,p⟩:=t
 refine ⟨F,erase O ρ,r.iC,r.st.fh,?_⟩
 cases e:fs (erase O ρ) with
 |error x=>exact p.mD r.st (by unfold m4;rw [e];rfl)
 |ok ds=>
  have z:m4 O fs pt g ρ=dQ pt g ds ρ:=by unfold m4;rw [e];rfl
  rw [z] at p
  intro J F1 H1 s1 it
  refine ⟨fun i m σ H=>∃F ρ,Rep K F0 H0 F1 O F H σ ρ/\i<=ds.length/\m=ds.length-i/\gY K W ro F0 H0 FB OL O D (dQ pt g (ds.drop i) ρ),⟨ds.length,F1,ρ,?_,Nat.zero_le _,by omega,by rw [List.drop_zero];exact p⟩,?_⟩
  ·have r1:=r.step s1
   exact ⟨r1.st,aC.refl _,r1.len,r1.fz,r1.ow,r1.ap⟩
  ·rintro i m σ2 H2 ⟨F2,ρ2,r2,hi,rfl,p2⟩
   by_cases hlt:i<ds.length
   ·have ed:ds.drop i=ds[i]::ds.drop (i+1):=List.drop_eq_getElem_cons hlt
    rw [ed] at p2
    refine .inr ⟨it.go i F2 H2 r2.fb r2.st.fh hlt,fun σ' H'=>(∃F ρ,Rep K F0 H0 F1 O F H' σ' ρ/\gY K W ro F0 H0 FB OL O D (dQ pt g (ds.drop (i+1)) ρ)),fun σ' H' ⟨F,ρ,r,p⟩=>⟨ds.length-(i+1),by omega,F,ρ,r,hlt,rfl,p⟩,fun x H' y=>?_⟩
    obtain ⟨F3,s3,q3⟩:=it.yl i F2 H2 x H' ds[i] r2.fb r2.st.fh (by simp [hlt]) y
    have ef:dQ pt g (ds[i]::ds.drop (i+1)) ρ2=(gX pt ds[i] ρ2).bind fun ρ1=>(g ρ1).bind fun fl=>match fl with
     |.nx ρ2=>dQ pt g (ds.drop (i+1)) ρ2
     |.ct ρ2=>dQ pt g (ds.drop (i+1)) ρ2
     |.bk ρ2=>.ok (.nx ρ2)
     |.rt d=>.ok (.rt d):=by rw [dQ]
    rw [ef] at p2
    cases eb:gX pt ds[i] ρ2 with
    |error x=>
     have:=oA eb
     subst this
     exact p2.stuck (by rw [eb];rfl)
    |ok ρ3=>
     rw [eb] at p2
     have p2:gY K W ro F0 H0 FB OL O D ((g ρ3).bind fun fl=>match fl with
      |.nx ρ2=>dQ pt g (ds.drop (i+1)) ρ2
      |.ct ρ2=>dQ pt g (ds.drop (i+1)) ρ2
      |.bk ρ2=>.ok (.nx ρ2)
      |.rt d=>.ok (.rt d)):=p2
     refine gP_rep (r2.step s3) n q3 eb fun σ4 r4=>⟨F1,F3,ρ3,r4,?_⟩
     have fb1:aC FB F1:=(r.step s1).fb
     cases eg:g ρ3 with
     |error x=>exact p2.err (by rw [eg];rfl)
     |ok fl=>
      rw [eg] at p2
      cases fl with
      |nx ρ5=>exact fun σ' F' H' r'=>⟨F',ρ5,r',p2⟩
      |ct ρ5=>exact fun σ' F' H' r'=>⟨F',ρ5,r',p2⟩
      |bk ρ5=>exact fun σ' F' H' r'=>p2 σ' F' H' (r'.base fb1)
      |rt d=>exact p2
   ·have:i=ds.length:=by omega
    subst this
    rw [List.drop_length] at p2
    exact .inl ⟨it.st F2 H2 r2.fb r2.st.fh,p2 σ2 F2 H2 (r2.base (r.step s1).fb)⟩
end
noncomputable def stk {α:Type}:M α:=.error .stuck
noncomputable def iV:Dat->Dat->M Dat
 |.int i,.int j=>.ok (.int (i+j))
 |.str x,.str y=>if x.length+y.length<=sizeLine then .ok (.str (x++y)) else stk
 |.lst xs,.lst ys=>if xs.length+ys.length<=sizeLine then .ok (.lst (xs++ys)) else stk
 |.tup xs,.tup ys=>if xs.length+ys.length<=sizeLine then .ok (.tup (xs++ys)) else stk
 |_,_=>stk
noncomputable def rT:Dat->Dat->M Dat
 |.int i,.int j=>.ok (.int (i-j))
 |_,_=>stk
noncomputable def dG (i:Int):Bool:=decide (-(2^64)<i)&&decide (i<2^64)
noncomputable def mulD:Dat->Dat->M Dat
 |.int i,.int j=>if (dG i||dG j)=true then .ok (.int (i*j)) else stk
 |_,_=>stk
noncomputable def pN:Dat->Dat->M Dat
 |.int i,.int j=>if (decide (0<j)&&decide (j<18446744073709551616))=true then .ok (.int (i/j)) else stk
 |_,_=>stk
noncomputable def nL:Dat->Dat->M Dat
 |.int i,.int j=>if 0<j then .ok (.int (i%j)) else stk
 |_,_=>stk
noncomputable def negD:Dat->M Dat
 |.int i=>.ok (.int (-i))
 |_=>stk
noncomputable def ltD:Dat->Dat->M Dat
 |.int i,.int j=>.ok (.bl (decide (i<j)))
 |_,_=>stk
noncomputable def leD:Dat->Dat->M Dat
 |.int i,.int j=>.ok (.bl (decide (i<=j)))
 |_,_=>stk
noncomputable def gtD:Dat->Dat->M Dat
 |.int i,.int j=>.ok (.bl (decide (j<i)))
 |_,_=>stk
noncomputable def geD:Dat->Dat->M Dat
 |.int i,.int j=>.ok (.bl (decide (j<=i)))
 |_,_=>stk
noncomputable def b2z (b:Bool):Int:=if b then 1 else 0
mutual
noncomputable def eqD:Dat->Dat->Bool
 |.non,.non=>true
 |.bl a,.bl b=>a==b
 |.bl a,.int b=>b2z a==b
 |.int a,.bl b=>a==b2z b
 |.int a,.int b=>a==b
 |.str a,.str b=>a==b
 |.tup xs,.tup ys=>mY xs ys
 |.lst xs,.lst ys=>mY xs ys
 |_,_=>false
noncomputable def mY:List Dat->List Dat->Bool
 |[],[]=>true
 |d::ds,e::es=>eqD d e&&mY ds es
 |_,_=>false
end
mutual
noncomputable def okE:Dat->Nat->Bool
 |.tup ds,n=>(match n with
  |0=>false
  |n+1=>iF ds n)
 |.lst ds,n=>(match n with
  |0=>false
  |n+1=>iF ds n)
 |.ins _ _,_=>false
 |.dic _,_=>false
 |.dil _,_=>false
 |.non,_=>true
 |.bl _,_=>true
 |.int _,_=>true
 |.str _,_=>true
noncomputable def iF:List Dat->Nat->Bool
 |[],_=>true
 |d::ds,n=>okE d n&&iF ds n
end
noncomputable def eqM (a b:Dat):M Dat:=if (okE a 40&&okE b 40)=true then .ok (.bl (eqD a b)) else stk
noncomputable def neM (a b:Dat):M Dat:=if (okE a 40&&okE b 40)=true then .ok (.bl (!eqD a b)) else stk
noncomputable def k8 (a b:Dat):M Dat:=(gd b).bind fun ds=>if (okE a 40&&iF ds 40)=true then .ok (.bl (!ds.any fun d=>eqD d a)) else stk
noncomputable def pK (ds:List Dat) (i:Int):M Dat:=match atI ds i with
 |some d=>.ok d
 |none=>stk
noncomputable def ixD:Dat->Dat->M Dat
 |.lst ds,.int i=>pK ds i
 |.tup ds,.int i=>pK ds i
 |_,_=>stk
noncomputable def tj:List Dat->M Dat
 |[.lst ds]=>.ok (.int ds.length)
 |[.tup ds]=>.ok (.int ds.length)
 |_=>stk
noncomputable def absD:List Dat->M Dat
 |[.int i]=>.ok (.int (if i<0 then -i else i))
 |_=>stk
noncomputable def bh:List Dat->M (List Int)
 |[]=>.ok []
 |d::ds=>(asI d).bind fun b=>(bh ds).bind fun r=>.ok (b::r)
noncomputable def sumD:List Dat->M Dat
 |[.lst ds]=>(bh ds).bind fun is=>.ok (.int is.sum)
 |_=>stk
noncomputable def qc:List Dat->M Dat
 |[.lst ds]=>.ok (.tup ds)
 |[.tup ds]=>.ok (.tup ds)
 |_=>stk
noncomputable def iI (i j:Int):Int:=if j>i then j else i
noncomputable def mq (i j:Int):Int:=if j<i then j else i
noncomputable def maxL:List Int->M Dat
 |[]=>stk
 |i::is=>.ok (.int (is.foldl iI i))
noncomputable def minL:List Int->M Dat
 |[]=>stk
 |i::is=>.ok (.int (is.foldl mq i))
noncomputable def maxD:List Dat->M Dat
 |[.int i,.int j]=>.ok (.int (iI i j))
 |[.lst ds]=>(bh ds).bind maxL
 |_=>stk
noncomputable def minD:List Dat->M Dat
 |[.int i,.int j]=>.ok (.int (mq i j))
 |[.lst ds]=>(bh ds).bind minL
 |_=>stk
noncomputable def eZ:Dat->M Dat
 |.int _=>.ok (.bl true)
 |.bl _=>.ok (.bl true)
 |.ins _ _=>stk
 |.dic _=>stk
 |.dil _=>stk
 |_=>.ok (.bl false)
noncomputable def dB:Dat->M Dat
 |.bl _=>.ok (.bl true)
 |.ins _ _=>stk
 |.dic _=>stk
 |.dil _=>stk
 |_=>.ok (.bl false)
noncomputable def bR:Dat->M Dat
 |.lst _=>.ok (.bl true)
 |.ins _ _=>stk
 |.dic _=>stk
 |.dil _=>stk
 |_=>.ok (.bl false)
noncomputable def lq:Dat->M Dat
 |.tup _=>.ok (.bl true)
 |.ins _ _=>stk
 |.dic _=>stk
 |.dil _=>stk
 |_=>.ok (.bl false)
noncomputable def fLR (fr:ae->M (List Dat)):ae->M Dat:=fun ρ=>(fr ρ).bind bw
noncomputable def eQ:Nat->List Dat->List Dat
 |_,[]=>[]
 |k,d::ds=>.tup [.int k,d]::eQ (k+1) ds
noncomputable def gC:Dat->M (List Dat)
 |.lst ds=>.ok ds
 |_=>.error .stuck
noncomputable def o5 (fa:ae->M Dat):ae->M (List Dat):=fun ρ=>(fa ρ).bind fun d=>(gC d).bind fun ds=>.ok (eQ 0 ds)
noncomputable def mZ:List Dat->List Dat->List Dat
 |d::ds,e::es=>.tup [d,e]::mZ ds es
 |_,_=>[]
noncomputable def vg (fa fb:ae->M Dat):ae->M (List Dat):=fun ρ=>(fa ρ).bind fun a=>(fb ρ).bind fun b=>(gC a).bind fun ds=>(gC b).bind fun es=>.ok (mZ ds es)
noncomputable def fA (nN n:Nat) (g:ae->M Flo) (ds:List Dat):M Dat:=if ds.length=n then (g (ds.map some++List.replicate (nN-ds.length) none)).bind fun fl=>match fl with
 |.nx _=>.ok .non
 |.rt d=>.ok d
 |_=>stk else stk
@[simp] theorem ai {α β:Type} (a:α) (f:α->M β):Except.bind (Except.ok a:M α) f=f a:=id rfl
@[simp] theorem ip {α β:Type} (e:Err) (f:α->M β):Except.bind (Except.error e:M α) f=.error e:=id rfl
@[simp] theorem cq:∀is:List Int,bh (is.map Dat.int)=.ok is
 |[]=>rfl
 |i::is=>by simp [bh,asI,cq is]
@[simp] theorem uB (n:Nat):∀is:List Int,iF (is.map Dat.int) n=true
 |[]=>by simp [iF]
 |i::is=>by simp [iF,okE,uB n is]
@[simp] theorem vi:∀is js:List Int,mY (is.map Dat.int) (js.map Dat.int)=decide (is=js)
 |[],[]=>by simp [mY]
 |[],_::_=>by simp [mY]
 |_::_,[]=>by simp [mY]
 |i::is,j::js=>by
  simp only [List.map_cons,mY,eqD,vi is js,List.cons.injEq]
  rw [Bool.eq_iff_iff]
  simp
theorem mz {ds:List Dat} {k:Nat} (h:k<ds.length):pK ds (k:Int)=.ok ds[k]:=by
 unfold pK atI ixN
 rw [if_pos (by omega),if_pos (by omega)]
 simp [h]
theorem getI_int {is:List Int} {k:Int} (h0:0<=k) (h:k<is.length):pK (is.map Dat.int) k=.ok (.int (is[k.toNat]'(by omega))):=by
 have hj:k.toNat<(is.map Dat.int).length:=by simp;omega
 have e:k=(k.toNat:Int):=by omega
 have:=mz hj
 rw [<- e] at this
 rw [this]
 simp
@[simp] theorem u6 (i:Int):dG i=(decide (-(2^64)<i)&&decide (i<2^64)):=id rfl
@[simp] theorem small_def2 (i:Int):aK i=(decide (-(2^62)<=i)&&decide (i<2^62)):=id rfl
@[simp] theorem eqDs_nilR (ds:List Dat):mY ds []=ds.isEmpty:=by cases ds<;>rfl
section
variable {ρ:ae} {fa fb fc:ae->M Dat} {fr:ae->M (List Dat)} {ft fu:ae->M Bool} {g h:ae->M Flo}
@[simp] theorem vn (d:Dat) (r:ae):ao 0 (some d::r)=.ok d:=id rfl
@[simp] theorem vm (i:Nat) (o:Option Dat) (r:ae):ao (i+1) (o::r)=ao i r:=by simp [ao]
@[simp] theorem e_c (d:Dat):fC d ρ=.ok d:=id rfl
@[simp] theorem e_1 (k:Dat->M Dat):f1 k fa ρ=(fa ρ).bind k:=id rfl
@[simp] theorem e_2 (k:Dat->Dat->M Dat):f2 k fa fb ρ=(fa ρ).bind fun a=>(fb ρ).bind fun b=>k a b:=id rfl
@[simp] theorem e_nil:aX ρ=.ok []:=id rfl
@[simp] theorem e_cons:aa fa fr ρ=(fa ρ).bind fun a=>(fr ρ).bind fun r=>.ok (a::r):=id rfl
@[simp] theorem e_L (k:List Dat->M Dat):fL k fr ρ=(fr ρ).bind k:=id rfl
@[simp] theorem e_and:fAnd ft fu ρ=(ft ρ).bind fun b=>if b=true then fu ρ else .ok false:=id rfl
@[simp] theorem e_or:fOr ft fu ρ=(ft ρ).bind fun b=>if b=true then .ok true else fu ρ:=id rfl
@[simp] theorem e_not:mC ft ρ=(ft ρ).bind fun b=>.ok (!b):=id rfl
@[simp] theorem e_B:fB fa ρ=(fa ρ).bind asB:=id rfl
@[simp] theorem e_tru:jD fa ρ=(fa ρ).bind truD:=id rfl
@[simp] theorem e_yes:qV ρ=.ok true:=id rfl
@[simp] theorem e_it:fIt fa ρ=(fa ρ).bind gd:=id rfl
@[simp] theorem e_rng (k:List Dat->M (List Dat)):gm k fr ρ=(fr ρ).bind k:=id rfl
@[simp] theorem e_LR:fLR fr ρ=(fr ρ).bind bw:=id rfl
@[simp] theorem e_enum:o5 fa ρ=(fa ρ).bind fun d=>(gC d).bind fun ds=>.ok (eQ 0 ds):=id rfl
@[simp] theorem e_zip:vg fa fb ρ=(fa ρ).bind fun a=>(fb ρ).bind fun b=>(gC a).bind fun ds=>(gC b).bind fun es=>.ok (mZ ds es):=id rfl
@[simp] theorem e_comp (fi:ae->M (List Dat)) (ix:List (Option Nat)) (p:Pat):gE fi ix p ft fa ρ=(fi ρ).bind fun ds=>if ds.length<=sizeLine then (bH p ft fa (gU ix ρ) ds).bind fun r=>.ok (.lst r) else .error .stuck:=id rfl
@[simp] theorem e_asB (b:Bool):asB (.bl b)=.ok b:=id rfl
@[simp] theorem e_asI (b:Int):asI (.int b)=.ok b:=id rfl
@[simp] theorem e_itemsL (ds:List Dat):gd (.lst ds)=.ok ds:=id rfl
@[simp] theorem e_itL (ds:List Dat):gC (.lst ds)=.ok ds:=id rfl
@[simp] theorem e_truB (b:Bool):truD (.bl b)=.ok b:=id rfl
@[simp] theorem e_addI (i j:Int):iV (.int i) (.int j)=.ok (.int (i+j)):=id rfl
@[simp] theorem e_subI (i j:Int):rT (.int i) (.int j)=.ok (.int (i-j)):=id rfl
@[simp] theorem e_negI (i:Int):negD (.int i)=.ok (.int (-i)):=id rfl
@[simp] theorem e_ltI (i j:Int):ltD (.int i) (.int j)=.ok (.bl (decide (i<j))):=id rfl
@[simp] theorem e_ixL (ds:List Dat) (i:Int):ixD (.lst ds) (.int i)=pK ds i:=id rfl
@[simp] theorem e_lenL (ds:List Dat):tj [.lst ds]=.ok (.int ds.length):=id rfl
@[simp] theorem e_lenT (ds:List Dat):tj [.tup ds]=.ok (.int ds.length):=id rfl
@[simp] theorem e_max2 (i j:Int):maxD [.int i,.int j]=.ok (.int (iI i j)):=id rfl
@[simp] theorem e_min2 (i j:Int):minD [.int i,.int j]=.ok (.int (mq i j)):=id rfl
@[simp] theorem e_maxL (ds:List Dat):maxD [.lst ds]=(bh ds).bind maxL:=id rfl
@[simp] theorem e_next:iA ρ=.ok (.nx ρ):=id rfl
@[simp] theorem e_seq:fy g h ρ=(g ρ).bind fun fl=>match fl with
 |.nx ρ'=>h ρ'
 |fl=>.ok fl:=id rfl
@[simp] theorem e_if:sIf ft g h ρ=(ft ρ).bind fun b=>if b=true then g ρ else h ρ:=id rfl
@[simp] theorem e_setB (O:List Nat) (i:Nat):bL O i fa ρ=(fa (erase O ρ)).bind fun d=>.ok (.nx (ρ.set i (some d))):=id rfl
@[simp] theorem e_ret:ji fa ρ=(fa ρ).bind fun d=>.ok (.rt d):=id rfl
@[simp] theorem e_for (O:List Nat) (fi:ae->M (List Dat)) (p:Pat):m4 O fi p g ρ=(fi (erase O ρ)).bind fun ds=>dQ p g ds ρ:=id rfl
@[simp] theorem e_appB (O:List Nat) (i:Nat):m5 O i fa ρ=(iJ ρ i).bind fun ds=>(fa (erase O ρ)).bind fun d=>if ds.length<sizeLine then put ρ i (ds++[d]) else .error .stuck:=id rfl
@[simp] theorem e_put (i:Nat) (ds:List Dat):put ρ i ds=.ok (.nx (ρ.set i (some (.lst ds)))):=id rfl
@[simp] theorem e_lst0 (ds:List Dat) (r:ae):iJ (some (.lst ds)::r) 0=.ok ds:=id rfl
@[simp] theorem e_lstS (i:Nat) (o:Option Dat) (r:ae):iJ (o::r) (i+1)=iJ r i:=by simp [iJ]
@[simp] theorem e_er0:erase [] ρ=ρ:=id rfl
@[simp] theorem e_erS (i:Nat) (O:List Nat):erase (i::O) ρ=erase O (ρ.set i none):=id rfl
@[simp] theorem ko (i:Nat) (d:Dat):gX (.nm i) d ρ=.ok (ρ.set i (some d)):=id rfl
@[simp] theorem e_btp (is:List Nat) (ds:List Dat):gX (.tp is) (.tup ds) ρ=if ds.length=is.length then .ok (gc is ds ρ) else .error .stuck:=id rfl
@[simp] theorem e_sa0 (ds:List Dat):gc [] ds ρ=ρ:=by cases ds<;>rfl
@[simp] theorem e_saS (i:Nat) (is:List Nat) (d:Dat) (ds:List Dat):gc (i::is) (d::ds) ρ=gc is ds (ρ.set i (some d)):=id rfl
@[simp] theorem e_in0:gU [] ρ=[]:=id rfl
@[simp] theorem e_inN (ix:List (Option Nat)):gU (none::ix) ρ=none::gU ix ρ:=id rfl
@[simp] theorem e_inS (j:Nat) (ix:List (Option Nat)):gU (some j::ix) ρ=(ρ[j]?).join::gU ix ρ:=id rfl
@[simp] theorem e_tup (ds:List Dat):fO ds=if ds.length<=sizeLine then .ok (.tup ds) else .error .stuck:=id rfl
@[simp] theorem e_lst (ds:List Dat):bw ds=if ds.length<=sizeLine then .ok (.lst ds) else .error .stuck:=id rfl
@[simp] theorem e_line:sizeLine=16777216:=sizeLine_eq
@[simp] theorem e_run (a b:Nat) (ds:List Dat):fA a b g ds=if ds.length=b then (g (ds.map some++List.replicate (a-ds.length) none)).bind fun fl=>match fl with
 |.nx _=>.ok .non
 |.rt d=>.ok d
 |_=>stk else stk:=id rfl
@[simp] theorem e_rng1 {j:Int} (h:aK j=true):jy [.int j]=.ok (bz 0 j.toNat):=by show (if aK j=true then _ else _)=_;rw [if_pos h]
@[simp] theorem e_rng2 {i j:Int} (h:aK i=true) (h2:aK j=true):oP [.int i,.int j]=.ok (bz i (j-i).toNat):=by show (if (aK i&&aK j)=true then _ else _)=_;rw [h,h2,Bool.and_true,if_pos rfl]
@[simp] theorem e_mod {i j:Int} (h:0<j):nL (.int i) (.int j)=.ok (.int (i%j)):=by simp [nL,h]
@[simp] theorem e_fdiv {i j:Int} (h:0<j) (h2:j<18446744073709551616):pN (.int i) (.int j)=.ok (.int (i/j)):=by simp [pN,h,h2]
@[simp] theorem e_mulR {i j:Int} (h:dG j=true):mulD (.int i) (.int j)=.ok (.int (i*j)):=by show (if (dG i||dG j)=true then _ else _)=_;rw [h,Bool.or_true,if_pos rfl]
end
end L2
namespace L2
open PySem PySem.Spec PyProof.Rows
section
variable {X:Cx} {K:PySem.W.Frag} {W:cy} {own ro:Bool} {e a b c:Expr} {es rest:List Expr} {x:Str} {pos p:Pos} {f fa fb fc:ae->M Dat} {fr:ae->M (List Dat)} {ft fu:ae->M Bool}
theorem PE.imp {t t':TE} (h:PE X e t) (q:∀σ H Q,t' σ H Q->t σ H Q):PE X e t':=fun pins s σ H Q I z=>h pins s σ H Q I (q σ H Q z)
theorem PT.imp {t t':TT} (h:PT X e t) (q:∀σ H Q,t' σ H Q->t σ H Q):PT X e t':=fun pins s σ H Q I z=>h pins s σ H Q I (q σ H Q z)
theorem PW.imp {t t':TT} (h:PW X e t) (q:∀σ H Q,t' σ H Q->t σ H Q):PW X e t':=fun wh pins s σ H Q I z=>h wh pins s σ H Q I (q σ H Q z)
theorem PA.imp {t t':TA} (h:PA X es t) (q:∀σ H Q,t' σ H Q->t σ H Q):PA X es t':=fun ps pins s σ H Q I z=>h ps pins s σ H Q I (q σ H Q z)
theorem PI.imp {tg:Expr} {t t':TI} (h:PI X tg e t) (q:∀σ H Q,t' σ H Q->t σ H Q):PI X tg e t':=fun pins s σ H Q I z=>h pins s σ H Q I (q σ H Q z)
theorem PS.imp {st:Stmt} {t t':TS} (h:PS X st t) (q:∀D σ H,t' D σ H->t D σ H):PS X st t':=fun pins s σ H D I z=>h pins s σ H D I (q D σ H z)
theorem PSs.imp {st:List Stmt} {t t':TS} (h:PSs X st t) (q:∀D σ H,t' D σ H->t D σ H):PSs X st t':=fun pins s σ H D I z=>h pins s σ H D I (q D σ H z)
noncomputable abbrev DE (K:PySem.W.Frag) (W:cy) (own:Bool) (X:Cx) (e:Expr) (f:ae->M Dat):Prop:=PE X e (tD K W own f)
noncomputable abbrev DT (K:PySem.W.Frag) (W:cy) (X:Cx) (e:Expr) (f:ae->M Bool):Prop:=PT X e (tDT K W f)
noncomputable abbrev DW (K:PySem.W.Frag) (W:cy) (X:Cx) (e:Expr) (f:ae->M Bool):Prop:=PW X e (tDT K W f)
noncomputable abbrev DA (K:PySem.W.Frag) (W:cy) (X:Cx) (es:List Expr) (f:ae->M (List Dat)):Prop:=PA X es (tDA K W f)
noncomputable abbrev DI (K:PySem.W.Frag) (W:cy) (X:Cx) (tg e:Expr) (f:ae->M (List Dat)):Prop:=PI X tg e (iD K W f)
noncomputable abbrev DG (K:PySem.W.Frag) (X:Cx) (tg:Expr) (p:Pat):Prop:=PG X tg (gP K p)
noncomputable abbrev DS (K:PySem.W.Frag) (W:cy) (ro:Bool) (X:Cx) (OL O O':List Nat) (st:Stmt) (g:ae->M Flo):Prop:=∀F0 H0:Hp,PS X st (tS K W ro F0 H0 OL O O' g)
noncomputable abbrev DSs (K:PySem.W.Frag) (W:cy) (ro:Bool) (X:Cx) (OL O O':List Nat) (st:List Stmt) (g:ae->M Flo):Prop:=∀F0 H0:Hp,PSs X st (tS K W ro F0 H0 OL O O' g)
noncomputable abbrev Op2 (K:PySem.W.Frag) (W:cy) (own:Bool) (X:Cx) (o:Value->Value->Sem Value) (g:Dat->Dat->M Dat):Prop:=OpR X o (rD2 K W own g)
noncomputable abbrev kU (K:PySem.W.Frag) (W:cy) (own:Bool) (X:Cx) (v:Value) (g:List Dat->M Dat):Prop:=bB X v (rDL K W own g)
theorem aE (i:Nat) (hN:X.N[i]? =some x:=by rfl) (hv:Vis X.env.scope x:=by first|exact Or.inl rfl|exact Or.inr (Or.inl rfl)|exact Or.inr (Or.inr rfl)) (hd:(x==("__debug__":Str))=false:=by decide)
  (hcd:(x==("__classdict__":Str))=false:=by decide):DE K W false X (.Name x pos) (ao i):=(pv i hN hv hd hcd).imp fun _ _ _=>rd_var
theorem ax {i:Int} {j}:DE K W false X (.Constant (.int i) j pos) (fC (.int i)):=pe_int.imp fun _ _ _=>rd_c fun _=>rfl
theorem mO {k:Bool} {j}:DE K W false X (.Constant (.bool k) j pos) (fC (.bl k)):=pe_bl.imp fun _ _ _=>rd_c fun _=>rfl
theorem de_gint {n:Int} (hm:∃t,X.mg x=some (.int n t)) (hg:Gl X x:=by rfl) (hd:(x==("__debug__":Str))=false:=by decide):DE K W false X (.Name x pos) (fC (.int n)):=(pe_gint hg hm hd).imp fun _ _ _=>rd_c fun _=>rfl
theorem az (h:DE K W true X e f):DE K W false X e f:=PE.imp h fun _ _ _ ⟨F,ρ,r,s,p⟩=>⟨F,ρ,r,s,p.frz⟩
theorem bY {op:Operator} {g:Dat->Dat->M Dat} (ho:Op2 K W own X (binaryOp op) g) (ha:DE K W false X a fa) (hb:DE K W false X b fb):DE K W own X (.BinOp a op b pos) (f2 g fa fb):=(pe_op ho ha hb).imp fun _ _ _=>rd_2
theorem de_un {op:UnaryOp} {g:Dat->M Dat} (ho:UnR X (unaryOp op) (rD1 K W own g)) (ha:DE K W false X a fa):DE K W own X (.UnaryOp op a pos) (f1 g fa):=(pe_un ho ha).imp fun _ _ _=>rd_1
theorem de_cmp {op:CmpOp} {g:Dat->Dat->M Dat} (ho:Op2 K W false X (compareOp op) g) (ha:DE K W false X a fa) (hb:DE K W false X b fb) (hm:behindInMarks op b=false:=by first|exact nomark _|with_unfolding_all rfl):DE K W false X (.Compare a [op] [b] pos) (f2 g fa fb):=
 (pe_cmpR ho ha hb hm).imp fun _ _ _=>rd_2
theorem dF {op:CmpOp} {g:Dat->Dat->M Dat} (ho:Op2 K W false X (compareOp op) g) (ha:DE K W false X a fa) (hb:DE K W false X b fb) (hm:behindInMarks op b=false:=by first|exact nomark _|with_unfolding_all rfl):DT K W X (.Compare a [op] [b] pos) (fB (f2 g fa fb)):=
 (pt_cmpR ho ha hb hm).imp fun σ H Q h=>by
  have q:=rd_B h
  exact rd_2 (own:=false) q
theorem dt_chain {op op':CmpOp} {g g':Dat->Dat->M Dat} (ho:Op2 K W false X (compareOp op) g) (ho':Op2 K W false X (compareOp op') g') (ha:DE K W false X a fa) (hb:DE K W false X b fb) (hc:DE K W false X c fc)
  (hm:lastMarks [op,op'] [b,c]=false:=by with_unfolding_all rfl):DT K W X (.Compare a [op,op'] [b,c] pos) (fB (hW g g' fa fb fc)):=(pt_chain ho ho' ha hb hc hm).imp fun σ H Q h=>by
  have q:=rd_B h
  exact rd_chain q
theorem lF (ha:DE K W false X a fa) (hK:X.K=K:=by rfl) (he:∀whole,isTrue a X.env whole=(do let v <- whole;standAt a.pos;holding [v] (truthy v)):=by intro _;rfl):DT K W X a (jD fa):=by
 subst hK
 exact (pt_truth ha he).imp fun _ _ _=>rd_tru
theorem o9 (ha:DT K W X a ft):DT K W X (.UnaryOp .Not a pos) (mC ft):=(pt_not ha).imp fun _ _ _=>rd_not
theorem vq (ha:DT K W X a ft):DW K W X (.BoolOp .And [a] pos) ft:=pw_and1 ha
theorem o8 (ha:DT K W X a ft):DW K W X (.BoolOp .Or [a] pos) ft:=pw_or1 ha
theorem dw_and (ha:DT K W X a ft) (hb:DW K W X (.BoolOp .And (b::rest) pos) fu):DW K W X (.BoolOp .And (a::b::rest) pos) (fAnd ft fu):=(pw_and ha hb).imp fun _ _ _=>rd_and
theorem sS (ha:DT K W X a ft) (hb:DW K W X (.BoolOp .Or (b::rest) pos) fu):DW K W X (.BoolOp .Or (a::b::rest) pos) (fOr ft fu):=(pw_or ha hb).imp fun _ _ _=>rd_or
theorem aj:DA K W X [] aX:=cj.imp fun _ _ _=>rd_nil
theorem a9 (ha:DE K W false X e fa) (hr:DA K W X es fr) (hs:starEach (e::es) X.env=(false,eval e X.env)::starEach es X.env:=by rfl):DA K W X (e::es) (aa fa fr):=(aF ha hr hs).imp fun _ _ _=>rd_cons
theorem oi {x1} (h:DA K W X es fr):DE K W own X (.Tuple es x1 pos) (fL fO fr):=(uq h).imp fun _ _ _=>rd_tup
theorem cF (h:DA K W X es fr):DE K W true X (.List es pos) (fL bw fr):=(pe_lst h).imp fun _ _ _=>rd_lst
theorem bN {id:String} {g:List Dat->M Dat} (hc:kU K W own X (.builtin id) g) (hm:X.mg x=none) (hv:bootBuiltins x=some (.builtin id)) (ha:DA K W X (e::es) fr) (hg:Gl X x:=by rfl) (hn:x≠"__name__":=by decide) (hdb:(x==("__debug__":Str))=false:=by decide)
  (hst:starEach (e::es) X.env=(false,eval e X.env)::starEach es X.env:=by rfl) (hpl:(backTo pos (starEach es X.env)).any (·.1)=false:=by rfl):DE K W own X (.Call (.Name x p) (e::es) [] pos) (fL g fr):=
 (dh hc hg hm hv ha hn hdb hst hpl).imp fun _ _ _=>rd_L
theorem oj {T:String} {g:List Dat->M Dat} (hc:kU K W own X (.type T) g) (hm:X.mg x=none) (hv:bootBuiltins x=some (.type T)) (ha:DA K W X (e::es) fr) (hg:Gl X x:=by rfl) (hn:x≠"__name__":=by decide) (hdb:(x==("__debug__":Str))=false:=by decide)
  (hst:starEach (e::es) X.env=(false,eval e X.env)::starEach es X.env:=by rfl) (hpl:(backTo pos (starEach es X.env)).any (·.1)=false:=by rfl):DE K W own X (.Call (.Name x p) (e::es) [] pos) (fL g fr):=
 (iE hc hg hm hv ha hn hdb hst hpl).imp fun _ _ _=>rd_L
theorem kB {g:Dat->Dat->M Dat} (hr:IxR X (rD2 K W own g)) (ha:DE K W false X a fa) (hb:DE K W false X b fb) (hs:vT b:=by exact fun _ _=>rfl):DE K W own X (.Subscript a b pos) (f2 g fa fb):=(pe_ix hr ha hb hs).imp fun _ _ _=>rd_2
theorem mJ {i:Nat} (hN:X.N.Nodup) (hi:X.N[i]? =some x:=by rfl) (hx:Loc X.env.scope x:=by first|exact Or.inl rfl|exact Or.inr rfl) (hf:X.fn x=true\/X.env.scope.names.lookup x=some .local:=by first|exact .inl rfl|exact .inr rfl|assumption):DG K X (.Name x pos) (.nm i):=jW hN hi hx hf
theorem hZ {tg:Expr} (hl:DE K W false X e fa) (hK:X.K=K:=by rfl):DI K W X tg e (fIt fa):=by
 subst hK
 refine PI.imp (t:=iSeq X.K (tD X.K W false fa)) ?_ fun _ _ _=>ri_seq
 intro pins s σ H R I h
 refine thn (hl pins s σ H _ I h) fun v s1 ⟨y,H1,I1,r1,q1⟩=>?_
 obtain ⟨l,e1,q⟩:=q1
 subst e1
 cases r1
 rcases q with ⟨⟨xs,hq⟩,q⟩|⟨⟨xs,hq⟩,q⟩
 ·obtain ⟨its,rv,p,hz⟩:=I1.list hq
  refine wpAny_pyIter_list p.isList ?_
  refine ⟨s1.heap.objs.size,[s1.heap.objs.size],_,_,H1,rfl,I1.kept (t':=s1.toks) fun b o e=>Heap.get?_push_of_some _ e,n6 l _,⟨_,Heap.get?_push_size _ rfl,rfl,rfl⟩,fun b hb=>?_,q⟩
  have e:b=s1.heap.objs.size:=by simpa using hb
  subst e
  exact I1.fpOk (Nat.le_refl _) (I1.hok.fresh (Nat.le_refl _))
 ·obtain ⟨its,rv,p,hz⟩:=I1.tuple hq
  refine wpAny_pyIter_tuple (show s1.heap.IsTuple l its.toArray from p) ?_
  refine ⟨s1.heap.objs.size,[s1.heap.objs.size],_,_,H1,rfl,I1.kept (t':=s1.toks) fun b o e=>Heap.get?_push_of_some _ e,kW l _,⟨_,Heap.get?_push_size _ rfl,rfl,rfl⟩,fun b hb=>?_,q⟩
  have e:b=s1.heap.objs.size:=by simpa using hb
  subst e
  exact I1.fpOk (Nat.le_refl _) (I1.hok.fresh (Nat.le_refl _))
theorem mH {tg:Expr} (hm:X.mg "range"=none) (ha:DA K W X [a] fr) (hg:Gl X "range":=by rfl) (hs:starEach [a] X.env=[(false,eval a X.env)]:=by rfl):DI K W X tg (.Call (.Name "range" p) [a] [] pos) (gm jy fr):=(um hg hm ha hs).imp fun _ _ _=>ri_rng1
theorem vw {tg:Expr} (hm:X.mg "range"=none) (ha:DA K W X [a,b] fr) (hg:Gl X "range":=by rfl) (hs:starEach [a,b] X.env=[(false,eval a X.env),(false,eval b X.env)]:=by rfl) (hs2:starEach [b] X.env=[(false,eval b X.env)]:=by rfl) :
  DI K W X tg (.Call (.Name "range" p) [a,b] [] pos) (gm oP fr):=(uk hg hm ha hs hs2).imp fun _ _ _=>ri_rng2
variable {OL O O' O2:List Nat} {st:Stmt} {sts:List Stmt} {g h:ae->M Flo}
theorem gF:DSs K W ro X OL O O [] iA:=fun _ _=>px.imp fun _ _ _=>rs_next
theorem ay (h1:DS K W ro X OL O O' st g) (h2:DSs K W ro X OL O' O2 sts h):DSs K W ro X OL O O2 (st::sts) (fy g h):=fun F0 H0=>(eV (h1 F0 H0) (h2 F0 H0)).imp fun _ _ _=>rs_seq
theorem aY (h1:DS K W ro X OL O O' st g):DSs K W ro X OL O O' [st] g:=fun F0 H0=>j8 (h1 F0 H0)
theorem jF (h1:DSs K W ro X OL O2 O' sts g) (hs:∀i∈O2,i∈O:=by decide):DSs K W ro X OL O O' sts g:=fun F0 H0=>PSs.imp (h1 F0 H0) fun _ _ _=>tS.enter hs
theorem kr {sa sb:List Stmt} (hc:DT K W X c ft) (ha:DSs K W ro X OL O O' sa g) (hb:DSs K W ro X OL O O' sb h):DS K W ro X OL O O' (.If c sa sb pos) (sIf ft g h):=fun F0 H0=>(ps_if hc (ha F0 H0) (hb F0 H0)).imp fun _ _ _=>rs_if
theorem bc {i:Nat} {pos':Pos} (hN:X.N.Nodup) (he:DE K W own X e f) (hi:X.N[i]? =some x:=by rfl) (hx:Loc X.env.scope x:=by first|exact Or.inl rfl|exact Or.inr rfl) (hs:swapsWith e (some (.Name x pos')) pos.line X.env=pure false:=by rfl) (hf:X.fn x=true\/X.env.scope.names.lookup x=some .local:=by first|exact .inl rfl|exact .inr rfl|assumption) :
  DS K W ro X OL O (aft own i O) (.Assign [.Name x pos'] e pos) (bL O i f):=fun F0 H0=>(qy hN hi hx he hs hf).imp fun _ _ _=>ua
theorem d7 (he:DE K W ro X e f):DS K W ro X OL O O' (.Return (some e) pos) (ji f):=fun F0 H0=>(ug he).imp fun _ _ _=>rs_ret
theorem gG {tg iter:Expr} {body:List Stmt} {fs:ae->M (List Dat)} {pt:Pat} (hi:DI K W X tg iter fs) (hg:DG K X tg pt) (hb:DSs K W ro X O O O body g) (n:∀i∈pt.names,i∉O:=by decide) (hp:PassesOwn (model X.prog X.w) X.A X.env X.xe:=by exact PassesOwn.never) (hc:X.calm=true:=by rfl)
  (hs:∀x,foldedSetIterable iter X.env x=pure x:=by intro _;rfl):DS K W ro X OL O O (.For tg iter body [] pos) (m4 O fs pt g):=fun F0 H0=>(uh hp hc hi hg (hb F0 H0) hs).imp fun _ _ _=>rs_for n
theorem vt {i:Nat} {apos:Pos} {q:Pos} (he:DE K W false X e f) (ho:i∈O:=by decide) (hN:X.N[i]? =some x:=by rfl) (hv:Vis X.env.scope x:=by first|exact Or.inl rfl|exact Or.inr (Or.inl rfl)|exact Or.inr (Or.inr rfl)) (hd:(x==("__debug__":Str))=false:=by decide) (hcd:(x==("__classdict__":Str))=false:=by decide) (hK:X.K=K:=by rfl)
  (hst:starEach [e] X.env=[(false,eval e X.env)]:=by rfl) (hbase:attributeBase (.Name x p) "append" X.env (eval (.Name x p) X.env)=eval (.Name x p) X.env:=by rfl) (hfew:((backTo q (starEach [e] X.env)).all (fun x=> !x.1)&&(backToKw q (keywordEach [] X.env)).all (fun x=>x.1.isSome)&&decide ([e].length+([]:List Keyword).length+(if ([]:List Keyword).isEmpty then 0 else 1)<30))=true:=by rfl) (hplain:(backTo q (starEach [] X.env)).any (·.1)=false:=by rfl) (hline:(apos.endLine==q.line)=true:=by rfl) (hsw:swapsWith (.Call (.Attribute (.Name x p) "append" apos) [e] [] q) none pos.line X.env=pure false:=by rfl) :
  DS K W ro X OL O O (.Expr (.Call (.Attribute (.Name x p) "append" apos) [e] [] q) pos) (m5 O i f):=fun F0 H0=>by
 subst hK
 exact PS.imp (jS (pe_bm PySem.F.plainAttrs_list PySem.F.slot_list_append PySem.F.type_list_append ka (pv i hN hv hd hcd) (aF he cj hst) hbase hfew hline hst hplain) hsw) fun _ _ _=>rs_appB ho
end
end L2
namespace L2
open PySem PySem.Spec PyProof.Rows
section
variable {X:Cx} {K:PySem.W.Frag} {W:cy} {own:Bool}
theorem OpR.imp {f:Value->Value->Sem Value} {r r':R2} (h:OpR X f r) (q:∀x y H Q,r' x y H Q->r x y H Q):OpR X f r':=fun pins s σ H x y v u Q I rx ry z=>h pins s σ H x y v u Q I rx ry (q x y H Q z)
theorem UnR.imp {f:Value->Sem Value} {r r':V->Hp->VK->Prop} (h:UnR X f r) (q:∀x H Q,r' x H Q->r x H Q):UnR X f r':=fun pins s σ H x v Q I rx z=>h pins s σ H x v Q I rx (q x H Q z)
theorem bB.imp {f:Value} {r r':List V->Hp->VK->Prop} (h:bB X f r) (q:∀x H Q,r' x H Q->r x H Q):bB X f r':=fun pins s σ H x v Q I rx z=>h pins s σ H x v Q I rx (q x H Q z)
theorem IxR.imp {r r':R2} (h:IxR X r) (q:∀x y H Q,r' x y H Q->r x y H Q):IxR X r':=fun va sl pins s σ H x y v u Q I rx ry z e=>h va sl pins s σ H x y v u Q I rx ry (q x y H Q z) e
theorem aw.stuck {F H:Hp} {Q:VK} {P:Prop} (p:aw K W own F H (stk) Q):P:=(W.ns p).elim
theorem aw.int {F H:Hp} {Q:VK} {i:Int} (p:aw K W own F H (.ok (.int i)) Q) (s:aC F H):Q (.int i) H:=p _ F H (Step.refl s) (by cases own<;>rfl)
theorem aw.bl {F H:Hp} {Q:VK} {b:Bool} (p:aw K W own F H (.ok (.bl b)) Q) (s:aC F H):Q (.bl b) H:=p _ F H (Step.refl s) (by cases own<;>rfl)
theorem aw.str {F H:Hp} {Q:VK} {x:Str} (p:aw K W own F H (.ok (.str x)) Q) (s:aC F H):Q (.str x) H:=p _ F H (Step.refl s) (by cases own<;>rfl)
theorem aw.tup {F H:Hp} {Q:VK} {ds:List Dat} {xs:List V} {a:Addr} (p:aw K W own F H (.ok (.tup ds)) Q) (s:aC F H) (q:ak K F ds xs) (ha:H a=none):Q (.ref a) (upd H a (.tup xs)):=
 p _ _ _ (Step.lay s ha) (by
  have:aZ K (upd F a (.tup xs)) (.tup ds) (.ref a):=⟨a,xs,rfl,SqT.of ar,q.mono (aC.upd (s.free ha))⟩
  cases own<;>exact this)
theorem aw.same {F H:Hp} {Q:VK} {ds:List Dat} {v:V} (p:aw K W own F H (.ok (.tup ds)) Q) (s:aC F H) (q:aZ K F (.tup ds) v):Q v H:=p _ F H (Step.refl s) (by cases own<;>exact q)
theorem aw.lst {F H:Hp} {Q:VK} {ds:List Dat} {xs:List V} {a:Addr} (p:aw K W true F H (.ok (.lst ds)) Q) (s:aC F H) (q:ak K F ds xs) (ha:H a=none):Q (.ref a) (upd H a (.lst xs)):=
 p _ F _ (Step.grow s ha) ⟨a,xs,rfl,ar,s.free ha,ha,q⟩
theorem eS {g:Dat->Dat->M Dat} (hg:∀a b,(∃i j,a=.int i/\b=.int j)\/g a b=stk) {x y:V} {H:Hp} {Q:VK} (h:rD2 K W own g x y H Q):∃F i j,aC F H/\x=.int i/\y=.int j/\aw K W own F H (g (.int i) (.int j)) Q:=by
 obtain ⟨F,a,b,s,qa,qb,p⟩:=h
 rcases hg a b with ⟨i,j,rfl,rfl⟩|e
 ·exact ⟨F,i,j,s,qa,qb,p⟩
 ·rw [e] at p;exact p.stuck
theorem sk:Op2 K W own X (binaryOp .Sub) rT:=op_sub.imp fun x y H Q h=>by
 obtain ⟨F,i,j,s,e1,e2,p⟩:=eS (fun a b=>by cases a<;>cases b<;>first|exact .inr rfl|exact .inl ⟨_,_,rfl,rfl⟩) h
 exact ⟨i,j,e1,e2,p.int s⟩
theorem o_mul:Op2 K W own X (binaryOp .Mult) mulD:=op_mul.imp fun x y H Q h=>by
 obtain ⟨F,i,j,s,e1,e2,p⟩:=eS (fun a b=>by cases a<;>cases b<;>first|exact .inr rfl|exact .inl ⟨_,_,rfl,rfl⟩) h
 have p':aw K W own F H (if (dG i||dG j)=true then .ok (.int (i*j)) else stk) Q:=p
 by_cases hc:(dG i||dG j)=true
 ·rw [if_pos hc] at p'
  refine ⟨i,j,e1,e2,?_,p'.int s⟩
  unfold dG at hc
  simp only [Bool.or_eq_true,Bool.and_eq_true,decide_eq_true_eq] at hc
  exact hc
 ·rw [if_neg hc] at p';exact p'.stuck
theorem uO {j:Int} (h0:0<j) (h1:j<18446744073709551616):j.natAbs.log2<9000:=by
 have a:j.natAbs<2^64:=by omega
 have b:=(Nat.log2_lt (n:=j.natAbs) (k:=64) (by omega)).mpr a
 omega
theorem uA:OpR X (binaryOp .FloorDiv) (rI (fun _ j=>0<j/\j<18446744073709551616) fun i j=>.int (i/j)):=opI fun i j _ _ _ _ _ hc q=>by
 obtain ⟨c1,c2⟩:=hc
 exact floordiv_int (by omega) (by rw [Int.fdiv_eq_ediv_of_nonneg i (by omega)];exact q) (.inl (PyProof.noPylong_of_log2 (uO c1 c2)))
theorem uE:Op2 K W own X (binaryOp .FloorDiv) pN:=uA.imp fun x y H Q h=>by
 obtain ⟨F,i,j,s,e1,e2,p⟩:=eS (fun a b=>by cases a<;>cases b<;>first|exact .inr rfl|exact .inl ⟨_,_,rfl,rfl⟩) h
 have p':aw K W own F H (if (decide (0<j)&&decide (j<18446744073709551616))=true then .ok (.int (i/j)) else stk) Q:=p
 by_cases hc:(decide (0<j)&&decide (j<18446744073709551616))=true
 ·rw [if_pos hc] at p'
  simp only [Bool.and_eq_true,decide_eq_true_eq] at hc
  exact ⟨i,j,e1,e2,hc,p'.int s⟩
 ·rw [if_neg hc] at p';exact p'.stuck
theorem nK:Op2 K W own X (binaryOp .Mod) nL:=op_mod.imp fun x y H Q h=>by
 obtain ⟨F,i,j,s,e1,e2,p⟩:=eS (fun a b=>by cases a<;>cases b<;>first|exact .inr rfl|exact .inl ⟨_,_,rfl,rfl⟩) h
 have p':aw K W own F H (if 0<j then .ok (.int (i%j)) else stk) Q:=p
 by_cases hc:0<j
 ·rw [if_pos hc] at p'
  exact ⟨i,j,e1,e2,hc,p'.int s⟩
 ·rw [if_neg hc] at p';exact p'.stuck
theorem o_neg:UnR X (unaryOp .USub) (rD1 K W own negD):=un_neg.imp fun x H Q h=>by
 obtain ⟨F,a,s,qa,p⟩:=h
 cases a with
 |int i=>exact ⟨i,qa,aw.int (own:=own) p s⟩
 |_=>exact aw.stuck p
theorem o_lt:Op2 K W own X (compareOp .Lt) ltD:=op_lt.imp fun x y H Q h=>by
 obtain ⟨F,i,j,s,e1,e2,p⟩:=eS (fun a b=>by cases a<;>cases b<;>first|exact .inr rfl|exact .inl ⟨_,_,rfl,rfl⟩) h
 exact ⟨i,j,e1,e2,p.bl s⟩
theorem o_le:Op2 K W own X (compareOp .LtE) leD:=op_le.imp fun x y H Q h=>by
 obtain ⟨F,i,j,s,e1,e2,p⟩:=eS (fun a b=>by cases a<;>cases b<;>first|exact .inr rfl|exact .inl ⟨_,_,rfl,rfl⟩) h
 exact ⟨i,j,e1,e2,p.bl s⟩
theorem o_gt:Op2 K W own X (compareOp .Gt) gtD:=op_gt.imp fun x y H Q h=>by
 obtain ⟨F,i,j,s,e1,e2,p⟩:=eS (fun a b=>by cases a<;>cases b<;>first|exact .inr rfl|exact .inl ⟨_,_,rfl,rfl⟩) h
 exact ⟨i,j,e1,e2,p.bl s⟩
theorem o_ge:Op2 K W own X (compareOp .GtE) geD:=op_ge.imp fun x y H Q h=>by
 obtain ⟨F,i,j,s,e1,e2,p⟩:=eS (fun a b=>by cases a<;>cases b<;>first|exact .inr rfl|exact .inl ⟨_,_,rfl,rfl⟩) h
 exact ⟨i,j,e1,e2,p.bl s⟩
theorem op_catL:OpR X (binaryOp .Add) (fun x y H Q=>∃l b xs zs,x=.ref l/\y=.ref b/\SqL X.K H l xs/\SqL X.K H b zs/\xs.length+zs.length<=sizeLine/\∀p,H p=none->Q (.ref p) (upd H p (.lst (xs++zs)))):=by
 intro pins s σ H x y v u Q I rx ry h
 obtain ⟨l,b,xs,zs,rfl,rfl,hH,hB,hz,q⟩:=h
 cases rx
 cases ry
 obtain ⟨its,r,p1,hl⟩:=I.list hH
 obtain ⟨its2,r2,p2,hl2⟩:=I.list hB
 have z1:=r.length
 have z2:=r2.length
 obtain ⟨⟨cls,dd,data,sl⟩,ho,hc,n,hd⟩:=id p1.isList
 obtain ⟨⟨cls2,dd2,data2,sl2⟩,ho2,hc2,n2,hd2⟩:=id p2.isList
 simp only at hc hd hc2 hd2
 subst hc hd hc2 hd2
 refine concat_meets ⟨_,ho,rfl⟩ ⟨_,ho2,rfl⟩ noFill_list_add seq_list_add PySem.F.slot_list_add PySem.F.entry_list_add (PySem.F.args_list_add_2 _ _) (list_addW l b its.toArray its2.toArray n n2 dd dd2 sl sl2 (by simp only [List.size_toArray];omega)) ⟨ho,ho2,?_⟩
 have ea:its.toArray++its2.toArray=(its++its2).toArray:=by simp
 rw [ea]
 exact ⟨.ref _,_,I.lnew (t':=s.toks) (r.append r2) (by rw [List.length_append];omega),rfl,q _ I.fresh⟩
theorem op_cat3:OpR X (binaryOp .Add) (fun x y H Q=>∃a b xs ys,x=.ref a/\y=.ref b/\SqT X.K H a xs/\SqT X.K H b ys/\xs.length+ys.length<=sizeLine/\(xs=[]->Q (.ref b) H)/\(ys=[]->Q (.ref a) H)/\∀p,H p=none->Q (.ref p) (upd H p (.tup (xs++ys)))):=by
 intro pins s σ H x y v u Q I rx ry h
 obtain ⟨a,b,xs,ys,rfl,rfl,ha,hb,hz,q1,q2,q3⟩:=h
 by_cases hx:xs=[]
 ·subst hx
  cases rx
  cases ry
  obtain ⟨its,r1,p1,_⟩:=I.tuple ha
  obtain ⟨its2,r2,p2,_⟩:=I.tuple hb
  cases r1
  obtain ⟨⟨cls,dd,data,sl⟩,ho,hc,n,hd⟩:=id p1
  obtain ⟨⟨cls2,dd2,data2,sl2⟩,ho2,hc2,n2,hd2⟩:=id p2
  simp only at hc hd hc2 hd2
  subst hc hd hc2 hd2
  exact concat_meets ⟨_,ho,rfl⟩ ⟨_,ho2,rfl⟩ noFill_tuple_add seq_tuple_add PySem.F.slot_tuple_add PySem.F.entry_tuple_add (PySem.F.args_tuple_add_2 _ _)
   (tuple_addW0 a b #[] its2.toArray n n2 dd dd2 sl sl2 rfl) ⟨ho,ho2,⟨.ref b,H,I,rfl,q1 rfl⟩⟩
 ·exact op_catT pins s σ H _ _ v u Q I rx ry ⟨a,b,xs,ys,rfl,rfl,ha,hb,hx,hz,fun e=>q2 e,fun _ p hp=>q3 p hp⟩
theorem iG (hK:X.K=K:=by rfl):Op2 K W true X (binaryOp .Add) iV:=by
 subst hK
 refine (op_add.or (sj.or (op_catL.or op_cat3))).imp fun x y H Q h=>?_
 obtain ⟨F,a,b,s,qa,qb,p⟩:=h
 cases a with
 |int i=>
  cases b with
  |int j=>exact .inl ⟨i,j,qa,qb,p.int s⟩
  |_=>exact aw.stuck p
 |str z=>
  cases b with
  |str w=>
   have p':aw X.K W true F H (if z.length+w.length<=sizeLine then .ok (.str (z++w)) else stk) Q:=p
   by_cases hc:z.length+w.length<=sizeLine
   ·rw [if_pos hc] at p'
    exact .inr (.inl ⟨z,w,qa,qb,hc,p'.str s⟩)
   ·rw [if_neg hc] at p';exact p'.stuck
  |_=>exact aw.stuck p
 |lst ds=>
  cases b with
  |lst es=>
   obtain ⟨a,xs,e1,t1,r1⟩:=qa
   obtain ⟨b,ys,e2,t2,r2⟩:=qb
   have p':aw X.K W true F H (if ds.length+es.length<=sizeLine then .ok (.lst (ds++es)) else stk) Q:=p
   by_cases hc:ds.length+es.length<=sizeLine
   ·rw [if_pos hc] at p'
    exact .inr (.inr (.inl ⟨a,b,xs,ys,e1,e2,s.lst t1,s.lst t2,by rw [r1.length,r2.length];exact hc,fun l hl=>p'.lst s (r1.append r2) hl⟩))
   ·rw [if_neg hc] at p';exact p'.stuck
  |_=>exact aw.stuck p
 |tup ds=>
  cases b with
  |tup es=>
   obtain ⟨a,xs,e1,t1,r1⟩:=qa
   obtain ⟨b,ys,e2,t2,r2⟩:=qb
   have p':aw X.K W true F H (if ds.length+es.length<=sizeLine then .ok (.tup (ds++es)) else stk) Q:=p
   by_cases hc:ds.length+es.length<=sizeLine
   ·rw [if_pos hc] at p'
    refine .inr (.inr (.inr ⟨a,b,xs,ys,e1,e2,s.tup t1,s.tup t2,by rw [r1.length,r2.length];exact hc,fun e=>?_,fun e=>?_,fun l hl=>p'.tup s (r1.append r2) hl⟩))
    ·have z:ds=[]:=by have:=r1.length;rw [e] at this;exact List.length_eq_zero_iff.mp this.symm
     subst z
     exact p'.same s ⟨b,ys,rfl,t2,r2⟩
    ·have z:es=[]:=by have:=r2.length;rw [e] at this;exact List.length_eq_zero_iff.mp this.symm
     subst z
     rw [List.append_nil] at p'
     exact p'.same s ⟨a,xs,rfl,t1,r1⟩
   ·rw [if_neg hc] at p';exact p'.stuck
  |_=>exact aw.stuck p
 |_=>exact aw.stuck p
theorem vd {F H:Hp} {Q:VK} {ds:List Dat} {xs:List V} {i:Int} (p:aw K W false F H (pK ds i) Q) (s:aC F H) (r:ak K F ds xs):∃v,atI xs i=some v/\Q v H:=by
 unfold pK at p
 cases e:atI ds i with
 |none=>rw [e] at p;exact aw.stuck p
 |some d=>
  rw [e] at p
  unfold atI at e
  cases hj:ixN ds.length i with
  |none=>rw [hj] at e;cases e
  |some j=>
   rw [hj] at e
   obtain ⟨v,e1,q⟩:=r.get (show ds[j]? =some d from e)
   refine ⟨v,?_,p v F H (Step.refl s) q⟩
   unfold atI
   rw [r.length,hj]
   exact e1
theorem tI (hK:X.K=K:=by rfl):IxR X (rD2 K W false ixD):=by
 subst hK
 refine ix_seq.imp fun x y H Q h=>?_
 obtain ⟨F,a,b,s,qa,qb,p⟩:=h
 cases a with
 |lst ds=>
  cases b with
  |int i=>
   obtain ⟨a,xs,e1,t1,r1⟩:=qa
   obtain ⟨v,e2,q⟩:=vd p s r1
   exact .inl ⟨a,xs,i,v,e1,qb,s.lst t1,e2,q⟩
  |_=>exact aw.stuck p
 |tup ds=>
  cases b with
  |int i=>
   obtain ⟨a,xs,e1,t1,r1⟩:=qa
   obtain ⟨v,e2,q⟩:=vd p s r1
   exact .inr (.inl ⟨a,xs,i,v,e1,qb,s.tup t1,e2,q⟩)
  |_=>exact aw.stuck p
 |_=>exact aw.stuck p
theorem pS (hK:X.K=K:=by rfl):kU K W own X (.builtin "len") tj:=by
 subst hK
 refine ou.imp fun xs H Q h=>?_
 obtain ⟨F,ds,s,q,p⟩:=h
 match ds,q,p with
 |[.lst es],⟨v,vs,e,⟨a,ys,e1,t,r⟩,e2⟩,p=>
  refine ⟨a,ys,by rw [e,e1,show vs=[] from e2],.inl (s.lst t),?_⟩
  rw [r.length]
  exact aw.int (own:=own) p s
 |[.tup es],⟨v,vs,e,⟨a,ys,e1,t,r⟩,e2⟩,p=>
  refine ⟨a,ys,by rw [e,e1,show vs=[] from e2],.inr (s.tup t),?_⟩
  rw [r.length]
  exact aw.int (own:=own) p s
 |[],_,p=>exact aw.stuck p
 |[.non],_,p=>exact aw.stuck p
 |[.bl _],_,p=>exact aw.stuck p
 |[.int _],_,p=>exact aw.stuck p
 |[.str _],_,p=>exact aw.stuck p
 |[.ins _ _],_,p=>exact aw.stuck p
 |[.dic _],_,p=>exact aw.stuck p
 |[.dil _],_,p=>exact aw.stuck p
 |.non::_::_,_,p=>exact aw.stuck p
 |.bl _::_::_,_,p=>exact aw.stuck p
 |.int _::_::_,_,p=>exact aw.stuck p
 |.str _::_::_,_,p=>exact aw.stuck p
 |.ins _ _::_::_,_,p=>exact aw.stuck p
 |.dic _::_::_,_,p=>exact aw.stuck p
 |.dil _::_::_,_,p=>exact aw.stuck p
 |.lst _::_::_,_,p=>exact aw.stuck p
 |.tup _::_::_,_,p=>exact aw.stuck p
end
end L2
namespace L2
open PySem PySem.Spec PyProof.Rows
section
variable {X:Cx} {K:PySem.W.Frag} {W:cy} {own ro:Bool}
theorem mf {g:List Dat->M Dat} (hg:∀ds,(∃d,ds=[d])\/g ds=stk) {xs:List V} {H:Hp} {Q:VK} (h:rDL K W own g xs H Q):∃F d x,aC F H/\xs=[x]/\aZ K F d x/\aw K W own F H (g [d]) Q:=by
 obtain ⟨F,ds,s,q,p⟩:=h
 rcases hg ds with ⟨d,rfl⟩|e
 ·obtain ⟨v,vs,e,q1,e2⟩:=q
  exact ⟨F,d,v,s,by rw [e,show vs=[] from e2],q1,p⟩
 ·rw [e] at p;exact p.stuck
theorem tL {g:List Dat->M Dat} (hg:∀ds,(∃d,ds=[d])\/(∃d e,ds=[d,e])\/g ds=stk) {xs:List V} {H:Hp} {Q:VK} (h:rDL K W own g xs H Q):(∃F d x,aC F H/\xs=[x]/\aZ K F d x/\aw K W own F H (g [d]) Q)\/∃F d e x y,aC F H/\xs=[x,y]/\aZ K F d x/\aZ K F e y/\aw K W own F H (g [d,e]) Q:=by
 obtain ⟨F,ds,s,q,p⟩:=h
 rcases hg ds with ⟨d,rfl⟩|⟨d,e,rfl⟩|e
 ·obtain ⟨v,vs,e,q1,e2⟩:=q
  exact .inl ⟨F,d,v,s,by rw [e,show vs=[] from e2],q1,p⟩
 ·obtain ⟨v,vs,e1,q1,w,ws,e2,q2,e3⟩:=q
  exact .inr ⟨F,d,e,v,w,s,by rw [e1,e2,show ws=[] from e3],q1,q2,p⟩
 ·rw [e] at p;exact p.stuck
theorem c_abs:kU K W own X (.builtin "abs") absD:=call_abs.imp fun xs H Q h=>by
 obtain ⟨F,d,x,s,e,q,p⟩:=mf (fun ds=>by match ds with|[d]=>exact .inl ⟨d,rfl⟩|[]=>exact .inr rfl|a::b::c=>exact .inr (by cases a<;>rfl)) h
 cases d with
 |int i=>exact ⟨i,by rw [e,show x=.int i from q],aw.int (own:=own) p s⟩
 |_=>exact aw.stuck p
theorem cn {F:Hp}:∀{ds:List Dat} {xs:List V} {bs:List Int},ak K F ds xs->bh ds=.ok bs->xs=bs.map V.int
 |[],_,_,q,e=>by cases e;exact q
 |d::ds,_,bs,⟨v,vs,e1,q,r⟩,e=>by
  cases d with
  |int b=>
   cases e2:bh ds with
   |error x=>simp only [bh,asI,ai,e2,ip] at e;cases e
   |ok cs=>
    simp only [bh,asI,ai,e2] at e
    cases e
    rw [e1,show v=.int b from q,cn r e2]
    rfl
  |_=>cases e
theorem cO:∀{ds:List Dat} {e:Err},bh ds=.error e->e=.stuck
 |[],_,h=>by cases h
 |d::ds,e,h=>by
  cases d with
  |int b=>
   cases e2:bh ds with
   |error x=>simp only [bh,asI,ai,e2,ip] at h;cases h;exact cO e2
   |ok cs=>simp only [bh,asI,ai,e2] at h;cases h
  |_=>cases h;rfl
theorem c_tuple (hK:X.K=K:=by rfl):kU K W own X (.type "tuple") qc:=by
 subst hK
 refine mS.imp fun xs H Q h=>?_
 obtain ⟨F,d,x,s,e,q,p⟩:=mf (fun ds=>by match ds with|[d]=>exact .inl ⟨d,rfl⟩|[]=>exact .inr rfl|a::b::c=>exact .inr (by cases a<;>rfl)) h
 cases d with
 |lst ds=>
  obtain ⟨a,ys,e1,t,r⟩:=q
  exact ⟨a,ys,by rw [e,e1],.inl ⟨s.lst t,fun l hl=>aw.tup p s r hl⟩⟩
 |tup ds=>
  obtain ⟨a,ys,e1,t,r⟩:=q
  subst e1
  exact ⟨a,ys,e,.inr ⟨s.tup t,aw.same (own:=own) p s ⟨a,ys,rfl,t,r⟩⟩⟩
 |_=>exact aw.stuck p
theorem fold_max:∀(is:List Int) (i:Int),(is.foldl iI i=i\/is.foldl iI i∈is)/\i<=is.foldl iI i/\∀a∈is,a<=is.foldl iI i
 |[],i=>⟨.inl rfl,Int.le_refl _,fun _ h=>nomatch h⟩
 |j::is,i=>by
  obtain ⟨h1,h2,h3⟩:=fold_max is (iI i j)
  have z:(iI i j=i\/iI i j=j)/\i<=iI i j/\j<=iI i j:=by unfold iI;split<;>(refine ⟨?_,?_,?_⟩<;>first|exact .inl rfl|exact .inr rfl|omega)
  rw [List.foldl_cons]
  refine ⟨?_,Int.le_trans z.2.1 h2,fun a ha=>?_⟩
  ·rcases h1 with h1|h1
   ·rw [h1]
    rcases z.1 with z|z
    ·exact .inl z
    ·exact .inr (by rw [z];exact List.mem_cons_self)
   ·exact .inr (List.mem_cons_of_mem _ h1)
  ·rcases List.mem_cons.mp ha with e|e
   ·rw [e];exact Int.le_trans z.2.2 h2
   ·exact h3 a e
theorem fold_min:∀(is:List Int) (i:Int),(is.foldl mq i=i\/is.foldl mq i∈is)/\is.foldl mq i<=i/\∀a∈is,is.foldl mq i<=a
 |[],i=>⟨.inl rfl,Int.le_refl _,fun _ h=>nomatch h⟩
 |j::is,i=>by
  obtain ⟨h1,h2,h3⟩:=fold_min is (mq i j)
  have z:(mq i j=i\/mq i j=j)/\mq i j<=i/\mq i j<=j:=by unfold mq;split<;>(refine ⟨?_,?_,?_⟩<;>first|exact .inl rfl|exact .inr rfl|omega)
  rw [List.foldl_cons]
  refine ⟨?_,Int.le_trans h2 z.2.1,fun a ha=>?_⟩
  ·rcases h1 with h1|h1
   ·rw [h1]
    rcases z.1 with z|z
    ·exact .inl z
    ·exact .inr (by rw [z];exact List.mem_cons_self)
   ·exact .inr (List.mem_cons_of_mem _ h1)
  ·rcases List.mem_cons.mp ha with e|e
   ·rw [e];exact Int.le_trans h2 z.2.2
   ·exact h3 a e
theorem pM {is:List Int} {i m:Int} (h1:m∈i::is) (h2:∀a∈i::is,a<=m):is.foldl iI i=m:=by
 obtain ⟨g1,g2,g3⟩:=fold_max is i
 have a1:is.foldl iI i<=m:=by
  rcases g1 with g|g
  ·rw [g];exact h2 i List.mem_cons_self
  ·exact h2 _ (List.mem_cons_of_mem _ g)
 have a2:m<=is.foldl iI i:=by
  rcases List.mem_cons.mp h1 with e|e
  ·rw [e];exact g2
  ·exact g3 m e
 omega
theorem pL {is:List Int} {i m:Int} (h1:m∈i::is) (h2:∀a∈i::is,m<=a):is.foldl mq i=m:=by
 obtain ⟨g1,g2,g3⟩:=fold_min is i
 have a1:m<=is.foldl mq i:=by
  rcases g1 with g|g
  ·rw [g];exact h2 i List.mem_cons_self
  ·exact h2 _ (List.mem_cons_of_mem _ g)
 have a2:is.foldl mq i<=m:=by
  rcases List.mem_cons.mp h1 with e|e
  ·rw [e];exact g2
  ·exact g3 m e
 omega
theorem vH (hc:X.calm=true):bB X (.builtin "max") (fun xs H Q=>∃a i is,xs=[.ref a]/\SqL X.K H a ((i::is).map V.int)/\Q (.int (is.foldl iI i)) H):=by
 intro pins s σ H xs us Q I r h
 obtain ⟨a,i,is,rfl,hq,q⟩:=h
 obtain ⟨u,rfl,ru⟩:=r.one
 cases ru
 obtain ⟨its,rv,p,hz⟩:=I.list hq
 have hi:=intsAre_of rv
 obtain ⟨xs,e⟩:=hi.allInts.items
 have hns:i::is=xs.toList.map (·.1):=by rw [<- hi.numsOf,<- nums_intItems,<- e]
 have hsz:0<xs.size:=by
  have h3:=congrArg List.length hns
  simp at h3
  omega
 have hl:=p.isList
 rw [e] at hl
 refine max_intList (I.ok.hd hc) hl hsz fun v h' tk hv hk=>?_
 obtain ⟨t,rfl⟩:=intItems_at hv
 obtain ⟨h1,h2⟩:=argBest_gt (numAt xs) (xs.size-1)
 refine ⟨.int _,H,I.kept hk,⟨t,rfl⟩,?_⟩
 have:=pM (is:=is) (i:=i) (m:=numAt xs (argBest (fun i j=>decide (numAt xs i>numAt xs j)) (xs.size-1))) (by
   rw [hns,numAt_eq];exact getD_mem (by rw [List.length_map,Array.length_toList];omega)) (fun a ha=>by
   rw [hns] at ha
   obtain ⟨j,hj,rfl⟩:=mem_getD ha
   rw [List.length_map,Array.length_toList] at hj
   rw [<- numAt_eq];exact h2 j (by omega))
 rw [<- this]
 exact q
theorem vF (hc:X.calm=true):bB X (.builtin "min") (fun xs H Q=>∃a i is,xs=[.ref a]/\SqL X.K H a ((i::is).map V.int)/\Q (.int (is.foldl mq i)) H):=by
 intro pins s σ H xs us Q I r h
 obtain ⟨a,i,is,rfl,hq,q⟩:=h
 obtain ⟨u,rfl,ru⟩:=r.one
 cases ru
 obtain ⟨its,rv,p,hz⟩:=I.list hq
 have hi:=intsAre_of rv
 obtain ⟨xs,e⟩:=hi.allInts.items
 have hns:i::is=xs.toList.map (·.1):=by rw [<- hi.numsOf,<- nums_intItems,<- e]
 have hsz:0<xs.size:=by
  have h3:=congrArg List.length hns
  simp at h3
  omega
 have hl:=p.isList
 rw [e] at hl
 refine min_intList (I.ok.hd hc) hl hsz fun v h' tk hv hk=>?_
 obtain ⟨t,rfl⟩:=intItems_at hv
 obtain ⟨h1,h2⟩:=argBest_lt (numAt xs) (xs.size-1)
 refine ⟨.int _,H,I.kept hk,⟨t,rfl⟩,?_⟩
 have:=pL (is:=is) (i:=i) (m:=numAt xs (argBest (fun i j=>decide (numAt xs i<numAt xs j)) (xs.size-1))) (by
   rw [hns,numAt_eq];exact getD_mem (by rw [List.length_map,Array.length_toList];omega)) (fun a ha=>by
   rw [hns] at ha
   obtain ⟨j,hj,rfl⟩:=mem_getD ha
   rw [List.length_map,Array.length_toList] at hj
   rw [<- numAt_eq];exact h2 j (by omega))
 rw [<- this]
 exact q
theorem c_max (hc:X.calm=true) (hK:X.K=K:=by rfl):kU K W own X (.builtin "max") maxD:=by
 subst hK
 refine ((vI hc).or (vH hc)).imp fun xs H Q h=>?_
 rcases tL (fun ds=>by match ds with|[d]=>exact .inl ⟨d,rfl⟩|[d,e]=>exact .inr (.inl ⟨d,e,rfl⟩)|[]=>exact .inr (.inr rfl)|a::b::c::d=>exact .inr (.inr (by cases a<;>cases b<;>rfl))) h with ⟨F,d,x,s,e,q,p⟩|⟨F,d,d2,x,y,s,e,q,q2,p⟩
 ·cases d with
  |lst ds=>
   obtain ⟨a,ys,e1,t,r⟩:=q
   have p':aw X.K W own F H ((bh ds).bind maxL) Q:=p
   cases eb:bh ds with
   |error z=>rw [eb] at p';have:=cO eb;subst this;exact aw.stuck p'
   |ok is=>
    rw [eb] at p'
    cases is with
    |nil=>exact aw.stuck p'
    |cons i is=>
     refine .inr ⟨a,i,is,by rw [e,e1],?_,aw.int (own:=own) p' s⟩
     rw [<- cn r eb]
     exact s.lst t
  |_=>exact aw.stuck p
 ·cases d with
  |int i=>
   cases d2 with
   |int j=>exact .inl ⟨i,j,by rw [e,show x=.int i from q,show y=.int j from q2],aw.int (own:=own) p s⟩
   |_=>exact aw.stuck p
  |_=>cases d2<;>exact aw.stuck p
theorem c_min (hc:X.calm=true) (hK:X.K=K:=by rfl):kU K W own X (.builtin "min") minD:=by
 subst hK
 refine ((vG hc).or (vF hc)).imp fun xs H Q h=>?_
 rcases tL (fun ds=>by match ds with|[d]=>exact .inl ⟨d,rfl⟩|[d,e]=>exact .inr (.inl ⟨d,e,rfl⟩)|[]=>exact .inr (.inr rfl)|a::b::c::d=>exact .inr (.inr (by cases a<;>cases b<;>rfl))) h with ⟨F,d,x,s,e,q,p⟩|⟨F,d,d2,x,y,s,e,q,q2,p⟩
 ·cases d with
  |lst ds=>
   obtain ⟨a,ys,e1,t,r⟩:=q
   have p':aw X.K W own F H ((bh ds).bind minL) Q:=p
   cases eb:bh ds with
   |error z=>rw [eb] at p';have:=cO eb;subst this;exact aw.stuck p'
   |ok is=>
    rw [eb] at p'
    cases is with
    |nil=>exact aw.stuck p'
    |cons i is=>
     refine .inr ⟨a,i,is,by rw [e,e1],?_,aw.int (own:=own) p' s⟩
     rw [<- cn r eb]
     exact s.lst t
  |_=>exact aw.stuck p
 ·cases d with
  |int i=>
   cases d2 with
   |int j=>exact .inl ⟨i,j,by rw [e,show x=.int i from q,show y=.int j from q2],aw.int (own:=own) p s⟩
   |_=>exact aw.stuck p
  |_=>cases d2<;>exact aw.stuck p
end
section
variable {X:Cx} {K:PySem.W.Frag} {W:cy} {own ro:Bool}
theorem SqL.inj {pins:List (Addr×Obj)} {σ:St} {H:Hp} {s:Shared} {a:Addr} {xs ys:List V} (I:Inv X pins σ H s) (h:SqL X.K H a xs) (h':SqL X.K H a ys):xs=ys:=by
 obtain ⟨i1,r1,p1,_⟩:=I.list h
 obtain ⟨i2,r2,p2,_⟩:=I.list h'
 obtain ⟨o,n,e,_,_,d⟩:=p1
 obtain ⟨o',n',e',_,_,d'⟩:=p2
 rw [e] at e'
 cases e'
 rw [d] at d'
 injection d' with d1 _
 have:i1=i2:=by simpa using congrArg Array.toList d1
 subst this
 exact r1.inj r2
theorem SqT.inj {pins:List (Addr×Obj)} {σ:St} {H:Hp} {s:Shared} {a:Addr} {xs ys:List V} (I:Inv X pins σ H s) (h:SqT X.K H a xs) (h':SqT X.K H a ys):xs=ys:=by
 obtain ⟨i1,r1,p1,_⟩:=I.tuple h
 obtain ⟨i2,r2,p2,_⟩:=I.tuple h'
 obtain ⟨o,e,_,n,d⟩:=p1
 obtain ⟨o',e',_,n',d'⟩:=p2
 rw [e] at e'
 cases e'
 rw [d] at d'
 injection d' with d1 _
 have:i1=i2:=by simpa using congrArg Array.toList d1
 subst this
 exact r1.inj r2
theorem ak.all_eq {F:Hp} (e:Nat->Bool):∀{ds es:List Dat},ds.length=es.length->(∀(j:Nat) a b,ds[j]? =some a->es[j]? =some b->e j=eqD a b)->(List.range ds.length).all e=mY ds es:=by
 intro ds
 induction ds generalizing e with
 |nil=>intro es h _;cases es with
  |nil=>rfl
  |cons _ _=>simp at h
 |cons d ds ih=>
  intro es h q
  cases es with
  |nil=>simp at h
  |cons b es=>
   rw [List.length_cons,List.range_succ_eq_map,List.all_cons,List.all_map,mY]
   rw [q 0 d b rfl rfl]
   congr 1
   exact ih (e∘Nat.succ) (by simpa using h) fun j x y hx hy=>q (j+1) x y (by simpa using hx) (by simpa using hy)
theorem jE:∀{ds es:List Dat},ds.length≠es.length->mY ds es=false
 |[],[],h=>absurd rfl h
 |[],_::_,_=>rfl
 |_::_,[],_=>rfl
 |d::ds,e::es,h=>by
  rw [mY,jE (ds:=ds) (es:=es) (fun z=>h (by simp [z])),Bool.and_false]
theorem qW (e:Nat->Bool):∀{ds es:List Dat},(∀(j:Nat) a b,ds[j]? =some a->es[j]? =some b->e j=eqD a b)->((List.range (min ds.length es.length)).all e&&ds.length==es.length)=mY ds es:=by
 intro ds es q
 by_cases hl:ds.length=es.length
 ·have e1:min ds.length es.length=ds.length:=by omega
  rw [e1,ak.all_eq (F:=fun _=>none) e hl q,hl,beq_self_eq_true,Bool.and_true]
 ·rw [jE hl]
  have:(ds.length==es.length)=false:=by simpa using hl
  rw [this,Bool.and_false]
mutual
theorem mE:∀{d:Dat} {n:Nat},okE d n=true->eqD d d=true
 |.non,_,_=>rfl
 |.bl b,_,_=>by simp [eqD]
 |.int i,_,_=>by simp [eqD]
 |.str x,_,_=>by simp [eqD]
 |.tup ds,0,h=>by simp [okE] at h
 |.tup ds,n+1,h=>by simp only [okE] at h;simp only [eqD];exact km h
 |.lst ds,0,h=>by simp [okE] at h
 |.lst ds,n+1,h=>by simp only [okE] at h;simp only [eqD];exact km h
 |.ins _ _,_,h=>by simp [okE] at h
 |.dic _,_,h=>by simp [okE] at h
 |.dil _,_,h=>by simp [okE] at h
theorem km:∀{ds:List Dat} {n:Nat},iF ds n=true->mY ds ds=true
 |[],_,_=>rfl
 |d::ds,n,h=>by
  simp only [iF,Bool.and_eq_true] at h
  simp only [mY,mE h.1,km h.2,Bool.and_self]
end
theorem mj:∀{ds:List Dat} {n i:Nat} {d:Dat},iF ds n=true->ds[i]? =some d->okE d n=true
 |[],_,_,_,_,h=>by simp at h
 |_::_,_,0,_,h,e=>by
  simp only [iF,Bool.and_eq_true] at h
  simp at e
  rw [<- e];exact h.1
 |_::_,_,i+1,_,h,e=>by
  simp only [iF,Bool.and_eq_true] at h
  exact mj h.2 (by simpa using e)
end
noncomputable def gW (ds es:List Dat) (j:Nat):Bool:=match ds[j]?,es[j]? with
 |some a,some b=>eqD a b
 |_,_=>true
inductive Sh (s:Shared):Dat->Value->Prop
 |non:Sh s .non .none
 |bl (b:Bool):Sh s (.bl b) (.bool b)
 |int (i:Int) (t:Nat):Sh s (.int i) (.int i t)
 |str (x:Str) (t:Nat):Sh s (.str x) (.str x t)
 |tup {ds:List Dat} {l:Addr} {is:Array Value} (p:s.heap.IsTuple l is):Sh s (.tup ds) (.ref l)
 |lst {ds:List Dat} {l:Addr} {is:Array Value} (p:s.heap.IsList l is):Sh s (.lst ds) (.ref l)
noncomputable def sq:Dat->Dat->Bool
 |.tup _,.tup _=>true
 |.lst _,.lst _=>true
 |_,_=>false
theorem nu {a b:Dat} (h:sq a b=true):(∃ds es,a=.tup ds/\b=.tup es)\/∃ds es,a=.lst ds/\b=.lst es:=by
 unfold sq at h
 split at h
 ·exact .inl ⟨_,_,rfl,rfl⟩
 ·exact .inr ⟨_,_,rfl,rfl⟩
 ·cases h
theorem eqAt_U {s:Shared} {a b:Dat} {u v:Value} {A:Around} (ha:Sh s a u) (hb:Sh s b v) (hu:A.units<cLine):sq a b=true\/SeqAt.EqAt A s u v (eqD a b):=match ha,hb with
 |.non,.non=>.inr (.same _)
 |.non,.bl b=>.inr (.none_bool b)
 |.non,.int b t2=>.inr (.none_int b t2)
 |.non,.str b t2=>.inr (.none_str b t2)
 |.non,.tup q=>.inr (.none_tuple q hu)
 |.non,.lst q=>.inr (.none_list q hu)
 |.bl a,.non=>.inr (.bool_none a)
 |.bl a,.bl b=>.inr (.bool_bool a b)
 |.bl a,.int b t2=>.inr (.bool_int a b t2)
 |.bl a,.str b t2=>.inr (.bool_str a b t2)
 |.bl a,.tup q=>.inr (.bool_tuple a q hu)
 |.bl a,.lst q=>.inr (.bool_list a q hu)
 |.int a t,.non=>.inr (.int_none a t)
 |.int a t,.bl b=>.inr (.int_bool a t b)
 |.int a t,.int b t2=>.inr (.int_int a t b t2)
 |.int a t,.str b t2=>.inr (.int_str a t b t2)
 |.int a t,.tup q=>.inr (.int_tuple a t q hu)
 |.int a t,.lst q=>.inr (.int_list a t q hu)
 |.str a t,.non=>.inr (.str_none a t)
 |.str a t,.bl b=>.inr (.str_bool a t b)
 |.str a t,.int b t2=>.inr (.str_int a t b t2)
 |.str a t,.str b t2=>.inr (.str_str a t b t2)
 |.str a t,.tup q=>.inr (.str_tuple a t q hu)
 |.str a t,.lst q=>.inr (.str_list a t q hu)
 |.tup p,.non=>.inr (.tuple_none p hu)
 |.tup p,.bl b=>.inr (.tuple_bool b p hu)
 |.tup p,.int b t2=>.inr (.tuple_int b t2 p hu)
 |.tup p,.str b t2=>.inr (.tuple_str b t2 p hu)
 |.tup _,.tup _=>.inl rfl
 |.tup p,.lst q=>.inr (.tuple_list p q hu)
 |.lst p,.non=>.inr (.list_none p hu)
 |.lst p,.bl b=>.inr (.list_bool b p hu)
 |.lst p,.int b t2=>.inr (.list_int b t2 p hu)
 |.lst p,.str b t2=>.inr (.list_str b t2 p hu)
 |.lst p,.tup q=>.inr (.list_tuple p q hu)
 |.lst _,.lst _=>.inl rfl
theorem rcAt_U {s:Shared} {a b:Dat} {u v:Value} {A:Around} (ha:Sh s a u) (hb:Sh s b v) (hu:A.units<cLine):sq a b=true\/SeqAt.RcAt A s u v (eqD a b):=match ha,hb with
 |.non,.non=>.inr (.none_none)
 |.non,.bl b=>.inr (.none_bool b)
 |.non,.int b t2=>.inr (.none_int b t2)
 |.non,.str b t2=>.inr (.none_str b t2)
 |.non,.tup q=>.inr (.none_tuple q hu)
 |.non,.lst q=>.inr (.none_list q hu)
 |.bl a,.non=>.inr (.bool_none a)
 |.bl a,.bl b=>.inr (.bool_bool a b)
 |.bl a,.int b t2=>.inr (.bool_int a b t2)
 |.bl a,.str b t2=>.inr (.bool_str a b t2)
 |.bl a,.tup q=>.inr (.bool_tuple a q hu)
 |.bl a,.lst q=>.inr (.bool_list a q hu)
 |.int a t,.non=>.inr (.int_none a t)
 |.int a t,.bl b=>.inr (.int_bool a t b)
 |.int a t,.int b t2=>.inr (.int_int a t b t2)
 |.int a t,.str b t2=>.inr (.int_str a t b t2)
 |.int a t,.tup q=>.inr (.int_tuple a t q hu)
 |.int a t,.lst q=>.inr (.int_list a t q hu)
 |.str a t,.non=>.inr (.str_none a t)
 |.str a t,.bl b=>.inr (.str_bool a t b)
 |.str a t,.int b t2=>.inr (.str_int a t b t2)
 |.str a t,.str b t2=>.inr (.str_str a t b t2)
 |.str a t,.tup q=>.inr (.str_tuple a t q hu)
 |.str a t,.lst q=>.inr (.str_list a t q hu)
 |.tup p,.non=>.inr (.tuple_none p hu)
 |.tup p,.bl b=>.inr (.tuple_bool b p hu)
 |.tup p,.int b t2=>.inr (.tuple_int b t2 p hu)
 |.tup p,.str b t2=>.inr (.tuple_str b t2 p hu)
 |.tup _,.tup _=>.inl rfl
 |.tup p,.lst q=>.inr (.tuple_list p q hu)
 |.lst p,.non=>.inr (.list_none p hu)
 |.lst p,.bl b=>.inr (.list_bool b p hu)
 |.lst p,.int b t2=>.inr (.list_int b t2 p hu)
 |.lst p,.str b t2=>.inr (.list_str b t2 p hu)
 |.lst p,.tup q=>.inr (.list_tuple p q hu)
 |.lst _,.lst _=>.inl rfl
theorem rcNeAt_U {s:Shared} {a b:Dat} {u v:Value} {A:Around} (ha:Sh s a u) (hb:Sh s b v) (hu:A.units<cLine):sq a b=true\/SeqAt.RcNeAt A s u v (!eqD a b):=match ha,hb with
 |.non,.non=>.inr (.none_none)
 |.non,.bl b=>.inr (.none_bool b)
 |.non,.int b t2=>.inr (.none_int b t2)
 |.non,.str b t2=>.inr (.none_str b t2)
 |.non,.tup q=>.inr (.none_tuple q hu)
 |.non,.lst q=>.inr (.none_list q hu)
 |.bl a,.non=>.inr (.bool_none a)
 |.bl a,.bl b=>.inr (.bool_bool a b)
 |.bl a,.int b t2=>.inr (.bool_int a b t2)
 |.bl a,.str b t2=>.inr (.bool_str a b t2)
 |.bl a,.tup q=>.inr (.bool_tuple a q hu)
 |.bl a,.lst q=>.inr (.bool_list a q hu)
 |.int a t,.non=>.inr (.int_none a t)
 |.int a t,.bl b=>.inr (.int_bool a t b)
 |.int a t,.int b t2=>.inr (.int_int a t b t2)
 |.int a t,.str b t2=>.inr (.int_str a t b t2)
 |.int a t,.tup q=>.inr (.int_tuple a t q hu)
 |.int a t,.lst q=>.inr (.int_list a t q hu)
 |.str a t,.non=>.inr (.str_none a t)
 |.str a t,.bl b=>.inr (.str_bool a t b)
 |.str a t,.int b t2=>.inr (.str_int a t b t2)
 |.str a t,.str b t2=>.inr (.str_str a t b t2)
 |.str a t,.tup q=>.inr (.str_tuple a t q hu)
 |.str a t,.lst q=>.inr (.str_list a t q hu)
 |.tup p,.non=>.inr (.tuple_none p hu)
 |.tup p,.bl b=>.inr (.tuple_bool b p hu)
 |.tup p,.int b t2=>.inr (.tuple_int b t2 p hu)
 |.tup p,.str b t2=>.inr (.tuple_str b t2 p hu)
 |.tup _,.tup _=>.inl rfl
 |.tup p,.lst q=>.inr (.tuple_list p q hu)
 |.lst p,.non=>.inr (.list_none p hu)
 |.lst p,.bl b=>.inr (.list_bool b p hu)
 |.lst p,.int b t2=>.inr (.list_int b t2 p hu)
 |.lst p,.str b t2=>.inr (.list_str b t2 p hu)
 |.lst p,.tup q=>.inr (.list_tuple p q hu)
 |.lst _,.lst _=>.inl rfl
section
variable {X:Cx} {pins:List (Addr×Obj)} {σ:St} {F H:Hp} {s:Shared}
theorem ny (I:Inv X pins σ H s) (hF:aC F H) {d:Dat} {x:V} {u:Value} {n:Nat} (o:okE d n=true) (q:aZ X.K F d x) (r:RelV x u):Sh s d u:=by
 cases d with
 |non=>cases (show x=.non from q);cases r;exact .non
 |bl b=>cases (show x=.bl b from q);cases r;exact .bl b
 |int i=>cases (show x=.int i from q);obtain ⟨t,rfl⟩:=r;exact .int i t
 |str y=>cases (show x=.str y from q);obtain ⟨t,rfl⟩:=r;exact .str y t
 |tup ds=>
  obtain ⟨l,xs,e,t,_⟩:=q
  subst e
  cases r
  obtain ⟨is,_,p,_⟩:=I.tuple (hF.tup t)
  exact .tup (show s.heap.IsTuple l is.toArray from p)
 |lst ds=>
  obtain ⟨l,xs,e,t,_⟩:=q
  subst e
  cases r
  obtain ⟨is,_,p,_⟩:=I.list (hF.lst t)
  exact .lst p.isList
 |_=>simp [okE] at o
theorem kA {n:Nat} (ih:∀(d e:Dat) {v:V},aZ X.K F d v->aZ X.K F e v->okE d n=true->okE e n=true->d=e):∀(ds es:List Dat) {xs:List V},ak X.K F ds xs->ak X.K F es xs->iF ds n=true->iF es n=true->ds=es
 |[],[],_,_,_,_,_=>rfl
 |[],_::_,_,q,⟨_,_,e,_⟩,_,_=>by rw [show _=[] from q] at e;cases e
 |_::_,[],_,⟨_,_,e,_⟩,q,_,_=>by rw [show _=[] from q] at e;cases e
 |d::ds,e::es,_,⟨v,vs,e1,q1,r1⟩,⟨w,ws,e2,q2,r2⟩,o1,o2=>by
  rw [e1] at e2
  cases e2
  simp only [iF,Bool.and_eq_true] at o1 o2
  rw [ih d e q1 q2 o1.1 o2.1,kA ih ds es r1 r2 o1.2 o2.2]
theorem jH {d e:Dat} {v:V} {n:Nat} (hd:sq d d=false) (q:aZ X.K F d v) (r:aZ X.K F e v) (o1:okE d n=true) (o2:okE e n=true):d=e:=by
 cases d<;>first|(cases hd;done)|(simp [okE] at o1;done)|(simp only [aZ] at q;subst q)
 all_goals cases e<;>first|(simp [okE] at o2;done)|(simp only [aZ] at r;first|(obtain ⟨_,_,z,_⟩:=r;cases z;done)|(cases r<;>rfl))
theorem mL (I:Inv X pins σ H s) (hF:aC F H):∀(n:Nat) (d e:Dat) {v:V},aZ X.K F d v->aZ X.K F e v->okE d n=true->okE e n=true->d=e
 |n,.tup ds,e,v,⟨l,xs,e1,h1,r1⟩,r,o1,o2=>by
  subst e1
  cases n with
  |zero=>simp [okE] at o1
  |succ n=>
   cases e with
   |tup es=>
    obtain ⟨l2,ys,e2,h2,r2⟩:=r
    cases e2
    cases SqT.inj I (hF.tup h1) (hF.tup h2)
    rw [kA (mL I hF n) _ _ r1 r2 (by simpa only [okE] using o1) (by simpa only [okE] using o2)]
   |lst es=>
    obtain ⟨l2,ys,e2,h2,r2⟩:=r
    cases e2
    obtain ⟨i1,_,p1,_⟩:=I.list (hF.lst h2)
    obtain ⟨i2,_,p2,_⟩:=I.tuple (hF.tup h1)
    exact absurd rfl (SeqAt.ne_of_list_tuple p1.isList (show s.heap.IsTuple l i2.toArray from p2))
   |_=>first|(simp [okE] at o2;done)|(simp only [aZ] at r;cases r)
 |n,.lst ds,e,v,⟨l,xs,e1,h1,r1⟩,r,o1,o2=>by
  subst e1
  cases n with
  |zero=>simp [okE] at o1
  |succ n=>
   cases e with
   |lst es=>
    obtain ⟨l2,ys,e2,h2,r2⟩:=r
    cases e2
    cases SqL.inj I (hF.lst h1) (hF.lst h2)
    rw [kA (mL I hF n) _ _ r1 r2 (by simpa only [okE] using o1) (by simpa only [okE] using o2)]
   |tup es=>
    obtain ⟨l2,ys,e2,h2,r2⟩:=r
    cases e2
    obtain ⟨i1,_,p1,_⟩:=I.list (hF.lst h1)
    obtain ⟨i2,_,p2,_⟩:=I.tuple (hF.tup h2)
    exact absurd rfl (SeqAt.ne_of_list_tuple p1.isList (show s.heap.IsTuple l i2.toArray from p2))
   |_=>first|(simp [okE] at o2;done)|(simp only [aZ] at r;cases r)
 |_,.non,_,_,q,r,o1,o2=>jH rfl q r o1 o2
 |_,.bl _,_,_,q,r,o1,o2=>jH rfl q r o1 o2
 |_,.int _,_,_,q,r,o1,o2=>jH rfl q r o1 o2
 |_,.str _,_,_,q,r,o1,o2=>jH rfl q r o1 o2
 |_,.ins _ _,_,_,_,_,o1,_=>by simp [okE] at o1
 |_,.dic _,_,_,_,_,o1,_=>by simp [okE] at o1
 |_,.dil _,_,_,_,_,o1,_=>by simp [okE] at o1
termination_by n=>n
theorem rcAt_S {a b:Dat} {x y:V} {u v:Value} {A:Around} (I:Inv X pins σ H s) (hF:aC F H) (hs:sq a b=true) (qa:aZ X.K F a x) (qb:aZ X.K F b y) (ra:RelV x u) (rb:RelV y v) (hu:A.units<cLine)
  (ih:∀(ds es:List Dat) (j:Nat) (d1 d2:Dat) (x y:V) (u v:Value),(a=.tup ds/\b=.tup es\/a=.lst ds/\b=.lst es)->ds[j]? =some d1->es[j]? =some d2->aZ X.K F d1 x->aZ X.K F d2 y->RelV x u->RelV y v->SeqAt.EqAt A.in1 s u v (eqD d1 d2)):SeqAt.RcAt A s u v (eqD a b):=by
 rcases nu hs with ⟨ds,es,rfl,rfl⟩|⟨ds,es,rfl,rfl⟩
 ·skip
  obtain ⟨l1,xs,e1,h1,r1⟩:=qa
  subst e1
  cases ra
  obtain ⟨is,w1,p1,_⟩:=I.tuple (hF.tup h1)
  obtain ⟨l2,ys,e2,h2,r2⟩:=qb
  subst e2
  cases rb
  obtain ⟨js,w2,p2,_⟩:=I.tuple (hF.tup h2)
  have z1:=w1.length
  have z2:=w2.length
  have y1:=r1.length
  have y2:=r2.length
  have q:=SeqAt.RcAt.tuples (A:=A) (e:=gW ds es) (show s.heap.IsTuple l1 is.toArray from p1) (show s.heap.IsTuple l2 js.toArray from p2) hu (fun j h1 h2=>by
   obtain ⟨x',f1,g1⟩:=w1.atA h1
   obtain ⟨y',f2,g2⟩:=w2.atA h2
   obtain ⟨d1,k1,m1⟩:=r1.at f1
   obtain ⟨d2,k2,m2⟩:=r2.at f2
   rw [show gW ds es j=eqD d1 d2 by simp only [gW,k1,k2]]
   exact ih ds es j d1 d2 x' y' _ _ (.inl ⟨rfl,rfl⟩) k1 k2 m1 m2 g1 g2)
  rw [show is.toArray.size=ds.length by simp;omega,show js.toArray.size=es.length by simp;omega,qW _ (fun j a b h1 h2=>by simp only [gW,h1,h2])] at q
  exact q
 ·skip
  obtain ⟨l1,xs,e1,h1,r1⟩:=qa
  subst e1
  cases ra
  obtain ⟨is,w1,p1,_⟩:=I.list (hF.lst h1)
  obtain ⟨l2,ys,e2,h2,r2⟩:=qb
  subst e2
  cases rb
  obtain ⟨js,w2,p2,_⟩:=I.list (hF.lst h2)
  have z1:=w1.length
  have z2:=w2.length
  have y1:=r1.length
  have y2:=r2.length
  by_cases hl:ds.length=es.length
  ·have q:=SeqAt.RcAt.lists (A:=A) (e:=gW ds es) p1.isList p2.isList (by simp;omega) hu (fun j h1 h2=>by
   obtain ⟨x',f1,g1⟩:=w1.atA h1
   obtain ⟨y',f2,g2⟩:=w2.atA h2
   obtain ⟨d1,k1,m1⟩:=r1.at f1
   obtain ⟨d2,k2,m2⟩:=r2.at f2
   rw [show gW ds es j=eqD d1 d2 by simp only [gW,k1,k2]]
   exact ih ds es j d1 d2 x' y' _ _ (.inr ⟨rfl,rfl⟩) k1 k2 m1 m2 g1 g2)
   rw [show is.toArray.size=ds.length by simp;omega,ak.all_eq (F:=F) _ hl (fun j a b h1 h2=>by simp only [gW,h1,h2])] at q
   exact q
  ·rw [show eqD (.lst ds) (.lst es)=false from jE hl]
   exact SeqAt.RcAt.lists_lengths (A:=A) p1.isList p2.isList (by simp;omega) hu
theorem rcNeAt_S {a b:Dat} {x y:V} {u v:Value} {A:Around} (I:Inv X pins σ H s) (hF:aC F H) (hs:sq a b=true) (qa:aZ X.K F a x) (qb:aZ X.K F b y) (ra:RelV x u) (rb:RelV y v) (hu:A.units<cLine)
  (ih:∀(ds es:List Dat) (j:Nat) (d1 d2:Dat) (x y:V) (u v:Value),(a=.tup ds/\b=.tup es\/a=.lst ds/\b=.lst es)->ds[j]? =some d1->es[j]? =some d2->aZ X.K F d1 x->aZ X.K F d2 y->RelV x u->RelV y v->SeqAt.EqAt A.in1 s u v (eqD d1 d2)):SeqAt.RcNeAt A s u v (!eqD a b):=by
 rcases nu hs with ⟨ds,es,rfl,rfl⟩|⟨ds,es,rfl,rfl⟩
 ·skip
  obtain ⟨l1,xs,e1,h1,r1⟩:=qa
  subst e1
  cases ra
  obtain ⟨is,w1,p1,_⟩:=I.tuple (hF.tup h1)
  obtain ⟨l2,ys,e2,h2,r2⟩:=qb
  subst e2
  cases rb
  obtain ⟨js,w2,p2,_⟩:=I.tuple (hF.tup h2)
  have z1:=w1.length
  have z2:=w2.length
  have y1:=r1.length
  have y2:=r2.length
  have q:=SeqAt.RcNeAt.tuples (A:=A) (e:=gW ds es) (show s.heap.IsTuple l1 is.toArray from p1) (show s.heap.IsTuple l2 js.toArray from p2) hu (fun j h1 h2=>by
   obtain ⟨x',f1,g1⟩:=w1.atA h1
   obtain ⟨y',f2,g2⟩:=w2.atA h2
   obtain ⟨d1,k1,m1⟩:=r1.at f1
   obtain ⟨d2,k2,m2⟩:=r2.at f2
   rw [show gW ds es j=eqD d1 d2 by simp only [gW,k1,k2]]
   exact ih ds es j d1 d2 x' y' _ _ (.inl ⟨rfl,rfl⟩) k1 k2 m1 m2 g1 g2)
  rw [show is.toArray.size=ds.length by simp;omega,show js.toArray.size=es.length by simp;omega,qW _ (fun j a b h1 h2=>by simp only [gW,h1,h2])] at q
  exact q
 ·skip
  obtain ⟨l1,xs,e1,h1,r1⟩:=qa
  subst e1
  cases ra
  obtain ⟨is,w1,p1,_⟩:=I.list (hF.lst h1)
  obtain ⟨l2,ys,e2,h2,r2⟩:=qb
  subst e2
  cases rb
  obtain ⟨js,w2,p2,_⟩:=I.list (hF.lst h2)
  have z1:=w1.length
  have z2:=w2.length
  have y1:=r1.length
  have y2:=r2.length
  by_cases hl:ds.length=es.length
  ·have q:=SeqAt.RcNeAt.lists (A:=A) (e:=gW ds es) p1.isList p2.isList (by simp;omega) hu (fun j h1 h2=>by
   obtain ⟨x',f1,g1⟩:=w1.atA h1
   obtain ⟨y',f2,g2⟩:=w2.atA h2
   obtain ⟨d1,k1,m1⟩:=r1.at f1
   obtain ⟨d2,k2,m2⟩:=r2.at f2
   rw [show gW ds es j=eqD d1 d2 by simp only [gW,k1,k2]]
   exact ih ds es j d1 d2 x' y' _ _ (.inr ⟨rfl,rfl⟩) k1 k2 m1 m2 g1 g2)
   rw [show is.toArray.size=ds.length by simp;omega,ak.all_eq (F:=F) _ hl (fun j a b h1 h2=>by simp only [gW,h1,h2])] at q
   exact q
  ·rw [show eqD (.lst ds) (.lst es)=false from jE hl]
   exact SeqAt.RcNeAt.lists_lengths (A:=A) p1.isList p2.isList (by simp;omega) hu
theorem ok_sub {a b d1 d2:Dat} {n j:Nat} {ds es:List Dat} (oa:okE a n=true) (ob:okE b n=true) (h:a=.tup ds/\b=.tup es\/a=.lst ds/\b=.lst es) (k1:ds[j]? =some d1) (k2:es[j]? =some d2):∃m,n=m+1/\okE d1 m=true/\okE d2 m=true:=by
 cases n with
 |zero=>rcases h with ⟨rfl,rfl⟩|⟨rfl,rfl⟩<;>simp [okE] at oa
 |succ m=>exact ⟨m,rfl,by rcases h with ⟨rfl,rfl⟩|⟨rfl,rfl⟩<;>simp only [okE] at oa ob<;>exact ⟨mj oa k1,mj ob k2⟩⟩
theorem eqAt_N (I:Inv X pins σ H s) (hF:aC F H):∀(n:Nat) (a b:Dat) {x y:V} {u v:Value} {A:Around},okE a n=true->okE b n=true->aZ X.K F a x->aZ X.K F b y->RelV x u->RelV y v->A.units+n<cLine->SeqAt.EqAt A s u v (eqD a b):=by
 intro n
 induction n with
 |zero=>
  intro a b x y u v A oa ob qa qb ra rb hu
  refine (eqAt_U (ny I hF oa qa ra) (ny I hF ob qb rb) (by omega)).resolve_left fun h=>?_
  rcases nu h with ⟨ds,es,rfl,rfl⟩|⟨ds,es,rfl,rfl⟩<;>simp [okE] at oa
 |succ n ih=>
  intro a b x y u v A oa ob qa qb ra rb hu
  rcases eqAt_U (A:=A) (ny I hF oa qa ra) (ny I hF ob qb rb) (by omega) with h|h
  ·by_cases hab:x=y
   ·subst hab
    cases (show a=b from mL I hF (n+1) a b qa qb oa ob)
    rw [mE oa]
    rcases nu h with ⟨ds,es,rfl,_⟩|⟨ds,es,rfl,_⟩<;>(obtain ⟨l1,xs,e1,_⟩:=qa;subst e1;cases ra;cases rb;exact SeqAt.EqAt.same _)
   ·have q:=rcAt_S (A:=A) I hF h qa qb ra rb (by omega) fun ds es j d1 d2 x' y' u' v' hs k1 k2 m1 m2 g1 g2=>by
     obtain ⟨m,e,o1,o2⟩:=ok_sub oa ob hs k1 k2
     cases e
     exact ih d1 d2 o1 o2 m1 m2 g1 g2 (by show A.units+1+n<cLine;omega)
    rcases nu h with ⟨ds,es,rfl,rfl⟩|⟨ds,es,rfl,rfl⟩<;>(obtain ⟨l1,xs,e1,_⟩:=qa;obtain ⟨l2,ys,e2,_⟩:=qb;subst e1;subst e2;cases ra;cases rb;exact SeqAt.EqAt.of_refs (fun z=>hab (by rw [z])) q)
  ·exact h
theorem eqAt_D (I:Inv X pins σ H s) (hF:aC F H) (a b:Dat) {n:Nat} {x y:V} {u v:Value} {A:Around} (oa:okE a n=true) (ob:okE b n=true) (qa:aZ X.K F a x) (qb:aZ X.K F b y) (ra:RelV x u) (rb:RelV y v) (hu:A.units+n<cLine):SeqAt.EqAt A s u v (eqD a b):=eqAt_N I hF n a b oa ob qa qb ra rb hu
theorem eqAt_I (I:Inv X pins σ H s) (hF:aC F H) {a b:Dat} {n:Nat} {A:Around} (oa:okE a n=true) (ob:okE b n=true) (hu:A.units+n<cLine) (ds es:List Dat) (j:Nat) (d1 d2:Dat) (x y:V) (u v:Value) (hs:a=.tup ds/\b=.tup es\/a=.lst ds/\b=.lst es) (k1:ds[j]? =some d1) (k2:es[j]? =some d2) (m1:aZ X.K F d1 x) (m2:aZ X.K F d2 y) (g1:RelV x u) (g2:RelV y v):SeqAt.EqAt A.in1 s u v (eqD d1 d2):=by
 obtain ⟨m,rfl,o1,o2⟩:=ok_sub oa ob hs k1 k2
 exact eqAt_D I hF d1 d2 o1 o2 m1 m2 g1 g2 (by show A.units+1+m<cLine;omega)
theorem rcAt_D (I:Inv X pins σ H s) (hF:aC F H) (a b:Dat) {n:Nat} {x y:V} {u v:Value} {A:Around} (oa:okE a n=true) (ob:okE b n=true) (qa:aZ X.K F a x) (qb:aZ X.K F b y) (ra:RelV x u) (rb:RelV y v) (hu:A.units+n<cLine):SeqAt.RcAt A s u v (eqD a b):=
 (rcAt_U (ny I hF oa qa ra) (ny I hF ob qb rb) (by omega)).elim (fun h=>rcAt_S I hF h qa qb ra rb (by omega) (eqAt_I I hF oa ob hu)) id
theorem rcNeAt_D (I:Inv X pins σ H s) (hF:aC F H) (a b:Dat) {n:Nat} {x y:V} {u v:Value} {A:Around} (oa:okE a n=true) (ob:okE b n=true) (qa:aZ X.K F a x) (qb:aZ X.K F b y) (ra:RelV x u) (rb:RelV y v) (hu:A.units+n<cLine):SeqAt.RcNeAt A s u v (!eqD a b):=
 (rcNeAt_U (ny I hF oa qa ra) (ny I hF ob qb rb) (by omega)).elim (fun h=>rcNeAt_S I hF h qa qb ra rb (by omega) (eqAt_I I hF oa ob hu)) id
end
section
variable {X:Cx} {K:PySem.W.Frag} {W:cy} {own ro:Bool}
theorem aw.blS {F H:Hp} {Q:VK} {pins:List (Addr×Obj)} {σ:St} {s:Shared} {b:Bool} (p:aw K W own F H (.ok (.bl b)) Q) (s1:aC F H) (I:Inv X pins σ H s):EP X pins σ Q (.bool b) s:=⟨.bl b,H,I,rfl,p.bl s1⟩
theorem o_eq (hu:X.A.units+64<cLine) (hK:X.K=K:=by rfl):Op2 K W own X (compareOp .Eq) eqM:=by
 subst hK
 intro pins s σ H x y v u Q I rx ry h
 obtain ⟨F,a,b,s1,qa,qb,p⟩:=h
 unfold eqM at p
 by_cases hc:(okE a 40&&okE b 40)=true
 ·rw [if_pos hc] at p
  simp only [Bool.and_eq_true] at hc
  exact rcAt_D I s1 a b hc.1 hc.2 qa qb rx ry (by omega) _ _ _ _ (p.blS s1 I)
 ·rw [if_neg hc] at p;exact p.stuck
theorem o_ne (hu:X.A.units+64<cLine) (hK:X.K=K:=by rfl):Op2 K W own X (compareOp .NotEq) neM:=by
 subst hK
 intro pins s σ H x y v u Q I rx ry h
 obtain ⟨F,a,b,s1,qa,qb,p⟩:=h
 unfold neM at p
 by_cases hc:(okE a 40&&okE b 40)=true
 ·rw [if_pos hc] at p
  simp only [Bool.and_eq_true] at hc
  exact rcNeAt_D I s1 a b hc.1 hc.2 qa qb rx ry (by omega) _ _ _ _ (p.blS s1 I)
 ·rw [if_neg hc] at p;exact p.stuck
end
end L2
namespace L2
open PySem PySem.Spec PyProof.Rows
section
variable {X:Cx} {pins:List (Addr×Obj)} {σ:St} {H:Hp} {s:Shared} {h':Heap}
theorem Inv.p8 {t':Nat} {ch:List Addr} {T:Addr} {xs:List V} (I:Inv X pins σ H s) (hf:∀b∈ch,t9 X pins H b) (k:∀b o,b∉ch->s.heap.get? b=some o->h'.get? b=some o) (hT:s.heap.objs.size<=T)
  (new:xs.length<=sizeLine/\∃its:List Value,Vals xs its/\IsTup h' T its.toArray):Inv X pins σ (upd H T (.tup xs)) {s with heap:=h',toks:=t'}:=by
 have hTn:H T=none:=I.hok.fresh hT
 have nit:∀b u,H b=some u->b∉ch:=fun b u e z=>by rw [(hf b z).1] at e;cases e
 have old:∀{b:Addr} {o:Obj},s.heap.get? b=some o->b≠T:=fun {b o} e=>Nat.ne_of_lt (Nat.lt_of_lt_of_le (Heap.lt_size e) hT)
 refine I.step (g':=s.gens) (d':=s.drawn) (ch:=ch) (fun b hb=>?_) (fun b o _ _ hc e _=>k b o hc e) (fun b o _ _ hc e _=>⟨o.slots,k b o hc e⟩) (fun b o _ e n=>by rw [aq (old e)];exact n)
  (fun b o hc e=>⟨o,k b o hc e⟩) (fun b ys e=>by rw [aq (au e hTn)];exact e) (fun b o u e=>by rw [aq (au e hTn)];exact e) (fun b ps e=>⟨#[],by rw [aq (au e hTn),e];simp⟩) (fun m hm=>?_) (fun b u e=>?_) I.bare
 ·obtain ⟨f0,f1,f2,f3,f4,f5⟩:=hf b hb
  exact ⟨f3,f1,f4,f5⟩
 ·obtain ⟨o,es,ep,ho,r⟩:=hm
  exact ⟨o,es,ep,k _ o (fun z=>(hf _ z).2.1 rfl) ho,r⟩
 ·by_cases hb:b=T
  ·subst hb
   rw [ar] at e
   cases e
   exact new
  ·rw [aq hb] at e
   refine (I.hok b u e).pf (fun c v hc q=>k c v ?_ q) (fun c q=>?_) fun c ys q=>?_
   ·rcases hc with z|z
    ·rw [z];exact nit b u e
    ·exact nit c _ z
   ·rw [aq (au q hTn)];exact q
   ·rw [aq (au q hTn)];exact q
theorem Inv.p9 {t':Nat} {ch:List Addr} (I:Inv X pins σ H s) (hf:∀b∈ch,t9 X pins H b) (k:∀b o,b∉ch->s.heap.get? b=some o->h'.get? b=some o):Inv X pins σ H {s with heap:=h',toks:=t'}:=by
 have nit:∀b u,H b=some u->b∉ch:=fun b u e z=>by rw [(hf b z).1] at e;cases e
 refine I.step (g':=s.gens) (d':=s.drawn) (ch:=ch) (fun b hb=>?_) (fun b o _ _ hc e _=>k b o hc e) (fun b o _ _ hc e _=>⟨o.slots,k b o hc e⟩) (fun b o _ e n=>n)
  (fun b o hc e=>⟨o,k b o hc e⟩) (fun b ys e=>e) (fun b o u e=>e) (fun b ps e=>⟨#[],by rw [e];simp⟩) (fun m hm=>?_) (fun b u e=>?_) I.bare
 ·obtain ⟨f0,f1,f2,f3,f4,f5⟩:=hf b hb
  exact ⟨f3,f1,f4,f5⟩
 ·obtain ⟨o,es,ep,ho,r⟩:=hm
  exact ⟨o,es,ep,k _ o (fun z=>(hf _ z).2.1 rfl) ho,r⟩
 ·refine (I.hok b u e).pf (fun c v hc q=>k c v ?_ q) (fun _ q=>q) fun _ _ q=>q
  rcases hc with z|z
  ·rw [z];exact nit b u e
  ·exact nit c _ z
end
noncomputable def Ite (K:PySem.W.Frag) (a:Addr):It:=
 ⟨fun i H=>∃xs x,SqL K H a xs/\xs[i]? =some x,fun i H x H'=>∃T y,H T=none/\x=.ref T/\H'=upd H T (.tup [.int i,y])/\∀xs,SqL K H a xs->xs[i]? =some y,fun i H=>∃xs,SqL K H a xs/\xs.length<=i⟩
theorem n8 {P:Program} {w:World} {K:PySem.W.Frag} {elts:List Expr} {k:Nat} {pos:Pos} (a e it:Addr) (hei:e≠it):Turn P w K (.Tuple elts k pos) (Ite K a) [e,it] e (fun i h=>(∃old,IsEnum h e it i old)/\h.IsListIter it a i) where
 mem:=by simp
 obj:=fun i h st b hb=>by
  obtain ⟨⟨old,he⟩,o,e1,c,d⟩:=st
  rcases List.mem_cons.mp hb with rfl|hb
  ·exact ⟨_,he,fun v z=>by cases z⟩
  ·have:b=it:=by simpa using hb
   subst this
   exact ⟨o,e1,fun v z=>by rw [d] at z;cases z⟩
 keep:=fun i h h' st kk=>by
  obtain ⟨⟨old,he⟩,hit⟩:=st
  exact ⟨⟨old,kk e (by simp) _ he⟩,hit.at fun o x=>kk it (by simp) o x⟩
 item:=by
  intro X hP hw hK hc i pins s σ H E I hf st hg
  subst hP hw hK
  obtain ⟨⟨old,he⟩,hit⟩:=st
  obtain ⟨xs,x,hq,hx⟩:=hg
  obtain ⟨its,rv,p,hz⟩:=I.list hq
  obtain ⟨u,hu,ru⟩:=rv.get hx
  refine wpAny_pyNext_enum_item he hit p.isList (x:=u) (by simpa using hu) hei fun h1 ho hit1 hT hsz hk=>?_
  refine ⟨_,rfl,wpAny_letOwnedTupleGo_enum ho fun h2 he2 hs2=>?_⟩
  have hlt:e<s.heap.objs.size:=Heap.lt_size he
  have hTe:s.heap.objs.size≠e:=Nat.ne_of_gt hlt
  have I1:Inv X pins σ (upd H s.heap.objs.size (.tup [.int i,x])) {s with heap:=h2,toks:=s.toks+1}:=I.p8 (ch:=[e,it]) hf (fun b o hb q=>by
    have h3:=hk b o (fun z=>hb (by simp [z])) (fun z=>hb (by simp [z])) q
    exact (hs2.2 b (fun z=>hb (by simp [z]))).trans h3) (Nat.le_refl _) ⟨by show 2<=sizeLine;decide,[.int i s.toks,u],.cons ⟨_,rfl⟩ (.cons ru .nil),⟨_,(hs2.2 _ hTe).trans hT,rfl,0,rfl⟩⟩
  refine ⟨.ref s.heap.objs.size,_,I1,rfl,⟨s.heap.objs.size,x,I.hok.fresh (Nat.le_refl _),rfl,rfl,fun ys hy=>by rw [I.jB hy hq];exact hx⟩,⟨⟨u,by simpa using he2⟩,hit1.at fun o y=>(hs2.2 it hei.symm).trans y⟩,fun b hb=>?_⟩
  have hbn:=(hf b hb).1
  have:b≠s.heap.objs.size:=by
   rcases List.mem_cons.mp hb with rfl|hb
   ·exact hTe.symm
   ·have:b=it:=by simpa using hb
    subst this
    obtain ⟨o,e1,_⟩:=hit
    exact Nat.ne_of_lt (Heap.lt_size e1)
  rw [aq this]
  exact hbn
 done:=by
  intro X hP hw hK hc i pins s σ H E I hf st hg
  subst hP hw hK
  obtain ⟨⟨old,he⟩,hit⟩:=st
  obtain ⟨xs,hq,hx⟩:=hg
  obtain ⟨its,rv,p,hz⟩:=I.list hq
  have hl:=rv.length
  exact wpAny_pyNext_enum_end (I.ok.hd hc) he hit p.isList (Array.getElem?_eq_none (by simp;omega)) fun h2 eb=>⟨rfl,I.p9 (t':=s.toks) (ch:=[e,it]) hf fun b o hb q=>eb b o (fun z=>hb (by simp [z])) q⟩
 self:=fun _ _ _ _ _ st h=>by
  obtain ⟨⟨old,he⟩,_⟩:=st
  exact wpAny_pyIter_enum he h
theorem kn:∀(ds:List Dat) (k i:Nat),(eQ k ds)[i]? =(ds[i]?).map fun d=>.tup [.int ((k+i:Nat):Int),d]
 |[],k,i=>by simp [eQ]
 |d::ds,k,0=>by simp [eQ]
 |d::ds,k,i+1=>by
  rw [eQ,List.getElem?_cons_succ,kn ds (k+1) i,List.getElem?_cons_succ]
  rw [show k+1+i=k+(i+1) by omega]
theorem eM:∀(ds:List Dat) (k:Nat),(eQ k ds).length=ds.length
 |[],_=>rfl
 |d::ds,k=>by rw [eQ,List.length_cons,eM ds,List.length_cons]
theorem nR {K:PySem.W.Frag} {F:Hp} {a:Addr} {xs:List V} {ds:List Dat} (t:SqL K F a xs) (z:ak K F ds xs):mX K F (Ite K a) (eQ 0 ds) where
 go:=fun i F' H' s1 s2 hi=>⟨xs,xs[i]'(by rw [z.length];rw [eM] at hi;exact hi),s2.lst (s1.lst t),by rw [eM] at hi;simp [z.length,hi]⟩
 yl:=fun i F' H' x H2 d s1 s2 hd hy=>by
  obtain ⟨T,y,hT,ex,eH,hy⟩:=hy
  subst ex eH
  rw [kn] at hd
  cases hds:ds[i]? with
  |none=>rw [hds] at hd;cases hd
  |some d'=>
   rw [hds] at hd
   simp at hd
   subst hd
   obtain ⟨v,e1,q⟩:=z.get hds
   have e2:=hy xs (s2.lst (s1.lst t))
   rw [e1] at e2
   cases e2
   refine ⟨upd F' T (.tup [.int i,y]),Step.lay s2 hT,T,_,rfl,SqT.of ar,?_⟩
   exact ⟨.int i,[y],rfl,rfl,y,[],rfl,(q.mono s1).mono (aC.upd (s2.free hT)),rfl⟩
 st:=fun F' H' s1 s2=>⟨xs,s2.lst (s1.lst t),by rw [z.length,eM];exact Nat.le_refl _⟩
section
variable {X:Cx} {K:PySem.W.Frag} {W:cy} {own ro:Bool} {e a b c:Expr} {es:List Expr} {x:Str} {pos p:Pos} {f fa fb fc:ae->M Dat} {fr:ae->M (List Dat)} {ft:ae->M Bool}
noncomputable def iEnum (K:PySem.W.Frag) (tl:TE):TI:=fun σ H R=>tl σ H fun x H1=>∃a,x=.ref a/\(∃xs,SqL K H1 a xs)/\R (Ite K a) H1
theorem pi_enum {elts:List Expr} {k:Nat} {q:Pos} {tl:TE} (hg:Gl X "enumerate") (hm:X.mg "enumerate"=none) (hl:PE X a tl) (hs:starEach [a] X.env=[(false,eval a X.env)]:=by rfl) :
  PI X (.Tuple elts k q) (.Call (.Name "enumerate" p) [a] [] pos) (iEnum X.K tl):=by
 intro pins s σ H R I h
 have ha:PA X [a] (fS tl oO):=aF hl cj hs
 refine Call_ (hV I hg hm boot_enumerate (PyProof.Rows.callWith_type1 (thn (ha pos pins s σ H (fun vs H1=>match vs with
  |[x]=>∃a,x=.ref a/\(∃xs,SqL X.K H1 a xs)/\R (Ite X.K a) H1
  |_=>False) I h) fun us s1 ⟨vs,H1,I1,r1,q1⟩=>?_) hs rfl))
 match vs,r1,q1 with
 |[x],r1,⟨l,e1,⟨xs,hq⟩,q⟩=>
  subst e1
  obtain ⟨u,rfl,ru⟩:=r1.one
  cases ru
  obtain ⟨its,rv,pl,hz⟩:=I1.list hq
  refine call_enumerate_list pl.isList fun h2 he hit hsz hk=>?_
  have I2:Inv X pins σ H1 {s1 with heap:=h2}:=I1.kept (t':=s1.toks) hk
  refine wpAny_pyIter_enum he ?_
  refine ⟨s1.heap.objs.size+1,[s1.heap.objs.size+1,s1.heap.objs.size],_,_,H1,rfl,I2,n8 l _ _ (Nat.succ_ne_self _),⟨⟨_,he⟩,hit⟩,fun b hb=>?_,q⟩
  have hb2:s1.heap.objs.size<=b:=by
   rcases List.mem_cons.mp hb with rfl|hb
   ·exact Nat.le_succ _
   ·have:b=s1.heap.objs.size:=by simpa using hb
    exact Nat.le_of_eq this.symm
  exact I1.fpOk hb2 (I1.hok.fresh hb2)
theorem ri_enum {σ:St} {H:Hp} {R:It->Hp->Prop} (h:iD K W (o5 fa) σ H R):iEnum K (tD K W false fa) σ H R:=by
 obtain ⟨F,ρ,r,s,p⟩:=h
 refine aW r s (fun e he=>?_) fun d hd v F1 H1 s1 q1=>?_
 ·have z:o5 fa ρ=.error e:=by unfold o5;rw [he];rfl
  rw [z] at p;exact p
 ·have z:o5 fa ρ=(gC d).bind fun ds=>.ok (eQ 0 ds):=by unfold o5;rw [hd];rfl
  rw [z] at p
  cases d with
  |lst ds=>
   obtain ⟨b,xs,e,t,z⟩:=q1
   exact ⟨b,e,⟨xs,s1.fh.lst t⟩,p _ F1 H1 s1 (nR t z)⟩
  |_=>exact (W.ns p).elim
theorem di_enum {elts:List Expr} {k:Nat} {q:Pos} (hm:X.mg "enumerate"=none) (hl:DE K W false X a fa) (hg:Gl X "enumerate":=by rfl) (hs:starEach [a] X.env=[(false,eval a X.env)]:=by rfl) (hK:X.K=K:=by rfl) :
  DI K W X (.Tuple elts k q) (.Call (.Name "enumerate" p) [a] [] pos) (o5 fa):=by
 subst hK
 exact (pi_enum hg hm hl hs).imp fun _ _ _=>ri_enum
theorem kq:PTs X [] (tDT K W qV):=fun pins s σ H Q I h=>pts_nil pins s σ H Q I (by
 obtain ⟨F,ρ,r,s1,q⟩:=h
 exact q F H (Step.refl s1))
theorem mI:PGs X [] (f6 []):=pgs_nil
theorem jG {i:Nat} {is:List Nat} (hN:X.N.Nodup) (h2:PGs X es (f6 is)) (hi:X.N[i]? =some x:=by rfl) (hx:Loc X.env.scope x:=by first|exact Or.inl rfl|exact Or.inr rfl) (hf:X.fn x=true\/X.env.scope.names.lookup x=some .local:=by first|exact .inl rfl|exact .inr rfl|assumption)
  (hs:(assignEach (.Name x p::es) X.env).map (·.2)=assign (.Name x p) X.env::(assignEach es X.env).map (·.2):=by rfl):PGs X (.Name x p::es) (f6 (i::is)):=qz (jW hN hi hx hf) h2 hs
theorem dg_tp {k:Nat} {is:List Nat} (hc:X.calm=true) (h:PGs X es (f6 is)) (hn:(assignEach es X.env).length=is.length:=by rfl) (hst:(assignEach es X.env).findIdx? (·.1)=none:=by rfl) (hK:X.K=K:=by rfl):DG K X (.Tuple es k pos) (.tp is):=by
 subst hK
 exact pg_tup hc h hn hst
theorem jj {ix:List (Option Nat)}:∀{is:List Nat},(∀i∈is,ix[i]? =some none)->∀vs σ' H' (Q:St->Hp->Prop),f6 is vs σ' H' Q->f6 is vs σ' H' fun σ2 H2=>Q σ2 H2/\∀(i:Nat) v,σ'[i]? =some (some v)->(∃j,ix[i]? =some (some j))->σ2[i]? =some (some v)
 |[],_,vs,σ',H',Q,⟨e,q⟩=>⟨e,q,fun _ _ h _=>h⟩
 |i::is,hs,vs,σ',H',Q,⟨v,r,e,q⟩=>by
  refine ⟨v,r,e,?_⟩
  have:=jj (ix:=ix) (is:=is) (fun j hj=>hs j (by simp [hj])) r (σ'.set i (some v)) H' Q q
  have mono:∀{is:List Nat} {vs:List V} {σ1:St} {H1:Hp} {Q Q':St->Hp->Prop},(∀σ2 H2,Q σ2 H2->Q' σ2 H2)->f6 is vs σ1 H1 Q->f6 is vs σ1 H1 Q':=by
   intro is
   induction is with
   |nil=>rintro vs σ1 H1 Q Q' m ⟨e,q⟩;exact ⟨e,m _ _ q⟩
   |cons i is ih=>rintro vs σ1 H1 Q Q' m ⟨v,r,e,q⟩;exact ⟨v,r,e,ih m q⟩
  refine mono (fun σ2 H2 ⟨q1,q2⟩=>⟨q1,fun j w h ⟨l,hl⟩=>q2 j w ?_ ⟨l,hl⟩⟩) this
  have:i≠j:=by rintro rfl;rw [hs i (by simp)] at hl;cases hl
  rw [List.getElem?_set_ne this]
  exact h
theorem nQ {ix:List (Option Nat)} {is:List Nat} (h:∀i∈is,ix[i]? =some none):lO ix (gP K (.tp is)):=fun x σ' H' Q ⟨a,xs,e,t,l,q⟩=>⟨a,xs,e,t,l,jj h xs σ' H' Q q⟩
theorem lG {N':List Str} {sc:Scope} {L:Addr} {cs:List (Str×Addr)} {s:Shared} {H:Hp} {fp:List Addr} {i:Nat} (hN:N'.Nodup) (hi:N'[i]? =some x:=by rfl) (hx:Loc (aS X N' sc L cs s H fp).env.scope x:=by first|exact Or.inl rfl|exact Or.inr rfl)
  (hf:(aS X N' sc L cs s H fp).fn x=true\/(aS X N' sc L cs s H fp).env.scope.names.lookup x=some .local:=by first|exact .inl rfl|exact .inr rfl|assumption):DG K (aS X N' sc L cs s H fp) (.Name x pos) (.nm i):=pg_c hN hi hx hf
variable {sc:Scope} {tg elt iter:Expr} {ifs:List Expr} {fi:ae->M (List Dat)} {pt:Pat} {fe:ae->M Dat} {spos py:Pos}
theorem ik (N':List Str) (ix:List (Option Nat)) (hi:DI K W X tg iter fi) (hg:∀L cs s H fp,DG K (aS X N' sc L cs s H fp) tg pt) (hl:lO ix (gP K pt))
  (ht:∀L cs s H fp,PTs (aS X N' sc L cs s H fp) ifs (tDT K W ft)) (he:∀L cs s H fp,DE K W false (aS X N' sc L cs s H fp) elt fe) (hc:X.calm=true:=by rfl)
  (ok:ba X.N X.env.scope N' sc ix=true:=by rfl) (hk:sc.kind=.function:=by rfl) (hs:∀x,foldedSetIterable iter X.env x=pure x:=by intro _;rfl) :
  DE K W true X (.ListComp elt [⟨tg,iter,ifs,0⟩] sc pos) (gE fi ix pt ft fe):=(pe_comp N' ix hc hi hg hl ht he ok hk hs).imp fun _ _ _=>ud
theorem tD_fr {σ:St} {H:Hp} {Q:VK} (h:tD K W own f σ H Q):tD K W true f σ H Q:=by
 cases own with
 |true=>exact h
 |false=>obtain ⟨F,ρ,r,s,p⟩:=h;exact ⟨F,ρ,r,s,p.frz⟩
theorem ds_compB {OL O:List Nat} {i:Nat} (own:Bool) (N':List Str) (ix:List (Option Nat)) (hN:X.N.Nodup) (hi:DI K W X tg iter fi) (hg:∀L cs s H fp,DG K (aS X N' sc L cs s H fp) tg pt) (hl:lO ix (gP K pt))
  (ht:∀L cs s H fp,PTs (aS X N' sc L cs s H fp) ifs (tDT K W ft)) (he:∀L cs s H fp,DE K W false (aS X N' sc L cs s H fp) elt fe) (hj:X.N[i]? =some x:=by rfl) (hy:X.env.scope.names.lookup x=some .local:=by rfl) (hc:X.calm=true:=by rfl)
  (hsw:swapsWith (.ListComp elt [⟨tg,iter,ifs,0⟩] sc pos) (some (.Name x py)) spos.line X.env=pure true:=by rfl)
  (ok:ba X.N X.env.scope N' sc ix=true:=by rfl) (hk:sc.kind=.function:=by rfl) (hs:∀x,foldedSetIterable iter X.env x=pure x:=by intro _;rfl) :
  DS K W ro X OL O (aft own i O) (.Assign [.Name x py] (.ListComp elt [⟨tg,iter,ifs,0⟩] sc pos) spos) (bL O i (gE fi ix pt ft fe)):=fun F0 H0=>
 (sd N' ix hN hj hy hc hi hg hl ht he hsw ok hk hs).imp fun D σ H t=>ud (tD_fr (ua t))
noncomputable def spF (K:PySem.W.Frag) (ro:Bool) (g:List Dat->M Dat) (n:Nat):Sp:=fun vs H Q _=>∃F ds,aC F H/\ak K F ds vs/\ds.length=n/\aw K Wno ro F H (g ds) Q
theorem m6 {nN n:Nat} {g:ae->M Flo} {ds:List Dat} (h:ds.length≠n):fA nN n g ds=stk:=by unfold fA;rw [if_neg h]
theorem bM {k nN n:Nat} {fad:Addr} {fd:FuncData} {ps:List Str} {g:ae->M Flo} (F:gS X.prog X.w X.K X.mg X.base CX0 k fad fd ps (spF K ro (fA nN n g) n)) (hr:jI k X.A) (hm:X.mg x=some (.ref fad)) (hk:keepIn X.K (.ref fad)=true) (hb:Binds X.K fd ps [])
  (ha:DA K Wno X (e::es) fr) (hg:Gl X x:=by rfl) (hdb:(x==("__debug__":Str))=false:=by decide) (hst:starEach (e::es) X.env=(false,eval e X.env)::starEach es X.env:=by rfl) (hpl:(backTo pos (starEach es X.env)).any (·.1)=false:=by rfl) :
  DE K Wno ro X (.Call (.Name x p) (e::es) [] pos) (fL (fA nN n g) fr):=by
 refine PE.imp (uw F hr hg hm hk hb .nil pass0 ha hdb hst hpl) fun σ H Q h=>?_
 obtain ⟨F,ρ,r,s,p⟩:=rd_L h
 refine ⟨F,ρ,r,s,?_⟩
 cases e1:fr ρ with
 |error z=>rw [e1] at p;exact p
 |ok ds=>
  rw [e1] at p
  intro vs F' H' st q
  obtain ⟨F1,es1,s1,q1,z⟩:=p vs F' H' st q
  show spF K ro (fA nN n g) n (vs++[]) H' Q E0
  rw [List.append_nil]
  by_cases hl:es1.length=n
  ·exact ⟨F1,es1,s1,q1,hl,z⟩
  ·rw [m6 hl] at z
   exact aw.stuck z
end
section
variable {P:Program} {w:World} {K:PySem.W.Frag} {mg:Str->Option Value} {base:Heap}
theorem nr {N:List Str} {vs:List V} {ds:List Dat} {i:Nat} {d:Dat} {F:Hp} (q:ak K F ds vs) (h:(ds.map some++List.replicate (N.length-ds.length) none)[i]? =some (some d)):∃v,(start N vs)[i]? =some (some v)/\aZ K F d v:=by
 have hi:i<ds.length:=by
  by_cases hi:i<ds.length
  ·exact hi
  ·rw [List.getElem?_append_right (by simpa using hi),List.getElem?_replicate] at h
   split at h<;>cases h
 rw [List.getElem?_append_left (by simpa using hi),List.getElem?_map] at h
 cases e:ds[i]? with
 |none=>rw [e] at h;cases h
 |some d'=>
  rw [e] at h
  cases h
  obtain ⟨v,e1,q1⟩:=q.get e
  refine ⟨v,?_,q1⟩
  unfold start
  rw [List.getElem?_append_left (by rw [List.length_map,q.length];exact hi),List.getElem?_map,e1]
  rfl
theorem fn_D {x qual:Str} {st:Stmt} {f:Addr} {fd:FuncData} {N ps:List Str} {k:Nat} {O':List Nat} (F:Fun K x qual st f fd) (S:cB N ps (aD st)) (ro:Bool) (g:ae->M Flo)
  (hb:∀(cdv:Value) (A:Around) (outer:List Env) (s:Shared) (H:Hp) (E:XK),jI k (A.deeper (envOfC qual (aD st) s.heap.objs.size f cdv)) ->
   DSs K Wno ro (vy CX0 P w K mg base N qual (aD st) f cdv A outer s H E).nox [] [] O' (eN st) g):gS P w K mg base CX0 (k+1) f fd ps (spF K ro (fA N.length ps.length g) ps.length):=by
 have hpl:ps.length<=N.length:=by have:=congrArg List.length S.pre;rw [List.length_take] at this;omega
 refine F.okX S (fun vs H Q E ⟨F,ds,s,q,l,p⟩=>by rw [q.length,l]) fun cdv A outer s H vs Q E hr ⟨F1,ds,s1,q,l,p⟩=>⟨_,hb cdv A outer s H E hr F1 H,F1,F1,ds.map some++List.replicate (N.length-ds.length) none,?_,?_⟩
 ·refine ⟨Step.refl s1,aC.refl _,?_,fun i d e _=>nr q e,(fun i d e h=>nomatch h),(fun i j ds es a h=>nomatch h)⟩
  unfold start
  rw [List.length_append,List.length_append,List.length_map,List.length_map,List.length_replicate,List.length_replicate,q.length]
 ·have e1:fA N.length ps.length g ds=(g (ds.map some++List.replicate (N.length-ds.length) none)).bind fun fl=>match fl with
   |.nx _=>.ok .non
   |.rt d=>.ok d
   |_=>stk:=by
    unfold fA
    exact if_pos l
  rw [e1] at p
  cases e2:g (ds.map some++List.replicate (N.length-ds.length) none) with
  |error z=>rw [e2] at p;exact p
  |ok fl=>
   rw [e2] at p
   cases fl with
   |nx ρ=>exact fun σ F H r=>p .non F H r.st (by cases ro<;>rfl)
   |rt d=>exact fun v F H st q=>p v F H st q
   |bk ρ=>exact aw.stuck p
   |ct ρ=>exact aw.stuck p
noncomputable def rV (K:PySem.W.Frag):Sp:=fun vs H Q _=>∃(a:Addr) (ns:List Int),vs=[.ref a]/\SqL K H a (ns.map V.int)/\ns.length<=63/\∀H',Q (.bl true) H'
theorem lH {F:Hp}:∀is:List Int,ak K F (is.map Dat.int) (is.map V.int)
 |[]=>rfl
 |i::is=>⟨.int i,is.map V.int,rfl,rfl,lH is⟩
theorem law_ok {k:Nat} {f:Addr} {fd:FuncData} {x:Str} {ro:Bool} {mlaw:Nat->List Dat->M Dat} (F:∀n,gS P w K mg base CX0 k f fd [x] (spF K ro (mlaw n) 1)) (h:∀ns:List Int,ns.length<=63->∃n,mlaw n [.lst (ns.map .int)]=.ok (.bl true)):gS P w K mg base CX0 k f fd [x] (rV K):=by
 refine ⟨fun vs H Q E ⟨a,ns,e,_⟩=>by rw [e];rfl,fun A outer s H args us vs Q E hr he hb hv ⟨a,ns,e,hq,hl,q⟩=>?_⟩
 obtain ⟨n,hn⟩:=h ns hl
 refine (F n).run A outer s H args us vs Q E hr he hb hv ⟨H,[.lst (ns.map .int)],aC.refl _,⟨.ref a,[],e,⟨a,_,rfl,hq,lH ns⟩,rfl⟩,rfl,?_⟩
 rw [hn]
 intro v F' H' st z
 have:v=.bl true:=by cases ro<;>exact z
 rw [this]
 exact q H'
end
end L2
namespace L2
open PySem PySem.Spec PyProof.Rows
structure Kit (K:PySem.W.Frag):Prop where
 gz:kitOne K (.type "int") (.type "int")=some true
 fN:kitOne K (.type "bool") (.type "int")=some true
 fH:kitOne K (.type "list") (.type "int")=some false
 e8:kitOne K (.type "tuple") (.type "int")=some false
 gv:kitOne K (.type "str") (.type "int")=some false
 cm:kitOne K (.type "NoneType") (.type "int")=some false
 fK:kitOne K (.type "int") (.type "bool")=some false
 eC:kitOne K (.type "bool") (.type "bool")=some true
 eu:kitOne K (.type "list") (.type "bool")=some false
 dw:kitOne K (.type "tuple") (.type "bool")=some false
 fF:kitOne K (.type "str") (.type "bool")=some false
 bQ:kitOne K (.type "NoneType") (.type "bool")=some false
 fJ:kitOne K (.type "int") (.type "list")=some false
 eB:kitOne K (.type "bool") (.type "list")=some false
 ee:kitOne K (.type "list") (.type "list")=some true
 dv:kitOne K (.type "tuple") (.type "list")=some false
 fE:kitOne K (.type "str") (.type "list")=some false
 bP:kitOne K (.type "NoneType") (.type "list")=some false
 eA:kitOne K (.type "int") (.type "tuple")=some false
 dA:kitOne K (.type "bool") (.type "tuple")=some false
 dz:kitOne K (.type "list") (.type "tuple")=some false
 cM:kitOne K (.type "tuple") (.type "tuple")=some true
 e9:kitOne K (.type "str") (.type "tuple")=some false
 bC:kitOne K (.type "NoneType") (.type "tuple")=some false
 gw:kitOne K (.type "int") (.type "str")=some false
 fM:kitOne K (.type "bool") (.type "str")=some false
 fG:kitOne K (.type "list") (.type "str")=some false
 dZ:kitOne K (.type "tuple") (.type "str")=some false
 gu:kitOne K (.type "str") (.type "str")=some true
 ck:kitOne K (.type "NoneType") (.type "str")=some false
section
variable {X:Cx} {K:PySem.W.Frag} {W:cy} {own ro:Bool} {e a b c:Expr} {es:List Expr} {x:Str} {pos p p2:Pos} {f fa fb fc:ae->M Dat} {fr:ae->M (List Dat)} {ft:ae->M Bool}
theorem uX {pins:List (Addr×Obj)} {σ:St} {F H:Hp} {s:Shared} {T:String} {d:Dat} {x:V} {u:Value} {bi bb bl bt bs bn:Bool} {Q:Value->Shared->Prop} (I:Inv X pins σ H s) (hF:aC F H) (q:aZ X.K F d x) (r:RelV x u)
  (hi:kitOne X.K (.type "int") (.type T)=some bi) (hb:kitOne X.K (.type "bool") (.type T)=some bb) (hl:kitOne X.K (.type "list") (.type T)=some bl) (ht:kitOne X.K (.type "tuple") (.type T)=some bt)
  (hs:kitOne X.K (.type "str") (.type T)=some bs) (hn:kitOne X.K (.type "NoneType") (.type T)=some bn)
  (h:∀k tk,(match d with|.int _=>k=bi|.bl _=>k=bb|.lst _=>k=bl|.tup _=>k=bt|.str _=>k=bs|.non=>k=bn|.ins _ _=>False|.dic _=>False|.dil _=>False)->Q (.bool k) {s with toks:=tk}) (no:∀C fs,d≠.ins C fs) (nd:∀ks,d≠.dic ks) (nl:∀ks,d≠.dil ks) :
  wpAny (model X.prog X.w) X.A (call (.builtin "isinstance") [u,.type T]) Q X.xe s:=by
 cases d with
 |non=>cases (show x=.non from q);cases r;exact kia_one PySem.W.kitx_none I.kIn True.intro hn (fun z=>nomatch z) fun tk=>h _ tk rfl
 |bl y=>cases (show x=.bl y from q);cases r;exact kia_one PySem.W.kitx_bool I.kIn True.intro hb (fun z=>nomatch z) fun tk=>h _ tk rfl
 |int i=>cases (show x=.int i from q);obtain ⟨t,rfl⟩:=r;exact kia_one PySem.W.kitx_int I.kIn True.intro hi (fun z=>nomatch z) fun tk=>h _ tk rfl
 |str y=>cases (show x=.str y from q);obtain ⟨t,rfl⟩:=r;exact kia_one PySem.W.kitx_str I.kIn True.intro hs (fun z=>nomatch z) fun tk=>h _ tk rfl
 |lst ds=>
  obtain ⟨l,xs,e,t,_⟩:=q
  subst e
  cases r
  obtain ⟨its,_,pl,_⟩:=I.list (hF.lst t)
  obtain ⟨o,h1,h2,_⟩:=pl.isList
  exact kia_one PySem.W.kitx_list I.kIn ⟨o,h1,h2⟩ hl (fun z=>nomatch z) fun tk=>h _ tk rfl
 |tup ds=>
  obtain ⟨l,xs,e,t,_⟩:=q
  subst e
  cases r
  obtain ⟨its,_,pl,_⟩:=I.tuple (hF.tup t)
  obtain ⟨o,h1,h2,_⟩:=pl
  exact kia_one PySem.W.kitx_tuple I.kIn ⟨o,h1,h2⟩ ht (fun z=>nomatch z) fun tk=>h _ tk rfl
 |ins C fs=>exact absurd rfl (no C fs)
 |dic ks=>exact absurd rfl (nd ks)
 |dil ks=>exact absurd rfl (nl ks)
theorem kC {T:String} {y:Str} {g:Dat->M Dat} (hc:bB X (.builtin "isinstance") (fun xs H Q=>∃v,xs=[v,.ty T]/\rD1 K W own g v H Q)) (hm:X.mg "isinstance"=none) (hmT:X.mg y=none) (hvT:bootBuiltins y=some (.type T)) (ha:DE K W false X a fa)
  (hg:Gl X "isinstance":=by rfl) (hgT:Gl X y:=by rfl) (hn:y≠"__name__":=by decide) (hd:(y==("__debug__":Str))=false:=by decide)
  (hst:starEach [a,.Name y p2] X.env=[(false,eval a X.env),(false,eval (.Name y p2) X.env)]:=by rfl) (hst2:starEach [.Name y p2] X.env=[(false,eval (.Name y p2) X.env)]:=by rfl) (hpl:(backTo pos (starEach [.Name y p2] X.env)).any (·.1)=false:=by rfl) :
  DE K W own X (.Call (.Name "isinstance" p) [a,.Name y p2] [] pos) (f1 g fa):=
 (dh hc hg hm boot_isinstance (aF ha (aF (uo (pos:=p2) hgT hmT hvT hn hd) cj hst2) (by rw [hst,hst2])) (by decide) (by decide) (by rw [hst,hst2]) hpl).imp fun σ H Q h=>by
  obtain ⟨F,ρ,r,s,q⟩:=rd_1 h
  refine ⟨F,ρ,r,s,?_⟩
  cases e1:fa ρ with
  |error z=>rw [e1] at q;exact q
  |ok d=>rw [e1] at q;exact fun v F' H' st z=>⟨v,rfl,q v F' H' st z⟩
theorem oz (kit:Kit K) (hK:X.K=K:=by rfl):bB X (.builtin "isinstance") (fun xs H Q=>∃v,xs=[v,.ty "int"]/\rD1 K W own eZ v H Q):=by
 subst hK
 intro pins s σ H xs us Q I r h
 obtain ⟨v,rfl,F,d,s1,q,p⟩:=h
 obtain ⟨u,w,rfl,ru,rw'⟩:=r.two
 cases (show w=Value.type "int" from rw')
 by_cases hi:(∃C fs,d=.ins C fs)\/(∃ks,d=.dic ks)\/∃ks,d=.dil ks
 ·rcases hi with ⟨C,fs,rfl⟩|⟨ks,rfl⟩|⟨ks,rfl⟩<;>exact aw.stuck p
 ·refine uX I s1 q ru kit.gz kit.fN kit.fH kit.e8 kit.gv kit.cm (fun k tk hk=>⟨.bl k,H,I.tok tk,rfl,?_⟩) (fun C fs e=>hi (.inl ⟨C,fs,e⟩)) (fun ks e=>hi (.inr (.inl ⟨ks,e⟩))) (fun ks e=>hi (.inr (.inr ⟨ks,e⟩)))
  cases d<;>first|(have hk':k=_:=hk;subst hk';exact aw.bl (own:=own) p s1)|exact absurd (.inl ⟨_,_,rfl⟩) hi|exact absurd (.inr (.inl ⟨_,rfl⟩)) hi|exact absurd (.inr (.inr ⟨_,rfl⟩)) hi
theorem sT (kit:Kit K) (hm:X.mg "isinstance"=none) (hmT:X.mg "int"=none) (ha:DE K W false X a fa) (hK:X.K=K:=by rfl)
  (hg:Gl X "isinstance":=by rfl) (hgT:Gl X "int":=by rfl)
  (hst:starEach [a,.Name "int" p2] X.env=[(false,eval a X.env),(false,eval (.Name "int" p2) X.env)]:=by rfl) (hst2:starEach [.Name "int" p2] X.env=[(false,eval (.Name "int" p2) X.env)]:=by rfl) (hpl:(backTo pos (starEach [.Name "int" p2] X.env)).any (·.1)=false:=by rfl) :
  DE K W own X (.Call (.Name "isinstance" p) [a,.Name "int" p2] [] pos) (f1 eZ fa):=kC (oz kit hK) hm hmT (by decide +kernel) ha hg hgT (by decide) (by decide) hst hst2 hpl
theorem lM (kit:Kit K) (hK:X.K=K:=by rfl):bB X (.builtin "isinstance") (fun xs H Q=>∃v,xs=[v,.ty "bool"]/\rD1 K W own dB v H Q):=by
 subst hK
 intro pins s σ H xs us Q I r h
 obtain ⟨v,rfl,F,d,s1,q,p⟩:=h
 obtain ⟨u,w,rfl,ru,rw'⟩:=r.two
 cases (show w=Value.type "bool" from rw')
 by_cases hi:(∃C fs,d=.ins C fs)\/(∃ks,d=.dic ks)\/∃ks,d=.dil ks
 ·rcases hi with ⟨C,fs,rfl⟩|⟨ks,rfl⟩|⟨ks,rfl⟩<;>exact aw.stuck p
 ·refine uX I s1 q ru kit.fK kit.eC kit.eu kit.dw kit.fF kit.bQ (fun k tk hk=>⟨.bl k,H,I.tok tk,rfl,?_⟩) (fun C fs e=>hi (.inl ⟨C,fs,e⟩)) (fun ks e=>hi (.inr (.inl ⟨ks,e⟩))) (fun ks e=>hi (.inr (.inr ⟨ks,e⟩)))
  cases d<;>first|(have hk':k=_:=hk;subst hk';exact aw.bl (own:=own) p s1)|exact absurd (.inl ⟨_,_,rfl⟩) hi|exact absurd (.inr (.inl ⟨_,rfl⟩)) hi|exact absurd (.inr (.inr ⟨_,rfl⟩)) hi
theorem pO (kit:Kit K) (hm:X.mg "isinstance"=none) (hmT:X.mg "bool"=none) (ha:DE K W false X a fa) (hK:X.K=K:=by rfl)
  (hg:Gl X "isinstance":=by rfl) (hgT:Gl X "bool":=by rfl)
  (hst:starEach [a,.Name "bool" p2] X.env=[(false,eval a X.env),(false,eval (.Name "bool" p2) X.env)]:=by rfl) (hst2:starEach [.Name "bool" p2] X.env=[(false,eval (.Name "bool" p2) X.env)]:=by rfl) (hpl:(backTo pos (starEach [.Name "bool" p2] X.env)).any (·.1)=false:=by rfl) :
  DE K W own X (.Call (.Name "isinstance" p) [a,.Name "bool" p2] [] pos) (f1 dB fa):=kC (lM kit hK) hm hmT (by decide +kernel) ha hg hgT (by decide) (by decide) hst hst2 hpl
theorem sW (kit:Kit K) (hK:X.K=K:=by rfl):bB X (.builtin "isinstance") (fun xs H Q=>∃v,xs=[v,.ty "list"]/\rD1 K W own bR v H Q):=by
 subst hK
 intro pins s σ H xs us Q I r h
 obtain ⟨v,rfl,F,d,s1,q,p⟩:=h
 obtain ⟨u,w,rfl,ru,rw'⟩:=r.two
 cases (show w=Value.type "list" from rw')
 by_cases hi:(∃C fs,d=.ins C fs)\/(∃ks,d=.dic ks)\/∃ks,d=.dil ks
 ·rcases hi with ⟨C,fs,rfl⟩|⟨ks,rfl⟩|⟨ks,rfl⟩<;>exact aw.stuck p
 ·refine uX I s1 q ru kit.fJ kit.eB kit.ee kit.dv kit.fE kit.bP (fun k tk hk=>⟨.bl k,H,I.tok tk,rfl,?_⟩) (fun C fs e=>hi (.inl ⟨C,fs,e⟩)) (fun ks e=>hi (.inr (.inl ⟨ks,e⟩))) (fun ks e=>hi (.inr (.inr ⟨ks,e⟩)))
  cases d<;>first|(have hk':k=_:=hk;subst hk';exact aw.bl (own:=own) p s1)|exact absurd (.inl ⟨_,_,rfl⟩) hi|exact absurd (.inr (.inl ⟨_,rfl⟩)) hi|exact absurd (.inr (.inr ⟨_,rfl⟩)) hi
theorem ij (kit:Kit K) (hm:X.mg "isinstance"=none) (hmT:X.mg "list"=none) (ha:DE K W false X a fa) (hK:X.K=K:=by rfl)
  (hg:Gl X "isinstance":=by rfl) (hgT:Gl X "list":=by rfl)
  (hst:starEach [a,.Name "list" p2] X.env=[(false,eval a X.env),(false,eval (.Name "list" p2) X.env)]:=by rfl) (hst2:starEach [.Name "list" p2] X.env=[(false,eval (.Name "list" p2) X.env)]:=by rfl) (hpl:(backTo pos (starEach [.Name "list" p2] X.env)).any (·.1)=false:=by rfl) :
  DE K W own X (.Call (.Name "isinstance" p) [a,.Name "list" p2] [] pos) (f1 bR fa):=kC (sW kit hK) hm hmT (by decide +kernel) ha hg hgT (by decide) (by decide) hst hst2 hpl
theorem pV (kit:Kit K) (hK:X.K=K:=by rfl):bB X (.builtin "isinstance") (fun xs H Q=>∃v,xs=[v,.ty "tuple"]/\rD1 K W own lq v H Q):=by
 subst hK
 intro pins s σ H xs us Q I r h
 obtain ⟨v,rfl,F,d,s1,q,p⟩:=h
 obtain ⟨u,w,rfl,ru,rw'⟩:=r.two
 cases (show w=Value.type "tuple" from rw')
 by_cases hi:(∃C fs,d=.ins C fs)\/(∃ks,d=.dic ks)\/∃ks,d=.dil ks
 ·rcases hi with ⟨C,fs,rfl⟩|⟨ks,rfl⟩|⟨ks,rfl⟩<;>exact aw.stuck p
 ·refine uX I s1 q ru kit.eA kit.dA kit.dz kit.cM kit.e9 kit.bC (fun k tk hk=>⟨.bl k,H,I.tok tk,rfl,?_⟩) (fun C fs e=>hi (.inl ⟨C,fs,e⟩)) (fun ks e=>hi (.inr (.inl ⟨ks,e⟩))) (fun ks e=>hi (.inr (.inr ⟨ks,e⟩)))
  cases d<;>first|(have hk':k=_:=hk;subst hk';exact aw.bl (own:=own) p s1)|exact absurd (.inl ⟨_,_,rfl⟩) hi|exact absurd (.inr (.inl ⟨_,rfl⟩)) hi|exact absurd (.inr (.inr ⟨_,rfl⟩)) hi
theorem de_isi_tuple (kit:Kit K) (hm:X.mg "isinstance"=none) (hmT:X.mg "tuple"=none) (ha:DE K W false X a fa) (hK:X.K=K:=by rfl)
  (hg:Gl X "isinstance":=by rfl) (hgT:Gl X "tuple":=by rfl)
  (hst:starEach [a,.Name "tuple" p2] X.env=[(false,eval a X.env),(false,eval (.Name "tuple" p2) X.env)]:=by rfl) (hst2:starEach [.Name "tuple" p2] X.env=[(false,eval (.Name "tuple" p2) X.env)]:=by rfl) (hpl:(backTo pos (starEach [.Name "tuple" p2] X.env)).any (·.1)=false:=by rfl) :
  DE K W own X (.Call (.Name "isinstance" p) [a,.Name "tuple" p2] [] pos) (f1 lq fa):=kC (pV kit hK) hm hmT (by decide +kernel) ha hg hgT (by decide) (by decide) hst hst2 hpl
noncomputable def tRng (ta:TA) (lo hi:List V->Option Int):TE:=fun σ H Q=>ta σ H fun vs H1=>∃i j,lo vs=some i/\hi vs=some j/\(-(2^62)<=i/\i<2^62/\ -(2^62)<=j/\j<2^62)/\∀r,H1 r=none->Q (.ref r) (upd H1 r (.rng i j))
noncomputable def lo1:List V->Option Int
 |[.int _]=>some 0
 |_=>none
noncomputable def hi1:List V->Option Int
 |[.int j]=>some j
 |_=>none
noncomputable def lo2:List V->Option Int
 |[.int i,.int _]=>some i
 |_=>none
noncomputable def hi2:List V->Option Int
 |[.int _,.int j]=>some j
 |_=>none
theorem qq {pins:List (Addr×Obj)} {σ:St} {H:Hp} {s:Shared} {lo hi:Int} {t u v:Tok} {tk:Nat} (I:Inv X pins σ H s):Inv X pins σ (upd H s.heap.objs.size (.rng lo hi)) {s with heap:=s.heap.push {cls:=.type "range",data:=.fields #[.int lo t,.int hi u,.int 1 v]},toks:=tk}:=
 I.laid (fun b o e=>Heap.get?_push_of_some _ e) (Nat.le_refl _) ⟨t,u,v,Heap.get?_push_size _ rfl⟩
theorem ur {ta:TA} (hg:Gl X "range") (hm:X.mg "range"=none) (ha:PA X [a] ta) (hs:starEach [a] X.env=[(false,eval a X.env)]:=by rfl):PE X (.Call (.Name "range" p) [a] [] pos) (tRng ta lo1 hi1):=by
 intro pins s σ H Q I h
 refine Call_ (hV I hg hm boot_range (PyProof.Rows.callWith_type1 (thn (ha pos pins s σ H _ I h) fun us s1 ⟨vs,H1,I1,r1,q1⟩=>?_) hs rfl))
 obtain ⟨i,j,e1,e2,hb,q⟩:=q1
 match vs,r1,e1,e2 with
 |[.int k],r1,e1,e2=>
  cases e1
  cases e2
  obtain ⟨u,rfl,t,rfl⟩:=r1.one
  exact call_range_1 ⟨.ref _,_,qq I1,rfl,q _ I1.fresh⟩
theorem pe_rng2 {ta:TA} (hg:Gl X "range") (hm:X.mg "range"=none) (ha:PA X [a,b] ta) (hs:starEach [a,b] X.env=[(false,eval a X.env),(false,eval b X.env)]:=by rfl) (hs2:starEach [b] X.env=[(false,eval b X.env)]:=by rfl):PE X (.Call (.Name "range" p) [a,b] [] pos) (tRng ta lo2 hi2):=by
 intro pins s σ H Q I h
 refine Call_ (hV I hg hm boot_range (PyProof.Rows.callWith_type1 (thn (ha pos pins s σ H _ I h) fun us s1 ⟨vs,H1,I1,r1,q1⟩=>?_) (by rw [hs,hs2]) (by rw [hs2];rfl)))
 obtain ⟨i,j,e1,e2,hb,q⟩:=q1
 match vs,r1,e1,e2 with
 |[.int k,.int m],r1,e1,e2=>
  cases e1
  cases e2
  obtain ⟨u,w,rfl,⟨t,rfl⟩,t',rfl⟩:=r1.two
  exact call_range_2 ⟨.ref _,_,qq I1,rfl,q _ I1.fresh⟩
theorem Vals.of_get:∀{xs:List V} {us:List Value},xs.length=us.length->(∀(i:Nat) v u,xs[i]? =some v->us[i]? =some u->RelV v u)->Vals xs us
 |[],[],_,_=>.nil
 |[],_::_,h,_=>by simp at h
 |_::_,[],h,_=>by simp at h
 |x::xs,u::us,h,q=>.cons (q 0 x u rfl rfl) (Vals.of_get (by simpa using h) fun i v w h1 h2=>q (i+1) v w (by simpa using h1) (by simpa using h2))
theorem ll {lo:Int}:∀{n:Nat} {acc:List Value},acc.length=n->(∀(i:Nat) v,acc[i]? =some v->∃t,v=.int (lo+i) t)->Vals ((List.range n).map fun k:Nat=>V.int (lo+k)) acc:=by
 intro n acc hl h
 refine Vals.of_get (by simp [hl]) fun i v u e1 e2=>?_
 obtain ⟨t,rfl⟩:=h i u e2
 have hi:i<n:=by
  have:=(List.getElem?_eq_some_iff.mp e1).1
  simpa using this
 rw [List.getElem?_map,List.getElem?_range hi] at e1
 cases e1
 exact ⟨t,rfl⟩
theorem iQ (hc:X.calm=true):bB X (.type "list") (fun xs H Q=>∃r lo hi,xs=[.ref r]/\H r=some (.rng lo hi)/\(-(2^62)<=lo/\lo<2^62/\ -(2^62)<=hi/\hi<2^62)/\(hi-lo).toNat<=sizeLine/\∀l,H l=none->Q (.ref l) (upd H l (.lst ((List.range (hi-lo).toNat).map fun k:Nat=>V.int (lo+k))))):=by
 intro pins s σ H xs us Q I rr h
 obtain ⟨r,lo,hi,rfl,hH,⟨b1,b2,b3,b4⟩,hz,q⟩:=h
 obtain ⟨u,rfl,ru⟩:=rr.one
 cases ru
 obtain ⟨t,u,v,e⟩:=(show ∃t u v,s.heap.get? r=some {cls:=.type "range",data:=.fields #[.int lo t,.int hi u,.int 1 v]} from I.hok r _ hH)
 refine call_list_range (n:=(hi-lo).toNat) (I.ok.hd hc) e (small_one b1 b2 b3 b4) (by rw [rangeSize_one];split<;>omega) (by rw [sizeLine_eq] at hz;omega) fun h' tk acc' c' kp e2 it=>?_
 have hv:Vals ((List.range (hi-lo).toNat).map fun k:Nat=>V.int (lo+k)) acc'.toList:=ll (by rw [Array.length_toList];exact it.1) fun i v hi=>by
  obtain ⟨t,e⟩:=it.2 i v (by simpa using hi)
  exact ⟨t,by rw [e,Int.mul_one]⟩
 exact ⟨.ref _,_,I.laid (t':=tk) kp (Nat.le_refl _) (show cA X.prog X.w _ h' _ (.lst _) from ⟨by simpa using hz,acc'.toList,c',hv,by simpa using e2⟩),rfl,q _ I.fresh⟩
theorem kz {F:Hp} (lo:Int) (n:Nat):ak K F (bz lo n) ((List.range n).map fun k:Nat=>V.int (lo+k)):=by
 refine ak.of_get (by simp [bz]) fun i d v h1 h2=>?_
 have hi:i<n:=by
  have:=(List.getElem?_eq_some_iff.mp h2).1
  simpa using this
 unfold bz at h1
 rw [List.getElem?_map,List.getElem?_range hi] at h1 h2
 cases h1
 cases h2
 rfl
theorem qK {F H1:Hp} {Q:VK} {i j:Int} {r:Addr} (p:aw K W true F H1 (bw (bz i (j-i).toNat)) Q) (s:aC F H1) (hr:H1 r=none) :
  (j-i).toNat<=sizeLine/\∀l,upd H1 r (.rng i j) l=none->Q (.ref l) (upd (upd H1 r (.rng i j)) l (.lst ((List.range (j-i).toNat).map fun k:Nat=>V.int (i+k)))):=by
 unfold bw at p
 by_cases hl:(bz i (j-i).toNat).length<=sizeLine
 ·rw [if_pos hl] at p
  refine ⟨by simpa [bz] using hl,fun l hl2=>?_⟩
  have s2:Step F H1 F (upd H1 r (.rng i j)):=Step.grow s hr
  have e:H1 l=none:=s2.hh.free hl2
  exact p _ F _ (s2.trans (Step.grow s2.fh hl2)) ⟨l,_,rfl,ar,s.free e,e,kz i _⟩
 ·rw [if_neg hl] at p
  exact (W.ns p).elim
theorem rg {q1 q2:Pos} (hml:X.mg "list"=none) (hm:X.mg "range"=none) (ha:DA K W X [a] fr) (hc:X.calm=true:=by rfl) (hg:Gl X "range":=by rfl) (hgl:Gl X "list":=by rfl) (hs:starEach [a] X.env=[(false,eval a X.env)]:=by rfl)
  (hst:starEach [.Call (.Name "range" q1) [a] [] q2] X.env=[(false,eval (.Call (.Name "range" q1) [a] [] q2) X.env)]:=by rfl):DE K W true X (.Call (.Name "list" p) [.Call (.Name "range" q1) [a] [] q2] [] pos) (fLR (gm jy fr)):=by
 refine PE.imp (iE (iQ hc) hgl hml PyProof.Rows.boot_list (aF (ur hg hm ha hs) cj hst) (by decide) (by decide) hst rfl) fun σ H Q h=>?_
 obtain ⟨F,ρ,r,s,p⟩:=h
 refine i4 r s (fun e he=>p.err (by unfold fLR gm;rw [he];rfl)) fun ds hd xs F1 H1 s1 q1=>?_
 have e1:fLR (gm jy fr) ρ=(jy ds).bind bw:=by unfold fLR gm;rw [hd];rfl
 rw [e1] at p
 have p1:=p.step s1
 by_cases hds:∃j,ds=[.int j]
 ·obtain ⟨j,rfl⟩:=hds
  obtain ⟨v,vs,e2,q2,e3⟩:=q1
  have p2:aw K W true F1 H1 ((if aK j=true then Except.ok (bz 0 j.toNat) else Except.error Err.stuck:M (List Dat)).bind bw) Q:=p1
  by_cases hj:aK j=true
  ·rw [if_pos hj] at p2
   unfold aK at hj
   simp only [Bool.and_eq_true,decide_eq_true_eq] at hj
   have e4:xs=[.int j]:=by rw [e2,show v=.int j from q2,show vs=[] from e3]
   subst e4
   refine ⟨0,j,rfl,rfl,⟨by decide,by decide,hj.1,hj.2⟩,fun r2 hr2=>?_⟩
   have p3:aw K W true F1 H1 (bw (bz 0 (j-0).toNat)) Q:=by rw [Int.sub_zero];exact p2
   obtain ⟨z1,z2⟩:=qK p3 s1.fh hr2
   exact ⟨r2,0,j,rfl,ar,⟨by decide,by decide,hj.1,hj.2⟩,z1,z2⟩
  ·rw [if_neg hj] at p2
   exact (W.ns p2).elim
 ·have:jy ds=.error .stuck:=by
   unfold jy
   split
   ·exact absurd ⟨_,rfl⟩ hds
   ·rfl
  rw [this] at p1
  exact (W.ns p1).elim
theorem de_lrng2 {q1 q2:Pos} (hml:X.mg "list"=none) (hm:X.mg "range"=none) (ha:DA K W X [a,b] fr) (hc:X.calm=true:=by rfl) (hg:Gl X "range":=by rfl) (hgl:Gl X "list":=by rfl) (hs:starEach [a,b] X.env=[(false,eval a X.env),(false,eval b X.env)]:=by rfl) (hs2:starEach [b] X.env=[(false,eval b X.env)]:=by rfl)
  (hst:starEach [.Call (.Name "range" q1) [a,b] [] q2] X.env=[(false,eval (.Call (.Name "range" q1) [a,b] [] q2) X.env)]:=by rfl):DE K W true X (.Call (.Name "list" p) [.Call (.Name "range" q1) [a,b] [] q2] [] pos) (fLR (gm oP fr)):=by
 refine PE.imp (iE (iQ hc) hgl hml PyProof.Rows.boot_list (aF (pe_rng2 hg hm ha hs hs2) cj hst) (by decide) (by decide) hst rfl) fun σ H Q h=>?_
 obtain ⟨F,ρ,r,s,p⟩:=h
 refine i4 r s (fun e he=>p.err (by unfold fLR gm;rw [he];rfl)) fun ds hd xs F1 H1 s1 q1=>?_
 have e1:fLR (gm oP fr) ρ=(oP ds).bind bw:=by unfold fLR gm;rw [hd];rfl
 rw [e1] at p
 have p1:=p.step s1
 by_cases hds:∃i j,ds=[.int i,.int j]
 ·obtain ⟨i,j,rfl⟩:=hds
  obtain ⟨v,vs,e2,q2,v2,vs2,e3,q3,e4⟩:=q1
  have p2:aw K W true F1 H1 ((if (aK i&&aK j)=true then Except.ok (bz i (j-i).toNat) else Except.error Err.stuck:M (List Dat)).bind bw) Q:=p1
  by_cases hj:(aK i&&aK j)=true
  ·rw [if_pos hj] at p2
   unfold aK at hj
   simp only [Bool.and_eq_true,decide_eq_true_eq] at hj
   have e5:xs=[.int i,.int j]:=by rw [e2,show v=.int i from q2,e3,show v2=.int j from q3,show vs2=[] from e4]
   subst e5
   refine ⟨i,j,rfl,rfl,⟨hj.1.1,hj.1.2,hj.2.1,hj.2.2⟩,fun r2 hr2=>?_⟩
   obtain ⟨z1,z2⟩:=qK p2 s1.fh hr2
   exact ⟨r2,i,j,rfl,ar,⟨hj.1.1,hj.1.2,hj.2.1,hj.2.2⟩,z1,z2⟩
  ·rw [if_neg hj] at p2
   exact (W.ns p2).elim
 ·have:oP ds=.error .stuck:=by
   unfold oP
   split
   ·exact absurd ⟨_,_,rfl⟩ hds
   ·rfl
  rw [this] at p1
  exact (W.ns p1).elim
end
end L2
namespace L2
open PySem PySem.Spec PyProof.Rows
section
variable {X:Cx} {es:List Expr} {x:Str} {p:Pos}
theorem iN {N':List Str} {sc:Scope} {L:Addr} {cs:List (Str×Addr)} {s:Shared} {H:Hp} {fp:List Addr} {i:Nat} {is:List Nat} (hN:N'.Nodup) (h2:PGs (aS X N' sc L cs s H fp) es (f6 is)) (hi:N'[i]? =some x:=by rfl) (hx:Loc (aS X N' sc L cs s H fp).env.scope x:=by first|exact Or.inl rfl|exact Or.inr rfl)
  (hf:(aS X N' sc L cs s H fp).fn x=true\/(aS X N' sc L cs s H fp).env.scope.names.lookup x=some .local:=by first|exact .inl rfl|exact .inr rfl|assumption)
  (hs:(assignEach (.Name x p::es) (aS X N' sc L cs s H fp).env).map (·.2)=assign (.Name x p) (aS X N' sc L cs s H fp).env::(assignEach es (aS X N' sc L cs s H fp).env).map (·.2):=by rfl):PGs (aS X N' sc L cs s H fp) (.Name x p::es) (f6 (i::is)):=qz (pg_c hN hi hx hf) h2 hs
end
end L2
namespace L2
open PySem PySem.Spec PyProof.Rows
open PySem.W in
noncomputable def cH {α:Type} (lt:Nat->Nat->Bool):KasT α->α
 |.ret a=>a
 |.ask i j k=>cH lt (k (lt i j))
section
open PySem.W
variable {α β:Type} {lt:Nat->Nat->Bool}
theorem fw (f:α->KasT β):∀t:KasT α,cH lt (t.bind f)=cH lt (f (cH lt t))
 |.ret _=>rfl
 |.ask i j k=>fw f (k (lt i j))
variable {key:Nat->Int} {p:Array Nat}
noncomputable def kAt (key:Nat->Int) (p:Array Nat) (i:Nat):Int:=key (p.getD i 0)
noncomputable def Up (key:Nat->Int) (p:Array Nat) (k:Nat):Prop:=∀i j,i<=j->j<k->kAt key p i<=kAt key p j
noncomputable def Down (key:Nat->Int) (p:Array Nat) (k:Nat):Prop:=∀i j,i<=j->j<k->kAt key p j<=kAt key p i
theorem gB {p q:Array Nat} {i j:Nat} (h:p[i]? =q[j]?):kAt key p i=kAt key q j:=by
 unfold kAt
 rw [Array.getD_eq_getD_getElem?,Array.getD_eq_getD_getElem?,h]
theorem kg {i j:Nat} (hj:j<=p.size) (k:Nat):kAt key (kas_rev p i j) k=if i<=k/\k<j then kAt key p (i+j-1-k) else kAt key p k:=by
 have e:=getElem?_mirror_all (i:=i) hj k
 unfold kas_rev
 split
 ·rename_i h;rw [if_pos h] at e;exact gB e
 ·rename_i h;rw [if_neg h] at e;exact gB e
theorem kAt_bub {src d:Nat} (hs:src<p.size) (hd:d<=src) (k:Nat):kAt key (bubble p src d) k=if k=src-d then kAt key p src else if src-d<k/\k<=src then kAt key p (k-1) else kAt key p k:=by
 have e:=getElem?_bubble hs d hd k
 split
 ·rename_i h;rw [if_pos h] at e;exact gB e
 ·rename_i h
  rw [if_neg h] at e
  split
  ·rename_i h2;rw [if_pos h2] at e;exact gB e
  ·rename_i h2;rw [if_neg h2] at e;exact gB e
theorem fW {i j:Nat}:(kas_rev p i j).size=p.size:=mirror_size _ _ _ _
theorem dP {i j:Nat}:(kas_rev p i j).Perm p:=mirror_perm _ _ _ _
noncomputable def ltK (key:Nat->Int) (i j:Nat):Bool:=decide (key i<key j)
theorem vO (p:Array Nat):∀(f n:Nat),1<=n->Up key p n->n<=cH (ltK key) (kas_asc p f n)/\cH (ltK key) (kas_asc p f n)<=n+f/\Up key p (cH (ltK key) (kas_asc p f n)) /\
  (cH (ltK key) (kas_asc p f n)<n+f->kAt key p (cH (ltK key) (kas_asc p f n))<kAt key p (cH (ltK key) (kas_asc p f n)-1))
 |0,n,h1,h=>⟨Nat.le_refl _,Nat.le_refl _,h,fun z=>absurd z (Nat.lt_irrefl _)⟩
 |f+1,n,h1,h=>by
  have e:cH (ltK key) (kas_asc p (f+1) n)=if kAt key p n<kAt key p (n-1) then n else cH (ltK key) (kas_asc p f (n+1)):=by
   show cH (ltK key) (if ltK key (p.getD n 0) (p.getD (n-1) 0)=true then KasT.ret n else kas_asc p f (n+1))=_
   by_cases hc:kAt key p n<kAt key p (n-1)
   ·rw [if_pos (show ltK key (p.getD n 0) (p.getD (n-1) 0)=true from decide_eq_true hc),if_pos hc];rfl
   ·rw [if_neg (show ¬ltK key (p.getD n 0) (p.getD (n-1) 0)=true from fun z=>hc (of_decide_eq_true z)),if_neg hc]
  rw [e]
  by_cases hc:kAt key p n<kAt key p (n-1)
  ·rw [if_pos hc]
   exact ⟨Nat.le_refl _,by omega,h,fun _=>hc⟩
  ·rw [if_neg hc]
   obtain ⟨a1,a2,a3,a4⟩:=vO p f (n+1) (by omega) (fun i j hij hj=>by
    by_cases hjn:j<n
    ·exact h i j hij hjn
    ·have:j=n:=by omega
     subst this
     by_cases hin:i=j
     ·rw [hin];exact Int.le_refl _
     ·have:=h i (j-1) (by omega) (by omega)
      omega)
   exact ⟨by omega,by omega,a3,fun z=>a4 (by omega)⟩
noncomputable def Alike (key:Nat->Int) (p:Array Nat) (n q:Nat):Prop:=∀i,n-(q+1)<=i->i<n->kAt key p i=kAt key p (n-1)
theorem vP {n:Nat}:Alike key p (n+1) 0:=fun i h1 h2=>by rw [show i=n+1-1 by omega]
theorem nF {n q:Nat} (hn:n<=p.size) (ha:Alike key p n q) (hq:q+1<=n) (k:Nat):kAt key (kas_rev p (n-(q+1)) n) k=kAt key p k:=by
 rw [kg hn]
 split
 ·rename_i h
  rw [ha _ (by omega) (by omega),ha k h.1 h.2]
 ·rfl
theorem mK:∀(f:Nat) (p:Array Nat) (n q:Nat),1<=n->q+1<=n->n+f<=p.size->Down key p n->Alike key p n q->∀p' n' q',cH (ltK key) (kas_desc f p n q)=(p',n',q') ->
  p'.Perm p/\p'.size=p.size/\n<=n'/\n'<=n+f/\q'+1<=n'/\Down key p' n'/\Alike key p' n' q'
 |0,p,n,q,h1,hq,hz,hd,ha,p',n',q',e=>by
  cases e
  exact ⟨Array.Perm.refl _,rfl,Nat.le_refl _,Nat.le_refl _,hq,hd,ha⟩
 |f+1,p,n,q,h1,hq,hz,hd,ha,p',n',q',e=>by
  have e0:cH (ltK key) (kas_desc (f+1) p n q)=if kAt key p n<kAt key p (n-1) then (if q>0 then cH (ltK key) (kas_desc f (kas_rev p (n-(q+1)) n) (n+1) 0) else cH (ltK key) (kas_desc f p (n+1) 0))
    else if kAt key p (n-1)<kAt key p n then (p,n,q) else cH (ltK key) (kas_desc f p (n+1) (q+1)):=by
   show cH (ltK key) (if ltK key (p.getD n 0) (p.getD (n-1) 0)=true then (if q>0 then kas_desc f (kas_rev p (n-(q+1)) n) (n+1) 0 else kas_desc f p (n+1) 0)
    else KasT.ask (p.getD (n-1) 0) (p.getD n 0) fun d=>if d=true then .ret (p,n,q) else kas_desc f p (n+1) (q+1))=_
   by_cases hc:kAt key p n<kAt key p (n-1)
   ·rw [if_pos (show ltK key (p.getD n 0) (p.getD (n-1) 0)=true from decide_eq_true hc),if_pos hc]
    by_cases hq0:q>0
    ·rw [if_pos hq0,if_pos hq0]
    ·rw [if_neg hq0,if_neg hq0]
   ·rw [if_neg (show ¬ltK key (p.getD n 0) (p.getD (n-1) 0)=true from fun z=>hc (of_decide_eq_true z)),if_neg hc]
    show cH (ltK key) (if ltK key (p.getD (n-1) 0) (p.getD n 0)=true then KasT.ret (p,n,q) else kas_desc f p (n+1) (q+1))=_
    by_cases hc2:kAt key p (n-1)<kAt key p n
    ·rw [if_pos (show ltK key (p.getD (n-1) 0) (p.getD n 0)=true from decide_eq_true hc2),if_pos hc2];rfl
    ·rw [if_neg (show ¬ltK key (p.getD (n-1) 0) (p.getD n 0)=true from fun z=>hc2 (of_decide_eq_true z)),if_neg hc2]
  rw [e0] at e
  have down1:∀{r:Array Nat},(∀k,kAt key r k=kAt key p k)->kAt key p n<=kAt key p (n-1)->Down key r (n+1):=fun {r} hr hle i j hij hj=>by
   rw [hr,hr]
   by_cases hjn:j<n
   ·exact hd i j hij hjn
   ·have:j=n:=by omega
    subst this
    by_cases hin:i=j
    ·rw [hin];exact Int.le_refl _
    ·have:=hd i (j-1) (by omega) (by omega)
     omega
  by_cases hc:kAt key p n<kAt key p (n-1)
  ·rw [if_pos hc] at e
   by_cases hq0:q>0
   ·rw [if_pos hq0] at e
    have hr:=nF (key:=key) (p:=p) (n:=n) (q:=q) (by omega) ha hq
    obtain ⟨b1,b2,b3,b4,b5,b6,b7⟩:=mK f _ (n+1) 0 (by omega) (by omega) (by rw [fW];omega) (down1 hr (by omega)) vP p' n' q' e
    exact ⟨b1.trans dP,by rw [b2,fW],by omega,by omega,b5,b6,b7⟩
   ·rw [if_neg hq0] at e
    obtain ⟨b1,b2,b3,b4,b5,b6,b7⟩:=mK f _ (n+1) 0 (by omega) (by omega) (by omega) (down1 (fun _=>rfl) (by omega)) vP p' n' q' e
    exact ⟨b1,b2,by omega,by omega,b5,b6,b7⟩
  ·rw [if_neg hc] at e
   by_cases hc2:kAt key p (n-1)<kAt key p n
   ·rw [if_pos hc2] at e
    cases e
    exact ⟨Array.Perm.refl _,rfl,Nat.le_refl _,by omega,hq,hd,ha⟩
   ·rw [if_neg hc2] at e
    obtain ⟨b1,b2,b3,b4,b5,b6,b7⟩:=mK f _ (n+1) (q+1) (by omega) (by omega) (by omega) (down1 (fun _=>rfl) (by omega)) (fun i h1 h2=>by
     show kAt key p i=kAt key p (n+1-1)
     rw [Nat.add_sub_cancel]
     by_cases hin:i=n
     ·rw [hin]
     ·have:=ha i (by omega) (by omega)
      omega) p' n' q' e
    exact ⟨b1,b2,by omega,by omega,b5,b6,b7⟩
theorem qi {n nrem:Nat} (h1:1<=n) (hn:n<=nrem) (hz:nrem<=p.size) (hd:Down key p n):∀m p',cH (ltK key) (kas_tail3 n nrem p)=(m,p')->p'.Perm p/\p'.size=p.size/\1<=m/\m<=nrem/\Up key p' m:=by
 intro m p' e
 unfold kas_tail3 at e
 rw [fw] at e
 cases e
 have hu:Up key (kas_rev p 0 n) n:=fun i j hij hj=>by
  rw [kg (by omega),kg (by omega),if_pos ⟨Nat.zero_le _,by omega⟩,if_pos ⟨Nat.zero_le _,by omega⟩]
  exact hd _ _ (by omega) (by omega)
 obtain ⟨a1,a2,a3,_⟩:=vO (key:=key) (kas_rev p 0 n) (nrem-n) n h1 hu
 exact ⟨dP,fW,by omega,by omega,a3⟩
theorem ky {n nrem:Nat} (h1:1<=n) (hn:n+1<=nrem) (hz:nrem<=p.size) (hall:∀i,i<n->kAt key p i=kAt key p (n-1)) (hlt:kAt key p n<kAt key p (n-1)):∀m p',cH (ltK key) (kas_descPart n nrem p)=(m,p')->p'.Perm p/\p'.size=p.size/\1<=m/\m<=nrem/\Up key p' m:=by
 intro m p' e
 unfold kas_descPart at e
 rw [fw] at e
 obtain ⟨r,n2,q2⟩:∃r n2 q2,cH (ltK key) (kas_desc (nrem-(n+1)) p (n+1) 0)=(r,n2,q2):=⟨_,_,_,rfl⟩
 obtain ⟨q2,er⟩:=q2
 rw [er] at e
 obtain ⟨b1,b2,b3,b4,b5,b6,b7⟩:=mK (key:=key) (nrem-(n+1)) p (n+1) 0 (by omega) (by omega) (by omega) (fun i j hij hj=>by
  by_cases hjn:j<n
  ·rw [hall i (by omega),hall j hjn];exact Int.le_refl _
  ·have:j=n:=by omega
   subst this
   by_cases hin:i=j
   ·rw [hin];exact Int.le_refl _
   ·rw [hall i (by omega)];omega) vP r n2 q2 er
 by_cases hq:q2>0
 ·simp only [if_pos hq] at e
  have hr:=nF (key:=key) (p:=r) (n:=n2) (q:=q2) (by omega) b7 b5
  obtain ⟨c1,c2,c3,c4,c5⟩:=qi (key:=key) (p:=kas_rev r (n2-(q2+1)) n2) (n:=n2) (nrem:=nrem) (by omega) (by omega) (by rw [fW];omega) (fun i j hij hj=>by rw [hr,hr];exact b6 i j hij hj) m p' e
  exact ⟨c1.trans (dP.trans b1),by rw [c2,fW,b2],c3,c4,c5⟩
 ·simp only [if_neg hq] at e
  obtain ⟨c1,c2,c3,c4,c5⟩:=qi (key:=key) (p:=r) (n:=n2) (nrem:=nrem) (by omega) (by omega) (by omega) b6 m p' e
  exact ⟨c1.trans b1,by rw [c2,b2],c3,c4,c5⟩
theorem count_ok {nrem:Nat} (h1:1<=nrem) (hz:nrem<=p.size):∀m p',cH (ltK key) (kas_count nrem p)=(m,p')->p'.Perm p/\p'.size=p.size/\1<=m/\m<=nrem/\Up key p' m:=by
 intro m p' e
 unfold kas_count at e
 rw [fw] at e
 obtain ⟨a1,a2,a3,a4⟩:=vO (key:=key) p (nrem-1) 1 (Nat.le_refl _) (fun i j hij hj=>by rw [show i=j by omega];exact Int.le_refl _)
 obtain ⟨n,en⟩:∃n,cH (ltK key) (kas_asc p (nrem-1) 1)=n:=⟨_,rfl⟩
 rw [en] at e a1 a2 a3 a4
 by_cases hn:(n==nrem)=true
 ·simp only [if_pos hn] at e
  cases e
  exact ⟨Array.Perm.refl _,rfl,a1,by omega,a3⟩
 ·simp only [if_neg hn] at e
  have hn':n≠nrem:=fun z=>hn (by simp [z])
  have hlt:=a4 (by omega)
  by_cases h2:n>1
  ·simp only [if_pos h2] at e
   have e':cH (ltK key) (if ltK key (p.getD 0 0) (p.getD (n-1) 0)=true then KasT.ret (n,p) else kas_descPart n nrem (kas_rev p 0 n))=(m,p'):=e
   by_cases hc:kAt key p 0<kAt key p (n-1)
   ·rw [if_pos (show ltK key (p.getD 0 0) (p.getD (n-1) 0)=true from decide_eq_true hc)] at e'
    cases e'
    exact ⟨Array.Perm.refl _,rfl,a1,by omega,a3⟩
   ·rw [if_neg (show ¬ltK key (p.getD 0 0) (p.getD (n-1) 0)=true from fun z=>hc (of_decide_eq_true z))] at e'
    have all:∀i,i<n->kAt key p i=kAt key p (n-1):=fun i hi=>by
     have x1:=a3 0 i (by omega) hi
     have x2:=a3 i (n-1) (by omega) (by omega)
     omega
    have hr:∀i,i<n->kAt key (kas_rev p 0 n) i=kAt key p (n-1):=fun i hi=>by
     rw [kg (by omega),if_pos ⟨Nat.zero_le _,hi⟩]
     exact all _ (by omega)
    obtain ⟨c1,c2,c3,c4,c5⟩:=ky (key:=key) (p:=kas_rev p 0 n) (n:=n) (nrem:=nrem) a1 (by omega) (by rw [fW];omega) (fun i hi=>by rw [hr i hi,hr (n-1) (by omega)]) (by
     rw [hr (n-1) (by omega),kg (by omega),if_neg (by omega)]
     exact hlt) m p' e'
    exact ⟨c1.trans dP,by rw [c2,fW],c3,c4,c5⟩
  ·simp only [if_neg h2] at e
   have:n=1:=by omega
   subst this
   exact ky (key:=key) (Nat.le_refl _) (by omega) hz (fun i hi=>by rw [show i=1-1 by omega]) hlt m p' e
theorem m9 {k:Nat} (hu:Up key p k):∀(f l r:Nat),r<=k->r-l<=f->l<=r->(∀i,i<l->kAt key p i<=kAt key p k)->(∀i,r<=i->i<k->kAt key p k<kAt key p i) ->
  cH (ltK key) (kas_place p k f l r)<=k/\(∀i,i<cH (ltK key) (kas_place p k f l r)->kAt key p i<=kAt key p k)/\∀i,cH (ltK key) (kas_place p k f l r)<=i->i<k->kAt key p k<kAt key p i
 |0,l,r,hr,hf,hlr,h1,h2=>by
  have:l=r:=by omega
  subst this
  exact ⟨hr,h1,h2⟩
 |f+1,l,r,hr,hf,hlr,h1,h2=>by
  by_cases hge:l>=r
  ·have:l=r:=by omega
   subst this
   have e:cH (ltK key) (kas_place p k (f+1) l l)=l:=by
    show cH (ltK key) (if l>=l then KasT.ret l else _)=l
    rw [if_pos hge];rfl
   rw [e]
   exact ⟨hr,h1,h2⟩
  ·have e:cH (ltK key) (kas_place p k (f+1) l r)=if kAt key p k<kAt key p ((l+r)/2) then cH (ltK key) (kas_place p k f l ((l+r)/2)) else cH (ltK key) (kas_place p k f ((l+r)/2+1) r):=by
    show cH (ltK key) (if l>=r then KasT.ret l else .ask (p.getD k 0) (p.getD ((l+r)/2) 0) fun c=>if c=true then kas_place p k f l ((l+r)/2) else kas_place p k f ((l+r)/2+1) r)=_
    rw [if_neg hge]
    show cH (ltK key) (if ltK key (p.getD k 0) (p.getD ((l+r)/2) 0)=true then kas_place p k f l ((l+r)/2) else kas_place p k f ((l+r)/2+1) r)=_
    by_cases hc:kAt key p k<kAt key p ((l+r)/2)
    ·rw [if_pos (show ltK key (p.getD k 0) (p.getD ((l+r)/2) 0)=true from decide_eq_true hc),if_pos hc]
    ·rw [if_neg (show ¬ltK key (p.getD k 0) (p.getD ((l+r)/2) 0)=true from fun z=>hc (of_decide_eq_true z)),if_neg hc]
   rw [e]
   by_cases hc:kAt key p k<kAt key p ((l+r)/2)
   ·rw [if_pos hc]
    exact m9 hu f l ((l+r)/2) (by omega) (by omega) (by omega) h1 fun i hi hik=>by
     have:=hu ((l+r)/2) i hi hik
     omega
   ·rw [if_neg hc]
    exact m9 hu f ((l+r)/2+1) r hr (by omega) (by omega) (fun i hi=>by
     have:=hu i ((l+r)/2) (by omega) (by omega)
     omega) h2
theorem bin_ok:∀(f:Nat) (p:Array Nat) (k:Nat),k+f<=p.size->Up key p k->(cH (ltK key) (kas_bin f p k)).Perm p/\Up key (cH (ltK key) (kas_bin f p k)) (k+f)
 |0,p,k,hz,hu=>⟨Array.Perm.refl _,hu⟩
 |f+1,p,k,hz,hu=>by
  have e:cH (ltK key) (kas_bin (f+1) p k)=cH (ltK key) (kas_bin f (bubble p k (k-cH (ltK key) (kas_place p k k 0 k))) (k+1)):=by
   show cH (ltK key) ((kas_place p k k 0 k).bind fun l=>kas_bin f (bubble p k (k-l)) (k+1))=_
   rw [fw]
  rw [e]
  obtain ⟨a1,a2,a3⟩:=m9 hu k 0 k (Nat.le_refl _) (by omega) (Nat.zero_le _) (fun i hi=>absurd hi (Nat.not_lt_zero _)) (fun i h1 h2=>by omega)
  obtain ⟨l,el⟩:∃l,cH (ltK key) (kas_place p k k 0 k)=l:=⟨_,rfl⟩
  rw [el] at a1 a2 a3 ⊢
  have hb:=kAt_bub (key:=key) (p:=p) (src:=k) (d:=k-l) (by omega) (by omega)
  obtain ⟨c1,c2⟩:=bin_ok f (bubble p k (k-l)) (k+1) (by rw [bubble_size];omega) (fun i j hij hj=>by
   have e1:k-(k-l)=l:=by omega
   rw [hb,hb,e1]
   by_cases hi:i=l
   ·rw [if_pos hi]
    by_cases hj2:j=l
    ·rw [if_pos hj2];exact Int.le_refl _
    ·rw [if_neg hj2,if_pos (by omega)]
     have:=a3 (j-1) (by omega) (by omega)
     omega
   ·rw [if_neg hi]
    by_cases hj2:j=l
    ·rw [if_pos hj2,if_neg (by omega)]
     exact a2 i (by omega)
    ·rw [if_neg hj2]
     by_cases hi2:l<i/\i<=k
     ·rw [if_pos hi2,if_pos (by omega)]
      exact hu _ _ (by omega) (by omega)
     ·rw [if_neg hi2]
      by_cases hj3:l<j/\j<=k
      ·rw [if_pos hj3]
       exact hu _ _ (by omega) (by omega)
      ·rw [if_neg hj3]
       exact hu _ _ (by omega) (by omega))
  exact ⟨c1.trans (bubble_perm _ _ _),by rw [show k+(f+1)=k+1+f by omega];exact c2⟩
theorem pj {n:Nat} (h1:1<=n):(cH (ltK key) (kas_sort n)).toList.Perm (List.range n)/\Up key (cH (ltK key) (kas_sort n)) n:=by
 unfold kas_sort
 rw [fw]
 obtain ⟨m,p',er⟩:∃m p',cH (ltK key) (kas_count n (List.toArray (List.range n)))=(m,p'):=⟨_,_,rfl⟩
 rw [er]
 obtain ⟨b1,b2,b3,b4,b5⟩:=count_ok (key:=key) (p:=List.toArray (List.range n)) h1 (by simp) m p' er
 have hsz:p'.size=n:=by rw [b2];simp
 by_cases hm:m<n
 ·simp only [if_pos hm]
  have em:max m 1=m:=by omega
  rw [em]
  obtain ⟨c1,c2⟩:=bin_ok (key:=key) (n-m) p' m (by omega) b5
  refine ⟨?_,by rw [show m+(n-m)=n by omega] at c2;exact c2⟩
  have:=Array.perm_iff_toList_perm.mp (c1.trans b1)
  simpa using this
 ·simp only [if_neg hm]
  have:m=n:=by omega
  subst this
  refine ⟨?_,b5⟩
  have:=Array.perm_iff_toList_perm.mp b1
  show p'.toList.Perm _
  simpa using this
end
end L2
namespace L2
open PySem PySem.Spec PyProof.Rows
section
open PySem.W
variable {α β:Type} {n:Nat}
noncomputable def rG (n:Nat) (R:α->Prop):KasT α->Prop
 |.ret a=>R a
 |.ask i j k=>i<n/\j<n/\∀b,rG n R (k b)
theorem fR {R:α->Prop} {S:β->Prop} {f:α->KasT β} (hf:∀a,R a->rG n S (f a)):∀t:KasT α,rG n R t->rG n S (t.bind f)
 |.ret a,h=>hf a h
 |.ask i j k,h=>⟨h.1,h.2.1,fun b=>fR hf (k b) (h.2.2 b)⟩
theorem lh {lt:Nat->Nat->Bool} {R:α->Prop} {cmp:Nat->Nat->(Bool->Shared->Prop)->Shared->Prop} {s:Shared} (ha:∀i j (C:Bool->Shared->Prop),i<n->j<n->C (lt i j) s->cmp i j C s) {Q:α->Shared->Prop}:∀t:KasT α,rG n R t->Q (cH lt t) s->t.kasWp cmp Q s
 |.ret _,_,h=>h
 |.ask i j k,r,h=>ha i j _ r.1 r.2.1 (lh ha (k (lt i j)) (r.2.2 _) h)
noncomputable def InB (n:Nat) (p:Array Nat):Prop:=∀x,p.getD x 0<n
theorem gN {p q:Array Nat} (h0:0<n) (hp:InB n p) (h:q.Perm p):InB n q:=fun x=>by
 rw [Array.getD_eq_getD_getElem?]
 cases e:q[x]? with
 |none=>exact h0
 |some v=>
  have hv:v∈q.toList:=by
   rw [<- Array.getElem?_toList] at e
   exact List.mem_of_getElem? e
  have hv2:v∈p.toList:=(Array.perm_iff_toList_perm.mp h).mem_iff.mp hv
  obtain ⟨y,hy,ey⟩:=List.getElem_of_mem hv2
  have:=hp y
  rw [Array.getD_eq_getD_getElem?,<- Array.getElem?_toList,List.getElem?_eq_getElem hy,ey] at this
  exact this
variable {p:Array Nat}
theorem mV (hp:InB n p):∀f m,rG n (fun _=>True) (kas_asc p f m)
 |0,_=>trivial
 |f+1,m=>⟨hp _,hp _,fun b=>by
  (try dsimp only)
  split
  ·trivial
  ·exact mV hp f (m+1)⟩
theorem iS (h0:0<n):∀(f:Nat) (p:Array Nat) (m q:Nat),InB n p->rG n (fun r=>InB n r.1) (kas_desc f p m q)
 |0,p,_,_,hp=>hp
 |f+1,p,m,q,hp=>⟨hp _,hp _,fun b=>by
  (try dsimp only)
  split
  ·split
   ·exact iS h0 f _ _ _ (gN h0 hp dP)
   ·exact iS h0 f _ _ _ hp
  ·refine ⟨hp _,hp _,fun c=>?_⟩
   (try dsimp only)
   split
   ·exact hp
   ·exact iS h0 f _ _ _ hp⟩
theorem lN (h0:0<n) (hp:InB n p) (m r:Nat):rG n (fun r=>InB n r.2) (kas_tail3 m r p):=by
 unfold kas_tail3
 refine fR (n:=n) (R:=fun _=>True) (f:=fun k=>KasT.ret (k,kas_rev p 0 m)) (fun a _=>?_) _ (mV (gN h0 hp dP) _ _)
 exact gN h0 hp dP
theorem iR (h0:0<n) (hp:InB n p) (m r:Nat):rG n (fun r=>InB n r.2) (kas_descPart m r p):=by
 refine fR (R:=fun r=>InB n r.1) (fun a ha=>?_) _ (iS h0 _ _ _ _ hp)
 (try dsimp only)
 split
 ·exact lN h0 (gN h0 ha dP) _ _
 ·exact lN h0 ha _ _
theorem t6 (h0:0<n) (hp:InB n p) (r:Nat):rG n (fun r=>InB n r.2) (kas_count r p):=by
 refine fR (R:=fun _=>True) (fun a _=>?_) _ (mV hp _ _)
 (try dsimp only)
 split
 ·exact hp
 ·split
  ·refine ⟨hp _,hp _,fun b=>?_⟩
   (try dsimp only)
   split
   ·exact hp
   ·exact iR h0 (gN h0 hp dP) _ _
  ·exact iR h0 hp _ _
theorem jf (hp:InB n p) (k:Nat):∀f l r,rG n (fun _=>True) (kas_place p k f l r)
 |0,_,_=>trivial
 |f+1,l,r=>by
  show rG n (fun _=>True) (if l>=r then KasT.ret l else _)
  split
  ·trivial
  ·refine ⟨hp _,hp _,fun b=>?_⟩
   (try dsimp only)
   split
   ·exact jf hp k f _ _
   ·exact jf hp k f _ _
theorem rC (h0:0<n):∀(f:Nat) (p:Array Nat) (k:Nat),InB n p->rG n (fun _=>True) (kas_bin f p k)
 |0,_,_,_=>trivial
 |f+1,p,k,hp=>fR (R:=fun _=>True) (fun l _=>rC h0 f _ _ (gN h0 hp (bubble_perm _ _ _))) _ (jf hp k _ _ _)
theorem vN (h0:0<n):rG n (fun _=>True) (kas_sort n):=by
 refine fR (R:=fun r=>InB n r.2) (fun a ha=>?_) _ (t6 h0 (fun x=>?_) _)
 ·(try dsimp only)
  split
  ·exact rC h0 _ _ _ ha
  ·trivial
 ·rw [Array.getD_eq_getD_getElem?]
  simp only [List.getElem?_toArray]
  cases e:(List.range n)[x]? with
  |none=>exact h0
  |some v=>exact List.mem_range.mp (List.mem_of_getElem? e)
end
section
open PySem.W
variable {prog:Program} {w:World} {A:Around} {E:Value->Shared->Prop} {s:Shared} {key:Nat->Int}
noncomputable def j9 (key:Nat->Int) (vs:List Value):List Value:=if vs.length<2 then vs else (cH (ltK key) (kas_sort vs.length)).toList.map fun i=>vs.getD i Value.none
noncomputable def Asks (prog:Program) (w:World) (A:Around) (key:Nat->Int) (vs:List Value) (s':Shared):Prop:=
 wpAny (model prog w) A (keyKind' vs.toArray) (fun κ s2=>s2=s'/\∀i j (C:Bool->Shared->Prop),i<vs.length->j<vs.length->C (ltK key i j) s'->kas_ask prog w A κ vs i j C s') (fun _ _=>False) s'
theorem uM {a:Addr} {vs:List Value} {n:Nat} {P:PySem.Fin->Shared->Prop} (ho:s.heap.get? a=some (seqObj "list" vs.toArray n)) (h64:vs.length<64)
  (hk:2<=vs.length->∀h1:Heap,(∀b o,b≠a->s.heap.get? b=some o->h1.get? b=some o)->Asks prog w A key vs {s with heap:=h1})
  (h:∀(h':Heap) (c:Nat),(∀b o,b≠a->s.heap.get? b=some o->h'.get? b=some o)->h'.get? a=some (seqObj "list" (j9 key vs).toArray c)->P (.done (.ret .none)) {s with heap:=h'}) :
  wpAny (model prog w) A (Builtin.«list.sort» ⟨[.ref a],[]⟩) P E s:=by
 have hlt:a<s.heap.objs.size:=Heap.lt_size ho
 have hline:=sizeLine_eq
 obtain ⟨e1,ho1⟩:∃e1,(s.heap.update a (Obj.mapSeq fun _=>(#[]:Array Value))).get? a=some (seqObj "list" #[] e1):=⟨_,get?_update_seq ho fun _=>#[]⟩
 rw [list_sort_plain]
 refine wpAny_bind (listItems_at ho rfl (wpAny_bind (listUpdate_at ho rfl (wpAny_bind (seqEpoch_at ho1 rfl (wpAny_bind (wpAny_newTuple (wpAny_bind (wpAny_newList (wpAny_holding ?_) (Nat.zero_le _))) (by show vs.length<=_;omega))))) (by rw [List.size_toArray];omega) (Nat.zero_le _))))
 have hkeep:∀b o,b≠a->s.heap.get? b=some o->(((s.heap.update a (Obj.mapSeq fun _=>(#[]:Array Value))).push (seqObj "tuple" vs.toArray 0)).push (seqObj "list" #[] 0)).get? b=some o:=fun b o hb q=>
  Heap.get?_push_of_some _ (Heap.get?_push_of_some _ ((Heap.get?_update_other _ _ (Ne.symm hb)).trans q))
 have ho6:(((s.heap.update a (Obj.mapSeq fun _=>(#[]:Array Value))).push (seqObj "tuple" vs.toArray 0)).push (seqObj "list" #[] 0)).get? a=some (seqObj "list" #[] e1):=Heap.get?_push_of_some _ (Heap.get?_push_of_some _ ho1)
 show wpAny (model prog w) A _ P E {s with heap:=((s.heap.update a (Obj.mapSeq fun _=>(#[]:Array Value))).push (seqObj "tuple" vs.toArray 0)).push (seqObj "list" #[] 0)}
 dsimp only
 have fin:∀(out:List Value),out=j9 key vs->P (.done (.ret .none)) {s with heap:=(((s.heap.update a (Obj.mapSeq fun _=>(#[]:Array Value))).push (seqObj "tuple" vs.toArray 0)).push (seqObj "list" #[] 0)).update a (Obj.mapSeq fun _=>out.toArray)}:=fun out eo=>by
  subst eo
  exact h _ _ (fun b o hb q=>(Heap.get?_update_other _ _ (Ne.symm hb)).trans (hkeep b o hb q)) (get?_update_seq ho6 fun _=>(j9 key vs).toArray)
 by_cases h2:vs.toArray.size<2
 ·rw [if_pos h2,if_pos h2]
  refine wpAny_bind (wpAny_pure ?_)
  rw [StateT.run_pure]
  refine wpAny_bind (wpAny_pure ?_)
  dsimp only
  have h2':vs.length<2:=by simpa using h2
  have eo:(arrOf (SortSt.mk' general' (vs.toArray.zip vs.toArray) #[] 7 none)).map (·.2)=vs.toArray:=by
   show (vs.toArray.zip vs.toArray).map (·.2)=vs.toArray
   apply Array.toList_inj.mp
   simp only [Array.toList_map,Array.toList_zip]
   exact List.map_snd_zip (Nat.le_refl _)
  rw [eo]
  refine wpAny_bind (seqEpoch_at ho6 rfl (wpAny_bind (listUpdate_at ho6 rfl ?_ (Nat.zero_le _) (by show vs.length<=_;omega))))
  have e3:failedOf (SortSt.mk' general' (vs.toArray.zip vs.toArray) #[] 7 none)=none:=rfl
  simp only [e3,bne_self_eq_false,Bool.false_eq_true,if_false]
  exact wpAny_pure (fin vs (by unfold j9;rw [if_pos h2']))
 ·rw [if_neg h2,if_neg h2]
  have h2':2<=vs.length:=by rw [List.size_toArray] at h2;omega
  refine wpAny_bind (wpAny_mono (hk h2' _ hkeep) (fun κ s0 ⟨es,ask⟩=>?_) fun _ _ x=>x.elim)
  subst es
  refine wpAny_bind (wpAny_mono (kat_run (ks:=vs) (vs:=vs) (Q:=fun st' s'=>s'={s with heap:=((s.heap.update a (Obj.mapSeq fun _=>(#[]:Array Value))).push (seqObj "tuple" vs.toArray 0)).push (seqObj "list" #[] 0)}/\(arrOf st').map (·.2)=(j9 key vs).toArray/\failedOf st'=none)
   (G:=fun p s'=>s'={s with heap:=((s.heap.update a (Obj.mapSeq fun _=>(#[]:Array Value))).push (seqObj "tuple" vs.toArray 0)).push (seqObj "list" #[] 0)}/\p=cH (ltK key) (kas_sort vs.length)) rfl h2' h64 (fun p st' s' _ har hf hg=>⟨hg.1,?_,hf⟩) (lh (n:=vs.length) (R:=fun _=>True) (fun i j C hi hj hc=>ask i j C hi hj hc) _ (vN (by omega)) ⟨rfl,rfl⟩)) (fun r s' hr=>?_) fun _ _ x=>x)
  ·rw [kat_snds rfl har,hg.2]
   unfold j9
   rw [if_neg (by omega)]
  ·obtain ⟨⟨⟩,st'⟩:=r
   obtain ⟨es,eo,ef⟩:=hr
   have es:s'=_:=es
   subst es
   have eo:(arrOf st').map (·.2)=(j9 key vs).toArray:=eo
   have ef:failedOf st'=none:=ef
   dsimp only
   rw [eo]
   have hol:(j9 key vs).length=vs.length:=by
    unfold j9
    split
    ·rfl
    ·rw [List.length_map,(pj (key:=key) (n:=vs.length) (by omega)).1.length_eq,List.length_range]
   refine wpAny_bind (seqEpoch_at ho6 rfl (wpAny_bind (listUpdate_at ho6 rfl ?_ (Nat.zero_le _) (by show (j9 key vs).length<=_;omega))))
   simp only [ef,bne_self_eq_false,Bool.false_eq_true,if_false]
   exact wpAny_pure (fin _ rfl)
theorem rW {l:Addr} {vs:List Value} {Q:Value->Shared->Prop} (hl:s.heap.IsList l vs.toArray) (h64:vs.length<64)
  (hk:2<=vs.length->∀h1:Heap,(∀b o,s.heap.get? b=some o->h1.get? b=some o)->Asks prog w A.in1.in1 key vs {s with heap:=h1})
  (h:∀(h':Heap) (D:Addr) (c:Nat),s.heap.objs.size<=D->(∀b o,s.heap.get? b=some o->h'.get? b=some o)->h'.get? D=some (seqObj "list" (j9 key vs).toArray c)->Q (.ref D) {s with heap:=h'}) :
  wpAny (model prog w) A (call (.builtin "sorted") [.ref l]) Q E s:=by
 have hline:=sizeLine_eq
 refine Calls.call_function_entry kind_sorted plain_sorted entry_sorted (args_sorted1 _) ?_
 unfold Builtin.«sorted»
 refine wpAny_bind (m:=checkCount "sorted" 1 1 _) (wpAny_pure (wpAny_bind (collect_list hl (wpAny_bind (wpAny_newList ?_ (by omega))) (by omega))))
 have hz:((s.heap.push (seqObj "list" #[] 0)).update s.heap.objs.size (Obj.mapSeq (·++vs.toArray))).objs.size=s.heap.objs.size+1:=by rw [Heap.size_update,size_push']
 have hD:(((s.heap.push (seqObj "list" #[] 0)).update s.heap.objs.size (Obj.mapSeq (·++vs.toArray))).push (seqObj "list" vs.toArray 0)).get? (s.heap.objs.size+1)=some (seqObj "list" vs.toArray 0):=by rw [<- hz];exact Heap.get?_push_size _ rfl
 have hkeep:∀b o,s.heap.get? b=some o->(((s.heap.push (seqObj "list" #[] 0)).update s.heap.objs.size (Obj.mapSeq (·++vs.toArray))).push (seqObj "list" vs.toArray 0)).get? b=some o:=fun b o q=>
  Heap.get?_push_of_some _ ((Heap.get?_update_other _ _ (Nat.ne_of_gt (Heap.lt_size q))).trans (Heap.get?_push_of_some _ q))
 show wpAny _ _ _ _ _ {s with heap:=((s.heap.push (seqObj "list" #[] 0)).update s.heap.objs.size (Obj.mapSeq (·++vs.toArray))).push (seqObj "list" vs.toArray 0)}
 rw [hz]
 have hnD:∀b o,s.heap.get? b=some o->b≠s.heap.objs.size+1:=fun b o q=>Nat.ne_of_lt (Nat.lt_succ_of_lt (Heap.lt_size q))
 refine wpAny_bind (wpAny_holding (wpAny_call_entry slot_list_sort ⟨_,hD,rfl⟩ entry_list_sort (uM hD h64 (fun h2 h1 hk1=>hk h2 h1 fun b o q=>hk1 b o (hnD b o q) (hkeep b o q)) fun h' c k' e'=>⟨_,rfl,?_⟩) (args_list_sort _)))
 exact wpAny_pure ⟨_,rfl,h h' _ c (Nat.le_succ _) (fun b o q=>k' b o (hnD b o q) (hkeep b o q)) e'⟩
end
end L2
namespace L2
open PySem PySem.Spec PyProof.Rows
noncomputable def insL {α:Type} (lt:α->α->Bool) (x:α):List α->List α
 |[]=>[x]
 |y::ys=>if lt y x=true then y::insL lt x ys else x::y::ys
noncomputable def iM {α:Type} (lt:α->α->Bool):List α->List α
 |[]=>[]
 |x::xs=>insL lt x (iM lt xs)
noncomputable def ltZ (a b:Int):Bool:=decide (a<b)
noncomputable def eX:List Int->List Int->Bool
 |[],[]=>false
 |[],_::_=>true
 |_::_,[]=>false
 |a::as,b::bs=>if a=b then eX as bs else decide (a<b)
noncomputable def tupZ (t:List Int):Dat:=.tup (t.map .int)
noncomputable def tupD:Dat->M (List Int)
 |.tup ds=>bh ds
 |_=>stk
noncomputable def iu:List Dat->M (List (List Int))
 |[]=>.ok []
 |d::ds=>(tupD d).bind fun t=>(iu ds).bind fun r=>.ok (t::r)
noncomputable def jP (ds:List Dat):M Dat:=if ds.length<64 then (match bh ds with
 |.ok is=>.ok (.lst ((iM ltZ is).map .int))
 |.error _=>(iu ds).bind fun ts=>if (ts.all fun t=> !t.isEmpty)=true then .ok (.lst ((iM eX ts).map tupZ)) else stk) else stk
noncomputable def gp:List Dat->M Dat
 |[.lst ds]=>jP ds
 |_=>stk
section
variable {α:Type} {lt:α->α->Bool}
structure Ord (lt:α->α->Bool):Prop where
 irr:∀a,lt a a=false
 tr:∀a b c,lt a b=true->lt b c=true->lt a c=true
 tot:∀a b,lt a b=false->lt b a=false->a=b
theorem ordZ:Ord ltZ:=⟨fun a=>by simp [ltZ],fun a b c h1 h2=>by simp [ltZ] at *;omega,fun a b h1 h2=>by simp [ltZ] at *;omega⟩
theorem ordLex:Ord eX:=by
 refine ⟨fun a=>?_,fun a b c=>?_,fun a b=>?_⟩
 ·induction a with
  |nil=>rfl
  |cons x xs ih=>simp [eX,ih]
 ·induction a generalizing b c with
  |nil=>
   cases b with
   |nil=>intro h;simp [eX] at h
   |cons y ys=>
    intro _ h2
    cases c with
    |nil=>simp [eX] at h2
    |cons z zs=>rfl
  |cons x xs ih=>
   intro h1 h2
   cases b with
   |nil=>simp [eX] at h1
   |cons y ys=>
    cases c with
    |nil=>simp [eX] at h2
    |cons z zs=>
     simp only [eX] at h1 h2 ⊢
     by_cases e1:x=y
     ·subst e1
      rw [if_pos rfl] at h1
      by_cases e2:x=z
      ·rw [if_pos e2] at h2 ⊢;exact ih _ _ h1 h2
      ·rw [if_neg e2] at h2 ⊢;exact h2
     ·rw [if_neg e1] at h1
      have h1':x<y:=of_decide_eq_true h1
      by_cases e2:y=z
      ·subst e2
       rw [if_neg e1];exact h1
      ·rw [if_neg e2] at h2
       have h2':y<z:=of_decide_eq_true h2
       rw [if_neg (by omega)]
       exact decide_eq_true (by omega)
 ·induction a generalizing b with
  |nil=>
   cases b with
   |nil=>intros;rfl
   |cons y ys=>intro h;simp [eX] at h
  |cons x xs ih=>
   cases b with
   |nil=>intro _ h;simp [eX] at h
   |cons y ys=>
    intro h1 h2
    simp only [eX] at h1 h2
    by_cases e1:x=y
    ·subst e1
     rw [if_pos rfl] at h1 h2
     rw [ih _ h1 h2]
    ·rw [if_neg e1] at h1
     rw [if_neg (fun z=>e1 z.symm)] at h2
     have h1':=of_decide_eq_false h1
     have h2':=of_decide_eq_false h2
     omega
theorem kl (x:α):∀l:List α,(insL lt x l).Perm (x::l)
 |[]=>List.Perm.refl _
 |y::ys=>by
  rw [insL]
  split
  ·exact ((kl x ys).cons y).trans (List.Perm.swap x y ys)
  ·exact List.Perm.refl _
theorem cE:∀l:List α,(iM lt l).Perm l
 |[]=>List.Perm.refl _
 |x::xs=>(kl x _).trans ((cE xs).cons x)
theorem Ord.le_trans (o:Ord lt) {a b c:α} (h1:lt b a=false) (h2:lt c b=false):lt c a=false:=by
 cases h:lt c a with
 |false=>rfl
 |true=>
  cases h3:lt b c with
  |true=>rw [o.tr b c a h3 h] at h1;cases h1
  |false=>
   have:=o.tot c b h2 h3
   subst this
   rw [h] at h1;cases h1
theorem Ord.asym (o:Ord lt) {a b:α} (h:lt a b=true):lt b a=false:=by
 cases h2:lt b a with
 |false=>rfl
 |true=>have:=o.tr a b a h h2;rw [o.irr] at this;cases this
theorem kj (o:Ord lt) (x:α):∀l:List α,l.Pairwise (fun a b=>lt b a=false)->(insL lt x l).Pairwise (fun a b=>lt b a=false)
 |[],_=>by simp [insL]
 |y::ys,h=>by
  rw [insL]
  rw [List.pairwise_cons] at h
  split
  ·rename_i hc
   rw [List.pairwise_cons]
   refine ⟨fun b hb=>?_,kj o x ys h.2⟩
   rcases List.mem_cons.mp ((kl x ys).mem_iff.mp hb) with e|e
   ·rw [e];exact o.asym hc
   ·exact h.1 b e
  ·rename_i hc
   have hc':lt y x=false:=by simpa using hc
   rw [List.pairwise_cons,List.pairwise_cons]
   refine ⟨fun b hb=>?_,h⟩
   rcases List.mem_cons.mp hb with e|e
   ·rw [e];exact hc'
   ·exact o.le_trans hc' (h.1 b e)
theorem eY (o:Ord lt):∀l:List α,(iM lt l).Pairwise (fun a b=>lt b a=false)
 |[]=>List.Pairwise.nil
 |x::xs=>kj o x _ (eY o xs)
theorem jX (o:Ord lt):∀{l m:List α},l.Perm m->l.Pairwise (fun a b=>lt b a=false)->m.Pairwise (fun a b=>lt b a=false)->l=m
 |[],m,h,_,_=>(List.Perm.nil_eq h)
 |a::l,m,h,h1,h2=>by
  cases m with
  |nil=>exact absurd h.symm (by simp)
  |cons b m=>
   rw [List.pairwise_cons] at h1 h2
   have e:a=b:=by
    rcases List.mem_cons.mp (h.mem_iff.mp List.mem_cons_self) with e|e
    ·exact e
    ·rcases List.mem_cons.mp (h.mem_iff.mpr List.mem_cons_self) with e2|e2
     ·exact e2.symm
     ·exact o.tot a b (h2.1 a e) (h1.1 b e2)
   subst e
   rw [jX o (List.Perm.cons_inv h) h1.2 h2.2]
end
section
open PySem.W
variable {α:Type} {lt:α->α->Bool}
theorem getD_get {l:List α} {i:Nat} {d:α} (h:i<l.length):l.getD i d=l[i]:=by simp [h]
noncomputable def rk (lt:α->α->Bool) (zs:List α) (d:α) (i:Nat):Int:=((zs.filter fun z=>lt z (zs.getD i d)).length:Int)
theorem filter_lt {p q:α->Bool} (h:∀z,p z=true->q z=true):∀l:List α,(l.filter p).length<=(l.filter q).length/\((∃z∈l,p z=false/\q z=true)->(l.filter p).length<(l.filter q).length)
 |[]=>⟨Nat.le_refl _,fun ⟨_,h,_⟩=>nomatch h⟩
 |x::xs=>by
  obtain ⟨i1,i2⟩:=filter_lt h xs
  cases hp:p x with
  |true=>
   have hq:=h x hp
   rw [List.filter_cons_of_pos hp,List.filter_cons_of_pos hq]
   refine ⟨by simp;exact i1,fun ⟨z,hz,e1,e2⟩=>?_⟩
   rcases List.mem_cons.mp hz with e|e
   ·rw [e,hp] at e1;cases e1
   ·have:=i2 ⟨z,e,e1,e2⟩
    simp;exact this
  |false=>
   rw [List.filter_cons_of_neg (by simp [hp])]
   cases hq:q x with
   |true=>
    rw [List.filter_cons_of_pos hq]
    exact ⟨by simp;omega,fun _=>by simp;omega⟩
   |false=>
    rw [List.filter_cons_of_neg (by simp [hq])]
    refine ⟨i1,fun ⟨z,hz,e1,e2⟩=>?_⟩
    rcases List.mem_cons.mp hz with e|e
    ·rw [e,hq] at e2;cases e2
    ·exact i2 ⟨z,e,e1,e2⟩
theorem rk_lt (o:Ord lt) {zs:List α} {d:α} {i j:Nat} (hi:i<zs.length) (hj:j<zs.length):ltK (rk lt zs d) i j=lt (zs.getD i d) (zs.getD j d):=by
 unfold ltK rk
 have gi:zs.getD i d∈zs:=by rw [getD_get hi];exact List.getElem_mem hi
 have gj:zs.getD j d∈zs:=by rw [getD_get hj];exact List.getElem_mem hj
 cases h:lt (zs.getD i d) (zs.getD j d) with
 |true=>
  refine decide_eq_true ?_
  have:=(filter_lt (p:=fun z=>lt z (zs.getD i d)) (q:=fun z=>lt z (zs.getD j d)) (fun z hz=>o.tr _ _ _ hz h) zs).2 ⟨_,gi,o.irr _,h⟩
  omega
 |false=>
  refine decide_eq_false ?_
  have:=(filter_lt (p:=fun z=>lt z (zs.getD j d)) (q:=fun z=>lt z (zs.getD i d)) (fun z hz=>by
   cases h3:lt z (zs.getD i d) with
   |true=>rfl
   |false=>
    have e:=o.le_trans h h3
    rw [hz] at e;cases e) zs).1
  omega
theorem uy (o:Ord lt) (zs:List α) (d:α) (h2:2<=zs.length):(cH (ltK (rk lt zs d)) (kas_sort zs.length)).toList.map (fun i=>zs.getD i d)=iM lt zs:=by
 obtain ⟨h1,hu⟩:=pj (key:=rk lt zs d) (n:=zs.length) (by omega)
 refine jX o ?_ ?_ (eY o zs)
 ·refine (h1.map _).trans ?_
  have:(List.range zs.length).map (fun i=>zs.getD i d)=zs:=by
   apply List.ext_getElem
   ·simp
   ·intro i h3 h4
    simp [h4]
  rw [this]
  exact (cE zs).symm
 ·rw [List.pairwise_map,List.pairwise_iff_getElem]
  intro i j hi hj hij
  have hn:(cH (ltK (rk lt zs d)) (kas_sort zs.length)).toList.length=zs.length:=by rw [h1.length_eq,List.length_range]
  have inr:∀k (hk:k<(cH (ltK (rk lt zs d)) (kas_sort zs.length)).toList.length),(cH (ltK (rk lt zs d)) (kas_sort zs.length)).toList[k]<zs.length:=fun k hk=>List.mem_range.mp (h1.mem_iff.mp (List.getElem_mem hk))
  have:=hu i j (by omega) (by omega)
  unfold kAt at this
  have g:∀k (hk:k<(cH (ltK (rk lt zs d)) (kas_sort zs.length)).toList.length),(cH (ltK (rk lt zs d)) (kas_sort zs.length)).getD k 0=(cH (ltK (rk lt zs d)) (kas_sort zs.length)).toList[k]:=fun k hk=>by
   rw [Array.getD_eq_getD_getElem?,<- Array.getElem?_toList,List.getElem?_eq_getElem hk];rfl
  rw [g i hi,g j hj] at this
  rw [<- rk_lt o (inr j hj) (inr i hi)]
  exact decide_eq_false (by omega)
theorem pJ:∀{zs:List α},zs.length<2->iM lt zs=zs
 |[],_=>rfl
 |[x],_=>rfl
 |_::_::_,h=>by simp at h;omega
variable {X:Cx} {K:PySem.W.Frag} {W:cy} {own:Bool}
theorem vals_map {xs:List V} {us:List Value} (r:Vals xs us) (ps:List Nat) (hp:∀i∈ps,i<xs.length):Vals (ps.map fun i=>xs.getD i .non) (ps.map fun i=>us.getD i .none):=by
 refine Vals.of_get (by simp) fun k v u h1 h2=>?_
 rw [List.getElem?_map] at h1 h2
 cases e:ps[k]? with
 |none=>rw [e] at h1;cases h1
 |some i=>
  rw [e] at h1 h2
  simp only [Option.map_some,Option.some.injEq] at h1 h2
  have hi:=hp i (List.mem_of_getElem? e)
  have hl:=r.length
  obtain ⟨u',e1,q⟩:=r.get (i:=i) (x:=xs[i]) (by simp [hi])
  rw [getD_get hi] at h1
  rw [List.getD_eq_getElem?_getD,e1] at h2
  rw [<- h1,<- h2]
  exact q
theorem ql (o:Ord lt) {pins:List (Addr×Obj)} {σ:St} {F H:Hp} {s:Shared} {Q:VK} {a:Addr} {xs:List V} {zs:List α} {d0:α} {enc:α->Dat} (I:Inv X pins σ H s) (hF:aC F H) (t:SqL X.K F a xs) (r:ak X.K F (zs.map enc) xs) (h64:zs.length<64)
  (hk:∀its:List Value,Vals xs its->2<=its.length->∀h1:Heap,(∀b o,s.heap.get? b=some o->h1.get? b=some o)->Asks X.prog X.w X.A.in1.in1 (rk lt zs d0) its {s with heap:=h1})
  (p:aw X.K W true F H (.ok (.lst ((iM lt zs).map enc))) Q):wpAny (model X.prog X.w) X.A (call (.builtin "sorted") [.ref a]) (EP X pins σ Q) X.xe s:=by
 obtain ⟨its,rv,pl,hz⟩:=I.list (hF.lst t)
 have l1:=rv.length
 have l2:=r.length
 rw [List.length_map] at l2
 refine rW (key:=rk lt zs d0) pl.isList (by omega) (fun h2 h1 kp=>hk its rv h2 h1 kp) fun h' D c hD kp e=>?_
 have key:∃ys,ys.length<=sizeLine/\Vals ys (j9 (rk lt zs d0) its)/\ak X.K F ((iM lt zs).map enc) ys:=by
  unfold j9
  by_cases h2:its.length<2
  ·rw [if_pos h2,pJ (by omega)]
   exact ⟨xs,hz,rv,r⟩
  ·rw [if_neg h2,show its.length=zs.length by omega]
   obtain ⟨h1,_⟩:=pj (key:=rk lt zs d0) (n:=zs.length) (by omega)
   have inr:∀i∈(cH (ltK (rk lt zs d0)) (kas_sort zs.length)).toList,i<xs.length:=fun i hi=>by
    have:=List.mem_range.mp (h1.mem_iff.mp hi);omega
   refine ⟨(cH (ltK (rk lt zs d0)) (kas_sort zs.length)).toList.map fun i=>xs.getD i .non,?_,vals_map rv _ inr,?_⟩
   ·rw [List.length_map,h1.length_eq,List.length_range];omega
   ·rw [<- uy o zs d0 (by omega),List.map_map]
    refine ak.of_get (by simp) fun k dd v g1 g2=>?_
    rw [List.getElem?_map] at g1 g2
    cases ek:(cH (ltK (rk lt zs d0)) (kas_sort zs.length)).toList[k]? with
    |none=>rw [ek] at g1;cases g1
    |some i=>
     rw [ek] at g1 g2
     simp only [Option.map_some,Option.some.injEq,Function.comp] at g1 g2
     have hi:=inr i (List.mem_of_getElem? ek)
     obtain ⟨w,e1,q⟩:=r.get (i:=i) (d:=enc (zs[i]'(by omega))) (by simp [show i<zs.length by omega])
     rw [getD_get (show i<zs.length by omega)] at g1
     rw [List.getD_eq_getElem?_getD,e1] at g2
     rw [<- g1,<- g2]
     exact q
 obtain ⟨ys,hy1,hy2,hy3⟩:=key
 have I1:Inv X pins σ (upd H D (.lst ys)) {s with heap:=h'}:=I.laid (t':=s.toks) kp hD (show cA X.prog X.w _ h' D (.lst ys) from ⟨hy1,_,c,hy2,e⟩)
 exact ⟨.ref D,_,I1,rfl,p.lst hF hy3 (I.hok.fresh hD)⟩
theorem rk_ints (is:List Int) (i j:Nat) (hi:i<is.length) (hj:j<is.length):ltK (rk ltZ is 0) i j=decide (is.getD i 0<is.getD j 0):=rk_lt ordZ hi hj
theorem vM {prog:Program} {w:World} {A:Around} {s':Shared} {its:List Value} {is:List Int} (hi:IntsAre its is) (h2:2<=its.length):Asks prog w A (rk ltZ is 0) its s':=by
 have hl:=hi.length
 obtain ⟨v1,v2,rest,rfl⟩:∃v1 v2 rest,its=v1::v2::rest:=by
  match its,h2 with
  |v1::v2::rest,_=>exact ⟨v1,v2,rest,rfl⟩
 unfold Asks
 rw [keyKind_ints hi]
 refine wpAny_pure ⟨rfl,fun i j C h1 h2 hc=>?_⟩
 unfold kas_ask
 obtain ⟨t1,e1⟩:=ints_at hi i h1
 obtain ⟨t2,e2⟩:=ints_at hi j h2
 rw [e1,e2]
 rw [rk_ints is i j (by omega) (by omega)] at hc
 exact kat_lt_int hc
where
 ints_at {vs:List Value} {ns:List Int} (h:IntsAre vs ns) (i:Nat) (hi:i<vs.length):∃t,vs.getD i Value.none=.int (ns.getD i 0) t:=by
  induction h generalizing i with
  |nil=>simp at hi
  |cons n t r ih=>
   cases i with
   |zero=>exact ⟨t,rfl⟩
   |succ i=>obtain ⟨t',e⟩:=ih i (by simpa using hi);exact ⟨t',by simpa using e⟩
noncomputable def lexF (f:Bool):List Int->List Int->Bool
 |a::as,b::bs=>if a=b then lexF f as bs else decide (a<b)
 |_,_=>f
theorem qN:∀as bs:List Int,lexF (decide (as.length<bs.length)) as bs=eX as bs
 |[],[]=>rfl
 |[],_::_=>by simp [lexF,eX]
 |_::_,[]=>by simp [lexF,eX]
 |a::as,b::bs=>by
  have:=qN as bs
  simp only [lexF,eX,List.length_cons,Nat.add_lt_add_iff_right]
  rw [this]
theorem kf {prog:Program} {w:World} {A:Around} {s':Shared} {f:Bool} {Q:Bool->Shared->Prop}:∀{us vs:List Value} {as bs:List Int} (i:Nat),IntsAre us as->IntsAre vs bs->Q (lexF f as bs) s'->KatLex prog w A true f Q (us.zip vs) i s'
 |_,_,_,bs,_,.nil,_,h=>kat_nil (by cases bs<;>exact h)
 |_,_,_,_,_,.cons a t r,.nil,h=>kat_nil h
 |_,_,_,_,i,.cons a t r,.cons b u r',h=>by
  show KatLex prog w A true f Q ((.int a t,.int b u)::(_:List (Value×Value))) i s'
  refine kat_cons (SeqAt.EqAt.int_int a t b u _ _ _ _ ?_)
  by_cases e:a=b
  ·rw [show (a==b)=true by simpa using e]
   rw [lexF,if_pos e] at h
   exact kat_yes (kf (i+1) r r' h)
  ·rw [show (a==b)=false by simpa using e]
   rw [lexF,if_neg e] at h
   refine kat_no ?_
   cases hb:(true&&i==0) with
   |true=>exact oneLt_int h
   |false=>exact kat_one _ _ (lt_int h)
theorem vL {pins:List (Addr×Obj)} {σ:St} {F H:Hp} {s:Shared} {A:Around} {xs:List V} {ts:List (List Int)} {its:List Value} {h1:Heap} (I:Inv X pins σ H s) (hF:aC F H) (r:ak X.K F (ts.map tupZ) xs) (hne:(ts.all fun t=> !t.isEmpty)=true) (rv:Vals xs its) (h2:2<=its.length)
  (kp:∀b o,s.heap.get? b=some o->h1.get? b=some o):Asks X.prog X.w A (rk eX ts []) its {s with heap:=h1}:=by
 have l1:=rv.length
 have l2:=r.length
 rw [List.length_map] at l2
 have at_:∀i,i<its.length->∃(l:Addr) (ob:Obj) (us:List Value) (n:Nat),its.getD i Value.none=.ref l/\h1.get? l=some ob/\ob.cls=.type "tuple"/\ob.data=.seq us.toArray n/\IntsAre us (ts.getD i []):=fun i hi=>by
  obtain ⟨v,e1,l,ys,e2,tq,rr⟩:=r.get (i:=i) (d:=tupZ (ts[i]'(by omega))) (by simp [show i<ts.length by omega])
  subst e2
  obtain ⟨u,e3,ru⟩:=rv.get e1
  cases ru
  obtain ⟨us,ru,pl,_⟩:=I.tuple (hF.tup tq)
  obtain ⟨ob,h3,h4,n,h5⟩:=pl
  have e4:ys=(ts[i]'(by omega)).map V.int:=cn rr (cq _)
  rw [e4] at ru
  exact ⟨l,ob,us,n,by rw [List.getD_eq_getElem?_getD,e3];rfl,kp _ _ h3,h4,h5,by rw [getD_get (show i<ts.length by omega)];exact intsAre_of ru⟩
 have tups:∀(k:Nat),k<=its.length->∃fs,KatTups h1 (its.drop (its.length-k)) fs/\fs.length=k/\∀v∈fs,∃i t,v=Value.int i t:=by
  intro k
  induction k with
  |zero=>intro _;exact ⟨[],by rw [Nat.sub_zero,List.drop_length];exact KatTups.nil,rfl,fun _ h=>nomatch h⟩
  |succ k ih=>
   intro hk
   obtain ⟨fs,q1,q2,q3⟩:=ih (by omega)
   have hi:its.length-(k+1)<its.length:=by omega
   obtain ⟨l,ob,us,n,e1,e2,e3,e4,e5⟩:=at_ _ hi
   have hn:(ts.getD (its.length-(k+1)) [])≠[]:=by
    rw [getD_get (show its.length-(k+1)<ts.length by omega)]
    have:=List.all_eq_true.mp hne _ (List.getElem_mem (show its.length-(k+1)<ts.length by omega))
    simpa using this
   obtain ⟨z,ez⟩:∃z,ts.getD (its.length-(k+1)) []=z:=⟨_,rfl⟩
   rw [ez] at e5 hn
   obtain ⟨f,fr,ef,hf⟩:∃f fr,us=f::fr/\∃i t,f=Value.int i t:=by
    cases e5 with
    |nil=>exact absurd rfl hn
    |cons m t r=>exact ⟨_,_,rfl,_,_,rfl⟩
   refine ⟨f::fs,?_,by simp [q2],fun v hv=>?_⟩
   ·rw [List.drop_eq_getElem_cons hi]
    rw [show its.length-(k+1)+1=its.length-k by omega]
    rw [getD_get hi] at e1
    rw [e1]
    exact KatTups.cons e2 e3 e4 (by rw [ef];rfl) q1
   ·rcases List.mem_cons.mp hv with e|e
    ·rw [e];exact hf
    ·exact q3 v e
 obtain ⟨fs,q1,q2,q3⟩:=tups its.length (Nat.le_refl _)
 rw [Nat.sub_self,List.drop_zero] at q1
 unfold Asks
 refine kat_kind (s:={s with heap:=h1}) (T:=.type "int") q1 (by omega) (fun v hv=>?_) rfl ⟨rfl,fun i j C hi hj hc=>?_⟩
 ·obtain ⟨i,t,e⟩:=q3 v hv
  rw [e]
  exact Looks.of_pure rfl
 ·unfold kas_ask
  obtain ⟨x1,o1,us,n1,e1,g1,_,d1,a1⟩:=at_ i hi
  obtain ⟨x2,o2,vs,n2,e2,g2,_,d2,a2⟩:=at_ j hj
  rw [e1,e2]
  rw [rk_lt ordLex (show i<ts.length by omega) (show j<ts.length by omega)] at hc
  refine kat_lt (s:={s with heap:=h1}) g1 d1 g2 d2 (kf 0 a1 a2 ?_)
  rw [List.size_toArray,List.size_toArray,a1.length,a2.length,qN]
  exact hc
theorem qe {F:Hp} {d:Dat} {t:List Int} (h:tupD d=.ok t):d=tupZ t:=by
 cases d with
 |tup ds=>
  have:∀{ds:List Dat} {t:List Int},bh ds=.ok t->ds=t.map .int:=by
   intro ds
   induction ds with
   |nil=>intro t h;cases h;rfl
   |cons d ds ih=>
    intro t h
    cases d with
    |int i=>
     cases e:bh ds with
     |error x=>simp only [bh,asI,ai,e,ip] at h;cases h
     |ok r=>
      simp only [bh,asI,ai,e] at h
      cases h
      rw [ih e]
      rfl
    |_=>cases h
  unfold tupZ
  rw [this h]
 |_=>cases h
theorem v5:∀{ds:List Dat} {t:List Int},bh ds=.ok t->ds=t.map .int:=fun {ds t} h=>by
 have:=qe (F:=fun _=>none) (d:=.tup ds) (t:=t) h
 unfold tupZ at this
 injection this
theorem n9:∀{ds:List Dat} {ts:List (List Int)},iu ds=.ok ts->ds=ts.map tupZ
 |[],_,h=>by cases h;rfl
 |d::ds,ts,h=>by
  cases e:tupD d with
  |error x=>simp only [iu,e,ip] at h;cases h
  |ok t=>
   cases e2:iu ds with
   |error x=>simp only [iu,e,ai,e2,ip] at h;cases h
   |ok r=>
    simp only [iu,e,ai,e2] at h
    cases h
    rw [qe (F:=fun _=>none) e,n9 e2]
    rfl
theorem ng:∀{ds:List Dat} {e:Err},iu ds=.error e->e=.stuck
 |[],_,h=>by cases h
 |d::ds,e,h=>by
  cases e1:tupD d with
  |error x=>
   simp only [iu,e1,ip] at h
   cases h
   cases d with
   |tup ds=>exact cO e1
   |_=>cases e1;rfl
  |ok t=>
   cases e2:iu ds with
   |error x=>simp only [iu,e1,ai,e2,ip] at h;cases h;exact ng e2
   |ok r=>simp only [iu,e1,ai,e2] at h;cases h
theorem rn (hK:X.K=K:=by rfl):kU K W true X (.builtin "sorted") gp:=by
 subst hK
 intro pins s σ H xs us Q I rr h
 obtain ⟨F,d,x,s1,e,q,p⟩:=mf (fun ds=>by match ds with|[d]=>exact .inl ⟨d,rfl⟩|[]=>exact .inr rfl|a::b::c=>exact .inr (by cases a<;>rfl)) h
 subst e
 obtain ⟨u,rfl,ru⟩:=rr.one
 cases d with
 |lst ds=>
  obtain ⟨a,ys,e1,t,r⟩:=q
  subst e1
  cases ru
  have p':aw X.K W true F H (jP ds) Q:=p
  unfold jP at p'
  by_cases h64:ds.length<64
  ·rw [if_pos h64] at p'
   cases ei:bh ds with
   |ok is=>
    rw [ei] at p'
    have ed:=v5 ei
    subst ed
    refine ql ordZ (d0:=0) I s1 t r (by simpa using h64) (fun its rv h2 h1 kp=>?_) p'
    have e2:ys=is.map V.int:=cn r ei
    subst e2
    exact vM (intsAre_of rv) h2
   |error z=>
    rw [ei] at p'
    have p2:aw X.K W true F H ((iu ds).bind fun ts=>if (ts.all fun t=> !t.isEmpty)=true then .ok (.lst ((iM eX ts).map tupZ)) else stk) Q:=p'
    cases et:iu ds with
    |error z2=>rw [et] at p2;have:=ng et;subst this;exact aw.stuck p2
    |ok ts=>
     rw [et] at p2
     have ed:=n9 et
     subst ed
     have p3:aw X.K W true F H (if (ts.all fun t=> !t.isEmpty)=true then .ok (.lst ((iM eX ts).map tupZ)) else stk) Q:=p2
     by_cases hne:(ts.all fun t=> !t.isEmpty)=true
     ·rw [if_pos hne] at p3
      exact ql ordLex (d0:=[]) I s1 t r (by simpa using h64) (fun its rv h2 h1 kp=>vL I s1 r hne rv h2 kp) p3
     ·rw [if_neg hne] at p3
      exact aw.stuck p3
  ·rw [if_neg h64] at p'
   exact aw.stuck p'
 |_=>exact aw.stuck p
end
end L2
namespace L2
open PySem PySem.Spec PyProof.Rows
noncomputable def cX (n d:Nat):Option Int->Nat
 |none=>d
 |some v=>if v<0 then (v+(n:Int)).toNat else min v.toNat n
noncomputable def pP {α:Type} (xs:List α) (lo hi:Option Int):List α:=(xs.drop (cX xs.length 0 lo)).take (cX xs.length xs.length hi-cX xs.length 0 lo)
noncomputable def dY:Dat->Option Int->Option Int->M Dat
 |.lst ds,lo,hi=>.ok (.lst (pP ds lo hi))
 |.tup ds,lo,hi=>if (decide (cX ds.length 0 lo=0)&&decide (cX ds.length ds.length hi=ds.length))=true then stk else .ok (.tup (pP ds lo hi))
 |_,_,_=>stk
noncomputable def jZ:ae->M (Option Int):=fun _=>.ok none
noncomputable def i8 (f:ae->M Dat):ae->M (Option Int):=fun ρ=>(f ρ).bind fun d=>(asI d).bind fun i=>.ok (some i)
noncomputable def fSl (g:Dat->Option Int->Option Int->M Dat) (fa:ae->M Dat) (fl fu:ae->M (Option Int)):ae->M Dat:=fun ρ=>(fa ρ).bind fun a=>(fl ρ).bind fun l=>(fu ρ).bind fun u=>g a l u
noncomputable def extD (ρ:ae) (i:Nat) (ds:List Dat):Dat->M Flo
 |.lst es=>if ds.length+es.length<=sizeLine then put ρ i (ds++es) else stk
 |_=>stk
noncomputable def sExt (O:List Nat) (i:Nat) (f:ae->M Dat):ae->M Flo:=fun ρ=>(iJ ρ i).bind fun ds=>(f (erase O ρ)).bind fun d=>extD ρ i ds d
section
variable {X:Cx} {K:PySem.W.Frag} {W:cy} {own ro:Bool} {e a b c d:Expr} {lo hi:Option Expr} {es:List Expr} {x y:Str} {pos p p2 p3 q r t u:Pos} {f fa fb fc fd' fk:ae->M Dat} {fl fu:ae->M (Option Int)} {OL O:List Nat}
noncomputable def tDO (K:PySem.W.Frag) (W:cy) (f:ae->M (Option Int)):TO:=fun σ H Q=>∃F ρ,eR K F σ ρ/\aC F H/\(match f ρ with
 |.ok o=>∀F' H',Step F H F' H'->Q o H'
 |.error e=>W.p e F H)
theorem tU {σ:St} {ρ:ae} {F H:Hp} {R:Option Int->Hp->Prop} (r:eR K F σ ρ) (s:aC F H) (hE:∀e,fl ρ=.error e->W.p e F H) (hO:∀o,fl ρ=.ok o->∀F1 H1,Step F H F1 H1->R o H1):tDO K W fl σ H R:=by
 refine ⟨F,ρ,r,s,?_⟩
 cases e:fl ρ with
 |ok d=>exact hO d e
 |error x=>exact hE x e
noncomputable abbrev DP (K:PySem.W.Frag) (W:cy) (X:Cx) (e:Option Expr) (f:ae->M (Option Int)):Prop:=PO X e (tDO K W f)
theorem PO.imp {t t':TO} (h:PO X lo t) (q:∀σ H Q,t' σ H Q->t σ H Q):PO X lo t':=fun pins s σ H Q I z=>h pins s σ H Q I (q σ H Q z)
theorem kx:DP K W X none jZ:=po_none.imp fun σ H Q ⟨F,ρ,r,s,p⟩=>p F H (Step.refl s)
theorem ku (h:DE K W false X e f):DP K W X (some e) (i8 f):=(po_some h).imp fun σ H Q ⟨F,ρ,r,s,p⟩=>by
 refine aW r s (fun e he=>?_) fun d hd v F1 H1 s1 q1=>?_
 ·have z:i8 f ρ=.error e:=by unfold i8;rw [he];rfl
  rw [z] at p;exact p
 ·have z:i8 f ρ=(asI d).bind fun i=>.ok (some i):=by unfold i8;rw [hd];rfl
  rw [z] at p
  cases d with
  |int i=>exact ⟨i,q1,p F1 H1 s1⟩
  |_=>exact (W.ns p).elim
noncomputable def rDS (K:PySem.W.Frag) (W:cy) (own:Bool) (g:Dat->Option Int->Option Int->M Dat):V->Option Int->Option Int->Hp->VK->Prop:=fun x lo hi H Q=>∃F a,aC F H/\aZ K F a x/\aw K W own F H (g a lo hi) Q
theorem rd_sl {g:Dat->Option Int->Option Int->M Dat} {σ:St} {H:Hp} {Q:VK} (h:tD K W own (fSl g fa fl fu) σ H Q):tSl (rDS K W own g) (tD K W false fa) (tDO K W fl) (tDO K W fu) σ H Q:=by
 obtain ⟨F,ρ,r,s,p⟩:=h
 refine aW r s (fun e he=>p.err (by unfold fSl;rw [he];rfl)) fun a ha x F1 H1 s1 q1=>?_
 refine tU (r.mono s1.ff) s1.fh (fun e he=>(p.step s1).err (by unfold fSl;rw [ha];show (fl ρ).bind _=_;rw [he];rfl)) fun l hl F2 H2 s2=>?_
 refine tU ((r.mono s1.ff).mono s2.ff) s2.fh (fun e he=>(p.step (s1.trans s2)).err (by unfold fSl;rw [ha];show (fl ρ).bind _=_;rw [hl];show (fu ρ).bind _=_;rw [he];rfl)) fun u hu F3 H3 s3=>?_
 refine ⟨F3,a,s3.fh,aZ.mono (s2.trans s3).ff q1,?_⟩
 have e:fSl g fa fl fu ρ=g a l u:=by unfold fSl;rw [ha];show (fl ρ).bind _=_;rw [hl];show (fu ρ).bind _=_;rw [hu];rfl
 rw [e] at p
 exact p.step ((s1.trans s2).trans s3)
theorem vx {g:Dat->Option Int->Option Int->M Dat} (hr:SlR X (rDS K W own g)) (ha:DE K W false X a fa) (hl:DP K W X lo fl) (hu:DP K W X hi fu):DE K W own X (.Subscript a (.Slice lo hi none p2) pos) (fSl g fa fl fu):=(pe_slice hr ha hl hu).imp fun _ _ _=>rd_sl
theorem rq (n d:Nat) (o:Option Int):cX n d o=HT.sIx n d o:=by cases o<;>rfl
theorem ak.cut {F:Hp} {ds:List Dat} {xs:List V} {l u:Option Int} (h:ak K F ds xs):ak K F (pP ds l u) (cutV xs l u):=by
 unfold pP cutV
 rw [rq,rq,h.length]
 exact ak.take _ (ak.drop _ h)
theorem x_sl (hK:X.K=K:=by rfl):SlR X (rDS K W true dY):=by
 subst hK
 intro pins s σ H x v vl vu lo hi sl Q I rx hs pl pu h
 refine (SlR.or sl_list sl_tup) pins s σ H x v vl vu lo hi sl Q I rx hs pl pu ?_
 obtain ⟨F,a,s1,qa,p⟩:=h
 cases a with
 |lst ds=>
  obtain ⟨l,xs,e,t,z⟩:=qa
  exact .inl ⟨l,xs,e,s1.lst t,fun r hr=>aw.lst p s1 z.cut hr⟩
 |tup ds=>
  obtain ⟨l,xs,e,t,z⟩:=qa
  have p':aw X.K W true F H (if (decide (cX ds.length 0 lo=0)&&decide (cX ds.length ds.length hi=ds.length))=true then stk else .ok (.tup (pP ds lo hi))) Q:=p
  by_cases hc:(decide (cX ds.length 0 lo=0)&&decide (cX ds.length ds.length hi=ds.length))=true
  ·rw [if_pos hc] at p';exact p'.stuck
  ·rw [if_neg hc] at p'
   refine .inr ⟨l,xs,e,s1.tup t,fun hw=>hc ?_,fun r hr=>aw.tup p' s1 z.cut hr⟩
   rw [rq,rq,<- z.length]
   simp only [Bool.and_eq_true,decide_eq_true_eq]
   exact hw
 |_=>exact aw.stuck p
theorem rs_ext {F0 H0:Hp} {i:Nat} {D:Ends} {σ:St} {H:Hp} (hi:i∈O) (t:tS K W ro F0 H0 OL O O (sExt O i f) D σ H):jO (tBM K "list" ue (kM i) (fS (tD K W true f) oO)) D σ H:=by
 obtain ⟨FB,F,ρ,r,p⟩:=t
 cases hl:iJ ρ i with
 |error e=>
  have:=nO hl
  subst this
  exact p.stuck (by unfold sExt;rw [hl];rfl)
 |ok ds=>
  obtain ⟨a,xs,e2,ha,z⟩:=r.lstOwn hi (jA hl)
  refine ⟨.ref a,e2,iq ha,?_⟩
  refine aW r.iC r.st.fh (fun e he=>p.mD r.st (by unfold sExt;rw [hl];show (f (erase O ρ)).bind _=_;rw [he];rfl)) fun d hd v F1 H1 s1 q=>?_
  have ez:sExt O i f ρ=extD ρ i ds d:=by unfold sExt;rw [hl];show (f (erase O ρ)).bind _=_;rw [hd];rfl
  rw [ez] at p
  cases d with
  |lst es=>
   obtain ⟨b,zs,e3,hb,_,_,zz⟩:=q
   by_cases hs:ds.length+es.length<=sizeLine
   ·have ep:extD ρ i ds (.lst es)=put ρ i (ds++es):=if_pos hs
    rw [ep] at p
    exact ⟨a,b,xs,zs,rfl,by rw [e3],s1.hh _ _ ha,hb,by rw [z.length,zz.length];exact hs,p σ F1 _ ((r.step s1).write hi (jA hl) e2 (ak.append (z.mono s1.ff) zz))⟩
   ·exact p.stuck (if_neg hs)
  |_=>exact p.stuck rfl
theorem ds_ext {i:Nat} {apos:Pos} (he:DE K W true X e f) (ho:i∈O:=by decide) (hN:X.N[i]? =some x:=by rfl) (hv:Vis X.env.scope x:=by first|exact Or.inl rfl|exact Or.inr (Or.inl rfl)|exact Or.inr (Or.inr rfl)) (hd:(x==("__debug__":Str))=false:=by decide) (hcd:(x==("__classdict__":Str))=false:=by decide) (hK:X.K=K:=by rfl)
  (hst:starEach [e] X.env=[(false,eval e X.env)]:=by rfl) (hbase:attributeBase (.Name x p) "extend" X.env (eval (.Name x p) X.env)=eval (.Name x p) X.env:=by rfl) (hfew:((backTo q (starEach [e] X.env)).all (fun x=> !x.1)&&(backToKw q (keywordEach [] X.env)).all (fun x=>x.1.isSome)&&decide ([e].length+([]:List Keyword).length+(if ([]:List Keyword).isEmpty then 0 else 1)<30))=true:=by rfl) (hplain:(backTo q (starEach [] X.env)).any (·.1)=false:=by rfl) (hline:(apos.endLine==q.line)=true:=by rfl) (hsw:swapsWith (.Call (.Attribute (.Name x p) "extend" apos) [e] [] q) none pos.line X.env=pure false:=by rfl) :
  DS K W ro X OL O O (.Expr (.Call (.Attribute (.Name x p) "extend" apos) [e] [] q) pos) (sExt O i f):=fun F0 H0=>by
 subst hK
 exact PS.imp (jS (pe_bm PySem.F.plainAttrs_list PySem.F.slot_list_extend PySem.F.type_list_extend uH (pv i hN hv hd hcd) (aF he cj hst) hbase hfew hline hst hplain) hsw) fun _ _ _=>rs_ext ho
end
section
variable {ρ:ae} {fa fb fc fd':ae->M Dat} {fl fu:ae->M (Option Int)}
@[simp] theorem e_pNone:jZ ρ=.ok none:=id rfl
@[simp] theorem e_pSome:i8 fa ρ=(fa ρ).bind fun d=>(asI d).bind fun i=>.ok (some i):=id rfl
@[simp] theorem e_slF (k:Dat->Option Int->Option Int->M Dat):fSl k fa fl fu ρ=(fa ρ).bind fun a=>(fl ρ).bind fun l=>(fu ρ).bind fun u=>k a l u:=id rfl
@[simp] theorem e_sliceL (ds:List Dat) (lo hi:Option Int):dY (.lst ds) lo hi=.ok (.lst (pP ds lo hi)):=id rfl
@[simp] theorem e_extD (i:Nat) (ds es:List Dat):extD ρ i ds (.lst es)=if ds.length+es.length<=sizeLine then put ρ i (ds++es) else stk:=id rfl
@[simp] theorem e_ext (O:List Nat) (i:Nat):sExt O i fa ρ=(iJ ρ i).bind fun ds=>(fa (erase O ρ)).bind fun d=>extD ρ i ds d:=id rfl
@[simp] theorem e_eqII (i j:Int):eqM (.int i) (.int j)=.ok (.bl (decide (i=j))):=by
 show Except.ok (Dat.bl (i==j))=_
 rw [show (i==j)=decide (i=j) from rfl]
@[simp] theorem cut_take {α:Type} (xs:List α) {j:Int} (h:0<=j):pP xs none (some j)=xs.take j.toNat:=by
 unfold pP cX
 simp only [if_neg (show ¬j<0 by omega),List.drop_zero,Nat.sub_zero]
 rcases Nat.le_total j.toNat xs.length with h1|h1
 ·rw [Nat.min_eq_left h1]
 ·rw [Nat.min_eq_right h1,List.take_length,List.take_of_length_le h1]
@[simp] theorem mP {α:Type} (xs:List α) {j:Int} (h:0<=j):pP xs (some j) none=xs.drop j.toNat:=by
 unfold pP cX
 simp only [if_neg (show ¬j<0 by omega)]
 rcases Nat.le_total j.toNat xs.length with h1|h1
 ·rw [Nat.min_eq_left h1,List.take_of_length_le (by simp)]
 ·rw [Nat.min_eq_right h1,List.drop_of_length_le h1,List.drop_length];simp
end
end L2
namespace L2
open PySem PySem.Spec PyProof.Rows
section
variable {X:Cx} {K:PySem.W.Frag} {W:cy} {own ro:Bool} {e a b c d:Expr} {st:Option Expr} {te:TE} {tp:TO} {es:List Expr} {x y:Str} {pos p p2 p3 p4 q r t u:Pos} {f fa fb fc fk:ae->M Dat} {fp:ae->M (Option Int)} {OL O:List Nat}
end
end L2
namespace L2
open PySem PySem.Spec PyProof.Rows
section
variable {X:Cx} {K:PySem.W.Frag} {W:cy} {own ro:Bool} {e o a b c d:Expr} {es:List Expr} {x y m:Str} {pos p p2 apos:Pos} {f fa fo:ae->M Dat} {fr:ae->M (List Dat)} {OL O O':List Nat} {C C2:Addr} {Cs:List Addr}
end
end L2
namespace L2
open PySem PySem.Spec PyProof.Rows
section
variable {X:Cx} {K:PySem.W.Frag} {W:cy} {own:Bool}
theorem vE (hc:X.calm=true):bB X (.builtin "sum") (fun xs H Q=>∃(a:Addr) (is:List Int),xs=[.ref a]/\SqL X.K H a (is.map V.int)/\Q (.int is.sum) H):=by
 intro pins s σ H xs us Q I r h
 obtain ⟨a,is,rfl,hq,q⟩:=h
 obtain ⟨u,rfl,ru⟩:=r.one
 cases ru
 obtain ⟨its,rv,p,hz⟩:=I.list hq
 have hi:=intsAre_of rv
 obtain ⟨xs,e⟩:=hi.allInts.items
 have hns:is=xs.toList.map (·.1):=by rw [<- hi.numsOf,<- nums_intItems,<- e]
 have hl:=p.isList
 rw [e] at hl
 refine call_sum_walkAnyS (iter_intList hl fun s₂ e2 st hfp hlI=>?_)
 subst e2
 refine ⟨_,_,_,_,_,_,_,numAt xs,rfl,(Walks.list (A:=X.A.in1) (I.ok.hd hc) _ a hlI (intItems xs)).toS,st,hfp,(fun _ _=>intItems_at),fun s' t' hm=>?_⟩
 obtain ⟨h',g',d',tk',os'⟩:=s'
 have e1:=hm.gens
 have e2:=hm.drawn
 have e3:=hm.os
 have e4:=hm.heap
 simp only at e1 e2 e3
 subst e1 e2 e3
 have hk:=old_kept (s:=s) (l:=a) (h':=h') fun b o hb e=>e4 b o hb e
 refine ⟨.int _,H,I.kept (t':=tk') hk,⟨t',rfl⟩,?_⟩
 have es:preSum (numAt xs) (intItems xs).size=is.sum:=by
  rw [preSum_eq,hns,List.take_of_length_le (by simp [intItems])]
 rw [es]
 exact q
theorem c_sum (hc:X.calm=true) (hK:X.K=K:=by rfl):kU K W own X (.builtin "sum") sumD:=by
 subst hK
 refine (vE hc).imp fun xs H Q h=>?_
 obtain ⟨F,ds,s,q,p⟩:=h
 rcases ds with _|⟨d,_|⟨_,_⟩⟩
 ·exact aw.stuck p
 ·obtain ⟨v,vs,rfl,qd,hn⟩:=q
  cases (show vs=[] from hn)
  cases d with
  |lst ds=>
   obtain ⟨a,xs,e,t,z⟩:=qd
   have p':aw X.K W own F H ((bh ds).bind fun is=>.ok (.int is.sum)) Q:=p
   cases hi:bh ds with
   |error e=>rw [hi] at p';have:=cO hi;subst this;exact aw.stuck p'
   |ok is=>
    rw [hi] at p'
    have hx:xs=is.map V.int:=cn z hi
    subst hx
    exact ⟨a,is,by rw [e],s.lst t,aw.int p' s⟩
  |_=>exact aw.stuck p
 ·cases d<;>exact aw.stuck p
end
noncomputable def Itz (K:PySem.W.Frag) (a b:Addr):It:=
 ⟨fun i H=>∃xs ys x y,SqL K H a xs/\SqL K H b ys/\xs[i]? =some x/\ys[i]? =some y,fun i H v H'=>∃T x y,H T=none/\v=.ref T/\H'=upd H T (.tup [x,y])/\(∀xs,SqL K H a xs->xs[i]? =some x)/\∀ys,SqL K H b ys->ys[i]? =some y,fun i H=>∃xs ys,SqL K H a xs/\SqL K H b ys/\(xs.length<=i\/ys.length<=i)⟩
theorem turn_zip {P:Program} {w:World} {K:PySem.W.Frag} {elts:List Expr} {k:Nat} {pos:Pos} {z TI TO i1 i2 l1 l2:Addr} (D:ZipApart z TI TO i1 i2 l1 l2) :
  Turn P w K (.Tuple elts k pos) (Itz K l1 l2) [z,TI,TO,i1,i2] z (fun i h=>IsZip h z TI TO .none/\IsPair h TI (.ref i1) (.ref i2)/\(∃a b,IsPair h TO a b)/\h.IsListIter i1 l1 i/\h.IsListIter i2 l2 i) where
 mem:=by simp
 obj:=fun i h st b hb=>by
  obtain ⟨hz,hTI,⟨a,c,hTO⟩,⟨o1,e1,c1,d1⟩,⟨o2,e2,c2,d2⟩⟩:=st
  simp only [List.mem_cons,List.not_mem_nil,or_false] at hb
  rcases hb with rfl|rfl|rfl|rfl|rfl
  ·exact ⟨_,hz,fun v q=>by cases q⟩
  ·exact ⟨_,hTI,fun v q=>by cases q⟩
  ·exact ⟨_,hTO,fun v q=>by cases q⟩
  ·exact ⟨o1,e1,fun v q=>by rw [d1] at q;cases q⟩
  ·exact ⟨o2,e2,fun v q=>by rw [d2] at q;cases q⟩
 keep:=fun i h h' st kk=>by
  obtain ⟨hz,hTI,⟨a,c,hTO⟩,h1,h2⟩:=st
  exact ⟨kk z (by simp) _ hz,kk TI (by simp) _ hTI,⟨a,c,kk TO (by simp) _ hTO⟩,h1.at fun o x=>kk i1 (by simp) o x,h2.at fun o x=>kk i2 (by simp) o x⟩
 item:=by
  intro X hP hw hK hc i pins s σ H E I hf st hg
  subst hP hw hK
  obtain ⟨hz,hTI,⟨a,c,hTO⟩,h1,h2⟩:=st
  obtain ⟨xs,ys,x,y,hx,hy,gx,gy⟩:=hg
  obtain ⟨its,rv,p,_⟩:=I.list hx
  obtain ⟨its2,rv2,p2,_⟩:=I.list hy
  obtain ⟨u,hu,ru⟩:=rv.get gx
  obtain ⟨u2,hu2,ru2⟩:=rv2.get gy
  refine wpAny_pyNext_zip_item D hz hTI hTO h1 h2 p.isList p2.isList (x:=u) (y:=u2) (by simpa using hu) (by simpa using hu2) fun h' a1 a2 a3 a4 a5 a6 a7=>?_
  refine ⟨_,rfl,wpAny_letOwnedTupleGo_zip a1 fun h2' b1 b2=>?_⟩
  have lz:z<s.heap.objs.size:=Heap.lt_size hz
  have lTI:TI<s.heap.objs.size:=Heap.lt_size hTI
  have lTO:TO<s.heap.objs.size:=Heap.lt_size hTO
  have li1:i1<s.heap.objs.size:=by obtain ⟨o,e,_⟩:=h1;exact Heap.lt_size e
  have li2:i2<s.heap.objs.size:=by obtain ⟨o,e,_⟩:=h2;exact Heap.lt_size e
  have I1:Inv X pins σ (upd H s.heap.objs.size (.tup [x,y])) {s with heap:=h2',toks:=s.toks}:=I.p8 (ch:=[z,TI,TO,i1,i2]) hf (fun b o hb q=>by
    simp only [List.mem_cons,List.not_mem_nil,or_false,not_or] at hb
    exact (b2.2 b hb.1).trans (a7 b o hb.1 hb.2.2.1 hb.2.2.2.1 hb.2.2.2.2 q)) (Nat.le_refl _) ⟨by show 2<=sizeLine;decide,[u,u2],.cons ru (.cons ru2 .nil),⟨_,(b2.2 _ (Nat.ne_of_gt lz)).trans a5,rfl,0,rfl⟩⟩
  refine ⟨.ref s.heap.objs.size,_,I1,rfl,⟨s.heap.objs.size,x,y,I.hok.fresh (Nat.le_refl _),rfl,rfl,fun zs hq=>by rw [I.jB hq hx];exact gx,fun zs hq=>by rw [I.jB hq hy];exact gy⟩,
   ⟨b1,(b2.2 _ D.TIz).trans (a7 TI _ D.TIz D.TITO D.TIi1 D.TIi2 hTI),⟨_,_,(b2.2 _ D.TOz).trans a2⟩,a3.at fun o q=>(b2.2 _ D.i1z).trans q,a4.at fun o q=>(b2.2 _ D.i2z).trans q⟩,fun b hb=>?_⟩
  have hbn:=(hf b hb).1
  have:b≠s.heap.objs.size:=by
   simp only [List.mem_cons,List.not_mem_nil,or_false] at hb
   rcases hb with rfl|rfl|rfl|rfl|rfl<;>exact Nat.ne_of_lt (by assumption)
  rw [aq this]
  exact hbn
 done:=by
  intro X hP hw hK hc i pins s σ H E I hf st hg
  subst hP hw hK
  obtain ⟨hz,hTI,⟨a,c,hTO⟩,h1,h2⟩:=st
  obtain ⟨xs,ys,hx,hy,hend⟩:=hg
  obtain ⟨its,rv,p,_⟩:=I.list hx
  obtain ⟨its2,rv2,p2,_⟩:=I.list hy
  have e1:=rv.length
  have e2:=rv2.length
  refine wpAny_pyNext_zip_end (I.ok.hd hc) D hz hTI hTO h1 h2 p.isList p2.isList ?_ fun h' hk=>⟨rfl,I.p9 (t':=s.toks) (ch:=[z,TI,TO,i1,i2]) hf fun b o hb q=>?_⟩
  ·rcases hend with z|z
   ·exact .inl (Array.getElem?_eq_none (by simp;omega))
   ·exact .inr (Array.getElem?_eq_none (by simp;omega))
  ·simp only [List.mem_cons,List.not_mem_nil,or_false,not_or] at hb
   exact hk b o hb.1 hb.2.2.1 hb.2.2.2.1 hb.2.2.2.2 q
 self:=fun _ _ _ _ _ st h=>wpAny_pyIter_zip st.1 h
theorem q0:∀(ds es:List Dat) (i:Nat),(mZ ds es)[i]? =(ds[i]?).bind fun d=>(es[i]?).map fun e=>.tup [d,e]
 |[],es,i=>by simp [mZ]
 |d::ds,[],i=>by cases h:(d::ds)[i]?<;>simp [mZ]
 |d::ds,e::es,0=>by simp [mZ]
 |d::ds,e::es,i+1=>by rw [mZ,List.getElem?_cons_succ,q0 ds es i,List.getElem?_cons_succ,List.getElem?_cons_succ]
theorem lP:∀(ds es:List Dat),(mZ ds es).length=min ds.length es.length
 |[],es=>by simp [mZ]
 |d::ds,[]=>by simp [mZ]
 |d::ds,e::es=>by rw [mZ,List.length_cons,lP ds es,List.length_cons,List.length_cons];omega
theorem iter_zip {K:PySem.W.Frag} {F:Hp} {a b:Addr} {xs ys:List V} {ds es:List Dat} (t:SqL K F a xs) (z:ak K F ds xs) (t2:SqL K F b ys) (z2:ak K F es ys):mX K F (Itz K a b) (mZ ds es) where
 go:=fun i F' H' s1 s2 hi=>by
  rw [lP] at hi
  exact ⟨xs,ys,xs[i]'(by rw [z.length];omega),ys[i]'(by rw [z2.length];omega),s2.lst (s1.lst t),s2.lst (s1.lst t2),List.getElem?_eq_getElem _,List.getElem?_eq_getElem _⟩
 yl:=fun i F' H' x H2 d s1 s2 hd hy=>by
  obtain ⟨T,x1,y1,hT,ex,eH,h1,h2⟩:=hy
  subst ex eH
  rw [q0] at hd
  cases hds:ds[i]? with
  |none=>rw [hds] at hd;cases hd
  |some d1=>
   cases hes:es[i]? with
   |none=>rw [hds,hes] at hd;cases hd
   |some d2=>
    rw [hds,hes] at hd
    simp at hd
    subst hd
    obtain ⟨v,e1,q⟩:=z.get hds
    obtain ⟨v2,e2,q2⟩:=z2.get hes
    have e3:=h1 xs (s2.lst (s1.lst t))
    have e4:=h2 ys (s2.lst (s1.lst t2))
    rw [e1] at e3
    rw [e2] at e4
    cases e3
    cases e4
    refine ⟨upd F' T (.tup [x1,y1]),Step.lay s2 hT,T,_,rfl,SqT.of ar,?_⟩
    exact ⟨x1,[y1],rfl,(q.mono s1).mono (aC.upd (s2.free hT)),y1,[],rfl,(q2.mono s1).mono (aC.upd (s2.free hT)),rfl⟩
 st:=fun F' H' s1 s2=>⟨xs,ys,s2.lst (s1.lst t),s2.lst (s1.lst t2),by rw [z.length,z2.length,lP];omega⟩
section
variable {X:Cx} {K:PySem.W.Frag} {W:cy} {own ro:Bool} {e a b c:Expr} {es:List Expr} {x:Str} {pos p:Pos} {f fa fb fc:ae->M Dat}
noncomputable def iZip (K:PySem.W.Frag) (ta tb:TE):TI:=fun σ H R=>ta σ H fun x H1=>tb σ H1 fun y H2=>∃a b,x=.ref a/\y=.ref b/\(∃xs,SqL K H2 a xs)/\(∃ys,SqL K H2 b ys)/\R (Itz K a b) H2
theorem pi_zip {elts:List Expr} {k:Nat} {q:Pos} {ta tb:TE} (hg:Gl X "zip") (hm:X.mg "zip"=none) (ha:PE X a ta) (hb:PE X b tb) (hs:starEach [a,b] X.env=[(false,eval a X.env),(false,eval b X.env)]) (hs2:starEach [b] X.env=[(false,eval b X.env)]) :
  PI X (.Tuple elts k q) (.Call (.Name "zip" p) [a,b] [] pos) (iZip X.K ta tb):=by
 intro pins s σ H R I h
 have hA:PA X [a,b] (fS ta (fS tb oO)):=aF ha (aF hb cj hs2) (by rw [hs,hs2])
 refine Call_ (hV I hg hm boot_zip (PyProof.Rows.callWith_type1 (thn (hA pos pins s σ H (fun vs H1=>match vs with
  |[x,y]=>∃a b,x=.ref a/\y=.ref b/\(∃xs,SqL X.K H1 a xs)/\(∃ys,SqL X.K H1 b ys)/\R (Itz X.K a b) H1
  |_=>False) I h) fun us s1 ⟨vs,H1,I1,r1,q1⟩=>?_) (by rw [hs,hs2]) (by rw [hs2];rfl)))
 match vs,r1,q1 with
 |[x,y],r1,⟨l,l2,e1,e2,⟨xs,hq⟩,⟨ys,hq2⟩,q⟩=>
  subst e1 e2
  obtain ⟨u,u2,rfl,ru,ru2⟩:=r1.two
  cases ru
  cases ru2
  obtain ⟨its,rv,pl,_⟩:=I1.list hq
  obtain ⟨its2,rv2,pl2,_⟩:=I1.list hq2
  have a1:l<s1.heap.objs.size:=by obtain ⟨_,e,_⟩:=pl.isList;exact Heap.lt_size e
  have a2:l2<s1.heap.objs.size:=by obtain ⟨_,e,_⟩:=pl2.isList;exact Heap.lt_size e
  refine call_zip_2 pl.isList pl2.isList fun h' hz hTI hTO hi1 hi2 hsz hk=>?_
  have I2:Inv X pins σ H1 {s1 with heap:=h'}:=I1.kept (t':=s1.toks) hk
  refine wpAny_pyIter_zip hz ?_
  refine ⟨s1.heap.objs.size+4,[s1.heap.objs.size+4,s1.heap.objs.size+2,s1.heap.objs.size+3,s1.heap.objs.size,s1.heap.objs.size+1],_,_,H1,rfl,I2,turn_zip (zipApart_new a1 a2),⟨hz,hTI,⟨_,_,hTO⟩,hi1,hi2⟩,fun b hb=>?_,q⟩
  have hb2:s1.heap.objs.size<=b:=by
   simp only [List.mem_cons,List.not_mem_nil,or_false] at hb
   rcases hb with rfl|rfl|rfl|rfl|rfl
   ·exact Nat.le_add_right _ 4
   ·exact Nat.le_add_right _ 2
   ·exact Nat.le_add_right _ 3
   ·exact Nat.le_refl _
   ·exact Nat.le_add_right _ 1
  exact I1.fpOk hb2 (I1.hok.fresh hb2)
theorem ri_zip {σ:St} {H:Hp} {R:It->Hp->Prop} (h:iD K W (vg fa fb) σ H R):iZip K (tD K W false fa) (tD K W false fb) σ H R:=by
 obtain ⟨F,ρ,r,s,p⟩:=h
 refine aW r s (fun e he=>?_) fun d hd v F1 H1 s1 q1=>?_
 ·have z:vg fa fb ρ=.error e:=by unfold vg;rw [he];rfl
  rw [z] at p;exact p
 ·refine aW (r.mono s1.ff) s1.fh (fun e he=>?_) fun d2 hd2 v2 F2 H2 s2 q2=>?_
  ·have z:vg fa fb ρ=.error e:=by unfold vg;rw [hd,ai,he];rfl
   rw [z] at p;exact W.mono p s1
  ·have z:vg fa fb ρ=(gC d).bind fun ds=>(gC d2).bind fun es=>.ok (mZ ds es):=by unfold vg;rw [hd,ai,hd2,ai]
   rw [z] at p
   cases d with
   |lst ds=>
    cases d2 with
    |lst es=>
     obtain ⟨b,xs,e,t,zz⟩:=q1
     obtain ⟨b2,ys,e2,t2,zz2⟩:=q2
     have t':=s2.ff.lst t
     exact ⟨b,b2,e,e2,⟨xs,s2.fh.lst t'⟩,⟨ys,s2.fh.lst t2⟩,p _ F2 H2 (s1.trans s2) (iter_zip t' (zz.mono s2.ff) t2 zz2)⟩
    |_=>exact (W.ns p).elim
   |_=>exact (W.ns p).elim
theorem di_zip {elts:List Expr} {k:Nat} {q:Pos} (hm:X.mg "zip"=none) (ha:DE K W false X a fa) (hb:DE K W false X b fb) (hg:Gl X "zip":=by rfl) (hs:starEach [a,b] X.env=[(false,eval a X.env),(false,eval b X.env)]:=by rfl) (hs2:starEach [b] X.env=[(false,eval b X.env)]:=by rfl) (hK:X.K=K:=by rfl) :
  DI K W X (.Tuple elts k q) (.Call (.Name "zip" p) [a,b] [] pos) (vg fa fb):=by
 subst hK
 exact (pi_zip hg hm ha hb hs hs2).imp fun _ _ _=>ri_zip
end
end L2
namespace L2
open PySem PySem.Spec PyProof.Rows
end L2
namespace L2
open PySem PySem.Spec PyProof.Rows
end L2
namespace L2
open PySem PySem.Spec PyProof.Rows
section
variable {prog:Program} {w:World} {A:Around} {E:Value->Shared->Prop} {s:Shared}
noncomputable abbrev newL:Obj:={cls:=.type "list",data:=.seq ([]:List Value).toArray}
theorem pQ {Q:List Value->Shared->Prop} {r:Addr} {a b:Int} {t u v:Tok} {n:Nat} (hh:A.handled=none) (hr:IsRange s.heap r a b 1 t u v) (hsm:Builtin.Range.small a b 1=true)
  (hn:Builtin.Range.rangeSize a b 1=n) (hlen:n<=2^24)
  (hQ:∀g tk (acc:Array Value),(∀c o,s.heap.get? c=some o->g.get? c=some o)->ItemsOf (fun i v=>∃t,v=.int (a+i*1) t) acc n->Q acc.toList {s with heap:=g,toks:=tk}):wpAny (model prog w) A (collect (.ref r)) Q E s:=by
 unfold collect
 refine wpAny_bind (wpAny_runValue (codeAny_builtin F.entry_proto_collect ?_))
 (rw [Around.under_plainId F.plain_proto_collect _];show wpAny _ A.in1 (newList [] >>= fun l=>again (.builtin "list.__iadd__" ⟨[l,.ref r],[]⟩)) _ _ s)
 refine wpAny_bind (wpAny_newObj_type (wpAny_pure ⟨plainId_quiet F.plain_list_iadd _,codeAny_builtin F.entry_list_iadd ?_⟩))
 (rw [Around.under_plainId F.plain_list_iadd _];show wpAny _ A.in1 (Builtin.List.listExtendWith (.ref s.heap.objs.size) (.ref r) (.ref s.heap.objs.size)) _ _ _)
 have hS:(s.heap.push newL).get? s.heap.objs.size=some {cls:=.type "list",data:=.seq #[] 0}:=Heap.get?_push_size _ rfl
 refine wpAny_mono (wpAny_extend_range (A:=A) (R:=fun res z=>res=.ok (.ret (.ref s.heap.objs.size))/\∃(acc:Array Value) (c:Nat),z.heap.get? s.heap.objs.size=some {cls:=.type "list",dict:=none,data:=.seq acc c,slots:=#[]}/\Q acc.toList z) (s:={s with heap:=s.heap.push newL}) hh (Heap.get?_push_of_some _ hr) hsm hn hlen s.heap.objs.size _ 0 hS fun g tk acc c kp hg it=>?_) (fun fin z h=>?_) fun e z h=>absurd h.1 (by simp)
 ·exact ⟨rfl,acc,c,hg,hQ g tk acc (fun z o e=>kp z o (Nat.ne_of_lt (Heap.lt_size e)) (Heap.get?_push_of_some _ e)) it⟩
 ·cases fin with
  |done f=>
   obtain ⟨e,acc,c,hg,q⟩:=h
   cases e
   exact wpAny_bind (m:=load s.heap.objs.size) (wpAny_load hg (wpAny_pure q))
  |again c'=>
   refine ⟨h.1,codeAny_mono h.2 fun res z hz=>?_⟩
   obtain ⟨rfl,acc,c,hg,q⟩:=hz
   exact wpAny_bind (m:=load s.heap.objs.size) (wpAny_load hg (wpAny_pure q))
theorem lU {r:Addr} {a b:Int} {t u v:Tok} {n:Nat} (hsm:Builtin.Range.small a b 1=true) (hn:Builtin.Range.rangeSize a b 1=n) (hlen:n<=2^24) :
  MeetsIn prog w (Builtin.«tuple.__new__» ⟨[.type "tuple",.ref r],[]⟩)
   (fun A R s=>A.handled=none/\IsRange s.heap r a b 1 t u v/\∀(g:Heap) (tk:Nat) (acc:Array Value),(∀c o,s.heap.get? c=some o->g.get? c=some o)->ItemsOf (fun i v=>∃t,v=.int (a+i*1) t) acc n->R (.ok (.ret (.ref g.objs.size))) {s with heap:=g.push {cls:=.type "tuple",data:=.seq acc},toks:=tk}):=
 .of_wp fun A R s h=>by
  obtain ⟨hp,g,d,tk,os⟩:=s
  obtain ⟨hh,hr,h⟩:=h
  have hsub:=sub_tuple_self
  have hinit:=init_tuple_lookup
  have hmh:=madeHere_tuple
  have hT:Shared.TypeIs ⟨hp,g,d,tk,os⟩ (.ref r) "range":=⟨_,hr,rfl⟩
  wp_walk using wpAny_loadPart' hr,wpAny_typeOf hT,pQ (A:=A.in1) (n:=n) hh hr hsm hn hlen
  intro g2 tk2 acc kp it
  show wpAny _ _ (Builtin.Tuple.tupleExact acc.toList.toArray >>= fun v=>ret v) _ _ _
  unfold Builtin.Tuple.tupleExact
  have hz:acc.toList.toArray.size<=sizeLine:=by
   rw [sizeLine_eq]
   have:=it.1
   simp
   omega
  refine wpAny_bind (wpAny_newObj_type (wpAny_pure ⟨_,rfl,?_⟩) hz)
  have e:acc.toList.toArray=acc:=by simp
  rw [e]
  exact h g2 tk2 acc kp it
end
section
variable {prog:Program} {w:World} {A:Around} {E:Value->Shared->Prop} {s:Shared}
theorem jt {Q:Value->Shared->Prop} {r:Addr} {a b:Int} {t u v:Tok} {n:Nat} (hh:A.handled=none) (hr:IsRange s.heap r a b 1 t u v) (hsm:Builtin.Range.small a b 1=true) (hn:Builtin.Range.rangeSize a b 1=n) (hlen:n<=2^24)
  (hQ:∀(g:Heap) (tk:Nat) (acc:Array Value),(∀c o,s.heap.get? c=some o->g.get? c=some o)->ItemsOf (fun i v=>∃t,v=.int (a+i*1) t) acc n->Q (.ref g.objs.size) {s with heap:=g.push {cls:=.type "tuple",data:=.seq acc},toks:=tk}) :
  wpAny (model prog w) A (call (.type "tuple") [.ref r]) Q E s:=
 callType_newIn F.called_tuple (by decide) (F.typeCall_tuple_1 _) (F.newCall_tuple_1 _) (fun obj=>F.args_object_init_2 obj _) F.entry_tuple_new
  (lU (t:=t) (u:=u) (v:=v) hsm hn hlen) ⟨hh,hr,fun g tk acc kp it=>⟨⟨_,Heap.get?_push_size _ rfl,rfl⟩,hQ g tk acc kp it⟩⟩
end
section
variable {X:Cx} {K:PySem.W.Frag} {W:cy} {own ro:Bool} {a b:Expr} {pos p:Pos} {fr:ae->M (List Dat)}
theorem kR (hc:X.calm=true):bB X (.type "tuple") (fun xs H Q=>∃r lo hi,xs=[.ref r]/\H r=some (.rng lo hi)/\(-(2^62)<=lo/\lo<2^62/\ -(2^62)<=hi/\hi<2^62)/\(hi-lo).toNat<=sizeLine/\∀l,H l=none->Q (.ref l) (upd H l (.tup ((List.range (hi-lo).toNat).map fun k:Nat=>V.int (lo+k))))):=by
 intro pins s σ H xs us Q I rr h
 obtain ⟨r,lo,hi,rfl,hH,⟨b1,b2,b3,b4⟩,hz,q⟩:=h
 obtain ⟨u,rfl,ru⟩:=rr.one
 cases ru
 obtain ⟨t,u,v,e⟩:=(show ∃t u v,s.heap.get? r=some {cls:=.type "range",data:=.fields #[.int lo t,.int hi u,.int 1 v]} from I.hok r _ hH)
 refine jt (n:=(hi-lo).toNat) (I.ok.hd hc) e (small_one b1 b2 b3 b4) (by rw [rangeSize_one];split<;>omega) (by rw [sizeLine_eq] at hz;omega) fun g tk acc kp it=>?_
 have hv:Vals ((List.range (hi-lo).toNat).map fun k:Nat=>V.int (lo+k)) acc.toList:=ll (by rw [Array.length_toList];exact it.1) fun i v hi=>by
  obtain ⟨t,e⟩:=it.2 i v (by simpa using hi)
  exact ⟨t,by rw [e,Int.mul_one]⟩
 have I1:Inv X pins σ H {s with heap:=g,toks:=tk}:=I.kept kp
 exact ⟨.ref _,_,I1.laid (t':=tk) (fun b o e=>Heap.get?_push_of_some _ e) (Nat.le_refl _) (show cA X.prog X.w _ (g.push {cls:=.type "tuple",data:=.seq acc}) _ (.tup _) from ⟨by simpa using hz,acc.toList,hv,⟨_,Heap.get?_push_size _ rfl,rfl,0,by simp⟩⟩),rfl,q _ I1.fresh⟩
noncomputable def fTR (fr:ae->M (List Dat)):ae->M Dat:=fun ρ=>(fr ρ).bind fO
theorem trng_end {F H1:Hp} {Q:VK} {i j:Int} {r:Addr} (p:aw K W own F H1 (fO (bz i (j-i).toNat)) Q) (s:aC F H1) (hr:H1 r=none) :
  (j-i).toNat<=sizeLine/\∀l,upd H1 r (.rng i j) l=none->Q (.ref l) (upd (upd H1 r (.rng i j)) l (.tup ((List.range (j-i).toNat).map fun k:Nat=>V.int (i+k)))):=by
 unfold fO at p
 by_cases hl:(bz i (j-i).toNat).length<=sizeLine
 ·rw [if_pos hl] at p
  refine ⟨by simpa [bz] using hl,fun l hl2=>?_⟩
  have s2:Step F H1 F (upd H1 r (.rng i j)):=Step.grow s hr
  have s3:=Step.lay (o:=.tup ((List.range (j-i).toNat).map fun k:Nat=>V.int (i+k))) s2.fh hl2
  refine p _ _ _ (s2.trans s3) ?_
  cases own<;>exact ⟨l,_,rfl,SqT.of ar,kz i _⟩
 ·rw [if_neg hl] at p
  exact (W.ns p).elim
theorem de_trng1 {q1 q2:Pos} (hml:X.mg "tuple"=none) (hm:X.mg "range"=none) (ha:DA K W X [a] fr) (hc:X.calm=true:=by rfl) (hg:Gl X "range":=by rfl) (hgl:Gl X "tuple":=by rfl) (hs:starEach [a] X.env=[(false,eval a X.env)]:=by rfl)
  (hst:starEach [.Call (.Name "range" q1) [a] [] q2] X.env=[(false,eval (.Call (.Name "range" q1) [a] [] q2) X.env)]:=by rfl):DE K W own X (.Call (.Name "tuple" p) [.Call (.Name "range" q1) [a] [] q2] [] pos) (fTR (gm jy fr)):=by
 refine PE.imp (iE (kR hc) hgl hml PyProof.Rows.boot_tuple (aF (ur hg hm ha hs) cj hst) (by decide) (by decide) hst rfl) fun σ H Q h=>?_
 obtain ⟨F,ρ,r,s,p⟩:=h
 refine i4 r s (fun e he=>p.err (by unfold fTR gm;rw [he];rfl)) fun ds hd xs F1 H1 s1 q1=>?_
 have e1:fTR (gm jy fr) ρ=(jy ds).bind fO:=by unfold fTR gm;rw [hd];rfl
 rw [e1] at p
 have p1:=p.step s1
 by_cases hds:∃j,ds=[.int j]
 ·obtain ⟨j,rfl⟩:=hds
  obtain ⟨v,vs,e2,q2,e3⟩:=q1
  have p2:aw K W own F1 H1 ((if aK j=true then Except.ok (bz 0 j.toNat) else Except.error Err.stuck:M (List Dat)).bind fO) Q:=p1
  by_cases hj:aK j=true
  ·rw [if_pos hj] at p2
   unfold aK at hj
   simp only [Bool.and_eq_true,decide_eq_true_eq] at hj
   have e4:xs=[.int j]:=by rw [e2,show v=.int j from q2,show vs=[] from e3]
   subst e4
   refine ⟨0,j,rfl,rfl,⟨by decide,by decide,hj.1,hj.2⟩,fun r2 hr2=>?_⟩
   have p3:aw K W own F1 H1 (fO (bz 0 (j-0).toNat)) Q:=by rw [Int.sub_zero];exact p2
   obtain ⟨z1,z2⟩:=trng_end p3 s1.fh hr2
   exact ⟨r2,0,j,rfl,ar,⟨by decide,by decide,hj.1,hj.2⟩,z1,z2⟩
  ·rw [if_neg hj] at p2
   exact (W.ns p2).elim
 ·have:jy ds=.error .stuck:=by
   unfold jy
   split
   ·exact absurd ⟨_,rfl⟩ hds
   ·rfl
  rw [this] at p1
  exact (W.ns p1).elim
@[simp] theorem e_TR {ρ:ae}:fTR fr ρ=(fr ρ).bind fO:=id rfl
end
theorem fn_stk {P:Program} {w:World} {K:PySem.W.Frag} {mg:Str->Option Value} {base:Heap} {k nN:Nat} {f:Addr} {fd:FuncData} {ps:List Str} {ro:Bool}:gS P w K mg base CX0 k f fd ps (spF K ro (fA nN ps.length fun _=>stk) ps.length) where
 len:=fun vs H Q E ⟨F,ds,s,q,l,p⟩=>by rw [q.length,l]
 run:=fun A outer s H args us vs Q E hr he hb hv ⟨F,ds,s1,q,l,p⟩=>by
  have e:fA nN ps.length (fun _=>stk) ds=stk:=by
   unfold fA
   rw [if_pos l]
   rfl
  rw [e] at p
  exact aw.stuck p
theorem qD {n:Nat}:∀{ds:List Dat} {d:Dat},iF ds n=true->d∈ds->okE d n=true
 |[],d,_,h=>by simp at h
 |a::ds,d,h,hd=>by
  unfold iF at h
  simp only [Bool.and_eq_true] at h
  rcases List.mem_cons.mp hd with e|e
  ·rw [e];exact h.1
  ·exact qD h.2 e
section
variable {X:Cx} {K:PySem.W.Frag} {W:cy} {own ro:Bool}
open Classical in
theorem has_D {pins:List (Addr×Obj)} {σ:St} {F H:Hp} {s:Shared} (I:Inv X pins σ H s) (hF:aC F H) {ds:List Dat} {xs:List V} {its:List Value} {a:Dat} {x:V} {u:Value} {A:Around} (od:iF ds 40=true) (oa:okE a 40=true) (qs:ak X.K F ds xs) (rv:Vals xs its) (qa:aZ X.K F a x) (ra:RelV x u) (hu:A.units+40<cLine) :
  ∃e:Value->Bool,(∀y,y∈its.toArray->SeqAt.EqAt A s y u (e y))/\its.toArray.any e=ds.any fun d=>eqD d a:=by
 have each:∀(i:Nat) (y:Value),its[i]? =some y->∃d,ds[i]? =some d/\SeqAt.EqAt A s y u (eqD d a):=fun i y hy=>by
  have hi:i<its.length:=(List.getElem?_eq_some_iff.mp hy).1
  have h1:i<xs.length:=by rw [rv.length];exact hi
  have h2:i<ds.length:=by rw [<- qs.length];exact h1
  obtain ⟨v,e1,q1⟩:=qs.get (List.getElem?_eq_getElem h2)
  obtain ⟨w,e2,r2⟩:=rv.get e1
  rw [hy] at e2
  cases e2
  exact ⟨_,List.getElem?_eq_getElem h2,eqAt_D I hF _ a (qD od (List.getElem_mem h2)) oa q1 qa r2 ra hu⟩
 refine ⟨fun y=>decide (∃(i:Nat) (d:Dat),its[i]? =some y/\ds[i]? =some d/\eqD d a=true),fun y hy=>?_,?_⟩
 ·by_cases h:∃(i:Nat) (d:Dat),its[i]? =some y/\ds[i]? =some d/\eqD d a=true
  ·obtain ⟨i,d,h1,h2,h3⟩:=h
   obtain ⟨d',h4,h5⟩:=each i y h1
   rw [h2] at h4
   cases h4
   rw [h3] at h5
   have:decide (∃(i:Nat) (d:Dat),its[i]? =some y/\ds[i]? =some d/\eqD d a=true)=true:=decide_eq_true ⟨i,d,h1,h2,h3⟩
   show SeqAt.EqAt A s y u (decide _)
   rw [this]
   exact h5
  ·have hm:y∈its:=by simpa using hy
   obtain ⟨i,hi⟩:=List.getElem?_of_mem hm
   obtain ⟨d,h4,h5⟩:=each i y hi
   have h6:eqD d a=false:=by
    cases hq:eqD d a with
    |false=>rfl
    |true=>exact absurd ⟨i,d,hi,h4,hq⟩ h
   rw [h6] at h5
   show SeqAt.EqAt A s y u (decide _)
   rw [decide_eq_false h]
   exact h5
 ·rw [Bool.eq_iff_iff]
  simp only [List.any_toArray,List.any_eq_true,decide_eq_true_eq]
  constructor
  ·rintro ⟨y,hy,i,d,h1,h2,h3⟩
   exact ⟨d,List.mem_of_getElem? h2,h3⟩
  ·rintro ⟨d,hd,h3⟩
   obtain ⟨i,hi⟩:=List.getElem?_of_mem hd
   have h2:i<ds.length:=(List.getElem?_eq_some_iff.mp hi).1
   have h4:i<its.length:=by rw [<- rv.length,qs.length];exact h2
   exact ⟨its[i],List.getElem_mem h4,i,d,List.getElem?_eq_getElem h4,hi,h3⟩
theorem uD (hu:X.A.units+64<cLine) (hK:X.K=K:=by rfl):Op2 K W own X (compareOp .NotIn) k8:=by
 subst hK
 intro pins s σ H x y v u Q I rx ry h
 obtain ⟨F,a,b,s1,qa,qb,p⟩:=h
 have hu1:X.A.in1.units+40<cLine:=by show X.A.units+1+40<cLine;omega
 cases b with
 |lst ds=>
  obtain ⟨l,xs,e,t,z⟩:=qb
  subst e
  cases ry
  have p':aw X.K W own F H (if (okE a 40&&iF ds 40)=true then .ok (.bl (!ds.any fun d=>eqD d a)) else stk) Q:=p
  by_cases hc:(okE a 40&&iF ds 40)=true
  ·rw [if_pos hc] at p'
   simp only [Bool.and_eq_true] at hc
   obtain ⟨its,rv,pl,_⟩:=I.list (s1.lst t)
   obtain ⟨e,he,ha⟩:=has_D (A:=X.A.in1) I s1 hc.2 hc.1 z rv qa rx hu1
   refine SeqAt.notIn_listAt e pl.isList he ?_
   rw [ha]
   exact p'.blS s1 I
  ·rw [if_neg hc] at p';exact p'.stuck
 |tup ds=>
  obtain ⟨l,xs,e,t,z⟩:=qb
  subst e
  cases ry
  have p':aw X.K W own F H (if (okE a 40&&iF ds 40)=true then .ok (.bl (!ds.any fun d=>eqD d a)) else stk) Q:=p
  by_cases hc:(okE a 40&&iF ds 40)=true
  ·rw [if_pos hc] at p'
   simp only [Bool.and_eq_true] at hc
   obtain ⟨its,rv,pl,_⟩:=I.tuple (s1.tup t)
   obtain ⟨e,he,ha⟩:=has_D (A:=X.A.in1) I s1 hc.2 hc.1 z rv qa rx hu1
   refine SeqAt.notIn_tupleAt e (show s.heap.IsTuple l its.toArray from pl) he ?_
   rw [ha]
   exact p'.blS s1 I
  ·rw [if_neg hc] at p';exact p'.stuck
 |_=>exact aw.stuck p
end
end L2
namespace L2
open PySem PySem.Spec PyProof.Rows
noncomputable abbrev ZRec (h:Heap) (z p q:Addr) (m k:Value):Prop:=h.get? z=some {cls:=.type "zip",dict:=none,data:=.fields #[m,k,.bool false,.ref p,.ref q],slots:=#[]}
structure Zs (z p q u v l m:Addr) (r k a b:Value) (i j:Nat) (xs ys:Array Value) (h:Heap):Prop where
 me:ZRec h z p q r k
 its:IsPair h p (.ref u) (.ref v)
 own:IsPair h q a b
 one:h.IsListIter u l i
 two:h.IsListIter v m j
 xl:h.IsList l xs
 yl:h.IsList m ys
noncomputable def Off (z q u v:Addr) (h h':Heap):Prop:=∀c o,c≠z->c≠q->c≠u->c≠v->h.get? c=some o->h'.get? c=some o
section
variable {z p q u v l m:Addr} {r k a b:Value} {i j n:Nat} {xs ys:Array Value} {h h' g:Heap}
theorem Off.then (A:Off z q u v h h') (B:Off z q u v h' g):Off z q u v h g:=fun c o a b d e x=>B c o a b d e (A c o a b d e x)
end
inductive Mem:Value->Prop
 |no:Mem .none
 |was (a:Int) (t:Tok):Mem (.int a t)
end L2
namespace L2
open PySem PySem.Spec PyProof.Rows
inductive Laid2:Hp->List (V×V)->List V->Hp->Prop
 |nil {G:Hp}:Laid2 G [] [] G
 |cons {G G':Hp} {T:Addr} {x y:V} {ps:List (V×V)} {vs:List V}:G T=none->Laid2 (upd G T (.tup [x,y])) ps vs G'->Laid2 G ((x,y)::ps) (.ref T::vs) G'
end L2
namespace L2
open PySem PySem.Spec PyProof.Rows
end L2
namespace L2
open PySem PySem.Spec PyProof.Rows
structure Owns (K:PySem.W.Frag) (F G H:Hp) (ds:List Dat) (vs:List V):Prop where
 len:vs.length=ds.length
 get:∀(k:Nat) (d:Dat),ds[k]? =some d->∃a xs es,vs[k]? =some (.ref a)/\d=.lst es/\H a=some (.lst xs)/\F a=none/\G a=none/\ak K F es xs
 ap:∀(j k:Nat) (a:Addr),vs[j]? =some (.ref a)->vs[k]? =some (.ref a)->j=k
end L2
namespace L2
open PySem PySem.Spec PyProof.Rows
section
variable {prog:Program} {w:World} {A:Around} {E:Value->Shared->Prop} {s:Shared}
theorem su {q a:Addr} {i:Nat} {xs:Array Value} {v:Value} {Q:Value->Shared->Prop} (st:s.heap.IsTupleIter q a i) (ht:s.heap.IsTuple a xs) (hv:xs[i]? =some v) (k:∀h',h'.IsTupleIter q a (i+1)->Heap.SameBut q s.heap h'->Q v {s with heap:=h'}):wpAny (model prog w) A (Builtin.SmallTypes.nextOf (.ref q)) Q E s:=by
 obtain ⟨oq,e1,e2,e3⟩:=id st
 obtain ⟨oa,f1,_,n0,f3⟩:=ht
 have ty:=st.typeIs;unfold Builtin.SmallTypes.nextOf
 refine wpAny_bind (wpAny_callSpecial?_slot (name:=Str.ofString "__next__") ty PySem.F.slot_tuple_iterator_next (wpAny_call_entry PySem.F.slot_tuple_iterator_next ty PySem.F.entry_tuple_iterator_next ?_ (PySem.F.args_tuple_iterator_next_1 _)))
 show wpAny _ _ (field (.ref q) 0 >>= _) _ _ s
 refine wpAny_bind (wpAny_field e1 e3 (x:=.ref a) rfl ?_)
 show wpAny _ _ (if (Value.ref a==Value.none)=true then _ else _) _ _ s
 rw [if_neg (show ¬((Value.ref a==Value.none)=true) from Bool.false_ne_true)];show wpAny _ _ (field (.ref q) 1 >>= _) _ _ s
 refine wpAny_bind (wpAny_field e1 e3 (x:=.int i 0) rfl ?_)
 show wpAny _ _ (seqItems? (.ref a) >>= _) _ _ s
 refine wpAny_bind (wpAny_seqItems f1 f3 ?_)
 simp only [Int.toNat_natCast,hv];refine wpAny_bind (wpAny_setField e1 e3 (by simp) (wpAny_pure ⟨v,rfl,wpAny_pure (k _ ?_ (Heap.SameBut.update ..))⟩))
 exact ⟨_,Heap.get?_update_self _ e1 (Obj.isFreed_of_fields (Obj.data_mapFields e3 _)),(Obj.cls_mapFields ..).trans e2,by rw [Obj.data_mapFields e3];simp [rawInt]⟩
theorem uF {q a:Addr} {i:Nat} {xs:Array Value} {Q:Value->Shared->Prop} (hh:A.handled=none) (st:s.heap.IsTupleIter q a i) (ht:s.heap.IsTuple a xs) (hv:xs[i]? =none)
  (k:∀h' e,Heap.ExtBut q s.heap h'->(∃o,h'.get? e=some o/\o.cls=.type "StopIteration")->E (.ref e) {s with heap:=h'}):wpAny (model prog w) A (Builtin.SmallTypes.nextOf (.ref q)) Q E s:=by
 obtain ⟨oq,e1,e2,e3⟩:=id st
 obtain ⟨oa,f1,_,n0,f3⟩:=ht
 have ty:=st.typeIs;unfold Builtin.SmallTypes.nextOf
 refine wpAny_bind (wpAny_callSpecial?_slot (name:=Str.ofString "__next__") ty PySem.F.slot_tuple_iterator_next (wpAny_call_entry PySem.F.slot_tuple_iterator_next ty PySem.F.entry_tuple_iterator_next ?_ (PySem.F.args_tuple_iterator_next_1 _)))
 show wpAny _ _ (field (.ref q) 0 >>= _) _ _ s
 refine wpAny_bind (wpAny_field e1 e3 (x:=.ref a) rfl ?_)
 show wpAny _ _ (if (Value.ref a==Value.none)=true then _ else _) _ _ s
 rw [if_neg (show ¬((Value.ref a==Value.none)=true) from Bool.false_ne_true)];show wpAny _ _ (field (.ref q) 1 >>= _) _ _ s
 refine wpAny_bind (wpAny_field e1 e3 (x:=.int i 0) rfl ?_)
 show wpAny _ _ (seqItems? (.ref a) >>= _) _ _ s
 refine wpAny_bind (wpAny_seqItems f1 f3 ?_)
 simp only [Int.toNat_natCast,hv];refine wpAny_bind (wpAny_rule (wpAny_bind (wpAny_setField e1 e3 (by simp) (wpAny_bind ?_))))
 simp only [newExc,newTuple]
 refine wpAny_bind (wpAny_newObj_type ?_ (by size_fits));refine wpAny_bind (m:=firstArgMember _ _) (wpAny_of_eq (a:=Value.none) (by first|rfl|(simp only [firstArgMember];rfl)) ?_)
 refine wpAny_newObj_type ?_ (by size_fits);simp only [raiseNew]
 refine wpAny_bind (wpAny_handled ?_);first|rw [show A.in1.handled=none from hh]|rw [hh]
 exact wpAny_bind (wpAny_pure (wpAny_throw (k _ _ (((Heap.SameBut.update ..).extBut.push _).push _) ⟨_,Heap.get?_push_size _ rfl,rfl⟩)))
end
theorem og {prog:Program} {w:World} {A:Around} (hh:A.handled=none) (q a:Addr) (hne:a≠q) (xs:Array Value):Draws prog w A q [q,a] xs.size (fun i v=>xs[i]? =some v) (fun i h=>h.IsTupleIter q a i/\h.IsTuple a xs) where
 live:=fun _ _ st=>let ⟨o,e,_⟩:=st.1;⟨o,e⟩
 frame:=fun _ _ _ st k=>⟨st.1.at fun o e=>k q (by simp) o e,let ⟨o,e,r⟩:=st.2;⟨o,k a (by simp) o e,r⟩⟩
 item:=fun i s Q E hi st k=>su st.1 st.2 (v:=xs[i]) (by simp [hi]) fun h' z1 z2=>k _ h' s.toks (by simp [hi]) ⟨z1,let ⟨o,e,r⟩:=st.2;⟨o,z2.extBut a o hne e,r⟩⟩ z2
 done:=fun s Q E st k=>uF hh st.1 st.2 (by simp) k
section
theorem vj (a:Addr) (xs:Array Value) (n:Nat) (dd:Option Addr) (sl:Array (Option Value)):Meets (Builtin.«enumerate.__new__» ⟨[.type "enumerate",.ref a],[]⟩) (fun _ R s=>s.heap.get? a=some {cls:=.type "tuple",dict:=dd,data:=.seq xs n,slots:=sl}/\R (.ok (.ret (.ref (s.heap.push {cls:=.type "tuple_iterator",data:=.fields #[.ref a,.int 0 0]}).objs.size))) {s with heap:=(s.heap.push {cls:=.type "tuple_iterator",data:=.fields #[.ref a,.int 0 0]}).push {cls:=.type "enumerate",data:=.fields #[.none,.bool false,.ref s.heap.objs.size,rawInt 0,.none,.none]}}):=
 .of_wp fun prog w A R s h=>by
  obtain ⟨hp,g,d,tk,os⟩:=s;obtain ⟨ea,h⟩:=h
  have hsub:=sub_enumerate
  have hT:Heap.IsTuple (Shared.heap ⟨hp,g,d,tk,os⟩) a xs:=⟨_,ea,rfl,n,rfl⟩
  wp_walk using AutoSeq1.wpAny_loadPart' ea
  refine wpAny_stack_any fun z=>wpAny_pure ?_
  split
  ·rename_i c _ _ _ _ _
   cases (c==Value.type "enumerate")<;>(wp_walk using AutoSeq1.wpAny_loadPart' ea,wpAny_pyIter_tuple hT;exact ⟨_,rfl,h⟩)
  ·wp_walk using AutoSeq1.wpAny_loadPart' ea,wpAny_pyIter_tuple hT
   exact ⟨_,rfl,h⟩
end
section
variable {prog:Program} {w:World} {A:Around} {E:Value->Shared->Prop} {s:Shared}
theorem sU {a:Addr} {xs:Array Value} {Q:Value->Shared->Prop} (ht:s.heap.IsTuple a xs)
  (k:∀h',IsEnum h' (s.heap.objs.size+1) s.heap.objs.size 0 .none->h'.IsTupleIter s.heap.objs.size a 0->h'.objs.size=s.heap.objs.size+2->(∀b o,s.heap.get? b=some o->h'.get? b=some o)->Q (.ref (s.heap.objs.size+1)) {s with heap:=h'}):wpAny (model prog w) A (call (.type "enumerate") [.ref a]) Q E s:=by
 obtain ⟨⟨c,dd,dt,sl⟩,e1,e2,n,e3⟩:=ht
 have e2:c=.type "tuple":=e2
 have e3:dt=.seq xs n:=e3
 subst e2 e3
 refine callType_new PySem.F.called_enumerate (by decide) (PySem.F.typeCall_enumerate_1 _) (PySem.F.newCall_enumerate_1 _) (fun obj=>PySem.F.args_object_init_2 obj _) PySem.F.entry_enumerate_new (vj a xs n dd sl) ⟨e1,?_⟩
 have hz:(s.heap.push {cls:=.type "tuple_iterator",data:=.fields #[.ref a,.int 0 0]}).objs.size=s.heap.objs.size+1:=Heap.size_push ..
 show _/\_
 rw [hz]
 have he:IsEnum ((s.heap.push {cls:=.type "tuple_iterator",data:=.fields #[.ref a,.int 0 0]}).push {cls:=.type "enumerate",data:=.fields #[.none,.bool false,.ref s.heap.objs.size,rawInt 0,.none,.none]}) (s.heap.objs.size+1) s.heap.objs.size 0 .none:=by
  have z:=Heap.get?_push_size (s.heap.push {cls:=.type "tuple_iterator",data:=.fields #[.ref a,.int 0 0]}) (o:={cls:=.type "enumerate",data:=.fields #[.none,.bool false,.ref s.heap.objs.size,rawInt 0,.none,.none]}) rfl
  rw [hz] at z;exact z
 exact ⟨⟨_,he,rfl⟩,k _ he ⟨_,Heap.get?_push_of_some _ (Heap.get?_push_size _ rfl),rfl,rfl⟩ (by rw [Heap.size_push,hz]) fun b o z=>Heap.get?_push_of_some _ (Heap.get?_push_of_some _ z)⟩
end
noncomputable def IteT (K:PySem.W.Frag) (a:Addr):It:=
 ⟨fun i H=>∃xs x,SqT K H a xs/\xs[i]? =some x,fun i H x H'=>∃T y,H T=none/\x=.ref T/\H'=upd H T (.tup [.int i,y])/\∀xs,SqT K H a xs->xs[i]? =some y,fun i H=>∃xs,SqT K H a xs/\xs.length=i⟩
theorem rP {P:Program} {w:World} {K:PySem.W.Frag} {elts:List Expr} {k:Nat} {pos:Pos} (a e it:Addr) (hei:e≠it):Turn P w K (.Tuple elts k pos) (IteT K a) [e,it] e (fun i h=>(∃old,IsEnum h e it i old)/\h.IsTupleIter it a i) where
 mem:=by simp
 obj:=fun i h st b hb=>by
  obtain ⟨⟨old,he⟩,o,e1,c,d⟩:=st
  rcases List.mem_cons.mp hb with z0|hb
  ·subst z0;exact ⟨_,he,fun v z=>by cases z⟩
  ·have:b=it:=by simpa using hb
   subst this
   exact ⟨o,e1,fun v z=>by rw [d] at z;cases z⟩
 keep:=fun i h h' st kk=>by
  obtain ⟨⟨old,he⟩,hit⟩:=st
  exact ⟨⟨old,kk e (by simp) _ he⟩,hit.at fun o x=>kk it (by simp) o x⟩
 item:=by
  intro X hP hw hK hc i pins s σ H E I hf st hg
  subst hP hw hK
  obtain ⟨⟨old,he⟩,hit⟩:=st
  obtain ⟨xs,x,hq,hx⟩:=hg
  obtain ⟨its,rv,p,hz⟩:=I.tuple hq
  obtain ⟨u,hu,ru⟩:=rv.get hx
  have pT:s.heap.IsTuple a its.toArray:=p
  have nai:a≠it:=fun z=>by
   obtain ⟨o1,c1,c2,_⟩:=pT
   obtain ⟨o2,c3,c4,_⟩:=hit
   rw [z,c3] at c1
   cases c1
   rw [c4] at c2
   exact absurd c2 (by decide)
  have nea:e≠a:=fun z=>by
   obtain ⟨o1,c1,c2,_⟩:=pT
   have he':s.heap.get? e=_:=he
   rw [z,c1] at he'
   cases he'
   exact absurd c2 (by simp)
  have hlt:i<its.toArray.size:=by
   have:=(List.getElem?_eq_some_iff.mp hu).1
   simpa using this
  refine wpAny_pyNext_enum_itemD (og (A:=X.A.in1) (show X.A.in1.handled=none from I.ok.hd hc) it a nai its.toArray) he ⟨hit,pT⟩ hlt hei (by simp [hei,nea]) fun v h1 tk hv ho hst1 hT hsz hk=>?_
  have hvu:v=u:=by
   have hv:its.toArray[i]? =some v:=hv
   rw [show its.toArray[i]? =its[i]? by simp,hu] at hv
   exact (Option.some.inj hv).symm
  subst hvu
  refine ⟨_,rfl,wpAny_letOwnedTupleGo_enum ho fun h2 he2 hs2=>?_⟩
  have hlt2:e<s.heap.objs.size:=Heap.lt_size he
  have hTe:s.heap.objs.size≠e:=Nat.ne_of_gt hlt2
  have I1:Inv X pins σ (upd H s.heap.objs.size (.tup [.int i,x])) {s with heap:=h2,toks:=tk+1}:=I.p8 (ch:=[e,it]) hf (fun b o hb q=>by
    have h3:=hk b o (fun z=>hb (by simp [z])) (fun z=>hb (by simp [z])) q
    exact (hs2.2 b (fun z=>hb (by simp [z]))).trans h3) (Nat.le_refl _) ⟨by show 2<=sizeLine;decide,[.int i tk,v],.cons ⟨_,rfl⟩ (.cons ru .nil),⟨_,(hs2.2 _ hTe).trans hT,rfl,0,rfl⟩⟩
  refine ⟨.ref s.heap.objs.size,_,I1,rfl,⟨s.heap.objs.size,x,I.hok.fresh (Nat.le_refl _),rfl,rfl,fun ys hy=>by rw [I.nh hy hq];exact hx⟩,⟨⟨v,by simpa using he2⟩,hst1.1.at fun o y=>(hs2.2 it hei.symm).trans y⟩,fun b hb=>?_⟩
  have hbn:=(hf b hb).1
  have:b≠s.heap.objs.size:=by
   rcases List.mem_cons.mp hb with z0|hb
   ·subst z0;exact hTe.symm
   ·have:b=it:=by simpa using hb
    subst this
    obtain ⟨o,e1,_⟩:=hit
    exact Nat.ne_of_lt (Heap.lt_size e1)
  rw [aq this]
  exact hbn
 done:=by
  intro X hP hw hK hc i pins s σ H E I hf st hg
  subst hP hw hK
  obtain ⟨⟨old,he⟩,hit⟩:=st
  obtain ⟨xs,hq,hx⟩:=hg
  obtain ⟨its,rv,p,hz⟩:=I.tuple hq
  have hl:=rv.length
  have pT:s.heap.IsTuple a its.toArray:=p
  have nai:a≠it:=fun z=>by
   obtain ⟨o1,c1,c2,_⟩:=pT
   obtain ⟨o2,c3,c4,_⟩:=hit
   rw [z,c3] at c1
   cases c1
   rw [c4] at c2
   exact absurd c2 (by decide)
  have hn:i=its.toArray.size:=by simp;omega
  rw [hn] at hit
  exact wpAny_pyNext_enum_endD (og (A:=X.A.in1) (show X.A.in1.handled=none from I.ok.hd hc) it a nai its.toArray) he ⟨hit,pT⟩ fun h2 eb=>⟨rfl,I.p9 (t':=s.toks) (ch:=[e,it]) hf fun b o hb q=>eb b o (fun z=>hb (by simp [z])) q⟩
 self:=fun _ _ _ _ _ st h=>by
  obtain ⟨⟨old,he⟩,_⟩:=st
  exact wpAny_pyIter_enum he h
theorem sJ {K:PySem.W.Frag} {F:Hp} {a:Addr} {xs:List V} {ds:List Dat} (t:SqT K F a xs) (z:ak K F ds xs):mX K F (IteT K a) (eQ 0 ds) where
 go:=fun i F' H' s1 s2 hi=>⟨xs,xs[i]'(by rw [z.length];rw [eM] at hi;exact hi),s2.tup (s1.tup t),by rw [eM] at hi;simp [z.length,hi]⟩
 yl:=fun i F' H' x H2 d s1 s2 hd hy=>by
  obtain ⟨T,y,hT,ex,eH,hy⟩:=hy
  subst ex eH
  rw [kn] at hd
  cases hds:ds[i]? with
  |none=>rw [hds] at hd;cases hd
  |some d'=>
   rw [hds] at hd
   simp at hd
   subst hd
   obtain ⟨v,e1,q⟩:=z.get hds
   have e2:=hy xs (s2.tup (s1.tup t))
   rw [e1] at e2
   cases e2
   refine ⟨upd F' T (.tup [.int i,y]),Step.lay s2 hT,T,_,rfl,SqT.of ar,?_⟩
   exact ⟨.int i,[y],rfl,rfl,y,[],rfl,(q.mono s1).mono (aC.upd (s2.free hT)),rfl⟩
 st:=fun F' H' s1 s2=>⟨xs,s2.tup (s1.tup t),by rw [z.length,eM]⟩
noncomputable def jk (fa:ae->M Dat):ae->M (List Dat):=fun ρ=>(fa ρ).bind fun d=>(gd d).bind fun ds=>.ok (eQ 0 ds)
@[simp] theorem e_enum2 {fa:ae->M Dat} {ρ:ae}:jk fa ρ=(fa ρ).bind fun d=>(gd d).bind fun ds=>.ok (eQ 0 ds):=id rfl
section
variable {X:Cx} {K:PySem.W.Frag} {W:cy} {a:Expr} {pos p:Pos} {fa:ae->M Dat}
noncomputable def iEnum2 (K:PySem.W.Frag) (tl:TE):TI:=fun σ H R=>tl σ H fun x H1=>∃a,x=.ref a/\((∃xs,SqL K H1 a xs)/\R (Ite K a) H1\/(∃xs,SqT K H1 a xs)/\R (IteT K a) H1)
theorem pi_enum2 {elts:List Expr} {k:Nat} {q:Pos} {tl:TE} (hg:Gl X "enumerate") (hm:X.mg "enumerate"=none) (hl:PE X a tl) (hs:starEach [a] X.env=[(false,eval a X.env)]:=by rfl) :
  PI X (.Tuple elts k q) (.Call (.Name "enumerate" p) [a] [] pos) (iEnum2 X.K tl):=by
 intro pins s σ H R I h
 have ha:PA X [a] (fS tl oO):=aF hl cj hs
 refine Call_ (hV I hg hm boot_enumerate (PyProof.Rows.callWith_type1 (thn (ha pos pins s σ H (fun vs H1=>match vs with
  |[x]=>∃a,x=.ref a/\((∃xs,SqL X.K H1 a xs)/\R (Ite X.K a) H1\/(∃xs,SqT X.K H1 a xs)/\R (IteT X.K a) H1)
  |_=>False) I h) fun us s1 ⟨vs,H1,I1,r1,q1⟩=>?_) hs rfl))
 match vs,r1,q1 with
 |[x],r1,⟨l,e1,q⟩=>
  subst e1
  obtain ⟨u,rfl,ru⟩:=r1.one
  cases ru
  have fpo:∀b∈[s1.heap.objs.size+1,s1.heap.objs.size],t9 X pins H1 b:=fun b hb=>by
   have hb2:s1.heap.objs.size<=b:=by
    rcases List.mem_cons.mp hb with z0|hb
    ·subst z0;exact Nat.le_succ _
    ·have:b=s1.heap.objs.size:=by simpa using hb
     exact Nat.le_of_eq this.symm
   exact I1.fpOk hb2 (I1.hok.fresh hb2)
  rcases q with ⟨⟨xs,hq⟩,q⟩|⟨⟨xs,hq⟩,q⟩
  ·obtain ⟨its,rv,pl,hz⟩:=I1.list hq
   refine call_enumerate_list pl.isList fun h2 he hit hsz hk=>?_
   have I2:Inv X pins σ H1 {s1 with heap:=h2}:=I1.kept (t':=s1.toks) hk
   refine wpAny_pyIter_enum he ?_;exact ⟨s1.heap.objs.size+1,[s1.heap.objs.size+1,s1.heap.objs.size],_,_,H1,rfl,I2,n8 l _ _ (Nat.succ_ne_self _),⟨⟨_,he⟩,hit⟩,fpo,q⟩
  ·obtain ⟨its,rv,pl,hz⟩:=I1.tuple hq
   refine sU (show s1.heap.IsTuple l its.toArray from pl) fun h2 he hit hsz hk=>?_
   have I2:Inv X pins σ H1 {s1 with heap:=h2}:=I1.kept (t':=s1.toks) hk
   refine wpAny_pyIter_enum he ?_;exact ⟨s1.heap.objs.size+1,[s1.heap.objs.size+1,s1.heap.objs.size],_,_,H1,rfl,I2,rP l _ _ (Nat.succ_ne_self _),⟨⟨_,he⟩,hit⟩,fpo,q⟩
theorem ri_enum2 {σ:St} {H:Hp} {R:It->Hp->Prop} (h:iD K W (jk fa) σ H R):iEnum2 K (tD K W false fa) σ H R:=by
 obtain ⟨F,ρ,r,s,p⟩:=h
 refine aW r s (fun e he=>?_) fun d hd v F1 H1 s1 q1=>?_
 ·have z:jk fa ρ=.error e:=by unfold jk;rw [he];rfl
  rw [z] at p;exact p
 ·have z:jk fa ρ=(gd d).bind fun ds=>.ok (eQ 0 ds):=by unfold jk;rw [hd];rfl
  rw [z] at p
  cases d with
  |lst ds=>
   obtain ⟨b,xs,e,t,z⟩:=q1
   exact ⟨b,e,.inl ⟨⟨xs,s1.fh.lst t⟩,p _ F1 H1 s1 (nR t z)⟩⟩
  |tup ds=>
   obtain ⟨b,xs,e,t,z⟩:=q1
   exact ⟨b,e,.inr ⟨⟨xs,s1.fh.tup t⟩,p _ F1 H1 s1 (sJ t z)⟩⟩
  |_=>exact (W.ns p).elim
theorem di_enum2 {elts:List Expr} {k:Nat} {q:Pos} (hm:X.mg "enumerate"=none) (hl:DE K W false X a fa) (hg:Gl X "enumerate":=by rfl) (hs:starEach [a] X.env=[(false,eval a X.env)]:=by rfl) (hK:X.K=K:=by rfl) :
  DI K W X (.Tuple elts k q) (.Call (.Name "enumerate" p) [a] [] pos) (jk fa):=by
 subst hK
 exact (pi_enum2 hg hm hl hs).imp fun _ _ _=>ri_enum2
end
end L2
namespace L2
open PySem PySem.Spec PyProof.Rows
structure Ys (z p q u v l m:Addr) (r k a b:Value) (i j:Nat) (xs ys:Array Value) (h:Heap):Prop where
 me:ZRec h z p q r k
 its:IsPair h p (.ref u) (.ref v)
 own:IsPair h q a b
 one:h.IsTupleIter u l i
 two:h.IsTupleIter v m j
 xl:h.IsTuple l xs
 yl:h.IsTuple m ys
end L2
namespace L2
open PySem PySem.Spec PyProof.Rows
structure RepR (K:PySem.W.Frag) (F0 H0 FB:Hp) (i:Nat) (a:Addr) (ys:List V) (rs:List Dat) (F H:Hp) (σ:St) (ρ:ae):Prop where
 r:Rep K F0 H0 FB [] F H σ ρ
 sl:σ[i]? =some (some (.ref a))
 hp:H a=some (.lst ys)
 fa:F a=none
 ha:H0 a=none
 nm:∀m:Nat,ys[m]?≠some (.ref a)
 ow:Owns K F H0 H rs ys
section
variable {K:PySem.W.Frag} {F0 H0 FB F H F1 H1:Hp} {i:Nat} {a:Addr} {ys:List V} {rs:List Dat} {σ:St} {ρ:ae}
theorem RepR.base {FB':Hp} (h:RepR K F0 H0 FB i a ys rs F H σ ρ) (s:aC FB' FB):RepR K F0 H0 FB' i a ys rs F H σ ρ:=⟨h.r.base s,h.sl,h.hp,h.fa,h.ha,h.nm,h.ow⟩
end
end L2
namespace L2
open PySem PySem.Spec PyProof.Rows
section
variable {κ:Type} [DecidableEq κ]
noncomputable def dropK (kvs:List (κ×V)) (k:κ):List (κ×V):=kvs.filter fun kv=>decide (kv.1≠k)
theorem vR.nV {o:Option V} {u:Option Value} (r:vR o u):o.isSome=u.isSome:=by
 cases o with
 |none=>cases u with
  |none=>rfl
  |some _=>exact (show False from r).elim
 |some _=>cases u with
  |none=>exact (show False from r).elim
  |some _=>rfl
theorem vR.getD {o:Option V} {u:Option Value} {d:V} {d':Value} (r:vR o u) (rd:RelV d d'):RelV (o.getD d) (u.getD d'):=by
 cases o with
 |none=>cases u with
  |none=>exact rd
  |some _=>exact (show False from r).elim
 |some _=>cases u with
  |none=>exact (show False from r).elim
  |some _=>exact r
theorem KV.drop {kvs:List (κ×V)} {vs:List (κ×Value)} (r:KV kvs vs) (k:κ):KV (dropK kvs k) (without vs k):=by
 unfold KV at r ⊢
 unfold dropK without
 induction r with
 |nil=>exact .nil
 |@cons p q ps qs h t ih=>
  obtain ⟨h1,h2⟩:=h
  rw [List.filter_cons,List.filter_cons]
  by_cases e:p.1=k
  ·have a:¬decide (p.1≠k)=true:=by simp [e]
   have b:¬decide (q.1≠k)=true:=by simp [h1.symm.trans e]
   rw [if_neg a,if_neg b];exact ih
  ·have e':¬q.1=k:=fun z=>e (h1.trans z)
   have a:decide (p.1≠k)=true:=by simp [e]
   have b:decide (q.1≠k)=true:=by simp [e']
   rw [if_pos a,if_pos b];exact .cons ⟨h1,h2⟩ ih
theorem KV.keys {kvs:List (κ×V)} {vs:List (κ×Value)} (r:KV kvs vs):kvs.map (·.1)=vs.map (·.1):=by
 unfold KV at r
 induction r with
 |nil=>rfl
 |cons h t ih=>rw [List.map_cons,List.map_cons,ih,h.1]
theorem KV.length {kvs:List (κ×V)} {vs:List (κ×Value)} (r:KV kvs vs):kvs.length=vs.length:=Paired.length r
end
section
variable {X:Cx} {pins:List (Addr×Obj)} {σ:St} {H:Hp} {s:Shared} {a:Addr} {y v:V} {u r:Value} {o:Option V} {A:Around} {E:Value->Shared->Prop}
theorem Inv.big (I:Inv X pins σ H s):sysModules<s.heap.objs.size:=by
 have h:mainGlobals<s.heap.objs.size:=(I.mod.glob.keeps I.bk).lt
 exact Nat.lt_trans (by decide) h
end
noncomputable def tQ:List (TE×TE)->St->Hp->(List (V×V)->Hp->Prop)->Prop
 |[],_,H,Q=>Q [] H
 |(tk,tv)::r,σ,H,Q=>tk σ H fun x H1=>tv σ H1 fun y H2=>tQ r σ H2 fun ps H3=>Q ((x,y)::ps) H3
noncomputable abbrev VV:List (V×V)->List (Value×Value)->Prop:=Paired fun p q=>RelV p.1 q.1/\RelV p.2 q.2
noncomputable def PPs (X:Cx) (pos:Pos) (keys:List (Option Expr)) (values:List Expr) (trs:List (TE×TE)):Prop:=
 ∀(pins:List (Addr×Obj)) (s:Shared) (σ:St) (H:Hp) (Q:List (V×V)->Hp->Prop),Inv X pins σ H s->tQ trs σ H Q ->
  wpAny (model X.prog X.w) X.A (evalPairs (pairTrees keys values X.env pos)) (fun vs s'=>∃ps H',Inv X pins σ H' s'/\VV ps vs/\Q ps H') X.xe s
theorem pps_nil {X:Cx} {pos:Pos}:PPs X pos [] [] []:=fun pins s σ H Q I h=>pairTrees_nil_walk ⟨[],H,I,.nil,h⟩
theorem pps_cons {X:Cx} {pos:Pos} {k v:Expr} {ks:List (Option Expr)} {vs:List Expr} {tk tv:TE} {trs:List (TE×TE)} (hk:PE X k tk) (hv:PE X v tv) (hr:PPs X pos ks vs trs) :
  PPs X pos (some k::ks) (v::vs) ((tk,tv)::trs):=fun pins s σ H Q I h=>
 pairTrees_cons_walk (thn (hk pins s σ H _ I h) fun u s1 ⟨x,H1,I1,rx,q1⟩=>thn (hv pins s1 σ H1 _ I1 q1) fun w2 s2 ⟨y,H2,I2,ry,q2⟩=>
  thn (hr pins s2 σ H2 _ I2 q2) fun ws s3 ⟨ps,H3,I3,rel,q3⟩=>⟨(x,y)::ps,H3,I3,.cons ⟨rx,ry⟩ rel,q3⟩)
structure M1 (X:Cx) (o:Expr) (m:Str) (apos:Pos) (e:Expr) (cpos:Pos):Prop where
 base:attributeBase o m X.env (eval o X.env)=eval o X.env
 few:((backTo cpos (starEach [e] X.env)).all (fun x=> !x.1)&&(backToKw cpos (keywordEach [] X.env)).all (fun x=>x.1.isSome)
  &&decide (([e]:List Expr).length+([]:List Keyword).length+(if ([]:List Keyword).isEmpty then 0 else 1)<30))=true
 line:(apos.endLine==cpos.line)=true
 trees:backTo cpos (starEach [e] X.env)=[(false,eval e X.env)]
structure M2 (X:Cx) (o:Expr) (m:Str) (apos:Pos) (e f:Expr) (cpos:Pos):Prop where
 base:attributeBase o m X.env (eval o X.env)=eval o X.env
 few:((backTo cpos (starEach [e,f] X.env)).all (fun x=> !x.1)&&(backToKw cpos (keywordEach [] X.env)).all (fun x=>x.1.isSome)
  &&decide (([e,f]:List Expr).length+([]:List Keyword).length+(if ([]:List Keyword).isEmpty then 0 else 1)<30))=true
 line:(apos.endLine==cpos.line)=true
 trees:backTo cpos (starEach [e,f] X.env)=[(false,eval e X.env),(false,eval f X.env)]
end L2
namespace L2
open PySem PySem.Spec PyProof.Rows
noncomputable def keysI (ks:List Int):List (Key×V):=ks.map fun k=>(Sum.inl k,.bl true)
structure RepK (K:PySem.W.Frag) (F0 H0 FB:Hp) (i:Nat) (a:Addr) (ks:List Int) (F H:Hp) (σ:St) (ρ:ae):Prop where
 r:Rep K F0 H0 FB [] F H σ ρ
 sl:σ[i]? =some (some (.ref a))
 hp:H a=some (.dK (keysI ks))
 fa:F a=none
 ha:H0 a=none
end L2
namespace L2
open PySem PySem.Spec PyProof.Rows
structure ExA (h:Heap) (e:Addr) (C:Value) (dx hd:Option Addr):Prop where
 ob:∃oe vs,h.get? e=some oe/\oe.cls=C/\oe.dict=dx/\oe.data=.fields vs/\vs[1]? =some (hd.elim Value.none Value.ref)
 tb:∀T,hd=some T->T≠e/\∃oT ts,h.get? T=some oT/\oT.data=.fields ts/\ts[3]? =some .none
theorem dictMapF (f:Array Value->Array Value) (o:Obj):(o.mapFields f).dict=o.dict:=by
 obtain ⟨c,d,dt,sl⟩:=o
 cases dt<;>rfl
theorem size3 {l:List Value} (h:3<l.length):3<l.toArray.size:=by rw [List.size_toArray];exact h
section
variable {M:Model} {A:Around} {E:Value->Shared->Prop} {s:Shared}
theorem mkEntry {hv fv lv:Value} {pl:List Value} {Q:Value->Shared->Prop} (hp:IsPlace pl) (h:∀(o:Obj) (ts:Array Value),o.data=.fields ts->3<ts.size->o.isFreed=false->Q (.ref s.heap.objs.size) {s with heap:=s.heap.push o}) :
  wpAny M A (EntryCells.newEntry hv fv .none lv .none pl) Q E s:=by
 unfold EntryCells.newEntry newFields
 refine wpAny_newObj_type (h _ _ rfl (size3 ?_) ?_) (hp.sizeOk5 _ _ _ _ _)
 ·simp
 ·exact Obj.isFreed_of_fields rfl
structure Left (fs:List Addr) (e:Addr) (hd:Option Addr) (h h':Heap):Prop where
 keep:∀b o,h.get? b=some o->b∉fs->b≠e->(∀T,hd=some T->b≠T)->h'.get? b=some o
 slot:∀b o,h.get? b=some o->b∈fs->∃sl,h'.get? b=some {o with slots:=sl}
 size:h.objs.size<=h'.objs.size
theorem entry_at {base:Heap} {env:Env} {outer:List Env} {L e:Addr} {C:Value} {dx:Option Addr} {oe:Obj} {vs:Array Value} {hv:Value} {bn:Bool} {Q:Unit->Shared->Prop}
  (hfr:A.frames=some (env::outer)) (hl:s.heap.FunFrames base (env::outer)) (hf:env.frame=some L) (he:s.heap.get? e=some oe) (hc:oe.cls=C) (hdx:oe.dict=dx) (hd:oe.data=.fields vs) (hs:1<vs.size)
  (h:∀h' T,ExA h' e C dx (some T)->s.heap.objs.size<=T->Left (frs (env::outer)) e none s.heap h'->Q () {s with heap:=h'}) :
  wpAny M A (frameOf env >>= fun a=>entryPlaceOf L bn >>= fun pl=>EntryCells.newEntry hv a .none (rawInt L) .none pl >>= fun b=>setField (.ref e) 1 b) (fun _ s'=>wpAny M A (setFlight (.ref e) none) Q E s') E s:=by
 have nfr:∀b o,b∈frs (env::outer)->s.heap.get? b=some o->∀vs,o.data≠.fields vs:=fun b o hm q=>by
  obtain ⟨_,o',ho',n⟩:=hl.mem hm
  rw [q] at ho'
  cases ho'
  exact n
 have hne:e∉frs (env::outer):=fun hm=>nfr e oe hm he vs hd
 refine wpAny_bind (wpAny_frameOf_fun hfr hl hf fun h1 x1=>?_)
 obtain ⟨z1,z2,z3⟩:=x1
 refine wpAny_bind (wpAny_entryPlaceOf fun pl hp=>?_)
 refine wpAny_bind (mkEntry hp fun o ts ho h3 hfo=>?_)
 have e1:h1.get? e=some oe:=by rw [z2 e hne];exact he
 have n1:h1.objs.size≠e:=fun z=>absurd (Heap.lt_size e1) (by rw [z];exact Nat.lt_irrefl _)
 have e2:(h1.push o).get? e=some oe:=Heap.get?_push_of_some o e1
 have t2:(h1.push o).get? h1.objs.size=some o:=Heap.get?_push_size h1 hfo
 refine wpAny_setField e2 hd hs ?_
 have d3:=Obj.data_mapFields hd (·.setIfInBounds 1 (Value.ref h1.objs.size))
 have e3:=Heap.get?_update_self (h:=h1.push o) (Obj.mapFields (·.setIfInBounds 1 (Value.ref h1.objs.size))) e2 (Obj.isFreed_of_fields d3)
 have t3:((h1.push o).update e (Obj.mapFields (·.setIfInBounds 1 (Value.ref h1.objs.size)))).get? h1.objs.size=some o:=by
  rw [Heap.get?_update_other _ _ (Ne.symm n1)]
  exact t2
 unfold setFlight
 refine wpAny_bind (wpAny_field e3 d3 (x:=.ref h1.objs.size) (by simp [hs]) ?_)
 rw [if_pos (by simp)]
 refine wpAny_setField t3 ho h3 ?_
 have dT:=Obj.data_mapFields ho (·.setIfInBounds 3 ((none:Option Addr).elim Value.none fun f=>rawInt f))
 refine h _ h1.objs.size ⟨⟨_,_,by rw [Heap.get?_update_other _ _ n1];exact e3,by rw [Obj.cls_mapFields];exact hc,by rw [dictMapF];exact hdx,d3,by simp [hs]⟩,fun T hT=>?_⟩ (by rw [z1];exact Nat.le_refl _) ⟨fun b o' q hb hbe _=>?_,fun b o' q hb=>?_,?_⟩
 ·cases hT
  exact ⟨n1,_,_,Heap.get?_update_self _ t3 (Obj.isFreed_of_fields dT),dT,by simp [h3]⟩
 ·have q1:h1.get? b=some o':=by rw [z2 b hb];exact q
  have nb:h1.objs.size≠b:=fun z=>absurd (Heap.lt_size q1) (by rw [z];exact Nat.lt_irrefl _)
  rw [Heap.get?_update_other _ _ nb,Heap.get?_update_other _ _ (Ne.symm hbe)]
  exact Heap.get?_push_of_some o q1
 ·obtain ⟨sl,q1⟩:=z3 b o' q
  have nb:h1.objs.size≠b:=fun z=>absurd (Heap.lt_size q1) (by rw [z];exact Nat.lt_irrefl _)
  have nbe:e≠b:=fun z=>hne (z▸hb)
  refine ⟨sl,?_⟩
  rw [Heap.get?_update_other _ _ nb,Heap.get?_update_other _ _ nbe]
  exact Heap.get?_push_of_some o q1
 ·rw [Heap.size_update,Heap.size_update,Heap.size_push,z1]
  exact Nat.le_succ _
theorem leave2 {base:Heap} {env:Env} {outer:List Env} {L e:Addr} {C:Value} {dx hd:Option Addr} {Q:Unit->Shared->Prop}
  (hfr:A.frames=some (env::outer)) (hl:s.heap.FunFrames base (env::outer)) (hf:env.frame=some L) (x:ExA s.heap e C dx hd)
  (h:∀h' T,ExA h' e C dx (some T)->s.heap.objs.size<=T->Left (frs (env::outer)) e hd s.heap h'->Q () {s with heap:=h'}):wpAny M A (noteFrame (.ref e) env) (fun _ s'=>wpAny M A (setFlight (.ref e) none) Q E s') E s:=by
 obtain ⟨oe,vs,he,hc,hdx,hdt,h1⟩:=x.ob
 have hs:1<vs.size:=(Array.getElem?_eq_some_iff.mp h1).1
 unfold noteFrame
 simp only [hf]
 cases hd with
 |none=>
  refine wpAny_bind (wpAny_field he hdt h1 ?_)
  rw [if_neg (by decide)]
  exact entry_at hfr hl hf he hc hdx hdt hs fun h' T a b c=>h h' T a b c
 |some T=>
  obtain ⟨nTe,oT,ts,hT,hdT,h3⟩:=x.tb T rfl
  have hs3:3<ts.size:=(Array.getElem?_eq_some_iff.mp h3).1
  refine wpAny_bind (wpAny_field he hdt h1 ?_)
  rw [if_pos (by simp)]
  refine wpAny_bind (wpAny_field (x:=.none) hT hdT h3 ?_)
  rw [if_neg (by simp [rawInt])]
  refine wpAny_bind (wpAny_setField hT hdT hs3 ?_)
  have oth:∀b,b≠T->(s.heap.update T (Obj.mapFields (·.setIfInBounds 3 Value.none))).get? b=s.heap.get? b:=fun b hb=>Heap.get?_update_other _ _ (Ne.symm hb)
  have nT:∀b o,s.heap.get? b=some o->(∀vs,o.data≠.fields vs)->b≠T:=fun b o q n z=>by
   subst z
   rw [hT] at q
   cases q
   exact n ts hdT
  refine entry_at hfr (hl.of_keeps fun b o q n=>⟨o,by rw [oth b (nT b o q n)];exact q,rfl⟩) hf (by rw [oth e (Ne.symm nTe)];exact he) hc hdx hdt hs fun h' T' a b c=>?_
  refine h h' T' a (by rw [Heap.size_update] at b;exact b) ⟨fun b' o q hb hbe hbT=>c.keep b' o (by rw [oth b' (hbT T rfl)];exact q) hb hbe (fun _ z=>nomatch z),fun b' o q hb=>?_,?_⟩
  ·obtain ⟨_,o',ho',n⟩:=hl.mem hb
   rw [q] at ho'
   cases ho'
   exact c.slot b' o (by rw [oth b' (nT b' o q n)];exact q) hb
  ·have:=c.size
   rw [Heap.size_update] at this
   exact this
theorem leave_at {base:Heap} {env:Env} {outer:List Env} {L e:Addr} {C:Value} {dx hd:Option Addr} {Q:Unit->Shared->Prop}
  (hfr:A.frames=some (env::outer)) (hl:s.heap.FunFrames base (env::outer)) (hf:env.frame=some L) (x:ExA s.heap e C dx hd)
  (h:∀h' T,ExA h' e C dx (some T)->s.heap.objs.size<=T->Left (frs (env::outer)) e hd s.heap h'->Q () {s with heap:=h'}):wpAny M A (leaving env (.ref e)) Q E s:=by
 unfold leaving
 exact wpAny_bind (leave2 hfr hl hf x h)
end
end L2
namespace L2
open PySem PySem.Spec PyProof.Rows
structure CXs (P:Program) (w:World) (outer:List Env) (H:Hp) (s:Shared) (E:XK) (a T:Addr) (C:Value) (dx:Option Addr) (H':Hp) (s':Shared):Prop where
 ex:ExA s'.heap a C dx (some T)
 na:s.heap.get? a=none
 nT:s.heap.get? T=none
 fa:H' a=none
 fT:H' T=none
 os:s'.os=s.os
 bare:AllBare s'.gens
 un:Un (frs outer) [] H H' s.heap s'.heap
 hok:HOk P w H' s'.heap
 want:E C dx H'
noncomputable def CXd (P:Program) (w:World):CXT:=fun outer H s E e s'=>∃(a T:Addr) (C:Value) (dx:Option Addr) (H':Hp),e=.ref a/\CXs P w outer H s E a T C dx H' s'
theorem get_none {h:Heap} {a:Addr} (z:h.objs.size<=a):h.get? a=none:=by
 cases e:h.get? a with
 |none=>rfl
 |some o=>exact absurd (Heap.lt_size e) (Nat.not_lt.mpr z)
theorem Inv.lS {X:Cx} {pins:List (Addr×Obj)} {σ:St} {H:Hp} {s:Shared} {a:Addr} (I:Inv X pins σ H s) (hx:X.ex=[]) (e:s.heap.get? a=none):X.s₀.heap.get? a=none:=by
 cases q:X.s₀.heap.get? a with
 |none=>rfl
 |some o=>
  obtain ⟨o',z⟩:=I.base.there a o q (by rw [hx];exact fun z=>nomatch z)
  rw [e] at z
  cases z
theorem cA.is {P:Program} {w:World} {H:Hp} {h:Heap} {a:Addr} {o:HO} (x:cA P w H h a o):∃u,h.get? a=some u:=by
 cases o with
 |lst xs=>obtain ⟨_,_,_,_,e⟩:=x;exact ⟨_,e⟩
 |tup xs=>obtain ⟨_,_,_,ob,e,_⟩:=x;exact ⟨_,e⟩
 |dK kvs=>obtain ⟨_,_,_,_,o,_,_,e,_⟩:=x;exact ⟨_,e⟩
 |dT kvs=>obtain ⟨_,_,_,_,o,_,_,e,_⟩:=x;exact ⟨_,e⟩
 |set S n=>obtain ⟨o,_,_,_,e,_⟩:=x;exact ⟨_,e⟩
 |ins C dx fs=>obtain ⟨_,_,_,e,_⟩:=x;exact ⟨_,e⟩
 |own y=>exact x
 |xd fs=>obtain ⟨_,⟨_,_,_,e,_⟩,_⟩:=x;exact ⟨_,e⟩
 |rng lo hi=>obtain ⟨_,_,_,e⟩:=x;exact ⟨_,e⟩
 |frz ob u=>obtain ⟨e,_⟩:=x;exact ⟨_,e⟩
 |tbl ps=>exact ⟨_,show h.get? a=some _ from x⟩
 |met f y=>exact ⟨_,show h.get? a=some _ from x⟩
 |ext φ=>obtain ⟨_,e,_⟩:=x;exact e
theorem HOk.off {P:Program} {w:World} {H:Hp} {h:Heap} {a:Addr} (x:HOk P w H h) (e:h.get? a=none):H a=none:=by
 cases q:H a with
 |none=>rfl
 |some o=>
  obtain ⟨u,z⟩:=(x a o q).is
  rw [e] at z
  cases z
section
variable {P:Program} {w:World} {K:PySem.W.Frag} {mg:Str->Option Value} {base:Heap} {N:List Str} {qual:Str} {scope:Scope} {f:Addr} {cd:Value} {A:Around} {outer:List Env} {s:Shared} {H:Hp} {E:XK}
theorem xe_of {pins:List (Addr×Obj)} {σ:St} {H':Hp} {s':Shared} {a:Addr} {C:Value} {dx hd:Option Addr} (J:Inv (vy (CXd P w) P w K mg base N qual scope f cd A outer s H E) pins σ H' s') (x:ExA s'.heap a C dx hd)
  (na:s.heap.get? a=none) (nT:∀T,hd=some T->s.heap.get? T=none/\H' T=none) (fa:H' a=none) (q:E C dx H'):(vy (CXd P w) P w K mg base N qual scope f cd A outer s H E).xe (.ref a) s':=by
 have e0:=J.env0
 have hfs:∀b∈frs (envOfC qual scope s.heap.objs.size f cd::outer),H' b=none:=e0.frf
 have old:∀b o,s.heap.get? b=some o->b≠a/\(∀T,hd=some T->b≠T)/\b<s.heap.objs.size:=fun b o e=>by
  have hb:=Heap.lt_size e
  exact ⟨fun z=>(by subst z;rw [e] at na;cases na),fun T hT z=>(by subst z;have:=(nT _ hT).1;rw [e] at this;cases this),hb⟩
 have infs:∀b,b<s.heap.objs.size->b∈frs (envOfC qual scope s.heap.objs.size f cd::outer)->b∈frs outer:=fun b hb hm=>by
  rcases List.mem_filterMap.mp hm with ⟨v,hv,e⟩
  rcases List.mem_cons.mp hv with z|z
  ·subst z
   have:s.heap.objs.size=b:=by simpa [envOfC] using e
   omega
  ·exact List.mem_filterMap.mpr ⟨v,z,e⟩
 have outfs:∀b,b∈frs outer->b∈frs (envOfC qual scope s.heap.objs.size f cd::outer):=fun b hm=>by
  rcases List.mem_filterMap.mp hm with ⟨v,hv,e⟩
  exact List.mem_filterMap.mpr ⟨v,List.mem_cons_of_mem _ hv,e⟩
 have base':Un (frs outer) [] H H' s.heap s'.heap:=J.base
 show wpAny (model P w) (A.deeper (envOfC qual scope s.heap.objs.size f cd)) (leaving (envOfC qual scope s.heap.objs.size f cd) (.ref a)) (fun _ s''=>CXd P w outer H s E (.ref a) s'') (fun e' s''=>CXd P w outer H s E e' s'') s'
 refine leave_at (base:=base) e0.frames e0.oQ rfl x fun h' T x' hT lf=>⟨a,T,C,dx,H',rfl,x',na,get_none (Nat.le_trans (show s.heap.objs.size<=s'.heap.objs.size from J.sz) hT),fa,?_,J.os,J.bare,?_,?_,q⟩
 ·exact J.hok.fresh hT
 ·have pf:∀b o,s.heap.get? b=some o->∀o',s'.heap.get? b=some o'->b∉frs outer->h'.get? b=some o':=fun b o e o' e' hb=>by
   obtain ⟨z1,z2,z3⟩:=old b o e
   exact lf.keep b o' e' (fun z=>hb (infs b z3 z)) z1 z2
  refine ⟨fun b o e n hb hx=>pf b o e o (base'.keep b o e n hb hx) hb,fun b o e n hb hx=>?_,base'.free,fun b o e hx=>?_,base'.tups,base'.frzs,base'.tbls⟩
  ·obtain ⟨sl,e1⟩:=base'.slot b o e n hb hx
   obtain ⟨sl2,e2⟩:=lf.slot b _ e1 (outfs b hb)
   exact ⟨sl2,e2⟩
  ·obtain ⟨o',e1⟩:=base'.there b o e hx
   by_cases hb:b∈frs outer
   ·obtain ⟨sl,e2⟩:=lf.slot b o' e1 (outfs b hb)
    exact ⟨_,e2⟩
   ·exact ⟨o',pf b o e o' e1 hb⟩
 ·intro b o e
  refine (J.hok b o e).pf (fun c u hc e1=>?_) (fun _ z=>z) fun _ _ z=>z
  have hcn:H' c≠none:=by
   rcases hc with z|z
   ·rw [z,e];exact fun z=>nomatch z
   ·rw [z];exact fun z=>nomatch z
  exact lf.keep c u e1 (fun z=>hcn (hfs c z)) (fun z=>hcn (by rw [z];exact fa)) fun T hT z=>hcn (by rw [z];exact (nT T hT).2)
end
end L2
namespace L2
open PySem PySem.Spec PyProof.Rows
theorem exc_obj {K:PySem.W.Frag} {h:Heap} {C:Addr} {bmB:List Value} {newId:String} (X:K.In h) (q:PySem.W.excIn K C bmB newId=true) :
  ∃tl N nm qn bs hdct sn sub ab col dd k0 k1 k2 k3 k5 mN,h.get? C=some (excClassObj nm qn C N bs tl hdct sn sub ab col dd k0 k1 k2 k3 k5 newId)/\h.Ns N mN/\mN "__init__"=none/\OwnTail h bmB tl:=by
 unfold PySem.W.excIn at q
 split at q
 next dd cd sl ho=>
  split at q
  next C' tl k0 k1 k2 k3 n k5 hm hs=>
   obtain ⟨c1,c2,mro,c4,c5,c6,c7,c8,c9,c10,del⟩:=cd
   obtain ⟨l⟩:=sl
   simp only [Bool.and_eq_true] at q
   obtain ⟨⟨⟨⟨⟨a1,a2⟩,a3⟩,a4⟩,a5⟩,a6⟩:=q
   have b1:C'=C:=beq_iff_eq.mp a1
   have b2:n=newId:=beq_iff_eq.mp a2
   have b3:del=false:=by cases del<;>first|rfl|cases a3
   have b4:mro=Value.ref C'::tl:=hm
   have b5:l=[k0,k1,k2,k3,some (.builtin n),k5]:=hs
   subst b1 b2 b3 b4 b5
   exact ⟨tl,c4,c1,c5,c2,c6,c7,c8,c9,c10,dd,k0,k1,k2,k3,k5,_,X _ _ ho,.of_isNs (PySem.W.isNs_of_in X a5),PySem.W.nsMap_none_of_in X a5 (beq_iff_eq.mp a6),PySem.W.tail_of_in X a4⟩
  next=>cases q
 next=>cases q
noncomputable def XEq (X:Cx) (E:XK) (C:Addr):Prop:=∀(pins:List (Addr×Obj)) (σ:St) (H:Hp) (s':Shared) (a:Addr),Inv X pins σ H s'->ExA s'.heap a (.ref C) none none->X.s₀.heap.get? a=none->H a=none->E (.ref C) none H->X.xe (.ref a) s'
noncomputable def tRaise (te:TE) (C:Addr) (E:XK):TS:=fun _ σ H=>te σ H fun _ H1=>E (.ref C) none H1
section
variable {X:Cx} {E:XK} {C:Addr} {x:Str} {e:Expr} {te:TE} {np cpos pos:Pos} {B newId initId:String} {bmB:List Value}
theorem ps_raise (FB:ExcBaseFacts B newId initId bmB) (hx:XEq X E C) (he:PE X e te) (hg:Gl X x) (hm:X.mg x=some (.ref C)) (hC:PySem.W.excIn X.K C bmB newId=true) (hh:X.A.handled=none) (hex:X.ex=[]:=by rfl)
  (hdb:(x==("__debug__":Str))=false:=by decide) (hst:starEach [e] X.env=[(false,eval e X.env)]:=by rfl):PS X (.Raise (some (.Call (.Name x np) [e] [] cpos)) none pos) (tRaise te C E):=by
 intro pins s σ H D I h
 obtain ⟨tl,N,nm,qn,bs,hdct,sn,sub,ab,col,dd,k0,k1,k2,k3,k5,mN,o1,o2,o3,o4⟩:=exc_obj I.mod.kin hC
 refine wpAny_Raise_call_subT FB (C:=C) (nm:=nm) (q:=qn) (N:=N) (bs:=bs) (bm:=tl) (hdct:=hdct) (sn:=sn) (sub:=sub) (ab:=ab) (col:=col) (dd:=dd) (k0:=k0) (k1:=k1) (k2:=k2) (k3:=k3) (k5:=k5) (mN:=mN)
  (o4.hasType FB.hasBase) hh (by rw [hst];rfl) o3 (ic I hg hm ⟨rfl,?_⟩ hdb)
 rw [hst]
 refine Calls.evalArgs_plain (Calls.spliced_cons (thn (he pins s σ H _ I h) fun v s1 ⟨y,H1,I1,ry,q1⟩=>Calls.spliced_nil ⟨rfl,?_,I1.bk _ _ o1,o2.keeps I1.bk,o4.keeps I1.bk,fun h' e hm=>?_⟩))
 ·have:=sizeLine_eq
  show 1<=sizeLine
  omega
 ·obtain ⟨t,z1,z2,z3⟩:=hm.there
  have J:Inv X pins σ H1 {s1 with heap:=h'}:=I1.kept (t':=s1.toks) hm.keeps
  exact hx pins σ H1 _ e J ⟨⟨_,_,z1,rfl,rfl,rfl,rfl⟩,fun T hT=>nomatch hT⟩ (I1.lS hex hm.new) (I1.hok.off hm.new) q1
end
section
variable {P:Program} {w:World} {K:PySem.W.Frag} {mg:Str->Option Value} {base:Heap} {N:List Str} {qual:Str} {scope:Scope} {f:Addr} {cd:Value} {A:Around} {outer:List Env} {s:Shared} {H:Hp} {E:XK} {C:Addr}
theorem xeqD:XEq (vy (CXd P w) P w K mg base N qual scope f cd A outer s H E) E C:=fun _ _ _ _ _ J x na fa q=>xe_of J x na (fun T hT=>nomatch hT) fa q
end
end L2
namespace L2
open PySem PySem.Spec PyProof.Rows
noncomputable def WE (K:PySem.W.Frag) (E:XK):cy where
 p:=fun e F H=>match e with
  |.stuck=>False
  |.exc C fs=>∀F' H',Step F H F' H'->match fs with
   |[]=>E (.ref C) none H'
   |fs=>∀d gs,F' d=some (.xd gs)->oK K F' fs gs->E (.ref C) (some d) H'
 mono:=fun {e F H F' H'} h s=>by
  cases e with
  |stuck=>exact h
  |exc C fs=>exact fun F2 H2 s2=>h F2 H2 (s.trans s2)
 ns:=fun h=>h
noncomputable def noX {α:Type}:M α->M α
 |.ok d=>.ok d
 |.error _=>.error .stuck
@[simp] theorem noX_ok {α:Type} (d:α):noX (.ok d:M α)=.ok d:=id rfl
noncomputable def fNoX {α:Type} (f:ae->M α):ae->M α:=fun ρ=>noX (f ρ)
@[simp] theorem e_fNoX {α:Type} (f:ae->M α) (ρ:ae):fNoX f ρ=noX (f ρ):=id rfl
section
variable {K:PySem.W.Frag} {W:cy} {X:Cx} {own ro:Bool} {OL O O':List Nat}
theorem dt_lift {e:Expr} {f:ae->M Bool} (h:DT K Wno X.nox e f):DT K W X e (fNoX f):=PT.imp (PT.nox h) fun σ H Q ⟨F,ρ,r,s,p⟩=>by
 refine ⟨F,ρ,r,s,?_⟩
 have p:match noX (f ρ) with
  |.ok b=>∀F' H',Step F H F' H'->Q b H'
  |.error e=>W.p e F H:=p
 cases e:f ρ with
 |ok d=>rw [e] at p;exact p
 |error x=>rw [e] at p;exact (W.ns p).elim
theorem dss_lift {st:List Stmt} {g:ae->M Flo} (h:DSs K Wno ro X.nox OL O O' st g):DSs K W ro X OL O O' st (fNoX g):=fun F0 H0=>PSs.imp (PSs.nox (h F0 H0)) fun D σ H ⟨FB,F,ρ,r,p⟩=>by
 refine ⟨FB,F,ρ,r,?_⟩
 have p:gY K W ro F0 H0 FB OL O' D (noX (g ρ)):=p
 unfold gY at p ⊢
 cases e:g ρ with
 |ok fl=>
  rw [e] at p
  cases fl<;>exact p
 |error x=>rw [e] at p;exact (W.ns p).elim
end
noncomputable def sExc (C:Addr):ae->M Flo:=fun _=>.error (.exc C [])
@[simp] theorem e_sExc (C:Addr) (ρ:ae):sExc C ρ=.error (.exc C []):=id rfl
section
variable {K:PySem.W.Frag} {X:Cx} {ro:Bool} {OL O O':List Nat} {E:XK} {C:Addr} {x:Str} {np cpos pos p1:Pos} {B newId initId:String} {bmB:List Value} {t:Str} {j1:Nat}
theorem ds_raise {j1} (FB:ExcBaseFacts B newId initId bmB) (hx:XEq X E C) (hm:X.mg x=some (.ref C)) (hC:PySem.W.excIn X.K C bmB newId=true) (hh:X.A.handled=none) (hg:Gl X x:=by rfl) (hex:X.ex=[]:=by rfl)
  (hdb:(x==("__debug__":Str))=false:=by decide) (hst:starEach [.Constant (.str t) j1 p1] X.env=[(false,eval (.Constant (.str t) j1 p1) X.env)]:=by rfl) :
  DS K (WE K E) ro X OL O O' (.Raise (some (.Call (.Name x np) [.Constant (.str t) j1 p1] [] cpos)) none pos) (sExc C):=fun F0 H0=>PS.imp (ps_raise FB hx pe_str hg hm hC hh hex hdb hst) fun D σ H ⟨FB',F,ρ,r,p⟩=>by
 have q:(WE K E).p (.exc C []) F0 H0:=p
 exact q F H r.st
end
noncomputable def spX (K:PySem.W.Frag) (ro:Bool) (g:List Dat->M Dat) (n:Nat):Sp:=fun vs H Q E=>∃F ds,aC F H/\ak K F ds vs/\ds.length=n/\aw K (WE K E) ro F H (g ds) Q
section
variable {P:Program} {w:World} {K:PySem.W.Frag} {mg:Str->Option Value} {base:Heap}
theorem fn_X {x qual:Str} {st:Stmt} {f:Addr} {fd:FuncData} {N ps:List Str} {k:Nat} {O':List Nat} (F:Fun K x qual st f fd) (S:cB N ps (aD st)) (ro:Bool) (g:ae->M Flo)
  (hb:∀(cdv:Value) (A:Around) (outer:List Env) (s:Shared) (H:Hp) (E:XK),jI k (A.deeper (envOfC qual (aD st) s.heap.objs.size f cdv)) ->
   DSs K (WE K E) ro (vy (CXd P w) P w K mg base N qual (aD st) f cdv A outer s H E) [] [] O' (eN st) g):gS P w K mg base (CXd P w) (k+1) f fd ps (spX K ro (fA N.length ps.length g) ps.length):=by
 obtain ⟨oc,od,kV,doc,pm,an,cdv,ct,osl,rfl,lk,hcd⟩:=F.ex
 refine fn_of lk hcd S (fun vs H Q E ⟨F,ds,s,q,l,p⟩=>by rw [q.length,l]) fun A outer s H vs Q E hr ⟨F1,ds,s1,q,l,p⟩=>⟨_,hb cdv A outer s H E hr F1 H,F1,F1,ds.map some++List.replicate (N.length-ds.length) none,?_,?_⟩
 ·refine ⟨Step.refl s1,aC.refl _,?_,fun i d e _=>nr q e,(fun i d e h=>nomatch h),(fun i j ds es a h=>nomatch h)⟩
  unfold start
  rw [List.length_append,List.length_append,List.length_map,List.length_map,List.length_replicate,List.length_replicate,q.length]
 ·have e1:fA N.length ps.length g ds=(g (ds.map some++List.replicate (N.length-ds.length) none)).bind fun fl=>match fl with
   |.nx _=>.ok .non
   |.rt d=>.ok d
   |_=>stk:=by
    unfold fA
    exact if_pos l
  rw [e1] at p
  cases e2:g (ds.map some++List.replicate (N.length-ds.length) none) with
  |error z=>rw [e2] at p;exact p
  |ok fl=>
   rw [e2] at p
   cases fl with
   |nx ρ=>exact fun σ F H r=>p .non F H r.st (by cases ro<;>rfl)
   |rt d=>exact fun v F H st q=>p v F H st q
   |bk ρ=>exact aw.stuck p
   |ct ρ=>exact aw.stuck p
end
end L2
namespace L2
open PySem PySem.Spec PyProof.Rows
section
variable {X:Cx} {pins:List (Addr×Obj)} {σ:St} {H:Hp} {s:Shared} {a:Addr} {C:Value} {dx hd:Option Addr}
structure Apart (X:Cx) (pins:List (Addr×Obj)) (H:Hp) (s:Shared) (a:Addr) (hd:Option Addr):Prop where
 na:X.s₀.heap.get? a=none
 fa:H a=none
 pa:∀p∈X.pn++pins,p.1≠a
 nT:∀T,hd=some T->X.s₀.heap.get? T=none/\H T=none/\∀p∈X.pn++pins,p.1≠T
theorem Inv.left {h':Heap} (I:Inv X pins σ H s) (hx:X.ex=[]) (x:ExA s.heap a C dx hd) (ap:Apart X pins H s a hd) (lf:Left (frs X.stack) a hd s.heap h'):Inv X pins σ H {s with heap:=h'}:=by
 have e0:=I.env0
 obtain ⟨oe,vs,he,_,_,hdt,_⟩:=x.ob
 have nof:∀b o,s.heap.get? b=some o->(∀vs,o.data≠.fields vs)->b≠a/\∀T,hd=some T->b≠T:=fun b o e n=>by
  refine ⟨fun z=>?_,fun T hT z=>?_⟩
  ·subst z
   rw [he] at e
   cases e
   exact n vs hdt
  ·subst z
   obtain ⟨_,oT,ts,h1,h2,_⟩:=x.tb _ hT
   rw [h1] at e
   cases e
   exact n ts h2
 have stk:∀b∈frs X.stack,H b=none:=e0.frf
 have any:∀b o,s.heap.get? b=some o->(∀vs,o.data≠.fields vs)->∃sl,h'.get? b=some {o with slots:=sl}:=fun b o e n=>by
  obtain ⟨z1,z2⟩:=nof b o e n
  by_cases hb:b∈frs X.stack
  ·exact lf.slot b o e hb
  ·exact ⟨o.slots,lf.keep b o e hb z1 z2⟩
 have old:∀b o,X.s₀.heap.get? b=some o->b≠a/\∀T,hd=some T->b≠T:=fun b o e=>
  ⟨fun z=>(by subst z;rw [ap.na] at e;cases e),fun T hT z=>(by subst z;rw [(ap.nT _ hT).1] at e;cases e)⟩
 have up:s.heap.UpToSlots h':=any
 have loc0:X.s₀.heap.get? X.env.locals=none:=get_none I.ok.above
 have out:∀b,b≠X.env.locals->b∉X.fs->b∉frs X.stack:=fun b h1 h2 h3=>by
  rcases List.mem_cons.mp (I.kY b h3) with z|z
  ·exact h1 z
  ·exact h2 z
 have cel:∀c v,s.heap.IsCell c v->h'.IsCell c v:=fun c v ⟨o,h1,h2⟩=>by
  obtain ⟨sl,z⟩:=any c o h1 (fun vs q=>by rw [h2] at q;cases q)
  exact ⟨_,z,h2⟩
 refine ⟨I.ok,I.os,I.bare,?_,?_,fun x c e=>?_,I.free,I.freeC,fun p hp=>?_,?_,I.len⟩
 ·have go:∀b o,X.s₀.heap.get? b=some o->∀o',s.heap.get? b=some o'->∃sl,h'.get? b=some {o' with slots:=sl}:=fun b o e o' e'=>by
   obtain ⟨z1,z2⟩:=old b o e
   by_cases hb:b∈frs X.stack
   ·exact lf.slot b o' e' hb
   ·exact ⟨o'.slots,lf.keep b o' e' hb z1 z2⟩
  refine ⟨fun b o e n hb hx'=>?_,fun b o e n hb hx'=>?_,I.base.free,fun b o e hx'=>?_,I.base.tups,I.base.frzs,I.base.tbls⟩
  ·obtain ⟨z1,z2⟩:=old b o e
   exact lf.keep b o (I.base.keep b o e n hb hx') (out b (fun z=>by rw [z,loc0] at e;cases e) hb) z1 z2
  ·obtain ⟨sl,e1⟩:=I.base.slot b o e n hb hx'
   obtain ⟨sl2,e2⟩:=go b o e _ e1
   exact ⟨sl2,e2⟩
  ·obtain ⟨o',e1⟩:=I.base.there b o e hx'
   obtain ⟨sl2,e2⟩:=go b o e _ e1
   exact ⟨_,e2⟩
 ·obtain ⟨m,hn,hl⟩:=I.loc
  refine ⟨m,up.ns hn,fun i x v e1 e2 e3=>?_⟩
  obtain ⟨u,r,lk⟩:=hl i x v e1 e2 e3
  refine ⟨u,r,?_⟩
  rcases lk with z|⟨z,c,c1,c2⟩
  ·exact .inl z
  ·exact .inr ⟨z,c,c1,cel c _ c2⟩
 ·obtain ⟨v,z⟩:=I.cell x c e
  exact ⟨v,cel c v z⟩
 ·obtain ⟨p1,p2,p3,p4,p5⟩:=I.pin p hp
  exact ⟨lf.keep p.1 p.2 p1 (out p.1 p3 p4) (ap.pa p hp) fun T hT=>(ap.nT T hT).2.2 p hp,p2,p3,p4,p5⟩
 ·intro b o e
  refine (I.hok b o e).pf (fun c u hc e1=>?_) (fun _ z=>z) fun _ _ z=>z
  have hcn:H c≠none:=by
   rcases hc with z|z
   ·rw [z,e];exact fun z=>nomatch z
   ·rw [z];exact fun z=>nomatch z
  exact lf.keep c u e1 (fun z=>hcn (stk c z)) (fun z=>hcn (by rw [z];exact ap.fa)) fun T hT z=>hcn (by rw [z];exact (ap.nT T hT).2.1)
end
noncomputable def PEat (X:Cx) (pins:List (Addr×Obj)) (σ:St) (e:Expr) (t:TE):Prop:=∀(s:Shared) (H:Hp) (Q:VK),Inv X pins σ H s->t σ H Q->wpAny (model X.prog X.w) X.A (eval e X.env) (EP X pins σ Q) X.xe s
noncomputable def PSat (X:Cx) (pins:List (Addr×Obj)) (σ:St) (st:Stmt) (t:TS):Prop:=∀(s:Shared) (H:Hp) (D:Ends),Inv X pins σ H s->t D σ H->wpAny (model X.prog X.w) X.A (exec st X.env) (SP X pins D) X.xe s
noncomputable def PSsAt (X:Cx) (pins:List (Addr×Obj)) (σ:St) (st:List Stmt) (t:TS):Prop:=∀(s:Shared) (H:Hp) (D:Ends),Inv X pins σ H s->t D σ H->wpAny (model X.prog X.w) X.A (execs st X.env) (SP X pins D) X.xe s
noncomputable def iT (CX:CXT) (X:Cx) (pins:List (Addr×Obj)) (σ:St) (E:XK):Prop:=∀(H:Hp) (s:Shared) (e:Value) (s':Shared),Inv X pins σ H s->CX X.stack H s E e s'->X.xe e s'
section
variable {X:Cx} {pins:List (Addr×Obj)} {σ:St} {st:Stmt} {t u:TS} {pos:Pos}
theorem at_one (h:PSat X pins σ st t):PSsAt X pins σ [st] t:=fun s H D I q=>by
 refine wpAny_execs_cons (thn (h s H D I q) fun f s1 z=>?_)
 cases f with
 |next=>exact wpAny_execs_nil z
 |_=>exact z
theorem at_expr {e:Expr} {te:TE} (he:PEat X pins σ e te) (hs:swapsWith e none pos.line X.env=pure false:=by rfl):PSat X pins σ (.Expr e pos) (jO te):=fun s H D I q=>
 wpAny_Expr_any (thn (he s H _ I q) fun v s1 ⟨x,H1,I1,r1,q1⟩=>⟨σ,H1,I1,q1⟩) I.quiet hs
end
section
variable {X:Cx} {pins:List (Addr×Obj)} {σ:St} {CX:CXT} {k:Nat} {f C:Addr} {fd:FuncData} {ps:List Str} {sp:Sp} {dvs:List V} {ds:List Value} {E:XK} {x m:Str} {p pos apos:Pos} {e o:Expr} {es:List Expr} {ta:TE} {t:TA}
theorem at_run {H:Hp} {s:Shared} {Q:VK} {us:List Value} {vs:List V} (F:gS X.prog X.w X.K X.mg X.base CX k f fd ps sp) (hr:jI k X.A) (hb:Binds X.K fd ps ds) (hd:Vals dvs ds) (hx:iT CX X pins σ E)
  (I:Inv X pins σ H s) (r:Vals vs us) (h:sp (vs++dvs) H Q E):wpAny (model X.prog X.w) X.A (call (.ref f) us) (EP X pins σ Q) X.xe s:=by
 have v2:=r.append hd
 refine wpAny_call (codeAny_mono (F.run _ _ s H ⟨us,[]⟩ _ _ Q E hr I.env0 (hb s us I.kIn (v2.length.symm.trans (F.len _ _ _ _ h))) v2 h) fun z s' hq=>?_)
 cases z with
 |error e=>exact hx H s e s' I hq
 |ok fl=>
  cases fl with
  |ret u=>exact I.after hq
  |_=>exact False.elim hq
theorem at_call (F:gS X.prog X.w X.K X.mg X.base CX k f fd ps sp) (hx:iT CX X pins σ E) (hr:jI k X.A) (hm:X.mg x=some (.ref f)) (hk:keepIn X.K (.ref f)=true) (hb:Binds X.K fd ps ds) (hd:Vals dvs ds) (ha:PA X (e::es) t) (hg:Gl X x:=by rfl)
  (hdb:(x==("__debug__":Str))=false:=by decide) (he:starEach (e::es) X.env=(false,eval e X.env)::starEach es X.env:=by rfl) (hpl:(backTo pos (starEach es X.env)).any (·.1)=false:=by rfl) :
  PEat X pins σ (.Call (.Name x p) (e::es) [] pos) (tCall sp dvs E t):=fun s H Q I q=>
 wpAny_Call_Name_kw (ic I hg hm (PySem.W.callWith_K (h₀:=X.base) I.ok.mod.kin hk (thn (ha pos pins s σ H _ I q) fun us s1 ⟨vs,H1,I1,r,q1⟩=>⟨I1.kIn,at_run F hr hb hd hx I1 r q1⟩) he hpl) hdb)
end
end L2
namespace L2
open PySem PySem.Spec PyProof.Rows
section
variable {X:Cx} {pins:List (Addr×Obj)} {σ:St} {H:Hp} {s:Shared}
theorem Inv.names {h':Heap} {m:Str->Option Value} {σ':St} (I:Inv X pins σ H s) (hn:h'.Ns X.env.locals m) (hs:Heap.SameBut X.env.locals s.heap h') (hl:σ'.length=X.N.length)
  (hv:∀(i:Nat) (x:Str) (v:V),X.N[i]? =some x->σ'[i]? =some (some v)->Vis X.env.scope x->∃u,RelV v u/\Look X.env s.heap m x u):Inv X pins σ' H {s with heap:=h'}:=by
 have far:∀b o,X.s₀.heap.get? b=some o->b≠X.env.locals:=fun b o e z=>by
  subst z
  exact absurd (Heap.lt_size e) (Nat.not_lt.mpr I.ok.above)
 have cel:∀x c v,X.env.cells.lookup x=some c->s.heap.IsCell c v->h'.IsCell c v:=fun x c v e z=>z.sameBut hs (I.cne x c e)
 refine ⟨I.ok,I.os,I.bare,⟨fun b o e n hb hx=>?_,fun b o e n hb hx=>?_,I.base.free,fun b o e hx=>?_,I.base.tups,I.base.frzs,I.base.tbls⟩,⟨m,hn,fun i x v e1 e2 e3=>?_⟩,fun x c e=>?_,I.free,I.freeC,fun p hp=>?_,fun b o e=>?_,hl⟩
 ·show h'.get? b=_
  rw [hs.2 b (far b o e)];exact I.base.keep b o e n hb hx
 ·obtain ⟨sl,z⟩:=I.base.slot b o e n hb hx
  refine ⟨sl,?_⟩
  show h'.get? b=_
  rw [hs.2 b (far b o e)];exact z
 ·obtain ⟨o',z⟩:=I.base.there b o e hx
  refine ⟨o',?_⟩
  show h'.get? b=_
  rw [hs.2 b (far b o e)];exact z
 ·obtain ⟨u,r,lk⟩:=hv i x v e1 e2 e3
  refine ⟨u,r,?_⟩
  rcases lk with z|⟨z,c,c1,c2⟩
  ·exact .inl z
  ·exact .inr ⟨z,c,c1,cel x c _ c1 c2⟩
 ·obtain ⟨v,z⟩:=I.cell x c e
  exact ⟨v,cel x c v e z⟩
 ·obtain ⟨p1,p2,p3,p4,p5⟩:=I.pin p hp
  refine ⟨?_,p2,p3,p4,p5⟩
  show h'.get? p.1=_
  rw [hs.2 p.1 p3];exact p1
 ·refine (I.hok b o e).pf (fun c u hc e1=>?_) (fun _ z=>z) fun _ _ z=>z
  show h'.get? c=_
  rw [hs.2 c fun z=>?_]
  ·exact e1
  ·rcases hc with y|y
   ·rw [<- y,z,I.free] at e;cases e
   ·rw [z,I.free] at y;cases y
theorem my {M:Model} {A:Around} {E:Value->Shared->Prop} {i:Nat} {x:Str} {pos:Pos} {Q:Unit->Shared->Prop} (I:Inv X pins σ H s) (hN:X.N.Nodup) (hi:X.N[i]? =some x) (hk:X.env.scope.names.lookup x=some .local)
  (h:∀s',Inv X pins (σ.set i none) H s'->Q () s'):wpAny M A (do bindName X.env x .none;unbindBehindTheSuite X.env x pos) Q E s:=by
 have hcls:(X.env.scope.kind==.class||(X.env.scope.kind==.module&&X.env.locals != X.env.globals))=false:=by rw [I.ok.kind];rfl
 have hil:i<σ.length:=by rw [I.len];exact (List.getElem?_eq_some_iff.mp hi).1
 refine wpAny_bind (wpAny_bindName (jw I hN hi (.inl hk) (v:=.non) rfl (fun s1 I1=>?_) (.inr hk)))
 unfold unbindBehindTheSuite
 refine wpAny_onRaise ?_
 obtain ⟨m,hn,hl⟩:=id I1.loc
 obtain ⟨u,_,lk⟩:=hl i x .non hi (by rw [List.getElem?_set_self hil]) (.inl hk)
 have hmx:m x=some u:=by
  rcases lk with z|⟨z,_⟩
  ·exact z.2
  ·have hkk:X.env.kindOf x=some .local:=hk
   rw [hkk] at z
   rcases z with z|z<;>cases z
 refine wpAny_unbindName_local hk hn hmx hcls fun h' u' hn' hs=>h _ (I1.names hn' hs (by rw [List.length_set];exact I.len) fun j y v e1 e2 e3=>?_)
 have hij:i≠j:=fun z=>by
  subst z
  rw [List.getElem?_set_self hil] at e2
  cases e2
 rw [List.getElem?_set_ne hij] at e2
 obtain ⟨w,r,lk⟩:=hl j y v e1 (by rw [List.getElem?_set_ne hij];exact e2) e3
 refine ⟨w,r,?_⟩
 rcases lk with ⟨z1,z2⟩|z
 ·have hyx:y≠x:=fun z=>hij (mm hN hi (z▸e1))
  exact .inl ⟨z1,by simp [hyx,z2]⟩
 ·exact .inr z
end
end L2
namespace L2
open PySem PySem.Spec PyProof.Rows
noncomputable def XNamed (K:PySem.W.Frag) (C:Addr) (bmB:List Value):Prop:=∀h:Heap,K.In h->∃tl N nm qn bs hdct sn sub ab col dd k0 k1 k2 k3 k5 newId,h.get? C=some (excClassObj nm qn C N bs tl hdct sn sub ab col dd k0 k1 k2 k3 k5 newId)/\OwnTail h bmB tl
noncomputable abbrev Cx.hand (X:Cx) (a:Addr) (oe:Obj):Cx:={X with A:=X.A.mark (some (.ref a)),calm:=false,xe:=fun _ _=>False,pn:=(a,oe)::X.pn}
section
variable {X:Cx} {pins:List (Addr×Obj)} {σ:St} {H:Hp} {s:Shared} {a T:Addr} {C:Value} {dx:Option Addr} {oe:Obj}
theorem Inv.hand {vs:Array Value} (I:Inv X pins σ H s) (he:s.heap.get? a=some oe) (hd:oe.data=.fields vs) (na:X.s₀.heap.get? a=none) (fa:H a=none):Inv (X.hand a oe) pins σ H s:=by
 have ok:=I.ok
 refine ⟨⟨ok.mod,ok.kind,ok.glob,ok.blt,ok.above,ok.inj,ok.has,ok.cab,(fun z=>nomatch z),ok.frames,ok.stk,ok.exf,ok.bs,ok.bsz,ok.noex,ok.exfs,ok.oQ,ok.frf⟩,I.os,I.bare,I.base,I.loc,I.cell,I.free,I.freeC,fun p hp=>?_,I.hok,I.len⟩
 rcases List.mem_cons.mp (show p∈(a,oe)::(X.pn++pins) from hp) with z|z
 ·subst z
  refine ⟨he,fa,fun z=>?_,fun hm=>?_,fun v z=>?_⟩
  ·obtain ⟨m,⟨o,es,ep,h1,h2,_⟩,_⟩:=I.loc
   have z:a=X.env.locals:=z
   rw [<- z,he] at h1
   cases h1
   rw [hd] at h2
   cases h2
  ·obtain ⟨_,o,h1,_⟩:=ok.oQ.mem hm
   have h1:X.s₀.heap.get? a=some o:=h1
   rw [na] at h1
   cases h1
  ·have z:oe.data=.cell v:=z
   rw [hd] at z
   cases z
 ·exact I.pin p z
theorem Inv.q9 (J:Inv (X.hand a oe) pins σ H s) (ok:X.Ok):Inv X pins σ H s:=
 ⟨ok,J.os,J.bare,J.base,J.loc,J.cell,J.free,J.freeC,fun p hp=>J.pin p (List.mem_cons_of_mem _ hp),J.hok,J.len⟩
theorem ve {M:Model} {A:Around} {E:Value->Shared->Prop} {base:Heap} {l:List Env} {Q:Unit->Shared->Prop} (hl:s.heap.FunFrames base l) (x:ExA s.heap a C dx (some T))
  (h:∀h',ExA h' a C dx (some T)->Left (frs l) a (some T) s.heap h'->h'.get? a=s.heap.get? a->Q () {s with heap:=h'}):wpAny M A (setFlight (.ref a) none) Q E s:=by
 obtain ⟨o,vs,he,hc,hdx,hdt,h1⟩:=x.ob
 obtain ⟨nT,oT,ts,hT,hdT,h3⟩:=x.tb T rfl
 have hs3:3<ts.size:=(Array.getElem?_eq_some_iff.mp h3).1
 unfold setFlight
 refine wpAny_bind (wpAny_field he hdt (x:=.ref T) h1 ?_)
 rw [if_pos (by simp)]
 refine wpAny_setField hT hdT hs3 ?_
 have oth:∀b,b≠T->(s.heap.update T (Obj.mapFields (·.setIfInBounds 3 ((none:Option Addr).elim Value.none fun f=>rawInt f)))).get? b=s.heap.get? b:=fun b hb=>Heap.get?_update_other _ _ (Ne.symm hb)
 have dT:=Obj.data_mapFields hdT (·.setIfInBounds 3 ((none:Option Addr).elim Value.none fun f=>rawInt f))
 refine h _ ⟨⟨o,vs,by rw [oth a (Ne.symm nT)];exact he,hc,hdx,hdt,h1⟩,fun T' hT'=>?_⟩ ⟨fun b o' q _ _ hb=>by rw [oth b (hb T rfl)];exact q,fun b o' q hb=>?_,?_⟩ (oth a (Ne.symm nT))
 ·cases hT'
  exact ⟨nT,_,_,Heap.get?_update_self _ hT (Obj.isFreed_of_fields dT),dT,by simp [hs3]⟩
 ·obtain ⟨_,o2,ho2,n⟩:=hl.mem hb
  have hbT:b≠T:=fun z=>by
   subst z
   rw [hT] at ho2
   cases ho2
   exact n ts hdT
  exact ⟨o'.slots,by rw [oth b hbT];exact q⟩
 ·rw [Heap.size_update]
  exact Nat.le_refl _
end
noncomputable def Ends.less (D:Ends) (i:Nat):Ends:={nx:=fun σ H=>D.nx (σ.set i none) H,rt:=D.rt,bk:=fun σ H=>D.bk (σ.set i none) H,ct:=fun σ H=>D.ct (σ.set i none) H}
end L2
namespace L2
open PySem PySem.Spec PyProof.Rows
end L2
namespace L2
open PySem PySem.Spec PyProof.Rows
end L2
namespace L2
open PySem PySem.Spec PyProof.Rows
section
open PySem.W
variable {prog:Program} {w:World} {A:Around} {E:Value->Shared->Prop} {h:Heap} {g:Array GenState} {d:Drawn} {t:Nat} {os:OsState} {a C:Addr} {oe:Obj} {od:Option Obj} {K:Frag} {bmB:List Value} {B:String}
theorem xcls_by {tk:Tok} {Q:Value->Shared->Prop} (FB:ExcAttrBase B bmB) (kX:K.In h) (I:W.InstAt h a oe C od) (e1:findIn K (.ref C) "__getattribute__"=some (some (.builtin "BaseException.__getattribute__")))
  (e3:findIn K (.ref C) "__getattr__"=some none)
  (hq:∀R:Result->Shared->Prop,R (.ok (.ret (.ref C))) ⟨h,g,d,t,os⟩->codeAny (model prog w) A (.call (.builtin "BaseException.__getattribute__") ⟨[.ref a,.str "__class__" tk],[]⟩) R ⟨h,g,d,t,os⟩) (q:Q (.ref C) ⟨h,g,d,t,os⟩) :
  wpAny (model prog w) A (getAttrBy (.ref a) (.str "__class__" tk) false) Q E ⟨h,g,d,t,os⟩:=by
 have m0:=I.type (M:=model prog w)
 have m1:=looks_findIn (M:=model prog w) kX e1
 have L2:=looks_findIn (M:=model prog w) kX e3
 have b3:=FB.ga.bind (.ref a)
 have nx:(Value.builtin "BaseException.__getattribute__"==Value.builtin "object.__getattribute__")=false:=by decide +kernel
 unfold getAttrBy
 repeat (any_goals (first|assumption|with_reducible refine m0.at ?_|with_reducible refine m1.at ?_|with_reducible refine L2.at ?_|wp_step))
 all_goals (refine hq _ ?_)
 repeat (any_goals (first|wp_step|assumption))
theorem rL {M:Model} {nameV:Value} {Q:Unit->Shared->Prop} (kX:K.In h) (I:W.InstAt h a oe C od) (hb:mroIn K C (.type "BaseException")=some true) (hq:Q () ⟨h,g,d,t,os⟩) :
  wpAny M A (checkBuiltinCall "BaseException.__getattribute__" ⟨[.ref a,nameV],[]⟩) Q E ⟨h,g,d,t,os⟩:=by
 have kd:builtinKind "BaseException.__getattribute__"=some .slot:=by decide +kernel
 have hs:splitId "BaseException.__getattribute__"=some ("BaseException","__getattribute__"):=by decide +kernel
 have m0:=I.type (M:=M)
 have m1:=looks_mroIn (M:=M) kX hb
 have ag:=F.args_bexc_ga (.ref a) nameV
 simp only [checkBuiltinCall,hs,kd]
 refine wpAny_bind ?_
 unfold isInstance
 repeat (first|with_reducible refine m0.at ?_|with_reducible refine m1.at ?_|wp_step)
 exact hq
theorem rK {tk:Tok} {Q:Fin->Shared->Prop} (kX:K.In h) (I:W.InstAt h a oe C od) (e2:findIn K (.ref C) "__class__"=some (some (.builtin "object.__class__"))) (hm:mroIn K C (.type "object")=some true) (hq:Q (.done (.ret (.ref C))) ⟨h,g,d,t,os⟩) :
  wpAny (model prog w) A (Builtin.«object.__getattribute__» ⟨[.ref a,.str "__class__" tk],[]⟩) Q E ⟨h,g,d,t,os⟩:=by
 have tc:Shared.TypeIs ⟨h,g,d,t,os⟩ (.builtin "object.__class__") "getset_descriptor":=F.typeOf_object_class
 have m0:=I.type (M:=model prog w)
 have m1:=looks_findIn (M:=model prog w) kX e2
 have p5:=F.typeOf_object_class
 have p6:=F.slot_gs_get.lookup
 have p7:=F.slot_gs_set.lookup
 repeat (any_goals (first|assumption|with_reducible refine m0.at ?_|with_reducible refine m1.at ?_|wp_step))
 refine W.class_get (s:=⟨h,g,d,t,os⟩) kX I hm ?_
 repeat (any_goals (first|wp_step|assumption))
theorem tF {Q:Option Value->Shared->Prop} (FB:ExcAttrBase B bmB) (kX:K.In h) (I:W.InstAt h a oe C od) (e1:findIn K (.ref C) "__getattribute__"=some (some (.builtin "BaseException.__getattribute__"))) (e2:findIn K (.ref C) "__class__"=some (some (.builtin "object.__class__"))) (e3:findIn K (.ref C) "__getattr__"=some none)
  (hb:mroIn K C (.type "BaseException")=some true) (hm:mroIn K C (.type "object")=some true) (hq:Q (some (.ref C)) ⟨h,g,d,t+1,os⟩):wpAny (model prog w) A (getAttr? (.ref a) "__class__") Q E ⟨h,g,d,t,os⟩:=by
 unfold getAttr? getAttrBy?
 refine wpAny_bind (wpAny_mkText (wpAny_bind (wpAny_attempt (xcls_by FB kX I e1 e3 (fun R hR=>codeAny_call_builtin FB.ga.plain F.entry_bexc_ga (rL kX I hb (rK kX I e2 hm hR))) ?_))))
 exact wpAny_pure hq
structure vQ (K:Frag) (C:Addr):Prop where
 ga:findIn K (.ref C) "__getattribute__"=some (some (.builtin "BaseException.__getattribute__"))
 cl:findIn K (.ref C) "__class__"=some (some (.builtin "object.__class__"))
 gt:findIn K (.ref C) "__getattr__"=some none
 bs:mroIn K C (.type "BaseException")=some true
 ob:mroIn K C (.type "object")=some true
 is:∃cd,clsIn K C=some cd
theorem jC (FB:ExcAttrBase B bmB) (Z:vQ K C):KitX K (.ref a) (.ref C) (fun h=>W.InstAt h a oe C od) where
 ty:=fun _ _ _ I=>I.type
 it:=fun _ _ X _=>by
  obtain ⟨cd,hc⟩:=Z.is
  unfold clsIn at hc
  split at hc
  ·next ho=>
   intro A' Q' E' s' k q
   unfold isType loadHead
   refine wpAny_bind (wpAny_loadPart (k C _ (X C _ ho)) ?_)
   exact wpAny_pure q
  ·cases hc
 ne:=fun hh tq d1 is n1 s1 X htp=>by
  obtain ⟨cd,hc⟩:=Z.is
  refine Bool.eq_false_iff.mpr (fun q=>?_)
  have e:C=tq:=Value.ref.inj (beq_iff_eq.mp q)
  subst e
  unfold clsIn at hc
  split at hc
  ·next ho=>
   cases (X C _ ho).symm.trans htp
  ·cases hc
 ca:=fun {_ _ _ _ _ s} X I k=>by
  obtain ⟨h,g,d,t,os⟩:=s
  exact tF FB X I Z.ga Z.cl Z.gt Z.bs Z.ob k
end
theorem m8:∀{ys:List Addr} {its:List Value},Vals (ys.map V.ref) its->its=ys.map Value.ref
 |[],_,.nil=>rfl
 |y::ys,_,.cons r rs=>by rw [m8 rs,show _=Value.ref y from r];rfl
section
variable {X:Cx} {C a:Addr} {oe:Obj} {B:String} {bmB:List Value}
theorem rp (FB:ExcAttrBase B bmB) (Z:vQ X.K C) (hc:oe.cls=.ref C) (hd:∃vs,oe.data=.fields vs) (hn:oe.dict=none):bB (X.hand a oe) (.builtin "isinstance") (fun xs H Q=>∃v b,xs=[.ref a,v] /\
  ((∃c,RelV v c/\(∀u,RelV v u->u=c)/\kitOne X.K (.ref C) c=some b)\/∃(tp:Addr) (ys:List Addr),v=.ref tp/\H tp=some (.tup (ys.map V.ref))/\kitAny X.K (.ref C) (ys.map Value.ref)=some b)/\Q (.bl b) H):=by
 intro pins s σ H xs us Q I r h
 obtain ⟨v,b,rfl,h1,q⟩:=h
 obtain ⟨u,w,rfl,ru,rw'⟩:=r.two
 cases (show u=Value.ref a from ru)
 have pa:=(I.pin (a,oe) (List.mem_cons_self ..)).1
 obtain ⟨vs,hdt⟩:=hd
 have J:PySem.W.InstAt s.heap a oe C none:=⟨pa,hc,by unfold PySem.W.notCls;rw [hdt],by rw [hn];trivial⟩
 rcases h1 with ⟨c,rc,uniq,e⟩|⟨tp,ys,rfl,ht,e⟩
 ·cases uniq w rw'
  exact kia_one (jC FB Z) I.kIn J e (fun z=>nomatch z) fun tk=>⟨.bl b,H,I.tok tk,rfl,q⟩
 ·cases (show w=Value.ref tp from rw')
  obtain ⟨_,its,rv,ob,z1,z2⟩:=(show cA X.prog X.w H s.heap tp (.tup (ys.map V.ref)) from I.hok tp _ ht)
  obtain ⟨z3,n,z4⟩:=z2
  have ei:its=ys.map Value.ref:=m8 rv
  subst ei
  obtain ⟨oc,odd,odt,osl⟩:=ob
  have z5:oc=Value.type "tuple":=z3
  have z6:odt=.seq (ys.map Value.ref).toArray n:=z4
  subst z5 z6
  exact PySem.W.kia_tup (jC FB Z) I.kIn J z1 e (fun z=>nomatch z) fun tk=>⟨.bl b,H,I.tok tk,rfl,q⟩
end
end L2
namespace L2
open PySem PySem.Spec PyProof.Rows
noncomputable def tIsiX (i:Nat) (a:Addr) (b:Bool):TE:=fun σ H Q=>σ[i]? =some (some (.ref a))/\Q (.bl b) H
noncomputable def tIsiT (i:Nat) (a:Addr) (ys:List Addr) (b:Bool):TE:=fun σ H Q=>σ[i]? =some (some (.ref a))/\∀p,H p=none->Q (.bl b) (upd H p (.tup (ys.map V.ref)))
section
variable {X:Cx} {C a D:Addr} {oe:Obj} {B:String} {bmB:List Value} {i:Nat} {n x y T:Str} {p p1 p2 pos:Pos} {b:Bool}
theorem pe_isiO (FB:ExcAttrBase B bmB) (Z:vQ X.K C) (hc:oe.cls=.ref C) (hd:∃vs,oe.data=.fields vs) (hn:oe.dict=none) (hm:X.mg "isinstance"=none) (hD:X.mg y=some (.ref D)) (hb:kitOne X.K (.ref C) (.ref D)=some b)
  (hN:X.N[i]? =some n:=by rfl) (hv:Vis X.env.scope n:=by first|exact Or.inl rfl|exact Or.inr (Or.inl rfl)|exact Or.inr (Or.inr rfl)) (hd1:(n==("__debug__":Str))=false:=by decide) (hd2:(n==("__classdict__":Str))=false:=by decide)
  (hg:Gl (X.hand a oe) "isinstance":=by rfl) (hgD:Gl (X.hand a oe) y:=by rfl) (hd3:(y==("__debug__":Str))=false:=by decide)
  (hst:starEach [.Name n p1,.Name y p2] X.env=[(false,eval (.Name n p1) X.env),(false,eval (.Name y p2) X.env)]:=by rfl) (hst2:starEach [.Name y p2] X.env=[(false,eval (.Name y p2) X.env)]:=by rfl) (hpl:(backTo pos (starEach [.Name y p2] X.env)).any (·.1)=false:=by rfl) :
  PE (X.hand a oe) (.Call (.Name "isinstance" p) [.Name n p1,.Name y p2] [] pos) (tIsiX i a b):=by
 have vD:PE (X.hand a oe) (.Name y p2) (tC (.ref D)):=fun pins s σ H Q I h=>ic I hgD hD ⟨.ref D,H,I,rfl,h⟩ hd3
 refine PE.imp (dh (X:=X.hand a oe) (rp FB Z hc hd hn) hg hm boot_isinstance (aF (pv i hN hv hd1 hd2) (aF vD cj hst2) (by rw [hst,hst2])) (by decide) (by decide) (by rw [hst,hst2]) hpl) fun σ H Q h=>?_
 obtain ⟨e1,q⟩:=h
 exact ⟨.ref a,e1,.ref D,b,rfl,.inl ⟨.ref D,rfl,fun u hu=>hu,hb⟩,q⟩
end
noncomputable def tP (ys:List Addr):TA:=fun _ H Q=>Q (ys.map V.ref) H
section
variable {X:Cx} {C a D:Addr} {oe:Obj} {B:String} {bmB:List Value} {i:Nat} {n x y:Str} {T:String} {p p1 p2 pos:Pos} {b:Bool} {ys:List Addr} {es:List Expr}
theorem pa_refs0:PA X [] (tP []):=cj
theorem i7 (hr:PA X es (tP ys)) (hD:X.mg y=some (.ref D)) (hg:Gl X y:=by rfl) (hd:(y==("__debug__":Str))=false:=by decide) (hs:starEach (.Name y p::es) X.env=(false,eval (.Name y p) X.env)::starEach es X.env:=by rfl):PA X (.Name y p::es) (tP (D::ys)):=
 fun ps pins s σ H Q I h=>aF (pA (v:=.ref D) hg hD rfl hd) hr hs ps pins s σ H Q I h
theorem pe_isiB (FB:ExcAttrBase B bmB) (Z:vQ X.K C) (hc:oe.cls=.ref C) (hd:∃vs,oe.data=.fields vs) (hn:oe.dict=none) (hm:X.mg "isinstance"=none) (hmT:X.mg y=none) (hvT:bootBuiltins y=some (.type T)) (hb:kitOne X.K (.ref C) (.type T)=some b)
  (hN:X.N[i]? =some n:=by rfl) (hv:Vis X.env.scope n:=by first|exact Or.inl rfl|exact Or.inr (Or.inl rfl)|exact Or.inr (Or.inr rfl)) (hd1:(n==("__debug__":Str))=false:=by decide) (hd2:(n==("__classdict__":Str))=false:=by decide)
  (hg:Gl (X.hand a oe) "isinstance":=by rfl) (hgT:Gl (X.hand a oe) y:=by rfl) (hy:y≠"__name__":=by decide) (hd3:(y==("__debug__":Str))=false:=by decide)
  (hst:starEach [.Name n p1,.Name y p2] X.env=[(false,eval (.Name n p1) X.env),(false,eval (.Name y p2) X.env)]:=by rfl) (hst2:starEach [.Name y p2] X.env=[(false,eval (.Name y p2) X.env)]:=by rfl) (hpl:(backTo pos (starEach [.Name y p2] X.env)).any (·.1)=false:=by rfl) :
  PE (X.hand a oe) (.Call (.Name "isinstance" p) [.Name n p1,.Name y p2] [] pos) (tIsiX i a b):=by
 refine PE.imp (dh (X:=X.hand a oe) (rp FB Z hc hd hn) hg hm boot_isinstance (aF (pv i hN hv hd1 hd2) (aF (uo (X:=X.hand a oe) (pos:=p2) hgT hmT hvT hy hd3) cj hst2) (by rw [hst,hst2])) (by decide) (by decide) (by rw [hst,hst2]) hpl) fun σ H Q h=>?_
 obtain ⟨e1,q⟩:=h
 exact ⟨.ref a,e1,.ty T,b,rfl,.inl ⟨.type T,rfl,fun u hu=>hu,hb⟩,q⟩
theorem pe_isiT {j} (FB:ExcAttrBase B bmB) (Z:vQ X.K C) (hc:oe.cls=.ref C) (hd:∃vs,oe.data=.fields vs) (hn:oe.dict=none) (hm:X.mg "isinstance"=none) (hT:PA (X.hand a oe) es (tP ys)) (hl:ys.length<=sizeLine) (hb:kitAny X.K (.ref C) (ys.map Value.ref)=some b)
  (hN:X.N[i]? =some n:=by rfl) (hv:Vis X.env.scope n:=by first|exact Or.inl rfl|exact Or.inr (Or.inl rfl)|exact Or.inr (Or.inr rfl)) (hd1:(n==("__debug__":Str))=false:=by decide) (hd2:(n==("__classdict__":Str))=false:=by decide)
  (hg:Gl (X.hand a oe) "isinstance":=by rfl)
  (hst:starEach [.Name n p1,.Tuple es j p2] X.env=[(false,eval (.Name n p1) X.env),(false,eval (.Tuple es j p2) X.env)]:=by rfl) (hst2:starEach [.Tuple es j p2] X.env=[(false,eval (.Tuple es j p2) X.env)]:=by rfl) (hpl:(backTo pos (starEach [.Tuple es j p2] X.env)).any (·.1)=false:=by rfl) :
  PE (X.hand a oe) (.Call (.Name "isinstance" p) [.Name n p1,.Tuple es j p2] [] pos) (tIsiT i a ys b):=by
 refine PE.imp (dh (X:=X.hand a oe) (rp FB Z hc hd hn) hg hm boot_isinstance (aF (pv i hN hv hd1 hd2) (aF (uq hT) cj hst2) (by rw [hst,hst2])) (by decide) (by decide) (by rw [hst,hst2]) hpl) fun σ H Q h=>?_
 obtain ⟨e1,q⟩:=h
 exact ⟨.ref a,e1,by rw [List.length_map];exact hl,fun tp htp=>⟨.ref tp,b,rfl,.inr ⟨tp,ys,rfl,ar,hb⟩,q tp htp⟩⟩
end
end L2
namespace L2
open PySem PySem.Spec PyProof.Rows
noncomputable def DEat (K:PySem.W.Frag) (E:XK) (own:Bool) (X:Cx) (pins:List (Addr×Obj)) (σ:St) (e:Expr) (f:ae->M Dat):Prop:=PEat X pins σ e (tD K (WE K E) own f)
noncomputable def DSat (K:PySem.W.Frag) (E:XK) (ro:Bool) (X:Cx) (OL O O':List Nat) (pins:List (Addr×Obj)) (σ:St) (st:List Stmt) (g:ae->M Flo):Prop:=∀F0 H0,PSsAt X pins σ st (tS K (WE K E) ro F0 H0 OL O O' g)
theorem PEat.imp {X:Cx} {pins:List (Addr×Obj)} {σ:St} {e:Expr} {t u:TE} (h:PEat X pins σ e t) (k:∀H Q,u σ H Q->t σ H Q):PEat X pins σ e u:=fun s H Q I q=>h s H Q I (k H Q q)
theorem PSat.imp {X:Cx} {pins:List (Addr×Obj)} {σ:St} {st:Stmt} {t u:TS} (h:PSat X pins σ st t) (k:∀D H,u D σ H->t D σ H):PSat X pins σ st u:=fun s H D I q=>h s H D I (k D H q)
section
variable {X:Cx} {pins:List (Addr×Obj)} {σ:St} {K:PySem.W.Frag} {ro:Bool} {x:Str} {e:Expr} {es:List Expr} {fr:ae->M (List Dat)} {p pos:Pos} {E:XK} {CX:CXT}
theorem dea_call {k nN n:Nat} {fad:Addr} {fd:FuncData} {ps:List Str} {g:ae->M Flo} (F:gS X.prog X.w X.K X.mg X.base CX k fad fd ps (spX K ro (fA nN n g) n)) (hx:iT CX X pins σ E) (hr:jI k X.A) (hm:X.mg x=some (.ref fad)) (hk:keepIn X.K (.ref fad)=true) (hb:Binds X.K fd ps [])
  (ha:DA K (WE K E) X (e::es) fr) (hg:Gl X x:=by rfl) (hdb:(x==("__debug__":Str))=false:=by decide) (hst:starEach (e::es) X.env=(false,eval e X.env)::starEach es X.env:=by rfl) (hpl:(backTo pos (starEach es X.env)).any (·.1)=false:=by rfl) :
  DEat K E ro X pins σ (.Call (.Name x p) (e::es) [] pos) (fL (fA nN n g) fr):=by
 refine PEat.imp (at_call F hx hr hm hk hb .nil ha hg hdb hst hpl) fun H Q h=>?_
 obtain ⟨F,ρ,r,s,p⟩:=rd_L h
 refine ⟨F,ρ,r,s,?_⟩
 cases e1:fr ρ with
 |error z=>rw [e1] at p;exact p
 |ok ds=>
  rw [e1] at p
  intro vs F' H' st q
  obtain ⟨F1,es1,s1,q1,z⟩:=p vs F' H' st q
  show spX K ro (fA nN n g) n (vs++[]) H' Q E
  rw [List.append_nil]
  by_cases hl:es1.length=n
  ·exact ⟨F1,es1,s1,q1,hl,z⟩
  ·rw [m6 hl] at z
   exact aw.stuck z
end
noncomputable def l6 (O:List Nat) (f:ae->M Dat):ae->M Flo:=fun ρ=>(f (erase O ρ)).bind fun _=>.ok (.nx ρ)
@[simp] theorem e_dropB (O:List Nat) (f:ae->M Dat) (ρ:ae):l6 O f ρ=(f (erase O ρ)).bind fun _=>.ok (.nx ρ):=id rfl
section
variable {X:Cx} {pins:List (Addr×Obj)} {σ:St} {K:PySem.W.Frag} {ro own:Bool} {OL O:List Nat} {E:XK} {e:Expr} {f:ae->M Dat} {pos:Pos}
theorem dsa_expr (h:DEat K E own X pins σ e f) (hs:swapsWith e none pos.line X.env=pure false:=by rfl):DSat K E ro X OL O O pins σ [.Expr e pos] (l6 O f):=fun F0 H0=>at_one (PSat.imp (at_expr h hs) fun D H ⟨FB,F,ρ,r,p⟩=>by
 refine aW r.iC r.st.fh (fun e he=>p.mD r.st (by unfold l6;rw [he];rfl)) fun d hd v F1 H1 s1 q=>?_
 have z:l6 O f ρ=.ok (.nx ρ):=by unfold l6;rw [hd];rfl
 rw [z] at p
 exact p σ F1 H1 (r.step s1))
end
end L2
namespace L2
open PySem PySem.Spec PyProof.Rows
end L2
namespace L2
open PySem PySem.Spec PyProof.Rows
theorem Rep.back {K:PySem.W.Frag} {F0 H0 F1 H1 FB F H:Hp} {O:List Nat} {σ:St} {ρ:ae} (r:Rep K F1 H1 FB O F H σ ρ) (s:Step F0 H0 F1 H1):Rep K F0 H0 FB O F H σ ρ:=
 ⟨s.trans r.st,r.fb,r.len,r.fz,fun i d e h=>let ⟨v,z,q⟩:=r.ow i d e h;⟨v,z,q.back s.hh⟩,r.ap⟩
end L2
namespace L2
open PySem PySem.Spec PyProof.Rows
noncomputable def Kzc:Data->Option ClassData
 |.cls c=>some c
 |_=>none
noncomputable def excIn2 (K:PySem.W.Frag) (C:Addr) (bmB:List Value) (newId:String) (f:Addr):Bool:=(K.lookup C).any fun o=>(Kzc o.data).any fun c=>c.mro.head? ==some (.ref C)&&(o.cls==.type "type"&&(!c.hasDel&&(PySem.W.nsOkIn K c.ns&&(PySem.W.tailIn K bmB c.mro.tail&&(nsIn K c.ns "__init__"==some (some (.ref f))&&(o.slots.toList.length==6&&o.slots.toList[4]? ==some (some (.builtin newId))))))))
end L2
namespace L2
open PySem PySem.Spec PyProof.Rows
noncomputable def Ozi:Value->Bool
 |.ref _=>true
 |_=>false
noncomputable def veTail (l:List Value):Bool:=l.dropWhile Ozi==[.type "ValueError",.type "Exception",.type "BaseException",.type "object"]
structure XFld (K:PySem.W.Frag) (C:Addr) (f:Str):Prop where
 sa:PySem.W.findIn K (.ref C) "__setattr__"
   =some (some (.builtin "object.__setattr__"))
 no:PySem.W.findIn K (.ref C) f=some none
 cd:((PySem.W.clsIn K C).any fun cd=>veTail cd.mro&&cd.hasDict)=true
section
open PySem.W
variable {prog:Program} {w:World} {A:Around} {E:Value->Shared->Prop} {s:Shared} {a C:Addr} {oe:Obj} {od:Option Obj} {K:Frag} {f:Str} {v:Value}
end
end L2
namespace L2
open PySem PySem.Spec PyProof.Rows
section
open PySem.W
variable {prog:Program} {w:World} {A:Around} {E:Value->Shared->Prop} {s:Shared} {a C:Addr} {oe od:Obj} {K:Frag} {f:Str} {v:Value} {B:String} {bmB:List Value}
end
end L2
namespace L2
open PySem PySem.Spec PyProof.Rows
end L2
namespace L2
open PySem PySem.Spec PyProof.Rows
section
variable {X:Cx} {K:PySem.W.Frag} {ro:Bool} {x:Str} {e:Expr} {es:List Expr} {fr:ae->M (List Dat)} {p pos:Pos} {W:cy}
noncomputable def noM (g:List Dat->M Dat):List Dat->M Dat:=fun ds=>noX (g ds)
@[simp] theorem e_noM (g:List Dat->M Dat) (ds:List Dat):noM g ds=noX (g ds):=id rfl
theorem passN:Passes (CXd X.prog X.w) X (fun _ _ _=>False):=by
 rintro pins σ H1 s1 e s' I ⟨a,T,C,dx,H',rfl,z⟩
 exact z.want.elim
theorem mM {k nN n:Nat} {fad:Addr} {fd:FuncData} {ps:List Str} {g:ae->M Flo} (F:gS X.prog X.w X.K X.mg X.base (CXd X.prog X.w) k fad fd ps (spX K ro (fA nN n g) n)) (hr:jI k X.A) (hm:X.mg x=some (.ref fad)) (hk:keepIn X.K (.ref fad)=true) (hb:Binds X.K fd ps [])
  (ha:DA K W X (e::es) fr) (hg:Gl X x:=by rfl) (hdb:(x==("__debug__":Str))=false:=by decide) (hst:starEach (e::es) X.env=(false,eval e X.env)::starEach es X.env:=by rfl) (hpl:(backTo pos (starEach es X.env)).any (·.1)=false:=by rfl) :
  DE K W ro X (.Call (.Name x p) (e::es) [] pos) (fL (noM (fA nN n g)) fr):=by
 refine PE.imp (uw F hr hg hm hk hb .nil passN ha hdb hst hpl) fun σ H Q h=>?_
 obtain ⟨F,ρ,r,s,p⟩:=rd_L h
 refine ⟨F,ρ,r,s,?_⟩
 cases e1:fr ρ with
 |error z=>rw [e1] at p;exact p
 |ok ds=>
  rw [e1] at p
  intro vs F' H' st q
  obtain ⟨F1,es1,s1,q1,z⟩:=p vs F' H' st q
  show spX K ro (fA nN n g) n (vs++[]) H' Q (fun _ _ _=>False)
  rw [List.append_nil]
  have z:aw K W ro F1 H' (noX (fA nN n g es1)) Q:=z
  by_cases hl:es1.length=n
  ·refine ⟨F1,es1,s1,q1,hl,?_⟩
   cases hr':fA nN n g es1 with
   |ok d=>rw [hr'] at z;exact z
   |error x=>rw [hr'] at z;exact (W.ns z).elim
  ·rw [m6 hl] at z
   exact (W.ns z).elim
end
end L2
namespace L2
open PySem PySem.Spec PyProof.Rows
structure XMk (K:PySem.W.Frag) (mg:Str->Option Value) (x:Str) (C f:Addr):Prop where
 mg:mg x=some (.ref C)
 ex:excIn2 K C [.type "ValueError",.type "Exception",.type "BaseException",.type "object"] "ValueError.__new__" f=true
 fn:PySem.W.typeIn K (.ref f)=some (.type "function")
 kp:keepIn K (.ref C)
   =true
structure XTry (K:PySem.W.Frag) (mg:Str->Option Value) (x:Str) (C:Addr):Prop where
 mg:mg x=some (.ref C)
 nm:XNamed K C [.type "ValueError",.type "Exception",.type "BaseException",.type "object"]
 isi:vQ K C
end L2
namespace L2
open PySem PySem.Spec PyProof.Rows
end L2
namespace L2
open PySem PySem.Spec PyProof.Rows
noncomputable def qP:Dat->M Dat
 |.str _=>.ok (.bl true)
 |.ins _ _=>stk
 |.dic _=>stk
 |.dil _=>stk
 |_=>.ok (.bl false)
section
variable {X:Cx} {K:PySem.W.Frag} {W:cy} {own:Bool} {a:Expr} {fa:ae->M Dat} {pos p p2:Pos}
theorem vJ (kit:Kit K) (hK:X.K=K:=by rfl):bB X (.builtin "isinstance") (fun xs H Q=>∃v,xs=[v,.ty "str"]/\rD1 K W own qP v H Q):=by
 subst hK
 intro pins s σ H xs us Q I r h;obtain ⟨v,rfl,F,d,s1,q,p⟩:=h
 obtain ⟨u,w,rfl,ru,rw'⟩:=r.two
 cases (show w=Value.type "str" from rw')
 by_cases hi:(∃C fs,d=.ins C fs)\/(∃ks,d=.dic ks)\/∃ks,d=.dil ks
 ·rcases hi with ⟨C,fs,rfl⟩|⟨ks,rfl⟩|⟨ks,rfl⟩<;>exact aw.stuck p
 ·refine uX I s1 q ru kit.gw kit.fM kit.fG kit.dZ kit.gu kit.ck (fun k tk hk=>⟨.bl k,H,I.tok tk,rfl,?_⟩) (fun C fs e=>hi (.inl ⟨C,fs,e⟩)) (fun ks e=>hi (.inr (.inl ⟨ks,e⟩))) (fun ks e=>hi (.inr (.inr ⟨ks,e⟩)))
  cases d<;>first|(have hk':k=_:=hk;subst hk';exact aw.bl (own:=own) p s1)|exact absurd (.inl ⟨_,_,rfl⟩) hi|exact absurd (.inr (.inl ⟨_,rfl⟩)) hi|exact absurd (.inr (.inr ⟨_,rfl⟩)) hi
theorem de_isi_str (kit:Kit K) (hm:X.mg "isinstance"=none) (hmT:X.mg "str"=none) (ha:DE K W false X a fa) (hK:X.K=K:=by rfl)
  (hg:Gl X "isinstance":=by rfl) (hgT:Gl X "str":=by rfl)
  (hst:starEach [a,.Name "str" p2] X.env=[(false,eval a X.env),(false,eval (.Name "str" p2) X.env)]:=by rfl) (hst2:starEach [.Name "str" p2] X.env=[(false,eval (.Name "str" p2) X.env)]:=by rfl) (hpl:(backTo pos (starEach [.Name "str" p2] X.env)).any (·.1)=false:=by rfl) :
  DE K W own X (.Call (.Name "isinstance" p) [a,.Name "str" p2] [] pos) (f1 qP fa):=kC (vJ kit hK) hm hmT (by decide +kernel) ha hg hgT (by decide) (by decide) hst hst2 hpl
end
end L2
namespace L2
open PySem PySem.Spec PyProof.Rows
noncomputable def rIsi (K:PySem.W.Frag) (C a:Addr) (R:Hp->Prop):List V->Hp->VK->Prop:=fun xs H Q=>R H/\∃v b,xs=[.ref a,v] /\
  ((∃c,RelV v c/\(∀u,RelV v u->u=c)/\kitOne K (.ref C) c=some b)\/∃(tp:Addr) (ys:List Addr),v=.ref tp/\H tp=some (.tup (ys.map V.ref))/\kitAny K (.ref C) (ys.map Value.ref)=some b)/\Q (.bl b) H
noncomputable def XDk (d:Addr):Hp->Prop:=fun H=>∃gs,H d=some (.xd gs)
noncomputable def rQ (i:Nat) (a:Addr) (R:Hp->Prop) (b:Bool):TE:=fun σ H Q=>σ[i]? =some (some (.ref a))/\R H/\Q (.bl b) H
noncomputable def tR (i:Nat) (a:Addr) (R:Hp->Prop) (ys:List Addr) (b:Bool):TE:=fun σ H Q=>σ[i]? =some (some (.ref a))/\∀p,H p=none->R (upd H p (.tup (ys.map V.ref)))/\Q (.bl b) (upd H p (.tup (ys.map V.ref)))
section
variable {X:Cx} {C a d D:Addr} {oe:Obj} {B:String} {bmB:List Value} {R:Hp->Prop}
theorem c_isiD (FB:ExcAttrBase B bmB) (Z:vQ X.K C) (hc:oe.cls=.ref C) (hd:∃vs,oe.data=.fields vs) (hx:oe.dict=some d):bB (X.hand a oe) (.builtin "isinstance") (rIsi X.K C a (XDk d)):=by
 intro pins s σ H xs us Q I r h;obtain ⟨⟨gs,hg⟩,v,b,rfl,h1,q⟩:=h
 obtain ⟨u,w,rfl,ru,rw'⟩:=r.two
 cases (show u=Value.ref a from ru)
 have pa:=(I.pin (a,oe) (List.mem_cons_self ..)).1
 obtain ⟨vs,hdt⟩:=hd
 obtain ⟨mA,⟨od,es,ep,ho,hrest⟩,_⟩:=(show cA X.prog X.w H s.heap d (.xd gs) from I.hok d _ hg)
 have J:PySem.W.InstAt s.heap a oe C (some od):=⟨pa,hc,by unfold PySem.W.notCls;rw [hdt],by rw [hx];exact ho⟩
 rcases h1 with ⟨c,rc,uniq,e⟩|⟨tp,ys,rfl,ht,e⟩
 ·cases uniq w rw'
  exact kia_one (jC FB Z) I.kIn J e (fun z=>nomatch z) fun tk=>⟨.bl b,H,I.tok tk,rfl,q⟩
 ·cases (show w=Value.ref tp from rw')
  obtain ⟨_,its,rv,ob,z1,z2⟩:=(show cA X.prog X.w H s.heap tp (.tup (ys.map V.ref)) from I.hok tp _ ht)
  obtain ⟨z3,n,z4⟩:=z2
  have ei:its=ys.map Value.ref:=m8 rv
  subst ei
  obtain ⟨oc,odd,odt,osl⟩:=ob
  have z5:oc=Value.type "tuple":=z3
  have z6:odt=.seq (ys.map Value.ref).toArray n:=z4
  subst z5 z6
  exact PySem.W.kia_tup (jC FB Z) I.kIn J z1 e (fun z=>nomatch z) fun tk=>⟨.bl b,H,I.tok tk,rfl,q⟩
end
section
variable {X:Cx} {C a D:Addr} {oe:Obj} {R:Hp->Prop} {i:Nat} {n y:Str} {T:String} {p p1 p2 pos:Pos} {b:Bool} {ys:List Addr} {es:List Expr}
theorem pe_isO (hcr:bB (X.hand a oe) (.builtin "isinstance") (rIsi X.K C a R)) (hm:X.mg "isinstance"=none) (hD:X.mg y=some (.ref D)) (hb:kitOne X.K (.ref C) (.ref D)=some b)
  (hN:X.N[i]? =some n:=by rfl) (hv:Vis X.env.scope n:=by first|exact Or.inl rfl|exact Or.inr (Or.inl rfl)|exact Or.inr (Or.inr rfl)) (hd1:(n==("__debug__":Str))=false:=by decide) (hd2:(n==("__classdict__":Str))=false:=by decide)
  (hg:Gl (X.hand a oe) "isinstance":=by rfl) (hgD:Gl (X.hand a oe) y:=by rfl) (hd3:(y==("__debug__":Str))=false:=by decide)
  (hst:starEach [.Name n p1,.Name y p2] X.env=[(false,eval (.Name n p1) X.env),(false,eval (.Name y p2) X.env)]:=by rfl) (hst2:starEach [.Name y p2] X.env=[(false,eval (.Name y p2) X.env)]:=by rfl) (hpl:(backTo pos (starEach [.Name y p2] X.env)).any (·.1)=false:=by rfl) :
  PE (X.hand a oe) (.Call (.Name "isinstance" p) [.Name n p1,.Name y p2] [] pos) (rQ i a R b):=by
 have vD:PE (X.hand a oe) (.Name y p2) (tC (.ref D)):=fun pins s σ H Q I h=>ic I hgD hD ⟨.ref D,H,I,rfl,h⟩ hd3
 refine PE.imp (dh (X:=X.hand a oe) hcr hg hm boot_isinstance (aF (pv i hN hv hd1 hd2) (aF vD cj hst2) (by rw [hst,hst2])) (by decide) (by decide) (by rw [hst,hst2]) hpl) fun σ H Q h=>?_
 obtain ⟨e1,hR,q⟩:=h
 exact ⟨.ref a,e1,hR,.ref D,b,rfl,.inl ⟨.ref D,rfl,fun u hu=>hu,hb⟩,q⟩
theorem pe_isB (hcr:bB (X.hand a oe) (.builtin "isinstance") (rIsi X.K C a R)) (hm:X.mg "isinstance"=none) (hmT:X.mg y=none) (hvT:bootBuiltins y=some (.type T)) (hb:kitOne X.K (.ref C) (.type T)=some b)
  (hN:X.N[i]? =some n:=by rfl) (hv:Vis X.env.scope n:=by first|exact Or.inl rfl|exact Or.inr (Or.inl rfl)|exact Or.inr (Or.inr rfl)) (hd1:(n==("__debug__":Str))=false:=by decide) (hd2:(n==("__classdict__":Str))=false:=by decide)
  (hg:Gl (X.hand a oe) "isinstance":=by rfl) (hgT:Gl (X.hand a oe) y:=by rfl) (hy:y≠"__name__":=by decide) (hd3:(y==("__debug__":Str))=false:=by decide)
  (hst:starEach [.Name n p1,.Name y p2] X.env=[(false,eval (.Name n p1) X.env),(false,eval (.Name y p2) X.env)]:=by rfl) (hst2:starEach [.Name y p2] X.env=[(false,eval (.Name y p2) X.env)]:=by rfl) (hpl:(backTo pos (starEach [.Name y p2] X.env)).any (·.1)=false:=by rfl) :
  PE (X.hand a oe) (.Call (.Name "isinstance" p) [.Name n p1,.Name y p2] [] pos) (rQ i a R b):=by
 refine PE.imp (dh (X:=X.hand a oe) hcr hg hm boot_isinstance (aF (pv i hN hv hd1 hd2) (aF (uo (X:=X.hand a oe) (pos:=p2) hgT hmT hvT hy hd3) cj hst2) (by rw [hst,hst2])) (by decide) (by decide) (by rw [hst,hst2]) hpl) fun σ H Q h=>?_
 obtain ⟨e1,hR,q⟩:=h
 exact ⟨.ref a,e1,hR,.ty T,b,rfl,.inl ⟨.type T,rfl,fun u hu=>hu,hb⟩,q⟩
theorem pe_isT {j} (hcr:bB (X.hand a oe) (.builtin "isinstance") (rIsi X.K C a R)) (hm:X.mg "isinstance"=none) (hT:PA (X.hand a oe) es (tP ys)) (hl:ys.length<=sizeLine) (hb:kitAny X.K (.ref C) (ys.map Value.ref)=some b)
  (hN:X.N[i]? =some n:=by rfl) (hv:Vis X.env.scope n:=by first|exact Or.inl rfl|exact Or.inr (Or.inl rfl)|exact Or.inr (Or.inr rfl)) (hd1:(n==("__debug__":Str))=false:=by decide) (hd2:(n==("__classdict__":Str))=false:=by decide)
  (hg:Gl (X.hand a oe) "isinstance":=by rfl)
  (hst:starEach [.Name n p1,.Tuple es j p2] X.env=[(false,eval (.Name n p1) X.env),(false,eval (.Tuple es j p2) X.env)]:=by rfl) (hst2:starEach [.Tuple es j p2] X.env=[(false,eval (.Tuple es j p2) X.env)]:=by rfl) (hpl:(backTo pos (starEach [.Tuple es j p2] X.env)).any (·.1)=false:=by rfl) :
  PE (X.hand a oe) (.Call (.Name "isinstance" p) [.Name n p1,.Tuple es j p2] [] pos) (tR i a R ys b):=by
 refine PE.imp (dh (X:=X.hand a oe) hcr hg hm boot_isinstance (aF (pv i hN hv hd1 hd2) (aF (uq hT) cj hst2) (by rw [hst,hst2])) (by decide) (by decide) (by rw [hst,hst2]) hpl) fun σ H Q h=>?_
 obtain ⟨e1,q⟩:=h
 exact ⟨.ref a,e1,by rw [List.length_map];exact hl,fun tp htp=>⟨(q tp htp).1,.ref tp,b,rfl,.inr ⟨tp,ys,rfl,ar,hb⟩,(q tp htp).2⟩⟩
end
section
variable {K:PySem.W.Frag} {ro:Bool} {F0 H0 FB F H:Hp} {OL O:List Nat} {D:Ends} {σ:St} {ρ:ae} {i j:Nat} {a d:Addr} {gs:List (Str×V)} {fs:List (Str×Dat)} {f1 f2:Str} {b1 b2 b3:Bool} {ys:List Addr}
theorem Rep.toldG {ds:List Dat} {vs:List V} {l:Addr} {H':Hp} (r:Rep K F0 H0 FB O F H σ ρ) (hij:i≠j) (hi:i<σ.length) (hj:j<σ.length) (hiO:i∉O) (hjO:j∉O) (st:Step F H (upd F l (.lst vs)) H') (hl:F l=none) (df:ak K F ds vs) :
  Rep K F0 H0 FB O (upd F l (.lst vs)) H' (((σ.set i (some (.ref a))).set j (some (.ref l))).set i none) ((ρ.set j (some (.lst ds))).set i none):=by
 have ff:aC F (upd F l (.lst vs)):=aC.upd hl
 have r2:=r.step st
 have out:∀m,m≠i->m≠j->(((σ.set i (some (.ref a))).set j (some (.ref l))).set i none)[m]? =σ[m]?:=fun m h1 h2=>by
  rw [List.getElem?_set_ne (Ne.symm h1),List.getElem?_set_ne (Ne.symm h2),List.getElem?_set_ne (Ne.symm h1)]
 have outR:∀m,m≠i->m≠j->((ρ.set j (some (.lst ds))).set i none)[m]? =ρ[m]?:=fun m h1 h2=>by
  rw [List.getElem?_set_ne (Ne.symm h1),List.getElem?_set_ne (Ne.symm h2)]
 have noi:∀dd,((ρ.set j (some (.lst ds))).set i none)[i]?≠some (some dd):=fun dd e=>by
  rw [List.getElem?_set_self (by rw [List.length_set,r.len];exact hi)] at e
  cases e
 refine ⟨r2.st,r2.fb,by simp only [List.length_set];exact r.len,fun m dd e hm=>?_,fun m dd e hm=>?_,fun m n d1 d2 c hm hn e1 e2 e3 e4=>?_⟩
 ·by_cases h1:m=i
  ·subst h1;exact (noi _ e).elim
  ·by_cases h2:m=j
   ·subst h2
    rw [List.getElem?_set_ne (Ne.symm h1),List.getElem?_set_self (by rw [r.len];exact hj)] at e
    cases e
    refine ⟨.ref l,by rw [List.getElem?_set_ne (Ne.symm h1),List.getElem?_set_self (by rw [List.length_set];exact hj)],l,vs,rfl,SqL.of ar,ak.mono ff df⟩
   ·rw [outR m h1 h2] at e
    rw [out m h1 h2]
    exact r2.fz m dd e hm
 ·have h1:m≠i:=fun z=>hiO (z▸hm)
  have h2:m≠j:=fun z=>hjO (z▸hm)
  rw [outR m h1 h2] at e
  rw [out m h1 h2]
  exact r2.ow m dd e hm
 ·have h1:m≠i:=fun z=>hiO (z▸hm)
  have h2:m≠j:=fun z=>hjO (z▸hm)
  have h3:n≠i:=fun z=>hiO (z▸hn)
  have h4:n≠j:=fun z=>hjO (z▸hn)
  rw [outR m h1 h2] at e1
  rw [outR n h3 h4] at e2
  rw [out m h1 h2] at e3
  rw [out n h3 h4] at e4
  exact r2.ap m n d1 d2 c hm hn e1 e2 e3 e4
theorem step_app {l p:Addr} {xs:List V} {y:V} {tp:HO} (fh:aC F H) (hl:H l=none) (hp:H p=none) (hne:p≠l):Step F H (upd F l (.lst (xs++[y]))) (upd (upd (upd H l (.lst xs)) p tp) l (.lst (xs++[y]))):=by
 have hh:aC H (upd (upd (upd H l (.lst xs)) p tp) l (.lst (xs++[y]))):=fun c o e=>by
  rw [aq (au e hl),aq (au e hp),aq (au e hl)];exact e
 refine ⟨aC.upd (fh.free hl),hh,fun c o e=>?_,fun c o e=>?_⟩
 ·by_cases hc:c=l
  ·subst hc;rw [ar] at e ⊢;exact e
  ·rw [aq hc] at e;exact hh c o (fh c o e)
 ·by_cases hc:c=l
  ·subst hc;exact .inr hl
  ·rw [aq hc] at e;exact .inl e
end
end L2
namespace L2
open PySem PySem.Spec PyProof.Rows
end L2
namespace L2
open PySem PySem.Spec PyProof.Rows
structure Yd (P:Program) (w:World) (K:PySem.W.Frag) (mg:Str->Option Value) (base:Heap) (CX:CXT) (k:Nat) (x:Str) (st:Stmt) (ps:List Str) (sp:Sp) (f:Addr) (fd:FuncData):Prop where
 d:Def K mg x st ps f fd
 o:gS P w K mg base CX k f fd ps sp
end L2
namespace L2
open PySem PySem.Spec PyProof.Rows
section
open PySem.W
variable {M:Model} {A:Around} {E:Value->Shared->Prop} {h:Heap} {g:Array GenState} {d:Drawn} {t:Nat} {os:OsState} {a C Cb:Addr} {oe:Obj} {K:Frag}
theorem tH {Q:Bool->Shared->Prop} (kX:K.In h) (he:h.get? a=some oe) (hc:oe.cls=.ref C) (hT:typeIn K (.ref Cb)=some (.type "type")) (hB:mroIn K Cb (.type "BaseException")=some true) (hS:mroIn K C (.ref Cb)=some true) (hq:Q true ⟨h,g,d,t,os⟩) :
  wpAny M A (excMatches (.ref a) (.ref Cb)) Q E ⟨h,g,d,t,os⟩:=by
 have f:=tc_notTuple
 have m1:=looks_mroIn (M:=M) kX hB
 have m2:=looks_mroIn (M:=M) kX hS
 have m3:=looks_typeIn (M:=M) kX hT
 obtain ⟨ob,hb,hcb⟩:∃ob,h.get? Cb=some ob/\ob.cls=.type "type":=by
  unfold typeIn at hT
  cases q:K.lookup Cb with
  |none=>simp only [q] at hT;cases hT
  |some o=>simp only [q] at hT;exact ⟨o,kX _ _ q,by simpa using hT⟩
 have cl:∃cd,ob.data=.cls cd:=by
  unfold mroIn clsIn at hB
  cases q:K.lookup Cb with
  |none=>simp only [q] at hB;cases hB
  |some o=>
   have:=kX _ _ q
   rw [hb] at this
   cases this
   simp only [q] at hB
   split at hB
   ·next z=>cases z;exact ⟨_,rfl⟩
   ·cases hB
 obtain ⟨cd,hcd⟩:=cl
 obtain ⟨oc,od,odt,osl⟩:=ob
 dsimp only at hcb hcd
 subst hcb hcd
 unfold excMatches
 repeat (first|(with_reducible refine wpAny_loadPart_at he ?_;rw [hc])|with_reducible refine wpAny_loadPart_at hb ?_|with_reducible refine m1.at ?_|with_reducible refine m2.at ?_|with_reducible refine m3.at ?_|wp_step)
 exact hq
end
structure oH (K:PySem.W.Frag) (C Cb:Addr):Prop where
 sub:PySem.W.mroIn K C (.ref Cb)=some true
 isi:vQ K C
structure t8 (K:PySem.W.Frag) (mg:Str->Option Value) (x:Str) (Cb:Addr):Prop where
 mg:mg x=some (.ref Cb)
 ty:PySem.W.typeIn K (.ref Cb)=some (.type "type")
 bs:PySem.W.mroIn K Cb (.type "BaseException")=some true
section
variable {X:Cx} {pins:List (Addr×Obj)} {σ:St} {H:Hp} {s:Shared} {a T C Cb:Addr} {dx:Option Addr} {c n:Str} {i:Nat} {np pos:Pos} {b₀:Stmt} {suite:List Stmt} {ts:TS} {D:Ends}
theorem sZ (I:Inv X pins σ H s) (x:ExA s.heap a (.ref C) dx (some T)) (ap:Apart X pins H s a (some T)) (hex:X.ex=[]) (hC:oH X.K C Cb) (hB:t8 X.K X.mg c Cb)
  (hg:Gl X c) (hN:X.N.Nodup) (hi:X.N[i]? =some n) (hk:X.env.scope.names.lookup n=some .local)
  (hs:∀oe:Obj,oe.cls=.ref C->oe.dict=dx->(∃vs,oe.data=.fields vs)->PSs (X.hand a oe) (b₀::suite) ts) (q:ts (D.less i) (σ.set i (some (.ref a))) H) (hdb:(c==("__debug__":Str))=false:=by decide) :
  wpAny (model X.prog X.w) X.A (handleBy (.ref a) X.env [.ExceptHandler (some (.Name c np)) (some n) (b₀::suite) pos]) (SP X pins D) X.xe s:=by
 obtain ⟨oe,vs,he,hcl,hdx,hdt,h1⟩:=x.ob
 have J:=I.hand he hdt ap.na ap.fa
 refine wpAny_handleBy_cons (codeAny_handlers_test (ic (X:=X.hand a oe) J hg hB.mg ?_ hdb)) (by intro z;cases z)
 have e0:=I.env0
 have kX:=I.kIn
 obtain ⟨hh,gg,d,tk,os⟩:=s
 refine tH kX he hcl hB.ty hB.bs hC.sub (codeAny_handlers_suite_as ?_)
 refine ve (base:=X.base) (l:=X.stack) e0.oQ x fun h' x' lf ea=>?_
 have I2:=I.left hex x ap lf
 have he2:h'.get? a=some oe:=by rw [ea];exact he
 have J2:=I2.hand he2 hdt ap.na ap.fa
 refine jw (X:=X.hand a oe) J2 hN hi (.inl hk) (v:=.ref a) rfl (fun s3 J3=>?_) (.inr hk)
 refine wpAny_mono (hs oe hcl hdx ⟨vs,hdt⟩ pins s3 _ H (D.less i) J3 q) (fun f s4 z=>?_) fun _ _ z=>z.elim
 cases f with
 |next=>
  obtain ⟨σ',H',J4,q4⟩:=z
  exact my (J4.q9 I.ok) hN hi hk fun s5 I5=>⟨_,H',I5,q4⟩
 |brk=>
  obtain ⟨σ',H',J4,q4⟩:=z
  exact my (J4.q9 I.ok) hN hi hk fun s5 I5=>⟨_,H',I5,q4⟩
 |cont=>
  obtain ⟨σ',H',J4,q4⟩:=z
  exact my (J4.q9 I.ok) hN hi hk fun s5 I5=>⟨_,H',I5,q4⟩
 |ret u=>
  obtain ⟨v,σ',H',J4,r,q4⟩:=z
  exact my (J4.q9 I.ok) hN hi hk fun s5 I5=>⟨v,_,H',I5,r,q4⟩
end
noncomputable def EHB (K:PySem.W.Frag) (i:Nat) (Cb:Addr) (ts:Addr->Addr->Option Addr->TS) (D:Ends) (σ:St):XK:=fun Cv dx H'=>∃C,Cv=.ref C/\oH K C Cb/\∀a,H' a=none->ts a C dx (D.less i) (σ.set i (some (.ref a))) H'
section
variable {X:Cx} {Cb:Addr} {c n:Str} {i:Nat} {np hpos pos:Pos} {b₀:Stmt} {body suite:List Stmt} {ts:Addr->Addr->Option Addr->TS} {tb:XK->TS}
theorem ps_tryB (hb:∀(pins:List (Addr×Obj)) (σ:St) (E:XK) (xe:Value->Shared->Prop),iT (CXd X.prog X.w) (X.oM xe) pins σ E->PSsAt (X.oM xe) pins σ body (tb E))
  (hs:∀(a C:Addr) (oe:Obj),oe.cls=.ref C->vQ X.K C->(∃vs,oe.data=.fields vs)->PSs (X.hand a oe) (b₀::suite) (ts a C oe.dict))
  (hB:t8 X.K X.mg c Cb) (hN:X.N.Nodup) (hi:X.N[i]? =some n:=by rfl) (hk:X.env.scope.names.lookup n=some .local:=by rfl)
  (hg:Gl X c:=by rfl) (hex:X.ex=[]:=by rfl) (hstk:X.stack=X.env::X.outer:=by rfl) (hfr:X.env.frame=some X.env.locals:=by rfl) (hdb:(c==("__debug__":Str))=false:=by decide) :
  PS X (.Try body [.ExceptHandler (some (.Name c np)) (some n) (b₀::suite) hpos] [] [] pos) (fun D σ H=>tb (EHB X.K i Cb ts D σ) D σ H):=by
 intro pins s σ H D I h
 refine wpAny_Try_except (thn (hb pins σ (EHB X.K i Cb ts D σ) (fun e s₁=>wpAny (model X.prog X.w) X.A (noteFrame e X.env) (fun _ s₂=>wpAny (model X.prog X.w) X.A (setFlight e none) (fun _ s₃=>wpAny (model X.prog X.w) X.A (handleBy e X.env [.ExceptHandler (some (.Name c np)) (some n) (b₀::suite) hpos]) (SP X pins D) X.xe s₃) X.xe s₂) X.xe s₁) ?_ s H D (I.oM _) h) fun f s1 z=>?_)
 ·rintro H1 s1 e s' I1' ⟨a,T,Cv,dx,H',rfl,z⟩
  have I1:=I1'.gn
  obtain ⟨C,rfl,hC,q⟩:=z.want
  have J:Inv X pins σ H' s':=I1.call' z.os z.un z.hok z.bare (fun _ h=>nomatch h)
  have off:∀b,s1.heap.get? b=none->∀p∈X.pn++pins,p.1≠b:=fun b e p hp w=>by
   have:=(I1.pin p hp).1
   rw [w,e] at this
   cases this
  have ap:Apart X pins H' s' a (some T):=⟨I1.lS hex z.na,z.fa,off a z.na,fun T' hT=>by cases hT;exact ⟨I1.lS hex z.nT,z.fT,off T z.nT⟩⟩
  have e0:=J.env0
  have f1:=e0.frames
  have f2:=e0.oQ
  rw [hstk] at f1 f2
  refine leave2 (base:=X.base) f1 f2 hfr z.ex fun h' T2 x' hT lf=>?_
  rw [<- hstk] at lf
  have I2:=J.left hex z.ex ap lf
  have ap2:Apart X pins H' {s' with heap:=h'} a (some T2):=⟨ap.na,ap.fa,ap.pa,fun T' hT'=>by
   cases hT'
   refine ⟨get_none (Nat.le_trans J.sz hT),J.hok.fresh hT,fun p hp w=>?_⟩
   have:=Heap.lt_size (J.pin p hp).1
   rw [w] at this
   exact absurd this (Nat.not_lt.mpr hT)⟩
  exact sZ I2 x' ap2 hex hC hB hg hN hi hk (fun oe h1 h2 h3=>by rw [<- h2];exact hs a C oe h1 hC.isi h3) (q a z.fa) hdb
 ·have z:=SP.gn z
  cases f with
  |next=>exact wpAny_execs_nil z
  |_=>exact z
end
noncomputable def XR:Option Addr->Hp->Prop
 |none=>fun _=>True
 |some d=>XDk d
section
variable {X:Cx} {C a:Addr} {oe:Obj} {B:String} {bmB:List Value}
theorem c_isiA (FB:ExcAttrBase B bmB) (Z:vQ X.K C) (hc:oe.cls=.ref C) (hd:∃vs,oe.data=.fields vs):bB (X.hand a oe) (.builtin "isinstance") (rIsi X.K C a (XR oe.dict)):=by
 cases hx:oe.dict with
 |none=>exact fun pins s σ H xs us Q I r h=>rp FB Z hc hd hx pins s σ H xs us Q I r h.2
 |some d=>exact c_isiD FB Z hc hd hx
end
structure XTell (K:PySem.W.Frag) (C:Addr) (A1 A2 A3:Addr) (T:String) (ys:List Addr) (bs:List Bool):Prop where
 ex:∃b1 b2 b3 b4 b5,bs=[b1,b2,b3,b4,b5]/\kitOne K (.ref C) (.ref A1)=some b1/\kitOne K (.ref C) (.ref A2)=some b2/\kitOne K (.ref C) (.ref A3)=some b3/\kitOne K (.ref C) (.type T)=some b4/\kitAny K (.ref C) (ys.map Value.ref)=some b5
noncomputable def lZ (i j:Nat) (tb:List (Addr×List Bool)) (fb:ae->M Flo):ae->M Flo:=fun ρ=>match fb ρ with
 |.ok fl=>.ok fl
 |.error (.exc C _)=>match tb.lookup C with
  |some bs=>.ok (.nx ((ρ.set j (some (.lst (bs.map Dat.bl)))).set i none))
  |none=>.error .stuck
 |.error _=>.error .stuck
theorem vo {i j:Nat} {tb:List (Addr×List Bool)} {fb:ae->M Flo} {ρ:ae} {fl:Flo} (h:fb ρ=.ok fl):lZ i j tb fb ρ=.ok fl:=by unfold lZ;rw [h]
theorem lE {i j:Nat} {tb:List (Addr×List Bool)} {fb:ae->M Flo} {ρ:ae} {C:Addr} {fs:List (Str×Dat)} {bs:List Bool} (h:fb ρ=.error (.exc C fs)) (hl:tb.lookup C=some bs):lZ i j tb fb ρ=.ok (.nx ((ρ.set j (some (.lst (bs.map Dat.bl)))).set i none)):=by unfold lZ;rw [h];simp only [hl]
structure XTxt (K:PySem.W.Frag) (mg:Str->Option Value) (x:Str) (C:Addr):Prop where
 mg:mg x=some (.ref C)
 ex:PySem.W.excIn K C [.type "ValueError",.type "Exception",.type "BaseException",.type "object"] "ValueError.__new__"=true
end L2
namespace L2
open PySem PySem.Spec PyProof.Rows
section
open PySem.W
variable {M:Model} {A:Around} {E:Value->Shared->Prop} {h:Heap} {g:Array GenState} {d:Drawn} {t:Nat} {os:OsState} {a C Cb:Addr} {oe:Obj} {K:Frag}
end
structure XTwo (K:PySem.W.Frag) (mg:Str->Option Value) (c1 c2:Str) (C1 C2:Addr):Prop where
 b1:t8 K mg c1 C1
 b2:t8 K mg c2 C2
 isi:vQ K C1
 s1:PySem.W.mroIn K C1 (.ref C1)=some true
 s2:PySem.W.mroIn K C2 (.ref C2)=some true
 no:PySem.W.mroIn K C2 (.ref C1)=some false
end L2
namespace L2
open PySem PySem.Spec PyProof.Rows
end L2
namespace L2
open PySem PySem.Spec PyProof.Rows
section
open PySem.SetTable
end
section
open PySem
variable {prog:Program} {w:World} {A:Around} {E:Value->Shared->Prop} {s:Shared}
end
section
open PySem
variable {prog:Program} {w:World} {A:Around} {R:Result->Shared->Prop} {I:Addr} {fp wr:List Addr} {G:Array GenState->Array GenState->Prop} {n:Nat} {P:Nat->Value->Prop} {St:Nat->Shared->Prop} {b:Bool}
end
section
open PySem
variable {prog:Program} {w:World} {A:Around} {E:Value->Shared->Prop} {s:Shared}
end
section
open PySem
end
section
open PySem
variable {prog:Program} {w:World} {A:Around} {E:Value->Shared->Prop} {s:Shared} {I a T:Addr} {es:Array (Int×Value)} {ep n i:Nat} {t:SetTable}
end
section
open PySem
variable {prog:Program} {w:World} {A:Around} {E:Value->Shared->Prop} {s:Shared} {I a T:Addr} {es:Array (Int×Value)} {ep n i:Nat} {t:SetTable}
end
section
open PySem
variable {prog:Program} {w:World} {A:Around} {E:Value->Shared->Prop} {s:Shared} {a:Addr}
end
end L2
namespace L2
open PySem PySem.Spec PyProof.Rows
section
open PySem.W
variable {prog:Program} {w:World} {A:Around} {E:Value->Shared->Prop} {s:Shared}
end
end L2
namespace L2
open PySem PySem.Spec PyProof.Rows
end L2
namespace L2
open PySem PySem.Spec PyProof.Rows
end L2
namespace L2
open PySem PySem.Spec PyProof.Rows
end L2
namespace L2
open PySem PySem.Spec PyProof.Rows
structure Abt (p:Addr) (F H F' H':Hp):Prop where
 ff:aC F F'
 fh:aC F' H'
 fp:F' p=none
 nw:∀b o,F' b=some o->F b=some o\/H b=none
 hh:∀c o,H c=some o->c≠p->H' c=some o
section
variable {X:Cx} {K:PySem.W.Frag} {own ro:Bool} {e o a:Expr} {es:List Expr} {x m:Str} {pos p apos:Pos} {f fo:ae->M Dat} {fr:ae->M (List Dat)} {C C2:Addr} {E:XK} {CX:CXT}
end
end L2
namespace L2
open PySem PySem.Spec PyProof.Rows
noncomputable def isiC (tb:List (Addr×Bool)):Dat->M Dat
 |.ins C _=>match tb.lookup C with
  |some b=>.ok (.bl b)
  |none=>stk
 |_=>stk
section
variable {X:Cx} {K:PySem.W.Frag} {W:cy} {own:Bool} {a:Expr} {fa:ae->M Dat} {pos p p2:Pos} {y:Str} {D:Addr} {tb:List (Addr×Bool)}
theorem c_isiC (hT:∀C b,tb.lookup C=some b->(∃x,Kls K X.mg x C)/\kitOne K (.ref C) (.ref D)=some b) (hK:X.K=K:=by rfl):bB X (.builtin "isinstance") (fun xs H Q=>∃v,xs=[v,.ref D]/\rD1 K W own (isiC tb) v H Q):=by
 subst hK
 intro pins s σ H xs us Q I r h
 obtain ⟨v,rfl,F,d,s1,q,p⟩:=h
 obtain ⟨u,w,rfl,ru,rw'⟩:=r.two
 cases (show w=Value.ref D from rw')
 cases d with
 |ins C fs=>
  cases hl:tb.lookup C with
  |none=>
   have p:aw X.K W own F H (match tb.lookup C with
    |some b=>.ok (.bl b)
    |none=>stk) Q:=p
   rw [hl] at p
   exact aw.stuck p
  |some b=>
   have p:aw X.K W own F H (match tb.lookup C with
    |some b=>.ok (.bl b)
    |none=>stk) Q:=p
   rw [hl] at p
   obtain ⟨⟨x,hk⟩,hb⟩:=hT C b hl
   obtain ⟨l,dx,gs,e1,ea,df⟩:=q
   subst e1
   exact nS I ru (hk.ty (s1 _ _ ea)) hb fun tk=>⟨.bl b,H,I.tok tk,rfl,aw.bl (own:=own) p s1⟩
 |_=>exact aw.stuck p
theorem de_isiC (hT:∀C b,tb.lookup C=some b->(∃x,Kls K X.mg x C)/\kitOne K (.ref C) (.ref D)=some b) (hm:X.mg "isinstance"=none) (hD:X.mg y=some (.ref D)) (ha:DE K W false X a fa) (hK:X.K=K:=by rfl)
  (hg:Gl X "isinstance":=by rfl) (hgT:Gl X y:=by rfl) (hd:(y==("__debug__":Str))=false:=by decide)
  (hst:starEach [a,.Name y p2] X.env=[(false,eval a X.env),(false,eval (.Name y p2) X.env)]:=by rfl) (hst2:starEach [.Name y p2] X.env=[(false,eval (.Name y p2) X.env)]:=by rfl) (hpl:(backTo pos (starEach [.Name y p2] X.env)).any (·.1)=false:=by rfl) :
  DE K W own X (.Call (.Name "isinstance" p) [a,.Name y p2] [] pos) (f1 (isiC tb) fa):=
 (dh (c_isiC hT hK) hg hm boot_isinstance (aF ha (aF (pA (v:=.ref D) (pos:=p2) hgT hD rfl hd) cj hst2) (by rw [hst,hst2])) (by decide) (by decide) (by rw [hst,hst2]) hpl).imp fun σ H Q h=>by
  obtain ⟨F,ρ,r,s,q⟩:=rd_1 h
  refine ⟨F,ρ,r,s,?_⟩
  cases e1:fa ρ with
  |error z=>rw [e1] at q;exact q
  |ok d=>rw [e1] at q;exact fun v F' H' st z=>⟨v,rfl,q v F' H' st z⟩
end
end L2
namespace L2
open PySem PySem.Spec PyProof.Rows
end L2
namespace L2
open PySem PySem.Spec PyProof.Rows
end L2
namespace L2
open PySem PySem.Spec PyProof.Rows
noncomputable abbrev f9 (P:Program) (w:World):HeapKind P w (List Int):=tupleKind (intKind P w)
theorem nj {P:Program} {w:World}:∀{k:List Int} {us:List Value},Vals (k.map V.int) us->ItemsAre (intKind P w) k us
 |[],_,.nil=>.nil
 |i::k,_,.cons r t=>by
  obtain ⟨t',rfl⟩:=(show ∃t,_=Value.int i t from r)
  exact .cons (by simp [intKind,Value.isInt]) (nj t)
theorem kT.at {h h':Heap} {a:Addr} {xs:List gJ} {ep:Nat} (z:kT h a xs ep) (e:∀o,h.get? a=some o->h'.get? a=some o):kT h' a xs ep:=
 let ⟨vs,r,hd,hl,hn,o,es,h1,h2⟩:=z;⟨vs,r,hd,hl,hn,o,es,e o h1,h2⟩
theorem mF {P:Program} {w:World} {H:Hp} {h:Heap} {a:Addr} {xs:List gJ} {ep:Nat} (z:kT h a xs ep):cA P w H h a (jv a xs ep):=
 ⟨z,let ⟨_,_,_,_,_,o,_,e,_⟩:=z;⟨o,e⟩,fun _ _ z e=>z.at e⟩
noncomputable def jl (K:PySem.W.Frag) (H:Hp) (xs:List gJ):Prop:=∀x∈xs,SqT K H x.2.1 (x.1.map V.int)
theorem jl.mono {K:PySem.W.Frag} {H H':Hp} {xs:List gJ} (z:jl K H xs) (s:aC H H'):jl K H' xs:=fun x hx=>s.tup (z x hx)
theorem bx.key {K:PySem.W.Frag} {F:Hp}:∀{ks:List (List Int×Dat)} {xs:List gJ},bx K F ks xs->jl K F xs
 |[],_,h,x,hx=>by rw [show _=[] from h] at hx;cases hx
 |(k,d)::ks,_,⟨b,v,r,e,t,q,z⟩,x,hx=>by
  subst e
  rcases List.mem_cons.mp hx with rfl|hx
  ·exact t
  ·exact bx.key z x hx
theorem bx.length {K:PySem.W.Frag} {F:Hp}:∀{ks:List (List Int×Dat)} {xs:List gJ},bx K F ks xs->xs.length=ks.length
 |[],_,h=>by rw [show _=[] from h];rfl
 |(k,d)::ks,_,⟨b,v,r,e,t,q,z⟩=>by rw [e,List.length_cons,List.length_cons,bx.length z]
noncomputable def lA (ks:List (List Int×Dat)) (k:List Int):Option Dat:=(ks.find? fun p=>decide (p.1=k)).map (·.2)
noncomputable def sO (xs:List gJ) (k:List Int):Option V:=(xs.find? fun p=>decide (p.1=k)).map (·.2.2)
noncomputable def gT (ks:List (List Int×Dat)) (k:List Int) (d:Dat):List (List Int×Dat):=if (lA ks k).isSome=true then ks.map (fun p=>if p.1=k then (p.1,d) else p) else ks++[(k,d)]
noncomputable def ti (xs:List gJ) (k:List Int) (b:Addr) (v:V):List gJ:=if (sO xs k).isSome=true then xs.map (fun x=>if x.1=k then (x.1,x.2.1,v) else x) else xs++[(k,b,v)]
theorem i9 (xs:List gJ) (k:List Int) (b:Addr) (v:V):(ti xs k b v).length<=xs.length+1:=by
 unfold ti
 split
 ·rw [List.length_map];omega
 ·rw [List.length_append];exact Nat.le_refl _
theorem jx {k:List Int}:∀{xs:List gJ} {vs:List (List Int×Addr×Value)},Paired eP xs vs->vR (sO xs k) ((atKey vs k).map (·.2))
 |_,_,.nil=>True.intro
 |x::xs,q::vs,.cons h t=>by
  obtain ⟨h1,h2,h3⟩:=h
  by_cases e:x.1=k
  ·have e':q.1=k:=h1.symm.trans e
   simp only [sO,atKey,List.find?_cons,e,e',decide_true,Option.map_some]
   exact h3
  ·have e':¬q.1=k:=fun z=>e (h1.trans z)
   have:=jx (k:=k) t
   simpa only [sO,atKey,List.find?_cons,e,e',decide_false] using this
theorem bx.at {K:PySem.W.Frag} {F:Hp} {k:List Int}:∀{ks:List (List Int×Dat)} {xs:List gJ},bx K F ks xs->(lA ks k=none/\sO xs k=none)\/∃d v,lA ks k=some d/\sO xs k=some v/\aZ K F d v
 |[],_,h=>by rw [show _=[] from h];exact .inl ⟨rfl,rfl⟩
 |(k',d)::ks,_,⟨b,v,r,e,t,q,z⟩=>by
  subst e
  by_cases e:k'=k
  ·exact .inr ⟨d,v,by simp [lA,e],by simp [sO,e],q⟩
  ·have:=bx.at (k:=k) z
   simpa only [lA,sO,List.find?_cons,e,decide_false] using this
theorem bx.isSome {K:PySem.W.Frag} {F:Hp} {k:List Int} {ks:List (List Int×Dat)} {xs:List gJ} (z:bx K F ks xs):(sO xs k).isSome=(lA ks k).isSome:=by
 rcases z.at (k:=k) with ⟨e1,e2⟩|⟨d,v,e1,e2,_⟩<;>rw [e1,e2]<;>rfl
theorem bx.repl {K:PySem.W.Frag} {F:Hp} {k:List Int} {d:Dat} {v:V} (q:aZ K F d v):∀{ks:List (List Int×Dat)} {xs:List gJ},bx K F ks xs->bx K F (ks.map fun p=>if p.1=k then (p.1,d) else p) (xs.map fun x=>if x.1=k then (x.1,x.2.1,v) else x)
 |[],_,h=>by rw [show _=[] from h];rfl
 |(k',d')::ks,_,⟨b,v',r,e,t,q',z⟩=>by
  subst e
  rw [List.map_cons,List.map_cons]
  by_cases e:k'=k
  ·rw [if_pos e,if_pos e];exact ⟨b,v,_,rfl,t,q,bx.repl q z⟩
  ·rw [if_neg e,if_neg e];exact ⟨b,v',_,rfl,t,q',bx.repl q z⟩
theorem bx.snoc {K:PySem.W.Frag} {F:Hp} {k:List Int} {b:Addr} {d:Dat} {v:V} (t:SqT K F b (k.map V.int)) (q:aZ K F d v):∀{ks:List (List Int×Dat)} {xs:List gJ},bx K F ks xs->bx K F (ks++[(k,d)]) (xs++[(k,b,v)])
 |[],_,h=>by rw [show _=[] from h];exact ⟨b,v,[],rfl,t,q,rfl⟩
 |(k',d')::ks,_,⟨b',v',r,e,t',q',z⟩=>by subst e;exact ⟨b',v',_,rfl,t',q',bx.snoc t q z⟩
theorem bx.put {K:PySem.W.Frag} {F:Hp} {k:List Int} {b:Addr} {d:Dat} {v:V} {ks:List (List Int×Dat)} {xs:List gJ} (z:bx K F ks xs) (t:SqT K F b (k.map V.int)) (q:aZ K F d v):bx K F (gT ks k d) (ti xs k b v):=by
 unfold gT ti
 rw [z.isSome]
 by_cases h:(lA ks k).isSome=true
 ·rw [if_pos h,if_pos h];exact z.repl q
 ·rw [if_neg h,if_neg h];exact z.snoc t q
theorem nA {k:List Int} {v:V} {u:Value} (ru:RelV v u):∀{xs:List gJ} {vs:List (List Int×Addr×Value)},Paired eP xs vs->Paired eP (xs.map fun x=>if x.1=k then (x.1,x.2.1,v) else x) (vs.map (putAt k u))
 |_,_,.nil=>.nil
 |x::xs,q::vs,.cons h t=>by
  rw [List.map_cons,List.map_cons]
  refine .cons ?_ (nA ru t)
  obtain ⟨h1,h2,h3⟩:=h
  unfold putAt
  by_cases e:x.1=k
  ·rw [if_pos e,if_pos (h1.symm.trans e)];exact ⟨h1,h2,ru⟩
  ·rw [if_neg e,if_neg (fun z=>e (h1.trans z))];exact ⟨h1,h2,h3⟩
theorem m7 {k:List Int} {b:Addr} {v:V} {u:Value} (ru:RelV v u) {xs:List gJ} {vs:List (List Int×Addr×Value)} (r:Paired eP xs vs):Paired eP (ti xs k b v) (storedH vs k b u):=by
 have e:(sO xs k).isSome=(atKey vs k).isSome:=by rw [(jx r).nV,Option.isSome_map]
 unfold ti storedH
 rw [e]
 by_cases h:(atKey vs k).isSome=true
 ·rw [if_pos h,if_pos h];exact nA ru r
 ·rw [if_neg h,if_neg h];exact Paired.snoc r ⟨rfl,rfl,ru⟩
theorem qp:∀{xs:List gJ} {vs:List (List Int×Addr×Value)},Paired eP xs vs->∀q∈vs,∃x∈xs,x.1=q.1/\x.2.1=q.2.1
 |_,_,.nil,_,h=>nomatch h
 |x::xs,q::vs,.cons h t,y,hy=>by
  rcases List.mem_cons.mp hy with rfl|hy
  ·exact ⟨x,by simp,h.1,h.2.1⟩
  ·obtain ⟨x',h1,h2⟩:=qp t y hy
   exact ⟨x',by simp [h1],h2⟩
section
variable {X:Cx} {pins:List (Addr×Obj)} {σ:St} {H:Hp} {s:Shared} {a b:Addr} {xs:List gJ} {ep:Nat} {k:List Int}
theorem j4 (I:Inv X pins σ H s) (h:SqT X.K H b (k.map V.int)):(f9 X.prog X.w).is s.heap k b:=by
 obtain ⟨its,r,⟨o,h1,h2,n,h3⟩,_⟩:=I.tuple h
 exact ⟨o,its.toArray,n,h1,h2,h3,by simpa using nj r⟩
theorem qZ (I:Inv X pins σ H s) (e:H a=some (jv a xs ep)):kT s.heap a xs ep:=(show kT s.heap a xs ep/\_ from I.hok a _ e).1
theorem r6 (I:Inv X pins σ H s) (e:H a=some (jv a xs ep)) (z:jl X.K H xs):∃vs,Paired eP xs vs/\(a==sysModules)=false/\xs.length<=sizeLine/\s.heap.DictOfH (f9 X.prog X.w) a vs:=by
 obtain ⟨vs,r,hd,hl,hn,o,es,h1,h2,h3,h4⟩:=qZ I e
 refine ⟨vs,r,hd,hl,o,es,ep,h1,h2,h3,h4,fun q hq=>?_,hn⟩
 obtain ⟨x,hx,e1,e2⟩:=qp r q hq
 rw [<- e1,<- e2]
 exact j4 I (z x hx)
theorem dic_ty (I:Inv X pins σ H s) (e:H a=some (jv a xs ep)):s.TypeIs (.ref a) "dict"/\(∀b,Value.ref a=.ref b->∃ob,s.heap.get? b=some ob/\ob.dict=none):=by
 obtain ⟨_,_,_,_,_,o,_,h1,h2,_⟩:=qZ I e
 exact ⟨⟨o,h1,h2.1⟩,fun c q=>by cases q;exact ⟨o,h1,h2.2.1⟩⟩
theorem mG {P:Program} {w:World} {h:Heap} {vs:List (List Int×Addr×Value)} (dd:h.DictOfH (f9 P w) a vs) (r:Paired eP xs vs) (hd:(a==sysModules)=false) (hl:xs.length<=sizeLine):∃ep,kT h a xs ep:=by
 obtain ⟨o,es,ep,h1,h2,h3,h4,_,h5⟩:=dd
 exact ⟨ep,vs,r,hd,hl,h5,o,es,h1,h2,h3,h4⟩
end
noncomputable def sPut (K:PySem.W.Frag) (td ty tv:TE):TS:=fun D σ H=>tv σ H fun v H1=>td σ H1 fun x H2=>ty σ H2 fun y H3=>∃a b k xs ep,x=.ref a/\y=.ref b/\H3 a=some (jv a xs ep)/\jl K H3 xs/\SqT K H3 b (k.map V.int)/\xs.length<sizeLine/\∀ep',D.nx σ (upd H3 a (jv a (ti xs k b v) ep'))
noncomputable def tGet2 (K:PySem.W.Frag) (td ty tx:TE):TE:=fun σ H Q=>td σ H fun x H1=>∃a xs ep,x=.ref a/\H1 a=some (jv a xs ep)/\ty σ H1 fun y H2=>tx σ H2 fun z H3=>∃b k,y=.ref b/\H3 a=some (jv a xs ep)/\jl K H3 xs/\SqT K H3 b (k.map V.int)/\Q ((sO xs k).getD z) H3
noncomputable def rInK (K:PySem.W.Frag) (neg:Bool):R2:=fun y x H Q=>∃a b k xs ep,x=.ref a/\y=.ref b/\H a=some (jv a xs ep)/\jl K H xs/\SqT K H b (k.map V.int)/\Q (.bl (if neg=true then !(sO xs k).isSome else (sO xs k).isSome)) H
noncomputable def tNewK:TE:=fun _ H Q=>∀p,H p=none->Q (.ref p) (upd H p (jv p [] 0))
section
variable {X:Cx} {o i e f value:Expr} {pos pos' apos cpos:Pos} {td ty tv tx:TE}
theorem oh (h:Heap) (hb:sysModules<h.objs.size):kT (h.push {cls:=.type "dict",data:=.dict #[]}) h.objs.size [] 0:=
 ⟨[],.nil,beq_eq_false_iff_ne.mpr (Ne.symm (Nat.ne_of_lt hb)),Nat.zero_le _,List.nodup_nil,_,#[],Heap.get?_push_size _ rfl,⟨rfl,rfl,rfl⟩,rfl,rfl⟩
theorem pe_newK:PE X (.Dict [] [] pos) tNewK:=fun pins s σ H Q I h=>
 wpAny_Dict_empty ⟨.ref s.heap.objs.size,_,I.laid (a:=s.heap.objs.size) (o:=jv s.heap.objs.size [] 0) (t':=s.toks) (fun _ _ q=>Heap.get?_push_of_some _ q) (Nat.le_refl _) (mF (oh s.heap I.big)),rfl,h _ (I.hok.fresh (Nat.le_refl _))⟩
theorem Inv.dic {pins:List (Addr×Obj)} {σ:St} {H:Hp} {s:Shared} {a:Addr} {xs ys:List gJ} {ep ep':Nat} {h':Heap} {t':Nat} (I:Inv X pins σ H s) (e:H a=some (jv a xs ep)) (hs:Heap.SameBut a s.heap h') (z:kT h' a ys ep'):Inv X pins σ (upd H a (jv a ys ep')) {s with heap:=h',toks:=t'}:=
 I.write (x:=a) (e:=a) (by rw [e];exact True.intro) (.inl rfl) (fun c q hc w=>(hs.2 c hc).trans w) (let ⟨_,_,_,_,_,o,_,w,_⟩:=z;⟨o,w⟩) (mF z)
theorem ps_put (hu:X.A.units+1<cLine) (ho:PE X o td) (hi:PE X i ty) (hv:PE X value tv) (hs:swapsWith value (some (.Subscript o i pos')) pos.line X.env=pure false):PS X (.Assign [.Subscript o i pos'] value pos) (sPut X.K td ty tv):=by
 intro pins s σ H D I h
 refine wpAny_Assign_Subscript (thn (hv pins s σ H _ I h) fun r s1 ⟨v,H1,I1,rv,q1⟩=>thn (ho pins s1 σ H1 _ I1 q1) fun u s2 ⟨x,H2,I2,rx,q2⟩=>thn (hi pins s2 σ H2 _ I2 q2) fun iv s3 ⟨y,H3,I3,ry,a,b,k,xs,ep,ex,ey,ea,hk,t,hl,q3⟩=>?_) hs
 subst ex ey
 cases (show u=Value.ref a from rx)
 cases (show iv=Value.ref b from ry)
 obtain ⟨vs,r0,hd,hz,dd⟩:=r6 I3 ea hk
 have hz':vs.length<=sizeLine:=by rw [<- Paired.length r0];exact hz
 refine wpAny_setItem_heap (hsz:=hz') (tupleKind_room_in1 hu) (j4 I3 t) dd fun h' dd' hs'=>?_
 obtain ⟨ep',z⟩:=mG dd' (m7 rv r0) hd (by have:=i9 xs k b v;omega)
 exact ⟨σ,_,I3.dic ea hs' z,q3 ep'⟩
theorem pe_get2 (hu:X.A.units+1<cLine) (ho:PE X o td) (he:PE X e ty) (hf:PE X f tx) (m:M2 X o "get" apos e f cpos):PE X (.Call (.Attribute o "get" apos) [e,f] [] cpos) (tGet2 X.K td ty tx):=by
 intro pins s σ H Q I h
 refine wpAny_Call_method m.base m.few m.line PySem.F.plainAttrs_dict PySem.F.slot_dict_get PySem.F.type_dict_get (thn (ho pins s σ H _ I h) fun u s1 ⟨x,H1,I1,rx,a,xs,ep,ex,ea,q1⟩=>?_)
 subst ex
 cases (show u=Value.ref a from rx)
 obtain ⟨t1,t2⟩:=dic_ty I1 ea
 refine ⟨t1,t2,?_⟩
 rw [m.trees]
 refine Calls.callWith_builtin rfl (Calls.evalArgs_plain (Calls.spliced_cons (thn (he pins s1 σ H1 _ I1 q1) fun iv s2 ⟨y,H2,I2,ry,q2⟩=>
  Calls.spliced_cons (thn (hf pins s2 σ H2 _ I2 q2) fun fv s3 ⟨z,H3,I3,rz,b,k,ey,ea3,hk,t,q3⟩=>Calls.spliced_nil ?_))))
 subst ey
 cases (show iv=Value.ref b from ry)
 obtain ⟨vs,r0,hd,hz,dd⟩:=r6 I3 ea3 hk
 exact call_meetsIn PySem.F.slot_dict_get dd.typeIs PySem.F.entry_dict_get (PySem.F.args_dict_get_3 _ _ _) (meetsH_dict_get_default (f9 X.prog X.w) a b hd fv) ⟨tupleKind_room_in1 hu,k,vs,j4 I3 t,dd,_,H3,I3.tok _,(jx r0).getD rz,q3⟩
theorem op_inK (hu:X.A.units+1<cLine):OpR X (compareOp .In) (rInK X.K false):=by
 intro pins s σ H y x u v Q I ry rx h
 obtain ⟨a,b,k,xs,ep,rfl,rfl,ea,hk,t,q⟩:=h
 cases (show v=Value.ref a from rx)
 cases (show u=Value.ref b from ry)
 obtain ⟨vs,r0,hd,hz,dd⟩:=r6 I ea hk
 refine wpAny_in_heap (tupleKind_room_in1 hu) (j4 I t) hd dd ?_
 have e:=(jx (k:=k) r0).nV
 rw [Option.isSome_map] at e
 exact ⟨_,H,I.tok _,by rw [<- e];exact rfl,q⟩
end
noncomputable def iU:Dat->M (List Int)
 |.tup ds=>bh ds
 |_=>stk
noncomputable def jr (ρ:ae) (i:Nat):M (List (List Int×Dat)):=match ρ[i]? with
 |some (some (.dic ks))=>.ok ks
 |_=>.error .stuck
noncomputable def pk (i:Nat) (fk fv:ae->M Dat):ae->M Flo:=fun ρ=>(fv ρ).bind fun d=>(jr ρ i).bind fun ks=>(fk ρ).bind fun kd=>(iU kd).bind fun k=>if (ig d&&decide (ks.length<sizeLine))=true then .ok (.nx (ρ.set i (some (.dic (gT ks k d))))) else .error .stuck
noncomputable def uY:Dat->Bool
 |.dic _=>true
 |_=>false
noncomputable def sP:Dat->Dat->Dat->M Dat
 |.dic ks,kd,x=>(iU kd).bind fun k=>.ok ((lA ks k).getD x)
 |_,_,_=>stk
noncomputable def nZ (fd fk fx:ae->M Dat):ae->M Dat:=fun ρ=>(fd ρ).bind fun d=>if uY d=true then (fk ρ).bind fun k=>(fx ρ).bind fun x=>sP d k x else stk
noncomputable def inKD:Dat->Dat->M Dat
 |kd,.dic ks=>(iU kd).bind fun k=>.ok (.bl (lA ks k).isSome)
 |_,_=>stk
theorem iL {d:Dat} {e:Err} (h:iU d=.error e):e=.stuck:=by
 cases d with
 |tup ds=>exact cO h
 |_=>cases h;rfl
theorem ke {K:PySem.W.Frag} {F:Hp} {d:Dat} {v:V} {k:List Int} (h:iU d=.ok k) (q:aZ K F d v):∃b,v=.ref b/\SqT K F b (k.map V.int):=by
 cases d with
 |tup ds=>
  obtain ⟨b,xs,e,t,z⟩:=q
  have:=cn z h
  subst this
  exact ⟨b,e,t⟩
 |_=>cases h
section
variable {K:PySem.W.Frag} {W:cy} {ro:Bool} {F0 H0 FB F H:Hp} {OL O:List Nat} {D:Ends} {σ:St} {ρ:ae} {fd fk fx fv:ae->M Dat} {i:Nat} {Q:VK}
theorem r9 {ks:List (List Int×Dat)} (h:jr ρ i=.ok ks):ρ[i]? =some (some (.dic ks)):=by
 unfold jr at h
 split at h
 ·cases h;assumption
 ·cases h
theorem vv {e:Err} (h:jr ρ i=.error e):e=.stuck:=by
 unfold jr at h
 split at h
 ·cases h
 ·cases h;rfl
theorem rs_putD (hi:i∈O) (t:tS K W ro F0 H0 OL O O (pk i fk fv) D σ H):sPut K (kM i) (tD K W false fk) (tD K W false fv) D σ H:=by
 obtain ⟨FB,F,ρ,r,p⟩:=t
 refine aW r.qv r.jT (fun e he=>p.mD (r.freeze (O2:=[]) (by simp)).st (by unfold pk;rw [he];rfl)) fun d hd v F1 H1 s1 q=>?_
 have ez:pk i fk fv ρ=(jr ρ i).bind fun ks=>(fk ρ).bind fun kd=>(iU kd).bind fun k=>if (ig d&&decide (ks.length<sizeLine))=true then .ok (.nx (ρ.set i (some (.dic (gT ks k d))))) else .error .stuck:=by unfold pk;rw [hd];rfl
 rw [ez] at p
 cases hl:jr ρ i with
 |error e=>
  have:=vv hl
  subst this
  exact p.stuck (by rw [hl];rfl)
 |ok ks=>
  rw [hl] at p
  have p:gY K W ro F0 H0 FB OL O D ((fk ρ).bind fun kd=>(iU kd).bind fun k=>if (ig d&&decide (ks.length<sizeLine))=true then .ok (.nx (ρ.set i (some (.dic (gT ks k d))))) else .error .stuck):=p
  have r1:=r.lX s1
  obtain ⟨v3,e2,a,xs,ev,⟨ep,ha⟩,_,_,z⟩:=r1.ow i _ (r9 hl) hi
  subst ev
  refine ⟨.ref a,e2,?_⟩
  refine aW r1.qv r1.jT (fun e he=>p.mD (r1.freeze (O2:=[]) (by simp)).st (by rw [he];rfl)) fun kd hk w F2 H2 s2 q2=>?_
  rw [hk] at p
  have p:gY K W ro F0 H0 FB OL O D ((iU kd).bind fun k=>if (ig d&&decide (ks.length<sizeLine))=true then .ok (.nx (ρ.set i (some (.dic (gT ks k d))))) else .error .stuck):=p
  cases hkk:iU kd with
  |error e=>
   have:=iL hkk
   subst this
   exact p.stuck (by rw [hkk];rfl)
  |ok k=>
   rw [hkk] at p
   have p:gY K W ro F0 H0 FB OL O D (if (ig d&&decide (ks.length<sizeLine))=true then .ok (.nx (ρ.set i (some (.dic (gT ks k d))))) else .error .stuck):=p
   by_cases hf:(ig d&&decide (ks.length<sizeLine))=true
   ·rw [if_pos hf] at p
    simp only [Bool.and_eq_true,decide_eq_true_eq] at hf
    obtain ⟨b,rfl,t⟩:=ke hkk q2
    have r2:=r1.lX s2
    have qd:aZ K (minus F1 (jJ O [] σ ρ)) d v:=aZ.flat (r.minusT s1) hf.1 q
    have z2:=z.mono (r1.kZ s2)
    have t2:=r1.minusT s2 b _ t
    exact ⟨a,b,k,xs,ep,rfl,rfl,s2.hh _ _ ha,z2.key.mono r2.st.fh,r2.st.fh.tup t2,by rw [z.length];exact hf.2,fun ep'=>p σ _ _ (r2.writeO hi (r9 hl) rfl e2 fun f0 h0=>⟨a,_,rfl,⟨ep',ar⟩,f0,h0,z2.put t2 (qd.mono (r1.kZ s2))⟩)⟩
   ·rw [if_neg hf] at p
    exact p.stuck rfl
theorem rd_getD (h:tD K W false (nZ fd fk fx) σ H Q):tGet2 K (tD K W false fd) (tD K W false fk) (tD K W false fx) σ H Q:=by
 obtain ⟨F,ρ,r,s,p⟩:=h
 refine aW r s (fun e he=>p.err (by unfold nZ;rw [he];rfl)) fun d hd x F1 H1 s1 q1=>?_
 have ez:nZ fd fk fx ρ=if uY d=true then (fk ρ).bind fun k=>(fx ρ).bind fun x=>sP d k x else stk:=by unfold nZ;rw [hd];rfl
 rw [ez] at p
 cases d with
 |dic ks=>
  have p:aw K W false F H ((fk ρ).bind fun k=>(fx ρ).bind fun x=>sP (.dic ks) k x) Q:=p
  obtain ⟨a,xs,e,⟨ep,ha⟩,z⟩:=q1
  refine ⟨a,xs,ep,e,s1.fh _ _ ha,?_⟩
  refine aW (r.mono s1.ff) s1.fh (fun e he=>(p.step s1).err (by rw [he];rfl)) fun kd hk y F2 H2 s2 q2=>?_
  rw [hk] at p
  have p:aw K W false F H ((fx ρ).bind fun x=>sP (.dic ks) kd x) Q:=p
  have s12:=s1.trans s2
  refine aW (r.mono s12.ff) s12.fh (fun e he=>(p.step s12).err (by rw [he];rfl)) fun c hc w F3 H3 s3 q3=>?_
  rw [hc] at p
  have p:aw K W false F H ((iU kd).bind fun k=>.ok ((lA ks k).getD c)) Q:=p
  cases hkk:iU kd with
  |error e=>
   rw [hkk] at p
   have:=iL hkk
   subst this
   exact aw.stuck p
  |ok k=>
   rw [hkk] at p
   obtain ⟨b,rfl,t⟩:=ke hkk q2
   have s123:=s12.trans s3
   have z3:=(z.mono s2.ff).mono s3.ff
   refine ⟨b,k,rfl,s3.hh _ _ (s2.hh _ _ (s1.fh _ _ ha)),z3.key.mono s3.fh,s3.fh.tup (s3.ff.tup t),p _ F3 H3 s123 ?_⟩
   show aZ K F3 _ _
   rcases z3.at (k:=k) with ⟨e1,e2⟩|⟨d,v,e1,e2,q⟩
   ·rw [e1,e2];exact q3
   ·rw [e1,e2];exact q
 |_=>exact aw.stuck p
end
theorem rInK_D {K:PySem.W.Frag} {W:cy} {neg:Bool} {g:Dat->Dat->M Dat} (hg:∀kd ks,g kd (.dic ks)=(iU kd).bind fun k=>.ok (.bl (if neg=true then !(lA ks k).isSome else (lA ks k).isSome))) (hn:∀a b,uY b=false->g a b=stk) {x y:V} {H:Hp} {Q:VK} (h:rD2 K W false g x y H Q):rInK K neg x y H Q:=by
 obtain ⟨F,a,b,s1,qa,qb,p⟩:=h
 cases b with
 |dic ks=>
  rw [hg] at p
  cases hkk:iU a with
  |error e=>
   rw [hkk] at p
   have:=iL hkk
   subst this
   exact aw.stuck p
  |ok k=>
   rw [hkk] at p
   obtain ⟨c,rfl,t⟩:=ke hkk qa
   obtain ⟨d,xs,rfl,⟨ep,ha⟩,z⟩:=qb
   refine ⟨d,c,k,xs,ep,rfl,rfl,s1 _ _ ha,z.key.mono s1,s1.tup t,?_⟩
   rw [z.isSome]
   exact p _ F H (Step.refl s1) rfl
 |_=>rw [hn _ _ rfl] at p;exact aw.stuck p
section
variable {X:Cx} {K:PySem.W.Frag} {W:cy} {ro:Bool} {OL O:List Nat} {o ek ex ev:Expr} {x:Str} {fd fk fx fv:ae->M Dat} {pos pos' apos cpos p:Pos} {i:Nat}
theorem de_newK:DE K W true X (.Dict [] [] pos) (fC (.dic [])):=pe_newK.imp fun σ H Q h=>by
 obtain ⟨F,ρ,r,s,q⟩:=h
 exact fun a ha=>q (.ref a) F _ (Step.grow s ha) ⟨a,[],rfl,⟨0,ar⟩,s.free ha,ha,rfl⟩
theorem de_getD (hu:X.A.units+64<cLine) (ho:DE K W false X o fd) (he:DE K W false X ek fk) (hf:DE K W false X ex fx) (hK:X.K=K:=by rfl)
  (hb:attributeBase o "get" X.env (eval o X.env)=eval o X.env:=by rfl)
  (hw:((backTo cpos (starEach [ek,ex] X.env)).all (fun x=> !x.1)&&(backToKw cpos (keywordEach [] X.env)).all (fun x=>x.1.isSome)&&decide (([ek,ex]:List Expr).length+([]:List Keyword).length+(if ([]:List Keyword).isEmpty then 0 else 1)<30))=true:=by rfl)
  (hl:(apos.endLine==cpos.line)=true:=by rfl) (ht:backTo cpos (starEach [ek,ex] X.env)=[(false,eval ek X.env),(false,eval ex X.env)]:=by rfl):DE K W false X (.Call (.Attribute o "get" apos) [ek,ex] [] cpos) (nZ fd fk fx):=by
 subst hK
 exact (pe_get2 (by omega) ho he hf ⟨hb,hw,hl,ht⟩).imp fun _ _ _=>rd_getD
theorem o_inK (hu:X.A.units+64<cLine) (hK:X.K=K:=by rfl):Op2 K W false X (compareOp .In) inKD:=by
 subst hK
 exact (op_inK (by omega)).imp fun x y H Q h=>rInK_D (neg:=false) (fun _ _=>rfl) (fun a b e=>by cases b<;>first|rfl|cases e) h
theorem ds_putD (hu:X.A.units+64<cLine) (hk:DE K W false X ek fk) (he:DE K W false X ev fv) (ho:i∈O:=by decide) (hN:X.N[i]? =some x:=by rfl) (hv:Vis X.env.scope x:=by first|exact Or.inl rfl|exact Or.inr (Or.inl rfl)|exact Or.inr (Or.inr rfl)) (hd:(x==("__debug__":Str))=false:=by decide) (hcd:(x==("__classdict__":Str))=false:=by decide) (hK:X.K=K:=by rfl)
  (hs:swapsWith ev (some (.Subscript (.Name x p) ek pos')) pos.line X.env=pure false:=by rfl):DS K W ro X OL O O (.Assign [.Subscript (.Name x p) ek pos'] ev pos) (pk i fk fv):=fun F0 H0=>by
 subst hK
 exact PS.imp (ps_put (by omega) (pv i hN hv hd hcd) hk he hs) fun _ _ _=>rs_putD ho
end
end L2
namespace L2
open PySem PySem.Spec PyProof.Rows
noncomputable def tDisp1 (K:PySem.W.Frag) (ty tv:TE):TE:=fun σ H Q=>∀p,H p=none->tQ [(ty,tv)] σ (upd H p (jv p [] 0)) fun ps H2=>∃b k v,ps=[(.ref b,v)]/\H2 p=some (jv p [] 0)/\SqT K H2 b (k.map V.int)/\∀ep,Q (.ref p) (upd H2 p (jv p [(k,b,v)] ep))
section
variable {X:Cx} {e f:Expr} {pos:Pos} {ty tv:TE}
theorem pe_disp1 (hu:X.A.units<cLine) (hk:PE X e ty) (hv:PE X f tv):PE X (.Dict [some e] [f] pos) (tDisp1 X.K ty tv):=by
 intro pins s σ H Q I q
 have hn:=I.hok.fresh (Nat.le_refl s.heap.objs.size)
 have I1:=I.laid (a:=s.heap.objs.size) (o:=jv s.heap.objs.size [] 0) (h':=s.heap.push {cls:=.type "dict",data:=.dict #[]}) (t':=s.toks) (fun _ _ q=>Heap.get?_push_of_some _ q) (Nat.le_refl _) (mF (oh s.heap I.big))
 refine wpAny_Dict_any rfl rfl (by simp) (by simp) (thn (pps_cons hk hv pps_nil pins _ σ _ _ I1 (q _ hn)) fun ws s2 ⟨ps,H2,I2,rel,b,k,v,ep,e2,t,q2⟩=>?_)
 subst ep
 cases rel with
 |@cons x y xs ys r rs=>
  cases rs
  obtain ⟨ub,uv⟩:=y
  obtain ⟨rb,rv⟩:=r
  cases (show ub=Value.ref b from rb)
  obtain ⟨vs,r0,hd,hz,dd⟩:=r6 I2 e2 (fun x hx=>nomatch hx)
  cases r0
  unfold storeAll
  rw [List.forIn_cons]
  refine wpAny_bind (wpAny_bind (wpAny_dictSet_heap (hsz:=Nat.zero_le _) (knd:=f9 X.prog X.w) hu (j4 I2 t) dd fun h' dd' hs'=>wpAny_pure ?_))
  show wpAny _ _ (forIn [] PUnit.unit _) _ _ _
  rw [List.forIn_nil]
  obtain ⟨ep',z⟩:=mG dd' (m7 (xs:=[]) rv .nil) hd (Nat.le_trans (i9 _ _ _ _) (show 1<=sizeLine by decide))
  exact wpAny_pure ⟨.ref s.heap.objs.size,_,I2.dic e2 hs' z,rfl,q2 ep'⟩
end
noncomputable def mkD1 (kd d:Dat):M Dat:=(iU kd).bind fun k=>.ok (.dic [(k,d)])
theorem rd_disp1 {K:PySem.W.Frag} {W:cy} {σ:St} {H:Hp} {Q:VK} {fa fb:ae->M Dat} (h:tD K W true (f2 mkD1 fa fb) σ H Q):tDisp1 K (tD K W false fa) (tD K W false fb) σ H Q:=by
 obtain ⟨F,ρ,r,s,p⟩:=h
 intro a ha
 have sg:Step F H F (upd H a (jv a [] 0)):=Step.grow s ha
 refine aW r sg.fh (fun e he=>(p.step sg).err (by unfold f2;rw [he];rfl)) fun kd hk x F1 H1 s1 q1=>?_
 have s01:=sg.trans s1
 refine aW (r.mono s1.ff) s1.fh (fun e he=>(p.step s01).err (by unfold f2;rw [hk];show (fb ρ).bind _=_;rw [he];rfl)) fun d hd v F2 H2 s2 q2=>?_
 have e:f2 mkD1 fa fb ρ=(iU kd).bind fun k=>.ok (.dic [(k,d)]):=by unfold f2;rw [hk];show (fb ρ).bind _=_;rw [hd];rfl
 rw [e] at p
 cases hkk:iU kd with
 |error e=>
  rw [hkk] at p
  have:=iL hkk
  subst this
  exact aw.stuck p
 |ok k=>
  rw [hkk] at p
  obtain ⟨b,rfl,t⟩:=ke hkk q1
  have h2:H2 a=some (jv a [] 0):=s2.hh _ _ (s1.hh _ _ ar)
  have f2:F2 a=none:=by
   cases e2:F2 a with
   |none=>rfl
   |some o=>
    rcases s2.nw a o e2 with z|z
    ·rcases s1.nw a o z with z|z
     ·rw [s.free ha] at z;cases z
     ·rw [ar] at z;cases z
    ·rw [s1.hh _ _ ar] at z;cases z
  refine ⟨b,k,v,rfl,h2,s2.fh.tup (s2.ff.tup t),fun ep=>p (.ref a) F2 _ ⟨s1.ff.trans s2.ff,fun c o z=>?_,fun c o z=>?_,fun c o z=>?_⟩ ⟨a,_,rfl,⟨ep,ar⟩,f2,ha,b,v,[],rfl,s2.ff.tup t,q2,rfl⟩⟩
  ·rw [aq (au z ha)];exact s2.hh _ _ (s1.hh _ _ (by rw [aq (au z ha)];exact z))
  ·rw [aq (au z f2)];exact s2.fh _ _ z
  ·exact (sg.trans (s1.trans s2)).nw c o z
theorem de_disp1 {X:Cx} {K:PySem.W.Frag} {W:cy} {e f:Expr} {pos:Pos} {fa fb:ae->M Dat} (hu:X.A.units+64<cLine) (ha:DE K W false X e fa) (hb:DE K W false X f fb) (hK:X.K=K:=by rfl):DE K W true X (.Dict [some e] [f] pos) (f2 mkD1 fa fb):=by
 subst hK
 exact (pe_disp1 (by omega) ha hb).imp fun _ _ _=>rd_disp1
end L2
namespace L2
open PySem PySem.Spec PyProof.Rows
noncomputable def vS (h:Heap) (d:Addr) (es:Array DictEntry) (ep:Nat):Prop:=∃o,h.get? d=some o/\o.ExactDict/\o.data=.dict es ep
theorem vS.ty {s:Shared} {d:Addr} {es:Array DictEntry} {ep:Nat} (z:vS s.heap d es ep):s.TypeIs (.ref d) "dict":=let ⟨o,h,c,_⟩:=z;⟨o,h,c.1⟩
theorem vS.at {h h':Heap} {d:Addr} {es:Array DictEntry} {ep:Nat} (z:vS h d es ep) (e:∀o,h.get? d=some o->h'.get? d=some o):vS h' d es ep:=let ⟨o,h,c⟩:=z;⟨o,e o h,c⟩
section
variable {prog:Program} {w:World} {A:Around} {E:Value->Shared->Prop} {s:Shared} {d v q:Addr} {es:Array DictEntry} {ep i:Nat}
theorem sv (d:Addr) (es:Array DictEntry) (ep:Nat) (hd:(d==sysModules)=false):MeetsIn prog w (Builtin.«dict.values» ⟨[.ref d],[]⟩) (fun _ R s=>vS s.heap d es ep/\R (.ok (.ret (.ref s.heap.objs.size))) {s with heap:=s.heap.push {cls:=.type "dict_values",data:=.fields #[.ref d]}}):=
 .of_wp fun A R s ⟨z,h⟩=>by
  have sh:Builtin.Dict.showsAll d=pure ():=by unfold Builtin.Dict.showsAll;rw [hd];rfl
  refine wpAny_bind ?_;unfold Builtin.Dict.noArgs
  refine wpAny_bind (wpAny_notOrdered_dict z.ty ?_);show wpAny _ _ (pure d) _ _ s
  refine wpAny_pure ?_;show wpAny _ _ (Builtin.Dict.showsAll d >>= _) _ _ s;rw [sh]
  exact wpAny_bind (wpAny_pure (wpAny_bind (wpAny_newObj_type (wpAny_pure ⟨_,rfl,h⟩))))
theorem sI {Q:Value->Shared->Prop} (hv:s.heap.IsValuesView v d) (z:vS s.heap d es ep) (k:Q (.ref s.heap.objs.size) {s with heap:=s.heap.push {cls:=.type "dict_valueiterator",data:=.fields #[.ref d,.int 0 0,.int es.size 0,.int ep 0]}}):wpAny (model prog w) A (pyIter (.ref v)) Q E s:=by
 obtain ⟨ov,v1,v2,v3⟩:=id hv
 obtain ⟨od,d1,d2,d3⟩:=z
 refine wpAny_pyIter_slot hv.typeIs PySem.F.slot_dict_values_iter (wpAny_call_entry PySem.F.slot_dict_values_iter hv.typeIs PySem.F.entry_dict_values_iter ?_ (PySem.F.args_dict_values_iter_1 _))
 unfold Builtin.«dict_values.__iter__»;refine wpAny_bind (wpAny_pure (wpAny_bind ?_));unfold Builtin.Dict_items.dictOf
 refine wpAny_bind (wpAny_field v1 v3 (x:=.ref d) rfl (wpAny_pure (wpAny_bind ?_)));unfold Builtin.Dict_items.newIterator
 refine wpAny_bind (wpAny_dictEntries d1 d3 (wpAny_bind (wpAny_dictEpoch d1 d3 ?_)))
 simp only [show Builtin.Dict_items.ownsTuple "dict_valueiterator"=false by decide,Bool.false_eq_true,if_false]
 exact wpAny_newObj_type (wpAny_pure ⟨_,rfl,"dict_valueiterator",_,⟨_,Heap.get?_push_size _ rfl,rfl⟩,PySem.F.slot_dict_valueiterator_next.lookup,by simpa [rawInt] using k⟩)
theorem sr {e:DictEntry} {Q:Option Value->Shared->Prop} (hq:s.heap.IsValIter q d i es.size ep) (z:vS s.heap d es ep) (he:es[i]? =some e) (k:∀h',h'.IsValIter q d (i+1) es.size ep->Heap.SameBut q s.heap h'->Q (some e.val) {s with heap:=h'}):wpAny (model prog w) A (pyNext (.ref q)) Q E s:=by
 obtain ⟨oq,q1,q2,q3⟩:=id hq
 obtain ⟨od,d1,d2,d3⟩:=z
 unfold pyNext
 refine wpAny_bind (wpAny_attempt (wpAny_callSpecial?_slot (name:=Str.ofString "__next__") hq.typeIs PySem.F.slot_dict_valueiterator_next (wpAny_call_entry PySem.F.slot_dict_valueiterator_next hq.typeIs PySem.F.entry_dict_valueiterator_next ?_ (PySem.F.args_dict_valueiterator_next_1 _))))
 refine wpAny_bind (wpAny_pure (wpAny_bind (wpAny_bind (wpAny_bind (wpAny_typeNameOfWhole_valiter hq.typeIs (wpAny_pure ?_))))))
 refine wpAny_bind (wpAny_fieldsOf q1 q3 ?_);simp only [show Builtin.Dict_items.ownsTuple "dict_valueiterator"=false by decide,Bool.false_eq_true,if_false]
 show wpAny _ _ (if (Value.ref d==Value.none)=true then _ else _) _ _ s;rw [if_neg (show ¬((Value.ref d==Value.none)=true) from Bool.false_ne_true)]
 refine wpAny_bind (wpAny_pure (wpAny_bind (wpAny_dictEntries d1 d3 ?_)));rw [if_neg (by simp)]
 refine wpAny_bind (wpAny_pure (wpAny_bind (wpAny_dictEpoch d1 d3 ?_)));rw [if_neg (by simp)]
 refine wpAny_pure ?_;simp only [show ¬((i:Int)<0) from by omega,if_false,Int.toNat_natCast,he]
 refine wpAny_bind (wpAny_bind (wpAny_typeNameOfWhole_valiter hq.typeIs (wpAny_pure (wpAny_bind (wpAny_isOneOf_valiter hq.typeIs ?_)))))
 show wpAny _ _ (setField (.ref q) 1 (rawInt ((i:Int)+1)) >>= _) _ _ s;refine wpAny_bind (wpAny_setField q1 q3 (by simp) ?_)
 have hn:(s.heap.update q (Obj.mapFields (·.setIfInBounds 1 (rawInt ((i:Int)+1))))).IsValIter q d (i+1) es.size ep:=⟨_,Heap.get?_update_self _ q1 (Obj.isFreed_of_fields (Obj.data_mapFields q3 _)),(Obj.cls_mapFields ..).trans q2,by rw [Obj.data_mapFields q3];simp [rawInt]⟩
 have ht:Shared.TypeIs {s with heap:=s.heap.update q (Obj.mapFields (·.setIfInBounds 1 (rawInt ((i:Int)+1))))} (.ref q) "dict_valueiterator":=hn.typeIs
 refine wpAny_bind (wpAny_holding (wpAny_bind (wpAny_isOneOf_valiter ht (wpAny_bind (wpAny_isOneOf_valiter ht ?_)))))
 show wpAny _ _ (pure e.val) _ _ _;exact wpAny_pure (wpAny_pure ⟨_,rfl,wpAny_pure (k _ hn (Heap.SameBut.update ..))⟩)
theorem vk {Q:Option Value->Shared->Prop} (hh:A.handled=none) (hq:s.heap.IsValIter q d i es.size ep) (z:vS s.heap d es ep) (he:es.size<=i) (k:∀h',Heap.ExtBut q s.heap h'->Q none {s with heap:=h'}):wpAny (model prog w) A (pyNext (.ref q)) Q E s:=by
 obtain ⟨oq,q1,q2,q3⟩:=id hq
 obtain ⟨od,d1,d2,d3⟩:=z
 unfold pyNext
 refine wpAny_bind (wpAny_attempt (wpAny_callSpecial?_slot (name:=Str.ofString "__next__") hq.typeIs PySem.F.slot_dict_valueiterator_next (wpAny_call_entry PySem.F.slot_dict_valueiterator_next hq.typeIs PySem.F.entry_dict_valueiterator_next ?_ (PySem.F.args_dict_valueiterator_next_1 _))))
 refine wpAny_bind (wpAny_pure (wpAny_bind (wpAny_bind (wpAny_bind (wpAny_typeNameOfWhole_valiter hq.typeIs (wpAny_pure ?_))))))
 refine wpAny_bind (wpAny_fieldsOf q1 q3 ?_);simp only [show Builtin.Dict_items.ownsTuple "dict_valueiterator"=false by decide,Bool.false_eq_true,if_false]
 show wpAny _ _ (if (Value.ref d==Value.none)=true then _ else _) _ _ s;rw [if_neg (show ¬((Value.ref d==Value.none)=true) from Bool.false_ne_true)]
 refine wpAny_bind (wpAny_pure (wpAny_bind (wpAny_dictEntries d1 d3 ?_)));rw [if_neg (by simp)]
 refine wpAny_bind (wpAny_pure (wpAny_bind (wpAny_dictEpoch d1 d3 ?_)));rw [if_neg (by simp)]
 refine wpAny_pure ?_;simp only [show ¬((i:Int)<0) from by omega,if_false,Int.toNat_natCast,Array.getElem?_eq_none he]
 refine wpAny_bind (wpAny_bind (wpAny_typeNameOfWhole_valiter hq.typeIs (wpAny_pure ?_)))
 show wpAny _ _ (setField (.ref q) 0 .none >>= _) _ _ s;refine wpAny_bind (wpAny_setField q1 q3 (by simp) ?_)
 show wpAny _ _ (newExc (.type "StopIteration") [] >>= _) _ _ _;refine wpAny_bind ?_;simp only [newExc,newTuple]
 refine wpAny_bind (wpAny_newObj_type (wpAny_bind (m:=firstArgMember _ _) (wpAny_of_eq (a:=Value.none) (by first|rfl|(simp only [firstArgMember];rfl)) (wpAny_newObj_type ?_ (by size_fits)))) (by size_fits));simp only [raiseNew]
 refine wpAny_bind (wpAny_handled ?_);first|rw [show A.in1.handled=none from hh]|rw [hh]
 refine wpAny_bind (wpAny_pure (wpAny_throw ?_));refine wpAny_bind (wpAny_isInstance (T:="StopIteration") (b:=true) ⟨_,Heap.get?_push_size _ rfl,rfl⟩ isSubtype_stop ?_);exact wpAny_pure (k _ (((Heap.SameBut.update ..).extBut.push _).push _))
end
end L2
namespace L2
open PySem PySem.Spec PyProof.Rows
noncomputable def VwO (T:String) (p d:Addr):HO:=.ext fun h=>∃o,h.get? p=some o/\o.cls=.type T/\o.data=.fields #[.ref d]
theorem vw_obj {P:Program} {w:World} {H:Hp} {h:Heap} {T:String} {p d:Addr} (z:∃o,h.get? p=some o/\o.cls=.type T/\o.data=.fields #[.ref d]):cA P w H h p (VwO T p d):=⟨z,let ⟨o,e,_⟩:=z;⟨o,e⟩,fun _ _ ⟨o,e,r⟩ k=>⟨o,k o e,r⟩⟩
noncomputable def tView (T:String) (td:TE):TE:=fun σ H Q=>td σ H fun x H1=>∃a xs ep,x=.ref a/\H1 a=some (jv a xs ep)/\∀p,H1 p=none->Q (.ref p) (upd H1 p (VwO T p a))
noncomputable def rSumV:List V->Hp->VK->Prop:=fun vs H Q=>∃(p a:Addr) (xs:List gJ) (ep:Nat) (is:List Int),vs=[.ref p]/\H p=some (VwO "dict_values" p a)/\H a=some (jv a xs ep)/\xs.map (·.2.2)=is.map V.int/\Q (.int is.sum) H
theorem uc:∀{xs:List gJ} {vs:List (List Int×Addr×Value)} {i:Nat} {e:DictEntry},Paired eP xs vs->(vs.map rowE)[i]? =some e->∃x,xs[i]? =some x/\e.key=.ref x.2.1/\RelV x.2.2 e.val
 |_,_,_,_,.nil,h=>by simp at h
 |x::_,q::_,0,e,.cons r _,h=>by
  simp only [List.map_cons,List.getElem?_cons_zero,Option.some.injEq] at h
  subst h
  exact ⟨x,rfl,by rw [r.2.1];rfl,r.2.2⟩
 |_::_,_::_,i+1,e,.cons _ t,h=>by
  obtain ⟨x,h1,h2⟩:=uc (i:=i) (e:=e) t (by simpa using h)
  exact ⟨x,by simpa using h1,h2⟩
theorem pre_sum:∀is:List Int,preSum (fun i=>(is[i]?).getD 0) is.length=is.sum:=by
 have key:∀(is:List Int) (n:Nat),n<=is.length->preSum (fun i=>(is[i]?).getD 0) n=(is.take n).sum:=by
  intro is n
  induction n with
  |zero=>intro _;rfl
  |succ n ih=>
   intro h
   have hn:n<is.length:=h
   rw [preSum,ih (Nat.le_of_succ_le h),List.take_succ,List.sum_append]
   simp [List.getElem?_eq_getElem hn]
 intro is
 rw [key is _ (Nat.le_refl _),List.take_length]
section
variable {prog:Program} {w:World} {A:Around}
theorem rN (hh:A.handled=none) (q d:Addr) (hne:d≠q) (es:Array DictEntry) (ep:Nat):Walks prog w A q [q,d] [q] es.size (fun i v=>∃e,es[i]? =some e/\v=e.val) (fun i h=>h.IsValIter q d i es.size ep/\vS h d es ep) where
 sub:=fun b hb=>by simp at hb;simp [hb]
 frame:=fun _ _ _ st k=>⟨let ⟨o,e,r⟩:=st.1;⟨o,k q (by simp) o e,r⟩,st.2.at fun o e=>k d (by simp) o e⟩
 item:=fun i s Q E hi st k=>sr st.1 st.2 (e:=es[i]) (by simp [hi]) fun h' z b=>k _ h' s.toks ⟨_,by simp [hi],rfl⟩ ⟨z,st.2.at fun o e=>(b.2 d hne).trans e⟩ fun c o hc e=>b.extBut c o (fun z=>hc (by simp [z])) e
 done:=fun s Q E st k=>vk hh st.1 st.2 (Nat.le_refl _) fun h' b=>k h' s.toks fun c o hc e=>b c o (fun z=>hc (by simp [z])) e
 self:=fun _ _ _ _ st k=>wpAny_pyIter_valiter st.1 k
end
section
variable {X:Cx} {pins:List (Addr×Obj)} {σ:St} {H:Hp} {s:Shared} {a:Addr} {xs:List gJ} {ep:Nat} {o:Expr} {apos cpos:Pos} {td:TE}
theorem raw_of (I:Inv X pins σ H s) (e:H a=some (jv a xs ep)):∃(vs:List (List Int×Addr×Value)) (es:Array DictEntry),Paired eP xs vs/\(a==sysModules)=false/\xs.length<=sizeLine/\vS s.heap a es ep/\es.toList=vs.map rowE/\es.size=xs.length:=by
 obtain ⟨vs,r,hd,hl,hn,u,es,h1,h2,h3,h4⟩:=qZ I e
 exact ⟨vs,es,r,hd,hl,⟨u,h1,h2,h3⟩,h4,by rw [<- Array.length_toList,h4,List.length_map,Paired.length r]⟩
theorem pe_vals (ho:PE X o td) (hb:attributeBase o "values" X.env (eval o X.env)=eval o X.env:=by rfl) (hl:(apos.endLine==cpos.line)=true:=by rfl):PE X (.Call (.Attribute o "values" apos) [] [] cpos) (tView "dict_values" td):=by
 intro pins s σ H Q I h
 refine wpAny_Call_method0_late hb hl (thn (ho pins s σ H _ I h) fun v s1 ⟨x,H1,I1,r1,a,xs,ep,ex,ea,q1⟩=>?_)
 subst ex
 cases (show v=Value.ref a from r1)
 obtain ⟨t1,t2⟩:=dic_ty I1 ea
 obtain ⟨vs,es,_,hd,_,z,_⟩:=raw_of I1 ea
 exact ⟨"dict","dict.values",PySem.F.plainAttrs_dict,PySem.F.slot_dict_values,PySem.F.type_dict_values,t1,t2,Calls.callWith_builtin rfl (PySem.evalArgs_none (call_meetsIn PySem.F.slot_dict_values t1 PySem.F.entry_dict_values (PySem.F.args_dict_values_1 _) (sv a es ep hd)
  ⟨z,.ref s1.heap.objs.size,_,I1.laid (a:=s1.heap.objs.size) (o:=VwO "dict_values" s1.heap.objs.size a) (t':=s1.toks) (fun _ _ q=>Heap.get?_push_of_some _ q) (Nat.le_refl _) (vw_obj ⟨_,Heap.get?_push_size _ rfl,rfl,rfl⟩),rfl,q1 _ (I1.hok.fresh (Nat.le_refl _))⟩))⟩
theorem vC (hc:X.calm=true):bB X (.builtin "sum") rSumV:=by
 intro pins s σ H vs us Q I r h
 obtain ⟨p,a,xs,ep,is,rfl,hp,ha,hi,q⟩:=h
 obtain ⟨u,rfl,ru⟩:=r.one
 cases (show u=Value.ref p from ru)
 obtain ⟨vs,es,rr,hd,hz,z,he,hsz⟩:=raw_of I ha
 have hv:s.heap.IsValuesView p a:=(show (∃o,s.heap.get? p=some o/\o.cls=.type "dict_values"/\o.data=.fields #[.ref a])/\_ from I.hok p _ hp).1
 have la:a<s.heap.objs.size:=let ⟨o,e,_⟩:=z;Heap.lt_size e
 have hl:is.length=es.size:=by rw [hsz,<- List.length_map (f:=fun x:gJ=>x.2.2),hi,List.length_map]
 refine call_sum_walkAnyS (sI hv z ⟨_,_,_,_,_,_,_,fun i=>(is[i]?).getD 0,rfl,(rN (A:=X.A.in1) (I.ok.hd hc) s.heap.objs.size a (Nat.ne_of_lt la) es ep).toS,⟨⟨_,Heap.get?_push_size _ rfl,rfl,rfl⟩,z.at fun o e=>Heap.get?_push_of_some _ e⟩,fun b hb=>?_,fun i v hP=>?_,fun s' t' hm=>?_⟩)
 ·show b<(s.heap.push _).objs.size
  rw [Heap.size_push]
  simp only [List.mem_cons,List.not_mem_nil,or_false] at hb
  rcases hb with rfl|rfl
  ·exact Nat.lt_succ_self _
  ·exact Nat.lt_succ_of_lt la
 ·obtain ⟨e,h1,rfl⟩:=hP
  obtain ⟨x,h2,_,h3⟩:=uc (i:=i) (e:=e) rr (by rw [<- he];simpa using h1)
  have h4:(xs.map (·.2.2))[i]? =some x.2.2:=by rw [List.getElem?_map,h2];rfl
  rw [hi,List.getElem?_map] at h4
  cases h5:is[i]? with
  |none=>rw [h5] at h4;cases h4
  |some j=>
   rw [h5] at h4
   have e4:V.int j=x.2.2:=by simpa using h4
   rw [<- e4] at h3
   obtain ⟨t,e⟩:=(show ∃t,e.val=Value.int j t from h3)
   exact ⟨t,by simp only [h5];exact e⟩
 ·obtain ⟨h',g',d',tk',os'⟩:=s'
  have e1:=hm.gens
  have e2:=hm.drawn
  have e3:=hm.os
  have e4:=hm.heap
  simp only at e1 e2 e3
  subst e1 e2 e3
  refine ⟨.int _,H,I.kept (t':=tk') fun b o e=>e4 b o (fun hb=>?_) (Heap.get?_push_of_some _ e),⟨t',rfl⟩,?_⟩
  ·have:b=s.heap.objs.size:=by simpa using hb
   exact absurd (Heap.lt_size e) (by rw [this];exact Nat.lt_irrefl _)
  ·rw [<- hl,pre_sum]
   exact q
end
noncomputable def rS:Dat->M Dat
 |.dic ks=>(bh (ks.map (·.2))).bind fun is=>.ok (.int is.sum)
 |_=>stk
theorem bx.vals {K:PySem.W.Frag} {F:Hp}:∀{ks:List (List Int×Dat)} {xs:List gJ},bx K F ks xs->ak K F (ks.map (·.2)) (xs.map (·.2.2))
 |[],_,h=>by rw [show _=[] from h];rfl
 |(k,d)::ks,_,⟨b,v,r,e,t,q,z⟩=>by subst e;exact ⟨v,_,rfl,q,bx.vals z⟩
section
variable {K:PySem.W.Frag} {W:cy} {σ:St} {H:Hp} {fd:ae->M Dat}
theorem rd_sumV {Q:VK} (h:tD K W false (f1 rS fd) σ H Q):tCB rSumV (fS (tView "dict_values" (tD K W false fd)) oO) σ H Q:=by
 obtain ⟨F,ρ,r,s,p⟩:=h
 refine aW r s (fun e he=>p.err (by unfold f1;rw [he];rfl)) fun d hd x F1 H1 s1 q1=>?_
 have z:f1 rS fd ρ=rS d:=by unfold f1;rw [hd];rfl
 rw [z] at p
 cases d with
 |dic ks=>
  obtain ⟨a,xs,e,⟨ep,ha⟩,zk⟩:=q1
  have p:aw K W false F H ((bh (ks.map (·.2))).bind fun is=>.ok (.int is.sum)) Q:=p
  cases hi:bh (ks.map (·.2)) with
  |error e=>
   rw [hi] at p
   have:=cO hi
   subst this
   exact aw.stuck p
  |ok is=>
   rw [hi] at p
   exact ⟨a,xs,ep,e,s1.fh _ _ ha,fun v hv=>⟨v,a,xs,ep,is,rfl,ar,by rw [aq (au (s1.fh _ _ ha) hv)];exact s1.fh _ _ ha,cn zk.vals hi,p (.int is.sum) F1 _ (s1.trans (Step.grow s1.fh hv)) rfl⟩⟩
 |_=>exact aw.stuck p
end
section
variable {X:Cx} {K:PySem.W.Frag} {W:cy} {o:Expr} {fd:ae->M Dat} {pos p apos cpos:Pos}
theorem de_sumV (hc:X.calm=true) (hm:X.mg "sum"=none) (hl:DE K W false X o fd) (hb:attributeBase o "values" X.env (eval o X.env)=eval o X.env:=by rfl) (hn:(apos.endLine==cpos.line)=true:=by rfl) (hg:Gl X "sum":=by rfl)
  (hst:starEach [.Call (.Attribute o "values" apos) [] [] cpos] X.env=(false,eval (.Call (.Attribute o "values" apos) [] [] cpos) X.env)::starEach [] X.env:=by rfl) (hpl:(backTo pos (starEach [] X.env)).any (·.1)=false:=by rfl) :
  DE K W false X (.Call (.Name "sum" p) [.Call (.Attribute o "values" apos) [] [] cpos] [] pos) (f1 rS fd):=
 (dh (vC hc) hg hm boot_sum (aF (pe_vals hl hb hn) cj hst) (by decide) (by decide) hst hpl).imp fun _ _ _=>rd_sumV
end
end L2
namespace L2
open PySem PySem.Spec PyProof.Rows
section
variable {ρ:ae} {fd fk fx fv:ae->M Dat}
@[simp] theorem e_getD:nZ fd fk fx ρ=(fd ρ).bind fun d=>if uY d=true then (fk ρ).bind fun k=>(fx ρ).bind fun x=>sP d k x else stk:=id rfl
@[simp] theorem e_isDic (ks:List (List Int×Dat)):uY (.dic ks)=true:=id rfl
@[simp] theorem e_getDD (ks:List (List Int×Dat)) (kd x:Dat):sP (.dic ks) kd x=(iU kd).bind fun k=>.ok ((lA ks k).getD x):=id rfl
@[simp] theorem qX (k:List Int):iU (.tup (k.map .int))=.ok k:=cq k
@[simp] theorem e_keyD0:iU (.tup [])=.ok []:=id rfl
@[simp] theorem vp (kd:Dat) (ks:List (List Int×Dat)):inKD kd (.dic ks)=(iU kd).bind fun k=>.ok (.bl (lA ks k).isSome):=id rfl
@[simp] theorem e_putD (i:Nat):pk i fk fv ρ=(fv ρ).bind fun d=>(jr ρ i).bind fun ks=>(fk ρ).bind fun kd=>(iU kd).bind fun k=>if (ig d&&decide (ks.length<sizeLine))=true then .ok (.nx (ρ.set i (some (.dic (gT ks k d))))) else .error .stuck:=id rfl
@[simp] theorem e_dicAt0 (ks:List (List Int×Dat)) (r:ae):jr (some (.dic ks)::r) 0=.ok ks:=id rfl
@[simp] theorem e_dicAtS (o:Option Dat) (r:ae) (i:Nat):jr (o::r) (i+1)=jr r i:=by simp [jr]
@[simp] theorem e_sumVD (ks:List (List Int×Dat)):rS (.dic ks)=(bh (ks.map (·.2))).bind fun is=>.ok (.int is.sum):=id rfl
@[simp] theorem e_mkD1 (kd d:Dat):mkD1 kd d=(iU kd).bind fun k=>.ok (.dic [(k,d)]):=id rfl
end
end L2
namespace L2
open PySem PySem.Spec PyProof.Rows
section
open PySem
variable {prog:Program} {w:World} {A:Around} {E:Value->Shared->Prop}
theorem uI:typeLookup (.type "list") "keys"=pure none:=am_miss_of_fast (by kernel_rfl)
theorem no_keys {hp:Heap} {g:Array GenState} {d:Drawn} {tk:Nat} {os:OsState} {a:Addr} {xs:Array Value} {n:Nat} {sl:Array (Option Value)} {Q:Option Value->Shared->Prop} (hx:hp.get? a=some {cls:=.type "list",dict:=none,data:=.seq xs n,slots:=sl}) (hA:A.handled=none)
  (k:∀h' tk',(∀b ob,hp.get? b=some ob->h'.get? b=some ob)->Q none ⟨h',g,d,tk',os⟩):wpAny (model prog w) A (getAttr? (.ref a) "keys") Q E ⟨hp,g,d,tk,os⟩:=by
 have ty:∀t,(⟨hp,g,d,t,os⟩:Shared).TypeIs (.ref a) "list":=fun _=>⟨_,hx,rfl⟩
 have q1:=sub_AttributeError
 have q2:=F.slot_list_getattribute.lookup
 have q3:=F.slot_list_getattribute.bind (.ref a)
 have q4:=am_list_getattr_none
 unfold getAttr? getAttrBy? getAttrBy
 repeat (any_goals (first|assumption|exact ty _|((with_reducible show wpAny _ _ (call (Value.builtin "list.__getattribute__") _ _) _ _ _);refine call_meets F.slot_list_getattribute (ty _) am_entry_list_getattribute (F.args_list_getattribute_2 _ _) (meets_getattribute_miss_list a xs n sl "keys" _ uI (by decide) (by size_fits)) ⟨hx,hA,fun h' t' e z=>?_⟩)|wp_step))
 obtain ⟨t1,t2,he⟩:=z.there
 show wpAny _ _ (getattributeRaised _ _ _ _ _ _ _) _ _ _
 unfold getattributeRaised
 repeat (any_goals (first|assumption|wp_step))
 exact k _ _ z.keeps
end
section
open PySem
variable {prog:Program} {w:World} {A:Around} {E:Value->Shared->Prop} {R:Result->Shared->Prop}
theorem lg:entryFor table "dict.update.loop"=some Builtin.«dict.update.loop»:=entryFor_of_tree (by kernel_rfl)
theorem gM:plainId "dict.update.loop"=true:=by decide +kernel
noncomputable abbrev rF:=List Int×Addr×Value
noncomputable def stR (acc:List rF) (x:rF):List rF:=storedH acc x.1 x.2.1 x.2.2
noncomputable abbrev Keep (h0 h:Heap):Prop:=∀c o,h0.get? c=some o->h.get? c=some o
theorem ni {h0 h:Heap} {k:List Int} {b:Addr} (z:(f9 prog w).is h0 k b) (e:Keep h0 h):(f9 prog w).is h k b:=by
 obtain ⟨o,its,n,h1,h2⟩:=(show IsTupleKey (intKind prog w) h0 k b from z)
 exact ⟨o,its,n,e _ _ h1,h2⟩
theorem qY {h h':Heap} {D:Addr} {rows:List rF} (z:h.DictOfH (f9 prog w) D rows) (e:∀o,h.get? D=some o->h'.get? D=some o) (k:∀x∈rows,(f9 prog w).is h' x.1 x.2.1):h'.DictOfH (f9 prog w) D rows:=
 let ⟨o,es,ep,h1,h2,h3,h4,_,h5⟩:=z;⟨o,es,ep,e o h1,h2,h3,h4,k,h5⟩
theorem tZ {L:List rF}:∀(M acc:List rF),(∀x∈M,x∈L)->(∀x∈acc,∃y∈L,x.1=y.1/\x.2.1=y.2.1)->∀x∈M.foldl stR acc,∃y∈L,x.1=y.1/\x.2.1=y.2.1
 |[],acc,_,h=>h
 |m::M,acc,hm,h=>tZ M (stR acc m) (fun x hx=>hm x (by simp [hx])) fun x hx=>by
  rcases PyProof.Rows.mem_storedH hx with ⟨y,hy,e1,e2⟩|⟨e1,e2⟩
  ·obtain ⟨z,hz,f1,f2⟩:=h y hy
   exact ⟨z,hz,e1.trans f1,e2.trans f2⟩
  ·exact ⟨m,hm m (by simp),e1,e2⟩
theorem u0:∀(M acc:List rF),(M.foldl stR acc).length<=acc.length+M.length
 |[],acc=>Nat.le_refl _
 |m::M,acc=>by
  have h1:=u0 M (stR acc m)
  have h2:(stR acc m).length<=acc.length+1:=by unfold stR storedH;split<;>simp
  rw [List.foldl_cons,List.length_cons]
  omega
theorem dic_loop {h0:Heap} {l D I:Addr} {items:Array Value} (hh:A.handled=none) (hu:A.units+1<cLine) (hl:h0.IsList l items) (hD:h0.get? D=none) (hI:h0.get? I=none) (hDI:D≠I) (L:List rF) (hlen:items.size=L.length) (hsz:L.length<=sizeLine)
  (hit:∀(j:Nat) (x:rF),L[j]? =some x->∃T,items[j]? =some (.ref T)/\IsTup h0 T #[.ref x.2.1,x.2.2]/\(f9 prog w).is h0 x.1 x.2.1) :
  ∀(m i:Nat) (s:Shared),L.length-i=m->i<=L.length->s.heap.IsListIter I l i->Keep h0 s.heap->s.heap.DictOfH (f9 prog w) D ((L.take i).foldl stR []) ->
   (∀h' tk',Keep h0 h'->h'.DictOfH (f9 prog w) D (L.foldl stR [])->R (.ok (.ret .none)) {s with heap:=h',toks:=tk'})->codeAny (model prog w) A (.builtin "dict.update.loop" ⟨[.ref D,.ref I,rawInt i,.none],[]⟩) R s:=by
 have keyOf:∀{h:Heap},Keep h0 h->∀(i:Nat),∀x∈(L.take i).foldl stR [],(f9 prog w).is h x.1 x.2.1:=fun {h} kp i x hx=>by
  obtain ⟨y,hy,e1,e2⟩:=tZ (L:=L) (L.take i) [] (fun x hx=>List.mem_of_mem_take hx) (fun x hx=>nomatch hx) x hx
  obtain ⟨j,hj⟩:=List.mem_iff_getElem?.mp hy
  obtain ⟨T,_,_,z⟩:=hit j y hj
  rw [e1,e2]
  exact ni z kp
 have lst:∀{h:Heap},Keep h0 h->h.IsList l items:=fun {h} kp=>let ⟨o,e,r⟩:=hl;⟨o,kp _ _ e,r⟩
 intro m
 induction m with
 |zero=>
  intro i s hm hi st kp dd fin
  obtain rfl:i=L.length:=by omega
  refine codeAny_builtin lg ?_
  rw [Around.under_plainId gM _]
  refine wpAny_bind (wpAny_pyNext_list_end (show A.in1.handled=none from hh) st (lst kp) (by simp [hlen]) fun h' eb=>?_)
  have kp':Keep h0 h':=fun c o e=>eb c o (fun z=>by rw [z,hI] at e;cases e) (kp c o e)
  show wpAny _ _ (Builtin.Dict.addKeywords D [] >>= _) _ _ _
  rw [List.take_length] at dd
  refine wpAny_bind (wpAny_pure (wpAny_pure (fin h' s.toks kp' (qY dd (fun o e=>eb D o hDI e) fun x hx=>?_))))
  exact keyOf kp' L.length x (by rw [List.take_length];exact hx)
 |succ m ih=>
  intro i s hm hi st kp dd fin
  have hlt:i<L.length:=by omega
  obtain ⟨T,e1,tp,kk⟩:=hit i L[i] (by simp [hlt])
  refine codeAny_builtin lg ?_
  rw [Around.under_plainId gM _]
  refine wpAny_bind (wpAny_pyNext_list_item st (lst kp) e1 fun h1 st1 sb=>?_)
  have kp1:Keep h0 h1:=fun c o e=>sb.extBut c o (fun z=>by rw [z,hI] at e;cases e) (kp c o e)
  have dd1:h1.DictOfH (f9 prog w) D ((L.take i).foldl stR []):=qY dd (fun o e=>sb.extBut D o hDI e) (keyOf kp1 i)
  obtain ⟨ot,t1,t2,n,t3⟩:=tp
  have hT:Shared.TypeIs {s with heap:=h1} (.ref T) "tuple":=⟨ot,kp1 _ _ t1,t2⟩
  refine wpAny_bind (wpAny_holding ?_)
  refine wpAny_bind (wpAny_tryCatch ?_)
  unfold Builtin.Dict.pairItems
  refine wpAny_bind (wpAny_typeOf hT ?_)
  show wpAny _ _ (if (Value.type "tuple"==Value.type "list"||Value.type "tuple"==Value.type "tuple")=true then _ else _) _ _ _
  rw [if_pos (by decide)]
  refine wpAny_bind (wpAny_seqItems (kp1 _ _ t1) t3 (wpAny_pure ?_))
  show wpAny _ _ (holding [.ref L[i].2.1,L[i].2.2] (dictSet D (.ref L[i].2.1) L[i].2.2)) _ _ _
  have hle:((L.take i).foldl stR []).length<=sizeLine:=by
   have:=u0 (L.take i) []
   rw [List.length_nil,List.length_take] at this
   omega
  refine wpAny_holding (wpAny_dictSet_heap (hsz:=hle) (knd:=f9 prog w) (tupleKind_room_in1 hu) (ni kk kp1) dd1 fun h2 dd2 sb2=>?_)
  have kp2:Keep h0 h2:=fun c o e=>(sb2.2 c (fun z=>by rw [z,hD] at e;cases e)).trans (kp1 c o e)
  have ei:rawInt ((i:Int)+1)=rawInt ((i+1:Nat):Int):=by congr 1
  have et:(L.take (i+1)).foldl stR []=storedH ((L.take i).foldl stR []) L[i].1 L[i].2.1 L[i].2.2:=by
   rw [List.take_succ,List.foldl_append]
   simp [hlt,stR]
  refine wpAny_pure ⟨plainId_quiet gM _,?_⟩
  show codeAny _ _ (.builtin "dict.update.loop" ⟨[.ref D,.ref I,rawInt ((i:Int)+1),.none],[]⟩) _ _
  rw [ei]
  refine ih (i+1) _ (by omega) (by omega) ?_ kp2 (by rw [et];exact dd2) fun h' tk' k' d'=>fin h' tk' k' d'
  exact st1.at fun o e=>(sb2.2 I hDI.symm).trans e
end
end L2
namespace L2
open PySem PySem.Spec PyProof.Rows
section
open PySem
variable {prog:Program} {w:World} {A:Around} {E:Value->Shared->Prop} {s:Shared}
theorem sV {l:Addr} {items:Array Value} {nl:Nat} {sl:Array (Option Value)} {Q:Value->Shared->Prop} (hh:A.handled=none) (hu:A.units+3<cLine) (hl:s.heap.get? l=some {cls:=.type "list",dict:=none,data:=.seq items nl,slots:=sl}) (L:List rF) (hlen:items.size=L.length) (hsz:L.length<=sizeLine)
  (hit:∀(j:Nat) (x:rF),L[j]? =some x->∃T,items[j]? =some (.ref T)/\IsTup s.heap T #[.ref x.2.1,x.2.2]/\(f9 prog w).is s.heap x.1 x.2.1)
  (k:∀h' tk',Keep s.heap h'->h'.DictOfH (f9 prog w) s.heap.objs.size (L.foldl stR [])->Q (.ref s.heap.objs.size) {s with heap:=h',toks:=tk'}):wpAny (model prog w) A (call (.type "dict") [.ref l]) Q E s:=by
 obtain ⟨hp,g,d,tk,os⟩:=s
 refine callType_codes (Q₁:=fun u t=>u=.ref hp.objs.size/\t=⟨hp.push {cls:=.type "dict",data:=.dict #[]},g,d,tk,os⟩) F.kt_called_dict (F.kt_typeCall_dict_1 _) F.entry_dict_init (kt_code_dict_new _ ⟨rfl,rfl⟩) ?_
 rintro u t ⟨rfl,rfl⟩
 have nw:(hp.push {cls:=.type "dict",data:=.dict #[]}).DictOfH (f9 prog w) hp.objs.size []:=⟨_,#[],0,Heap.get?_push_size _ rfl,⟨rfl,rfl,rfl⟩,rfl,rfl,fun x hx=>(nomatch hx),List.nodup_nil⟩
 have ty:(⟨hp.push {cls:=.type "dict",data:=.dict #[]},g,d,tk,os⟩:Shared).TypeIs (.ref hp.objs.size) "dict":=nw.typeIs
 have hl1:(hp.push {cls:=.type "dict",data:=.dict #[]}).get? l=some {cls:=.type "list",dict:=none,data:=.seq items nl,slots:=sl}:=Heap.get?_push_of_some _ hl
 have tl:(⟨hp.push {cls:=.type "dict",data:=.dict #[]},g,d,tk,os⟩:Shared).TypeIs (.ref l) "list":=⟨_,hl1,rfl⟩
 refine ⟨ty,F.args_dict_init_2 _ _,?_⟩;unfold Builtin.«dict.__init__»;refine wpAny_bind ?_;unfold Builtin.Dict.selfAndRest
 refine wpAny_bind (wpAny_notOrdered_dict ty ?_);show wpAny _ _ (pure (hp.objs.size,[Value.ref l])) _ _ _;refine wpAny_pure ?_
 show wpAny _ _ (Builtin.Dict.updateFrom "dict.__init__" hp.objs.size (.ref l) [] .none) _ _ _;unfold Builtin.Dict.updateFrom
 refine wpAny_bind (wpAny_typeOf tl ?_);rw [if_pos (by decide)]
 refine wpAny_bind (no_keys hl1 (show A.in1.in1.handled=none from hh) fun h1 tk1 kp1=>?_)
 rw [if_pos (show (none:Option Value).isNone=true from rfl)]
 have kp:Keep hp h1:=fun c o e=>kp1 c o (Heap.get?_push_of_some _ e)
 have hD:hp.get? hp.objs.size=none:=Heap.get?_none_of_le (Nat.le_refl _)
 have d1:h1.DictOfH (f9 prog w) hp.objs.size []:=qY nw (fun o e=>kp1 _ o e) fun x hx=>(nomatch hx)
 have lD:hp.objs.size<h1.objs.size:=let ⟨o,_,_,e,_⟩:=d1;Heap.lt_size e
 have hlist:hp.IsList l items:=⟨_,hl,rfl,nl,rfl⟩
 have l1:h1.IsList l items:=⟨_,kp _ _ hl,rfl,nl,rfl⟩
 refine wpAny_bind (wpAny_rule (wpAny_bind (wpAny_pyIter_list (s:=⟨h1,g,d,tk1,os⟩) l1 (wpAny_pure ⟨plainId_quiet gM _,?_⟩))))
 refine dic_loop (A:=A.in1) (h0:=hp) (l:=l) (items:=items) (show A.in1.handled=none from hh) (by show A.units+1+1<cLine;omega) hlist hD (Heap.get?_none_of_le (Nat.le_of_lt lD)) (Nat.ne_of_lt lD) L hlen hsz hit (L.length-0) 0 _ rfl (Nat.zero_le _) ⟨_,Heap.get?_push_size _ rfl,rfl,rfl⟩ (fun c o e=>Heap.get?_push_of_some _ (kp c o e)) (qY d1 (fun o e=>Heap.get?_push_of_some _ e) fun x hx=>(nomatch hx)) fun h' tk' k' dd=>⟨rfl,k h' tk' k' dd⟩
end
end L2
namespace L2
open PySem PySem.Spec PyProof.Rows
noncomputable def d9:List Dat->M (List (List Int×Dat))
 |[]=>.ok []
 |.tup [kd,d]::ds=>(iU kd).bind fun k=>(d9 ds).bind fun r=>.ok ((k,d)::r)
 |_=>stk
noncomputable def nY (ps:List (List Int×Dat)):List (List Int×Dat):=ps.foldl (fun acc p=>gT acc p.1 p.2) []
noncomputable def dictA:List Dat->M Dat
 |[.lst ds]=>(d9 ds).bind fun ps=>.ok (.dic (nY ps))
 |_=>stk
theorem jY:∀{ds:List Dat} {e:Err},d9 ds=.error e->e=.stuck
 |[],_,h=>by cases h
 |d::ds,e,h=>by
  unfold d9 at h
  split at h
  ·cases h
  ·rename_i kd d' ds' heq
   cases hk:iU kd with
   |error z=>rw [hk] at h;have:=iL hk;subst this;cases h;rfl
   |ok k=>
    rw [hk] at h
    cases hp:d9 ds' with
    |error z=>rw [hp] at h;cases heq;have:=jY hp;subst this;cases h;rfl
    |ok r=>rw [hp] at h;cases h
  ·cases h;rfl
theorem nB:∀{xs acc:List gJ} {L acc':List rF},Paired eP xs L->Paired eP acc acc'->Paired eP (xs.foldl (fun a x=>ti a x.1 x.2.1 x.2.2) acc) (L.foldl stR acc')
 |_,_,_,_,.nil,h=>h
 |x::xs,acc,q::L,acc',.cons r t,h=>by
  rw [List.foldl_cons,List.foldl_cons]
  refine nB t ?_
  obtain ⟨r1,r2,r3⟩:=r
  have:=m7 (k:=x.1) (b:=x.2.1) r3 h
  unfold stR
  rw [<- r1,<- r2]
  exact this
theorem bx.fold {K:PySem.W.Frag} {F:Hp}:∀{ps acc:List (List Int×Dat)} {xs acc':List gJ},bx K F ps xs->bx K F acc acc'->bx K F (ps.foldl (fun a p=>gT a p.1 p.2) acc) (xs.foldl (fun a x=>ti a x.1 x.2.1 x.2.2) acc')
 |[],_,_,_,h,z=>by rw [show _=[] from h];exact z
 |(k,d)::ps,_,_,_,⟨b,v,r,e,t,q,y⟩,z=>by
  subst e
  rw [List.foldl_cons,List.foldl_cons]
  exact bx.fold y (z.put t q)
theorem nX:∀(xs acc:List gJ),(xs.foldl (fun a x=>ti a x.1 x.2.1 x.2.2) acc).length<=acc.length+xs.length
 |[],acc=>Nat.le_refl _
 |x::xs,acc=>by
  have h1:=nX xs (ti acc x.1 x.2.1 x.2.2)
  have h2:=i9 acc x.1 x.2.1 x.2.2
  rw [List.foldl_cons,List.length_cons]
  omega
section
variable {X:Cx} {K:PySem.W.Frag} {W:cy}
theorem pairs_at {pins:List (Addr×Obj)} {σ:St} {F H:Hp} {s:Shared} (I:Inv X pins σ H s) (hF:aC F H):∀{ds:List Dat} {ys:List V} {its:List Value} {ps:List (List Int×Dat)},ak X.K F ds ys->Vals ys its->d9 ds=.ok ps ->
  ∃(L:List rF) (xs:List gJ),Paired eP xs L/\L.length=its.length/\bx X.K F ps xs/\∀(j:Nat) (x:rF),L[j]? =some x->∃T,its[j]? =some (.ref T)/\IsTup s.heap T #[.ref x.2.1,x.2.2]/\(f9 X.prog X.w).is s.heap x.1 x.2.1
 |[],_,_,_,h,r,e=>by
  rw [show _=[] from h] at r
  cases r
  cases e
  exact ⟨[],[],.nil,rfl,rfl,fun j x h=>by simp at h⟩
 |d::ds,_,_,ps,⟨v,vs,ev,q,t⟩,r,e=>by
  subst ev
  cases r with
  |cons r1 rs=>
   rename_i u us
   unfold d9 at e
   split at e
   ·rename_i heq;cases heq
   ·rename_i kd d' ds' heq
    cases heq
    cases hk:iU kd with
    |error z=>rw [hk] at e;cases e
    |ok k=>
     rw [hk] at e
     cases hp:d9 ds with
     |error z=>rw [hp] at e;cases e
     |ok ps'=>
      rw [hp] at e
      have e:Except.ok ((k,d')::ps')=(Except.ok ps:M _):=e
      cases e
      obtain ⟨L,xs,h1,h2,h3,h4⟩:=pairs_at I hF t rs hp
      obtain ⟨T,ws,eT,tT,v1,vs1,ew,q1,v2,vs2,ew2,q2,en⟩:=q
      subst eT ew ew2
      have en:vs2=[]:=en
      subst en
      cases (show u=Value.ref T from r1)
      obtain ⟨b,rfl,tb⟩:=ke hk q1
      obtain ⟨tis,rv,tp,_⟩:=I.tuple (hF.tup tT)
      obtain ⟨u1,u2,rfl,ru1,ru2⟩:=rv.two
      cases (show u1=Value.ref b from ru1)
      refine ⟨(k,b,u2)::L,(k,b,v2)::xs,.cons ⟨rfl,rfl,ru2⟩ h1,by simp [h2],⟨b,v2,xs,rfl,tb,q2,h3⟩,fun j x hx=>?_⟩
      cases j with
      |zero=>
       simp only [List.getElem?_cons_zero,Option.some.injEq] at hx
       subst hx
       exact ⟨T,rfl,tp,j4 I (hF.tup tb)⟩
      |succ j=>
       simp only [List.getElem?_cons_succ] at hx
       obtain ⟨T',f1,f2⟩:=h4 j x hx
       exact ⟨T',by simpa using f1,f2⟩
   ·cases e
theorem c_dictL (hc:X.calm=true) (hu:X.A.units+64<cLine) (hK:X.K=K:=by rfl):kU K W true X (.type "dict") dictA:=by
 subst hK
 intro pins s σ H xs us Q I rr h
 obtain ⟨F,d,x,s1,e,q,p⟩:=mf (fun ds=>by match ds with|[d]=>exact .inl ⟨d,rfl⟩|[]=>exact .inr rfl|a::b::c=>exact .inr (by cases a<;>rfl)) h
 subst e
 obtain ⟨u,rfl,ru⟩:=rr.one
 cases d with
 |lst ds=>
  obtain ⟨a,ys,e1,t,r⟩:=q
  subst e1
  cases ru
  have p':aw X.K W true F H ((d9 ds).bind fun ps=>.ok (.dic (nY ps))) Q:=p
  cases hp:d9 ds with
  |error z=>
   rw [hp] at p'
   have:=jY hp
   subst this
   exact aw.stuck p'
  |ok ps=>
   rw [hp] at p'
   obtain ⟨its,rv,pl,hz⟩:=I.list (s1.lst t)
   obtain ⟨o,n,eo,hcls,hdict,hdata⟩:=id pl
   obtain ⟨oc,od,odt,osl⟩:=o
   cases (show oc=.type "list" from hcls)
   cases (show od=none from hdict)
   cases (show odt=.seq its.toArray n from hdata)
   obtain ⟨L,rows,h1,h2,h3,h4⟩:=pairs_at I s1 r rv hp
   have hL:L.length<=sizeLine:=by rw [h2,<- rv.length];exact hz
   refine sV (I.ok.hd hc) (by omega) eo L (by simp [h2]) hL (fun j x hx=>by obtain ⟨T,f1,f2⟩:=h4 j x hx;exact ⟨T,by simpa using f1,f2⟩) fun h' tk' kp dd=>?_
   have hrl:(rows.foldl (fun a x=>ti a x.1 x.2.1 x.2.2) []).length<=sizeLine:=by
    have:=nX rows []
    have:=Paired.length h1
    simp at *
    omega
   obtain ⟨ep,z⟩:=mG dd (nB h1 .nil) (beq_eq_false_iff_ne.mpr (Ne.symm (Nat.ne_of_lt I.big))) hrl
   have hn:=I.hok.fresh (Nat.le_refl s.heap.objs.size)
   exact ⟨.ref s.heap.objs.size,_,I.laid (a:=s.heap.objs.size) (o:=jv s.heap.objs.size _ ep) (t':=tk') (fun b o e=>kp b o e) (Nat.le_refl _) (mF z),rfl,p' (.ref s.heap.objs.size) F _ (Step.grow s1 hn) ⟨s.heap.objs.size,_,rfl,⟨ep,ar⟩,s1.free hn,hn,h3.fold rfl⟩⟩
 |_=>exact aw.stuck p
theorem sY:bootBuiltins "dict"=some (.type "dict"):=by rfl
end
end L2
namespace L2
open PySem PySem.Spec PyProof.Rows
@[simp] theorem e_dictA (ds:List Dat):dictA [.lst ds]=(d9 ds).bind fun ps=>.ok (.dic (nY ps)):=id rfl
end L2
namespace L2
open PySem PySem.Spec PyProof.Rows
structure KitD (K:PySem.W.Frag):Prop where
 i:kitOne K (.type "dict") (.type "int")=some false
 b:kitOne K (.type "dict") (.type "bool")=some false
noncomputable def qQ:Dat->M Dat
 |.dil _=>stk
 |.int _=>.ok (.bl true)
 |.bl _=>.ok (.bl true)
 |.ins _ _=>stk
 |_=>.ok (.bl false)
noncomputable def nU:Dat->M Dat
 |.dil _=>stk
 |.bl _=>.ok (.bl true)
 |.ins _ _=>stk
 |_=>.ok (.bl false)
section
variable {X:Cx} {K:PySem.W.Frag} {W:cy} {own:Bool} {a:Expr} {p p2 pos:Pos} {fa:ae->M Dat} {pins:List (Addr×Obj)} {σ:St} {F H:Hp} {s:Shared}
theorem uW {T:String} {ks:List (List Int×Dat)} {x:V} {u:Value} {Q:Value->Shared->Prop} (I:Inv X pins σ H s) (hF:aC F H) (q:aZ X.K F (.dic ks) x) (r:RelV x u)
  (hd:kitOne X.K (.type "dict") (.type T)=some false) (h:∀tk,Q (.bool false) {s with toks:=tk}):wpAny (model X.prog X.w) X.A (call (.builtin "isinstance") [u,.type T]) Q X.xe s:=by
 obtain ⟨l,xs,e,⟨ep,t⟩,_⟩:=q
 subst e
 cases r
 obtain ⟨_,_,_,_,_,o,_,h1,h2,_⟩:=qZ I (hF _ _ t)
 exact kia_one PySem.W.kitx_dict I.kIn ⟨o,h1,h2.1⟩ hd (fun z=>nomatch z) fun tk=>h tk
theorem sX (kit:Kit K) (kd:KitD K) (hK:X.K=K:=by rfl):bB X (.builtin "isinstance") (fun xs H Q=>∃v,xs=[v,.ty "int"]/\rD1 K W own qQ v H Q):=by
 intro pins s σ H xs us Q I r h
 obtain ⟨v,rfl,F,d,s1,q,p⟩:=h
 cases d with
 |dic ks=>
  subst hK
  obtain ⟨u,w,rfl,ru,rw'⟩:=r.two
  cases (show w=Value.type "int" from rw')
  exact uW I s1 q ru kd.i fun tk=>⟨.bl false,H,I.tok tk,rfl,aw.bl (own:=own) p s1⟩
 |_=>exact oz (W:=W) (own:=own) kit hK pins s σ H _ _ Q I r ⟨v,rfl,F,_,s1,q,p⟩
theorem pW (kit:Kit K) (kd:KitD K) (hK:X.K=K:=by rfl):bB X (.builtin "isinstance") (fun xs H Q=>∃v,xs=[v,.ty "bool"]/\rD1 K W own nU v H Q):=by
 intro pins s σ H xs us Q I r h
 obtain ⟨v,rfl,F,d,s1,q,p⟩:=h
 cases d with
 |dic ks=>
  subst hK
  obtain ⟨u,w,rfl,ru,rw'⟩:=r.two
  cases (show w=Value.type "bool" from rw')
  exact uW I s1 q ru kd.b fun tk=>⟨.bl false,H,I.tok tk,rfl,aw.bl (own:=own) p s1⟩
 |_=>exact lM (W:=W) (own:=own) kit hK pins s σ H _ _ Q I r ⟨v,rfl,F,_,s1,q,p⟩
theorem de_isi_intE (kit:Kit K) (kd:KitD K) (hm:X.mg "isinstance"=none) (hmT:X.mg "int"=none) (ha:DE K W false X a fa) (hK:X.K=K:=by rfl)
  (hg:Gl X "isinstance":=by rfl) (hgT:Gl X "int":=by rfl)
  (hst:starEach [a,.Name "int" p2] X.env=[(false,eval a X.env),(false,eval (.Name "int" p2) X.env)]:=by rfl) (hst2:starEach [.Name "int" p2] X.env=[(false,eval (.Name "int" p2) X.env)]:=by rfl) (hpl:(backTo pos (starEach [.Name "int" p2] X.env)).any (·.1)=false:=by rfl) :
  DE K W own X (.Call (.Name "isinstance" p) [a,.Name "int" p2] [] pos) (f1 qQ fa):=kC (sX kit kd hK) hm hmT (by decide +kernel) ha hg hgT (by decide) (by decide) hst hst2 hpl
theorem de_isi_boolE (kit:Kit K) (kd:KitD K) (hm:X.mg "isinstance"=none) (hmT:X.mg "bool"=none) (ha:DE K W false X a fa) (hK:X.K=K:=by rfl)
  (hg:Gl X "isinstance":=by rfl) (hgT:Gl X "bool":=by rfl)
  (hst:starEach [a,.Name "bool" p2] X.env=[(false,eval a X.env),(false,eval (.Name "bool" p2) X.env)]:=by rfl) (hst2:starEach [.Name "bool" p2] X.env=[(false,eval (.Name "bool" p2) X.env)]:=by rfl) (hpl:(backTo pos (starEach [.Name "bool" p2] X.env)).any (·.1)=false:=by rfl) :
  DE K W own X (.Call (.Name "isinstance" p) [a,.Name "bool" p2] [] pos) (f1 nU fa):=kC (pW kit kd hK) hm hmT (by decide +kernel) ha hg hgT (by decide) (by decide) hst hst2 hpl
end
end L2
namespace L2
open PySem PySem.Spec PyProof.Rows
end L2
namespace L2
open PySem PySem.Spec PyProof.Rows
noncomputable def geL:List Int->List Int->Bool
 |x::xs,y::ys=>if x=y then geL xs ys else decide (y<=x)
 |xs,ys=>decide (ys.length<=xs.length)
theorem cge_int {prog:Program} {w:World} {A:Around} {E Q:Value->Shared->Prop} {s:Shared} {a c:Int} {t t2:Tok} (h:Q (.bool (decide (c<=a))) s):wpAny (model prog w) A (richCompare .GtE (.int a t) (.int c t2)) Q E s:=PyProof.Rows.ge_int h
theorem kh:∀{ns:List Int} {us:List Value},Vals (ns.map V.int) us->IntsAre us ns
 |[],_,.nil=>.nil
 |i::ns,_,.cons r t=>by
  obtain ⟨t',rfl⟩:=(show ∃t,_=Value.int i t from r)
  exact .cons i t' (kh t)
end L2
namespace L2
open PySem PySem.Spec PyProof.Rows
section
open PySem.W hiding kindOf
variable {prog:Program} {w:World} {A:Around} {E:Value->Shared->Prop} {s:Shared} {κ:SortKind} {f:Nat->Keyed} {key:Nat->Int} {n:Nat}
end
section
open PySem.W hiding kindOf
variable {prog:Program} {w:World} {A:Around} {E:Value->Shared->Prop} {s:Shared} {κ:SortKind} {f:Nat->Keyed} {key:Nat->Int} {n:Nat}
noncomputable def Srt (key:Nat->Int) (l:List Nat):Prop:=l.Pairwise fun x y=>key x<=key y
structure MI (key:Nat->Int) (all out xs ys:List Nat):Prop where
 perm:(out++(xs++ys)).Perm all
 so:Srt key out
 sx:Srt key xs
 sy:Srt key ys
 ox:∀x∈out,∀y∈xs,key x<=key y
 oy:∀x∈out,∀y∈ys,key x<=key y
noncomputable def rD (st st':SortSt):Prop:=∃g,st'=SortSt.mk' (kindOf st) (arrOf st) (pendingOf st) g (failedOf st)
theorem rD.trans {a b c:SortSt} (h:rD a b) (k:rD b c):rD a c:=by
 obtain ⟨g,rfl⟩:=h
 obtain ⟨g',rfl⟩:=k
 exact ⟨g',rfl⟩
end
section
open PySem.W hiding kindOf
variable {prog:Program} {w:World} {A:Around} {E:Value->Shared->Prop} {s:Shared} {κ:SortKind} {f:Nat->Keyed} {key:Nat->Int} {n:Nat}
structure JL (f:Nat->Keyed) (key:Nat->Int) (pa pb:List Nat) (r:Array Keyed) (ia ib:Nat) (o:List Nat):Prop where
 arr:r=(o.map f).toArray
 mi:MI key (pa++pb) o (pa.drop ia) (pb.drop ib)
 la:ia+1<pa.length
 lb:ib<pb.length
 len:o.length=ia+ib
end
section
open PySem.W hiding kindOf
variable {prog:Program} {w:World} {A:Around} {E:Value->Shared->Prop} {s:Shared} {κ:SortKind} {f:Nat->Keyed} {key:Nat->Int} {n:Nat}
noncomputable def neg (key:Nat->Int) (x:Nat):Int:= -key x
structure JH (f:Nat->Keyed) (key:Nat->Int) (pa pb:List Nat) (r:Array Keyed) (na nb:Nat) (o:List Nat):Prop where
 arr:r=(o.map f).toArray
 mi:MI (neg key) (pa++pb) o (pa.take na).reverse (pb.take nb).reverse
 la:0<na
 lb:1<nb
 za:na<=pa.length
 zb:nb<=pb.length
 len:o.length+na+nb=pa.length+pb.length
end
section
open PySem.W hiding kindOf
variable {prog:Program} {w:World} {A:Around} {E:Value->Shared->Prop} {s:Shared} {κ:SortKind} {f:Nat->Keyed} {key:Nat->Int} {n:Nat}
structure SS (κ:SortKind) (f:Nat->Keyed) (n:Nat) (st:SortSt) (p:List Nat):Prop where
 kind:kindOf st=κ
 ok:failedOf st=none
 arr:arrOf st=(p.map f).toArray
 perm:p.Perm (List.range n)
end
section
open PySem.W hiding kindOf
variable {prog:Program} {w:World} {A:Around} {E:Value->Shared->Prop} {s:Shared} {κ:SortKind} {f:Nat->Keyed} {key:Nat->Int} {n:Nat}
noncomputable def Fx (lo:Nat) (p p':List Nat):Prop:=∀i,i<lo->p'.getD i 0=p.getD i 0
theorem Fx.trans {lo:Nat} {p q r:List Nat} (h:Fx lo p q) (k:Fx lo q r):Fx lo p r:=fun i hi=>(k i hi).trans (h i hi)
end
section
open PySem.W hiding kindOf
variable {prog:Program} {w:World} {A:Around} {E:Value->Shared->Prop} {s:Shared} {κ:SortKind} {f:Nat->Keyed} {key:Nat->Int} {n:Nat}
end
section
open PySem.W hiding kindOf
variable {prog:Program} {w:World} {A:Around} {E:Value->Shared->Prop} {s:Shared} {κ:SortKind} {f:Nat->Keyed} {key:Nat->Int} {n:Nat}
noncomputable def mkP:Nat->List (List Nat×Nat)->List (Nat×Nat×Nat)
 |_,[]=>[]
 |a,(l,w)::r=>(a,l.length,w)::mkP (a+l.length) r
noncomputable def flt (gs:List (List Nat×Nat)):List Nat:=(gs.map Prod.fst).flatten
theorem flt_cons (g:List Nat×Nat) (y:List (List Nat×Nat)):flt (g::y)=g.1++flt y:=by simp [flt]
theorem pF:∀(x:List (List Nat×Nat)) (a:Nat) (y:List (List Nat×Nat)),mkP a (x++y)=mkP a x++mkP (a+(flt x).length) y
 |[],a,y=>by simp [mkP,flt]
 |(l,w)::x,a,y=>by
  show (a,l.length,w)::mkP (a+l.length) (x++y)=(a,l.length,w)::(mkP (a+l.length) x++_)
  rw [pF x,flt_cons,List.length_append,Nat.add_assoc]
theorem pE:∀(x:List (List Nat×Nat)) (a:Nat),(mkP a x).length=x.length
 |[],_=>rfl
 |(l,w)::x,a=>by simp [mkP,pE x]
structure RI (κ:SortKind) (f:Nat->Keyed) (key:Nat->Int) (n:Nat) (st:SortSt) (gs:List (List Nat×Nat)) (rest:List Nat):Prop where
 ss:SS κ f n st (flt gs++rest)
 pd:pendingOf st=(mkP 0 gs).toArray
 ok:∀g∈gs,Srt key g.1/\0<g.1.length
theorem RI.size {st:SortSt} {gs:List (List Nat×Nat)} {rest:List Nat} (h:RI κ f key n st gs rest):(pendingOf st).size=gs.length:=by rw [h.pd];simp [pE]
noncomputable def rePw (pw:Nat):Nat×Nat×Nat->Nat×Nat×Nat
 |(s,l,_)=>(s,l,pw)
theorem RI.last {st:SortSt} {gs:List (List Nat×Nat)} {rest:List Nat} {pw:Nat} (h:RI κ f key n st gs rest):∃gs',gs'.length=gs.length/\flt gs'=flt gs/\RI κ f key n (setPending st ((pendingOf st).modify ((pendingOf st).size-1) (rePw pw))) gs' rest:=by
 by_cases e:gs=[]
 ·subst e
  refine ⟨[],rfl,rfl,⟨h.ss.kind,h.ss.ok,h.ss.arr,h.ss.perm⟩,?_,h.ok⟩
  show (pendingOf st).modify ((pendingOf st).size-1) (rePw pw)=_
  rw [h.pd];rfl
 ·obtain ⟨pre,b,eb⟩:∃pre b,gs=pre++[b]:=⟨gs.dropLast,gs.getLast e,(List.dropLast_concat_getLast e).symm⟩
  subst eb
  obtain ⟨b,wb⟩:=b
  have ef:flt (pre++[(b,pw)])=flt (pre++[(b,wb)]):=by simp [flt]
  refine ⟨pre++[(b,pw)],by simp,ef,⟨h.ss.kind,h.ss.ok,?_,?_⟩,?_,fun g hg=>?_⟩
  ·rw [ef];exact h.ss.arr
  ·rw [ef];exact h.ss.perm
  ·show (pendingOf st).modify ((pendingOf st).size-1) (rePw pw)=_
   rw [h.size,h.pd,pF,pF]
   have lp:=pE pre 0
   apply Array.ext_getElem?
   intro i
   rw [Array.getElem?_modify]
   simp only [List.length_append,List.length_singleton,Nat.add_sub_cancel,List.getElem?_toArray,mkP]
   by_cases c:pre.length=i
   ·subst c
    rw [if_pos rfl,<- lp,List.getElem?_append_right (Nat.le_refl _),List.getElem?_append_right (Nat.le_refl _),Nat.sub_self]
    rfl
   ·rw [if_neg c]
    rcases Nat.lt_or_ge i pre.length with d|d
    ·rw [List.getElem?_append_left (by omega),List.getElem?_append_left (by omega)]
    ·rw [List.getElem?_eq_none (by simp;omega),List.getElem?_eq_none (by simp;omega)]
  ·rcases List.mem_append.mp hg with e|e
   ·exact h.ok g (List.mem_append_left _ e)
   ·have:=List.mem_singleton.mp e
    subst this
    exact h.ok (b,wb) (by simp)
end
section
open PySem.W hiding kindOf
variable {prog:Program} {w:World} {A:Around} {E:Value->Shared->Prop} {s:Shared} {key:Nat->Int}
end
section
open PySem.W hiding kindOf
variable {α:Type} {lt:α->α->Bool}
variable {X:Cx} {K:PySem.W.Frag} {W:cy} {own:Bool}
end
end L2
namespace L2
open PySem PySem.Spec PyProof.Rows
section
open PySem SetTable
end
section
open PySem
variable {prog:Program} {w:World} {A:Around} {E:Value->Shared->Prop} {s:Shared}
end
section
open PySem
variable {prog:Program} {w:World} {A:Around} {R:Result->Shared->Prop} {I:Addr} {fp wr:List Addr} {G:Array GenState->Array GenState->Prop} {n:Nat} {P:Nat->Value->Prop} {St:Nat->Shared->Prop} {b:Bool}
end
section
open PySem
variable {prog:Program} {w:World} {A:Around} {E:Value->Shared->Prop} {s:Shared}
end
section
open PySem SetTable
variable {prog:Program} {w:World} {A:Around} {E:Value->Shared->Prop} {s:Shared} {a:Addr}
end
section
open PySem.W
variable {prog:Program} {w:World} {A:Around} {E:Value->Shared->Prop} {s:Shared}
end
end L2
namespace L2
open PySem PySem.Spec PyProof.Rows
section
open PySem
structure IK (prog:Program) (w:World) (κ:Type) [DecidableEq κ] where
 is:Heap->κ->Value->Prop
 hash:κ->Int
 draws:κ->Nat
 up:Nat
 fuel:Nat
 inj:∀{h:Heap} {v:Value} {x y:κ},is h x v->is h y v->x=y
 keeps:∀{h h':Heap} {k:κ} {v:Value},is h k v->(∀(a:Addr) (o:Obj) (us:Array Value) (n:Nat),h.get? a=some o->o.data=.seq us n->h'.get? a=some o)->is h' k v
 pyHash:∀{A:Around} {E:Value->Shared->Prop} {s:Shared} {k:κ} {v:Value} {Q:Int->Shared->Prop},A.units+up<cLine->is s.heap k v->Q (hash k) {s with toks:=s.toks+draws k}->wpAny (model prog w) A (PySem.pyHash v) Q E s
 eqBool:∀{A:Around} {E:Value->Shared->Prop} {s:Shared} {x y:κ} {u v:Value} {Q:Bool->Shared->Prop},A.units+up<cLine->is s.heap x u->is s.heap y v->Q (decide (x=y)) s->wpAny (model prog w) A (PySem.eqBool u v) Q E s
 quiet:∀{A:Around} {E:Value->Shared->Prop} {s:Shared} {k:κ} {v:Value} {Q:Bool->Shared->Prop} (n:Nat),fuel<=n->is s.heap k v->Q true s->wpAny (model prog w) A (eqIsQuiet n v) Q E s
variable {prog:Program} {w:World} {A:Around} {E:Value->Shared->Prop} {s:Shared}
inductive Hs (prog:Program) (w:World) (A:Around) (h:Heap):List Value->List Int->Nat->Prop
 |nil:Hs prog w A h [] [] 0
 |cons {v:Value} {vs:List Value} {i:Int} {is:List Int} {d n:Nat} (hv:∀(E:Value->Shared->Prop) (s:Shared) (Q:Int->Shared->Prop),s.heap=h->Q i {s with toks:=s.toks+d}->wpAny (model prog w) A (PySem.pyHash v) Q E s) (r:Hs prog w A h vs is n):Hs prog w A h (v::vs) (i::is) (d+n)
inductive Es (prog:Program) (w:World) (A:Around) (h:Heap):List Value->List Value->Bool->Prop
 |nil {us vs:List Value} (e:us=[]\/vs=[]):Es prog w A h us vs true
 |cons {u v:Value} {us vs:List Value} {b c:Bool} (hv:∀(E:Value->Shared->Prop) (s:Shared) (Q:Bool->Shared->Prop),s.heap=h->Q b s->wpAny (model prog w) A (PySem.eqBool u v) Q E s) (r:Es prog w A h us vs c):Es prog w A h (u::us) (v::vs) (b&&c)
end
section
open PySem
variable {prog:Program} {w:World} {κ μ:Type} [DecidableEq κ] [DecidableEq μ]
inductive All2 {α β:Type} (R:α->β->Prop):List α->List β->Prop
 |nil:All2 R [] []
 |cons {x:α} {y:β} {xs:List α} {ys:List β} (h:R x y) (t:All2 R xs ys):All2 R (x::xs) (y::ys)
end
end L2
namespace L2
open PySem PySem.Spec PyProof.Rows
end L2
namespace L2
open PySem PySem.Spec PyProof.Rows
section
open PySem
variable {prog:Program} {w:World} {A:Around} {E:Value->Shared->Prop} {s:Shared}
inductive Ls (prog:Program) (w:World) (A:Around) (h:Heap):List Value->List Value->Bool->Prop
 |nil {us vs:List Value} (e:us=[]\/vs=[]):Ls prog w A h us vs (decide (us.length<vs.length))
 |eq {u v:Value} {us vs:List Value} {c:Bool} (hv:∀(E:Value->Shared->Prop) (s:Shared) (Q:Bool->Shared->Prop),s.heap=h->Q true s->wpAny (model prog w) A (PySem.eqBool u v) Q E s) (r:Ls prog w A h us vs c):Ls prog w A h (u::us) (v::vs) c
 |ne {u v:Value} {us vs:List Value} {c:Bool} (hv:∀(E:Value->Shared->Prop) (s:Shared) (Q:Bool->Shared->Prop),s.heap=h->Q false s->wpAny (model prog w) A (PySem.eqBool u v) Q E s) (hl:∀(E:Value->Shared->Prop) (s:Shared) (Q:Value->Shared->Prop),s.heap=h->Q (.bool c) s->wpAny (model prog w) A (richCompare .Lt u v) Q E s):Ls prog w A h (u::us) (v::vs) c
end
section
open PySem.W
variable {prog:Program} {w:World} {A:Around} {E:Value->Shared->Prop} {s:Shared}
end
section
open PySem PySem.W
variable {prog:Program} {w:World} {A:Around} {E:Value->Shared->Prop} {s:Shared}
end
section
open PySem PySem.W
variable {prog:Program} {w:World} {A:Around} {E:Value->Shared->Prop} {s:Shared}
variable {R:Result->Shared->Prop} {I:Addr} {fp wr:List Addr} {n:Nat} {P:Nat->Value->Prop} {St:Nat->Heap->Prop}
end
end L2
namespace L2
open PySem PySem.Spec PyProof.Rows
mutual
noncomputable def jV:Dat->Bool
 |.tup ds=>jU ds
 |.lst ds=>jU ds
 |.ins _ _=>false
 |.dic _=>false
 |.dil _=>false
 |_=>true
noncomputable def jU:List Dat->Bool
 |[]=>true
 |d::ds=>jV d&&jU ds
end
mutual
theorem aZ.plain {K:PySem.W.Frag} {F F':Hp} (s:∀a xs,SqT K F a xs->SqT K F' a xs) (t:∀a xs,SqL K F a xs->SqL K F' a xs):∀{d:Dat} {v:V},jV d=true->aZ K F d v->aZ K F' d v
 |.non,_,_,h=>h
 |.bl _,_,_,h=>h
 |.int _,_,_,h=>h
 |.str _,_,_,h=>h
 |.tup ds,_,f,⟨a,xs,e,q,r⟩=>⟨a,xs,e,s _ _ q,ak.plain s t (by simpa [jV] using f) r⟩
 |.lst ds,_,f,⟨a,xs,e,q,r⟩=>⟨a,xs,e,t _ _ q,ak.plain s t (by simpa [jV] using f) r⟩
 |.ins _ _,_,f,_=>by simp [jV] at f
 |.dic _,_,f,_=>by simp [jV] at f
 |.dil _,_,f,_=>by simp [jV] at f
theorem ak.plain {K:PySem.W.Frag} {F F':Hp} (s:∀a xs,SqT K F a xs->SqT K F' a xs) (t:∀a xs,SqL K F a xs->SqL K F' a xs):∀{ds:List Dat} {xs:List V},jU ds=true->ak K F ds xs->ak K F' ds xs
 |[],_,_,h=>h
 |d::ds,_,f,⟨v,vs,e,q,r⟩=>by
  simp only [jU,Bool.and_eq_true] at f
  exact ⟨v,vs,e,aZ.plain s t f.1 q,ak.plain s t f.2 r⟩
end
end L2
namespace L2
open PySem PySem.Spec PyProof.Rows
end L2
namespace L2
open PySem PySem.Spec PyProof.Rows
section
open PySem PySem.W
variable {prog:Program} {w:World} {A:Around} {E:Value->Shared->Prop} {s:Shared}
end
end L2
namespace L2
open PySem PySem.Spec PyProof.Rows
end L2
namespace L2
open PySem PySem.Spec PyProof.Rows
structure B7 where
 f:Addr
 c:Value
 A:Around
 o:List Env
 s:Shared
 H:Hp
 E:XK
end L2
namespace L2
open PySem PySem.Spec PyProof.Rows
end L2
namespace L2
open PySem PySem.Spec PyProof.Rows
section
variable {X:Cx} {K:PySem.W.Frag} {W:cy} {own:Bool} {o e:Expr} {fo fe:ae->M Dat} {apos cpos:Pos} {name:Str} {id:String} {g:Dat->Dat->M Dat}
end
end L2
namespace L2
open PySem PySem.Spec PyProof.Rows
noncomputable def RLst (K:PySem.W.Frag):List V->Hp->VK->Prop:=fun xs H Q=>∃p ys,xs=[.ref p]/\(SqL K H p ys\/SqT K H p ys)/\∀l,H l=none->Q (.ref l) (upd H l (.lst ys))
theorem qx (f:Str) (v:V):∀fs:List (Str×V),f∉fs.map (·.1)->putF f v fs=fs++[(f,v)]
 |[],_=>rfl
 |(g,x)::r,h=>by
  have h1:¬g=f:=fun e=>h (by simp [e])
  have h2:f∉r.map (·.1):=fun e=>h (by simp at e ⊢;exact .inr e)
  show (if g=f then _ else _)=_
  rw [if_neg h1,qx f v r h2]
  rfl
structure Cu (F H Hc:Hp) (p C dx:Addr) (fs:List (Str×V)):Prop where
 f0:F p=none
 sf:aC F Hc
 kp:∀c o,H c=some o->c≠p->Hc c=some o
 ob:Hc p=some (.ins C dx fs)
section
variable {K:PySem.W.Frag} {F H Hc:Hp} {p C dx:Addr} {fs:List (Str×V)} {f:Str} {D:Ends} {σ:St} {i:Nat}
theorem Cu.put (c:Cu F H Hc p C dx fs) (f:Str) (v:V):Cu F H (upd Hc p (.ins C dx (fs++[(f,v)]))) p C dx (fs++[(f,v)]) where
 f0:=c.f0
 sf:=fun b u e=>by
  have:b≠p:=fun z=>by rw [z,c.f0] at e;cases e
  rw [aq this];exact c.sf _ _ e
 kp:=fun b o e hb=>by rw [aq hb];exact c.kp b o e hb
 ob:=ar
theorem Cu.lay (c:Cu F H Hc p C dx fs) {l:Addr} {o:HO} (hl:Hc l=none):Cu F H (upd Hc l o) p C dx fs where
 f0:=c.f0
 sf:=fun b u e=>by
  have:b≠l:=fun z=>by rw [z,c.sf.free hl] at e;cases e
  rw [aq this];exact c.sf _ _ e
 kp:=fun b u e hb=>by
  have h1:=c.kp b u e hb
  have:b≠l:=fun z=>by rw [z,hl] at h1;cases h1
  rw [aq this];exact h1
 ob:=by
  have:p≠l:=fun z=>by have h:=c.ob;rw [z,hl] at h;cases h
  rw [aq this];exact c.ob
theorem Cu.new (c:Cu F H Hc p C dx fs) {l:Addr} (hl:Hc l=none):H l=none:=by
 cases h:H l with
 |none=>rfl
 |some o=>
  have:l≠p:=fun z=>by have h:=c.ob;rw [<- z,hl] at h;cases h
  rw [c.kp l o h this] at hl
  cases hl
theorem Cu.list (c:Cu F H Hc p C dx fs) (cl:Cls K C) (na:vU K C f) (hn:f∉fs.map (·.1)) (hf:fs.length<1000) (h0:σ[0]? =some (some (.ref p))) {b:Addr} {y:List V} (hi:σ[i]? =some (some (.ref b))) (q:SqL K F b y)
  (next:∀l Hn,H l=none->Cu F H Hn p C dx (fs++[(f,.ref l)])->Hn l=some (.lst y)->(∀m o,Hc m=some o->m≠p->Hn m=some o)->D.nx σ Hn):sFld K (kM 0) (tCB (RLst K) (fS (kM i) oO)) f D σ Hc:=by
 refine ⟨.ref b,hi,b,y,rfl,.inl (c.sf.lst q),fun l hl=>⟨.ref p,h0,p,C,dx,fs,rfl,(c.lay hl).ob,cl,na,hf,?_⟩⟩
 rw [qx f _ fs hn]
 have hlp:l≠p:=fun z=>by have h:=c.ob;rw [<- z,hl] at h;cases h
 refine next l _ (c.new hl) ((c.lay hl).put f (.ref l)) (by rw [aq hlp,ar]) fun m o e hm=>?_
 have:m≠l:=fun z=>by rw [z,hl] at e;cases e
 rw [aq hm,aq this];exact e
end
end L2
namespace L2
open PySem PySem.Spec PyProof.Rows
structure tm (K:PySem.W.Frag) (H0 G H:Hp) (hh:Addr) (bs:List Addr) (ys:List (List V)) (ds:List (List Dat)):Prop where
 sg:aC G H
 s0:aC H0 H
 top:H hh=some (.lst (bs.map .ref))
 gh:G hh=none
 h0:H0 hh=none
 nt:hh∉bs
 own:∀(j:Nat) (b:Addr),bs[j]? =some b->G b=none/\H0 b=none/\∃y d,ys[j]? =some y/\ds[j]? =some d/\H b=some (.lst y)/\ak K G d y
section
variable {K:PySem.W.Frag} {H0 G H:Hp} {hh:Addr} {bs:List Addr} {ys:List (List V)} {ds:List (List Dat)}
theorem tm.step {G' H':Hp} (l:tm K H0 G H hh bs ys ds) (s:Step G H G' H'):tm K H0 G' H' hh bs ys ds where
 sg:=s.fh
 s0:=l.s0.trans s.hh
 top:=s.hh _ _ l.top
 gh:=by
  cases e:G' hh with
  |none=>rfl
  |some o=>
   rcases s.nw _ _ e with z|z
   ·rw [l.gh] at z;cases z
   ·rw [l.top] at z;cases z
 h0:=l.h0
 nt:=l.nt
 own:=fun j b e=>by
  obtain ⟨h1,h2,y,d,h3,h4,h5,h6⟩:=l.own j b e
  refine ⟨?_,h2,y,d,h3,h4,s.hh _ _ h5,ak.mono s.ff h6⟩
  cases e:G' b with
  |none=>rfl
  |some o=>
   rcases s.nw _ _ e with z|z
   ·rw [h1] at z;cases z
   ·rw [h5] at z;cases z
open Classical in
noncomputable def iK (G H:Hp) (hh:Addr) (bs:List Addr):Hp:=fun b=>if b=hh\/b∈bs then H b else G b
theorem tm.ff (l:tm K H0 G H hh bs ys ds):aC G (iK G H hh bs):=fun b o e=>by
 unfold iK
 by_cases h:b=hh\/b∈bs
 ·exfalso
  rcases h with h|h
  ·rw [h,l.gh] at e;cases e
  ·obtain ⟨j,hj,rfl⟩:=List.getElem_of_mem h
   rw [(l.own j bs[j] (by simp [hj])).1] at e;cases e
 ·rw [if_neg h];exact e
theorem tm.fh (l:tm K H0 G H hh bs ys ds):aC (iK G H hh bs) H:=fun b o e=>by
 unfold iK at e
 by_cases h:b=hh\/b∈bs
 ·rw [if_pos h] at e;exact e
 ·rw [if_neg h] at e;exact l.sg _ _ e
theorem tm.deeps (l:tm K H0 G H hh bs ys ds) (hl:bs.length=ds.length):aZ K (iK G H hh bs) (.lst (ds.map .lst)) (.ref hh):=by
 have h1:iK G H hh bs hh=some (.lst (bs.map .ref)):=by unfold iK;rw [if_pos (.inl rfl)];exact l.top
 refine ⟨hh,bs.map .ref,rfl,SqL.of h1,?_⟩
 have:∀(n:Nat) (cs:List Addr) (es:List (List Dat)),cs.length=n->es.length=n->(∀(j:Nat) (b:Addr) (d:List Dat),cs[j]? =some b->es[j]? =some d->aZ K (iK G H hh bs) (.lst d) (.ref b))->ak K (iK G H hh bs) (es.map .lst) (cs.map .ref):=by
  intro n
  induction n with
  |zero=>intro cs es h1 h2 _;rw [List.length_eq_zero_iff.mp h1,List.length_eq_zero_iff.mp h2];rfl
  |succ n ih=>
   intro cs es h1 h2 h3
   obtain ⟨c,cs,rfl⟩:=List.exists_cons_of_length_eq_add_one h1
   obtain ⟨e,es,rfl⟩:=List.exists_cons_of_length_eq_add_one h2
   exact ⟨.ref c,cs.map .ref,rfl,h3 0 c e rfl rfl,ih cs es (by simpa using h1) (by simpa using h2) fun j b d e1 e2=>h3 (j+1) b d (by simpa using e1) (by simpa using e2)⟩
 refine this _ bs ds rfl hl.symm fun j b d e1 e2=>?_
 obtain ⟨_,_,y,d',_,h4,h5,h6⟩:=l.own j b e1
 rw [e2] at h4
 cases h4
 refine ⟨b,y,rfl,SqL.of ?_,ak.mono l.ff h6⟩
 unfold iK
 rw [if_pos (.inr (List.mem_of_getElem? e1))]
 exact h5
end
section
variable {K:PySem.W.Frag}
theorem eR.hide {F:Hp} {σ:St} {ρ:ae} (r:eR K F σ ρ) (i:Nat) (v:Option V):eR K F (σ.set i v) (ρ.set i none):=
 ⟨by rw [List.length_set,List.length_set,r.len],fun j d e=>by
  by_cases hij:i=j
  ·subst hij
   by_cases hi:i<ρ.length
   ·rw [List.getElem?_set_self hi] at e;cases e
   ·rw [List.getElem?_eq_none (by rw [List.length_set];omega)] at e;cases e
  ·rw [List.getElem?_set_ne hij] at e
   obtain ⟨v,h1,h2⟩:=r.sl j d e
   exact ⟨v,by rw [List.getElem?_set_ne hij];exact h1,h2⟩⟩
theorem eR.tell {F:Hp} {σ:St} {ρ:ae} (r:eR K F σ ρ) {i:Nat} {v:V} {d:Dat} (e:σ[i]? =some (some v)) (q:aZ K F d v):eR K F σ (ρ.set i (some d)):=
 ⟨by rw [List.length_set,r.len],fun j d' e'=>by
  by_cases hij:i=j
  ·subst hij
   by_cases hi:i<ρ.length
   ·rw [List.getElem?_set_self hi] at e';cases e';exact ⟨v,e,q⟩
   ·rw [List.getElem?_eq_none (by rw [List.length_set];omega)] at e';cases e'
  ·rw [List.getElem?_set_ne hij] at e';exact r.sl j d' e'⟩
theorem eR.but {F:Hp} {σ σ':St} {ρ:ae} (r:eR K F σ ρ) {i:Nat} (hl:σ'.length=σ.length) (h:∀j,j≠i->σ'[j]? =σ[j]?):eR K F σ' (ρ.set i none):=
 ⟨by rw [List.length_set,r.len,hl],fun j d e=>by
  by_cases hij:i=j
  ·subst hij
   by_cases hi:i<ρ.length
   ·rw [List.getElem?_set_self hi] at e;cases e
   ·rw [List.getElem?_eq_none (by rw [List.length_set];omega)] at e;cases e
  ·rw [List.getElem?_set_ne hij] at e
   obtain ⟨v,h1,h2⟩:=r.sl j d e
   exact ⟨v,by rw [h j (Ne.symm hij)];exact h1,h2⟩⟩
end
end L2
namespace L2
open PySem PySem.Spec PyProof.Rows
section
variable {X:Cx} {K:PySem.W.Frag} {e tg:Expr} {tl:TE}
theorem uj (hl:PE X e tl):PI X tg e (iSeq X.K tl):=by
 intro pins s σ H R I h
 refine thn (hl pins s σ H _ I h) fun v s1 ⟨y,H1,I1,r1,q1⟩=>?_
 obtain ⟨l,e1,q⟩:=q1
 subst e1
 cases r1
 rcases q with ⟨⟨xs,hq⟩,q⟩|⟨⟨xs,hq⟩,q⟩
 ·obtain ⟨its,rv,p,hz⟩:=I1.list hq
  refine wpAny_pyIter_list p.isList ⟨s1.heap.objs.size,[s1.heap.objs.size],_,_,H1,rfl,I1.kept (t':=s1.toks) fun b o e=>Heap.get?_push_of_some _ e,n6 l _,⟨_,Heap.get?_push_size _ rfl,rfl,rfl⟩,fun b hb=>?_,q⟩
  have e:b=s1.heap.objs.size:=by simpa using hb
  subst e
  exact I1.fpOk (Nat.le_refl _) (I1.hok.fresh (Nat.le_refl _))
 ·obtain ⟨its,rv,p,hz⟩:=I1.tuple hq
  refine wpAny_pyIter_tuple (show s1.heap.IsTuple l its.toArray from p) ⟨s1.heap.objs.size,[s1.heap.objs.size],_,_,H1,rfl,I1.kept (t':=s1.toks) fun b o e=>Heap.get?_push_of_some _ e,kW l _,⟨_,Heap.get?_push_size _ rfl,rfl,rfl⟩,fun b hb=>?_,q⟩
  have e:b=s1.heap.objs.size:=by simpa using hb
  subst e
  exact I1.fpOk (Nat.le_refl _) (I1.hok.fresh (Nat.le_refl _))
end
end L2
namespace L2
open PySem PySem.Spec PyProof.Rows
theorem IntsAre.at {us:List Value} {ns:List Int} (h:IntsAre us ns):∀{i:Nat} (hi:i<ns.length) (hu:i<us.length),∃t,us[i]=.int ns[i] t:=by
 induction h with
 |nil=>intro i hi;simp at hi
 |cons a t h ih=>
  intro i hi hu
  cases i with
  |zero=>exact ⟨t,rfl⟩
  |succ i=>exact ih (by simpa using hi) (by simpa using hu)
theorem ge_loop (l b:Addr) (us vs:Array Value) (n n2:Nat) (dd dd2:Option Addr) (sl sl2:Array (Option Value)) (xs ys:List Int) (hx:IntsAre us.toList xs) (hy:IntsAre vs.toList ys) (hl:xs.length=ys.length) (k:Nat) :
  ∀i:Nat,us.size-i=k->Meets (Builtin.«list.__eq__.loop» ⟨[.ref l,.ref b,rawInt i,rawInt 5],[]⟩)
   (fun A R s=>s.heap.get? l=some {cls:=.type "list",dict:=dd,data:=.seq us n,slots:=sl}/\s.heap.get? b=some {cls:=.type "list",dict:=dd2,data:=.seq vs n2,slots:=sl2} /\
    R (.ok (.ret (.bool (geL (xs.drop i) (ys.drop i))))) s):=by
 have e1:us.size=xs.length:=by rw [<- hx.length];rfl
 have e2:vs.size=ys.length:=by rw [<- hy.length];rfl
 induction k with
 |zero=>
  intro i hk prog w A R s h
  obtain ⟨hp,g,d,tk,os⟩:=s;obtain ⟨hl1,hb,h⟩:=h
  wp_walk using wpAny_loadPart' hl1,wpAny_loadPart' hb
  have hi1:us[((i:Nat):Int).toNat]? =none:=by simp;omega
  have hi2:vs[((i:Nat):Int).toNat]? =none:=by simp;omega
  rw [List.drop_of_length_le (by omega:xs.length<=i),List.drop_of_length_le (by omega:ys.length<=i)] at h
  rw [hi1,hi2]
  wp_walk using wpAny_loadPart' hl1,wpAny_loadPart' hb
  show R (.ok (.ret (.bool (decide (us.size>=vs.size))))) _
  rw [e1,e2,hl]
  simpa [geL] using h
 |succ k ih=>
  intro i hk prog w A R s h
  obtain ⟨hp,g,d,tk,os⟩:=s;obtain ⟨hl1,hb,h⟩:=h
  wp_walk using wpAny_loadPart' hl1,wpAny_loadPart' hb
  have hlt:i<us.size:=by omega
  have hlt2:i<vs.size:=by omega
  have hi1:us[((i:Nat):Int).toNat]? =some us[i]:=by simp [hlt]
  have hi2:vs[((i:Nat):Int).toNat]? =some vs[i]:=by simp [hlt2]
  have hc:((i:Int)+1)=((i+1:Nat):Int):=by push_cast;rfl
  have hi3:i<xs.length:=by omega
  have hi4:i<ys.length:=by omega
  obtain ⟨t,ex⟩:=IntsAre.at hx hi3 (by simpa using hlt)
  obtain ⟨t2,ey⟩:=IntsAre.at hy hi4 (by simpa using hlt2)
  rw [Array.getElem_toList] at ex ey
  have d1:xs.drop i=xs[i]'(by omega)::xs.drop (i+1):=List.drop_eq_getElem_cons (by omega)
  have d2:ys.drop i=ys[i]'(by omega)::ys.drop (i+1):=List.drop_eq_getElem_cons (by omega)
  rw [d1,d2] at h
  rw [hi1,hi2,ex,ey]
  refine wpAny_bind (SeqAt.EqAt.int_int _ t _ t2 prog w _ _ ?_)
  by_cases e:xs[i]'(by omega)=ys[i]'(by omega)
  ·rw [show geL (xs[i]'(by omega)::xs.drop (i+1)) (ys[i]'(by omega)::ys.drop (i+1))=geL (xs.drop (i+1)) (ys.drop (i+1)) from if_pos e] at h
   rw [show (xs[i]'(by omega)==ys[i]'(by omega))=true by simp [e]]
   wp_walk
   rw [hc]
   exact ⟨plainId_quiet PySem.MeetsSeq3.plain_eq_loop _,codeAny_builtin PySem.MeetsSeq3.entry_eq_loop (by
    rw [Around.under_plainId PySem.MeetsSeq3.plain_eq_loop _]
    exact ih (i+1) (by omega) prog w A R _ ⟨hl1,hb,h⟩)⟩
  ·rw [show geL (xs[i]'(by omega)::xs.drop (i+1)) (ys[i]'(by omega)::ys.drop (i+1))=decide (ys[i]'(by omega)<=xs[i]'(by omega)) from if_neg e] at h
   rw [show (xs[i]'(by omega)==ys[i]'(by omega))=false by simp [e]]
   wp_walk using wpAny_loadPart' hl1,wpAny_loadPart' hb
   rw [hi1,hi2,ex,ey]
   refine wpAny_bind (cge_int ?_)
   wp_walk
   exact h
theorem lst_ge (l b:Addr) (us vs:Array Value) (n n2:Nat) (dd dd2:Option Addr) (sl sl2:Array (Option Value)) (xs ys:List Int) (hx:IntsAre us.toList xs) (hy:IntsAre vs.toList ys) (hl:xs.length=ys.length) :
  Meets (Builtin.«list.__ge__» ⟨[.ref l,.ref b],[]⟩)
   (fun A R s=>s.heap.get? l=some {cls:=.type "list",dict:=dd,data:=.seq us n,slots:=sl}/\s.heap.get? b=some {cls:=.type "list",dict:=dd2,data:=.seq vs n2,slots:=sl2}/\R (.ok (.ret (.bool (geL xs ys)))) s):=by
 intro prog w A R s h
 obtain ⟨hp,g,d,tk,os⟩:=s;obtain ⟨hl1,hb,h⟩:=h
 have f3:=AutoSeq1.sub_list_list
 wp_walk using wpAny_loadPart' hl1,wpAny_loadPart' hb
 exact ⟨plainId_quiet PySem.MeetsSeq3.plain_eq_loop _,codeAny_builtin PySem.MeetsSeq3.entry_eq_loop (by
  rw [Around.under_plainId PySem.MeetsSeq3.plain_eq_loop _]
  exact ge_loop l b us vs n n2 dd dd2 sl sl2 xs ys hx hy hl _ 0 rfl prog w A R _ ⟨hl1,hb,by simpa using h⟩)⟩
noncomputable def geD2:Dat->Dat->M Dat
 |.lst ds,.lst es=>(bh ds).bind fun xs=>(bh es).bind fun ys=>if xs.length=ys.length then .ok (.bl (geL xs ys)) else stk
 |a,b=>geD a b
@[simp] theorem e_geL2 (xs ys:List Int):geD2 (.lst (xs.map .int)) (.lst (ys.map .int))=if xs.length=ys.length then .ok (.bl (geL xs ys)) else stk:=by
 show (bh _).bind _=_
 rw [cq,ai,cq,ai]
section
variable {X:Cx} {K:PySem.W.Frag} {W:cy} {own:Bool}
theorem o_geD2 (hu:X.A.units+64<cLine) (hK:X.K=K:=by rfl):Op2 K W own X (compareOp .GtE) geD2:=by
 intro pins s σ H x y v u Q I rx ry h
 obtain ⟨F,a,b,s1,qa,qb,p⟩:=h
 by_cases ht:∃ds es,a=.lst ds/\b=.lst es
 ·obtain ⟨ds,es,rfl,rfl⟩:=ht
  subst hK
  have p:aw X.K W own F H ((bh ds).bind fun xs=>(bh es).bind fun ys=>if xs.length=ys.length then .ok (.bl (geL xs ys)) else stk) Q:=p
  cases e1:bh ds with
  |error z=>cases cO e1;rw [e1] at p;exact aw.stuck p
  |ok ns=>
   rw [e1,ai] at p
   cases e2:bh es with
   |error z=>cases cO e2;rw [e2] at p;exact aw.stuck p
   |ok ms=>
    rw [e2,ai] at p
    by_cases hl:ns.length=ms.length
    ·rw [if_pos hl] at p
     obtain ⟨l1,xs,z1,h1,r1⟩:=qa
     subst z1
     cases rx
     obtain ⟨is,w1,p1,_⟩:=I.list (s1.lst h1)
     obtain ⟨l2,ys,z2,h2,r2⟩:=qb
     subst z2
     cases ry
     obtain ⟨js,w2,p2,_⟩:=I.list (s1.lst h2)
     rw [cn r1 e1] at w1
     rw [cn r2 e2] at w2
     obtain ⟨⟨cls,dd,data,sl⟩,ho,hc,n,hd⟩:=p1.isList
     obtain ⟨⟨cls2,dd2,data2,sl2⟩,ho2,hc2,n2,hd2⟩:=p2.isList
     simp only at hc hd hc2 hd2
     subst hc hd hc2 hd2
     exact richCompare_meets_room (op:=.GtE) ⟨_,ho,rfl⟩ ⟨_,ho2,rfl⟩ PySem.F.slot_list_ge PySem.F.entry_list_ge (PySem.F.args_list_ge_2 _ _)
      (lst_ge l1 l2 is.toArray js.toArray n n2 dd dd2 sl sl2 ns ms (kh w1) (kh w2) hl) ⟨ho,ho2,(fun z=>nomatch z),p.blS s1 I⟩ (by omega)
    ·rw [if_neg hl] at p
     exact aw.stuck p
 ·have e:geD2 a b=geD a b:=by
   unfold geD2
   split
   ·exact absurd ⟨_,_,rfl,rfl⟩ ht
   ·rfl
  rw [e] at p
  exact o_ge pins s σ H x y v u Q I rx ry ⟨F,a,b,s1,qa,qb,p⟩
end
end L2
namespace L2
open PySem PySem.Spec PyProof.Rows
structure oI (K:PySem.W.Frag) (C:Addr) (A1:Addr) (T:String) (ys:List Addr) (bs:List Bool):Prop where
 ex:∃b1 b4 b5,bs=[b1,b4,b5]/\kitOne K (.ref C) (.ref A1)=some b1/\kitOne K (.ref C) (.type T)=some b4/\kitAny K (.ref C) (ys.map Value.ref)=some b5
noncomputable def tO (K:PySem.W.Frag) (i j:Nat) (A1:Addr) (T:String) (ys:List Addr) (a C:Addr) (dx:Option Addr):TS:=fun D σ H=>∃b1 b4 b5,oI K C A1 T ys [b1,b4,b5] /\
 oN (tAsg (tLst (fS (rQ i a (XR dx) b1) (fS (rQ i a (XR dx) b4) oO))) (g8 j)) (jO (tBM K "list" i5 (kM j) (fS (tR i a (XR dx) ys b5) oO))) D σ H
section
variable {K:PySem.W.Frag} {ro:Bool} {F0 H0:Hp} {OL:List Nat} {D:Ends} {σ:St} {H:Hp} {Cb A1:Addr} {T:String} {ys:List Addr} {i j:Nat} {fb:ae->M Flo} {tb:List (Addr×List Bool)}
theorem qo {FB F:Hp} {ρ:ae} {a C:Addr} {dx:Option Addr} {bs:List Bool} (r:Rep K F0 H0 FB [] F H σ ρ) (hR:XR dx H) (hX:oI K C A1 T ys bs) (hij:i≠j) (hi:i<σ.length) (hj:j<σ.length) (q:gY K Wno ro F0 H0 FB OL [] D (.ok (.nx ((ρ.set j (some (.lst (bs.map Dat.bl)))).set i none)))) :
  tO K i j A1 T ys a C dx (D.less i) (σ.set i (some (.ref a))) H:=by
 have hz:=sizeLine_eq
 obtain ⟨b1,b4,b5,rfl,hk⟩:=hX.ex
 refine ⟨b1,b4,b5,hX,?_⟩
 have e1:(σ.set i (some (.ref a)))[i]? =some (some (.ref a)):=by rw [List.getElem?_set_self hi]
 refine ⟨e1,hR,e1,hR,by show 2<=sizeLine;omega,fun l hl=>?_⟩
 have e2:((σ.set i (some (.ref a))).set j (some (.ref l)))[j]? =some (some (.ref l)):=by rw [List.getElem?_set_self (by rw [List.length_set];exact hj)]
 have e3:((σ.set i (some (.ref a))).set j (some (.ref l)))[i]? =some (some (.ref a)):=by rw [List.getElem?_set_ne (Ne.symm hij)];exact e1
 refine ⟨.ref l,e2,iq ar,e3,fun p hp=>?_⟩
 have nlp:l≠p:=fun z=>by subst z;rw [ar] at hp;cases hp
 have hpH:H p=none:=by rw [aq (Ne.symm nlp)] at hp;exact hp
 have hR2:XR dx (upd (upd H l (.lst [.bl b1,.bl b4])) p (.tup (ys.map V.ref))):=by
  cases dx with
  |none=>trivial
  |some d=>
   obtain ⟨gs,hg⟩:=(show XDk d H from hR)
   exact ⟨gs,by rw [aq (au hg hpH),aq (au hg hl)];exact hg⟩
 refine ⟨hR2,l,[.bl b1,.bl b4],.bl b5,rfl,rfl,by rw [aq nlp];exact ar,by show 2<sizeLine;omega,?_⟩
 exact q _ _ _ (r.toldG hij hi hj (fun z=>nomatch z) (fun z=>nomatch z) (step_app (xs:=[.bl b1,.bl b4]) r.st.fh hl hpH (Ne.symm nlp)) (r.st.fh.free hl) ⟨_,_,rfl,rfl,_,_,rfl,rfl,_,_,rfl,rfl,rfl⟩)
theorem rs_tryB2 (hT:∀C bs,tb.lookup C=some bs->oH K C Cb/\oI K C A1 T ys bs) (hij:i≠j) (hi:i<σ.length) (hj:j<σ.length)
  (t:tS K Wno ro F0 H0 OL [] [] (lZ i j tb fb) D σ H):∃F1 H1,tS K (WE K (EHB K i Cb (tO K i j A1 T ys) D σ)) ro F1 H1 OL [] [] fb D σ H:=by
 obtain ⟨FB,F,ρ,r,p⟩:=t
 refine ⟨F,H,FB,F,ρ,⟨Step.refl r.st.fh,r.fb,r.len,r.fz,(fun m d e h=>nomatch h),(fun m n d1 d2 c h=>nomatch h)⟩,?_⟩
 cases e:fb ρ with
 |ok fl=>
  rw [vo e] at p
  cases fl with
  |nx ρ'=>exact fun σ' F' H' r'=>p σ' F' H' (r'.back r.st)
  |rt d=>exact fun v F' H' s' q=>p v F' H' (r.st.trans s') (q.back r.st.hh)
  |bk ρ'=>exact fun σ' F' H' r'=>p σ' F' H' (r'.back r.st)
  |ct ρ'=>exact fun σ' F' H' r'=>p σ' F' H' (r'.back r.st)
 |error x=>
  cases x with
  |stuck=>exact p.stuck (by unfold lZ;rw [e])
  |exc C fs=>
   cases hl:tb.lookup C with
   |none=>exact p.stuck (by unfold lZ;rw [e];simp only [hl])
   |some bs=>
    rw [lE e hl] at p
    obtain ⟨hU,hX⟩:=hT C bs hl
    cases fs with
    |nil=>exact fun F' H' s'=>⟨C,rfl,hU,fun a _=>qo (r.step s') trivial hX hij hi hj p⟩
    |cons f fs=>exact fun F' H' s' d gs hd df=>⟨C,rfl,hU,fun a _=>qo (r.step s') ⟨gs,s'.fh d _ hd⟩ hX hij hi hj p⟩
end
section
variable {X:Cx} {K:PySem.W.Frag} {ro:Bool} {OL:List Nat} {Cb A1:Addr} {c n to:Str} {T:String} {ys:List Addr} {i j:Nat} {np hpos pos:Pos} {b₀:Stmt} {body suite:List Stmt} {fb:ae->M Flo} {tb:List (Addr×List Bool)}
theorem ds_tryB2 (hb:∀(pins:List (Addr×Obj)) (σ:St) (E:XK) (xe:Value->Shared->Prop),iT (CXd X.prog X.w) (X.oM xe) pins σ E->DSat K E ro (X.oM xe) OL [] [] pins σ body fb)
  (hB:t8 X.K X.mg c Cb) (hT:∀C bs,tb.lookup C=some bs->oH X.K C Cb/\oI X.K C A1 T ys bs) (hN:X.N.Nodup)
  (hs:∀(a C:Addr) (oe:Obj) (b1 b4 b5:Bool),bB (X.hand a oe) (.builtin "isinstance") (rIsi X.K C a (XR oe.dict))->kitOne X.K (.ref C) (.ref A1)=some b1->kitOne X.K (.ref C) (.type T)=some b4->kitAny X.K (.ref C) (ys.map Value.ref)=some b5 ->
   PSs (X.hand a oe) (b₀::suite) (oN (tAsg (tLst (fS (rQ i a (XR oe.dict) b1) (fS (rQ i a (XR oe.dict) b4) oO))) (g8 j)) (jO (tBM X.K "list" i5 (kM j) (fS (tR i a (XR oe.dict) ys b5) oO)))))
  (hK:X.K=K:=by rfl) (hij:i≠j:=by decide) (hi:X.N[i]? =some n:=by rfl) (hj:X.N[j]? =some to:=by rfl) (hk:X.env.scope.names.lookup n=some .local:=by rfl)
  (hg:Gl X c:=by rfl) (hex:X.ex=[]:=by rfl) (hstk:X.stack=X.env::X.outer:=by rfl) (hfr:X.env.frame=some X.env.locals:=by rfl) (hdb:(c==("__debug__":Str))=false:=by decide) :
  DS K Wno ro X OL [] [] (.Try body [.ExceptHandler (some (.Name c np)) (some n) (b₀::suite) hpos] [] [] pos) (lZ i j tb fb):=fun F0 H0 pins s σ H D I z=>by
 subst hK
 refine ps_tryB (tb:=fun E D σ H=>∃F1 H1,tS X.K (WE X.K E) ro F1 H1 OL [] [] fb D σ H) (ts:=tO X.K i j A1 T ys) (fun pins σ E xe hp s H D I ⟨F1,H1,q⟩=>hb pins σ E xe hp F1 H1 s H D I q) (fun a C oe hc Z hd=>?_) hB hN hi hk hg hex hstk hfr hdb pins s σ H D I ?_
 ·intro pins s σ H D I q
  obtain ⟨b1,b4,b5,hX,q⟩:=q
  obtain ⟨_,_,_,e,k1,k4,k5⟩:=hX.ex
  simp only [List.cons.injEq,and_true] at e
  obtain ⟨rfl,rfl,rfl⟩:=e
  exact hs a C oe _ _ _ (c_isiA F.attrBase_ValueError Z hc hd) k1 k4 k5 pins s σ H D I q
 ·exact rs_tryB2 hT hij (by rw [I.len];exact (List.getElem?_eq_some_iff.mp hi).1) (by rw [I.len];exact (List.getElem?_eq_some_iff.mp hj).1) z
end
theorem tell1 {P:Addr->List Bool->Prop} {C1:Addr} {l1:List Bool} (h1:P C1 l1):∀C bs,List.lookup C [(C1,l1)]=some bs->P C bs:=by
 intro C bs h
 rw [List.lookup_cons] at h
 cases e1:C==C1 with
 |true=>rw [e1] at h;cases h;rw [beq_iff_eq.mp e1];exact h1
 |false=>rw [e1] at h;cases h
end L2
namespace L2
open PySem PySem.Spec PyProof.Rows
noncomputable def unF:HO->HO
 |.frz _ u=>u
 |o=>o
open Classical in
noncomputable def kL (H H1:Hp):Hp:=fun b=>if H b=none then (H1 b).map unF else H1 b
noncomputable def tThaw (t:TE):TE:=fun σ H Q=>t σ H fun v H1=>Q v (kL H H1)
theorem iw {H H1:Hp} {b:Addr} (h:H1 b=none):kL H H1 b=none:=by unfold kL;rw [h];split<;>rfl
theorem lV {H H1:Hp} {b:Addr} {o:HO} (h:H b=some o):kL H H1 b=H1 b:=by unfold kL;rw [if_neg (by rw [h];exact fun z=>nomatch z)]
theorem qh {H H1:Hp} {b:Addr} (h:H b=none):kL H H1 b=(H1 b).map unF:=by unfold kL;rw [if_pos h]
theorem jN {H H1:Hp} {b:Addr} {o:HO} (h:H1 b=some o) (n:unF o=o):kL H H1 b=some o:=by
 unfold kL;rw [h];split
 ·show some (unF o)=some o;rw [n]
 ·rfl
theorem Inv.kL {X:Cx} {pins:List (Addr×Obj)} {σ:List (Option V)} {H H1:Hp} {s s1:Shared} (I:Inv X pins σ H s) (J:Inv X pins σ H1 s1):Inv X pins σ (kL H H1) s1 where
 ok:=J.ok
 os:=J.os
 bare:=J.bare
 base:=⟨J.base.keep,J.base.slot,fun b o e n x=>iw (J.base.free b o e n x),J.base.there,fun b xs e=>jN (J.base.tups b xs e) rfl,fun b o u e=>by rw [lV (I.base.frzs b o u e)];exact J.base.frzs b o u e,fun b ps e=>by
  obtain ⟨m,q⟩:=J.base.tbls b ps e
  exact ⟨m,jN q rfl⟩⟩
 loc:=J.loc
 cell:=J.cell
 free:=iw J.free
 freeC:=fun x c e=>iw (J.freeC x c e)
 pin:=fun p hp=>let ⟨a,b,c⟩:=J.pin p hp;⟨a,iw b,c⟩
 hok:=fun b o e=>by
  have st:∀u,cA X.prog X.w H1 s1.heap b u->cA X.prog X.w (L2.kL H H1) s1.heap b u:=fun u z=>z.pf (fun _ _ _ q=>q) (fun c q=>jN q rfl) fun c xs q=>jN q rfl
  cases hb:H b with
  |some u=>rw [lV hb] at e;exact st _ (J.hok b o e)
  |none=>
   rw [qh hb] at e
   cases h1:H1 b with
   |none=>rw [h1] at e;cases e
   |some u=>
    rw [h1] at e
    cases e
    have z:=J.hok b u h1
    cases u with
    |frz ob v=>exact st _ z.2
    |_=>exact st _ z
 len:=J.len
noncomputable def bare1:Option Dat->Option Dat
 |some (.int i)=>some (.int i)
 |_=>none
noncomputable def lu (ρ:ae):ae:=ρ.map bare1
noncomputable def isI:Dat->Bool
 |.int _=>true
 |_=>false
noncomputable def jR (n:Nat):List Dat->Bool
 |[]=>true
 |.lst es::r=>es.all isI&&decide (es.length+n<=sizeLine)&&jR n r
 |_=>false
noncomputable def anyT (so:Nat) (t:ae->M Bool):List Dat->ae->M Bool
 |[],_=>.ok false
 |d::ds,ρ=>(t (ρ.set so (some d))).bind fun b=>if b=true then .ok true else anyT so t ds ρ
noncomputable def s9 (h du so:Nat) (fe f2:ae->M Dat) (t1 t2:ae->M Bool) (g:ae->M Flo):ae->M Flo:=fun ρ=>(fe (lu ρ)).bind fun d=>match d with
 |.lst rows=>if (decide (h<ρ.length)&&decide (so<ρ.length)&&jR rows.length rows)=true then
   (f2 (ρ.set h none)).bind fun e=>
   (t1 (((ρ.set h none).set du (some e)).set h (some (.lst rows)))).bind fun b=>if b=true then .ok (.rt (.bl false)) else
   (anyT so t2 rows (((ρ.set h none).set du (some e)).set h (some (.lst rows)))).bind fun b=>if b=true then .ok (.rt (.bl false)) else
   g (((ρ.set h none).set du (some e)).set so none)
  else stk
 |_=>stk
noncomputable def sm (K:PySem.W.Frag):Bool:=K.all fun p=> !(p.2.cls==.type "list")
section
variable {K:PySem.W.Frag}
theorem eR.bareE {F:Hp} {σ:St} {ρ:ae} (r:eR K F σ ρ) (G:Hp):eR K G σ (lu ρ):=
 ⟨by unfold L2.lu;rw [List.length_map,r.len],fun i d e=>by
  unfold L2.lu at e
  rw [List.getElem?_map] at e
  cases h:ρ[i]? with
  |none=>rw [h] at e;cases e
  |some o=>
   rw [h] at e
   cases o with
   |none=>cases e
   |some z=>
    cases z with
    |int k=>
     cases e
     obtain ⟨v,h1,h2⟩:=r.sl i _ h
     exact ⟨v,h1,h2⟩
    |_=>cases e⟩
theorem qE (h:sm K=true) {a:Addr} {o:Obj} (e:K.lookup a=some o) (c:o.cls=.type "list"):False:=by
 have key:∀L:List (Addr×Obj),L.lookup a=some o->(L.all fun p=> !(p.2.cls==.type "list"))=true->False:=by
  intro L
  induction L with
  |nil=>intro e;cases e
  |cons p L ih=>
   obtain ⟨b,u⟩:=p
   intro e h
   rw [List.all_cons,Bool.and_eq_true] at h
   rw [List.lookup_cons] at e
   cases hb:a==b with
   |true=>
    rw [hb] at e
    cases e
    have:=h.1
    rw [c] at this
    exact absurd this (by decide)
   |false=>rw [hb] at e;exact ih e h.2
 exact key K e h
theorem SqL.kL (hn:sm K=true) {G H H1:Hp} {b:Addr} {y:List V} (s:aC G H1) (n:H b=none) (q:SqL K G b y):kL H H1 b=some (.lst y):=by
 rcases q with (q|⟨o,q⟩)|⟨o,_,_,e,c,_⟩
 ·exact jN (s _ _ q) rfl
 ·rw [qh n,s _ _ q];rfl
 ·exact (qE hn e c).elim
end
section
variable {K:PySem.W.Frag} {H0 G H:Hp} {hh:Addr} {bs:List Addr} {ys:List (List V)} {ds:List (List Dat)}
theorem rs_apps {so h:Nat} {D:Ends} {σ:St} (l:tm K H0 G H hh bs ys ds) (hl:∀y∈ys,y.length+bs.length<=sizeLine) (hh':σ[h]? =some (some (.ref hh))) (hso:so<σ.length)
  (next:∀σ' H',σ'.length=σ.length->(∀j,j≠so->σ'[j]? =σ[j]?)->aC G H'->aC H0 H'->H' hh=some (.lst (bs.map .ref))->D.nx σ' H'):tFor (iSeq K (kM h)) (g8 so) (jO (tBM K "list" i5 (kM so) (fS (tC (.int 0)) oO))) D σ H:=by
 have hb:∀b∈bs,G b=none/\H0 b=none:=fun b h=>by
  obtain ⟨j,hj,rfl⟩:=List.getElem_of_mem h
  have:=l.own j bs[j] (by simp [hj])
  exact ⟨this.1,this.2.1⟩
 refine ⟨.ref hh,hh',hh,rfl,.inl ⟨⟨_,SqL.of l.top⟩,fun i m σ' H'=>m+i=bs.length/\σ'.length=σ.length/\(∀j,j≠so->σ'[j]? =σ[j]?)/\aC G H'/\aC H0 H'/\H' hh=some (.lst (bs.map .ref))/\∀b∈bs,∃y,H' b=some (.lst y)/\y.length+m<=sizeLine,
  ⟨bs.length,rfl,rfl,fun _ _=>rfl,l.sg,l.s0,l.top,fun b h=>?_⟩,fun i m σ' H' ⟨e1,e2,e3,e4,e5,e6,e7⟩=>?_⟩⟩
 ·obtain ⟨j,hj,rfl⟩:=List.getElem_of_mem h
  obtain ⟨_,_,y,_,h3,_,h5,_⟩:=l.own j bs[j] (by simp [hj])
  exact ⟨y,h5,hl y (List.mem_of_getElem? h3)⟩
 ·by_cases hm:m=0
  ·exact .inl ⟨⟨_,SqL.of e6,by rw [List.length_map];omega⟩,next σ' H' e2 e3 e4 e5 e6⟩
  ·have hi:i<bs.length:=by omega
   refine .inr ⟨⟨_,.ref bs[i],SqL.of e6,by simp [hi]⟩,_,fun σ2 H2 z=>⟨m-1,by omega,z⟩,fun x H2 ⟨eh,ey⟩=>?_⟩
   subst eh
   have ex:=ey _ (SqL.of e6)
   rw [List.getElem?_map,List.getElem?_eq_getElem hi] at ex
   cases ex
   have hmem:bs[i]∈bs:=List.getElem_mem hi
   obtain ⟨y,hy,hz⟩:=e7 _ hmem
   have ne:∀{c:Addr} {o:HO},G c=some o\/H0 c=some o->c≠bs[i]:=fun {c o} h z=>by
    subst z
    rcases h with h|h
    ·rw [(hb _ hmem).1] at h;cases h
    ·rw [(hb _ hmem).2] at h;cases h
   refine ⟨.ref bs[i],by rw [List.getElem?_set_self (by omega)],iq hy,bs[i],y,.int 0,rfl,rfl,hy,by omega,by omega,by rw [List.length_set];exact e2,fun j hj=>by rw [List.getElem?_set_ne (Ne.symm hj)];exact e3 j hj,fun c o h=>by rw [aq (ne (.inl h))];exact e4 _ _ h,fun c o h=>by rw [aq (ne (.inr h))];exact e5 _ _ h,?_,fun b h=>?_⟩
   ·rw [aq (fun z=>l.nt (by rw [z];exact hmem))];exact e6
   ·by_cases z:b=bs[i]
    ·exact ⟨y++[.int 0],by rw [z,ar],by rw [List.length_append];simp only [List.length_singleton];omega⟩
    ·rw [aq z]
     obtain ⟨y',q1,q2⟩:=e7 b h
     exact ⟨y',q1,by omega⟩
theorem rs_anyT {so h:Nat} {D:Ends} {σ:St} {t:ae->M Bool} {ρ:ae} {b:Bool} (l:tm K H0 G H hh bs ys ds) (hlen:bs.length=ds.length) (r:eR K G σ ρ) (hh':σ[h]? =some (some (.ref hh))) (hso:so<σ.length) (ne:so≠h)
  (hb:anyT so t (ds.map .lst) (ρ.set h (some (.lst (ds.map .lst))))=.ok b)
  (nx:b=false->∀σ' H',σ'.length=σ.length->(∀j,j≠so->σ'[j]? =σ[j]?)->Step G H G H'->D.nx σ' H')
  (rt:b=true->∀H',Step G H G H'->D.rt (.bl false) H'):tFor (iSeq K (kM h)) (g8 so) (tIfS (tDT K Wno t) (tRet (tC (.bl false))) pe) D σ H:=by
 refine ⟨.ref hh,hh',hh,rfl,.inl ⟨⟨_,SqL.of l.top⟩,fun i m σ' H'=>m+i=bs.length/\σ'.length=σ.length/\(∀j,j≠so->σ'[j]? =σ[j]?)/\Step G H G H'/\anyT so t ((ds.map .lst).drop i) (ρ.set h (some (.lst (ds.map .lst))))=.ok b,
  ⟨bs.length,rfl,rfl,fun _ _=>rfl,Step.refl l.sg,hb⟩,fun i m σ' H' ⟨e1,e2,e3,e4,e5⟩=>?_⟩⟩
 have l':=l.step e4
 by_cases hm:m=0
 ·refine .inl ⟨⟨_,SqL.of l'.top,by rw [List.length_map];omega⟩,nx ?_ σ' H' e2 e3 e4⟩
  rw [List.drop_eq_nil_of_le (by rw [List.length_map];omega)] at e5
  exact (Except.ok.inj e5).symm
 ·have hi:i<bs.length:=by omega
  have hid:i<ds.length:=by omega
  refine .inr ⟨⟨_,.ref bs[i],SqL.of l'.top,by simp [hi]⟩,_,fun σ2 H2 z=>⟨m-1,by omega,z⟩,fun x H2 ⟨eh,ey⟩=>?_⟩
  subst eh
  have ex:=ey _ (SqL.of l'.top)
  rw [List.getElem?_map,List.getElem?_eq_getElem hi] at ex
  cases ex
  have hrow:aZ K (iK G H2 hh bs) (.lst ds[i]) (.ref bs[i]):=by
   obtain ⟨_,_,y,d',_,h4,h5,h6⟩:=l'.own i bs[i] (by simp [hi])
   rw [List.getElem?_eq_getElem hid] at h4
   cases h4
   refine ⟨bs[i],y,rfl,SqL.of ?_,ak.mono l'.ff h6⟩
   unfold iK
   rw [if_pos (.inr (List.getElem_mem hi))]
   exact h5
  have rx:eR K (iK G H2 hh bs) (σ'.set so (some (.ref bs[i]))) ((ρ.set h (some (.lst (ds.map .lst)))).set so (some (.lst ds[i]))):=by
   have a1:=r.but (i:=so) e2 e3
   have a2:=(a1.mono l'.ff).tell (i:=h) (d:=.lst (ds.map .lst)) (v:=.ref hh) (by rw [e3 h (Ne.symm ne)];exact hh') (l'.deeps hlen)
   have a3:=a2.set hrow so
   rw [List.set_comm _ _ (Ne.symm ne),List.set_set,List.set_comm _ _ ne] at a3
   exact a3
  rw [List.drop_eq_getElem_cons (by rw [List.length_map];exact hid)] at e5
  simp only [List.getElem_map,anyT] at e5
  have sf:∀{G3 H3:Hp},Step (iK G H2 hh bs) H2 G3 H3->Step G H2 G H3:=fun t=>⟨aC.refl _,t.hh,l'.sg.trans t.hh,fun _ _ h=>.inl h⟩
  refine i3 rx l'.fh (fun e he=>by rw [he] at e5;cases e5) fun b1 hb1 G3 H3 t3=>?_
  rw [hb1] at e5
  simp only [ai] at e5
  cases b1 with
  |true=>
   rw [if_pos rfl] at e5
   exact rt (Except.ok.inj e5).symm H3 (e4.trans (sf t3))
  |false=>
   rw [if_neg (by decide)] at e5
   exact ⟨by omega,by rw [List.length_set];exact e2,fun j hj=>by rw [List.getElem?_set_ne (Ne.symm hj)];exact e3 j hj,e4.trans (sf t3),e5⟩
end
section
variable {K:PySem.W.Frag}
theorem Rep.ofE {F0 H0 FB F H:Hp} {σ:St} {ρ:ae} (r:eR K F σ ρ) (st:Step F0 H0 F H) (fb:aC FB F):Rep K F0 H0 FB [] F H σ ρ:=
 ⟨st,fb,r.len,fun i d e _=>r.sl i d e,(fun _ _ _ h=>nomatch h),(fun _ _ _ _ _ h=>nomatch h)⟩
theorem l7 {G:Hp} {n:Nat}:∀{rows:List Dat} {xs:List V},ak K G rows xs->jR n rows=true->∃(bs:List Addr) (ys:List (List V)) (ds:List (List Dat)),rows=ds.map .lst/\xs=bs.map .ref/\bs.length=ds.length/\ys.length=ds.length/\(∀y∈ys,y.length+n<=sizeLine/\∀v∈y,∃i,v=.int i)/\∀(j:Nat) (b:Addr),bs[j]? =some b->∃y d,ys[j]? =some y/\ds[j]? =some d/\SqL K G b y/\∀F,ak K F d y
 |[],xs,q,_=>⟨[],[],[],rfl,q,rfl,rfl,by simp,by simp⟩
 |d::r,xs,⟨v,vs,e,q,t⟩,h=>by
  cases d with
  |lst es=>
   simp only [jR,Bool.and_eq_true,decide_eq_true_eq] at h
   obtain ⟨⟨h1,h2⟩,h3⟩:=h
   obtain ⟨bs,ys,ds,e1,e2,e3,e4,e5,e6⟩:=l7 t h3
   obtain ⟨b,y,ev,sq,dq⟩:=q
   have fl:∀{es:List Dat} {y:List V},es.all isI=true->ak K G es y->(∀v∈y,∃i,v=.int i)/\∀F,ak K F es y:=by
    intro es
    induction es with
    |nil=>intro y _ q;rw [show y=[] from q];exact ⟨by simp,fun _=>rfl⟩
    |cons a as ih=>
     intro y ha ⟨v,vs,ev,qa,qr⟩
     rw [List.all_cons,Bool.and_eq_true] at ha
     cases a with
     |int k=>
      obtain ⟨z1,z2⟩:=ih ha.2 qr
      have qa:v=.int k:=qa
      subst ev qa
      exact ⟨fun v hv=>(List.mem_cons.mp hv).elim (fun e=>⟨k,e⟩) (z1 v),fun F=>⟨_,_,rfl,rfl,z2 F⟩⟩
     |_=>cases ha.1
   obtain ⟨f1,f2⟩:=fl h1 dq
   subst e ev e1 e2
   refine ⟨b::bs,y::ys,es::ds,rfl,rfl,by simp [e3],by simp [e4],fun z hz=>?_,fun j c hj=>?_⟩
   ·rcases List.mem_cons.mp hz with w|w
    ·subst w;exact ⟨by rw [dq.length];exact h2,f1⟩
    ·exact e5 z w
   ·cases j with
    |zero=>cases hj;exact ⟨y,es,rfl,rfl,sq,f2⟩
    |succ j=>exact e6 j c hj
  |_=>cases h
theorem rs_lent {h du so:Nat} {fe f2:ae->M Dat} {t1 t2:ae->M Bool} {g:ae->M Flo} {F0 H0:Hp} {OL O':List Nat} {D:Ends} {σ:St} {H:Hp} (hK:sm K=true) (h1:du≠h) (h2:so≠h)
  (t:tS K Wno false F0 H0 OL [] O' (s9 h du so fe f2 t1 t2 g) D σ H) :
  oN (tAsg (tThaw (tD K Wno false fe)) (g8 h)) (oN (tAsg (tD K Wno false f2) (g8 du)) (oN (tIfS (tDT K Wno t1) (tRet (tC (.bl false))) pe)
   (oN (tFor (iSeq K (kM h)) (g8 so) (tIfS (tDT K Wno t2) (tRet (tC (.bl false))) pe)) (oN (tFor (iSeq K (kM h)) (g8 so) (jO (tBM K "list" i5 (kM so) (fS (tC (.int 0)) oO))))
   (oN (jO (tBM0 K "list" uf (kM h))) (tS K Wno false F0 H0 OL [] O' g)))))) D σ H:=by
 obtain ⟨FB,F,ρ,r,p⟩:=t
 have rE:=r.repE
 refine aW (rE.bareE fun _=>none) (fun _ _ z=>nomatch z) (fun e he=>by unfold s9 at p;rw [he] at p;exact p) fun d hd v G H1 s1 q1=>?_
 unfold s9 at p
 rw [hd] at p
 simp only [ai] at p
 split at p
 rotate_left
 ·exact p.stuck rfl
 rename_i rows
 split at p
 rotate_left
 ·exact p.stuck rfl
 rename_i hc
 simp only [Bool.and_eq_true,decide_eq_true_eq] at hc
 obtain ⟨⟨hl,hsl⟩,hr⟩:=hc
 obtain ⟨hh,xs,rfl,sq,dq⟩:=(show aZ K G (.lst rows) v from q1)
 obtain ⟨bs,ys,ds,rfl,rfl,e3,e4,e5,e6⟩:=l7 dq hr
 have nwG:∀{b:Addr} {y:List V},SqL K G b y->H b=none:=fun {b y} q=>by
  rcases q with (q|⟨o,q⟩)|⟨o,_,_,e,c,_⟩
  ·exact (s1.nw _ _ q).elim (fun z=>nomatch z) id
  ·exact (s1.nw _ _ q).elim (fun z=>nomatch z) id
  ·exact (qE hK e c).elim
 have th:∀{b:Addr} {y:List V},SqL K G b y->kL H H1 b=some (.lst y):=fun q=>SqL.kL hK s1.fh (nwG q) q
 have st:Step F H F (kL H H1):=by
  have z:aC H (kL H H1):=fun b o e=>by rw [lV e];exact s1.hh _ _ e
  exact Step.same r.st.fh z
 have hs:h<σ.length:=by rw [<- rE.len];exact hl
 have L:tm K H0 F (kL H H1) hh bs ys ds:={
  sg:=st.fh,s0:=r.st.hh.trans st.hh,top:=th sq,gh:=r.st.fh.free (nwG sq),h0:=r.st.hh.free (nwG sq)
  nt:=fun z=>by
   obtain ⟨j,hj,e⟩:=List.getElem_of_mem z
   obtain ⟨y,d,g1,g2,g3,_⟩:=e6 j bs[j] (by simp [hj])
   have a1:=th g3
   rw [e,th sq] at a1
   have a2:bs.map V.ref=y:=by injection a1 with a1;injection a1
   obtain ⟨i,hi⟩:=(e5 y (List.mem_of_getElem? g1)).2 (.ref hh) (by rw [<- a2];exact List.mem_map.mpr ⟨_,z,rfl⟩)
   cases hi
  own:=fun j b e=>by
   obtain ⟨y,d,g1,g2,g3,g4⟩:=e6 j b e
   exact ⟨r.st.fh.free (nwG g3),r.st.hh.free (nwG g3),y,d,g1,g2,th g3,g4 F⟩}
 have r1:eR K F (σ.set h (some (.ref hh))) (ρ.set h none):=rE.hide h (some (.ref hh))
 refine aW r1 L.sg (fun e he=>by rw [he] at p;exact p) fun e he v F2 H2 s2 q2=>?_
 rw [he] at p
 simp only [ai] at p
 have L2':=L.step s2
 have r2:=(r1.mono s2.ff).set q2 du
 have hsh:((σ.set h (some (.ref hh))).set du (some v))[h]? =some (some (.ref hh)):=by
  rw [List.getElem?_set_ne h1];exact List.getElem?_set_self hs
 have W2:=(r.st.trans st).trans s2
 refine i3 (eR.tell (d:=.lst (ds.map .lst)) (r2.mono L2'.ff) hsh (L2'.deeps e3)) L2'.fh (fun e he=>by rw [he] at p;exact p) fun b hb G3 H3 t3=>?_
 rw [hb] at p
 simp only [ai] at p
 have t3':Step F2 H2 F2 H3:=⟨aC.refl _,t3.hh,L2'.sg.trans t3.hh,fun _ _ h=>.inl h⟩
 have W3:=W2.trans t3'
 cases b with
 |true=>rw [if_pos rfl] at p;exact p (.bl false) F2 H3 W3 rfl
 |false=>
 rw [if_neg (by decide)] at p
 have L3:=L2'.step t3'
 have hsl':so<((σ.set h (some (.ref hh))).set du (some v)).length:=by rw [List.length_set,List.length_set,<- rE.len];exact hsl
 cases hb2:anyT so t2 (ds.map .lst) (((ρ.set h none).set du (some e)).set h (some (.lst (ds.map .lst)))) with
 |error z=>rw [hb2] at p;exact False.elim p
 |ok b=>
 rw [hb2] at p
 simp only [ai] at p
 refine rs_anyT L3 e3 r2 hsh hsl' h2 hb2 (fun eb σ4 H4 l4 k4 s4=>?_) (fun eb H4 s4=>?_)
 rotate_left
 ·subst eb
  rw [if_pos rfl] at p;exact p (.bl false) F2 H4 (W3.trans s4) rfl
 ·subst eb
  rw [if_neg (by decide)] at p
  have L4:=L3.step s4
  have hsh4:σ4[h]? =some (some (.ref hh)):=by rw [k4 h (Ne.symm h2)];exact hsh
  refine rs_apps L4 (fun y hy=>by have:=(e5 y hy).1;rw [List.length_map] at this;omega) hsh4 (by rw [l4];exact hsl') fun σ5 H5 l5 k5 g5 z5 top5=>?_
  have hsh5:σ5[h]? =some (some (.ref hh)):=by rw [k5 h (Ne.symm h2)];exact hsh4
  refine ⟨.ref hh,hsh5,iq top5,hh,_,rfl,rfl,top5,FB,F2,_,?_,p⟩
  have r5:eR K F2 σ5 (((ρ.set h none).set du (some e)).set so none):=r2.but (i:=so) (l5.trans l4) fun j hj=>(k5 j hj).trans (k4 j hj)
  have ne:∀{c:Addr} {o:HO},F2 c=some o\/H0 c=some o->c≠hh:=fun {c o} h z=>by
   subst z
   rcases h with h|h
   ·rw [L4.gh] at h;cases h
   ·rw [L4.h0] at h;cases h
  exact Rep.ofE r5 ⟨W3.ff,fun c o h=>by rw [aq (ne (.inr h))];exact z5 _ _ h,fun c o h=>by rw [aq (ne (.inl h))];exact g5 _ _ h,W3.nw⟩ (r.fb.trans (st.ff.trans s2.ff))
end
section
variable {X:Cx} {K:PySem.W.Frag} {e:Expr} {t:TE}
theorem pe_thaw (h:PE X e t):PE X e (tThaw t):=fun pins s σ H Q I z=>thn (h pins s σ H _ I z) fun v s1 ⟨y,H1,I1,r1,q1⟩=>⟨y,kL H H1,I.kL I1,r1,q1⟩
theorem ds_lent {sts:List Stmt} {h du so:Nat} {fe f2:ae->M Dat} {t1 t2:ae->M Bool} {g:ae->M Flo} {OL O':List Nat} (hK:sm K=true)
  (p:∀F0 H0,PSs X sts (oN (tAsg (tThaw (tD K Wno false fe)) (g8 h)) (oN (tAsg (tD K Wno false f2) (g8 du)) (oN (tIfS (tDT K Wno t1) (tRet (tC (.bl false))) pe)
   (oN (tFor (iSeq K (kM h)) (g8 so) (tIfS (tDT K Wno t2) (tRet (tC (.bl false))) pe)) (oN (tFor (iSeq K (kM h)) (g8 so) (jO (tBM K "list" i5 (kM so) (fS (tC (.int 0)) oO))))
   (oN (jO (tBM0 K "list" uf (kM h))) (tS K Wno false F0 H0 OL [] O' g))))))))
  (h1:du≠h:=by decide) (h2:so≠h:=by decide):DSs K Wno false X OL [] O' sts (s9 h du so fe f2 t1 t2 g):=fun F0 H0=>PSs.imp (p F0 H0) fun _ _ _=>rs_lent hK h1 h2
end
end L2
namespace Ru
open PySem L2 PyProof.Rows
noncomputable def fm (CT:Addr) (n:Nat) (R:List Dat->M Dat):ae->M Flo:=
 sIf (fB (f2 eqM (ao 1) (fC (.int 0))))
   (ji (fL bw (aa (fL fO aX) aX)))
   iA
noncomputable def dk (CT:Addr) (n:Nat) (R:List Dat->M Dat):ae->M Flo:=
 (m5 [2] 2 (f2 iV (fL fO (aa (ao 4) aX)) (ao 5)))
noncomputable def dj (CT:Addr) (n:Nat) (R:List Dat->M Dat):ae->M Flo:=
 (m4 [2] (fIt (fL R (aa (fSl dY (ao 0) (i8 (f2 iV (ao 3) (fC (.int 1)))) jZ) (aa (f2 rT (ao 1) (fC (.int 1))) aX)))) (.nm 5) (dk CT n R))
noncomputable def dC (CT:Addr) (n:Nat) (R:List Dat->M Dat):ae->M Flo:=
 (fy (fm CT n R)
  (fy (bL [] 2 (fL bw aX))
  (fy (m4 [2] (o5 (ao 0)) (.tp [3,4]) (dj CT n R))
  (ji (ao 2)))))
noncomputable def bU (CT:Addr) (n:Nat):Nat->ae->M Flo
 |0=>fun _=>stk
 |d+1=>dC CT n (fA 6 2 (bU CT n d))
noncomputable def eW (CT:Addr) (n:Nat):List Dat->M Dat:=fA 6 2 (bU CT n 6)
noncomputable def eI (CT:Addr) (n:Nat):ae->M Flo:=
 (fy (bL [] 3 (fTR (gm jy (aa (fL maxD (aa (fC (.int 0)) (aa (f2 rT (ao 2) (ao 1)) aX))) aX))))
  (fy (bL [] 4 (fLR (gm oP (aa (fL tj (aa (ao 3) aX)) (aa (fL minD (aa (ao 0) (aa (f2 iV (ao 2) (ao 1)) aX))) aX)))))
  (ji (gE (fIt (fL (eW CT n) (aa (ao 4) (aa (f2 rT (ao 2) (fL tj (aa (ao 3) aX))) aX)))) [none,some 3] (.nm 0) qV (f2 iV (ao 1) (ao 0))))))
noncomputable def b8 (CT:Addr) (n:Nat):List Dat->M Dat:=fA 5 3 (eI CT n)
noncomputable def dJ (CT:Addr) (n:Nat):ae->M Flo:=
 (ji (gE (jk (ao 0)) [none,none,some 0] (.tp [0,1]) qV (fL fO (aa (f2 iV (fSl dY (ao 2) jZ (i8 (ao 0))) (fSl dY (ao 2) (i8 (f2 iV (ao 0) (fC (.int 1)))) jZ)) (aa (ao 1) aX)))))
noncomputable def bE (CT:Addr) (n:Nat):List Dat->M Dat:=fA 1 1 (dJ CT n)
noncomputable def cU (CT:Addr) (n:Nat):ae->M Flo:=
 (pk 4 (ao 5) (fL sumD (aa (gE (fIt (fL (bE CT n) (aa (ao 5) aX))) [none,none,some 2] (.tp [0,1]) qV (nZ (ao 2) (ao 0) (fC (.int 0)))) aX)))
noncomputable def cT (CT:Addr) (n:Nat):ae->M Flo:=
 (fy (bL [] 4 (fC (.dic [])))
  (fy (m4 [4] (fIt (fL (b8 CT n) (aa (ao 0) (aa (ao 1) (aa (ao 3) aX))))) (.nm 5) (cU CT n))
  (bL [] 2 (ao 4))))
noncomputable def g6 (CT:Addr) (n:Nat):ae->M Flo:=
 (fy (bL [] 2 (f2 mkD1 (fL fO aX) (fC (.int 1))))
  (fy (m4 [] (gm oP (aa (fC (.int 1)) (aa (f2 iV (ao 0) (fC (.int 1))) aX))) (.nm 3) (cT CT n))
  (ji (f1 rS (ao 2)))))
noncomputable def aG (CT:Addr) (n:Nat):List Dat->M Dat:=fA 6 2 (g6 CT n)
noncomputable def dc (CT:Addr) (n:Nat):ae->M Flo:=
 sIf (fNoX (fB (f2 gtD (fL (aG CT n) (aa (ao 0) (aa (ao 1) aX))) (fC (.int 5000)))))
   (sExc CT)
   iA
noncomputable def bZ (CT:Addr) (n:Nat):ae->M Flo:=
 sIf (fAnd (fB (f2 k8 (ao 7) (ao 6))) (fB (f2 inKD (fL qc (aa (fL gp (aa (f2 iV (ao 6) (fL bw (aa (ao 7) aX))) aX)) aX)) (ao 4))))
   (m5 [5] 5 (f2 iV (ao 6) (fL bw (aa (ao 7) aX))))
   iA
noncomputable def aJ (CT:Addr) (n:Nat):ae->M Flo:=
 (bZ CT n)
noncomputable def cf (CT:Addr) (n:Nat):ae->M Flo:=
 (m4 [5] (gm jy (aa (ao 0) aX)) (.nm 7) (aJ CT n))
noncomputable def cb (CT:Addr) (n:Nat):ae->M Flo:=
 (fy (bL [] 4 (fL dictA (aa (gE (fIt (fL (b8 CT n) (aa (ao 0) (aa (ao 1) (aa (ao 3) aX))))) [none] (.nm 0) qV (fL fO (aa (ao 0) (aa (fC (.bl true)) aX)))) aX)))
  (fy (bL [] 5 (fL bw aX))
  (fy (m4 [5] (fIt (ao 2)) (.nm 6) (cf CT n))
  (bL [] 2 (ao 5)))))
noncomputable def cP (CT:Addr) (n:Nat):ae->M Flo:=
 (fy (dc CT n)
  (fNoX (fy (bL [] 2 (fL bw (aa (fL bw aX) aX)))
  (fy (m4 [] (gm oP (aa (fC (.int 1)) (aa (f2 iV (ao 0) (fC (.int 1))) aX))) (.nm 3) (cb CT n))
  (ji (ao 2))))))
noncomputable def av (CT:Addr) (n:Nat):List Dat->M Dat:=fA 8 2 (cP CT n)
noncomputable def cW (CT:Addr) (n:Nat):ae->M Flo:=
 (fy (bL [4] 6 (gE (gm jy (aa (ao 0) aX)) [none,some 5] (.nm 0) (fB (f2 k8 (ao 0) (ao 1))) (ao 0)))
  (sExt [4] 4 (gE (fIt (ao 6)) [none,some 1,some 3,some 5] (.nm 0) (fB (hW leD leD (f1 negD (ao 1)) (f2 rT (ao 0) (ao 2)) (ao 1))) (f2 iV (ao 3) (fL bw (aa (ao 0) aX))))))
noncomputable def cV (CT:Addr) (n:Nat):ae->M Flo:=
 (fy (bL [] 4 (fL bw aX))
  (fy (m4 [4] (fIt (ao 2)) (.nm 5) (cW CT n))
  (bL [] 2 (ao 4))))
noncomputable def g7 (CT:Addr) (n:Nat):ae->M Flo:=
 (fy (bL [] 2 (fL bw (aa (fL bw aX) aX)))
  (fy (m4 [] (gm jy (aa (ao 0) aX)) (.nm 3) (cV CT n))
  (ji (ao 2))))
noncomputable def bX (CT:Addr) (n:Nat):List Dat->M Dat:=fA 7 2 (g7 CT n)
noncomputable def gf (CT:Addr) (n:Nat):ae->M Flo:=
 lZ 3 2 [(CT,[true,true,false])] (l6 [] (fL (av CT n) (aa (ao 0) (aa (ao 1) aX))))
noncomputable def fj (CT:Addr) (n:Nat):ae->M Flo:=
 (fy (bL [] 2 (fL bw aX))
  (fy (gf CT n)
  (ji (f2 eqM (ao 2) (fL bw (aa (fC (.bl true)) (aa (fC (.bl true)) (aa (fC (.bl false)) aX))))))))
noncomputable def bK (CT:Addr) (n:Nat):List Dat->M Dat:=fA 4 2 (fj CT n)
noncomputable def dR (CT:Addr) (n:Nat):ae->M Flo:=
 sIf (fB (f2 ltD (ao 1) (fL tj (aa (ao 0) aX))))
   (ji (f2 ixD (ao 0) (ao 1)))
   iA
noncomputable def g9 (CT:Addr) (n:Nat):ae->M Flo:=
 sIf (fB (f2 eqM (ao 0) (fL bw aX)))
   (ji (fC (.int 0)))
   iA
noncomputable def eJ (CT:Addr) (n:Nat):ae->M Flo:=
 (fy (dR CT n)
  (fy (g9 CT n)
  (ji (f2 iV (f2 mulD (f2 ixD (ao 0) (f2 nL (ao 1) (fL tj (aa (ao 0) aX)))) (fC (.int 69621))) (f2 mulD (f2 mulD (ao 1) (ao 1)) (fC (.int 48271)))))))
noncomputable def aB (CT:Addr) (n:Nat):List Dat->M Dat:=fA 2 2 (eJ CT n)
noncomputable def de (CT:Addr) (n:Nat):ae->M Flo:=
 sIf (fOr (mC (jD (f1 bR (ao 3)))) (fB (f2 neM (fL tj (aa (ao 3) aX)) (fL (aG CT n) (aa (ao 2) (aa (ao 0) aX))))))
   (ji (fC (.bl false)))
   iA
noncomputable def fQ (CT:Addr) (n:Nat):ae->M Flo:=
 sIf (fB (f2 geD2 (ao 4) (ao 5)))
   (ji (fC (.bl false)))
   iA
noncomputable def br (CT:Addr) (n:Nat):ae->M Flo:=
 (fQ CT n)
noncomputable def fP (CT:Addr) (n:Nat):ae->M Flo:=
 sIf (fOr (fB (f2 neM (fL gp (aa (ao 6) aX)) (fLR (gm jy (aa (ao 2) aX))))) (fB (f2 gtD (fL maxD (aa (gE (gm jy (aa (ao 2) aX)) [none,some 6] (.nm 0) qV (fL absD (aa (f2 rT (f2 ixD (ao 1) (ao 0)) (ao 0)) aX))) aX)) (ao 0))))
   (ji (fC (.bl false)))
   iA
noncomputable def bq (CT:Addr) (n:Nat):ae->M Flo:=
 (fP CT n)
noncomputable def cQ (CT:Addr) (n:Nat):ae->M Flo:=
 (fy (bL [] 2 (f2 ixD (fL bw (aa (fC (.int 0)) (aa (fC (.int 16)) (aa (fC (.int 9)) (aa (fC (.int 8)) aX))))) (ao 0)))
  (fy (bL [] 3 (fL (noM (av CT n)) (aa (ao 2) (aa (ao 0) aX))))
  (fy (de CT n)
  (fy (m4 [] (vg (fSl dY (ao 3) jZ (i8 (f1 negD (fC (.int 1))))) (fSl dY (ao 3) (i8 (fC (.int 1))) jZ)) (.tp [4,5]) (br CT n))
  (fy (m4 [] (fIt (fL bw (aa (f2 ixD (ao 3) (fC (.int 0))) (aa (f2 ixD (ao 3) (f1 negD (fC (.int 1)))) (aa (f2 ixD (ao 3) (f2 nL (ao 1) (fL tj (aa (ao 3) aX)))) aX))))) (.nm 6) (bq CT n))
  (ji (f2 eqM (f2 ixD (ao 3) (fC (.int 0))) (fLR (gm jy (aa (ao 2) aX))))))))))
noncomputable def bo (CT:Addr) (n:Nat):List Dat->M Dat:=fA 7 2 (cQ CT n)
noncomputable def mU (CT:Addr) (n:Nat):ae->M Flo:=
 sIf (fB (f2 eqM (f2 nL (f2 pN (fL (aB CT n) (aa (ao 0) (aa (fC (.int 1)) aX))) (fC (.int 4))) (fC (.int 4))) (fC (.int 1))))
   (bL [] 2 (f2 ixD (fL bw (aa (fC (.int 41)) (aa (fC (.int 13)) (aa (fC (.int 8)) (aa (fC (.int 7)) aX))))) (ao 1)))
   iA
noncomputable def pU (CT:Addr) (n:Nat):ae->M Flo:=
 sIf (fB (f2 neM (fL (noM (av CT n)) (aa (ao 3) (aa (ao 1) aX))) (ao 5)))
   (ji (fC (.bl false)))
   iA
noncomputable def mT (CT:Addr) (n:Nat):ae->M Flo:=
 sIf (fAnd (fB (f2 eqM (f2 nL (fL (aB CT n) (aa (ao 0) (aa (fC (.int 3)) aX))) (fC (.int 16))) (fC (.int 5)))) (mC (jD (fL (bo CT n) (aa (ao 7) (aa (f2 pN (fL (aB CT n) (aa (ao 0) (aa (fC (.int 3)) aX))) (fC (.int 16))) aX))))))
   (ji (fC (.bl false)))
   iA
noncomputable def g_law (CT:Addr) (n:Nat):ae->M Flo:=
 (fy (bL [] 1 (f2 nL (fL (aB CT n) (aa (ao 0) (aa (fC (.int 1)) aX))) (fC (.int 4))))
  (fy (bL [] 2 (f2 ixD (fL bw (aa (fC (.int 9)) (aa (fC (.int 9)) (aa (fC (.int 7)) (aa (fC (.int 6)) aX))))) (ao 1)))
  (fy (mU CT n)
  (fy (bL [] 3 (f2 nL (fL (aB CT n) (aa (ao 0) (aa (fC (.int 0)) aX))) (ao 2)))
  (s9 4 5 6 (fL (noM (av CT n)) (aa (ao 3) (aa (ao 1) aX))) (fL (bX CT n) (aa (ao 3) (aa (ao 1) aX))) (fOr (mC (jD (f1 bR (ao 4)))) (fOr (fB (f2 neM (ao 4) (ao 5))) (fB (f2 neM (fL (aG CT n) (aa (ao 3) (aa (ao 1) aX))) (fL tj (aa (ao 5) aX)))))) (fOr (mC (jD (f1 bR (ao 6)))) (fB (f2 neM (gE (fIt (ao 6)) [none] (.nm 0) (fOr (mC (jD (f1 eZ (ao 0)))) (jD (f1 dB (ao 0)))) (ao 0)) (fL bw aX))))
  (fy (pU CT n)
  (fy (bL [] 7 (f2 iV (fC (.int 1)) (f2 nL (fL (aB CT n) (aa (ao 0) (aa (fC (.int 2)) aX))) (fC (.int 3)))))
  (fy (bL [] 8 (f2 ixD (fL bw (aa (fC (.int 0)) (aa (fC (.int 19)) (aa (fC (.int 11)) (aa (fC (.int 9)) aX))))) (ao 7)))
  (fy (mT CT n)
  (ji (fL (bK CT n) (aa (f2 iV (ao 8) (f2 nL (f2 pN (fL (aB CT n) (aa (ao 0) (aa (fC (.int 2)) aX))) (fC (.int 3))) (f2 rT (fC (.int 41)) (ao 8)))) (aa (ao 7) aX)))))))))))))
noncomputable def m_law (CT:Addr) (n:Nat):List Dat->M Dat:=fA 9 1 (g_law CT n)
noncomputable def top (i:Nat):Stmt:=PySem.Challenge.pw_wakeorder_k44_orders_told.main.body.getD i (.Pass ⟨0,0,0,0⟩)
noncomputable abbrev cC:Stmt:=top 12
noncomputable abbrev bO:Stmt:=top 13
noncomputable abbrev cw:Stmt:=top 14
noncomputable abbrev bW:Stmt:=top 15
noncomputable abbrev bj:Stmt:=top 16
noncomputable abbrev dO:Stmt:=top 19
noncomputable abbrev dg:Stmt:=top 20
noncomputable abbrev fV:Stmt:=top 18
noncomputable abbrev cK:Stmt:=top 21
noncomputable abbrev rZ:Stmt:=top 22
structure Zs (K:PySem.W.Frag) (mg:Str->Option Value) (CT AStripError ATooMany ANoRules ANoTime ANoPlace ANotFree ANoPlan ANoSheet ANoRow:Addr):Prop where
 mI_StripError:mg "StripError"=some (.ref AStripError)
 sA:mg "TooMany"=some (.ref ATooMany)
 sE:mg "NoRules"=some (.ref ANoRules)
 uK:mg "NoTime"=some (.ref ANoTime)
 sF:mg "NoPlace"=some (.ref ANoPlace)
 sC:mg "NotFree"=some (.ref ANotFree)
 uL:mg "NoPlan"=some (.ref ANoPlan)
 sD:mg "NoSheet"=some (.ref ANoSheet)
 mI_NoRow:mg "NoRow"=some (.ref ANoRow)
 lQ:t8 K mg "StripError" AStripError
 u_CT:oH K CT AStripError
 w_CT:oI K CT ATooMany "ValueError" [ANoRules,ANoTime,ANoPlace,ANotFree,ANoPlan,ANoSheet,ANoRow] [true,true,false]
 tCT:XTxt K mg "TooMany" CT
 dr:mg "ValueError"=none
 tE:mg "abs"=none
 n4:mg "bool"=none
 n3:mg "dict"=none
 d8:mg "enumerate"=none
 tB:mg "int"=none
 aN:mg "isinstance"=none
 jK:mg "len"=none
 gZ:mg "list"=none
 rJ:mg "max"=none
 tw:mg "min"=none
 cG:mg "range"=none
 gK:mg "sorted"=none
 rH:mg "sum"=none
 iW:mg "tuple"=none
 tu:mg "zip"=none
 cR:∃t,mg "MOST_ORDERS"=some (.int 5000 t)
 kit:Kit K
 x_nl:sm K=true
theorem cI:cB ["pool","size","choices","place","one","rest"] ["pool","size"] (aD cC):=⟨rfl,rfl,rfl,by decide +kernel,rfl,by decide +kernel,by decide +kernel⟩
theorem kN {n:Nat} {P:Program} {w:World} {K:PySem.W.Frag} {mg:Str->Option Value} {base:Heap} {CT AStripError ATooMany ANoRules ANoTime ANoPlace ANotFree ANoPlan ANoSheet ANoRow:Addr} (Z:Zs K mg CT AStripError ATooMany ANoRules ANoTime ANoPlace ANotFree ANoPlan ANoSheet ANoRow) {aP:Addr} {aI:FuncData} (aQ:Def K mg "choices_of" cC ["pool","size"] aP aI) {d:Nat} {h:ae->M Flo} (OKR:gS P w K mg base CX0 d aP aI ["pool","size"] (spF K false (fA 6 2 h) 2)):gS P w K mg base CX0 (d+1) aP aI ["pool","size"] (spF K false (fA 6 2 (dC CT n (fA 6 2 h))) 2):=
 fn_D (O':=[]) aQ.fn cI false (dC CT n (fA 6 2 h)) fun cdv A outer s H E hr=>
  (ay (kr (dF (o_eq hr.units) (aE 1) ax)
   (aY (d7 (az (cF (a9 (oi aj) aj)))))
   gF)
  (ay (bc (i:=2) (own:=true) cI.nd (cF aj))
  (ay (gG (pt:=.tp [3,4]) (di_enum Z.d8 (aE 0)) (dg_tp rfl (jG (i:=3) cI.nd (jG (i:=4) cI.nd mI)))
   (aY (gG (pt:=.nm 5) (hZ (bM OKR hr aQ.mg aQ.fn.kp aQ.bd (a9 (az (vx x_sl (aE 0) (ku (az (bY iG (aE 3) ax))) kx)) (a9 (bY sk (aE 1) ax) aj)))) (mJ cI.nd)
   (aY (vt (i:=2) (az (bY iG (oi (a9 (aE 4) aj)) (aE 5))))))))
  (jF (O2:=[]) (aY (d7 (aE 2)))))))
theorem h8 {n:Nat} {P:Program} {w:World} {K:PySem.W.Frag} {mg:Str->Option Value} {base:Heap} {CT AStripError ATooMany ANoRules ANoTime ANoPlace ANotFree ANoPlan ANoSheet ANoRow:Addr} (Z:Zs K mg CT AStripError ATooMany ANoRules ANoTime ANoPlace ANotFree ANoPlan ANoSheet ANoRow) {aP:Addr} {aI:FuncData} (aQ:Def K mg "choices_of" cC ["pool","size"] aP aI):∀d:Nat,gS P w K mg base CX0 d aP aI ["pool","size"] (spF K false (fA 6 2 (bU CT n d)) 2)
 |0=>fn_stk
 |d+1=>kN Z aQ (h8 Z aQ d)
theorem mh {n:Nat} {P:Program} {w:World} {K:PySem.W.Frag} {mg:Str->Option Value} {base:Heap} {CT AStripError ATooMany ANoRules ANoTime ANoPlace ANotFree ANoPlan ANoSheet ANoRow:Addr} (Z:Zs K mg CT AStripError ATooMany ANoRules ANoTime ANoPlace ANotFree ANoPlan ANoSheet ANoRow) {aP:Addr} {aI:FuncData} (aQ:Def K mg "choices_of" cC ["pool","size"] aP aI):gS P w K mg base CX0 6 aP aI ["pool","size"] (spF K false (eW CT n) 2):=h8 Z aQ 6
theorem dH:cB ["many","shift","size","sure","free"] ["many","shift","size"] (aD bO):=⟨rfl,rfl,rfl,by decide +kernel,rfl,by decide +kernel,by decide +kernel⟩
theorem jo {n:Nat} {P:Program} {w:World} {K:PySem.W.Frag} {mg:Str->Option Value} {base:Heap} {CT AStripError ATooMany ANoRules ANoTime ANoPlace ANotFree ANoPlan ANoSheet ANoRow:Addr} (Z:Zs K mg CT AStripError ATooMany ANoRules ANoTime ANoPlace ANotFree ANoPlan ANoSheet ANoRow) {aP:Addr} {aI:FuncData} (f7:Yd P w K mg base CX0 6 "choices_of" cC ["pool","size"] (spF K false (eW CT n) 2) aP aI) {b9:Addr} {aU:FuncData} (bV:Def K mg "beginnings_of" bO ["many","shift","size"] b9 aU):gS P w K mg base CX0 7 b9 aU ["many","shift","size"] (spF K false (b8 CT n) 3):=
 fn_D (O':=[]) bV.fn dH false (eI CT n) fun cdv A outer s H E hr=>
  (ay (bc (i:=3) (own:=false) dH.nd (de_trng1 Z.iW Z.cG (a9 (bN (c_max rfl) Z.rJ boot_max (a9 ax (a9 (bY sk (aE 2) (aE 1)) aj))) aj)))
  (ay (bc (i:=4) (own:=false) dH.nd (az (de_lrng2 Z.gZ Z.cG (a9 (bN pS Z.jK PySem.boot_len (a9 (aE 3) aj)) (a9 (bN (c_min rfl) Z.tw boot_min (a9 (aE 0) (a9 (az (bY iG (aE 2) (aE 1))) aj))) aj)))))
  (aY (d7 (az (ik ["some","sure"] [none,some 3] (hZ (bM f7.o hr f7.d.mg f7.d.fn.kp f7.d.bd (a9 (aE 4) (a9 (bY sk (aE 2) (bN pS Z.jK PySem.boot_len (a9 (aE 3) aj))) aj)))) (fun _ _ _ _ _=>lG (by decide +kernel)) (da rfl) (fun _ _ _ _ _=>kq) (fun _ _ _ _ _=>(az (bY iG (aE 1) (aE 0))))))))))
theorem j6:cB ["some"] ["some"] (aD cw):=⟨rfl,rfl,rfl,by decide +kernel,rfl,by decide +kernel,by decide +kernel⟩
theorem ja {n:Nat} {P:Program} {w:World} {K:PySem.W.Frag} {mg:Str->Option Value} {base:Heap} {CT AStripError ATooMany ANoRules ANoTime ANoPlace ANotFree ANoPlan ANoSheet ANoRow:Addr} (Z:Zs K mg CT AStripError ATooMany ANoRules ANoTime ANoPlace ANotFree ANoPlan ANoSheet ANoRow) {bG:Addr} {bp:FuncData} (cz:Def K mg "smaller_by_one" cw ["some"] bG bp):gS P w K mg base CX0 1 bG bp ["some"] (spF K false (bE CT n) 1):=
 fn_D (O':=[]) cz.fn j6 false (dJ CT n) fun cdv A outer s H E hr=>
  (aY (d7 (az (ik ["place","flight","some"] [none,none,some 0] (di_enum2 Z.d8 (aE 0)) (fun _ _ _ _ _=>dg_tp rfl (iN (i:=0) (by decide +kernel) (iN (i:=1) (by decide +kernel) mI))) (nQ (by decide)) (fun _ _ _ _ _=>kq) (fun _ _ _ _ _=>(oi (a9 (az (bY iG (az (vx x_sl (aE 2) kx (ku (aE 0)))) (az (vx x_sl (aE 2) (ku (az (bY iG (aE 0) ax))) kx)))) (a9 (aE 1) aj))))))))
theorem bJ:cB ["many","shift","counts","size","grown","some"] ["many","shift"] (aD bW):=⟨rfl,rfl,rfl,by decide +kernel,rfl,by decide +kernel,by decide +kernel⟩
theorem kO {n:Nat} {P:Program} {w:World} {K:PySem.W.Frag} {mg:Str->Option Value} {base:Heap} {CT AStripError ATooMany ANoRules ANoTime ANoPlace ANotFree ANoPlan ANoSheet ANoRow:Addr} (Z:Zs K mg CT AStripError ATooMany ANoRules ANoTime ANoPlace ANotFree ANoPlan ANoSheet ANoRow) {b9:Addr} {aU:FuncData} (aM:Yd P w K mg base CX0 7 "beginnings_of" bO ["many","shift","size"] (spF K false (b8 CT n) 3) b9 aU) {bG:Addr} {bp:FuncData} (cx:Yd P w K mg base CX0 1 "smaller_by_one" cw ["some"] (spF K false (bE CT n) 1) bG bp) {aV:Addr} {aR:FuncData} (cg:Def K mg "many_orders" bW ["many","shift"] aV aR):gS P w K mg base CX0 8 aV aR ["many","shift"] (spF K false (aG CT n) 2):=
 fn_D (O':=[]) cg.fn bJ false (g6 CT n) fun cdv A outer s H E hr=>
  (ay (bc (i:=2) (own:=false) bJ.nd (az (de_disp1 hr.units (oi aj) ax)))
  (ay (gG (pt:=.nm 3) (vw Z.cG (a9 ax (a9 (az (bY iG (aE 0) ax)) aj))) (mJ bJ.nd)
   (ay (bc (i:=4) (own:=true) bJ.nd de_newK)
  (ay (gG (pt:=.nm 5) (hZ (bM aM.o hr aM.d.mg aM.d.fn.kp aM.d.bd (a9 (aE 0) (a9 (aE 1) (a9 (aE 3) aj))))) (mJ bJ.nd)
   (aY (ds_putD (i:=4) hr.units (aE 5) (bN (c_sum rfl) Z.rH boot_sum (a9 (az (ik ["smaller","flight","counts"] [none,none,some 2] (hZ (bM cx.o (hr.mono (by decide)) cx.d.mg cx.d.fn.kp cx.d.bd (a9 (aE 5) aj))) (fun _ _ _ _ _=>dg_tp rfl (iN (i:=0) (by decide +kernel) (iN (i:=1) (by decide +kernel) mI))) (nQ (by decide)) (fun _ _ _ _ _=>kq) (fun _ _ _ _ _=>(de_getD hr.units (aE 2) (aE 0) ax)))) aj)))))
  (jF (O2:=[]) (aY (bc (i:=2) (own:=false) bJ.nd (aE 4)))))))
  (aY (d7 (de_sumV rfl Z.rH (aE 2))))))
theorem aO:cB ["many","shift","orders","size","beginnings","longer","order","flight"] ["many","shift"] (aD bj):=⟨rfl,rfl,rfl,by decide +kernel,rfl,by decide +kernel,by decide +kernel⟩
theorem jn {n:Nat} {P:Program} {w:World} {K:PySem.W.Frag} {mg:Str->Option Value} {base:Heap} {CT AStripError ATooMany ANoRules ANoTime ANoPlace ANotFree ANoPlan ANoSheet ANoRow:Addr} (Z:Zs K mg CT AStripError ATooMany ANoRules ANoTime ANoPlace ANotFree ANoPlan ANoSheet ANoRow) {aV:Addr} {aR:FuncData} (aA:Yd P w K mg base CX0 8 "many_orders" bW ["many","shift"] (spF K false (aG CT n) 2) aV aR) {b9:Addr} {aU:FuncData} (aM:Yd P w K mg base CX0 7 "beginnings_of" bO ["many","shift","size"] (spF K false (b8 CT n) 3) b9 aU) {aL:Addr} {aH:FuncData} (bu:Def K mg "orders_within" bj ["many","shift"] aL aH):gS P w K mg base (CXd P w) 9 aL aH ["many","shift"] (spX K false (av CT n) 2):=
 fn_X (O':=[]) bu.fn aO false (cP CT n) fun cdv A outer s H E hr=>
  (ay (kr (dt_lift (dF o_gt (bM aA.o hr aA.d.mg aA.d.fn.kp aA.d.bd (a9 (aE 0) (a9 (aE 1) aj))) (de_gint Z.cR)))
   (aY (ds_raise PySem.F.excBase_ValueError xeqD Z.tCT.mg Z.tCT.ex hr.hd))
   gF)
  (dss_lift (ay (bc (i:=2) (own:=false) aO.nd (az (cF (a9 (az (cF aj)) aj))))
  (ay (gG (pt:=.nm 3) (vw Z.cG (a9 ax (a9 (az (bY iG (aE 0) ax)) aj))) (mJ aO.nd)
   (ay (bc (i:=4) (own:=false) aO.nd (az (oj (c_dictL rfl hr.units) Z.n3 sY (a9 (az (ik ["some"] [none] (hZ (bM aM.o (hr.mono (by decide)) aM.d.mg aM.d.fn.kp aM.d.bd (a9 (aE 0) (a9 (aE 1) (a9 (aE 3) aj))))) (fun _ _ _ _ _=>lG (by decide +kernel)) (da rfl) (fun _ _ _ _ _=>kq) (fun _ _ _ _ _=>(oi (a9 (aE 0) (a9 mO aj)))))) aj))))
  (ay (bc (i:=5) (own:=true) aO.nd (cF aj))
  (ay (gG (pt:=.nm 6) (hZ (aE 2)) (mJ aO.nd)
   (aY (gG (pt:=.nm 7) (mH Z.cG (a9 (aE 0) aj)) (mJ aO.nd)
   (aY (kr (PW.pt (dw_and (dF (uD hr.units) (aE 7) (aE 6)) (vq (dF (o_inK hr.units) (oj c_tuple Z.iW PyProof.Rows.boot_tuple (a9 (az (bN rn Z.gK boot_sorted (a9 (az (bY iG (aE 6) (az (cF (a9 (aE 7) aj))))) aj))) aj)) (aE 4)))))
   (aY (vt (i:=5) (az (bY iG (aE 6) (az (cF (a9 (aE 7) aj)))))))
   gF)))))
  (jF (O2:=[]) (aY (bc (i:=2) (own:=false) aO.nd (aE 5))))))))
  (aY (d7 (aE 2)))))))
theorem bg:cB ["_law_many","_law_shift","_law_orders_here","_law_place","_law_longer","_law_order","_law_left"] ["_law_many","_law_shift"] (aD dO):=⟨rfl,rfl,rfl,by decide +kernel,rfl,by decide +kernel,by decide +kernel⟩
theorem kP {n:Nat} {P:Program} {w:World} {K:PySem.W.Frag} {mg:Str->Option Value} {base:Heap} {CT AStripError ATooMany ANoRules ANoTime ANoPlace ANotFree ANoPlan ANoSheet ANoRow:Addr} (Z:Zs K mg CT AStripError ATooMany ANoRules ANoTime ANoPlace ANotFree ANoPlan ANoSheet ANoRow) {cS:Addr} {cu:FuncData} (dU:Def K mg "_law_orders" dO ["_law_many","_law_shift"] cS cu):gS P w K mg base CX0 1 cS cu ["_law_many","_law_shift"] (spF K false (bX CT n) 2):=
 fn_D (O':=[]) dU.fn bg false (g7 CT n) fun cdv A outer s H E hr=>
  (ay (bc (i:=2) (own:=false) bg.nd (az (cF (a9 (az (cF aj)) aj))))
  (ay (gG (pt:=.nm 3) (mH Z.cG (a9 (aE 0) aj)) (mJ bg.nd)
   (ay (bc (i:=4) (own:=true) bg.nd (cF aj))
  (ay (gG (pt:=.nm 5) (hZ (aE 2)) (mJ bg.nd)
   (ay (ds_compB (i:=6) false ["_law_flight","_law_order"] [none,some 5] bg.nd (mH Z.cG (a9 (aE 0) aj)) (fun _ _ _ _ _=>lG (by decide +kernel)) (da rfl) (fun _ _ _ _ _=>pq (dF (uD hr.units) (aE 0) (aE 1))) (fun _ _ _ _ _=>(aE 0)))
  (aY (ds_ext (i:=4) (ik ["_law_flight","_law_shift","_law_place","_law_order"] [none,some 1,some 3,some 5] (hZ (aE 6)) (fun _ _ _ _ _=>lG (by decide +kernel)) (da rfl) (fun _ _ _ _ _=>pq (dt_chain o_le o_le (de_un o_neg (aE 1)) (bY sk (aE 0) (aE 2)) (aE 1))) (fun _ _ _ _ _=>(az (bY iG (aE 3) (az (cF (a9 (aE 0) aj)))))))))))
  (jF (O2:=[]) (aY (bc (i:=2) (own:=false) bg.nd (aE 4)))))))
  (aY (d7 (aE 2)))))
theorem cJ:cB ["_law_many","_law_shift","_law_told","e"] ["_law_many","_law_shift"] (aD dg):=⟨rfl,rfl,rfl,by decide +kernel,rfl,by decide +kernel,by decide +kernel⟩
theorem k7 {n:Nat} {P:Program} {w:World} {K:PySem.W.Frag} {mg:Str->Option Value} {base:Heap} {CT AStripError ATooMany ANoRules ANoTime ANoPlace ANotFree ANoPlan ANoSheet ANoRow:Addr} (Z:Zs K mg CT AStripError ATooMany ANoRules ANoTime ANoPlace ANotFree ANoPlan ANoSheet ANoRow) {aL:Addr} {aH:FuncData} (ah:Yd P w K mg base (CXd P w) 9 "orders_within" bj ["many","shift"] (spX K false (av CT n) 2) aL aH) {cv:Addr} {bS:FuncData} (dn:Def K mg "_law_refused" dg ["_law_many","_law_shift"] cv bS):gS P w K mg base CX0 10 cv bS ["_law_many","_law_shift"] (spF K false (bK CT n) 2):=
 fn_D (O':=[]) dn.fn cJ false (fj CT n) fun cdv A outer s H E hr=>
  (ay (bc (i:=2) (own:=false) cJ.nd (az (cF aj)))
  (ay (ds_tryB2 (i:=3) (j:=2) (tb:=[(CT,[true,true,false])]) (fun pins σ E xe hp=>(dsa_expr (own:=false) (dea_call ah.o hp hr ah.d.mg ah.d.fn.kp ah.d.bd (a9 (aE 0) (a9 (aE 1) aj))))) Z.lQ (tell1 ⟨Z.u_CT,Z.w_CT⟩) cJ.nd (fun a C oe b1 b4 b5 hcr k1 k4 k5=>eV (qy cJ.nd rfl (.inl rfl) (pe_lst (aF (pe_isO hcr Z.aN Z.sA k1) (aF (pe_isB hcr Z.aN Z.dr (by decide +kernel) k4) cj)))) (j8 (jS (pe_bm PySem.F.plainAttrs_list PySem.F.slot_list_append PySem.F.type_list_append ka (pv 2) (aF (pe_isT hcr Z.aN (i7 (i7 (i7 (i7 (i7 (i7 (i7 pa_refs0 Z.mI_NoRow) Z.sD) Z.uL) Z.sC) Z.sF) Z.uK) Z.sE) (by show 7<=sizeLine;rw [sizeLine_eq];decide) k5) cj))))))
  (aY (d7 (de_cmp (o_eq hr.units) (aE 2) (az (cF (a9 mO (a9 mO (a9 mO aj))))))))))
theorem nz:cB ["_law_script","_law_k"] ["_law_script","_law_k"] (aD fV):=⟨rfl,rfl,rfl,by decide +kernel,rfl,by decide +kernel,by decide +kernel⟩
theorem nJ {n:Nat} {P:Program} {w:World} {K:PySem.W.Frag} {mg:Str->Option Value} {base:Heap} {CT AStripError ATooMany ANoRules ANoTime ANoPlace ANotFree ANoPlan ANoSheet ANoRow:Addr} (Z:Zs K mg CT AStripError ATooMany ANoRules ANoTime ANoPlace ANotFree ANoPlan ANoSheet ANoRow) {eK:Addr} {dE:FuncData} (gb:Def K mg "_law_cell" fV ["_law_script","_law_k"] eK dE):gS P w K mg base CX0 1 eK dE ["_law_script","_law_k"] (spF K false (aB CT n) 2):=
 fn_D (O':=[]) gb.fn nz false (eJ CT n) fun cdv A outer s H E hr=>
  (ay (kr (dF o_lt (aE 1) (bN pS Z.jK PySem.boot_len (a9 (aE 0) aj)))
   (aY (d7 (kB tI (aE 0) (aE 1))))
   gF)
  (ay (kr (dF (o_eq hr.units) (aE 0) (az (cF aj)))
   (aY (d7 ax))
   gF)
  (aY (d7 (az (bY iG (bY o_mul (kB tI (aE 0) (bY nK (aE 1) (bN pS Z.jK PySem.boot_len (a9 (aE 0) aj)))) ax) (bY o_mul (bY o_mul (aE 1) (aE 1)) ax)))))))
theorem bf:cB ["_law_wide","_law_cell_here","_law_many","_law_found","_law_one","_law_other","_law_order"] ["_law_wide","_law_cell_here"] (aD cK):=⟨rfl,rfl,rfl,by decide +kernel,rfl,by decide +kernel,by decide +kernel⟩
theorem jq {n:Nat} {P:Program} {w:World} {K:PySem.W.Frag} {mg:Str->Option Value} {base:Heap} {CT AStripError ATooMany ANoRules ANoTime ANoPlace ANotFree ANoPlan ANoSheet ANoRow:Addr} (Z:Zs K mg CT AStripError ATooMany ANoRules ANoTime ANoPlace ANotFree ANoPlan ANoSheet ANoRow) {aL:Addr} {aH:FuncData} (ah:Yd P w K mg base (CXd P w) 9 "orders_within" bj ["many","shift"] (spX K false (av CT n) 2) aL aH) {aV:Addr} {aR:FuncData} (aA:Yd P w K mg base CX0 8 "many_orders" bW ["many","shift"] (spF K false (aG CT n) 2) aV aR) {bT:Addr} {bF:FuncData} (cZ:Def K mg "_law_greatest" cK ["_law_wide","_law_cell_here"] bT bF):gS P w K mg base CX0 10 bT bF ["_law_wide","_law_cell_here"] (spF K false (bo CT n) 2):=
 fn_D (O':=[]) cZ.fn bf false (cQ CT n) fun cdv A outer s H E hr=>
  (ay (bc (i:=2) (own:=false) bf.nd (kB tI (az (cF (a9 ax (a9 ax (a9 ax (a9 ax aj)))))) (aE 0)))
  (ay (bc (i:=3) (own:=false) bf.nd (mM ah.o hr ah.d.mg ah.d.fn.kp ah.d.bd (a9 (aE 2) (a9 (aE 0) aj))))
  (ay (kr (PW.pt (sS (o9 (lF (ij Z.kit Z.aN Z.gZ (aE 3)))) (o8 (dF (o_ne hr.units) (bN pS Z.jK PySem.boot_len (a9 (aE 3) aj)) (bM aA.o (hr.mono (by decide)) aA.d.mg aA.d.fn.kp aA.d.bd (a9 (aE 2) (a9 (aE 0) aj)))))))
   (aY (d7 mO))
   gF)
  (ay (gG (pt:=.tp [4,5]) (di_zip Z.tu (az (vx x_sl (aE 3) kx (ku (de_un o_neg ax)))) (az (vx x_sl (aE 3) (ku ax) kx))) (dg_tp rfl (jG (i:=4) bf.nd (jG (i:=5) bf.nd mI)))
   (aY (kr (dF (o_geD2 hr.units) (aE 4) (aE 5))
   (aY (d7 mO))
   gF)))
  (ay (gG (pt:=.nm 6) (hZ (az (cF (a9 (kB tI (aE 3) ax) (a9 (kB tI (aE 3) (de_un o_neg ax)) (a9 (kB tI (aE 3) (bY nK (aE 1) (bN pS Z.jK PySem.boot_len (a9 (aE 3) aj)))) aj)))))) (mJ bf.nd)
   (aY (kr (PW.pt (sS (dF (o_ne hr.units) (az (bN rn Z.gK boot_sorted (a9 (aE 6) aj))) (az (rg Z.gZ Z.cG (a9 (aE 2) aj)))) (o8 (dF o_gt (bN (c_max rfl) Z.rJ boot_max (a9 (az (ik ["_law_k","_law_order"] [none,some 6] (mH Z.cG (a9 (aE 2) aj)) (fun _ _ _ _ _=>lG (by decide +kernel)) (da rfl) (fun _ _ _ _ _=>kq) (fun _ _ _ _ _=>(bN c_abs Z.tE boot_abs (a9 (bY sk (kB tI (aE 1) (aE 0)) (aE 0)) aj))))) aj)) (aE 0)))))
   (aY (d7 mO))
   gF)))
  (aY (d7 (de_cmp (o_eq hr.units) (kB tI (aE 3) ax) (az (rg Z.gZ Z.cG (a9 (aE 2) aj)))))))))))
theorem gq:cB ["_law_script","_law_shift","_law_most","_law_many","_law_found","_law_due","_law_order","_law_wide","_law_few"] ["_law_script"] (aD rZ):=⟨rfl,rfl,rfl,by decide +kernel,rfl,by decide +kernel,by decide +kernel⟩
theorem ok_law {n:Nat} {P:Program} {w:World} {K:PySem.W.Frag} {mg:Str->Option Value} {base:Heap} {CT AStripError ATooMany ANoRules ANoTime ANoPlace ANotFree ANoPlan ANoSheet ANoRow:Addr} (Z:Zs K mg CT AStripError ATooMany ANoRules ANoTime ANoPlace ANotFree ANoPlan ANoSheet ANoRow) {aL:Addr} {aH:FuncData} (ah:Yd P w K mg base (CXd P w) 9 "orders_within" bj ["many","shift"] (spX K false (av CT n) 2) aL aH) {cS:Addr} {cu:FuncData} (dS:Yd P w K mg base CX0 1 "_law_orders" dO ["_law_many","_law_shift"] (spF K false (bX CT n) 2) cS cu) {cv:Addr} {bS:FuncData} (dm:Yd P w K mg base CX0 10 "_law_refused" dg ["_law_many","_law_shift"] (spF K false (bK CT n) 2) cv bS) {eK:Addr} {dE:FuncData} (af:Yd P w K mg base CX0 1 "_law_cell" fV ["_law_script","_law_k"] (spF K false (aB CT n) 2) eK dE) {aV:Addr} {aR:FuncData} (aA:Yd P w K mg base CX0 8 "many_orders" bW ["many","shift"] (spF K false (aG CT n) 2) aV aR) {bT:Addr} {bF:FuncData} (cY:Yd P w K mg base CX0 10 "_law_greatest" cK ["_law_wide","_law_cell_here"] (spF K false (bo CT n) 2) bT bF) {sR:Addr} {fd_law:FuncData} (D_law:Def K mg "law" rZ ["_law_script"] sR fd_law):gS P w K mg base CX0 11 sR fd_law ["_law_script"] (spF K false (m_law CT n) 1):=
 fn_D (O':=[]) D_law.fn gq false (g_law CT n) fun cdv A outer s H E hr=>
  (ay (bc (i:=1) (own:=false) gq.nd (bY nK (bM af.o (hr.mono (by decide)) af.d.mg af.d.fn.kp af.d.bd (a9 (aE 0) (a9 ax aj))) ax))
  (ay (bc (i:=2) (own:=false) gq.nd (kB tI (az (cF (a9 ax (a9 ax (a9 ax (a9 ax aj)))))) (aE 1)))
  (ay (kr (dF (o_eq hr.units) (bY nK (bY uE (bM af.o (hr.mono (by decide)) af.d.mg af.d.fn.kp af.d.bd (a9 (aE 0) (a9 ax aj))) ax) ax) ax)
   (aY (bc (i:=2) (own:=false) gq.nd (kB tI (az (cF (a9 ax (a9 ax (a9 ax (a9 ax aj)))))) (aE 1))))
   gF)
  (ay (bc (i:=3) (own:=false) gq.nd (bY nK (bM af.o (hr.mono (by decide)) af.d.mg af.d.fn.kp af.d.bd (a9 (aE 0) (a9 ax aj))) (aE 2)))
  (ds_lent Z.x_nl fun F0 H0=>(eV (qy (i:=4) gq.nd rfl (.inl rfl) (pe_thaw (mM ah.o (hr.mono (by decide)) ah.d.mg ah.d.fn.kp ah.d.bd (a9 (aE 3) (a9 (aE 1) aj)))))
  (eV (qy (i:=5) gq.nd rfl (.inl rfl) (bM dS.o (hr.mono (by decide)) dS.d.mg dS.d.fn.kp dS.d.bd (a9 (aE 3) (a9 (aE 1) aj))))
  (eV (ps_if (PW.pt (sS (o9 (lF (ij Z.kit Z.aN Z.gZ (aE 4)))) (sS (dF (o_ne hr.units) (aE 4) (aE 5)) (o8 (dF (o_ne hr.units) (bM aA.o (hr.mono (by decide)) aA.d.mg aA.d.fn.kp aA.d.bd (a9 (aE 3) (a9 (aE 1) aj))) (bN pS Z.jK PySem.boot_len (a9 (aE 5) aj))))))) (j8 (ug pe_bl)) px)
  (eV (uh PassesOwn.never rfl (uj (pv 4)) (jW gq.nd rfl (.inl rfl)) (j8 (ps_if (PW.pt (sS (o9 (lF (ij Z.kit Z.aN Z.gZ (aE 6)))) (o8 (dF (o_ne hr.units) (az (ik ["_law_k"] [none] (hZ (aE 6)) (fun _ _ _ _ _=>lG (by decide +kernel)) (da rfl) (fun _ _ _ _ _=>pq (PW.pt (sS (o9 (lF (sT Z.kit Z.aN Z.tB (aE 0)))) (o8 (lF (pO Z.kit Z.aN Z.n4 (aE 0))))))) (fun _ _ _ _ _=>(aE 0)))) (az (cF aj)))))) (j8 (ug pe_bl)) px)))
  (eV (uh PassesOwn.never rfl (uj (pv 4)) (jW gq.nd rfl (.inl rfl)) (j8 (jS (pe_bm PySem.F.plainAttrs_list PySem.F.slot_list_append PySem.F.type_list_append ka (pv 6) (aF pe_int cj)))))
  (eV (jS (pe_bm0 PySem.F.plainAttrs_list PySem.F.slot_list_clear PySem.F.type_list_clear mt_clear (pv 4)))
  ((ay (kr (dF (o_ne hr.units) (mM ah.o (hr.mono (by decide)) ah.d.mg ah.d.fn.kp ah.d.bd (a9 (aE 3) (a9 (aE 1) aj))) (aE 5))
   (aY (d7 mO))
   gF)
  (ay (bc (i:=7) (own:=false) gq.nd (az (bY iG ax (bY nK (bM af.o (hr.mono (by decide)) af.d.mg af.d.fn.kp af.d.bd (a9 (aE 0) (a9 ax aj))) ax))))
  (ay (bc (i:=8) (own:=false) gq.nd (kB tI (az (cF (a9 ax (a9 ax (a9 ax (a9 ax aj)))))) (aE 7)))
  (ay (kr (PW.pt (dw_and (dF (o_eq hr.units) (bY nK (bM af.o (hr.mono (by decide)) af.d.mg af.d.fn.kp af.d.bd (a9 (aE 0) (a9 ax aj))) ax) ax) (vq (o9 (lF (bM cY.o hr cY.d.mg cY.d.fn.kp cY.d.bd (a9 (aE 7) (a9 (bY uE (bM af.o (hr.mono (by decide)) af.d.mg af.d.fn.kp af.d.bd (a9 (aE 0) (a9 ax aj))) ax) aj))))))))
   (aY (d7 mO))
   gF)
  (aY (d7 (bM dm.o hr dm.d.mg dm.d.fn.kp dm.d.bd (a9 (az (bY iG (aE 8) (bY nK (bY uE (bM af.o (hr.mono (by decide)) af.d.mg af.d.fn.kp af.d.bd (a9 (aE 0) (a9 ax aj))) ax) (bY sk ax (aE 8))))) (a9 (aE 7) aj))))))))) F0 H0))))))))))))
section
variable {CT:Addr}
noncomputable def bI (l:List Int):Prop:=l.Pairwise (·<·)
noncomputable def iv (a:Int):Nat->List Int
 |0=>[]
 |m+1=>a::iv (a+1) m
theorem cD:∀(m:Nat) (a x:Int),x∈iv a m↔a<=x/\x<a+m
 |0,a,x=>by simp [iv]<;>omega
 |m+1,a,x=>by
  rw [iv,List.mem_cons,cD m (a+1) x]
  omega
theorem d6:∀(m:Nat) (a:Int),(iv a m).length=m
 |0,_=>rfl
 |m+1,a=>by rw [iv,List.length_cons,d6 m (a+1)]
theorem cN:∀(m:Nat) (a:Int),bI (iv a m)
 |0,_=>List.Pairwise.nil
 |m+1,a=>by
  rw [iv]
  refine List.Pairwise.cons (fun x hx=>?_) (cN m (a+1))
  have:=(cD m (a+1) x).mp hx
  omega
noncomputable def chs:Nat->List Int->List (List Int)
 |0,_=>[[]]
 |_+1,[]=>[]
 |k+1,a::pool=>(chs k pool).map (a::·)++chs (k+1) pool
theorem gQ (pool:List Int):chs 0 pool=[[]]:=by cases pool<;>rfl
theorem gI:∀(pool:List Int) (k:Nat) (t:List Int),t∈chs k pool↔t.length=k/\t.Sublist pool
 |pool,0,t=>by
  rw [gQ]
  simp only [List.mem_singleton]
  constructor
  ·rintro rfl;exact ⟨rfl,List.nil_sublist _⟩
  ·rintro ⟨h,_⟩;exact List.length_eq_zero_iff.mp h
 |[],k+1,t=>by
  simp only [chs,List.not_mem_nil,false_iff]
  rintro ⟨h,h2⟩
  have:=List.sublist_nil.mp h2
  rw [this] at h
  simp at h
 |a::pool,k+1,t=>by
  rw [chs,List.mem_append,gI pool (k+1) t]
  simp only [List.mem_map]
  constructor
  ·rintro (⟨u,hu,rfl⟩|⟨h1,h2⟩)
   ·obtain ⟨h1,h2⟩:=(gI pool k u).mp hu
    exact ⟨by simp [h1],h2.cons₂ a⟩
   ·exact ⟨h1,h2.cons a⟩
  ·rintro ⟨h1,h2⟩
   cases h2 with
   |cons _ h=>exact .inr ⟨h1,h⟩
   |cons_cons _ h=>
    rename_i u
    exact .inl ⟨u,(gI pool k u).mpr ⟨by simpa using h1,h⟩,rfl⟩
theorem kI:∀(pool:List Int) (k:Nat),(chs k pool).length<=2^pool.length
 |pool,0=>by rw [gQ];exact Nat.one_le_two_pow
 |[],k+1=>by simp [chs]
 |a::pool,k+1=>by
  rw [chs,List.length_append,List.length_map,List.length_cons,Nat.pow_succ]
  have:=kI pool k
  have:=kI pool (k+1)
  omega
theorem tX:∀(m:Nat) (a:Int) (t:List Int),t.Sublist (iv a m)↔bI t/\∀x∈t,a<=x/\x<a+m
 |m,a,t=>by
  constructor
  ·intro h
   exact ⟨List.Pairwise.sublist h (cN m a),fun x hx=>(cD m a x).mp (h.subset hx)⟩
  ·intro h
   induction m generalizing a t with
   |zero=>
    cases t with
    |nil=>exact List.nil_sublist _
    |cons x t=>have:=h.2 x (by simp);omega
   |succ m ih=>
    cases t with
    |nil=>exact List.nil_sublist _
    |cons x t=>
     obtain ⟨h1,h2⟩:=h
     have hx:=h2 x (by simp)
     rw [iv]
     unfold bI at h1
     rw [List.pairwise_cons] at h1
     by_cases e:x=a
     ·subst e
      refine List.Sublist.cons₂ x (ih (x+1) t ⟨h1.2,fun y hy=>?_⟩)
      have:=h1.1 y hy
      have:=h2 y (by simp [hy])
      omega
     ·refine List.Sublist.cons a (ih (a+1) (x::t) ⟨List.Pairwise.cons h1.1 h1.2,fun y hy=>?_⟩)
      rcases List.mem_cons.mp hy with z|z
      ·subst z;omega
      ·have:=h1.1 y z
       have:=h2 y (by simp [z])
       omega
theorem qt:∀(m:Nat) (a:Int) (b:List Int),bI b->(∀x∈b,a<=x)->(∀i,a<=i->i<a+m->i∈b)->∃t,b=iv a m++t/\bI t/\∀x∈t,a+m<=x
 |0,a,b,h1,h2,_=>⟨b,rfl,h1,fun x hx=>by have:=h2 x hx;omega⟩
 |m+1,a,b,h1,h2,h3=>by
  have ha:=h3 a (by omega) (by omega)
  cases b with
  |nil=>simp at ha
  |cons x b=>
   unfold bI at h1
   rw [List.pairwise_cons] at h1
   have hx:=h2 x (by simp)
   have e:x=a:=by
    rcases List.mem_cons.mp ha with z|z
    ·exact z.symm
    ·have:=h1.1 a z;omega
   subst e
   obtain ⟨t,rfl,ht1,ht2⟩:=qt m (x+1) b h1.2 (fun y hy=>by have:=h1.1 y hy;omega) (fun i hi1 hi2=>by
    have:=h3 i (by omega) (by omega)
    rcases List.mem_cons.mp this with z|z
    ·omega
    ·exact z)
   exact ⟨t,rfl,ht1,fun y hy=>by have:=ht2 y hy;omega⟩
structure Beg (many shift size:Nat) (b:List Int):Prop where
 rise:bI b
 len:b.length=size
 sure:∀i:Int,0<=i->i<(size:Int)-shift->i∈b
 bnd:∀x∈b,0<=x/\x<many/\x<(size:Int)+shift
noncomputable def eO (many shift size:Nat):List (List Int):=(chs (size-(size-shift)) (iv ((size-shift:Nat):Int) (min many (size+shift)-(size-shift)))).map (iv 0 (size-shift)++·)
theorem di {many shift size:Nat} (hs:size<=many) (b:List Int):b∈eO many shift size↔Beg many shift size b:=by
 unfold eO
 rw [List.mem_map]
 constructor
 ·rintro ⟨t,ht,rfl⟩
  obtain ⟨h1,h2⟩:=(gI _ _ _).mp ht
  obtain ⟨h3,h4⟩:=(tX _ _ _).mp h2
  refine ⟨?_,?_,fun i hi0 hi1=>?_,fun x hx=>?_⟩
  ·unfold bI
   rw [List.pairwise_append]
   refine ⟨cN _ _,h3,fun x hx y hy=>?_⟩
   have:=(cD _ _ _).mp hx
   have:=h4 y hy
   omega
  ·rw [List.length_append,d6,h1];omega
  ·exact List.mem_append_left _ ((cD _ _ _).mpr ⟨by omega,by omega⟩)
  ·rcases List.mem_append.mp hx with z|z
   ·have:=(cD _ _ _).mp z;omega
   ·have:=h4 x z;omega
 ·rintro ⟨h1,h2,h3,h4⟩
  obtain ⟨t,rfl,ht1,ht2⟩:=qt (size-shift) 0 b h1 (fun x hx=>(h4 x hx).1) (fun i hi0 hi1=>h3 i hi0 (by omega))
  refine ⟨t,(gI _ _ _).mpr ⟨?_,(tX _ _ _).mpr ⟨ht1,fun x hx=>?_⟩⟩,rfl⟩
  ·rw [List.length_append,d6] at h2;omega
  ·have:=ht2 x hx
   have:=h4 x (List.mem_append_right _ hx)
   omega
theorem eU {l:List Int} (h:bI l):l.Nodup:=List.Pairwise.imp (fun h e=>by omega) h
theorem k9:∀{l m:List Int},l.Nodup->(∀x∈l,x∈m)->l.length<=m.length
 |[],m,_,_=>Nat.zero_le _
 |a::l,m,h,hs=>by
  rw [List.nodup_cons] at h
  have ha:=hs a (by simp)
  have:=k9 (l:=l) (m:=m.erase a) h.2 fun x hx=>(List.mem_erase_of_ne (show x≠a from fun e=>h.1 (e▸hx))).mpr (hs x (by simp [hx]))
  rw [List.length_erase_of_mem ha] at this
  have:=List.length_pos_of_mem ha
  simp
  omega
noncomputable def tD (t:List Int):Dat:=.tup (t.map .int)
theorem cL:∀(m:Nat) (a:Int),bz a m=(iv a m).map .int
 |0,a=>rfl
 |m+1,a=>by
  have ih:=cL m (a+1)
  unfold bz at ih ⊢
  rw [List.range_succ_eq_map,List.map_cons,List.map_map,iv,List.map_cons,<- ih]
  congr 1
  ·simp
  ·refine List.map_congr_left fun k _=>?_
   simp
   omega
theorem rj (n:Nat) (R:List Dat->M Dat) (a0 a1 a3:Option Dat) (one:Int):∀(rs acc:List (List Int)) (z5:Option Dat),acc.length+rs.length<=1000->(∀r∈rs,r.length<=100)->∃y5,dQ (.nm 5) (dk CT n R) (rs.map tD) [a0,a1,some (.lst (acc.map tD)),a3,some (.int one),z5]=.ok (.nx [a0,a1,some (.lst ((acc++rs.map (one::·)).map tD)),a3,some (.int one),y5])
 |[],acc,z5,_,_=>⟨z5,by simp [dQ]⟩
 |r::rs,acc,z5,h,hr=>by
  simp only [List.length_cons] at h
  obtain ⟨y5,e⟩:=rj n R a0 a1 a3 one rs (acc++[one::r]) (some (tD r)) (by simp;omega) fun x hx=>hr x (by simp [hx])
  refine ⟨y5,?_⟩
  have hl:acc.length<16777216:=by omega
  have hr1:=hr r (by simp)
  have hr2:r.length+1<=16777216:=by omega
  have hr3:1+r.length<=16777216:=by omega
  have hb:dk CT n R [a0,a1,some (.lst (acc.map tD)),a3,some (.int one),some (tD r)]=.ok (.nx [a0,a1,some (.lst ((acc++[one::r]).map tD)),a3,some (.int one),some (tD r)]):=by
   simp [dk,tD,iV,hl,hr2,hr3]
  rw [List.map_cons,dQ]
  simp only [ko,List.set_cons_succ,List.set_cons_zero,ai,hb]
  rw [e]
  simp
theorem ri (n:Nat) (R:List Dat->M Dat) (pool:List Int) (k:Nat) (hp:pool.length<=8) (hR:∀j,R [.lst ((pool.drop j).map .int),.int k]=.ok (.lst ((chs k (pool.drop j)).map tD))) :
  ∀(suf:List Int) (j:Nat) (acc:List (List Int)) (z3 z4 z5:Option Dat),pool.drop j=suf->acc.length+(chs (k+1) suf).length<=1000->∃y3 y4 y5,dQ (.tp [3,4]) (dj CT n R) (eQ j (suf.map .int)) [some (.lst (pool.map .int)),some (.int ((k:Int)+1)),some (.lst (acc.map tD)),z3,z4,z5]=.ok (.nx [some (.lst (pool.map .int)),some (.int ((k:Int)+1)),some (.lst ((acc++chs (k+1) suf).map tD)),y3,y4,y5])
 |[],j,acc,z3,z4,z5,_,_=>⟨z3,z4,z5,by simp [eQ,dQ,chs]⟩
 |a::suf,j,acc,z3,z4,z5,hs,hl=>by
  have hs2:pool.drop (j+1)=suf:=by rw [<- List.drop_drop,hs];rfl
  rw [chs,List.length_append,List.length_map] at hl
  obtain ⟨y5,e1⟩:=rj (CT:=CT) n R (some (.lst (pool.map .int))) (some (.int ((k:Int)+1))) (some (.int (j:Int))) a (chs k suf) acc z5 (by omega) (fun r hr=>by
   have:=((gI _ _ _).mp hr).2.length_le
   have h2:suf.length<=pool.length:=by rw [<- hs2,List.length_drop];omega
   omega)
  obtain ⟨x3,x4,x5,e2⟩:=ri n R pool k hp hR suf (j+1) (acc++(chs k suf).map (a::·)) (some (.int (j:Int))) (some (.int a)) y5 hs2 (by simp;omega)
  refine ⟨x3,x4,x5,?_⟩
  have hr:=hR (j+1)
  rw [hs2] at hr
  have z:((j:Int)+1).toNat=j+1:=by omega
  have z0:(0:Int)<=(j:Int)+1:=by omega
  have hcut:pP (pool.map Dat.int) (some ((j:Int)+1)) none=suf.map .int:=by rw [mP _ z0,z,<- List.map_drop,hs2]
  have hb:dj CT n R [some (.lst (pool.map .int)),some (.int ((k:Int)+1)),some (.lst (acc.map tD)),some (.int (j:Int)),some (.int a),z5]=.ok (.nx [some (.lst (pool.map .int)),some (.int ((k:Int)+1)),some (.lst ((acc++(chs k suf).map (a::·)).map tD)),some (.int (j:Int)),some (.int a),y5]):=by
   simp [dj,hcut,hr,-mP]
   rw [e1]
   simp
  rw [List.map_cons,eQ,dQ]
  have hbind:gX (.tp [3,4]) (.tup [.int (j:Int),.int a]) [some (.lst (pool.map .int)),some (.int ((k:Int)+1)),some (.lst (acc.map tD)),z3,z4,z5]=.ok [some (.lst (pool.map .int)),some (.int ((k:Int)+1)),some (.lst (acc.map tD)),some (.int (j:Int)),some (.int a),z5]:=by simp
  rw [hbind,ai,hb,ai]
  show dQ _ _ _ _=_
  rw [e2,chs]
  simp
theorem lL (n:Nat):∀(d k:Nat) (pool:List Int),k<d->pool.length<=8->fA 6 2 (bU CT n d) [.lst (pool.map .int),.int k]=.ok (.lst ((chs k pool).map tD))
 |0,k,pool,h,_=>by omega
 |d+1,0,pool,h,hp=>by
  rw [gQ]
  simp [bU,dC,fm,tD]
 |d+1,k+1,pool,h,hp=>by
  have hlen:=kI pool (k+1)
  have h2:2^pool.length<=2^8:=Nat.pow_le_pow_right (by decide) hp
  obtain ⟨y3,y4,y5,e⟩:=ri (CT:=CT) n (fA 6 2 (bU CT n d)) pool k hp (fun j=>lL n d k (pool.drop j) (by omega) (by rw [List.length_drop];omega)) pool 0 [] none none none rfl (by simp;omega)
  have hk:¬((k:Int)+1=0):=by omega
  rw [List.nil_append,List.map_nil] at e
  simp [bU,dC,fm,hk,e,-e_run]
  simp only [e_run,List.length_cons,List.length_nil,List.map_cons,List.map_nil,List.cons_append,List.nil_append,List.replicate]
  simp [hk,e]
theorem rB (n many shift size:Nat) (hm:many<=41) (hsh:shift<=3) (hs:size<=many):b8 CT n [.int many,.int shift,.int size]=.ok (.lst ((eO many shift size).map tD)):=by
 have e1:iI 0 ((size:Int)-shift)=((size-shift:Nat):Int):=by unfold iI;split<;>omega
 have e2:mq (many:Int) ((size:Int)+shift)=((min many (size+shift):Nat):Int):=by unfold mq;split<;>omega
 have k1: -4611686018427387904<=((size-shift:Nat):Int):=by omega
 have k2:((size-shift:Nat):Int)<4611686018427387904:=by omega
 have k3: -4611686018427387904<=((min many (size+shift):Nat):Int):=by omega
 have k4:((min many (size+shift):Nat):Int)<4611686018427387904:=by omega
 have k5:(((min many (size+shift):Nat):Int)-((size-shift:Nat):Int)).toNat=min many (size+shift)-(size-shift):=by omega
 have k6:(size:Int)-((size-shift:Nat):Int)=((size-(size-shift):Nat):Int):=by omega
 have l1:size-shift<=16777216:=by omega
 have l2:min many (size+shift)-(size-shift)<=16777216:=by omega
 have ec:=lL (CT:=CT) n 6 (size-(size-shift)) (iv ((size-shift:Nat):Int) (min many (size+shift)-(size-shift))) (by omega) (by rw [d6];omega)
 have em:eW CT n [.lst ((iv ((size-shift:Nat):Int) (min many (size+shift)-(size-shift))).map .int),.int ((size-(size-shift):Nat):Int)]=.ok (.lst ((chs (size-(size-shift)) (iv ((size-shift:Nat):Int) (min many (size+shift)-(size-shift)))).map tD)):=ec
 have hlen:=kI (iv ((size-shift:Nat):Int) (min many (size+shift)-(size-shift))) (size-(size-shift))
 rw [d6] at hlen
 have h2:2^(min many (size+shift)-(size-shift))<=2^8:=Nat.pow_le_pow_right (by decide) (by omega)
 have hall:∀t∈chs (size-(size-shift)) (iv ((size-shift:Nat):Int) (min many (size+shift)-(size-shift))),t.length<=41:=fun t ht=>by
  have:=((gI _ _ _).mp ht).1;omega
 generalize hC:chs (size-(size-shift)) (iv ((size-shift:Nat):Int) (min many (size+shift)-(size-shift)))=C at em hlen hall
 have ecomp:∀C:List (List Int),(∀t∈C,t.length<=41)->bH (.nm 0) qV (f2 iV (ao 1) (ao 0)) [none,some (tD (iv 0 (size-shift)))] (C.map tD)=.ok ((C.map (iv 0 (size-shift)++·)).map tD):=by
  intro C
  induction C with
  |nil=>intro _;rfl
  |cons t C ih=>
   intro h
   have ht:=h t (by simp)
   have hle:size-shift+t.length<=16777216:=by omega
   rw [List.map_cons,bH]
   have ih:=ih fun x hx=>h x (by simp [hx])
   simp only [ko,List.set_cons_zero,ai,e_yes,if_true,e_2,vm,vn,ih]
   simp [tD,iV,d6,hle]
 have ecC:=ecomp C hall
 have hCl:C.length<=16777216:=by omega
 have eb:eO many shift size=C.map (iv 0 (size-shift)++·):=by unfold eO;rw [hC]
 rw [eb]
 have tde:tD (iv 0 (size-shift))=.tup ((iv 0 (size-shift)).map .int):=rfl
 rw [tde] at ecC
 simp [b8,eI,e1,e2,k1,k2,k3,k4,k5,cL,d6,l1,l2,k6,em,hCl,ecC,-List.map_map]
theorem any_int (f:Int) (b:List Int):((b.map Dat.int).any fun d=>eqD d (.int f))=decide (f∈b):=by
 rw [Bool.eq_iff_iff]
 simp only [List.any_eq_true,List.mem_map,decide_eq_true_eq]
 constructor
 ·rintro ⟨d,⟨x,hx,rfl⟩,he⟩
  simp [eqD] at he
  rw [<- he];exact hx
 ·intro h
  exact ⟨.int f,⟨f,h,rfl⟩,by simp [eqD]⟩
theorem notInL (f:Int) (b:List Int):k8 (.int f) (.lst (b.map .int))=.ok (.bl (!decide (f∈b))):=by
 show (if (okE (.int f) 40&&iF (b.map Dat.int) 40)=true then Except.ok (Dat.bl (!(b.map Dat.int).any fun d=>eqD d (.int f))) else stk)=_
 rw [any_int]
 simp [okE]
theorem gO {p:Pat} {ft:ae->M Bool} {fe:ae->M Dat} {ρ0:ae} (b:Int->Bool) (f:Int->Dat):∀xs:List Int,(∀x∈xs,∃ρ,gX p (.int x) ρ0=.ok ρ/\ft ρ=.ok (b x)/\(b x=true->fe ρ=.ok (f x)))->bH p ft fe ρ0 (xs.map .int)=.ok ((xs.filter b).map f)
 |[],_=>rfl
 |x::xs,h=>by
  obtain ⟨ρ,e1,e2,e3⟩:=h x (by simp)
  have ih:=gO b f xs fun y hy=>h y (by simp [hy])
  rw [List.map_cons,bH,e1,ai,e2,ai]
  by_cases hb:b x=true
  ·rw [if_pos hb,e3 hb,ai,ih,ai,List.filter_cons_of_pos hb]
   rfl
  ·rw [if_neg hb,ih,List.filter_cons_of_neg hb]
noncomputable def mo (b:List Int) (f:Int):List Int:=iM ltZ (b++[f])
theorem qG (b:List Int) (f x:Int):x∈mo b f↔x∈b\/x=f:=by
 unfold mo
 rw [(cE (lt:=ltZ) (b++[f])).mem_iff]
 simp
theorem mo_len (b:List Int) (f:Int):(mo b f).length=b.length+1:=by
 unfold mo
 rw [(cE (lt:=ltZ) (b++[f])).length_eq]
 simp
theorem mo_rise {b:List Int} {f:Int} (hb:bI b) (hf:f∉b):bI (mo b f):=by
 have h1:=eY ordZ (b++[f])
 have h2:(mo b f).Nodup:=by
  unfold mo
  rw [(cE (lt:=ltZ) (b++[f])).nodup_iff,List.nodup_append]
  exact ⟨eU hb,by simp,fun x hx y hy=>by simp at hy;subst hy;exact fun e=>hf (e▸hx)⟩
 unfold bI
 refine (List.pairwise_and_iff.mpr ⟨h1,h2⟩).imp fun {x y} h=>?_
 have a:=h.1
 have c:=h.2
 unfold ltZ at a
 have:=of_decide_eq_false a
 omega
theorem u4 (b:List Int) (f:Int) (hl:b.length<60):gp [.lst ((b++[f]).map .int)]=.ok (.lst ((mo b f).map .int)):=by
 have h:(b++[f]).length<64:=by simp;omega
 show jP _=_
 unfold jP
 rw [if_pos (by simpa using h),cq]
 rfl
theorem rA (many shift size:Nat) (h:shift<=3) (hs:size<=many):(eO many shift size).length<=256:=by
 unfold eO
 rw [List.length_map]
 have hlen:=kI (iv ((size-shift:Nat):Int) (min many (size+shift)-(size-shift))) (size-(size-shift))
 rw [d6] at hlen
 have h2:2^(min many (size+shift)-(size-shift))<=2^8:=Nat.pow_le_pow_right (by decide) (by omega)
 omega
noncomputable def tAt (ts:List Int) (i:Nat):Int:=ts.getD i 0
theorem getT {ts:List Int} {i:Nat} (h:i<ts.length):pK (ts.map .int) (i:Int)=.ok (.int (tAt ts i)):=by
 rw [mz (by simpa using h)]
 simp [tAt,h]
noncomputable def absZ (i:Int):Int:=if i<0 then -i else i
noncomputable def mkI:List Int->Nat
 |[]=>0
 |x::l=>2^x.toNat+mkI l
noncomputable def NonNeg (l:List Int):Prop:=∀x∈l,(0:Int)<=x
theorem qH (a:Nat):∀l:List Int,(∀z∈l,a<=z.toNat)->2^a ∣ mkI l
 |[],_=>Nat.dvd_zero _
 |x::l,h=>Nat.dvd_add (Nat.pow_dvd_pow 2 (h x (by simp))) (qH a l fun z hz=>h z (by simp [hz]))
theorem mk_not {x:Int} {l:List Int} (h:∀z∈l,x.toNat<z.toNat):¬2^(x.toNat+1) ∣ mkI (x::l):=fun hd=>by
 have h1:2^(x.toNat+1) ∣ mkI l:=qH _ l fun z hz=>h z hz
 have h2:2^(x.toNat+1) ∣ 2^x.toNat:=(Nat.dvd_add_left h1).mp hd
 have:=Nat.le_of_dvd (Nat.two_pow_pos _) h2
 have:=Nat.pow_lt_pow_right (a:=2) (by decide) (Nat.lt_succ_self x.toNat)
 omega
theorem iB {x:Int} {l:List Int} (h:bI (x::l)):bI l/\∀z∈l,x<z:=by
 unfold bI at h
 rw [List.pairwise_cons] at h
 exact ⟨h.2,h.1⟩
theorem mk_pos {x:Int} {l:List Int}:0<mkI (x::l):=Nat.lt_of_lt_of_le (Nat.two_pow_pos x.toNat) (Nat.le_add_right _ _)
theorem mk_inj:∀{b c:List Int},bI b->bI c->NonNeg b->NonNeg c->mkI b=mkI c->b=c
 |[],[],_,_,_,_,_=>rfl
 |[],y::c,_,_,_,_,e=>by have:=mk_pos (x:=y) (l:=c);rw [<- e] at this;simp [mkI] at this
 |x::b,[],_,_,_,_,e=>by have:=mk_pos (x:=x) (l:=b);rw [e] at this;simp [mkI] at this
 |x::b,y::c,hb,hc,nb,nc,e=>by
  obtain ⟨hb1,hb2⟩:=iB hb
  obtain ⟨hc1,hc2⟩:=iB hc
  have x0:=nb x (by simp)
  have y0:=nc y (by simp)
  have exy:x=y:=by
   rcases Int.lt_trichotomy x y with h|h|h
   ·refine absurd ?_ (mk_not (x:=x) (l:=b) fun z hz=>by have:=hb2 z hz;omega)
    rw [e]
    exact qH _ _ fun z hz=>by
     rcases List.mem_cons.mp hz with q|q
     ·subst q;omega
     ·have:=hc2 z q;omega
   ·exact h
   ·refine absurd ?_ (mk_not (x:=y) (l:=c) fun z hz=>by have:=hc2 z hz;omega)
    rw [<- e]
    exact qH _ _ fun z hz=>by
     rcases List.mem_cons.mp hz with q|q
     ·subst q;omega
     ·have:=hb2 z q;omega
  subst exy
  rw [mk_inj hb1 hc1 (fun z hz=>nb z (by simp [hz])) (fun z hz=>nc z (by simp [hz])) (by simp only [mkI] at e;omega)]
theorem nM:∀(b c:List Int),mkI (b++c)=mkI b+mkI c
 |[],c=>by simp [mkI]
 |x::b,c=>by rw [List.cons_append,mkI,mkI,nM b c];omega
theorem mk_iv:∀m:Nat,mkI (iv 0 m)=2^m-1:=by
 have key:∀(m:Nat) (a:Nat),mkI (iv a m)+2^a=2^(a+m):=by
  intro m
  induction m with
  |zero=>intro a;simp [iv,mkI]
  |succ m ih=>
   intro a
   have:=ih (a+1)
   have e:((a:Int)+1)=((a+1:Nat):Int):=by omega
   rw [iv,mkI,e]
   have e2:(a:Int).toNat=a:=by omega
   rw [e2]
   have e3:2^(a+1)=2^a+2^a:=by rw [Nat.pow_succ];omega
   have e4:a+1+m=a+(m+1):=by omega
   rw [e4] at this
   omega
 intro m
 have:=key m 0
 rw [Nat.pow_zero,Nat.zero_add] at this
 have e:(iv 0 m)=iv ((0:Nat):Int) m:=rfl
 rw [e,<- this]
 omega
noncomputable def lkL (k:List Int):List (List Int×Nat)->Nat
 |[]=>0
 |p::r=>if p.1=k then p.2 else lkL k r
noncomputable def lkN (k:Nat) (l:List (Nat×Nat)):Nat:=List.rec (motive:=fun _=>Nat) 0 (fun p _ ih=>cond (Nat.beq p.1 k) p.2 ih) l
theorem lkN_cons (k:Nat) (p:Nat×Nat) (l:List (Nat×Nat)):lkN k (p::l)=if p.1=k then p.2 else lkN k l:=by
 show cond (Nat.beq p.1 k) p.2 (lkN k l)=_
 by_cases h:p.1=k
 ·rw [if_pos h,h,Nat.beq_refl];rfl
 ·rw [if_neg h]
  have:Nat.beq p.1 k=false:=by
   cases e:Nat.beq p.1 k with
   |false=>rfl
   |true=>exact absurd (Nat.eq_of_beq_eq_true e) h
  rw [this];rfl
noncomputable def Good (k:List Int):Prop:=bI k/\NonNeg k
noncomputable def toM (p:List Int×Nat):Nat×Nat:=(mkI p.1,p.2)
theorem pH {k:List Int} (hk:Good k):∀l:List (List Int×Nat),(∀p∈l,Good p.1)->lkN (mkI k) (l.map toM)=lkL k l
 |[],_=>rfl
 |p::l,h=>by
  rw [List.map_cons,lkN_cons,lkL,pH hk l fun q hq=>h q (by simp [hq])]
  have hp:=h p (by simp)
  by_cases e:p.1=k
  ·rw [if_pos e,if_pos (by simp [toM,e])];rfl
  ·rw [if_neg e,if_neg (show ¬(toM p).1=mkI k from fun z=>e (mk_inj hp.1 hk.1 hp.2 hk.2 z))]
theorem qL {k:List Int}:∀{l:List (List Int×Nat)},(∀p∈l,p.1≠k)->lkL k l=0
 |[],_=>rfl
 |p::l,h=>by rw [lkL,if_neg (h p (by simp)),qL fun q hq=>h q (by simp [hq])]
noncomputable def jQ (b:List Int):List (List Int):=(List.range b.length).map b.eraseIdx
noncomputable def iP (many shift:Nat):Nat->List (List Int×Nat)
 |0=>[([],1)]
 |s+1=>(eO many shift (s+1)).map fun b=>(b,((jQ b).map fun c=>lkL c (iP many shift s)).sum)
theorem vK (many shift:Nat):eO many shift 0=[[]]:=by
 unfold eO
 simp [gQ,iv]
theorem mR (many shift:Nat):∀s:Nat,(iP many shift s).map (·.1)=eO many shift s
 |0=>by rw [vK];rfl
 |s+1=>by rw [iP,List.map_map];simp [Function.comp_def]
theorem Beg.good {many shift size:Nat} {b:List Int} (h:Beg many shift size b):Good b:=⟨h.rise,fun x hx=>(h.bnd x hx).1⟩
theorem pR {many shift s:Nat} (hs:s<=many):∀p∈iP many shift s,Beg many shift s p.1:=fun p hp=>(di hs p.1).mp (by rw [<- mR];exact List.mem_map.mpr ⟨p,hp,rfl⟩)
theorem mk_ge:∀(b:List Int) (i:Nat) (h:i<b.length),2^(b[i]).toNat<=mkI b
 |x::b,0,_=>Nat.le_add_right _ _
 |x::b,i+1,h=>Nat.le_trans (mk_ge b i (by simpa using h)) (Nat.le_add_left _ _)
theorem mn:∀(b:List Int) (i:Nat) (h:i<b.length),mkI (b.eraseIdx i)=mkI b-2^(b[i]).toNat
 |x::b,0,_=>by simp [mkI]
 |x::b,i+1,h=>by
  have hi:i<b.length:=by simpa using h
  have h1:=mn b i hi
  have h2:=mk_ge b i hi
  simp only [List.eraseIdx_cons_succ,mkI,h1,List.getElem_cons_succ]
  exact (Nat.add_sub_assoc h2 _).symm
theorem lx {b:List Int} (h:Good b) (i:Nat):Good (b.eraseIdx i):=⟨List.Pairwise.sublist (List.eraseIdx_sublist b i) h.1,fun x hx=>h.2 x (List.mem_of_mem_eraseIdx hx)⟩
theorem sum_smal {b:List Int} (hb:Good b) {l:List (List Int×Nat)} (hl:∀p∈l,Good p.1):((jQ b).map fun c=>lkL c l).sum=(b.map fun x=>lkN (mkI b-2^x.toNat) (l.map toM)).sum:=by
 unfold jQ
 rw [List.map_map]
 congr 1
 apply List.ext_getElem
 ·simp
 ·intro i h1 h2
  simp only [List.getElem_map,List.getElem_range,Function.comp]
  have hi:i<b.length:=by simpa using h2
  rw [<- mn b i hi,pH (lx hb i) l hl]
theorem fD:∀{b:List Int} (hb:bI b) (i:Nat) (h:i<b.length),b[i]∉b.eraseIdx i
 |x::b,hb,0,_=>fun hm=>by have:=(iB hb).2 x (by simpa using hm);omega
 |x::b,hb,i+1,h=>fun hm=>by
  obtain ⟨h1,h2⟩:=iB hb
  have hi:i<b.length:=by simpa using h
  rcases List.mem_cons.mp hm with z|z
  ·have:=h2 (b[i]) (List.getElem_mem hi)
   simp only [List.getElem_cons_succ] at z
   omega
  ·exact fD h1 i hi (by simpa using z)
theorem skip {many shift s:Nat} (hs:s<=many) {b:List Int} (hb:Good b) {x:Int} (hx:x∈b) (h0:x<(s:Int)-shift):lkN (mkI b-2^x.toNat) ((iP many shift s).map toM)=0:=by
 obtain ⟨i,hi,e⟩:=List.mem_iff_getElem.mp hx
 rw [<- e,<- mn b i hi,pH (lx hb i) _ fun p hp=>(pR hs p hp).good]
 refine qL fun p hp z=>?_
 have:=(pR hs p hp).sure x (hb.2 x hx) h0
 rw [z,<- e] at this
 exact fD hb.1 i hi this
noncomputable def chsN:Nat->List Nat->List (List Nat)
 |0,_=>[[]]
 |_+1,[]=>[]
 |k+1,a::pool=>(chsN k pool).map (a::·)++chsN (k+1) pool
noncomputable def ivN (a:Nat):Nat->List Nat
 |0=>[]
 |m+1=>a::ivN (a+1) m
theorem iv_N:∀(m a:Nat),iv a m=(ivN a m).map fun x:Nat=>(x:Int)
 |0,_=>rfl
 |m+1,a=>by
  have:=iv_N m (a+1)
  rw [iv,ivN,List.map_cons,<- this]
  rfl
theorem chs_N:∀(k:Nat) (l:List Nat),chs k (l.map fun x:Nat=>(x:Int))=(chsN k l).map fun c=>c.map fun x:Nat=>(x:Int)
 |0,l=>by rw [gQ];cases l<;>rfl
 |k+1,[]=>rfl
 |k+1,a::l=>by
  rw [List.map_cons,chs,chsN,chs_N k l,chs_N (k+1) l,List.map_append,List.map_map,List.map_map]
  rfl
noncomputable def mkN (l:List Nat):Nat:=List.rec (motive:=fun _=>Nat) 0 (fun x _ ih=>Nat.add (Nat.pow 2 x) ih) l
theorem mk_N:∀l:List Nat,mkI (l.map fun x:Nat=>(x:Int))=mkN l
 |[]=>rfl
 |x::l=>by rw [List.map_cons,mkI,mk_N l];show 2^x+mkN l=Nat.add (Nat.pow 2 x) (mkN l);rfl
noncomputable def sumN (f:Nat->Nat) (l:List Nat):Nat:=List.rec (motive:=fun _=>Nat) 0 (fun x _ ih=>Nat.add (f x) ih) l
theorem rR (f:Nat->Nat):∀l:List Nat,(l.map f).sum=sumN f l
 |[]=>rfl
 |x::l=>by rw [List.map_cons,List.sum_cons,rR f l];rfl
noncomputable def preN:Nat->List Nat
 |0=>[]
 |l+1=>[l]
noncomputable def stepM (many shift size:Nat) (prev:List (Nat×Nat)):List (Nat×Nat):=
 (chsN (size-(size-shift)) (ivN (size-shift) (min many (size+shift)-(size-shift)))).map fun c=>(Nat.sub (Nat.pow 2 (size-shift)) 1+mkN c,sumN (fun x=>lkN (Nat.sub (Nat.sub (Nat.pow 2 (size-shift)) 1+mkN c) (Nat.pow 2 x)) prev) (preN (size-shift)++c))
noncomputable def runM (many shift:Nat) (s:Nat):List (Nat×Nat):=Nat.rec (motive:=fun _=>List (Nat×Nat)) [(0,1)] (fun s ih=>stepM many shift (s+1) ih) s
theorem u9 (many shift:Nat):∀s:Nat,s<=many->runM many shift s=(iP many shift s).map toM
 |0,_=>rfl
 |s+1,hs=>by
  have ih:=u9 many shift s (by omega)
  show stepM many shift (s+1) (runM many shift s)=_
  rw [ih,iP]
  unfold stepM
  have eb:eO many shift (s+1)=(chsN (s+1-(s+1-shift)) (ivN (s+1-shift) (min many (s+1+shift)-(s+1-shift)))).map fun c=>iv 0 (s+1-shift)++c.map fun x:Nat=>(x:Int):=by
   unfold eO
   rw [iv_N,chs_N,List.map_map]
   rfl
  rw [List.map_map,eb,List.map_map]
  refine List.map_congr_left fun c hc=>?_
  have hbeg:Beg many shift (s+1) (iv 0 (s+1-shift)++c.map fun x:Nat=>(x:Int)):=(di hs _).mp (by rw [eb];exact List.mem_map.mpr ⟨c,hc,rfl⟩)
  have hm:mkI (iv 0 (s+1-shift)++c.map fun x:Nat=>(x:Int))=Nat.sub (Nat.pow 2 (s+1-shift)) 1+mkN c:=by
   rw [nM,mk_iv,mk_N];rfl
  simp only [Function.comp,toM]
  rw [hm]
  congr 1
  rw [sum_smal hbeg.good fun p hp=>(pR (by omega) p hp).good,hm,List.map_append,List.sum_append,List.map_map]
  have e2:(c.map ((fun x:Int=>lkN (Nat.sub (Nat.pow 2 (s+1-shift)) 1+mkN c-2^x.toNat) ((iP many shift s).map toM))∘fun x:Nat=>(x:Int))).sum=sumN (fun x=>lkN (Nat.sub (Nat.sub (Nat.pow 2 (s+1-shift)) 1+mkN c) (Nat.pow 2 x)) ((iP many shift s).map toM)) c:=by
   rw [<- rR]
   rfl
  have e1:((iv 0 (s+1-shift)).map fun x:Int=>lkN (Nat.sub (Nat.pow 2 (s+1-shift)) 1+mkN c-2^x.toNat) ((iP many shift s).map toM)).sum=sumN (fun x=>lkN (Nat.sub (Nat.sub (Nat.pow 2 (s+1-shift)) 1+mkN c) (Nat.pow 2 x)) ((iP many shift s).map toM)) (preN (s+1-shift)):=by
   cases hl:s+1-shift with
   |zero=>rfl
   |succ l=>
    have ei:iv 0 (l+1)=iv 0 l++[(l:Int)]:=by
     have key:∀(m:Nat) (a:Int),iv a (m+1)=iv a m++[a+m]:=by
      intro m
      induction m with
      |zero=>intro a;simp [iv]
      |succ m ih=>intro a;rw [iv,ih (a+1),iv];simp;omega
     have:=key l 0
     simpa using this
    rw [ei,List.map_append,List.sum_append]
    have z:((iv 0 l).map fun x:Int=>lkN (Nat.sub (Nat.pow 2 (l+1)) 1+mkN c-2^x.toNat) ((iP many shift s).map toM)).sum=0:=by
     have key:∀(L:List Int) (f:Int->Nat),(∀x∈L,f x=0)->(L.map f).sum=0:=by
      intro L f h
      induction L with
      |nil=>rfl
      |cons y L ih=>rw [List.map_cons,List.sum_cons,h y (by simp),ih fun x hx=>h x (by simp [hx])]
     refine key _ _ fun x hx=>?_
     have hx':=(cD _ _ _).mp hx
     rw [hl] at hm hbeg
     have:=skip (many:=many) (shift:=shift) (s:=s) (by omega) hbeg.good (x:=x) (List.mem_append_left _ ((cD _ _ _).mpr (by omega))) (by omega)
     rw [hm] at this
     exact this
    rw [z,Nat.zero_add]
    rw [<- rR]
    rfl
  rw [e1,e2,<- rR,<- rR,<- rR,List.map_append,List.sum_append]
noncomputable def totL (l:List (List Int×Nat)):Nat:=(l.map (·.2)).sum
noncomputable def totM (l:List (Nat×Nat)):Nat:=List.rec (motive:=fun _=>Nat) 0 (fun p _ ih=>Nat.add p.2 ih) l
theorem qf:∀l:List (List Int×Nat),totL l=totM (l.map toM)
 |[]=>rfl
 |p::l=>by
  have:=qf l
  unfold totL at this ⊢
  rw [List.map_cons,List.sum_cons,this]
  rfl
structure At (shift p:Nat) (k:List Int):Prop where
 good:Good k
 low:∀x∈k,(p:Int)-shift<=x
 up:∀x∈k,x<(p:Int)+shift
noncomputable def dD (l:List (List Int×Nat)):List (List Int×Dat):=l.map fun p=>(p.1,.int p.2)
theorem iO {α:Type} {p:Pat} {fe:ae->M Dat} {ρ0:ae} (g f:α->Dat):∀(L:List α),(∀x∈L,∃ρ,gX p (g x) ρ0=.ok ρ/\fe ρ=.ok (f x))->bH p qV fe ρ0 (L.map g)=.ok (L.map f)
 |[],_=>rfl
 |d::ds,h=>by
  obtain ⟨ρ,e1,e2⟩:=h d (by simp)
  rw [List.map_cons,bH,e1]
  simp only [ai,qV,e2,iO g f ds fun x hx=>h x (by simp [hx])]
  simp
theorem vb (k:List Int):∀l:List (List Int×Nat),(lA (dD l) k).getD (.int 0)=.int (lkL k l)
 |[]=>rfl
 |p::l=>by
  have ih:=vb k l
  unfold dD lA at ih ⊢
  rw [List.map_cons,List.find?_cons,lkL]
  by_cases e:p.1=k
  ·rw [if_pos e];simp [e]
  ·rw [if_neg e];simpa [e] using ih
theorem nW (k:List Int):∀l:List (List Int×Nat),(lA (dD l) k).isSome=decide (k∈l.map (·.1))
 |[]=>rfl
 |p::l=>by
  have ih:=nW k l
  unfold dD lA at ih ⊢
  rw [List.map_cons,List.find?_cons]
  by_cases e:p.1=k
  ·simp [e]
  ·have e':¬k=p.1:=fun z=>e z.symm
   simp only [e,decide_false]
   rw [ih]
   simp [e']
theorem put_new (k:List Int) (c:Nat) (l:List (List Int×Nat)) (h:k∉l.map (·.1)):gT (dD l) k (.int c)=dD (l++[(k,c)]):=by
 unfold gT
 rw [nW,decide_eq_false h]
 simp [dD]
theorem kH:∀(k:Nat) (pool:List Int),pool.Nodup->(chs k pool).Nodup
 |0,pool,_=>by rw [gQ];simp
 |k+1,[],_=>by simp [chs]
 |k+1,a::pool,h=>by
  rw [List.nodup_cons] at h
  rw [chs,List.nodup_append]
  refine ⟨?_,kH (k+1) pool h.2,fun x hx y hy e=>?_⟩
  ·refine List.pairwise_map.mpr ((kH k pool h.2).imp fun {x y} hne e=>hne (by simpa using e))
  ·obtain ⟨t,_,rfl⟩:=List.mem_map.mp hx
   subst e
   exact h.1 (((gI _ _ _).mp hy).2.subset (by simp))
theorem gR (many shift size:Nat):(eO many shift size).Nodup:=by
 unfold eO
 exact List.pairwise_map.mpr ((kH _ _ (eU (cN _ _))).imp fun {x y} hne e=>hne (List.append_cancel_left e))
theorem je:∀(b:List Int) (j:Nat),eQ j (b.map .int)=(List.range b.length).map fun i=>Dat.tup [.int ((j+i:Nat):Int),.int (b.getD i 0)]
 |[],_=>rfl
 |x::b,j=>by
  rw [List.map_cons,eQ,je b (j+1),List.length_cons,List.range_succ_eq_map,List.map_cons,List.map_map]
  congr 1
  refine List.map_congr_left fun i _=>?_
  simp only [Function.comp]
  have:j+1+i=j+(i+1):=by omega
  rw [this]
  rfl
theorem rX (n:Nat) (b:List Int) (hl:b.length<=100):bE CT n [tD b]=.ok (.lst ((List.range b.length).map fun i=>Dat.tup [tD (b.eraseIdx i),.int (b.getD i 0)])):=by
 have hc:bH (.tp [0,1]) qV (fL fO (aa (f2 iV (fSl dY (ao 2) jZ (i8 (ao 0))) (fSl dY (ao 2) (i8 (f2 iV (ao 0) (fC (.int 1)))) jZ)) (aa (ao 1) aX))) [none,none,some (tD b)] (eQ 0 (b.map .int))=.ok ((List.range b.length).map fun i=>Dat.tup [tD (b.eraseIdx i),.int (b.getD i 0)]):=by
  rw [je]
  refine iO _ _ _ fun i hi=>?_
  have hi:=List.mem_range.mp hi
  refine ⟨[some (.int ((0+i:Nat):Int)),some (.int (b.getD i 0)),some (tD b)],by simp,?_⟩
  have c1:cX (b.map Dat.int).length 0 none=0:=rfl
  have c2:cX (b.map Dat.int).length (b.map Dat.int).length (some ((0+i:Nat):Int))=i:=by
   simp only [cX]
   rw [if_neg (by omega),List.length_map]
   omega
  have c3:cX (b.map Dat.int).length 0 (some (((0+i:Nat):Int)+1))=i+1:=by
   simp only [cX]
   rw [if_neg (by omega),List.length_map]
   omega
  have s1:dY (tD b) none (some ((0+i:Nat):Int))=.ok (.tup ((b.take i).map .int)):=by
   unfold tD dY
   simp only []
   rw [c1,c2,if_neg (by simp;omega)]
   rw [cut_take _ (by omega)]
   simp
  have s2:dY (tD b) (some (((0+i:Nat):Int)+1)) none=.ok (.tup ((b.drop (i+1)).map .int)):=by
   unfold tD dY
   simp only []
   rw [c3,if_neg (by simp)]
   rw [mP _ (by omega)]
   have:(((0+i:Nat):Int)+1).toNat=i+1:=by omega
   rw [this]
   simp
  have l1:((b.take i).map Dat.int).length+((b.drop (i+1)).map Dat.int).length<=16777216:=by simp;omega
  simp only [e_L,e_cons,e_2,e_slF,vm,vn,e_pNone,e_pSome,e_c,ai,e_asI,s1,iV,s2,sizeLine_eq,l1,if_true,e_nil]
  simp [fO,tD,List.eraseIdx_eq_take_drop_succ,sizeLine_eq]
 have hle:(eQ 0 (b.map Dat.int)).length<=16777216:=by rw [je];simp;omega
 have hit:gd (tD b)=.ok (b.map .int):=rfl
 simp [bE,dJ,hit,hle,hc]
theorem qk (f:List Int->Nat):∀l:List (List Int),(l.map fun c=>((f c:Nat):Int)).sum=((l.map f).sum:Nat)
 |[]=>rfl
 |c::l=>by
  rw [List.map_cons,List.map_cons,List.sum_cons,List.sum_cons,qk f l]
  simp
theorem qR (n:Nat) (L:List (List Int×Nat)) (a0 a1 a3:Option Dat):∀(bs:List (List Int)) (G:List (List Int×Nat)) (z5:Option Dat),(∀b∈bs,b.length<=100)->(G.map (·.1)++bs).Nodup->G.length+bs.length<=1000 ->
  ∃y5,dQ (.nm 5) (cU CT n) (bs.map tD) [a0,a1,some (.dic (dD L)),a3,some (.dic (dD G)),z5]=.ok (.nx [a0,a1,some (.dic (dD L)),a3,some (.dic (dD (G++bs.map fun b=>(b,((jQ b).map fun c=>lkL c L).sum)))),y5])
 |[],G,z5,_,_,_=>⟨z5,by simp [dQ]⟩
 |b::bs,G,z5,hb,hn,hl=>by
  have hbl:=hb b (by simp)
  obtain ⟨y5,e⟩:=qR n L a0 a1 a3 bs (G++[(b,((jQ b).map fun c=>lkL c L).sum)]) (some (tD b)) (fun x hx=>hb x (by simp [hx])) (by simpa using hn) (by simp at hl ⊢;omega)
  refine ⟨y5,?_⟩
  have hcomp:bH (.tp [0,1]) qV (nZ (ao 2) (ao 0) (fC (.int 0))) [none,none,some (.dic (dD L))] ((List.range b.length).map fun i=>Dat.tup [tD (b.eraseIdx i),.int (b.getD i 0)])=.ok (((jQ b).map fun c=>((lkL c L:Nat):Int)).map Dat.int):=by
   rw [iO (fun i=>Dat.tup [tD (b.eraseIdx i),.int (b.getD i 0)]) (fun i=>Dat.int (lkL (b.eraseIdx i) L:Nat)) (List.range b.length) fun i hi=>⟨[some (tD (b.eraseIdx i)),some (.int (b.getD i 0)),some (.dic (dD L))],by simp,?_⟩]
   ·simp [jQ,Function.comp_def]
   ·simp only [e_getD,vm,vn,ai,e_isDic,if_true,e_c,e_getDD]
    simp only [tD,qX,ai,vb]
  have hk:b∉G.map (·.1):=fun h=>by
   rw [List.nodup_append] at hn
   exact hn.2.2 b h b (by simp) rfl
  have hGl:(dD G).length<16777216:=by simp [dD];simp at hl;omega
  have hrl:b.length<=16777216:=by omega
  have hsl:(jQ b).length<=16777216:=by simp [jQ];omega
  have hb1:cU CT n [a0,a1,some (.dic (dD L)),a3,some (.dic (dD G)),some (tD b)]=.ok (.nx [a0,a1,some (.dic (dD L)),a3,some (.dic (dD (G++[(b,((jQ b).map fun c=>lkL c L).sum)]))),some (tD b)]):=by
   have kd:iU (tD b)=.ok b:=qX b
   have hsum:sumD [.lst (((jQ b).map fun c=>((lkL c L:Nat):Int)).map Dat.int)]=.ok (.int (((jQ b).map fun c=>lkL c L).sum:Nat)):=by
    show ((bh _).bind fun is=>_)=_
    rw [cq,ai,qk]
   have hfl:ig (.int (((jQ b).map fun c=>lkL c L).sum:Nat))=true:=rfl
   simp [cU,rX (CT:=CT) n b hbl,hcomp,hsum,hrl,kd,hGl,hfl,put_new _ _ _ hk,-List.map_map,-List.getD_eq_getElem?_getD]
  rw [List.map_cons,dQ]
  simp only [ko,List.set_cons_succ,List.set_cons_zero,ai,hb1]
  rw [e]
  simp
theorem pI:∀(m:Nat) (a:Int),iv a (m+1)=a::iv (a+1) m:=fun _ _=>rfl
theorem qA (n many shift:Nat) (hm:many<=41) (hs:shift<=3):∀(m s:Nat) (z3 z4 z5:Option Dat),s+m<=many ->
  ∃y3 y4 y5,dQ (.nm 3) (cT CT n) ((iv ((s:Int)+1) m).map .int) [some (.int many),some (.int shift),some (.dic (dD (iP many shift s))),z3,z4,z5]=.ok (.nx [some (.int many),some (.int shift),some (.dic (dD (iP many shift (s+m)))),y3,y4,y5])
 |0,s,z3,z4,z5,_=>⟨z3,z4,z5,by simp [dQ,iv]⟩
 |m+1,s,z3,z4,z5,h=>by
  have hbl:∀b∈eO many shift (s+1),b.length<=100:=fun b hb=>by
   have:=((di (by omega) b).mp hb).len;omega
  have hlen:(eO many shift (s+1)).length<=256:=rA many shift (s+1) hs (by omega)
  obtain ⟨y5,e⟩:=qR (CT:=CT) n (iP many shift s) (some (.int many)) (some (.int shift)) (some (.int ((s:Int)+1))) (eO many shift (s+1)) [] z5 hbl (by simpa using gR many shift (s+1)) (by simp;omega)
  have ec:(eO many shift (s+1)).map (fun b=>(b,((jQ b).map fun c=>lkL c (iP many shift s)).sum))=iP many shift (s+1):=rfl
  rw [List.nil_append,ec] at e
  obtain ⟨x3,x4,x5,e2⟩:=qA n many shift hm hs m (s+1) (some (.int ((s:Int)+1))) (some (.dic (dD (iP many shift (s+1))))) y5 (by omega)
  have e3:s+1+m=s+(m+1):=by omega
  rw [e3] at e2
  refine ⟨x3,x4,x5,?_⟩
  have hbeg:=rB (CT:=CT) n many shift (s+1) hm hs (by omega)
  have ecs:((s+1:Nat):Int)=(s:Int)+1:=by omega
  rw [ecs] at hbeg e2
  have edn:dD []=[]:=rfl
  rw [edn] at e
  have hb:cT CT n [some (.int many),some (.int shift),some (.dic (dD (iP many shift s))),some (.int ((s:Int)+1)),z4,z5]=.ok (.nx [some (.int many),some (.int shift),some (.dic (dD (iP many shift (s+1)))),some (.int ((s:Int)+1)),some (.dic (dD (iP many shift (s+1)))),y5]):=by
   simp [cT,hbeg,e]
  rw [pI,List.map_cons,dQ]
  simp only [ko,List.set_cons_succ,List.set_cons_zero,ai,hb]
  rw [e2]
theorem tot_ints (l:List (List Int×Nat)):bh ((dD l).map (·.2))=.ok (l.map fun p=>(p.2:Int))/\(l.map fun p=>(p.2:Int)).sum=(totL l:Nat):=by
 constructor
 ·have:(dD l).map (·.2)=(l.map fun p=>(p.2:Int)).map Dat.int:=by simp [dD,Function.comp_def]
  rw [this,cq]
 ·unfold totL
  induction l with
  |nil=>rfl
  |cons p l ih=>rw [List.map_cons,List.map_cons,List.sum_cons,List.sum_cons,ih];simp
theorem many_ok (n many shift:Nat) (hm:many<=41) (hs:shift<=3):aG CT n [.int many,.int shift]=.ok (.int (totL (iP many shift many):Nat)):=by
 obtain ⟨y3,y4,y5,e⟩:=qA (CT:=CT) n many shift hm hs many 0 none none none (by omega)
 rw [Nat.zero_add] at e
 have e0:dD (iP many shift 0)=[([],.int 1)]:=rfl
 rw [e0] at e
 have k1:(-4611686018427387904:Int)<=(many:Int)+1:=by omega
 have k2:(many:Int)+1<4611686018427387904:=by omega
 have k3:((many:Int)+1-1).toNat=many:=by omega
 have e1:(((0:Nat):Int)+1)=1:=rfl
 rw [e1] at e
 obtain ⟨t1,t2⟩:=tot_ints (iP many shift many)
 simp [aG,g6,k1,k2,k3,cL,e,t1,t2,-List.map_map]
noncomputable def srt (o:List Int):List Int:=iM ltZ o
noncomputable def pC (many shift s:Nat) (o:List Int):List (List Int):=((iv 0 many).filter fun f=>decide (f∉o)&&decide (mo o f∈eO many shift (s+1))).map fun f=>o++[f]
noncomputable def aT (many shift:Nat):Nat->List (List Int)
 |0=>[[]]
 |s+1=>(aT many shift s).flatMap (pC many shift s)
structure PO (many shift s:Nat) (o:List Int):Prop where
 len:o.length=s
 nd:o.Nodup
 bnd:∀x∈o,0<=x/\x<(many:Int)
 beg:∀k,k<=s->Beg many shift k (srt (o.take k))
theorem fU (o:List Int) (x:Int):x∈srt o↔x∈o:=(cE (lt:=ltZ) o).mem_iff
theorem ph (o:List Int):(srt o).length=o.length:=(cE (lt:=ltZ) o).length_eq
theorem iz {o:List Int} (h:o.Nodup):bI (srt o):=by
 have h1:=eY ordZ o
 have h2:(srt o).Nodup:=(cE (lt:=ltZ) o).nodup_iff.mpr h
 unfold bI
 refine (List.pairwise_and_iff.mpr ⟨h1,h2⟩).imp fun {x y} h=>?_
 have a:=h.1
 have c:=h.2
 unfold ltZ at a
 have:=of_decide_eq_false a
 omega
theorem eD {many shift:Nat}:∀{s:Nat} {o:List Int},s<=many->o∈aT many shift s->PO many shift s o
 |0,o,_,h=>by
  have:o=[]:=by simpa [aT] using h
  subst this
  refine ⟨rfl,List.nodup_nil,(fun x hx=>nomatch hx),fun k hk=>?_⟩
  obtain rfl:k=0:=by omega
  exact ⟨iz List.nodup_nil,ph [],fun i h0 h1=>by omega,fun x hx=>by simp [fU] at hx⟩
 |s+1,o,hs,h=>by
  rw [aT,List.mem_flatMap] at h
  obtain ⟨o',ho',h⟩:=h
  have ih:=eD (by omega) ho'
  unfold pC at h
  rw [List.mem_map] at h
  obtain ⟨f,hf,rfl⟩:=h
  obtain ⟨hf1,hf2⟩:=List.mem_filter.mp hf
  rw [Bool.and_eq_true,decide_eq_true_eq,decide_eq_true_eq] at hf2
  have hfb:=(cD _ _ _).mp hf1
  refine ⟨by simp [ih.len],?_,fun x hx=>?_,fun k hk=>?_⟩
  ·rw [List.nodup_append]
   exact ⟨ih.nd,by simp,fun x hx y hy=>by simp at hy;subst hy;exact fun e=>hf2.1 (e▸hx)⟩
  ·rcases List.mem_append.mp hx with z|z
   ·exact ih.bnd x z
   ·simp at z;subst z;omega
  ·by_cases e:k=s+1
   ·subst e
    rw [List.take_of_length_le (by simp [ih.len])]
    exact (di hs _).mp hf2.2
   ·have:(o'++[f]).take k=o'.take k:=List.take_append_of_le_length (by rw [ih.len];omega)
    rw [this]
    exact ih.beg k (by omega)
theorem iy {o:List Int} {k:Nat} {x:Int}:x∈o.take k↔∃(j:Nat) (h:j<o.length),j<k/\o[j]=x:=by
 rw [List.mem_take_iff_getElem]
 constructor
 ·rintro ⟨j,h,e⟩;exact ⟨j,by omega,by omega,e⟩
 ·rintro ⟨j,h1,h2,e⟩;exact ⟨j,by omega,e⟩
theorem oG {a b:Int}:absZ a<=b↔ -b<=a/\a<=b:=by unfold absZ;split<;>omega
theorem qC {many shift:Nat} {o:List Int} (h:PO many shift many o) (i:Nat) (hi:i<o.length):absZ (o[i]-i)<=shift:=by
 have hl:=h.len
 rw [oG]
 have b1:=h.beg (i+1) (by omega)
 have b0:=h.beg i (by omega)
 have m1:o[i]∈srt (o.take (i+1)):=(fU _ _).mpr (iy.mpr ⟨i,hi,by omega,rfl⟩)
 have u:=(b1.bnd _ m1).2.2
 refine ⟨Classical.byContradiction fun z=>?_,by omega⟩
 have m0:=b0.sure o[i] (h.bnd _ (List.getElem_mem hi)).1 (by omega)
 obtain ⟨j,hj,hji,e⟩:=iy.mp ((fU _ _).mp m0)
 have:=(List.getElem_inj h.nd).mp e
 omega
theorem qF {many shift:Nat} {o:List Int} (hl:o.length=many) (hn:o.Nodup) (hb:∀x∈o,0<=x/\x<(many:Int)) (hall:∀x:Int,0<=x->x<many->x∈o) (h:∀(i:Nat) (hi:i<o.length),absZ (o[i]-i)<=shift):∀s,s<=many->o.take s∈aT many shift s
 |0,_=>by simp [aT]
 |s+1,hs=>by
  have ih:=qF hl hn hb hall h s (by omega)
  have hlt:s<o.length:=by omega
  have et:o.take (s+1)=o.take s++[o[s]]:=by rw [List.take_succ];simp [hlt]
  rw [aT,List.mem_flatMap]
  refine ⟨o.take s,ih,?_⟩
  unfold pC
  rw [List.mem_map]
  refine ⟨o[s],List.mem_filter.mpr ⟨(cD _ _ _).mpr (by have:=hb _ (List.getElem_mem hlt);omega),?_⟩,et.symm⟩
  have nt:(o.take (s+1)).Nodup:=hn.sublist (List.take_sublist _ _)
  have e1:mo (o.take s) o[s]=srt (o.take (s+1)):=by rw [et];rfl
  rw [Bool.and_eq_true,decide_eq_true_eq,decide_eq_true_eq]
  refine ⟨fun hm=>?_,?_⟩
  ·obtain ⟨j,hj,hji,e⟩:=iy.mp hm
   have:=(List.getElem_inj hn).mp e
   omega
  ·rw [e1]
   refine (di hs _).mpr ⟨iz nt,by rw [ph,List.length_take];omega,fun i h0 h1=>?_,fun x hx=>?_⟩
   ·have hm:=hall i h0 (by omega)
    obtain ⟨j,hj,e⟩:=List.mem_iff_getElem.mp hm
    have:=oG.mp (h j hj)
    exact (fU _ _).mpr (iy.mpr ⟨j,hj,by omega,e⟩)
   ·obtain ⟨j,hj,hji,e⟩:=iy.mp ((fU _ _).mp hx)
    have:=oG.mp (h j hj)
    have:=hb x (e▸List.getElem_mem hj)
    omega
theorem nE:∀(m:Nat) (a:Int) (l:List Int),bI l->l.length=m->(∀x∈l,a<=x/\x<a+m)->l=iv a m
 |m,a,l,h1,h2,h3=>by
  have hs:=(tX m a l).mpr ⟨h1,h3⟩
  exact hs.eq_of_length (by rw [h2,d6])
theorem si {many shift:Nat} {o:List Int} (h:PO many shift many o):srt o=iv 0 many:=
 nE many 0 _ (iz h.nd) (by rw [ph,h.len]) fun x hx=>by have:=h.bnd x ((fU _ _).mp hx);omega
noncomputable def tabR (s:Nat):List Nat:=match s with
 |0=>[1,1,1,1,1,1,1,1,1,1,1,1,1,1,1,1,1,1,1,1,1,1,1,1,1,1,1,1,1,1,1,1,1,1,1,1,1,1,1,1,1]
 |1=>[1,1,2,3,5,8,13,21,34,55,89,144,233,377,610,987,1597,2584,4181,6765,10946,17711,28657,46368,75025,121393,196418,317811,514229,832040,1346269,2178309,3524578,5702887,9227465,14930352,24157817,39088169,63245986,102334155,165580141]
 |2=>[1,1,2,6,14,31,73,172,400,932,2177,5081,11854,27662,64554,150639,351521,820296,1914208,4466904,10423761,24324417,56762346,132458006,309097942,721296815,1683185225,3927803988,9165743600,21388759708,49911830577,116471963129,271793641686,634245200926,1480045568402,3453766589599,8059551617921,18807400730960,43888089440192,102415236547824,238991507967969]
 |_=>[1,1,2,6,24,78,230,675,2069,6404,19708,60216,183988,563172,1725349,5284109,16177694,49526506,151635752,464286962,1421566698,4352505527,13326304313,40802053896,124926806216,382497958000,1171122069784,3585709284968,10978628154457,33614073801961,102918683817146,315113692636638,964806715532344,2954019542958886,9044538561997774,27692327922310971,84787633831061101,259600524076861388,794837986134377508,2433613825606748072,7451174146242927724]
noncomputable def addB (acc:List (List Int)) (k:List Int):List (List Int):=if k∈acc then acc else acc++[k]
noncomputable def prefs (many:Nat) (o:List Int):List (List Int):=(iv 0 (many+1)).map fun k=>srt (o.take k.toNat)
noncomputable def begun (many:Nat) (os:List (List Int)):List (List Int):=os.foldl (fun acc o=>(prefs many o).foldl addB acc) []
noncomputable def ofLen (k:Nat) (bs:List (List Int)):List (List Int):=bs.filter fun b=>decide (b.length=k)
structure Small (m s:Nat):Prop where
 cnt:totL (iP m s m)=(tabR s).getD m 0
 few:(tabR s).getD m 0<=5000
 bnd:∀k,k<=m->(aT m s k).length<=50000
 len:(aT m s m).length=(tabR s).getD m 0
 sor:∀k,k<=m->iM eX (ofLen k (begun m (aT m s m)))=eO m s k
 l64:∀k,k<=m->(ofLen k (begun m (aT m s m))).length<64
 one:(ofLen 0 (begun m (aT m s m))).length<2
noncomputable def lD (o:List Int):Dat:=.lst (o.map .int)
noncomputable def bD (bs:List (List Int)):List (List Int×Dat):=bs.map fun b=>(b,.bl true)
theorem vc (k:List Int):∀bs:List (List Int),(lA (bD bs) k).isSome=decide (k∈bs)
 |[]=>rfl
 |b::bs=>by
  have ih:=vc k bs
  unfold bD lA at ih ⊢
  rw [List.map_cons,List.find?_cons]
  by_cases e:b=k
  ·simp [e]
  ·have e':¬k=b:=fun z=>e z.symm
   simp only [e,decide_false]
   rw [ih]
   simp [e']
theorem put_b (bs:List (List Int)) (k:List Int):gT (bD bs) k (.bl true)=bD (addB bs k):=by
 unfold gT addB
 rw [vc]
 by_cases h:k∈bs
 ·rw [if_pos (decide_eq_true h),if_pos h]
  unfold bD
  rw [List.map_map]
  refine List.map_congr_left fun b _=>?_
  by_cases e:b=k<;>simp [e]
 ·rw [if_neg (by simp [h]),if_neg h]
  simp [bD]
theorem ux:∀bs:List (List Int),d9 (bs.map fun b=>Dat.tup [tD b,.bl true])=.ok (bD bs)
 |[]=>rfl
 |b::bs=>by
  rw [List.map_cons,d9,ux bs]
  have:iU (tD b)=.ok b:=qX b
  rw [this]
  rfl
theorem fold_b:∀(bs acc:List (List Int)),(acc++bs).Nodup->(bD bs).foldl (fun a p=>gT a p.1 p.2) (bD acc)=bD (acc++bs)
 |[],acc,_=>by simp [bD]
 |b::bs,acc,h=>by
  have hb:b∉acc:=fun hm=>by
   rw [List.nodup_append] at h
   exact h.2.2 b hm b (by simp) rfl
  show (bD bs).foldl _ (gT (bD acc) b (.bl true))=_
  rw [put_b]
  have e:addB acc b=acc++[b]:=by unfold addB;rw [if_neg hb]
  rw [e,fold_b bs (acc++[b]) (by simpa using h)]
  simp
theorem inKb (k:List Int) (bs:List (List Int)):inKD (tD k) (.dic (bD bs))=.ok (.bl (decide (k∈bs))):=by
 have:iU (tD k)=.ok k:=qX k
 rw [vp,this,ai,vc]
theorem jd (n:Nat) (B:List (List Int)) (a0 a1 a2 a3:Option Dat) (o:List Int) (hol:o.length<50):∀(fs:List Int) (acc:List (List Int)) (z7:Option Dat),acc.length+fs.length<=100000 ->
  ∃y7,dQ (.nm 7) (aJ CT n) (fs.map .int) [a0,a1,a2,a3,some (.dic (bD B)),some (.lst (acc.map lD)),some (lD o),z7]=.ok (.nx [a0,a1,a2,a3,some (.dic (bD B)),some (.lst ((acc++(fs.filter fun f=>decide (f∉o)&&decide (mo o f∈B)).map fun f=>o++[f]).map lD)),some (lD o),y7])
 |[],acc,z7,_=>⟨z7,by simp [dQ]⟩
 |f::fs,acc,z7,hl=>by
  rw [List.length_cons] at hl
  have nl:k8 (.int f) (lD o)=.ok (.bl (!decide (f∈o))):=notInL f o
  have hadd:iV (lD o) (.lst [.int f])=.ok (lD (o++[f])):=by
   have:o.length+1<=16777216:=by omega
   simp [iV,lD,this]
  have hso:gp [lD (o++[f])]=.ok (.lst ((mo o f).map .int)):=u4 o f (by omega)
  have ml:=mo_len o f
  have htu:qc [.lst ((mo o f).map .int)]=.ok (tD (mo o f)):=by
   have:(mo o f).length<=16777216:=by omega
   simp [qc,tD,this]
  have hal:acc.length<16777216:=by omega
  by_cases hc:f∉o/\mo o f∈B
  ·obtain ⟨y7,e⟩:=jd n B a0 a1 a2 a3 o hol fs (acc++[o++[f]]) (some (.int f)) (by simp;omega)
   refine ⟨y7,?_⟩
   have hb:aJ CT n [a0,a1,a2,a3,some (.dic (bD B)),some (.lst (acc.map lD)),some (lD o),some (.int f)]=.ok (.nx [a0,a1,a2,a3,some (.dic (bD B)),some (.lst ((acc++[o++[f]]).map lD)),some (lD o),some (.int f)]):=by
    simp [aJ,bZ,nl,hc.1,hadd,hso,htu,inKb,hc.2,hal,-vp]
   rw [List.map_cons,dQ]
   simp only [ko,List.set_cons_succ,List.set_cons_zero,ai,hb]
   rw [e]
   simp [hc.1,hc.2]
  ·obtain ⟨y7,e⟩:=jd n B a0 a1 a2 a3 o hol fs acc (some (.int f)) (by omega)
   refine ⟨y7,?_⟩
   have hb:aJ CT n [a0,a1,a2,a3,some (.dic (bD B)),some (.lst (acc.map lD)),some (lD o),some (.int f)]=.ok (.nx [a0,a1,a2,a3,some (.dic (bD B)),some (.lst (acc.map lD)),some (lD o),some (.int f)]):=by
    by_cases h1:f∈o
    ·simp [aJ,bZ,nl,h1]
    ·have h2:mo o f∉B:=fun z=>hc ⟨h1,z⟩
     simp [aJ,bZ,nl,h1,hadd,hso,htu,inKb,h2,-vp]
   rw [List.map_cons,dQ]
   simp only [ko,List.set_cons_succ,List.set_cons_zero,ai,hb]
   rw [e,List.filter_cons_of_neg (by simpa using hc)]
theorem nH (n many shift s:Nat) (hm:many<=41) (a1 a2 a3:Option Dat):∀(os acc:List (List Int)) (z6 z7:Option Dat),(∀o∈os,o.length<50)->acc.length+(os.flatMap (pC many shift s)).length<=50000 ->
  ∃y6 y7,dQ (.nm 6) (cf CT n) (os.map lD) [some (.int many),a1,a2,a3,some (.dic (bD (eO many shift (s+1)))),some (.lst (acc.map lD)),z6,z7]=.ok (.nx [some (.int many),a1,a2,a3,some (.dic (bD (eO many shift (s+1)))),some (.lst ((acc++os.flatMap (pC many shift s)).map lD)),y6,y7])
 |[],acc,z6,z7,_,_=>⟨z6,z7,by simp [dQ]⟩
 |o::os,acc,z6,z7,ho,hl=>by
  rw [List.flatMap_cons,List.length_append] at hl
  obtain ⟨y7,e⟩:=jd (CT:=CT) n (eO many shift (s+1)) (some (.int many)) a1 a2 a3 o (ho o (by simp)) (iv 0 many) acc z7 (by rw [d6];omega)
  obtain ⟨x6,x7,e2⟩:=nH n many shift s hm a1 a2 a3 os (acc++pC many shift s o) (some (lD o)) y7 (fun x hx=>ho x (by simp [hx])) (by rw [List.length_append];omega)
  refine ⟨x6,x7,?_⟩
  have k1:(-4611686018427387904:Int)<=(many:Int):=by omega
  have k2:(many:Int)<4611686018427387904:=by omega
  have k3:((many:Int)).toNat=many:=by omega
  have hb:cf CT n [some (.int many),a1,a2,a3,some (.dic (bD (eO many shift (s+1)))),some (.lst (acc.map lD)),some (lD o),z7]=.ok (.nx [some (.int many),a1,a2,a3,some (.dic (bD (eO many shift (s+1)))),some (.lst ((acc++pC many shift s o).map lD)),some (lD o),y7]):=by
   have e':dQ (.nm 7) (aJ CT n) ((iv 0 many).map .int) [some (.int many),a1,a2,a3,some (.dic (bD (eO many shift (s+1)))),some (.lst (acc.map lD)),some (lD o),z7]=.ok (.nx [some (.int many),a1,a2,a3,some (.dic (bD (eO many shift (s+1)))),some (.lst ((acc++pC many shift s o).map lD)),some (lD o),y7]):=e
   simp [cf,k1,k2,k3,cL,e',-List.map_append]
  rw [List.map_cons,dQ]
  simp only [ko,List.set_cons_succ,List.set_cons_zero,ai,hb]
  rw [e2,List.flatMap_cons,List.append_assoc]
theorem qm (n many shift:Nat) (hm:many<=41) (hs:shift<=3) (hb:∀k,k<=many->(aT many shift k).length<=50000):∀(m s:Nat) (z3 z4 z5 z6 z7:Option Dat),s+m<=many ->
  ∃y3 y4 y5 y6 y7,dQ (.nm 3) (cb CT n) ((iv ((s:Int)+1) m).map .int) [some (.int many),some (.int shift),some (.lst ((aT many shift s).map lD)),z3,z4,z5,z6,z7]=.ok (.nx [some (.int many),some (.int shift),some (.lst ((aT many shift (s+m)).map lD)),y3,y4,y5,y6,y7])
 |0,s,z3,z4,z5,z6,z7,_=>⟨z3,z4,z5,z6,z7,by simp [dQ,iv]⟩
 |m+1,s,z3,z4,z5,z6,z7,h=>by
  have hbs:=hb (s+1) (by omega)
  obtain ⟨y6,y7,e⟩:=nH (CT:=CT) n many shift s hm (some (.int shift)) (some (.lst ((aT many shift s).map lD))) (some (.int ((s:Int)+1))) (aT many shift s) [] z6 z7 (fun o ho=>by have:=(eD (by omega) ho).len;omega) (by simpa [aT] using hbs)
  have eo:(aT many shift s).flatMap (pC many shift s)=aT many shift (s+1):=rfl
  rw [eo,List.nil_append,List.map_nil] at e
  obtain ⟨x3,x4,x5,x6,x7,e2⟩:=qm n many shift hm hs hb m (s+1) (some (.int ((s:Int)+1))) (some (.dic (bD (eO many shift (s+1))))) (some (.lst ((aT many shift (s+1)).map lD))) y6 y7 (by omega)
  have e3:s+1+m=s+(m+1):=by omega
  have ecs:((s+1:Nat):Int)=(s:Int)+1:=by omega
  have hbeg:=rB (CT:=CT) n many shift (s+1) hm hs (by omega)
  rw [e3,ecs] at e2
  rw [ecs] at hbeg
  refine ⟨x3,x4,x5,x6,x7,?_⟩
  have hcomp:bH (.nm 0) qV (fL fO (aa (ao 0) (aa (fC (.bl true)) aX))) [none] ((eO many shift (s+1)).map tD)=.ok ((eO many shift (s+1)).map fun b=>Dat.tup [tD b,.bl true]):=iO tD _ _ fun b _=>⟨[some (tD b)],by simp,by simp [fO,sizeLine_eq]⟩
  have hbl:=rA many shift (s+1) hs (by omega)
  have hl2:(eO many shift (s+1)).length<=16777216:=by omega
  have hfold:nY (bD (eO many shift (s+1)))=bD (eO many shift (s+1)):=by
   have:=fold_b (eO many shift (s+1)) [] (by simpa using gR many shift (s+1))
   simpa [nY,bD] using this
  have hit:∀l:List (List Int),gd (.lst (l.map lD))=.ok (l.map lD):=fun _=>rfl
  have hb5:cb CT n [some (.int many),some (.int shift),some (.lst ((aT many shift s).map lD)),some (.int ((s:Int)+1)),z4,z5,z6,z7]=.ok (.nx [some (.int many),some (.int shift),some (.lst ((aT many shift (s+1)).map lD)),some (.int ((s:Int)+1)),some (.dic (bD (eO many shift (s+1)))),some (.lst ((aT many shift (s+1)).map lD)),y6,y7]):=by
   simp [cb,hbeg,hl2,hcomp,ux,hfold,e]
  rw [pI,List.map_cons,dQ]
  simp only [ko,List.set_cons_succ,List.set_cons_zero,ai,hb5]
  rw [e2]
theorem uz (n many shift:Nat) (hm:many<=41) (hs:shift<=3) (hb:∀k,k<=many->(aT many shift k).length<=50000) (c:Nat) (hc:aG CT n [.int many,.int shift]=.ok (.int (c:Nat))) (hc5:c<=5000):av CT n [.int many,.int shift]=.ok (.lst ((aT many shift many).map lD)):=by
 obtain ⟨y3,y4,y5,y6,y7,e⟩:=qm (CT:=CT) n many shift hm hs hb many 0 none none none none none (by omega)
 rw [Nat.zero_add] at e
 have e0:(aT many shift 0).map lD=[.lst []]:=rfl
 rw [e0] at e
 have k1:(-4611686018427387904:Int)<=(many:Int)+1:=by omega
 have k2:(many:Int)+1<4611686018427387904:=by omega
 have k3:((many:Int)+1-1).toNat=many:=by omega
 have e1:(((0:Nat):Int)+1)=1:=rfl
 rw [e1] at e
 have hc':¬(5000:Int)<(c:Int):=by omega
 simp [av,cP,dc,hc,hc',k1,k2,k3,cL,e,gtD,-List.map_map]
theorem iH {d:Dat} (h:okE d 40=true):neM d d=.ok (.bl false):=by simp [neM,h,mE h]
theorem u5 (o:List Int) (h:o.length<64):gp [.lst (o.map .int)]=.ok (.lst ((srt o).map .int)):=by
 show jP _=_
 unfold jP
 rw [if_pos (by simpa using h),cq]
 rfl
theorem j5 {α:Type} {R:α->α->Prop} (ir:∀a,¬R a a) (asy:∀a b,R a b->R b a->False):∀{l m:List α},l.Pairwise R->m.Pairwise R->(∀x,x∈l↔x∈m)->l=m
 |[],[],_,_,_=>rfl
 |[],b::m,_,_,h=>by have:=(h b).mpr (by simp);simp at this
 |a::l,[],_,_,h=>by have:=(h a).mp (by simp);simp at this
 |a::l,b::m,hl,hm,h=>by
  have hl':=List.pairwise_cons.mp hl
  have hm':=List.pairwise_cons.mp hm
  have e:a=b:=by
   rcases List.mem_cons.mp ((h a).mp (by simp)) with z|z
   ·exact z
   ·rcases List.mem_cons.mp ((h b).mpr (by simp)) with y|y
    ·exact y.symm
    ·exact (asy a b (hl'.1 b y) (hm'.1 a z)).elim
  subst e
  congr 1
  refine j5 ir asy hl'.2 hm'.2 fun x=>⟨fun hx=>?_,fun hx=>?_⟩
  ·rcases List.mem_cons.mp ((h x).mp (by simp [hx])) with z|z
   ·subst z;exact (ir x (hl'.1 x hx)).elim
   ·exact z
  ·rcases List.mem_cons.mp ((h x).mpr (by simp [hx])) with z|z
   ·subst z;exact (ir x (hm'.1 x hx)).elim
   ·exact z
theorem qu {a b:List Int} (ha:bI a) (hb:bI b) (h:∀x,x∈a↔x∈b):a=b:=j5 (R:=(·<·)) (fun a=>by omega) (fun a b=>by omega) ha hb h
noncomputable def cnt (os:List (List Int)) (b:List Int):Nat:=(os.filter fun o=>decide (srt o=b)).length
theorem cnt_cons (o:List Int) (os:List (List Int)) (b:List Int):cnt (o::os) b=(if srt o=b then 1 else 0)+cnt os b:=by
 unfold cnt
 rw [List.filter_cons]
 by_cases h:srt o=b
 ·simp [h];omega
 ·simp [h]
theorem cnt_append (os ps:List (List Int)) (b:List Int):cnt (os++ps) b=cnt os b+cnt ps b:=by unfold cnt;rw [List.filter_append,List.length_append]
theorem rh (f:List Int->List (List Int)) (b:List Int):∀os:List (List Int),cnt (os.flatMap f) b=(os.map fun o=>cnt (f o) b).sum
 |[]=>rfl
 |o::os=>by rw [List.flatMap_cons,cnt_append,rh f b os];simp
theorem tW (x:List Int):∀{L:List (List Int)},L.Nodup->(L.map fun b=>if x=b then 1 else 0).sum=if x∈L then 1 else 0
 |[],_=>rfl
 |b::L,h=>by
  have h':=List.nodup_cons.mp h
  rw [List.map_cons,List.sum_cons,tW x h'.2]
  by_cases e:x=b
  ·subst e;simp [h'.1]
  ·simp [e]
theorem tV {α:Type} (f g:α->Nat):∀L:List α,(L.map fun b=>f b+g b).sum=(L.map f).sum+(L.map g).sum
 |[]=>rfl
 |b::L=>by simp only [List.map_cons,List.sum_cons,tV f g L];omega
theorem mQ {L:List (List Int)} (hL:L.Nodup):∀os:List (List Int),(L.map (cnt os)).sum=(os.filter fun o=>decide (srt o∈L)).length
 |[]=>by
  have:∀L:List (List Int),(L.map (cnt [])).sum=0:=fun L=>by induction L with
   |nil=>rfl
   |cons a L ih=>rw [List.map_cons,List.sum_cons,ih];rfl
  rw [this];rfl
 |o::os=>by
  have:L.map (cnt (o::os))=L.map fun b=>(if srt o=b then 1 else 0)+cnt os b:=List.map_congr_left fun b _=>cnt_cons o os b
  rw [this,tV,tW _ hL,show (L.map fun b=>cnt os b)=L.map (cnt os) from rfl,mQ hL os,List.filter_cons]
  by_cases e:srt o∈L
  ·simp [e];omega
  ·simp [e]
theorem qU {P:Int->Bool} {f0:Int}:∀{l:List Int},l.Nodup->f0∈l->P f0=true->(∀f∈l,P f=true->f=f0)->(l.filter P).length=1
 |[],_,h,_,_=>nomatch h
 |a::l,nd,h,hp,hu=>by
  have nd':=List.nodup_cons.mp nd
  rw [List.filter_cons]
  by_cases e:a=f0
  ·subst e
   rw [if_pos hp]
   have:l.filter P=[]:=by
    rw [List.filter_eq_nil_iff]
    intro f hf hq
    have:=hu f (by simp [hf]) hq
    subst this
    exact nd'.1 hf
   rw [this];rfl
  ·have:P a≠true:=fun z=>e (hu a (by simp) z)
   rw [if_neg this]
   rcases List.mem_cons.mp h with z|z
   ·exact absurd z.symm e
   ·exact qU nd'.2 z hp fun f hf=>hu f (by simp [hf])
theorem cnt_ordS {many shift s:Nat} {o b:List Int} (hs:s<many) (ho:PO many shift s o) (hb:b∈eO many shift (s+1)):cnt (pC many shift s o) b=if srt o∈jQ b then 1 else 0:=by
 have B:=(di hs b).mp hb
 unfold cnt pC
 rw [List.filter_map,List.length_map,List.filter_filter]
 have key:∀f:Int,f∉o->mo o f=b->f∈b/\∀x,x∈b↔x∈o\/x=f:=fun f _ h=>by
  refine ⟨by rw [<- h,qG];exact .inr rfl,fun x=>?_⟩
  rw [<- h,qG]
 by_cases h:srt o∈jQ b
 ·rw [if_pos h]
  unfold jQ at h
  obtain ⟨i,hi,e⟩:=List.mem_map.mp h
  rw [List.mem_range] at hi
  have ne:=fD B.rise i hi
  have hno:b[i]∉o:=fun z=>ne (by rw [e,fU];exact z)
  have mem:∀x,x∈b↔x∈o\/x=b[i]:=fun x=>by
   rw [<- fU o,<- e]
   constructor
   ·intro hx
    by_cases z:x=b[i]
    ·exact .inr z
    ·obtain ⟨j,hj,rfl⟩:=List.getElem_of_mem hx
     exact .inl (List.mem_eraseIdx_iff_getElem.mpr ⟨j,hj,fun z'=>z (by subst z';rfl),rfl⟩)
   ·rintro (z|z)
    ·exact List.mem_of_mem_eraseIdx z
    ·rw [z];exact List.getElem_mem hi
  have hm:mo o b[i]=b:=qu (iz (by
   rw [List.nodup_append]
   exact ⟨ho.nd,by simp,fun x hx y hy=>by simp at hy;subst hy;exact fun z=>hno (z▸hx)⟩)) B.rise fun x=>by rw [qG,mem]
  refine qU (f0:=b[i]) (eU (cN _ _)) ((cD _ _ _).mpr ?_) ?_ fun f _ hq=>?_
  ·have:=B.bnd _ (List.getElem_mem hi);omega
  ·show (decide (srt (o++[b[i]])=b)&&(decide (b[i]∉o)&&decide (mo o b[i]∈eO many shift (s+1))))=true
   rw [show srt (o++[b[i]])=mo o b[i] from rfl,hm]
   simp [hno,hb]
  ·have hq:(decide (srt (o++[f])=b)&&(decide (f∉o)&&decide (mo o f∈eO many shift (s+1))))=true:=hq
   simp only [Bool.and_eq_true,decide_eq_true_eq] at hq
   have:=((mem f).mp (key f hq.2.1 hq.1).1).elim (fun z=>absurd z hq.2.1) id
   exact this
 ·rw [if_neg h,List.length_eq_zero_iff,List.filter_eq_nil_iff]
  intro f _ hq
  have hq:(decide (srt (o++[f])=b)&&(decide (f∉o)&&decide (mo o f∈eO many shift (s+1))))=true:=hq
  simp only [Bool.and_eq_true,decide_eq_true_eq] at hq
  obtain ⟨k1,k2⟩:=key f hq.2.1 hq.1
  obtain ⟨i,hi,e⟩:=List.getElem_of_mem k1
  refine h (List.mem_map.mpr ⟨i,List.mem_range.mpr hi,?_⟩)
  refine qu (List.Pairwise.sublist (List.eraseIdx_sublist b i) B.rise) (iz ho.nd) fun x=>?_
  rw [fU]
  have ne:=fD B.rise i hi
  constructor
  ·intro hx
   rcases (k2 x).mp (List.mem_of_mem_eraseIdx hx) with z|z
   ·exact z
   ·rw [z,<- e] at hx;exact (ne hx).elim
  ·intro hx
   obtain ⟨j,hj,ej⟩:=List.getElem_of_mem ((k2 x).mpr (.inl hx))
   refine List.mem_eraseIdx_iff_getElem.mpr ⟨j,hj,fun z=>?_,ej⟩
   subst z
   rw [ej] at e
   exact hq.2.1 (e▸hx)
theorem rY {b:List Int} (hb:bI b):(jQ b).Nodup:=by
 unfold jQ
 rw [List.Nodup,List.pairwise_map]
 refine List.Pairwise.imp_of_mem (fun {i j} hi hj h e=>?_) (List.nodup_range (n:=b.length))
 rw [List.mem_range] at hi hj
 refine fD hb i hi ?_
 rw [e]
 exact List.mem_eraseIdx_iff_getElem.mpr ⟨i,hi,h,rfl⟩
theorem uP (g:List Int->Nat) (b:List Int):∀L:List (List Int),lkL b (L.map fun b=>(b,g b))=if b∈L then g b else 0
 |[]=>rfl
 |c::L=>by
  rw [List.map_cons,lkL,uP g b L]
  by_cases e:c=b
  ·subst e;simp
  ·simp [e,Ne.symm e]
theorem cnt_all {os:List (List Int)} {b:List Int} (h:∀o∈os,srt o≠b):cnt os b=0:=by
 unfold cnt
 rw [List.length_eq_zero_iff,List.filter_eq_nil_iff]
 intro o ho
 simp [h o ho]
theorem vA {many shift:Nat}:∀{s:Nat},s<=many->∀b,lkL b (iP many shift s)=cnt (aT many shift s) b
 |0,_,b=>by
  show (if []=b then 1 else 0)=cnt [[]] b
  rw [cnt_cons]
  show (if []=b then 1 else 0)=(if ([]:List Int)=b then 1 else 0)+0
  simp
 |s+1,hs,b=>by
  rw [iP,uP]
  by_cases hb:b∈eO many shift (s+1)
  ·rw [if_pos hb,aT,rh]
   have e1:((aT many shift s).map fun o=>cnt (pC many shift s o) b)=(aT many shift s).map fun o=>if srt o∈jQ b then 1 else 0:=
    List.map_congr_left fun o ho=>cnt_ordS hs (eD (by omega) ho) hb
   have e2:∀os:List (List Int),(os.map fun o=>if srt o∈jQ b then 1 else 0).sum=(os.filter fun o=>decide (srt o∈jQ b)).length:=fun os=>by
    induction os with
    |nil=>rfl
    |cons o os ih=>
     rw [List.map_cons,List.sum_cons,ih,List.filter_cons]
     by_cases z:srt o∈jQ b
     ·simp [z];omega
     ·simp [z]
   rw [e1,e2,<- mQ (rY ((di hs b).mp hb).rise)]
   congr 1
   exact List.map_congr_left fun c _=>vA (by omega) c
  ·rw [if_neg hb,cnt_all]
   intro o ho e
   have:=(eD hs ho).beg (s+1) (Nat.le_refl _)
   rw [List.take_of_length_le (by rw [(eD hs ho).len];exact Nat.le_refl _),e] at this
   exact hb ((di hs b).mpr this)
theorem tN {many shift s:Nat} (hs:s<=many):totL (iP many shift s)=(aT many shift s).length:=by
 have e1:∀l:List (List Int×Nat),(l.map (·.1)).Nodup->l.map (·.2)=(l.map (·.1)).map fun k=>lkL k l:=fun l=>by
  induction l with
  |nil=>intro _;rfl
  |cons p l ih=>
   intro h
   rw [List.map_cons,List.nodup_cons] at h
   rw [List.map_cons,List.map_cons,List.map_cons,lkL,if_pos rfl,ih h.2]
   congr 1
   refine List.map_congr_left fun k hk=>?_
   rw [lkL,if_neg (fun z:p.1=k=>h.1 (by rw [z];exact hk))]
 unfold totL
 rw [e1 _ (by rw [mR];exact gR _ _ _),mR]
 have:((eO many shift s).map fun k=>lkL k (iP many shift s))=(eO many shift s).map (cnt (aT many shift s)):=List.map_congr_left fun b _=>vA hs b
 rw [this,mQ (gR _ _ _)]
 congr 1
 rw [List.filter_eq_self]
 intro o ho
 have:=(eD hs ho).beg s (Nat.le_refl _)
 rw [List.take_of_length_le (by rw [(eD hs ho).len];exact Nat.le_refl _)] at this
 simpa using (di hs _).mpr this
theorem uQ:∀a:List Int,¬eX a a=true
 |[]=>by simp [eX]
 |a::as=>by simpa [eX] using uQ as
theorem uR:∀a b:List Int,eX a b=true->eX b a=true->False
 |[],[]=>by simp [eX]
 |[],_::_=>by simp [eX]
 |_::_,[]=>by simp [eX]
 |a::as,b::bs=>by
  unfold eX
  by_cases e:a=b
  ·subst e;simpa using uR as bs
  ·rw [if_neg e,if_neg (Ne.symm e),decide_eq_true_eq,decide_eq_true_eq]
   omega
theorem uS:∀{a b:List Int} (x y:List Int),a.length=b.length->eX a b=true->eX (a++x) (b++y)=true
 |[],[],_,_,_,h=>by simp [eX] at h
 |[],_::_,_,_,h,_=>by simp at h
 |_::_,[],_,_,h,_=>by simp at h
 |a::as,b::bs,x,y,hl,h=>by
  unfold eX at h
  show (if a=b then eX (as++x) (bs++y) else decide (a<b))=true
  by_cases e:a=b
  ·rw [if_pos e] at h ⊢
   exact uS x y (by simpa using hl) h
  ·rw [if_neg e] at h ⊢
   exact h
theorem qM:∀(o:List Int) {f g:Int},f<g->eX (o++[f]) (o++[g])=true
 |[],f,g,h=>by
  show (if f=g then eX [] [] else decide (f<g))=true
  rw [if_neg (by omega),decide_eq_true h]
 |a::o,f,g,h=>by
  show (if a=a then eX (o++[f]) (o++[g]) else _)=true
  rw [if_pos rfl]
  exact qM o h
noncomputable def lvl (many:Nat) (P:Nat->List Int->Int->Bool):Nat->List (List Int)
 |0=>[[]]
 |s+1=>(lvl many P s).flatMap fun o=>((iv 0 many).filter (P s o)).map fun f=>o++[f]
theorem pB (many shift:Nat):∀s,aT many shift s=lvl many (fun s o f=>decide (f∉o)&&decide (mo o f∈eO many shift (s+1))) s
 |0=>rfl
 |s+1=>by rw [aT,lvl,pB many shift s];rfl
theorem mr {many:Nat} {P:Nat->List Int->Int->Bool}:∀{s:Nat} {o:List Int},o∈lvl many P s->o.length=s
 |0,o,h=>by simp [lvl] at h;simp [h]
 |s+1,o,h=>by
  rw [lvl,List.mem_flatMap] at h
  obtain ⟨o',h1,h2⟩:=h
  obtain ⟨f,_,rfl⟩:=List.mem_map.mp h2
  rw [List.length_append,mr h1];rfl
theorem jz {many:Nat} {P:Nat->List Int->Int->Bool}:∀s:Nat,(lvl many P s).Pairwise fun a b=>eX a b=true
 |0=>by simp [lvl]
 |s+1=>by
  rw [lvl,List.pairwise_flatMap]
  refine ⟨fun o _=>?_,List.Pairwise.imp_of_mem (fun {a b} ha hb h x hx y hy=>?_) (jz s)⟩
  ·rw [List.pairwise_map]
   exact List.Pairwise.imp (fun h=>qM o h) (List.Pairwise.sublist List.filter_sublist (cN many 0))
  ·obtain ⟨f,_,rfl⟩:=List.mem_map.mp hx
   obtain ⟨g,_,rfl⟩:=List.mem_map.mp hy
   exact uS _ _ (by rw [mr ha,mr hb]) h
noncomputable def near (shift:Nat) (p f:Int):Bool:=decide (-(shift:Int)<=f-p)&&decide (f-p<=shift)
noncomputable def kQ (many shift:Nat):Nat->List (List Int):=lvl many fun s o f=>decide (f∉o)&&near shift s f
theorem mv {many shift:Nat}:∀{s:Nat} (o:List Int),o∈kQ many shift s↔o.length=s/\o.Nodup/\(∀x∈o,0<=x/\x<(many:Int))/\∀(i:Nat) (hi:i<o.length),near shift i o[i]=true
 |0,o=>by
  constructor
  ·intro h
   have:o=[]:=by simpa [kQ,lvl] using h
   subst this
   simp
  ·rintro ⟨h,_⟩
   rw [List.length_eq_zero_iff.mp h]
   simp [kQ,lvl]
 |s+1,o=>by
  unfold kQ
  rw [lvl,List.mem_flatMap]
  constructor
  ·rintro ⟨o',h1,h2⟩
   obtain ⟨f,hf,rfl⟩:=List.mem_map.mp h2
   obtain ⟨l1,l2,l3,l4⟩:=(mv o').mp h1
   obtain ⟨f1,f2⟩:=List.mem_filter.mp hf
   rw [Bool.and_eq_true,decide_eq_true_eq] at f2
   have f3:=(cD _ _ _).mp f1
   refine ⟨by rw [List.length_append,l1];rfl,?_,fun x hx=>?_,fun i hi=>?_⟩
   ·rw [List.nodup_append]
    exact ⟨l2,by simp,fun x hx y hy=>by simp at hy;subst hy;exact fun e=>f2.1 (e▸hx)⟩
   ·rcases List.mem_append.mp hx with z|z
    ·exact l3 x z
    ·simp at z;subst z;omega
   ·by_cases z:i<o'.length
    ·rw [List.getElem_append_left z];exact l4 i z
    ·have:i=s:=by rw [List.length_append] at hi;simp at hi;omega
     subst this
     rw [List.getElem_append_right (by omega)]
     simp only [l1,Nat.sub_self,List.getElem_cons_zero]
     exact f2.2
  ·rintro ⟨l1,l2,l3,l4⟩
   have e:o=o.take s++[o[s]'(by omega)]:=by rw [List.take_append_getElem,List.take_of_length_le (by omega)]
   have nd:=l2
   rw [e,List.nodup_append] at nd
   refine ⟨o.take s,(mv _).mpr ⟨by rw [List.length_take];omega,nd.1,fun x hx=>l3 x (List.mem_of_mem_take hx),fun i hi=>?_⟩,List.mem_map.mpr ⟨o[s]'(by omega),List.mem_filter.mpr ⟨(cD _ _ _).mpr ?_,?_⟩,e.symm⟩⟩
   ·rw [List.getElem_take];exact l4 i _
   ·have:=l3 _ (List.getElem_mem (show s<o.length by omega));omega
   ·rw [Bool.and_eq_true,decide_eq_true_eq]
    exact ⟨fun z=>nd.2.2 _ z _ (by simp) rfl,l4 s (by omega)⟩
theorem has_all {many:Nat} {o:List Int} (h1:o.length=many) (h2:o.Nodup) (h3:∀x∈o,0<=x/\x<(many:Int)) (x:Int) (h0:0<=x) (hx:x<many):x∈o:=by
 by_cases h:x∈o
 ·exact h
 ·have:=k9 (l:=x::o) (m:=iv 0 many) (List.nodup_cons.mpr ⟨h,h2⟩) fun y hy=>(cD _ _ _).mpr (by
   rcases List.mem_cons.mp hy with z|z
   ·subst z;omega
   ·have:=h3 y z;omega)
  rw [d6,List.length_cons] at this
  omega
theorem law_ord (many shift:Nat):kQ many shift many=aT many shift many:=by
 refine j5 (R:=fun a b=>eX a b=true) uQ uR (jz many) (by rw [pB];exact jz many) fun o=>?_
 rw [mv]
 constructor
 ·rintro ⟨l1,l2,l3,l4⟩
  have z:=qF (shift:=shift) l1 l2 l3 (has_all l1 l2 l3) (fun i hi=>by
   have:=l4 i hi
   unfold near at this
   rw [Bool.and_eq_true,decide_eq_true_eq,decide_eq_true_eq] at this
   rw [oG]
   omega) many (Nat.le_refl _)
  rw [List.take_of_length_le (by omega)] at z
  exact z
 ·intro h
  have P:=eD (Nat.le_refl _) h
  refine ⟨P.len,P.nd,P.bnd,fun i hi=>?_⟩
  have:=qC P i hi
  rw [oG] at this
  unfold near
  rw [Bool.and_eq_true,decide_eq_true_eq,decide_eq_true_eq]
  omega
theorem mw:∀(k m:Nat) (a:Int),iv a (k+m)=iv a k++iv (a+k) m
 |0,m,a=>by simp [iv]
 |k+1,m,a=>by
  rw [show k+1+m=(k+m)+1 by omega,iv,mw k m,iv,List.cons_append]
  congr 3
  omega
theorem mo_iv (k:Nat):mo (iv 0 k) (k:Int)=iv 0 (k+1):=by
 refine nE (k+1) 0 _ (mo_rise (cN _ _) fun h=>?_) (by rw [mo_len,d6]) fun x hx=>?_
 ·have:=(cD _ _ _).mp h;omega
 ·rcases (qG _ _ _).mp hx with z|z
  ·have:=(cD _ _ _).mp z;omega
  ·omega
theorem iv_beg {many shift k:Nat} (hk:k<=many):iv 0 k∈eO many shift k:=by
 refine (di hk _).mpr ⟨cN _ _,d6 _ _,fun i h0 h1=>(cD _ _ _).mpr (by omega),fun x hx=>?_⟩
 have:=(cD _ _ _).mp hx
 omega
theorem nI {many shift:Nat}:∀{k:Nat},k<=many->∃r,aT many shift k=iv 0 k::r
 |0,_=>⟨[],rfl⟩
 |k+1,hk=>by
  obtain ⟨r,e⟩:=nI (many:=many) (shift:=shift) (k:=k) (by omega)
  have:∃r',pC many shift k (iv 0 k)=iv 0 (k+1)::r':=by
   unfold pC
   obtain ⟨m,rfl⟩:∃m,many=k+(1+m):=⟨many-k-1,by omega⟩
   rw [mw k (1+m),List.filter_append]
   have e1:((iv 0 k).filter fun f=>decide (f∉iv 0 k)&&decide (mo (iv 0 k) f∈eO (k+(1+m)) shift (k+1)))=[]:=by
    rw [List.filter_eq_nil_iff]
    intro f hf
    simp [hf]
   have e2:iv ((0:Int)+k) (1+m)=(k:Int)::iv ((k:Int)+1) m:=by rw [Nat.add_comm 1 m,iv,Int.zero_add]
   have e3:(k:Int)∉iv 0 k:=fun h=>by have:=(cD _ _ _).mp h;omega
   have e4:mo (iv 0 k) (k:Int)∈eO (k+(1+m)) shift (k+1):=by rw [mo_iv];exact iv_beg (by omega)
   rw [e1,e2,List.nil_append,List.filter_cons,if_pos (by simp [e3,e4])]
   rw [List.map_cons]
   have e5:iv 0 k++[(k:Int)]=iv 0 (k+1):=by rw [mw k 1];simp [iv]
   rw [e5]
   exact ⟨_,rfl⟩
  obtain ⟨r',e'⟩:=this
  exact ⟨r'++r.flatMap (pC many shift k),by rw [aT,e,List.flatMap_cons,e'];rfl⟩
theorem vf {f:List Int->List (List Int)} {c:Nat}:∀l:List (List Int),(∀o∈l,(f o).length<=c)->(l.flatMap f).length<=l.length*c
 |[],_=>by simp
 |o::l,h=>by
  rw [List.flatMap_cons,List.length_append,List.length_cons,Nat.succ_mul]
  have:=vf l fun x hx=>h x (by simp [hx])
  have:=h o (by simp)
  omega
noncomputable def vh (many shift s:Nat) (o:List Int):List (List Int):=((iv 0 many).filter fun f=>decide (f∉o)&&near shift s f).map fun f=>o++[f]
theorem kc (many shift s:Nat):kQ many shift (s+1)=(kQ many shift s).flatMap (vh many shift s):=rfl
theorem extO_len (many shift s:Nat) (o:List Int):(vh many shift s o).length<=2*shift+1:=by
 unfold vh
 rw [List.length_map]
 have:=k9 (l:=(iv 0 many).filter fun f=>decide (f∉o)&&near shift s f) (m:=iv ((s:Int)-shift) (2*shift+1)) (List.Pairwise.sublist List.filter_sublist (eU (cN many 0))) fun x hx=>(cD _ _ _).mpr (by
  have:=(List.mem_filter.mp hx).2
  unfold near at this
  simp only [Bool.and_eq_true,decide_eq_true_eq] at this
  omega)
 rw [d6] at this
 exact this
theorem qO (many shift:Nat):∀s:Nat,(kQ many shift s).length<=(2*shift+1)^s
 |0=>by simp [kQ,lvl]
 |s+1=>by
  rw [kc,Nat.pow_succ]
  exact Nat.le_trans (vf _ fun o _=>extO_len many shift s o) (Nat.mul_le_mul_right _ (qO many shift s))
theorem law_in (n many shift s:Nat) (hm:many<=41) (hs:shift<=3) (hsm:s<=41) (a2:Option Dat):∀(os acc:List (List Int)) (z5 z6:Option Dat),(∀o∈os,o.length<50)->acc.length+(os.flatMap (vh many shift s)).length<=10000000 ->
  ∃y5 y6,dQ (.nm 5) (cW CT n) (os.map lD) [some (.int many),some (.int shift),a2,some (.int s),some (.lst (acc.map lD)),z5,z6]=.ok (.nx [some (.int many),some (.int shift),a2,some (.int s),some (.lst ((acc++os.flatMap (vh many shift s)).map lD)),y5,y6])
 |[],acc,z5,z6,_,_=>⟨z5,z6,by simp [dQ]⟩
 |o::os,acc,z5,z6,ho,hl=>by
  rw [List.flatMap_cons,List.length_append] at hl
  obtain ⟨x5,x6,e2⟩:=law_in n many shift s hm hs hsm a2 os (acc++vh many shift s o) (some (lD o)) (some (.lst (((iv 0 many).filter fun f=> !decide (f∈o)).map .int))) (fun x hx=>ho x (by simp [hx])) (by rw [List.length_append];omega)
  refine ⟨x5,x6,?_⟩
  have k1:(-4611686018427387904:Int)<=(many:Int):=by omega
  have k2:(many:Int)<4611686018427387904:=by omega
  have k3:((many:Int)).toNat=many:=by omega
  have hol:=ho o (by simp)
  have c1:bH (.nm 0) (fB (f2 k8 (ao 0) (ao 1))) (ao 0) [none,some (lD o)] ((iv 0 many).map .int)=.ok (((iv 0 many).filter fun f=> !decide (f∈o)).map .int):=
   gO _ _ _ fun x _=>⟨[some (.int x),some (lD o)],by simp,by simp [show k8 (.int x) (lD o)=.ok (.bl (!decide (x∈o))) from notInL x o],fun _=>by simp⟩
  have c2:bH (.nm 0) (fB (hW leD leD (f1 negD (ao 1)) (f2 rT (ao 0) (ao 2)) (ao 1))) (f2 iV (ao 3) (fL bw (aa (ao 0) aX))) [none,some (.int shift),some (.int s),some (lD o)] (((iv 0 many).filter fun f=> !decide (f∈o)).map .int)=.ok ((((iv 0 many).filter fun f=> !decide (f∈o)).filter fun f=>near shift s f).map fun f=>lD (o++[f])):=
   gO _ _ _ fun x _=>⟨[some (.int x),some (.int shift),some (.int s),some (lD o)],by simp,by
    unfold near
    by_cases h1: -(shift:Int)<=x-s
    ·simp [hW,leD,negD,rT,h1]
    ·simp [hW,leD,negD,rT,h1],fun _=>by
    have:o.length+1<=16777216:=by omega
    simp [iV,lD,this]⟩
  have c3:(((iv 0 many).filter fun f=> !decide (f∈o)).filter fun f=>near shift s f).map (fun f=>lD (o++[f]))=(vh many shift s o).map lD:=by
   unfold vh
   rw [List.filter_filter,List.map_map]
   congr 1
   refine List.filter_congr fun f _=>?_
   rw [Bool.and_comm]
   simp
  rw [c3] at c2
  have hfl:((iv 0 many).filter fun f=> !decide (f∈o)).length<=16777216:=Nat.le_trans (List.length_filter_le _ _) (by rw [d6];omega)
  have hil:(iv 0 many).length<=16777216:=by rw [d6];omega
  have hel:(vh many shift s o).length<=16777216:=by omega
  have hae:acc.length+(vh many shift s o).length<=16777216:=by omega
  have hb:cW CT n [some (.int many),some (.int shift),a2,some (.int s),some (.lst (acc.map lD)),some (lD o),z6]=.ok (.nx [some (.int many),some (.int shift),a2,some (.int s),some (.lst ((acc++vh many shift s o).map lD)),some (lD o),some (.lst (((iv 0 many).filter fun f=> !decide (f∈o)).map .int))]):=by
   simp [cW,k1,k2,k3,cL,c1,c2,hfl,hel,hae,hil]
  rw [List.map_cons,dQ]
  simp only [ko,List.set_cons_succ,List.set_cons_zero,ai,hb]
  rw [e2,List.flatMap_cons,List.append_assoc]
theorem uU (n many shift:Nat) (hm:many<=41) (hs:shift<=3) (hb:∀k,k<=many->(kQ many shift k).length<=10000000):∀(m s:Nat) (z3 z4 z5 z6:Option Dat),s+m<=many ->
  ∃y3 y4 y5 y6,dQ (.nm 3) (cV CT n) ((iv (s:Int) m).map .int) [some (.int many),some (.int shift),some (.lst ((kQ many shift s).map lD)),z3,z4,z5,z6]=.ok (.nx [some (.int many),some (.int shift),some (.lst ((kQ many shift (s+m)).map lD)),y3,y4,y5,y6])
 |0,s,z3,z4,z5,z6,_=>⟨z3,z4,z5,z6,by simp [dQ,iv]⟩
 |m+1,s,z3,z4,z5,z6,h=>by
  have hbs:=hb (s+1) (by omega)
  obtain ⟨y5,y6,e⟩:=law_in (CT:=CT) n many shift s hm hs (by omega) (some (.lst ((kQ many shift s).map lD))) (kQ many shift s) [] z5 z6 (fun o ho=>by have:=mr ho;omega) (by rw [<- kc];simpa using hbs)
  rw [<- kc,List.nil_append,List.map_nil] at e
  obtain ⟨x3,x4,x5,x6,e2⟩:=uU n many shift hm hs hb m (s+1) (some (.int s)) (some (.lst ((kQ many shift (s+1)).map lD))) y5 y6 (by omega)
  have e3:s+1+m=s+(m+1):=by omega
  have ecs:((s+1:Nat):Int)=(s:Int)+1:=by omega
  rw [e3,ecs] at e2
  refine ⟨x3,x4,x5,x6,?_⟩
  have hb5:cV CT n [some (.int many),some (.int shift),some (.lst ((kQ many shift s).map lD)),some (.int s),z4,z5,z6]=.ok (.nx [some (.int many),some (.int shift),some (.lst ((kQ many shift (s+1)).map lD)),some (.int s),some (.lst ((kQ many shift (s+1)).map lD)),y5,y6]):=by
   simp [cV,e]
  rw [pI,List.map_cons,dQ]
  simp only [ko,List.set_cons_succ,List.set_cons_zero,ai,hb5]
  rw [e2]
theorem sH (n many shift:Nat) (hm:many<=41) (hs:shift<=3) (hb:∀k,k<=many->(kQ many shift k).length<=10000000):bX CT n [.int many,.int shift]=.ok (.lst ((aT many shift many).map lD)):=by
 obtain ⟨y3,y4,y5,y6,e⟩:=uU (CT:=CT) n many shift hm hs hb many 0 none none none none (by omega)
 rw [Nat.zero_add,law_ord] at e
 have e0:(kQ many shift 0).map lD=[.lst []]:=rfl
 rw [e0] at e
 have k1:(-4611686018427387904:Int)<=(many:Int):=by omega
 have k2:(many:Int)<4611686018427387904:=by omega
 have k3:((many:Int)).toNat=many:=by omega
 have e1:(((0:Nat):Int))=0:=rfl
 rw [e1] at e
 simp [bX,g7,k1,k2,k3,cL,e]
noncomputable def kb (s:Nat):Nat:=match s with
 |0=>41
 |1=>13
 |2=>8
 |_=>7
noncomputable def mB (s:Nat):Nat:=match s with
 |1=>19
 |2=>11
 |_=>9
noncomputable def okT (m s:Nat):Bool:=(List.range (m+1)).all fun k=>Nat.ble (totM (runM m s k)) 5000
theorem chkA:((List.range 4).all fun s=>(List.range (kb s)).all fun m=>okT m s)=true:=by decide +kernel
theorem chkG:(okT 16 1&&okT 9 2&&okT 8 3)=true:=by decide +kernel
theorem chkM:((List.range 3).all fun s=>(List.range 41).all fun m=>Nat.blt m (mB (s+1))||Nat.blt 5000 (totM (runM m (s+1) m)))=true:=by decide +kernel
theorem tM {m s k:Nat} (hk:k<=m):totM (runM m s k)=(aT m s k).length:=by rw [u9 m s k hk,<- qf,tN hk]
theorem md {m s k:Nat} (h:okT m s=true) (hk:k<=m):(aT m s k).length<=5000:=by
 have:=List.all_eq_true.mp h k (List.mem_range.mpr (by omega))
 rw [tM hk] at this
 exact Nat.le_of_ble_eq_true this
theorem qJ (n:Nat) {m s:Nat} (hm:m<=41) (hs:s<=3):aG CT n [.int m,.int s]=.ok (.int ((aT m s m).length:Nat)):=by rw [many_ok n m s hm hs,tN (Nat.le_refl _)]
theorem qB (n:Nat) {m s:Nat} (hm:m<=41) (hs:s<=3) (h:okT m s=true):av CT n [.int m,.int s]=.ok (.lst ((aT m s m).map lD)):=
 uz n m s hm hs (fun k hk=>Nat.le_trans (md h hk) (by decide)) _ (qJ n hm hs) (md h (Nat.le_refl _))
theorem toomany (n:Nat) {m s:Nat} (hm:m<=41) (hs:s<=3) (h:5000<(aT m s m).length):av CT n [.int m,.int s]=.error (.exc CT []):=by
 have hc:=qJ (CT:=CT) n hm hs
 have hc':(5000:Int)<((aT m s m).length:Int):=by omega
 simp [av,cP,dc,hc,hc',gtD]
theorem refused (n:Nat) {m s:Nat} (hm:m<=41) (hs:s<=3) (h:5000<(aT m s m).length):bK CT n [.int m,.int s]=.ok (.bl true):=by
 have e:=toomany (CT:=CT) n hm hs h
 have e2:gf CT n [some (.int m),some (.int s),some (.lst []),none]=.ok (.nx [some (.int m),some (.int s),some (.lst [.bl true,.bl true,.bl false]),none]):=by
  refine (lE (C:=CT) (fs:=[]) (bs:=[true,true,false]) (by simp [e]) (by simp)).trans ?_
  simp
 simp [bK,fj,e2,eqM,okE,iF,eqD,mY]
theorem qS:∀{a b:List Int},a.length=b.length->eX a b=true->geL a b=false
 |[],[],_,h=>by simp [eX] at h
 |[],_::_,h,_=>by simp at h
 |_::_,[],h,_=>by simp at h
 |a::as,b::bs,hl,h=>by
  unfold eX at h
  unfold geL
  by_cases e:a=b
  ·rw [if_pos e] at h ⊢
   exact qS (by simpa using hl) h
  ·rw [if_neg e] at h ⊢
   have:=of_decide_eq_true h
   simp;omega
theorem zip_ok (n:Nat) (a0 a1 a2 a3 a6:Option Dat) (k:Nat):∀(o:List Int) (os:List (List Int)) (z4 z5:Option Dat),(o::os).Pairwise (fun a b=>eX a b=true)->(∀x∈o::os,x.length=k) ->
  ∃y4 y5,dQ (.tp [4,5]) (br CT n) (mZ (((o::os).map lD).take os.length) (os.map lD)) [a0,a1,a2,a3,z4,z5,a6]=.ok (.nx [a0,a1,a2,a3,y4,y5,a6])
 |o,[],z4,z5,_,_=>⟨z4,z5,by simp [mZ,dQ]⟩
 |o,p::os,z4,z5,hp,hl=>by
  have hp':=List.pairwise_cons.mp hp
  obtain ⟨y4,y5,e⟩:=zip_ok n a0 a1 a2 a3 a6 k p os (some (lD o)) (some (lD p)) hp'.2 fun x hx=>hl x (by simp [List.mem_cons] at hx ⊢;exact .inr hx)
  refine ⟨y4,y5,?_⟩
  have l1:o.length=p.length:=by rw [hl o (by simp),hl p (by simp)]
  have g:=qS l1 (hp'.1 p (by simp))
  have hb:br CT n [a0,a1,a2,a3,some (lD o),some (lD p),a6]=.ok (.nx [a0,a1,a2,a3,some (lD o),some (lD p),a6]):=by
   simp [br,fQ,lD,l1,g]
  rw [List.length_cons,List.map_cons,List.take_succ_cons,List.map_cons (l:=os),mZ,dQ]
  have ebp:gX (.tp [4,5]) (.tup [lD o,lD p]) [a0,a1,a2,a3,z4,z5,a6]=.ok [a0,a1,a2,a3,some (lD o),some (lD p),a6]:=by simp [gX,gc]
  rw [ebp]
  simp only [ai,hb]
  exact e
theorem uJ:∀(xs:List Int) (x:Int),x<=xs.foldl iI x/\(∀y∈xs,y<=xs.foldl iI x)/\(xs.foldl iI x=x\/xs.foldl iI x∈xs)
 |[],x=>by simp
 |y::ys,x=>by
  obtain ⟨h1,h2,h3⟩:=uJ ys (iI x y)
  have hz:x<=iI x y/\y<=iI x y/\(iI x y=x\/iI x y=y):=by unfold iI;split<;>omega
  obtain ⟨a,b,c⟩:=hz
  rw [List.foldl_cons]
  refine ⟨Int.le_trans a h1,fun z hz=>?_,?_⟩
  ·rcases List.mem_cons.mp hz with rfl|hz
   ·exact Int.le_trans b h1
   ·exact h2 z hz
  ·rcases h3 with h|h
   ·rw [h]
    rcases c with c|c
    ·exact .inl c
    ·exact .inr (by rw [c];simp)
   ·exact .inr (List.mem_cons_of_mem _ h)
theorem qg (n:Nat) (a1 a3 a4 a5:Option Dat) {m w:Nat} (hm:m<=41) (hm0:0<m) (z6:Option Dat):∀(os:List (List Int)),(∀o∈os,o∈aT m w m) ->
  ∃y6,dQ (.nm 6) (bq CT n) (os.map lD) [some (.int w),a1,some (.int m),a3,a4,a5,z6]=.ok (.nx [some (.int w),a1,some (.int m),a3,a4,a5,y6])
 |[],_=>⟨z6,by simp [dQ]⟩
 |o::os,h=>by
  have P:=eD (Nat.le_refl _) (h o (by simp))
  obtain ⟨y6,e⟩:=qg n a1 a3 a4 a5 hm hm0 (some (lD o)) os fun x hx=>h x (by simp [hx])
  refine ⟨y6,?_⟩
  have k1:(-4611686018427387904:Int)<=(m:Int):=by omega
  have k2:(m:Int)<4611686018427387904:=by omega
  have k3:((m:Int)).toNat=m:=by omega
  have so:gp [lD o]=.ok (.lst ((iv 0 m).map .int)):=by rw [show gp [lD o]=_ from u5 o (by rw [P.len];omega),si P]
  have ne:neM (.lst ((iv 0 m).map .int)) (.lst ((iv 0 m).map .int))=.ok (.bl false):=iH (by simp [okE])
  have c1:bH (.nm 0) qV (fL absD (aa (f2 rT (f2 ixD (ao 1) (ao 0)) (ao 0)) aX)) [none,some (lD o)] ((iv 0 m).map .int)=.ok (((List.range m).map fun p=>absZ (tAt o p-(p:Nat))).map .int):=by
   have e1:(iv 0 m).map Dat.int=(List.range m).map fun p:Nat=>Dat.int (p:Nat):=by
    have:∀(m:Nat) (a:Nat),(iv (a:Int) m)=(List.range m).map fun p:Nat=>((a+p:Nat):Int):=fun m=>by
     induction m with
     |zero=>intro a;rfl
     |succ m ih=>
      intro a
      rw [iv,show ((a:Int)+1)=((a+1:Nat):Int) by omega,ih (a+1),List.range_succ_eq_map,List.map_cons,List.map_map]
      congr 1
      refine List.map_congr_left fun p _=>?_
      simp;omega
    have:=this m 0
    rw [show ((0:Nat):Int)=0 from rfl] at this
    rw [this,List.map_map]
    refine List.map_congr_left fun p _=>?_
    simp
   rw [e1,List.map_map]
   refine iO _ _ _ fun p hp=>⟨[some (.int (p:Nat)),some (lD o)],by simp,?_⟩
   have hp':p<o.length:=by rw [P.len];exact List.mem_range.mp hp
   simp [lD,getT hp',absD,absZ]
  have c2:∀x∈(List.range m).map (fun p=>absZ (tAt o p-(p:Nat))),x<=(w:Int):=fun x hx=>by
   obtain ⟨p,hp,rfl⟩:=List.mem_map.mp hx
   have hp':p<o.length:=by rw [P.len];exact List.mem_range.mp hp
   have:=qC P p hp'
   simp only [tAt,List.getD_eq_getElem?_getD,List.getElem?_eq_getElem hp',Option.getD_some]
   exact this
  have c3:∃y,maxD [.lst (((List.range m).map fun p=>absZ (tAt o p-(p:Nat))).map .int)]=.ok (.int y)/\y<=(w:Int):=by
   rw [e_maxL,cq,ai]
   cases hl:(List.range m).map (fun p=>absZ (tAt o p-(p:Nat))) with
   |nil=>have:=congrArg List.length hl;simp at this;omega
   |cons x xs=>
    rw [hl] at c2
    refine ⟨_,rfl,?_⟩
    rcases (uJ xs x).2.2 with z|z
    ·rw [z];exact c2 x (by simp)
    ·exact c2 _ (by simp [z])
  obtain ⟨y,c3,c4⟩:=c3
  have c5:¬(w:Int)<y:=by omega
  have hil:(iv 0 m).length<=16777216:=by rw [d6];omega
  have hb:bq CT n [some (.int w),a1,some (.int m),a3,a4,a5,some (lD o)]=.ok (.nx [some (.int w),a1,some (.int m),a3,a4,a5,some (lD o)]):=by
   simp [bq,fP,so,cL,k1,k2,k3,hil,ne,c1,c3,c5,gtD,-e_maxL,-List.map_map]
  rw [List.map_cons,dQ]
  simp only [ko,List.set_cons_succ,List.set_cons_zero,ai,hb]
  exact e
theorem okE_os (os:List (List Int)):okE (.lst (os.map lD)) 40=true:=by
 have h2:∀ts:List (List Int),iF (ts.map lD) 39=true:=by
  intro ts
  induction ts with
  |nil=>simp [iF]
  |cons t ts ih=>simp [iF,okE,lD] at ih ⊢;exact ih
 exact h2 os
theorem getO (os:List (List Int)) (j:Nat) (h:j<os.length):pK (os.map lD) (j:Int)=.ok (lD os[j]):=by
 rw [mz (by simpa using h)];simp
theorem v9 (os:List (List Int)) (h:0<os.length):pK (os.map lD) (-1)=.ok (lD (os[os.length-1]'(by omega))):=by
 unfold pK atI ixN
 rw [if_neg (by decide),if_pos (by simp;omega)]
 have:((-1:Int)+((os.map lD).length:Int)).toNat=os.length-1:=by simp;omega
 rw [this]
 simp [show os.length-1<os.length by omega]
theorem mx (n:Nat) {m w:Nat} (hm:m<=41) (hm0:0<m) (hs:w<=3) (h:okT m w=true) (hx:ixD (.lst [.int 0,.int 16,.int 9,.int 8]) (.int w)=.ok (.int m)) (c:Int):bo CT n [.int w,.int c]=.ok (.bl true):=by
 obtain ⟨r,e0⟩:=nI (many:=m) (shift:=w) (k:=m) (Nat.le_refl _)
 have hl5:=md h (Nat.le_refl _)
 have hpos:0<(aT m w m).length:=by rw [e0];simp
 have eo:=qB (CT:=CT) n hm hs h
 have em:=qJ (CT:=CT) n hm hs
 have k1:(-4611686018427387904:Int)<=(m:Int):=by omega
 have k2:(m:Int)<4611686018427387904:=by omega
 have k3:((m:Int)).toNat=m:=by omega
 have hil:(iv 0 m).length<=16777216:=by rw [d6];omega
 have hr:(aT m w m).Pairwise fun a b=>eX a b=true:=by rw [pB];exact jz m
 have hlen:∀x∈aT m w m,x.length=m:=fun x hx=>(eD (Nat.le_refl _) hx).len
 have cut1:pP ((aT m w m).map lD) none (some (-1))=((aT m w m).map lD).take r.length:=by
  have:((-1:Int)+(((aT m w m).map lD).length:Int)).toNat=r.length:=by rw [e0];simp;omega
  simp only [pP,cX]
  rw [if_pos (by decide),this]
  simp
 have cut2:pP ((aT m w m).map lD) (some 1) none=r.map lD:=by
  rw [e0]
  simp only [pP,cX,List.map_cons]
  simp
  exact List.take_of_length_le (by simp)
 obtain ⟨y4,y5,ez⟩:=zip_ok (CT:=CT) n (some (.int w)) (some (.int c)) (some (.int m)) (some (.lst ((aT m w m).map lD))) none m (iv 0 m) r none none (by rw [<- e0];exact hr) (by rw [<- e0];exact hlen)
 rw [<- e0] at ez
 have hj0:0<=c%((aT m w m).length:Int):=Int.emod_nonneg _ (by omega)
 have hj1:c%((aT m w m).length:Int)<((aT m w m).length:Int):=Int.emod_lt_of_pos _ (by omega)
 have hjn:(c%((aT m w m).length:Int)).toNat<(aT m w m).length:=by omega
 have g0:pK ((aT m w m).map lD) 0=.ok (lD (iv 0 m)):=by
  have:=getO (aT m w m) 0 hpos
  rw [show ((0:Nat):Int)=0 from rfl] at this
  rw [this]
  simp [e0]
 obtain ⟨o1,m1,g1⟩:∃o1∈aT m w m,pK ((aT m w m).map lD) (-1)=.ok (lD o1):=⟨_,List.getElem_mem _,v9 (aT m w m) hpos⟩
 obtain ⟨o2,m2,g2⟩:∃o2∈aT m w m,pK ((aT m w m).map lD) (c%((aT m w m).length:Int))=.ok (lD o2):=by
  have:=getO (aT m w m) _ hjn
  rw [show (((c%((aT m w m).length:Int)).toNat:Nat):Int)=c%((aT m w m).length:Int) by omega] at this
  exact ⟨_,List.getElem_mem _,this⟩
 obtain ⟨y6,e3⟩:=qg (CT:=CT) n (some (.int c)) (some (.lst ((aT m w m).map lD))) y4 y5 (w:=w) hm hm0 none [iv 0 m,o1,o2] fun o ho=>by
  simp only [List.mem_cons,List.not_mem_nil,or_false] at ho
  rcases ho with z|z|z
  ·rw [z,e0];simp
  ·rw [z];exact m1
  ·rw [z];exact m2
 simp only [List.map_cons,List.map_nil] at e3
 have hgz:¬((aT m w m).length:Int)=0:=by omega
 have hgp:(0:Int)<((aT m w m).length:Int):=by omega
 have eqv:eqM (lD (iv 0 m)) (.lst ((iv 0 m).map .int))=.ok (.bl true):=by simp [eqM,okE,lD,eqD]
 have neL:neM (.int ((aT m w m).length:Nat)) (.int ((aT m w m).length:Nat))=.ok (.bl false):=iH rfl
 have ex:=hx
 simp only [ixD] at ex
 have i1:bR (.lst ((aT m w m).map lD))=.ok (.bl true):=rfl
 clear e0 hr hlen
 generalize aT m w m=R at *
 have st1:de CT n [some (.int w),some (.int c),some (.int m),some (.lst (R.map lD)),none,none,none]=.ok (.nx [some (.int w),some (.int c),some (.int m),some (.lst (R.map lD)),none,none,none]):=by
  simp [de,i1,em,neL]
 have st2:m4 [] (vg (fSl dY (ao 3) jZ (i8 (f1 negD (fC (.int 1))))) (fSl dY (ao 3) (i8 (fC (.int 1))) jZ)) (.tp [4,5]) (br CT n) [some (.int w),some (.int c),some (.int m),some (.lst (R.map lD)),none,none,none]=.ok (.nx [some (.int w),some (.int c),some (.int m),some (.lst (R.map lD)),y4,y5,none]):=by
  simp [cut1,cut2,ez,gC]
 have st3:m4 [] (fIt (fL bw (aa (f2 ixD (ao 3) (fC (.int 0))) (aa (f2 ixD (ao 3) (f1 negD (fC (.int 1)))) (aa (f2 ixD (ao 3) (f2 nL (ao 1) (fL tj (aa (ao 3) aX)))) aX))))) (.nm 6) (bq CT n) [some (.int w),some (.int c),some (.int m),some (.lst (R.map lD)),y4,y5,none]=.ok (.nx [some (.int w),some (.int c),some (.int m),some (.lst (R.map lD)),y4,y5,y6]):=by
  simp [g0,g1,g2,hpos,e3,gd]
 have st4:ji (f2 eqM (f2 ixD (ao 3) (fC (.int 0))) (fLR (gm jy (aa (ao 2) aX)))) [some (.int w),some (.int c),some (.int m),some (.lst (R.map lD)),y4,y5,y6]=.ok (.rt (.bl true)):=by
  simp [g0,cL,k1,k2,k3,hil,eqv]
 have st0:bL [] 2 (f2 ixD (fL bw (aa (fC (.int 0)) (aa (fC (.int 16)) (aa (fC (.int 9)) (aa (fC (.int 8)) aX))))) (ao 0)) [some (.int w),some (.int c),none,none,none,none,none]=.ok (.nx [some (.int w),some (.int c),some (.int m),none,none,none,none]):=by
  simp [ex]
 have st5:bL [] 3 (fL (noM (av CT n)) (aa (ao 2) (aa (ao 0) aX))) [some (.int w),some (.int c),some (.int m),none,none,none,none]=.ok (.nx [some (.int w),some (.int c),some (.int m),some (.lst (R.map lD)),none,none,none]):=by
  simp [eo]
 have all:cQ CT n [some (.int w),some (.int c),none,none,none,none,none]=.ok (.rt (.bl true)):=by
  unfold cQ
  simp only [e_seq,st0,ai,st5,st1,st2,st3,st4]
 unfold bo
 rw [e_run]
 simp [all]
theorem rm (n:Nat) (ns:List Int) (k:Int) (h0:0<=k) (h1:k<1000):∃c,aB CT n [.lst (ns.map .int),.int k]=.ok (.int c):=by
 by_cases hk:k<(ns.length:Int)
 ·exact ⟨ns[k.toNat]'(by omega),by simp [aB,eJ,dR,hk,getI_int h0 hk]⟩
 ·by_cases hn:ns=[]
  ·subst hn
   have:¬k<0:=by omega
   exact ⟨0,by simp [aB,eJ,dR,g9,this,eqM,okE,iF,eqD,mY]⟩
  ·have hl:0<ns.length:=List.length_pos_iff.mpr hn
   have hl2:(0:Int)<ns.length:=by omega
   have hm0:0<=k%(ns.length:Int):=Int.emod_nonneg _ (by omega)
   have hm1:k%(ns.length:Int)<(ns.length:Int):=Int.emod_lt_of_pos _ (by omega)
   have hs:dG k=true:=by rw [u6,Bool.and_eq_true,decide_eq_true_eq,decide_eq_true_eq];omega
   have hmm:mulD (.int k) (.int k)=.ok (.int (k*k)):=e_mulR hs
   exact ⟨ns[(k%(ns.length:Int)).toNat]'(by omega)*69621+k*k*48271,by simp [aB,eJ,dR,g9,hk,eqM,okE,iF,eqD,hn,hl,getI_int hm0 hm1,hmm]⟩
theorem uT {m s:Nat} (hs:s<=3) (hm:m<kb s):okT m s=true:=by
 have h:=chkA
 have h1:=List.all_eq_true.mp h s (List.mem_range.mpr (by omega))
 exact List.all_eq_true.mp h1 m (List.mem_range.mpr hm)
theorem law_pow {m s k:Nat} (hs:s<=3) (hm:m<kb s) (hk:k<=m):(kQ m s k).length<=10000000:=by
 refine Nat.le_trans (qO m s k) ?_
 have h1:(2*s+1)^k<=(2*s+1)^(kb s-1):=Nat.pow_le_pow_right (by omega) (by omega)
 refine Nat.le_trans h1 ?_
 match s,hs with
 |0,_=>simp
 |1,_=>decide
 |2,_=>decide
 |3,_=>decide
theorem law_many {m w:Nat} (h1:1<=w) (hw:w<=3) (hm:m<=40) (hf:mB w<=m):5000<(aT m w m).length:=by
 obtain ⟨s,rfl⟩:∃s,w=s+1:=⟨w-1,by omega⟩
 have h:=List.all_eq_true.mp (List.all_eq_true.mp chkM s (List.mem_range.mpr (by omega))) m (List.mem_range.mpr (by omega))
 rw [Bool.or_eq_true] at h
 rcases h with h|h
 ·have:m+1<=mB (s+1):=Nat.le_of_ble_eq_true h
  omega
 ·rw [tM (Nat.le_refl _)] at h
  exact Nat.le_of_ble_eq_true h
theorem nC (N:Nat) (hN:N<=5000):∀os:List (List Int),(∀o∈os,o.length<=50)->jR N (os.map lD)=true
 |[],_=>rfl
 |o::os,h=>by
  have h1:=h o (by simp)
  have h2:=nC N hN os fun x hx=>h x (by simp [hx])
  show (((o.map Dat.int).all isI&&decide ((o.map Dat.int).length+N<=sizeLine))&&jR N (os.map lD))=true
  rw [h2,sizeLine_eq]
  have:(o.map Dat.int).all isI=true:=by
   rw [List.all_eq_true];intro d hd;obtain ⟨i,_,rfl⟩:=List.mem_map.mp hd;rfl
  rw [this]
  simp
  omega
theorem rM (o:List Int):bH (.nm 0) (fOr (mC (jD (f1 eZ (ao 0)))) (jD (f1 dB (ao 0)))) (ao 0) [none] (o.map .int)=.ok ([]:List Dat):=by
 have:=gO (p:=.nm 0) (ft:=fOr (mC (jD (f1 eZ (ao 0)))) (jD (f1 dB (ao 0)))) (fe:=ao 0) (ρ0:=[none]) (fun _=>false) Dat.int o fun x _=>⟨[some (.int x)],by simp,by simp [eZ,dB],fun h=>nomatch h⟩
 rw [this]
 simp
theorem any_ok (a0 a1 a2 a3 a4 a5 a6 a7 a8:Option Dat):∀os:List (List Int),(∀o∈os,o.length<=50)->anyT 6 (fOr (mC (jD (f1 bR (ao 6)))) (fB (f2 neM (gE (fIt (ao 6)) [none] (.nm 0) (fOr (mC (jD (f1 eZ (ao 0)))) (jD (f1 dB (ao 0)))) (ao 0)) (fL bw aX)))) (os.map lD) [a0,a1,a2,a3,a4,a5,a6,a7,a8]=.ok false
 |[],_=>rfl
 |o::os,h=>by
  have ih:=any_ok a0 a1 a2 a3 a4 a5 a6 a7 a8 os fun x hx=>h x (by simp [hx])
  have hl:o.length<=16777216:=by have:=h o (by simp);omega
  have nn:neM (.lst []) (.lst [])=.ok (.bl false):=iH rfl
  have e:fOr (mC (jD (f1 bR (ao 6)))) (fB (f2 neM (gE (fIt (ao 6)) [none] (.nm 0) (fOr (mC (jD (f1 eZ (ao 0)))) (jD (f1 dB (ao 0)))) (ao 0)) (fL bw aX))) [a0,a1,a2,a3,a4,a5,some (lD o),a7,a8]=.ok false:=by
   simp [lD,bR,gd,hl,rM,nn]
  show ((fOr _ _ [a0,a1,a2,a3,a4,a5,some (lD o),a7,a8]).bind fun b=>if b=true then .ok true else anyT 6 _ (os.map lD) [a0,a1,a2,a3,a4,a5,a6,a7,a8])=.ok false
  rw [e,ai,if_neg (by decide)]
  exact ih
theorem law_true (CT:Addr):∀ns:List Int,ns.length<=63->∃n,m_law CT n [.lst (ns.map .int)]=.ok (.bl true):=by
 intro ns hns
 obtain ⟨c0,e0⟩:=rm (CT:=CT) 64 ns 0 (by decide) (by decide)
 obtain ⟨c1,e1⟩:=rm (CT:=CT) 64 ns 1 (by decide) (by decide)
 obtain ⟨c2,e2⟩:=rm (CT:=CT) 64 ns 2 (by decide) (by decide)
 obtain ⟨c3,e3⟩:=rm (CT:=CT) 64 ns 3 (by decide) (by decide)
 obtain ⟨s,hs,es⟩:∃s:Nat,s<=3/\c1%4=(s:Int):=⟨(c1%4).toNat,by omega,by omega⟩
 have ix1:∃a:Nat,a<=kb s/\0<a/\ixD (.lst [.int 9,.int 9,.int 7,.int 6]) (.int s)=.ok (.int a):=by
  match s,hs with
  |0,_=>exact ⟨9,by decide,by decide,rfl⟩
  |1,_=>exact ⟨9,by decide,by decide,rfl⟩
  |2,_=>exact ⟨7,by decide,by decide,rfl⟩
  |3,_=>exact ⟨6,by decide,by decide,rfl⟩
 have ix2:ixD (.lst [.int 41,.int 13,.int 8,.int 7]) (.int s)=.ok (.int (kb s:Nat)):=by
  match s,hs with
  |0,_=>rfl
  |1,_=>rfl
  |2,_=>rfl
  |3,_=>rfl
 have hB:0<kb s/\kb s<=41:=by
  match s,hs with
  |0,_=>decide
  |1,_=>decide
  |2,_=>decide
  |3,_=>decide
 obtain ⟨a,ha1,ha2,ix1⟩:=ix1
 simp only [ixD] at ix1 ix2
 have q1:bL [] 1 (f2 nL (fL (aB CT 64) (aa (ao 0) (aa (fC (.int 1)) aX))) (fC (.int 4))) [some (.lst (ns.map .int)),none,none,none,none,none,none,none,none]=.ok (.nx [some (.lst (ns.map .int)),some (.int s),none,none,none,none,none,none,none]):=by
  simp [e1,es]
 have q2:bL [] 2 (f2 ixD (fL bw (aa (fC (.int 9)) (aa (fC (.int 9)) (aa (fC (.int 7)) (aa (fC (.int 6)) aX))))) (ao 1)) [some (.lst (ns.map .int)),some (.int s),none,none,none,none,none,none,none]=.ok (.nx [some (.lst (ns.map .int)),some (.int s),some (.int a),none,none,none,none,none,none]):=by
  simp [ix1]
 obtain ⟨most,hmo,hm0,q3⟩:∃most:Nat,most<=kb s/\0<most/\mU CT 64 [some (.lst (ns.map .int)),some (.int s),some (.int a),none,none,none,none,none,none]=.ok (.nx [some (.lst (ns.map .int)),some (.int s),some (.int most),none,none,none,none,none,none]):=by
  by_cases hq:c1/4%4=1
  ·refine ⟨kb s,Nat.le_refl _,hB.1,?_⟩
   simp [mU,e1,eqM,okE,eqD,hq,ix2]
  ·refine ⟨a,ha1,ha2,?_⟩
   simp [mU,e1,eqM,okE,eqD,hq]
 obtain ⟨m,hm,em⟩:∃m:Nat,m<most/\c0%(most:Int)=(m:Int):=by
  have h0:=Int.emod_nonneg c0 (show (most:Int)≠0 by omega)
  have h1:=Int.emod_lt_of_pos c0 (show (0:Int)<most by omega)
  exact ⟨(c0%(most:Int)).toNat,by omega,by omega⟩
 have q4:bL [] 3 (f2 nL (fL (aB CT 64) (aa (ao 0) (aa (fC (.int 0)) aX))) (ao 2)) [some (.lst (ns.map .int)),some (.int s),some (.int most),none,none,none,none,none,none]=.ok (.nx [some (.lst (ns.map .int)),some (.int s),some (.int most),some (.int m),none,none,none,none,none]):=by
  have:(0:Int)<most:=by omega
  simp [e0,this,em,hm0]
 have hmB:m<kb s:=by omega
 have hm41:m<=41:=by omega
 have ok:=uT hs hmB
 have eo:=qB (CT:=CT) 64 hm41 hs ok
 have el:=sH (CT:=CT) 64 m s hm41 hs fun k hk=>law_pow hs hmB hk
 have en:=qJ (CT:=CT) 64 hm41 hs
 have hl5:=md ok (Nat.le_refl _)
 have hlen:∀o∈aT m s m,o.length<=50:=fun o ho=>by have:=(eD (Nat.le_refl _) ho).len;omega
 have nq:neM (.lst ((aT m s m).map lD)) (.lst ((aT m s m).map lD))=.ok (.bl false):=iH (okE_os _)
 have nl:neM (.int ((aT m s m).length:Nat)) (.int ((aT m s m).length:Nat))=.ok (.bl false):=iH rfl
 have i1:bR (.lst ((aT m s m).map lD))=.ok (.bl true):=rfl
 have ro:jR (aT m s m).length ((aT m s m).map lD)=true:=nC _ hl5 _ hlen
 obtain ⟨w,hw1,hw3,ew⟩:∃w:Nat,1<=w/\w<=3/\1+c2%3=(w:Int):=⟨(1+c2%3).toNat,by omega,by omega,by omega⟩
 have ixf:ixD (.lst [.int 0,.int 19,.int 11,.int 9]) (.int w)=.ok (.int (mB w:Nat)):=by
  match w,hw1,hw3 with
  |1,_,_=>rfl
  |2,_,_=>rfl
  |3,_,_=>rfl
 have hf41:mB w<=40:=by
  match w,hw1,hw3 with
  |1,_,_=>decide
  |2,_,_=>decide
  |3,_,_=>decide
 simp only [ixD] at ixf
 have gr:bo CT 64 [.int w,.int (c3/16)]=.ok (.bl true):=by
  have hG:=chkG
  rw [Bool.and_eq_true,Bool.and_eq_true] at hG
  match w,hw1,hw3 with
  |1,_,_=>exact mx 64 (m:=16) (by decide) (by decide) (by decide) hG.1.1 rfl _
  |2,_,_=>exact mx 64 (m:=9) (by decide) (by decide) (by decide) hG.1.2 rfl _
  |3,_,_=>exact mx 64 (m:=8) (by decide) (by decide) (by decide) hG.2 rfl _
 obtain ⟨x,hx0,hx1,ex⟩:∃x:Nat,mB w<=x/\x<=40/\(mB w:Int)+c2/3%(41-(mB w:Int))=(x:Int):=by
  have h0:=Int.emod_nonneg (c2/3) (show (41-(mB w:Int))≠0 by omega)
  have h1:=Int.emod_lt_of_pos (c2/3) (show (0:Int)<41-(mB w:Int) by omega)
  exact ⟨((mB w:Int)+c2/3%(41-(mB w:Int))).toNat,by omega,by omega,by omega⟩
 have rf:=refused (CT:=CT) 64 (m:=x) (s:=w) (by omega) hw3 (law_many hw1 hw3 hx1 hx0)
 have t1:pU CT 64 [some (.lst (ns.map .int)),some (.int s),some (.int most),some (.int m),none,some (.lst ((aT m s m).map lD)),none,none,none]=.ok (.nx [some (.lst (ns.map .int)),some (.int s),some (.int most),some (.int m),none,some (.lst ((aT m s m).map lD)),none,none,none]):=by
  simp [pU,eo,nq]
 have t2:bL [] 7 (f2 iV (fC (.int 1)) (f2 nL (fL (aB CT 64) (aa (ao 0) (aa (fC (.int 2)) aX))) (fC (.int 3)))) [some (.lst (ns.map .int)),some (.int s),some (.int most),some (.int m),none,some (.lst ((aT m s m).map lD)),none,none,none]=.ok (.nx [some (.lst (ns.map .int)),some (.int s),some (.int most),some (.int m),none,some (.lst ((aT m s m).map lD)),none,some (.int w),none]):=by
  simp [e2,ew]
 have t3:bL [] 8 (f2 ixD (fL bw (aa (fC (.int 0)) (aa (fC (.int 19)) (aa (fC (.int 11)) (aa (fC (.int 9)) aX))))) (ao 7)) [some (.lst (ns.map .int)),some (.int s),some (.int most),some (.int m),none,some (.lst ((aT m s m).map lD)),none,some (.int w),none]=.ok (.nx [some (.lst (ns.map .int)),some (.int s),some (.int most),some (.int m),none,some (.lst ((aT m s m).map lD)),none,some (.int w),some (.int (mB w:Nat))]):=by
  simp [ixf]
 have t4:mT CT 64 [some (.lst (ns.map .int)),some (.int s),some (.int most),some (.int m),none,some (.lst ((aT m s m).map lD)),none,some (.int w),some (.int (mB w:Nat))]=.ok (.nx [some (.lst (ns.map .int)),some (.int s),some (.int most),some (.int m),none,some (.lst ((aT m s m).map lD)),none,some (.int w),some (.int (mB w:Nat))]):=by
  by_cases hq:c3%16=5
  ·simp [mT,e3,eqM,okE,eqD,hq,gr]
  ·simp [mT,e3,eqM,okE,eqD,hq]
 have hd:(0:Int)<41-(mB w:Int):=by omega
 have t5:ji (fL (bK CT 64) (aa (f2 iV (ao 8) (f2 nL (f2 pN (fL (aB CT 64) (aa (ao 0) (aa (fC (.int 2)) aX))) (fC (.int 3))) (f2 rT (fC (.int 41)) (ao 8)))) (aa (ao 7) aX))) [some (.lst (ns.map .int)),some (.int s),some (.int most),some (.int m),none,some (.lst ((aT m s m).map lD)),none,some (.int w),some (.int (mB w:Nat))]=.ok (.rt (.bl true)):=by
  have hmd:nL (.int (c2/3)) (.int (41-(mB w:Int)))=.ok (.int (c2/3%(41-(mB w:Int)))):=by
   show (if _ then _ else _)=_
   rw [if_pos (by simpa using hd)]
  simp [e2,hmd,ex,rf]
 have an:=any_ok (some (.lst (ns.map .int))) (some (.int s)) (some (.int most)) (some (.int m)) (some (.lst ((aT m s m).map lD))) (some (.lst ((aT m s m).map lD))) none none none (aT m s m) hlen
 refine ⟨64,?_⟩
 have all:g_law CT 64 [some (.lst (ns.map .int)),none,none,none,none,none,none,none,none]=.ok (.rt (.bl true)):=by
  unfold g_law
  simp only [e_seq,q1,q2,q3,q4,ai]
  unfold s9
  have u1:(fL (noM (av CT 64)) (aa (ao 3) (aa (ao 1) aX))) (lu [some (.lst (ns.map .int)),some (.int s),some (.int most),some (.int m),none,none,none,none,none])=.ok (.lst ((aT m s m).map lD)):=by
   have:lu [some (.lst (ns.map .int)),some (.int s),some (.int most),some (.int m),none,none,none,none,none]=[none,some (.int s),some (.int most),some (.int m),none,none,none,none,none]:=rfl
   rw [this]
   simp [eo]
  rw [u1,ai]
  dsimp only
  rw [if_pos (by rw [List.length_map,ro];rfl)]
  have u2:(fL (bX CT 64) (aa (ao 3) (aa (ao 1) aX))) ([some (.lst (ns.map .int)),some (.int s),some (.int most),some (.int m),none,none,none,none,none].set 4 none)=.ok (.lst ((aT m s m).map lD)):=by
   simp [el]
  rw [u2,ai]
  simp only [List.set_cons_succ,List.set_cons_zero]
  have u3:(fOr (mC (jD (f1 bR (ao 4)))) (fOr (fB (f2 neM (ao 4) (ao 5))) (fB (f2 neM (fL (aG CT 64) (aa (ao 3) (aa (ao 1) aX))) (fL tj (aa (ao 5) aX)))))) [some (.lst (ns.map .int)),some (.int s),some (.int most),some (.int m),some (.lst ((aT m s m).map lD)),some (.lst ((aT m s m).map lD)),none,none,none]=.ok false:=by
   simp [i1,nq,en,nl]
  rw [u3,ai,if_neg (by decide),an,ai,if_neg (by decide)]
  simp only [e_seq,t1,t2,t3,t4,t5,ai]
 unfold m_law
 rw [e_run]
 simp [all]
end
theorem fin_mk {P:Program} {w:World} {K:PySem.W.Frag} {mg:Str->Option Value} {st:Stmt} {ps:List Str} {f:Addr} {fd:FuncData} {k:Nat} (_:Def K mg "law" st ps f fd) (hb:∀(s:Shared) (v:Value),BindsTo s fd ⟨[v],[]⟩ [("_law_script",v)]) (h:∀base:Heap,gS P w K mg base CX0 k f fd ["_law_script"] (rV K)):∃fd:FuncData,(∀(s:Shared) (v:Value),BindsTo s fd ⟨[v],[]⟩ [("_law_script",v)])/\∀base:Heap,K.In base->base.Ns mainGlobals mg->gS P w K mg base CX0 k f fd ["_law_script"] (rV K):=⟨fd,hb,fun base _ _=>h base⟩
theorem all_mk {l:PySem.W.OpenLaw} {w:World} {K:PySem.W.Frag} {h:Heap} {mg:Str->Option Value} {fa sR CT AStripError ATooMany ANoRules ANoTime ANoPlace ANotFree ANoPlan ANoSheet ANoRow:Addr} {od_law an_law:Option Addr} {sl_law:Array (Option Value)} {oc_law kV_law dc_law pm_law cd_law ct_law:Value} {lW:Tok} (KX:K.In h) (G:h.Ns mainGlobals mg) (hfa:mg "law"=some (.ref fa))
  (gD:∃f fd,Def K mg "choices_of" cC ["pool","size"] f fd)
  (eF:∃f fd,Def K mg "beginnings_of" bO ["many","shift","size"] f fd)
  (dI:∃f fd,Def K mg "smaller_by_one" cw ["some"] f fd)
  (fY:∃f fd,Def K mg "many_orders" bW ["many","shift"] f fd)
  (eE:∃f fd,Def K mg "orders_within" bj ["many","shift"] f fd)
  (fZ:∃f fd,Def K mg "_law_orders" dO ["_law_many","_law_shift"] f fd)
  (fg:∃f fd,Def K mg "_law_refused" dg ["_law_many","_law_shift"] f fd)
  (ie:∃f fd,Def K mg "_law_cell" fV ["_law_script","_law_k"] f fd)
  (eG:∃f fd,Def K mg "_law_greatest" cK ["_law_wide","_law_cell_here"] f fd)
  (a_law:nsIn K mainGlobals "law"=some (some (.ref sR)))
  (l_law:K.lookup sR=some ⟨oc_law,od_law,.func (fnOf "law" "law" (gH rZ) (eN rZ) (aD rZ) .none kV_law dc_law pm_law an_law cd_law ct_law),sl_law⟩)
  (d_law:codeIn K cd_law "law"=true)
  (k_law:keepIn K (.ref sR)=true)
  (tK:nsIn K mainGlobals "TooMany"=some (some (.ref CT)))
  (dN:nsIn K mainGlobals "StripError"=some (some (.ref AStripError)))
  (iX:nsIn K mainGlobals "TooMany"=some (some (.ref ATooMany)))
  (j0:nsIn K mainGlobals "NoRules"=some (some (.ref ANoRules)))
  (jL:nsIn K mainGlobals "NoTime"=some (some (.ref ANoTime)))
  (j3:nsIn K mainGlobals "NoPlace"=some (some (.ref ANoPlace)))
  (iY:nsIn K mainGlobals "NotFree"=some (some (.ref ANotFree)))
  (jM:nsIn K mainGlobals "NoPlan"=some (some (.ref ANoPlan)))
  (iZ:nsIn K mainGlobals "NoSheet"=some (some (.ref ANoSheet)))
  (lR:nsIn K mainGlobals "NoRow"=some (some (.ref ANoRow)))
  (dW:PySem.W.typeIn K (.ref AStripError)=some (.type "type"))
  (dX:PySem.W.mroIn K AStripError (.type "BaseException")=some true)
  (tG:PySem.W.mroIn K CT (.ref AStripError)=some true)
  (oY:PySem.W.findIn K (.ref CT) "__getattribute__"=some (some (.builtin "BaseException.__getattribute__")))
  (oZ:PySem.W.findIn K (.ref CT) "__class__"=some (some (.builtin "object.__class__")))
  (oX:PySem.W.findIn K (.ref CT) "__getattr__"=some none)
  (p0:PySem.W.mroIn K CT (.type "BaseException")=some true)
  (oV:PySem.W.mroIn K CT (.type "object")=some true)
  (oW:(PySem.W.clsIn K CT).isSome=true)
  (oU:kitOne K (.ref CT) (.ref ATooMany)=some true)
  (oS:kitOne K (.ref CT) (.type "ValueError")=some true)
  (oR:kitAny K (.ref CT) ([ANoRules,ANoTime,ANoPlace,ANotFree,ANoPlan,ANoSheet,ANoRow].map Value.ref)=some false)
  (tJ:PySem.W.excIn K CT [.type "ValueError",.type "Exception",.type "BaseException",.type "object"] "ValueError.__new__"=true)
  (dr:nsIn K mainGlobals "ValueError"=some none)
  (tE:nsIn K mainGlobals "abs"=some none)
  (n4:nsIn K mainGlobals "bool"=some none)
  (n3:nsIn K mainGlobals "dict"=some none)
  (d8:nsIn K mainGlobals "enumerate"=some none)
  (tB:nsIn K mainGlobals "int"=some none)
  (aN:nsIn K mainGlobals "isinstance"=some none)
  (jK:nsIn K mainGlobals "len"=some none)
  (gZ:nsIn K mainGlobals "list"=some none)
  (rJ:nsIn K mainGlobals "max"=some none)
  (tw:nsIn K mainGlobals "min"=some none)
  (cG:nsIn K mainGlobals "range"=some none)
  (gK:nsIn K mainGlobals "sorted"=some none)
  (rH:nsIn K mainGlobals "sum"=some none)
  (iW:nsIn K mainGlobals "tuple"=some none)
  (tu:nsIn K mainGlobals "zip"=some none)
  (cR:nsIn K mainGlobals "MOST_ORDERS"=some (some (.int 5000 lW)))
  (gz:kitOne K (.type "int") (.type "int")=some true)
  (fN:kitOne K (.type "bool") (.type "int")=some true)
  (fH:kitOne K (.type "list") (.type "int")=some false)
  (e8:kitOne K (.type "tuple") (.type "int")=some false)
  (gv:kitOne K (.type "str") (.type "int")=some false)
  (cm:kitOne K (.type "NoneType") (.type "int")=some false)
  (fK:kitOne K (.type "int") (.type "bool")=some false)
  (eC:kitOne K (.type "bool") (.type "bool")=some true)
  (eu:kitOne K (.type "list") (.type "bool")=some false)
  (dw:kitOne K (.type "tuple") (.type "bool")=some false)
  (fF:kitOne K (.type "str") (.type "bool")=some false)
  (bQ:kitOne K (.type "NoneType") (.type "bool")=some false)
  (fJ:kitOne K (.type "int") (.type "list")=some false)
  (eB:kitOne K (.type "bool") (.type "list")=some false)
  (ee:kitOne K (.type "list") (.type "list")=some true)
  (dv:kitOne K (.type "tuple") (.type "list")=some false)
  (fE:kitOne K (.type "str") (.type "list")=some false)
  (bP:kitOne K (.type "NoneType") (.type "list")=some false)
  (eA:kitOne K (.type "int") (.type "tuple")=some false)
  (dA:kitOne K (.type "bool") (.type "tuple")=some false)
  (dz:kitOne K (.type "list") (.type "tuple")=some false)
  (cM:kitOne K (.type "tuple") (.type "tuple")=some true)
  (e9:kitOne K (.type "str") (.type "tuple")=some false)
  (bC:kitOne K (.type "NoneType") (.type "tuple")=some false)
  (gw:kitOne K (.type "int") (.type "str")=some false)
  (fM:kitOne K (.type "bool") (.type "str")=some false)
  (fG:kitOne K (.type "list") (.type "str")=some false)
  (dZ:kitOne K (.type "tuple") (.type "str")=some false)
  (gu:kitOne K (.type "str") (.type "str")=some true)
  (ck:kitOne K (.type "NoneType") (.type "str")=some false)
  (x_nl:sm K=true) :
  ∃fd:FuncData,(∀(s:Shared) (v:Value),BindsTo s fd ⟨[v],[]⟩ [("_law_script",v)])/\∀base:Heap,K.In base->base.Ns mainGlobals mg->gS l.prog w K mg base CX0 11 fa fd ["_law_script"] (rV K):=by
 have e:=hfa.symm.trans (mg_of KX G a_law)
 cases e
 obtain ⟨aP,aI,aQ⟩:=gD
 obtain ⟨b9,aU,bV⟩:=eF
 obtain ⟨bG,bp,cz⟩:=dI
 obtain ⟨aV,aR,cg⟩:=fY
 obtain ⟨aL,aH,bu⟩:=eE
 obtain ⟨cS,cu,dU⟩:=fZ
 obtain ⟨cv,bS,dn⟩:=fg
 obtain ⟨eK,dE,gb⟩:=ie
 obtain ⟨bT,bF,cZ⟩:=eG
 have D_law:=i0 (mg:=mg) (st:=rZ) (ps:=["_law_script"]) KX G a_law l_law d_law k_law fun _ _ _ _ _ _ us hl=>match us,hl with|[_],_=>rfl
 have Z:Zs K mg CT AStripError ATooMany ANoRules ANoTime ANoPlace ANotFree ANoPlan ANoSheet ANoRow:=⟨mg_of KX G dN,mg_of KX G iX,mg_of KX G j0,mg_of KX G jL,mg_of KX G j3,mg_of KX G iY,mg_of KX G jM,mg_of KX G iZ,mg_of KX G lR,⟨mg_of KX G dN,dW,dX⟩,⟨tG,⟨oY,oZ,oX,p0,oV,Option.isSome_iff_exists.mp oW⟩⟩,⟨⟨_,_,_,rfl,oU,oS,oR⟩⟩,⟨mg_of KX G tK,tJ⟩,mg_none_of KX G dr,mg_none_of KX G tE,mg_none_of KX G n4,mg_none_of KX G n3,mg_none_of KX G d8,mg_none_of KX G tB,mg_none_of KX G aN,mg_none_of KX G jK,mg_none_of KX G gZ,mg_none_of KX G rJ,mg_none_of KX G tw,mg_none_of KX G cG,mg_none_of KX G gK,mg_none_of KX G rH,mg_none_of KX G iW,mg_none_of KX G tu,⟨_,mg_of KX G cR⟩,⟨gz,fN,fH,e8,gv,cm,fK,eC,eu,dw,fF,bQ,fJ,eB,ee,dv,fE,bP,eA,dA,dz,cM,e9,bC,gw,fM,fG,dZ,gu,ck⟩,x_nl⟩
 refine fin_mk D_law (fun s v=>.of_eq rfl) fun base=>law_ok (ro:=false) (mlaw:=m_law CT) (fun n=>?_) (law_true CT)
 have mW:=mh (n:=n) (P:=l.prog) (w:=w) (base:=base) Z aQ
 have gk:=jo (n:=n) (P:=l.prog) (w:=w) (base:=base) Z ⟨aQ,mW⟩ bV
 have jh:=ja (n:=n) (P:=l.prog) (w:=w) (base:=base) Z cz
 have fq:=kO (n:=n) (P:=l.prog) (w:=w) (base:=base) Z ⟨bV,gk⟩ ⟨cz,jh⟩ cg
 have dM:=jn (n:=n) (P:=l.prog) (w:=w) (base:=base) Z ⟨cg,fq⟩ ⟨bV,gk⟩ bu
 have kS:=kP (n:=n) (P:=l.prog) (w:=w) (base:=base) Z dU
 have kK:=k7 (n:=n) (P:=l.prog) (w:=w) (base:=base) Z ⟨bu,dM⟩ dn
 have oJ:=nJ (n:=n) (P:=l.prog) (w:=w) (base:=base) Z gb
 have ju:=jq (n:=n) (P:=l.prog) (w:=w) (base:=base) Z ⟨bu,dM⟩ ⟨cg,fq⟩ cZ
 have OK_law:=ok_law (n:=n) (P:=l.prog) (w:=w) (base:=base) Z ⟨bu,dM⟩ ⟨dU,kS⟩ ⟨dn,kK⟩ ⟨gb,oJ⟩ ⟨cg,fq⟩ ⟨cZ,ju⟩ D_law
 exact OK_law
theorem walk {l:PySem.W.OpenLaw} {q:Program} {loose:List Str} {XP:(Str->Option Value)->Heap->Prop} {YP:World->Heap->Prop} {d:DefRec} {K:Params->PySem.W.Frag} (hn:l.most=some 63) (hdf:d.params.defaults=[])
  (hY:∀(w:World) (h:Heap),YP w h->(K w.params).In h)
  (F:∀(w:World) (mg:Str->Option Value) (fa:Addr) (h:Heap),(K w.params).In h->h.Ns mainGlobals mg->mg d.name=some (.ref fa) ->
   ∃fd:FuncData,(∀(s:Shared) (u:Value),BindsTo s fd ⟨[u],[]⟩ [("_law_script",u)])/\∀base:Heap,(K w.params).In base->base.Ns mainGlobals mg->gS l.prog w (K w.params) mg base CX0 11 fa fd ["_law_script"] (rV (K w.params))) :
  PySem.W.WalkO q loose XP YP l.row.toRowW d [] (fun f vs=>PySem.call f vs):=
 L2.walk_of (n:=63) (k:=11) (x:="_law_script") (CX:=fun _=>CX0) (sp:=fun w=>rV (K w.params)) hn (by decide) hdf ⟨rfl,by decide,by decide⟩ hY F (fun _ _ a ns hl _ hS=>⟨a,ns,rfl,hS,hl,fun _=>rfl⟩) fun _ _ _ _ _ z=>z
end Ru
open PySem PySem.W PyProof.Rows
noncomputable def _root_.PySem.W.Fast.tw5235496955609818643:Nat:=0
noncomputable def _root_.PySem.W.Fast.tw12024991875039318564:Nat:=0
noncomputable def _root_.PySem.W.Fast.tw16229971545747443657:Nat:=0
noncomputable def _root_.PySem.W.Fast.tw9253123294425373535:Nat:=0
noncomputable def _root_.PySem.W.Fast.tw13959015492407068529:Nat:=0
noncomputable def _root_.PySem.W.Fast.tw10257669329234696138:Nat:=0
noncomputable def _root_.PySem.W.Fast.tw79104839267150962:Nat:=0
noncomputable def _root_.PySem.W.Fast.tw1521827390703266100:Nat:=0
noncomputable def _root_.PySem.W.Fast.tw3469038977986507501:Nat:=0
noncomputable def _root_.PySem.W.Fast.tw17587511648833054612:Nat:=0
noncomputable def _root_.PySem.W.Fast.tw2447050812362265660:Nat:=0
noncomputable def _root_.PySem.W.Fast.tw11530364751535486383:Nat:=0
noncomputable def _root_.PySem.W.Fast.tw5527697717936600813:Nat:=0
noncomputable def _root_.PySem.W.Fast.tw12982768426904471850:Nat:=0
noncomputable def _root_.PySem.W.Fast.tw13115590805415587254:Nat:=0
noncomputable def _root_.PySem.W.Fast.tw9224249043396626325:Nat:=0
noncomputable def _root_.PySem.W.Fast.tw11286656308491394945:Nat:=0
noncomputable def _root_.PySem.W.Fast.tw15227765268773466745:Nat:=0
noncomputable def _root_.PySem.W.Fast.tw6978797311067668972:Nat:=0
noncomputable def _root_.PySem.W.Fast.tw13869558813307630481:Nat:=0
noncomputable def _root_.PySem.W.Fast.tw1322738113643714632:Nat:=0
noncomputable def _root_.PySem.W.Fast.tw17450445067453220531:Nat:=0
noncomputable def _root_.PySem.W.Fast.tw17908311073468045646:Nat:=0
noncomputable def _root_.PySem.W.Fast.tw9361686584536968125:Nat:=0
noncomputable def _root_.PySem.W.Fast.tw160660860146975162:Nat:=0
noncomputable def _root_.PySem.W.Fast.tw1964563082656404991:Nat:=0
noncomputable def _root_.PySem.W.Fast.tw16226993506888262512:Nat:=0
noncomputable def _root_.PySem.W.Fast.tw2053726678635796112:Nat:=0
noncomputable def _root_.PySem.W.Fast.tw8436928300210146643:Nat:=0
noncomputable def _root_.PySem.W.Fast.tw6844552760681918430:Nat:=0
noncomputable def _root_.PySem.W.Fast.tw12477537197966895692:Nat:=0
noncomputable def _root_.PySem.W.Fast.tw11393192097253474240:Nat:=0
noncomputable def _root_.PySem.W.Fast.tw14141838025670709946:Nat:=0
noncomputable def _root_.PySem.W.Fast.tw6071503790818195756:Nat:=0
noncomputable def _root_.PySem.W.Fast.tw10330546004747892302:Nat:=0
noncomputable def _root_.PySem.W.Fast.tw7209084661534872331:Nat:=0
noncomputable def _root_.PySem.W.Fast.tw120148123745343261:Nat:=0
noncomputable def _root_.PySem.W.Fast.tw15990563946761481811:Nat:=0
noncomputable def _root_.PySem.W.Fast.tw4683648921468995667:Nat:=0
noncomputable def _root_.PySem.W.Fast.tw4133627147253003467:Nat:=0
set_option maxRecDepth 100000 in
set_option maxHeartbeats 0 in
theorem PySem.Challenge.cw_wakeorder_k44_orders_told_holds : PySem.Challenge.rw_wakeorder_k44_orders_told.Holds := by
 w_on;o_law;k_head;(case hw=>w_witness2)
 k_fill
 refine Ru.walk (l:=PySem.Challenge.rw_wakeorder_k44_orders_told) rfl rfl (fun w h Y=>PySem.W.kIn_of Y) ?F
 case F=>
  intro w mg fa h KX G hmg
  refine' Ru.all_mk KX G hmg ?gD ?eF ?dI ?fY ?eE ?fZ ?fg ?ie ?eG ?a_law ?l_law ?d_law ?k_law ?tK ?dN ?iX ?j0 ?jL ?j3 ?iY ?jM ?iZ ?lR ?dW ?dX ?tG ?oY ?oZ ?oX ?p0 ?oV ?oW ?oU ?oS ?oR ?tJ ?dr ?tE ?n4 ?n3 ?d8 ?tB ?aN ?jK ?gZ ?rJ ?tw ?cG ?gK ?rH ?iW ?tu ?cR ?gz ?fN ?fH ?e8 ?gv ?cm ?fK ?eC ?eu ?dw ?fF ?bQ ?fJ ?eB ?ee ?dv ?fE ?bP ?eA ?dA ?dz ?cM ?e9 ?bC ?gw ?fM ?fG ?dZ ?gu ?ck ?x_nl
  (case gD=>exact ⟨_,_,L2.i0 KX G (by k_is) (by k_is) (by k_is) (by k_is) fun _ _ _ _ _ _ us hl=>match us,hl with|[_,_],_=>rfl⟩)
  (case eF=>exact ⟨_,_,L2.i0 KX G (by k_is) (by k_is) (by k_is) (by k_is) fun _ _ _ _ _ _ us hl=>match us,hl with|[_,_,_],_=>rfl⟩)
  (case dI=>exact ⟨_,_,L2.i0 KX G (by k_is) (by k_is) (by k_is) (by k_is) fun _ _ _ _ _ _ us hl=>match us,hl with|[_],_=>rfl⟩)
  (case fY=>exact ⟨_,_,L2.i0 KX G (by k_is) (by k_is) (by k_is) (by k_is) fun _ _ _ _ _ _ us hl=>match us,hl with|[_,_],_=>rfl⟩)
  (case eE=>exact ⟨_,_,L2.i0 KX G (by k_is) (by k_is) (by k_is) (by k_is) fun _ _ _ _ _ _ us hl=>match us,hl with|[_,_],_=>rfl⟩)
  (case fZ=>exact ⟨_,_,L2.i0 KX G (by k_is) (by k_is) (by k_is) (by k_is) fun _ _ _ _ _ _ us hl=>match us,hl with|[_,_],_=>rfl⟩)
  (case fg=>exact ⟨_,_,L2.i0 KX G (by k_is) (by k_is) (by k_is) (by k_is) fun _ _ _ _ _ _ us hl=>match us,hl with|[_,_],_=>rfl⟩)
  (case ie=>exact ⟨_,_,L2.i0 KX G (by k_is) (by k_is) (by k_is) (by k_is) fun _ _ _ _ _ _ us hl=>match us,hl with|[_,_],_=>rfl⟩)
  (case eG=>exact ⟨_,_,L2.i0 KX G (by k_is) (by k_is) (by k_is) (by k_is) fun _ _ _ _ _ _ us hl=>match us,hl with|[_,_],_=>rfl⟩)
  (case a_law=>k_is)
  (case l_law=>k_is)
  (case d_law=>k_is)
  (case k_law=>k_is)
  (case tK=>first|k_is|kernel_rfl|rfl|decide +kernel)
  (case dN=>first|k_is|kernel_rfl|rfl|decide +kernel)
  (case iX=>first|k_is|kernel_rfl|rfl|decide +kernel)
  (case j0=>first|k_is|kernel_rfl|rfl|decide +kernel)
  (case jL=>first|k_is|kernel_rfl|rfl|decide +kernel)
  (case j3=>first|k_is|kernel_rfl|rfl|decide +kernel)
  (case iY=>first|k_is|kernel_rfl|rfl|decide +kernel)
  (case jM=>first|k_is|kernel_rfl|rfl|decide +kernel)
  (case iZ=>first|k_is|kernel_rfl|rfl|decide +kernel)
  (case lR=>first|k_is|kernel_rfl|rfl|decide +kernel)
  (case dW=>first|k_is|kernel_rfl|rfl|decide +kernel)
  (case dX=>first|k_is|kernel_rfl|rfl|decide +kernel)
  (case tG=>first|k_is|kernel_rfl|rfl|decide +kernel)
  (case oY=>first|k_is|kernel_rfl|rfl|decide +kernel)
  (case oZ=>first|k_is|kernel_rfl|rfl|decide +kernel)
  (case oX=>first|k_is|kernel_rfl|rfl|decide +kernel)
  (case p0=>first|k_is|kernel_rfl|rfl|decide +kernel)
  (case oV=>first|k_is|kernel_rfl|rfl|decide +kernel)
  (case oW=>first|k_is|kernel_rfl|rfl|decide +kernel)
  (case oU=>first|k_is|kernel_rfl|rfl|decide +kernel)
  (case oS=>first|k_is|kernel_rfl|rfl|decide +kernel)
  (case oR=>first|k_is|kernel_rfl|rfl|decide +kernel)
  (case tJ=>first|k_is|kernel_rfl|rfl|decide +kernel)
  (case dr=>k_is)
  (case tE=>k_is)
  (case n4=>k_is)
  (case n3=>k_is)
  (case d8=>k_is)
  (case tB=>k_is)
  (case aN=>k_is)
  (case jK=>k_is)
  (case gZ=>k_is)
  (case rJ=>k_is)
  (case tw=>k_is)
  (case cG=>k_is)
  (case gK=>k_is)
  (case rH=>k_is)
  (case iW=>k_is)
  (case tu=>k_is)
  (case cR=>k_is)
  (case gz=>first|k_is|kernel_rfl|rfl|decide +kernel)
  (case fN=>first|k_is|kernel_rfl|rfl|decide +kernel)
  (case fH=>first|k_is|kernel_rfl|rfl|decide +kernel)
  (case e8=>first|k_is|kernel_rfl|rfl|decide +kernel)
  (case gv=>first|k_is|kernel_rfl|rfl|decide +kernel)
  (case cm=>first|k_is|kernel_rfl|rfl|decide +kernel)
  (case fK=>first|k_is|kernel_rfl|rfl|decide +kernel)
  (case eC=>first|k_is|kernel_rfl|rfl|decide +kernel)
  (case eu=>first|k_is|kernel_rfl|rfl|decide +kernel)
  (case dw=>first|k_is|kernel_rfl|rfl|decide +kernel)
  (case fF=>first|k_is|kernel_rfl|rfl|decide +kernel)
  (case bQ=>first|k_is|kernel_rfl|rfl|decide +kernel)
  (case fJ=>first|k_is|kernel_rfl|rfl|decide +kernel)
  (case eB=>first|k_is|kernel_rfl|rfl|decide +kernel)
  (case ee=>first|k_is|kernel_rfl|rfl|decide +kernel)
  (case dv=>first|k_is|kernel_rfl|rfl|decide +kernel)
  (case fE=>first|k_is|kernel_rfl|rfl|decide +kernel)
  (case bP=>first|k_is|kernel_rfl|rfl|decide +kernel)
  (case eA=>first|k_is|kernel_rfl|rfl|decide +kernel)
  (case dA=>first|k_is|kernel_rfl|rfl|decide +kernel)
  (case dz=>first|k_is|kernel_rfl|rfl|decide +kernel)
  (case cM=>first|k_is|kernel_rfl|rfl|decide +kernel)
  (case e9=>first|k_is|kernel_rfl|rfl|decide +kernel)
  (case bC=>first|k_is|kernel_rfl|rfl|decide +kernel)
  (case gw=>first|k_is|kernel_rfl|rfl|decide +kernel)
  (case fM=>first|k_is|kernel_rfl|rfl|decide +kernel)
  (case fG=>first|k_is|kernel_rfl|rfl|decide +kernel)
  (case dZ=>first|k_is|kernel_rfl|rfl|decide +kernel)
  (case gu=>first|k_is|kernel_rfl|rfl|decide +kernel)
  (case ck=>first|k_is|kernel_rfl|rfl|decide +kernel)
  (case x_nl=>first|k_is|kernel_rfl|rfl|decide +kernel)
